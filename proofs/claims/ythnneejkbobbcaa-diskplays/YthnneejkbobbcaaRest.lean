/-
  What is proved here: what Rename, Read and New answer, and what they leave. Condition: the disk lies in memory and its counts are small; a file has fewer than 2^40 bytes.
-/
import Derived.Test.YthnneejkbobbcaaWrite
namespace Go.Proofs.Ythnneejkbobbcaa
open Go.RowKit Go.Maps Go.WideMaps
set_option maxRecDepth 100000

/-- Rename. -/
def St.rename (S : St) (a b : List UInt8) : Int × St :=
  if S.asked.down then (13, S.asked) else if right b = false then (1, S.asked) else if (get S.F a).isSome = false then (12, S.asked) else (0, S.asked.did (Ch.mv a b))

set_option maxHeartbeats 2000000 in
theorem rename_any (p : Nat) (M : Nat → Prop) (S : St) (s s' : ByteArray) (w : World) (h : Disk w p M S) (hS : S.fine) (hs : s.size ≤ maxLen) (hs' : s'.size ≤ maxLen) :
    Calls Try.prog 23 #[.pointer (some ⟨p, 0, none⟩), .string s, .string s'] w fun e w' => e = .returned (.int .i64 (S.rename s.data.toList s'.data.toList).1) ∧ Stepped M w p (S.rename s.data.toList s'.data.toList).2 w' := by
  obtain ⟨bf, bs, ca, h, rfl⟩ := h
  have hmf := makeFunc_run
  have hmp : ∀ k, k = p → Mut p bf ca k := fun k e => Or.inl e
  obtain ⟨w0, hw0⟩ : ∃ w0, w0 = (w.alloc (.cells #[.string s] 9)).alloc (.cells #[.string s'] 9) := ⟨_, rfl⟩
  have f0 : Fr None' w w0 := hw0 ▸ (Fr.alloc None' _ _).trans (Fr.alloc None' _ _) (fun _ e => Or.inl e)
  have h0 : DiskAt w0 p bf bs ca S := h.fresh f0
  have fM : Fr (Mut p bf ca) w w0 := f0.mono (fun _ e => e.elim)
  have n0 : w0.heap[w.heap.size]? = some (.cells #[.string s] 9) := hw0 ▸ (Fr.alloc None' _ _).at (MapKept.heap_alloc w _).1 (fun e => e)
  have m0 : w0.heap[w.heap.size + 1]? = some (.cells #[.string s'] 9) := by
    have := (MapKept.heap_alloc (w.alloc (.cells #[.string s] 9)) (.cells #[.string s'] 9)).1
    rw [hw0]; simpa using this
  have hA := h0.asked
  unfold St.rename
  cases hd : S.asked.down
  · rw [hd] at hA
    simp only [Bool.false_eq_true, if_false]
    have hN := fun w1 => isName_any s' w1 hs'
    cases hr : right s'.data.toList
    · simp only [if_true]
      simp only [hr] at hN
      clear hd hr
      subst hw0
      go_enter Try.func23, Try.ntmps23
      go_wp2_with (first
        | (go_at_call 43; refine hA.mono ?_; rintro e w1 ⟨rfl, h1, f1⟩; have m1 := (f1.mono hmp).cellsAt h0.still m0 (by decide) (by decide); have cm := named_cell' m1)
        | (go_at_call 25; refine (hN _).mono ?_; rintro e w2 ⟨rfl, hw⟩; have hw := hw.symm; subst hw))
      go_ret
      exact ⟨rfl, _, h1.disk, fM.trans (f1.mono hmp) (fun _ e => Or.inl e), fun k hk => Or.inl hk⟩
    · simp only [Bool.true_eq_false, if_false]
      simp only [hr] at hN
      have hH := fun w1 (h1 : DiskAt w1 p bf bs ca S.asked) => has_any p bf bs ca S.asked w1 h1 s hs
      have eF : S.asked.F = S.F := rfl
      rw [eF] at hH
      cases hg : (get S.F s.data.toList).isSome
      · simp only [if_true]
        simp only [hg] at hH
        clear hd hr hg
        subst hw0
        go_enter Try.func23, Try.ntmps23
        go_wp2_with (first
          | (go_at_call 43; refine hA.mono ?_; rintro e w1 ⟨rfl, h1, f1⟩; have m1 := (f1.mono hmp).cellsAt h0.still m0 (by decide) (by decide); have cm := named_cell' m1; have n1 := (f1.mono hmp).cellsAt h0.still n0 (by decide) (by decide); have cn := named_cell' n1)
          | (go_at_call 25; refine (hN _).mono ?_; rintro e w2 ⟨rfl, hw⟩; have hw := hw.symm; subst hw)
          | (go_at_call 26; refine (hH _ h1).mono ?_; rintro e w2 ⟨rfl, hw⟩; have hw := hw.symm; subst hw))
        go_ret
        exact ⟨rfl, _, h1.disk, fM.trans (f1.mono hmp) (fun _ e => Or.inl e), fun k hk => Or.inl hk⟩
      · simp only [Bool.true_eq_false, if_false]
        simp only [hg] at hH
        clear hd hr hg
        subst hw0
        go_enter Try.func23, Try.ntmps23
        go_wp2_with (first
          | (go_at_call 43; refine hA.mono ?_; rintro e w1 ⟨rfl, h1, f1⟩; have m1 := (f1.mono hmp).cellsAt h0.still m0 (by decide) (by decide); have cm := named_cell' m1; have n1 := (f1.mono hmp).cellsAt h0.still n0 (by decide) (by decide); have cn := named_cell' n1)
          | (go_at_call 25; refine (hN _).mono ?_; rintro e w2 ⟨rfl, hw⟩; have hw := hw.symm; subst hw)
          | (go_at_call 26; refine (hH _ h1).mono ?_; rintro e w2 ⟨rfl, hw⟩; have hw := hw.symm; subst hw)
          | (go_at_call 45; refine (do_any p bf bs ca _ S.asked (Ch.mv s.data.toList s'.data.toList) _ h1 ⟨_, _, rfl, ⟨s, n1, rfl, hs⟩, ⟨s', m1, rfl, hs'⟩⟩ (fine_asked hS)).mono ?_; rintro e w4 ⟨rfl, ca', h5, f5, g5⟩))
        go_ret
        have hall := fM.trans (f1.mono hmp) (fun _ e => Or.inl e)
        exact ⟨rfl, _, h5.disk, hall.trans f5 (fun _ e => Or.inl e), fun k hk => (g5 k hk).imp id (fun e => Nat.le_trans hall.size e)⟩
  · rw [hd] at hA
    simp only [if_true]
    clear hd
    subst hw0
    go_enter Try.func23, Try.ntmps23
    go_wp2_with (first
      | (go_at_call 43; refine hA.mono ?_; rintro e w1 ⟨rfl, h1, f1⟩))
    go_ret
    exact ⟨rfl, _, h1.disk, fM.trans (f1.mono hmp) (fun _ e => Or.inl e), fun k hk => Or.inl hk⟩

/-- Read. -/
def St.read (S : St) (k : List UInt8) : List UInt8 × Int :=
  if S.down then ([], 13) else match get S.F k with
    | none => ([], 12)
    | some t => (t.b, 0)

set_option maxHeartbeats 2000000 in
theorem read_any (p : Nat) (M : Nat → Prop) (S : St) (s : ByteArray) (w : World) (h : Disk w p M S) (hs : s.size ≤ maxLen) (hu : used S.F < 1099511627776) :
    Calls Try.prog 11 #[.pointer (some ⟨p, 0, none⟩), .string s] w fun e w' => ∃ v, e = .returned (.tuple #[v, .int .i64 (S.read s.data.toList).2]) ∧ Data w' v (S.read s.data.toList).1 ∧ Fr None' w w' := by
  obtain ⟨bf, bs, ca, h, rfl⟩ := h
  obtain ⟨c0, c1, c2, c3, c4, c5, c6, z⟩ := h.cells
  unfold St.read
  cases hd : S.down <;> rw [hd] at c6
  · simp only [Bool.false_eq_true, if_false]
    obtain ⟨v, ps, hrun, hv⟩ := h.files.look_ok lawS Try.underlying56 (zeroBS _) (zd := .held (.slice none 0 0)) (zp := []) rfl (keyOf_string_mk Try.underlying9 hs)
    rw [has_toD] at hrun
    rw [atKey_toD] at hv
    have e := heldR_eq hv
    cases hg : get S.F s.data.toList with
    | none =>
      rw [hg] at hrun
      clear hv e hg hd z
      go_enter Try.func11, Try.ntmps11
      go_wp2
      go_ret2
      exact ⟨_, rfl, Data.nil _, Fr.refl _ _⟩
    | some t =>
      rw [hg] at hrun e
      simp at e
      subst e
      have hd := h.dataF t (get_mem hg).1
      have hlb : t.b.length ≤ used S.F := by
        have := lenAt_le (apart_of_tidy (h.files.tidy lawS)) s.data.toList
        simpa [lenAt, hg] using this
      clear hv hg z
      go_enter Try.func11, Try.ntmps11
      go_wp2_with (first
        | (go_at_call 27; refine (bclone_any _ _ _ hd.bytes (by omega)).mono ?_; rintro e w3 ⟨v', rfl, d3, f3⟩))
      go_ret2
      exact ⟨_, rfl, d3, f3⟩
  · simp only [if_true]
    clear hd z
    go_enter Try.func11, Try.ntmps11
    go_wp2
    go_ret2
    exact ⟨_, rfl, Data.nil _, Fr.refl _ _⟩

/-- New. -/
def St.new (room : Int) : St := { room := max room 0, n := 0, F := [], Y := [], ch := [], acts := 0, fuse := -1, down := false }

theorem new_disk (room r : Int) (w : World) (hr : max room 0 = r) :
    let w' := ((w.alloc (.map #[] 0)).alloc (.map #[] 0)).alloc (.cells #[.int .i64 r, .map (some w.heap.size), .map (some (w.heap.size + 1)), .slice none 0 0, .int .i64 0, .int .i64 (-1), .bool false] 59)
    Disk w' (w.heap.size + 1 + 1) (Mut (w.heap.size + 1 + 1) w.heap.size (.slice none 0 0)) (St.new room) ∧ Fr None' w w' ∧ ∀ k, Mut (w.heap.size + 1 + 1) w.heap.size (.slice none 0 0) k → w.heap.size ≤ k := by
  intro w'
  have m1 := World.ownsMap_made w Try.prog 9 heldR
  have m2 := World.ownsMap_made (w.alloc (.map #[] 0)) Try.prog 9 heldR
  have e : (w.alloc (.map #[] 0)).heap.size = w.heap.size + 1 := by simp
  rw [e] at m2
  refine ⟨⟨w.heap.size, w.heap.size + 1, _, ⟨?_, (m1.alloc _).alloc _, m2.alloc _, by omega, ⟨[], World.ownsRow_nil _ _ _ _, trivial⟩, fun t ht => by simp [St.new] at ht, fun t ht => by simp [St.new] at ht⟩, rfl⟩, ?_, ?_⟩
  · have := (MapKept.heap_alloc ((w.alloc (.map #[] 0)).alloc (.map #[] 0)) (.cells #[.int .i64 r, .map (some w.heap.size), .map (some (w.heap.size + 1)), .slice none 0 0, .int .i64 0, .int .i64 (-1), .bool false] 59)).1
    rw [show ((w.alloc (.map #[] 0)).alloc (.map #[] 0)).heap.size = w.heap.size + 1 + 1 by simp] at this
    rw [this, ← hr]
    rfl
  · exact ((Fr.alloc None' _ _).trans (Fr.alloc None' _ _) (fun _ e => Or.inl e)).trans (Fr.alloc None' _ _) (fun _ e => Or.inl e)
  · rintro k (h | h | h)
    · omega
    · omega
    · cases h

set_option maxHeartbeats 2000000 in
theorem new_any (room : Int) (w : World) :
    Calls Try.prog 20 #[.int .i64 room] w fun e w' => ∃ p M, e = .returned (.pointer (some ⟨p, 0, none⟩)) ∧ Disk w' p M (St.new room) ∧ Fr None' w w' ∧ ∀ k, M k → w.heap.size ≤ k := by
  have hmm := @run_makeMap Try.prog
  go_enter Try.func20, Try.ntmps20
  go_wp2
  all_goals go_ret
  · exact ⟨_, rfl, _, new_disk room 0 w (by omega)⟩
  · exact ⟨_, rfl, _, new_disk room room w (by omega)⟩

end Go.Proofs.Ythnneejkbobbcaa
