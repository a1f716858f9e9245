/-
  What is proved here: what Files answers: all files, by rising names. Condition: the disk lies in memory, and its counts are small.
-/
import Derived.Test.YthnneejkbobbcaaKeys
namespace Go.Proofs.Ythnneejkbobbcaa
open Go.RowKit Go.Maps Go.WideMaps Go.Sort
set_option maxRecDepth 100000

/-- The slice v holds these files, in this order. -/
def FilesRes (w : World) (v : Value) (L : List Tri) : Prop := w.ownsRow 0 53 2 v L.length (L.flatMap fun t => [encStr t.k, t.v]) ∧ AllData w L

/-- Names and bytes alone. -/
def kb (L : List Tri) : List (List UInt8 × List UInt8) := L.map fun t => (t.k, t.b)

def bAt (T : List Tri) (k : List UInt8) : List UInt8 := match get T k with | some t => t.b | none => []

/-- All files, by rising names. -/
def sortedNames (T : List Tri) : List (List UInt8) := (T.map fun t => t.k).mergeSort (fun x y => decide (x ≤ y))
def sortedFiles (T : List Tri) : List (List UInt8 × List UInt8) := (sortedNames T).map fun k => (k, bAt T k)

theorem Try.infoF : (Try.prog.info? 53).map (fun i => (i.zero, i.size, i.bytes)) = some (some (.agg #[.string ByteArray.empty, .slice none 0 0]), 2, 40) := by kernel_rfl

theorem strKeys_toD (T : List Tri) : strKeys (toD T) = T.map fun t => t.k := by
  unfold toD strKeys
  simp only [List.map_map]
  rfl

theorem look_t {w : World} {p bf bs : Nat} {ca : Value} {S : St} {t : Tri} (h : DiskAt w p bf bs ca S) (k : List UInt8) (hk : k.length ≤ maxLen) (hg : get S.F k = some t) :
    (Instr.lookup 56 (.map (some bf)) (encStr k) false).run Try.prog w = .ok t.v w := by
  obtain ⟨v, ps, hrun, hv⟩ := h.files.lookup lawS Try.underlying56 (zeroBS _) (zd := .held (.slice none 0 0)) (zp := []) rfl (keyOf_string_mk Try.underlying9 (s := ⟨k.toArray⟩) hk)
  rw [atKey_toD] at hv
  have e := heldR_eq hv
  rw [show get S.F (⟨k.toArray⟩ : ByteArray).data.toList = some t from by simpa using hg] at e
  simp at e
  rw [e]; exact hrun

theorem two_new (w : World) (x y : Value) (t : TypeId) : ∀ j u, [x, y][j]? = some u → (w.alloc (.cells #[x, y] t)).cell? ((⟨w.heap.size, 0, none⟩ : Addr).add j) = some u := by
  intro j u hj
  have hh := (MapKept.heap_alloc w (.cells #[x, y] t)).1
  have e : (⟨w.heap.size, 0, none⟩ : Addr).add j = ⟨w.heap.size, j, none⟩ := by unfold Addr.add; split <;> simp_all
  rw [e]
  unfold World.cell?
  simp only [hh]
  simpa using hj

theorem FilesRes.kept {M : Nat → Prop} {w w' : World} {v : Value} {L : List Tri} (h : FilesRes w v L) (hf : Fr M w w') (hs : Still M w) : FilesRes w' v L := by
  refine ⟨?_, hf.allData hs h.2⟩
  obtain ⟨h1, h2⟩ := h.1
  refine ⟨h1, ?_⟩
  rcases h2 with h2 | ⟨g, cap, cur, hv, hg, hh, r⟩
  · exact Or.inl h2
  · exact Or.inr ⟨g, cap, cur, hv, hg, hf.cellsAt hs hh (by decide) (by decide), r⟩

theorem stillN (w : World) : Still None' w := fun _ _ _ _ _ hm => hm.elim

theorem lenb {w : World} {T : List Tri} (h : AllData w T) : ∀ t ∈ T, ∃ a c, t.v = .slice a t.b.length c := fun t ht => row_slice (h t ht)

/-- A row of another kind stays while the row v grows. -/
theorem row_kept {w w' : World} {b1 b2 s1 s2 n1 n2 : Nat} {e1 e2 : TypeId} {x v : Value} {xs vs : List Value} (hx : w.ownsRow b1 e1 s1 x n1 xs) (hv : w.ownsRow b2 e2 s2 v n2 vs) (he : e1 ≠ e2) (hg : w.grownBy w' v.ownBlock) : w'.ownsRow b1 e1 s1 x n1 xs := by
  obtain ⟨h1, h2⟩ := hx
  refine ⟨h1, ?_⟩
  rcases h2 with h2 | ⟨g, cap, cur, hxv, hb, hh, r⟩
  · exact Or.inl h2
  · refine Or.inr ⟨g, cap, cur, hxv, hb, ?_, r⟩
    rw [hg.block g (lt_of_some hh) (fun e => ?_)]
    · exact hh
    · rcases hv.2 with ⟨hvv, _⟩ | ⟨g', cap', cur', hvv, _, hh', _⟩
      · rw [hvv] at e; cases e
      · rw [hvv] at e; cases e
        rw [hh] at hh'; cases hh'; exact he rfl

theorem FilesRes.snoc {w' : World} {v' : Value} {L : List Tri} {t : Tri} (hd : AllData w' L) (hx : Data w' t.v t.b) (hr : w'.ownsRow 0 53 2 v' (L.length + 1) ((L.flatMap fun t => [encStr t.k, t.v]) ++ [encStr t.k, t.v])) : FilesRes w' v' (L ++ [t]) := by
  refine ⟨by simpa using hr, fun u hu => ?_⟩
  rcases List.mem_append.1 hu with h | h
  · exact hd u h
  · simp at h; subst h; exact hx

set_option maxHeartbeats 4000000 in
theorem files_any (p : Nat) (M : Nat → Prop) (S : St) (w : World) (h : Disk w p M S) (hS : S.fine) (hu : used S.F < 1099511627776) :
    Calls Try.prog 19 #[.pointer (some ⟨p, 0, none⟩)] w fun e w' => ∃ v L, e = .returned v ∧ FilesRes w' v L ∧ kb L = sortedFiles S.F ∧ Fr None' w w' := by
  obtain ⟨bf, bs, ca, h, rfl⟩ := h
  obtain ⟨c0, c1, _⟩ := h.cells
  obtain ⟨i0, hi, hz0, hz1, hz2⟩ := info_parts Try.infoF
  have hsize := h.files.size_le
  rw [size_toD] at hsize
  have hn1 := hS.n1
  have hlen := fun ty => h.files.len Try.underlying56 ty
  rw [size_toD] at hlen
  obtain ⟨w1, hmk, f1, hr1⟩ : ∃ w1, (Instr.makeSlice 22 (.int .i64 0) (.int .i64 S.F.length)).run Try.prog w = .ok (.slice (some ⟨w.heap.size, 0, none⟩) 0 S.F.length) w1 ∧ Fr None' w w1 ∧ w1.ownsRow 0 53 2 (.slice (some ⟨w.heap.size, 0, none⟩) 0 S.F.length) 0 [] := by
    have hmk := run_make (P := Try.prog) w 22 53 i0 _ Try.underlying22 hi hz0 .i64 .i64 0 (S.F.length : Int) (Int.le_refl _) (by omega) (by rw [hz2]; omega) (by omega)
    refine ⟨_, hmk, Fr.alloc _ _ _, rfl, Or.inr ⟨w.heap.size, S.F.length, _, rfl, Nat.zero_le _, (MapKept.heap_alloc w _).1, Nat.zero_le _, by unfold maxLen; omega, ?_, rfl⟩⟩
    simp [size_madeCells, hz1]
  have h1 := h.fresh f1
  obtain ⟨_, d1, _⟩ := h1.cells
  have cS := sortedKeys_any bf S.n _ _ w1 h1.files (by rw [size_toD]; unfold maxLen; omega) (by rw [size_toD]; omega)
  rw [strKeys_toD] at cS
  go_enter Try.func19, Try.ntmps19
  go_wp2_with fail
  refine (keysOf_any _ _).mono ?_
  rintro e w2 ⟨rfl, hw2⟩
  subst hw2
  go_wp2_with fail
  refine cS.mono ?_
  rintro e w3 ⟨vk, ss, rfl, hperm, hrow, hbel⟩
  have hks : ss.mergeSort (fun x y => decide (x ≤ y)) = sortedNames S.F := mergeSort_of_perm hperm
  rw [hks] at hrow
  have hkl : (sortedNames S.F).length = ss.length := by rw [← hks]; simp
  have hkm : ∀ k ∈ sortedNames S.F, ∃ t, get S.F k = some t := fun k hk => by
    have h2 : k ∈ S.F.map fun t => t.k := (List.mergeSort_perm _ _).mem_iff.1 hk
    obtain ⟨t, ht, rfl⟩ := List.mem_map.1 h2
    exact ⟨t, get_of_mem (apart_of_tidy (h.files.tidy lawS)) ht⟩
  have hkn : ∀ k ∈ sortedNames S.F, k.length ≤ maxLen := fun k hk => strKeys_le h.files Try.underlying9 k (by rw [strKeys_toD]; exact (List.mergeSort_perm _ _).mem_iff.1 hk)
  have f3 : Fr None' w w3 := (f1.then (Fr.alloc _ _ _)).then (Fr.of_below hbel (fun k h1 h2 => by omega))
  have hr3 : w3.ownsRow w.heap.size 53 2 (.slice (some ⟨w.heap.size, 0, none⟩) 0 S.F.length) 0 [] := by
    have ha : Fr None' w1 w3 := (Fr.alloc None' _ _).then (Fr.of_below hbel (fun k h1 h2 => by omega))
    have := ha.row hr1 (fun _ _ e => e)
    exact ⟨rfl, by
      rcases this.2 with ⟨hv, _⟩ | ⟨g, cap, cur, hv, _, r⟩
      · cases hv
      · cases hv; exact Or.inr ⟨_, _, cur, rfl, Nat.le_refl _, r⟩⟩
  have hbb := lenb h.dataF
  have hn3 : S.F.length ≤ 1000000 := by omega
  have hssl : ss.length = S.F.length := by
    have := hperm.length_eq
    simpa using this
  obtain ⟨ka, kc, rfl⟩ := row_slice hrow
  generalize hK : sortedNames S.F = ks at *
  clear hks hperm cS hmk hlen hr1 d1 c0 c1 h1
  go_wp2_with fail
  go_loopw [3, 19] (fun v i wr => ∃ (j : Nat) (L : List Tri), j ≤ ss.length ∧ i = .int .i64 j ∧ wr.ownsRow w.heap.size 53 2 v L.length (L.flatMap fun t => [encStr t.k, t.v]) ∧ AllData wr L ∧ kb L = (ks.take j).map (fun k => (k, bAt S.F k)) ∧ L.length = j ∧ wr.ownsRow 0 9 1 (.slice ka ss.length kc) ss.length (ks.map encStr) ∧ Fr None' w wr) (fun _ i _ => ss.length - (intOf i).toNat)
  case atStart => exact ⟨0, [], Nat.zero_le _, rfl, hr3, fun t ht => by simp at ht, rfl, rfl, hrow, f3⟩
  case round =>
    obtain ⟨j, L, hj, rfl, hv, hdat, hkb, hLj, hkrow, hfr⟩ := hrel
    obtain ⟨va, vc, rfl⟩ := row_slice hv
    clear hr3 hrow f3 hbel f1
    by_cases hlt : j < ss.length
    · obtain ⟨k, hk⟩ : ∃ k, ks[j]? = some k := ⟨ks[j]'(by omega), by simp⟩
      obtain ⟨t, ht⟩ := hkm k (List.mem_of_getElem? hk)
      have hkl' := hkn k (List.mem_of_getElem? hk)
      have hd := h.fresh hfr
      obtain ⟨_, d1, _⟩ := hd.cells
      have hlook := look_t hd k hkl' ht
      have hdt := hd.dataF t (get_mem ht).1
      have htu : t.b.length ≤ used S.F := by
        have := lenAt_le (apart_of_tidy (h.files.tidy lawS)) k
        simpa [lenAt, ht] using this
      obtain ⟨ta, tc, htv⟩ := row_slice hdt
      have hcl := bclone_any t.v t.b wr hdt.bytes (by omega)
      rw [htv] at hlook hcl
      have hcell : ∃ g, ka = some ⟨g, 0, none⟩ ∧ wr.cell? ⟨g, j, none⟩ = some (encStr k) := by
        have hx : (ks.map encStr)[j]? = some (encStr k) := by simp [hk]
        rcases hkrow.2 with ⟨hv', h0⟩ | ⟨g, cap', cur, hv', _⟩
        · omega
        · cases hv'; exact ⟨g, rfl, row_cell hkrow hx⟩
      obtain ⟨g, rfl, hcell⟩ := hcell
      have hstep : kb (L ++ [⟨k, t.v, t.b⟩]) = (ks.take (j + 1)).map (fun k => (k, bAt S.F k)) := by
        have e1 : ks.take (j + 1) = ks.take j ++ [k] := by
          rw [List.take_add_one, hk]; rfl
        rw [e1, List.map_append, ← hkb]
        simp [kb, bAt, ht]
      have i0' : (0 : Int) ≤ (j : Int) := by omega
      have i1' : (j : Int) < (ss.length : Int) := by omega
      have H : Hid (kb (L ++ [⟨k, t.v, t.b⟩]) = (ks.take (j + 1)).map (fun k => (k, bAt S.F k)) ∧ L.length = j) := ⟨hstep, hLj⟩
      have hLl : L.length ≤ 1000000 := by omega
      clear hkm hkn hk hstep hkb hLj ht htv
      go_wp2_with (first
        | (go_at_call 27; refine hcl.mono ?_; rintro e w4 ⟨v4, rfl, D4, F4⟩; obtain ⟨a4, c4, rfl⟩ := row_slice D4; have hv4 := F4.row hv (fun _ _ e => e); have hk4 := F4.row hkrow (fun _ _ e => e); have hd4 := F4.allData (stillN _) hdat)
        | (at_builtin; refine wpList_append_own_at _ rfl _ _ 22 rfl w.heap.size 53 i0 _ 2 40 Try.underlying22 hi hz0 hz1 hz2 rfl (by decide) _ _ _ rfl (hv4.alloc _) ⟨w4.heap.size, 0, none⟩ 1 1 [encStr k, .slice a4 t.b.length c4] rfl rfl (two_new _ _ _ _) (fun u hu => by simp at hu; rcases hu with rfl | rfl <;> rfl) (by unfold maxLen; omega) (by omega) (by have := hfr.size; have := F4.size; simp; omega) ?_; intro v5 w5 hown5 hg5 hnil hloc)
        | go_in)
      have hlo : ∀ i, (Value.slice va L.length vc).ownBlock = some i → w.heap.size ≤ i := fun i e => by
        rcases hv.2 with ⟨hvv, _⟩ | ⟨g', cap', cur', hvv, hb', _⟩
        · rw [hvv] at e; cases e
        · rw [hvv] at e; cases e; exact hb'
      have hfr5 : Fr None' w w5 := ((hfr.then F4).then (Fr.alloc _ _ _)).trans (Fr.grown (M := fun i => (Value.slice va L.length vc).ownBlock = some i) hg5 (fun k e => e)) (fun i e => Or.inr (hlo i e))
      go_roundw
      case rel =>
        refine ⟨j + 1, L ++ [⟨k, .slice a4 t.b.length c4, t.b⟩], by omega, by go_num, by simpa using hown5, fun u hu => ?_, ?_, by simp [H.out.2], row_kept (hk4.alloc _) (hv4.alloc _) (by decide) hg5, hfr5⟩
        · rcases List.mem_append.1 hu with h' | h'
          · exact row_kept (World.ownsRow.alloc (hd4 u h') _) (hv4.alloc _) (by decide) hg5
          · simp at h'; subst h'
            exact row_kept (World.ownsRow.alloc D4 _) (hv4.alloc _) (by decide) hg5
        · have := H.out.1
          simpa [kb] using this
      case measure => simp [intOf]; omega
    · have hjl : j = ss.length := by omega
      subst hjl
      go_wp2
      go_ret
      refine ⟨_, L, rfl, ⟨ownsRow_base_a hv (Nat.zero_le _), hdat⟩, ?_, hfr⟩
      rw [hkb, List.take_of_length_le (by omega)]
      unfold sortedFiles
      rw [hK]

end Go.Proofs.Ythnneejkbobbcaa
