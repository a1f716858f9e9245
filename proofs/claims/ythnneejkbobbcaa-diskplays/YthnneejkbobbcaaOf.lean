/-
  What is proved here: what Of answers, and what it leaves. Condition: the files lie in memory.
-/
import Derived.Test.YthnneejkbobbcaaFilesIn
namespace Go.Proofs.Ythnneejkbobbcaa
open Go.RowKit Go.Maps Go.WideMaps
set_option maxRecDepth 100000

abbrev FileD.k (f : FileD) : List UInt8 := f.name.data.toList

/-- The first n files may be on a disk. -/
def Good (L : List FileD) (n : Nat) : Prop := ∀ i f, i < n → L[i]? = some f → right f.k = true ∧ f.b.length ≤ 65536 ∧ ∀ j g, j < i → L[j]? = some g → g.k ≠ f.k

/-- T is the first n files. -/
structure Built (L : List FileD) (n : Nat) (T : List Tri) : Prop where
  has : ∀ i f, i < n → L[i]? = some f → ∃ t, get T f.k = some t ∧ t.b = f.b
  only : ∀ t ∈ T, ∃ i f, i < n ∧ L[i]? = some f ∧ t.k = f.k ∧ t.b = f.b

theorem Built.start (L : List FileD) : Built L 0 [] := ⟨fun i f hi => by omega, fun t ht => by simp at ht⟩

theorem Built.step {L : List FileD} {n : Nat} {T : List Tri} {f : FileD} (h : Built L n T) (hf : L[n]? = some f) (hnew : get T f.k = none) (v : Value) : Built L (n + 1) (put T ⟨f.k, v, f.b⟩) := by
  refine ⟨fun i g hi hg => ?_, fun t ht => ?_⟩
  · by_cases e : i = n
    · subst e
      rw [hf] at hg; cases hg
      exact ⟨_, get_put_same T ⟨f.k, v, f.b⟩, rfl⟩
    · obtain ⟨t, h1, h2⟩ := h.has i g (by omega) hg
      refine ⟨t, ?_, h2⟩
      rw [get_put_other (x := ⟨f.k, v, f.b⟩) (fun e' => by rw [e'] at h1; exact absurd (h1.symm.trans hnew) (by simp))]
      exact h1
  · rcases mem_put.1 ht with rfl | ⟨h1, _⟩
    · exact ⟨n, f, by omega, hf, rfl, rfl⟩
    · obtain ⟨i, g, a1, a2, a3⟩ := h.only t h1
      exact ⟨i, g, by omega, a2, a3⟩

theorem Good.step {L : List FileD} {n : Nat} {T : List Tri} {f : FileD} (h : Good L n) (hB : Built L n T) (hf : L[n]? = some f) (hr : right f.k = true) (hb : f.b.length ≤ 65536) (hnew : get T f.k = none) : Good L (n + 1) := by
  intro i g hi hg
  by_cases e : i = n
  · subst e
    rw [hf] at hg; cases hg
    refine ⟨hr, hb, fun j g' hj hg' e' => ?_⟩
    obtain ⟨t, h1, _⟩ := hB.has j g' hj hg'
    rw [e', hnew] at h1
    cases h1
  · exact h i g (by omega) hg

theorem bad_name {L : List FileD} {n : Nat} {f : FileD} (hf : L[n]? = some f) (h : right f.k = false ∨ 65536 < f.b.length) : ¬ Good L L.length := fun hg => by
  obtain ⟨h1, h2, _⟩ := hg n f (List.getElem?_eq_some_iff.1 hf).1 hf
  rcases h with h | h
  · rw [h] at h1; cases h1
  · omega

theorem bad_twice {L : List FileD} {n : Nat} {T : List Tri} {f : FileD} (hB : Built L n T) (hf : L[n]? = some f) (h : (get T f.k).isSome = true) : ¬ Good L L.length := fun hg => by
  obtain ⟨_, _, h3⟩ := hg n f (List.getElem?_eq_some_iff.1 hf).1 hf
  obtain ⟨t, ht⟩ := Option.isSome_iff_exists.1 h
  obtain ⟨htm, htk⟩ := get_mem ht
  obtain ⟨i, g, a1, a2, a3, _⟩ := hB.only t htm
  exact h3 i g a1 a2 (a3.symm.trans htk)

def St.of (room : Int) (T : List Tri) (n : Nat) : St := { St.new room with F := T, Y := T, n := n }

def OfTold (room : Int) (L : List FileD) (w : World) (e : Ending) (w' : World) : Prop :=
  (e = .returned (.pointer none) ∧ ¬ (L.length ≤ 512 ∧ Good L L.length) ∧ Fr None' w w') ∨
  ∃ p T, e = .returned (.pointer (some ⟨p, 0, none⟩)) ∧ L.length ≤ 512 ∧ Good L L.length ∧ Built L L.length T ∧ Live w w' p (St.of room T L.length)

theorem cell0 {w : World} {b : Nat} {x y : Value} {e : TypeId} (h : w.heap[b]? = some (.cells #[x, y] e)) : w.cell? ⟨b, 0, none⟩ = some x := by simp [World.cell?, h]
theorem cell1 {w : World} {b : Nat} {x y : Value} {e : TypeId} (h : w.heap[b]? = some (.cells #[x, y] e)) : w.cell? ⟨b, 1, none⟩ = some y := by simp [World.cell?, h]

/-- The data of a file is cloned, and stored. -/
theorem of_clone {w : World} {p bf bs fb : Nat} {ca : Value} {S : St} {f : FileD} {sb : Option Addr} {cb : Nat} (hd : DiskAt w p bf bs ca S) (hb : Bytes w (.slice sb f.b.length cb) f.b) (nf : w.heap[fb]? = some (.cells #[.string f.name, .slice sb f.b.length cb] 53))
    (hs : f.name.size ≤ maxLen) (hl : f.b.length ≤ 65536) (hn : S.n < maxLen) :
    Calls Try.prog 27 #[.slice sb f.b.length cb] w.drew fun e w3 => ∃ a3 c3 w4, e = .returned (.slice a3 f.b.length c3) ∧ (Instr.mapUpdate 56 (.map (some bf)) (.string f.name) (.slice a3 f.b.length c3)).run Try.prog w3 = .ok () w4 ∧
      w3.cell? ⟨p, 1, none⟩ = some (.map (some bf)) ∧ w3.cell? ⟨fb, 0, none⟩ = some (.string f.name) ∧ w3.cell? ⟨fb, 1, none⟩ = some (.slice sb f.b.length cb) ∧
      w4.cell? ⟨p, 1, none⟩ = some (.map (some bf)) ∧ w4.cell? ⟨fb, 0, none⟩ = some (.string f.name) ∧ w4.cell? ⟨fb, 1, none⟩ = some (.slice sb f.b.length cb) ∧
      DiskAt w4 p bf bs ca { S with F := put S.F ⟨f.k, .slice a3 f.b.length c3, f.b⟩, n := S.n + 1 } ∧ Fr (fun k => k = bf) w w4 := by
  have fd : Fr None' w w.drew := Fr.drew _ _
  refine (bclone_any _ f.b w.drew (hb.kept fd (fun _ _ _ _ _ e => e)) (by omega)).mono ?_
  rintro e w3 ⟨v', rfl, d3, f3⟩
  obtain ⟨a3, c3, rfl⟩ := row_slice d3
  have h3 := hd.fresh (fd.then f3)
  have n3 := (fd.then f3).at nf (fun e => e)
  obtain ⟨w4, hrun, hm, ht⟩ := h3.files.store (t := 56) (e := 33) lawS Try.underlying56 hn (key := .string f.name) (val := .slice a3 f.b.length c3) (keyOf_string_mk Try.underlying9 hs) (heldR_data d3)
  have hm' : w4.ownsMap Try.prog 9 heldR bf (S.n + 1) (toD (put S.F ⟨f.k, .slice a3 f.b.length c3, f.b⟩)) := toD_put S.F ⟨f.k, .slice a3 f.b.length c3, f.b⟩ ▸ hm
  have h4 := h3.turned ht (Nat.le_succ _) hm' (fun t ht' => by
    rcases mem_put.1 ht' with rfl | ⟨h1, _⟩
    · exact d3
    · exact h3.dataF t h1)
  refine ⟨a3, c3, w4, rfl, hrun, h3.cells.2.1, cell0 n3, cell1 n3, h4.cells.2.1, turned_cell ht (cell0 n3), turned_cell ht (cell1 n3), h4, ?_⟩
  exact ((fd.then f3).mono (fun _ e => e.elim)).trans (Fr.turned (M := fun k => k = bf) ht rfl) (fun _ e => Or.inl e)

set_option maxHeartbeats 4000000 in
theorem of_any (room : Int) (v : Value) (L : List FileD) (w : World) (h : FilesAt w w.heap.size v L) : Calls Try.prog 7 #[.int .i64 room, v] w fun e w' => OfTold room L w e w' := by
  obtain ⟨va, vc, rfl, hat⟩ := h.shape
  by_cases hlong : 512 < L.length
  · have hl' : (512 : Int) < L.length := by omega
    go_enter Try.func7, Try.ntmps7
    go_wp2
    go_ret
    exact Or.inl ⟨rfl, fun e => by omega, Fr.refl _ _⟩
  · have hl' : (L.length : Int) ≤ 512 := by omega
    go_enter Try.func7, Try.ntmps7
    go_wp2_with fail
    refine (new_any room w).mono ?_
    rintro e w1 ⟨p, M, rfl, hD, F1, hM⟩
    obtain ⟨bf, bs, ca, hD, rfl⟩ := hD
    go_wp2_with fail
    go_loopw [15] (fun i wr => ∃ (k : Nat) (T : List Tri), k ≤ L.length ∧ i = .int .i64 k ∧ DiskAt wr p bf bs ca { St.new room with F := T, n := k } ∧ Good L k ∧ Built L k T ∧ Fr None' w wr) (fun i _ => L.length - (intOf i).toNat)
    case atStart => exact ⟨0, [], Nat.zero_le _, rfl, hD, fun i f hi => by omega, Built.start L, F1⟩
    case round =>
      obtain ⟨k, T, hk, rfl, hd, hgood, hbuilt, hfr⟩ := hrel
      clear hD F1
      by_cases hlt : k < L.length
      · obtain ⟨f, hf⟩ : ∃ f, L[k]? = some f := ⟨L[k], by simp [hlt]⟩
        obtain ⟨g, off, vb, rfl, hgB, hov, c0, c1⟩ := hat k f hf
        obtain ⟨sb, cb, rfl⟩ := bytes_slice hov.1
        have hs := hov.2.2
        have i0 : (0 : Int) ≤ (k : Int) := by omega
        have i1 : (k : Int) < (L.length : Int) := by omega
        have hce : ∀ off, wr.cell? ⟨g, off, none⟩ = w.cell? ⟨g, off, none⟩ := fun off => World.cell?_of_block (w := w) (a := ⟨g, off, none⟩) (hfr.block g hgB (fun e => e))
        have d0 := (hce _).trans c0
        have d1 := (hce _).trans c1
        have hb1 := hov.1.kept hfr (fun _ _ _ _ _ e => e)
        obtain ⟨wf, hwf⟩ : ∃ wf, wf = wr.alloc (.cells #[.string f.name, .slice sb f.b.length cb] 53) := ⟨_, rfl⟩
        have ff : Fr None' wr wf := hwf ▸ Fr.alloc None' _ _
        have hdf := hd.fresh ff
        have hbf := hb1.kept ff (fun _ _ _ _ _ e => e)
        have nf : wf.heap[wr.heap.size]? = some (.cells #[.string f.name, .slice sb f.b.length cb] 53) := hwf ▸ (MapKept.heap_alloc wr _).1
        have hN := isName_any f.name wf hs
        have hH := has_any p bf bs ca _ wf hdf f.name hs
        have hfw := hfr.then ff
        clear hat hce c0 c1 hov hb1 hd hfr h
        cases hr : right f.k
        · rw [show right f.name.data.toList = false from hr] at hN
          subst hwf
          go_wp2_with (first
            | (go_at_call 25; refine hN.mono ?_; rintro e w2 ⟨rfl, hw⟩; have hw := hw.symm; subst hw))
          go_ret
          exact Or.inl ⟨rfl, fun e => bad_name hf (Or.inl hr) e.2, hfw⟩
        · rw [show right f.name.data.toList = true from hr] at hN
          cases hg : (get T f.k).isSome
          · rw [show (get T f.name.data.toList).isSome = false from hg] at hH
            by_cases hbig : 65536 < f.b.length
            · have hbig' : (65536 : Int) < f.b.length := by omega
              subst hwf
              go_wp2_with (first
                | (go_at_call 25; refine hN.mono ?_; rintro e w2 ⟨rfl, hw⟩; have hw := hw.symm; subst hw)
                | (go_at_call 26; refine hH.mono ?_; rintro e w2 ⟨rfl, hw⟩; have hw := hw.symm; subst hw))
              go_ret
              exact Or.inl ⟨rfl, fun e => bad_name hf (Or.inr hbig) e.2, hfw⟩
            · have hbig' : ¬ (65536 : Int) < f.b.length := by omega
              have hnone : get T f.k = none := by simpa using hg
              have hBC := of_clone hdf hbf nf (hs := hs) (by omega) (show k < maxLen by unfold maxLen; omega)
              obtain ⟨_, s1, _⟩ := hdf.cells
              have s2 := cell0 nf
              have s3 := cell1 nf
              have HG : Hid (Good L k ∧ Built L k T ∧ L[k]? = some f ∧ get T f.k = none ∧ right f.k = true ∧ f.b.length ≤ 65536) := ⟨hgood, hbuilt, hf, hnone, hr, by omega⟩
              have HW : Hid (Fr None' w wf) := hfw
              subst hwf
              go_wp2_with (first
                | (go_at_call 25; refine hN.mono ?_; rintro e w2 ⟨rfl, hw⟩; have hw := hw.symm; subst hw)
                | (go_at_call 26; refine hH.mono ?_; rintro e w2 ⟨rfl, hw⟩; have hw := hw.symm; subst hw))
              clear hN hH hgood hbuilt hf hnone hr hfw hg hdf hbf nf ff d0 d1
              go_region_held3 (fun w' => w'.cell? ⟨p, 1, none⟩ = some (.map (some bf)) ∧ w'.cell? ⟨wr.heap.size, 0, none⟩ = some (.string f.name) ∧ w'.cell? ⟨wr.heap.size, 1, none⟩ = some (.slice sb f.b.length cb))
                (first | go_keep | exact ⟨by assumption, by assumption, by assumption⟩)
                (first | (go_at_call 27; refine hBC.mono ?_; rintro e w3 ⟨a3, c3, w4, rfl, hrun4, p3, q3, r3, p4, q4, r4, d4, f4⟩))
              all_goals go_wp2
              obtain ⟨g1, g2, g3, g4, g5, g6⟩ := HG.out
              exact ⟨⟨k + 1, put T ⟨f.k, .slice a3 f.b.length c3, f.b⟩, by omega, by go_num, d4, g1.step g2 g3 g5 g6 g4, g2.step g3 g4 _, HW.out.trans f4 (fun i e => Or.inr (hM i (Or.inr (Or.inl e))))⟩, by simp [intOf]; omega⟩
          · rw [show (get T f.name.data.toList).isSome = true from hg] at hH
            subst hwf
            go_wp2_with (first
              | (go_at_call 25; refine hN.mono ?_; rintro e w2 ⟨rfl, hw⟩; have hw := hw.symm; subst hw)
              | (go_at_call 26; refine hH.mono ?_; rintro e w2 ⟨rfl, hw⟩; have hw := hw.symm; subst hw))
            go_ret
            exact Or.inl ⟨rfl, fun e => bad_twice hbuilt hf hg e.2, hfw⟩
      · have hkL : k = L.length := by omega
        subst hkL
        clear hat
        go_wp2_with fail
        refine (settle_any _ _ _ _ _ _ hd).mono ?_
        rintro e w2 ⟨rfl, h2, f2⟩
        go_wp2
        go_ret
        refine Or.inr ⟨p, T, rfl, by omega, hgood, hbuilt, Mut p bf (.slice none 0 0), h2.disk, hfr.trans f2 (fun i e => Or.inr (hM i (Or.inl e))), ?_⟩
        rintro j (e | e | e)
        · exact hM j (Or.inl e)
        · exact hM j (Or.inr (Or.inl e))
        · cases e

end Go.Proofs.Ythnneejkbobbcaa
