/-
  What is proved here: the document's disk, and that it and the program's answer alike. Conditions: as each theorem names them.
-/
import Derived.Test.YtnmghgbpgpaomaaGreatMG4
import Derived.Laws.Cover1
import Derived.Sort.Walk0
import Derived.Laws.AppendOwnNone
import Derived.Deep.RegionWith
import Derived.Deep.RegionLaw
import Derived.Deep.AppendLies
namespace Go.Proofs.YtnmghgbpgpaomaaGreat
open Go.RowKit Go.Maps Go.WideMaps
set_option maxRecDepth 100000

/-- The place of a name, or -1. -/
def findAt (L : List Tri) (k : List UInt8) : Int := match L.findIdx? (fun t => t.k = k) with | some i => i | none => -1

theorem findAt_none {L : List Tri} {k : List UInt8} (h : ∀ t ∈ L, t.k ≠ k) : findAt L k = -1 := by
  unfold findAt
  rw [List.findIdx?_eq_none_iff.2 (fun t ht => by simpa using h t ht)]

theorem findAt_some {L : List Tri} {k : List UInt8} {i : Nat} {t : Tri} (ht : L[i]? = some t) (hk : t.k = k) (hb : ∀ j u, j < i → L[j]? = some u → u.k ≠ k) : findAt L k = i := by
  unfold findAt
  have hi := (List.getElem?_eq_some_iff.1 ht)
  rw [(List.findIdx?_eq_some_iff_getElem (xs := L) (p := fun t => decide (t.k = k)) (i := i)).2 ⟨hi.1, by rw [hi.2]; simpa using hk, fun j hj => by
    have := hb j (L[j]'(Nat.lt_trans hj hi.1)) hj (by simp)
    simpa using this⟩]

set_option maxHeartbeats 4000000 in
theorem rfind_any (v : Value) (L : List Tri) (s : ByteArray) (w : World) (h : FilesRes w v L) (hl : L.length ≤ 1000000000) :
    Calls Tryz.prog 35 #[v, .string s] w fun e w' => e = .returned (.int .i64 (findAt L s.data.toList)) ∧ w = w' := by
  obtain ⟨a, c, rfl, hc⟩ := h.cells
  have hl' : (L.length : Int) ≤ 1000000000 := by omega
  clear h
  go_enter Tryz.func35, Tryz.ntmps35
  go_wp2_with fail
  go_loop [5] (fun i => ∃ j : Nat, j ≤ L.length ∧ i = .int .i64 j ∧ ∀ x u, x < j → L[x]? = some u → u.k ≠ s.data.toList) (fun i => L.length - (intOf i).toNat)
  case atStart => exact ⟨0, Nat.zero_le _, rfl, fun x u hx => by omega⟩
  case round =>
    obtain ⟨j, hj, rfl, hno⟩ := hrel
    have HN : Hid (∀ x u, x < j → L[x]? = some u → u.k ≠ s.data.toList) := hno
    clear hno
    by_cases hlt : j < L.length
    · obtain ⟨t, ht⟩ : ∃ t, L[j]? = some t := ⟨L[j], by simp [hlt]⟩
      obtain ⟨g, rfl, c0, c1, _⟩ := hc j t ht
      have HT : Hid (L[j]? = some t) := ht
      have HE : (t.k == s.toList) = decide (t.k = s.data.toList) := by
        rw [ByteArray.toList_eq]
        generalize s.data.toList = b
        by_cases h : t.k = b <;> simp [h]
      have i0 : (0 : Int) ≤ (j : Int) := by omega
      have i1 : (j : Int) < (L.length : Int) := by omega
      clear hc ht c1
      by_cases hk : t.k = s.data.toList
      · have tk : (t.k == s.toList) = true := by rw [HE]; simpa using hk
        have HK : Hid (t.k = s.data.toList) := hk
        clear HE hk
        go_wp2
        go_ret
        exact ⟨by rw [findAt_some HT.out HK.out HN.out]; rfl, rfl⟩
      · have tk : (t.k == s.toList) = false := by rw [HE]; simpa using hk
        have HK : Hid (t.k ≠ s.data.toList) := hk
        clear HE hk
        go_wp2
        go_round
        case rel =>
          refine ⟨j + 1, by omega, by go_num, fun x u hx hu => ?_⟩
          by_cases e : x = j
          · subst e
            have := HT.out
            rw [hu] at this; cases this
            exact HK.out
          · exact HN.out x u (by omega) hu
        case measure => simp [intOf]; omega
    · have hjl : j = L.length := by omega
      subst hjl
      clear hc
      go_wp2
      go_ret
      refine ⟨?_, rfl⟩
      rw [findAt_none (fun t ht => by
        obtain ⟨x, hx, rfl⟩ := List.mem_iff_getElem.1 ht
        exact HN.out x _ hx (by simp))]
      rfl

theorem rright_any (s : ByteArray) (w : World) (hs : s.size ≤ maxLen) : Calls Tryz.prog 34 #[.string s] w fun e w' => e = .returned (.bool (right s.data.toList)) ∧ w = w' := by
  have e : s.data.toList.length = s.size := by cases s; rfl
  unfold maxLen at hs
  by_cases h1 : s.size < 1
  · have hr := right_no (Or.inl h1)
    go_enter Tryz.func34, Tryz.ntmps34
    go_wp2
    go_ret
    exact ⟨by first | rfl | (rw [hr]; rfl), rfl⟩
  by_cases h2 : 70 < s.size
  · have hr := right_no (Or.inr h2)
    go_enter Tryz.func34, Tryz.ntmps34
    go_wp2
    go_ret
    exact ⟨by first | rfl | (rw [hr]; rfl), rfl⟩
  have hR : Hid (right s.data.toList = s.data.toList.all okc) := by
    unfold Hid right; rw [e]
    simp; omega
  clear e
  go_enter Tryz.func34, Tryz.ntmps34
  go_wp2_with fail
  go_loop [3] (fun i => ∃ k : Nat, k ≤ s.size ∧ i = .int .i64 k ∧ (s.data.toList.take k).all okc = true) (fun i => s.size - (intOf i).toNat)
  case atStart => exact ⟨0, Nat.zero_le _, rfl, rfl⟩
  case round =>
    obtain ⟨k, hk, rfl, hall⟩ := hrel
    have HA : Hid ((s.data.toList.take k).all okc = true) := hall
    clear hall
    by_cases hlt : k < s.size
    · have i0 : (0 : Int) ≤ (k : Int) := by omega
      have i1 : (k : Int) < (s.size : Int) := by omega
      go_wp2
      all_goals first
        | (go_ret; refine ⟨?_, rfl⟩; rw [hR.out, all_no hlt (okc_f (by omega))]; rfl)
        | exact ⟨⟨k + 1, by omega, by go_num, all_step hlt HA.out (okc_t (by omega))⟩, by simp [intOf]; omega⟩
        | (rename_i h; simp only [bne_eq_false_iff_eq] at h; exact ⟨⟨k + 1, by omega, by go_num, all_step hlt HA.out (okc_t (by omega))⟩, by simp [intOf]; omega⟩)
    · go_wp2
      go_ret
      refine ⟨?_, rfl⟩
      have ht := HA.out
      rw [List.take_of_length_le (by rw [show s.data.toList.length = s.size from by cases s; rfl]; omega)] at ht
      rw [hR.out, ht]
      rfl

end Go.Proofs.YtnmghgbpgpaomaaGreat

namespace Go.Proofs.YtnmghgbpgpaomaaGreat
open Go.RowKit Go.Maps Go.WideMaps
set_option maxRecDepth 100000

def without (L : List Tri) (k : List UInt8) : List Tri := L.filter (fun t => t.k ≠ k)

theorem without_step {L : List Tri} {j : Nat} {t : Tri} (k : List UInt8) (ht : L[j]? = some t) : without (L.take (j + 1)) k = without (L.take j) k ++ (if t.k = k then [] else [t]) := by
  rw [List.take_add_one, ht]
  unfold without
  rw [List.filter_append]
  congr 1
  by_cases h : t.k = k <;> simp [h]

theorem bne_str (k : List UInt8) (s : ByteArray) : (k == s.toList) = decide (k = s.data.toList) := by
  rw [ByteArray.toList_eq]
  generalize s.data.toList = b
  by_cases h : k = b <;> simp [h]

theorem without_len (L : List Tri) (k : List UInt8) : (without L k).length ≤ L.length := List.length_filter_le _ _

/-- The cell of a row that lay there. -/
theorem Fr.cell {w wr : World} (hf : Fr None' w wr) {g off : Nat} {u : Value} (hu : w.cell? ⟨g, off, none⟩ = some u) : wr.cell? ⟨g, off, none⟩ = some u := by
  have hlt' : g < w.heap.size := by
    unfold World.cell? at hu
    split at hu
    · rename_i hk; exact lt_of_some hk
    · cases hu
  rw [World.cell?_of_block (w := w) (a := ⟨g, off, none⟩) (hf.block g hlt' (fun e => e))]
  exact hu

/-- A row of one's own grows. -/
theorem fr_append {w wr w5 : World} {v : Value} {e : TypeId} {n sz : Nat} {xs : List Value} {o : Obj} (hfr : Fr None' w wr) (hv : wr.ownsRow w.heap.size e sz v n xs) (hg : (wr.alloc o).grownBy w5 v.ownBlock) : Fr None' w w5 := by
  refine (hfr.then (Fr.alloc _ _ _)).trans (Fr.grown (M := fun i => v.ownBlock = some i) hg (fun k e => e)) (fun i e => Or.inr ?_)
  rcases hv.2 with ⟨hvv, _⟩ | ⟨g', cap', cur', hvv, hb', _⟩
  · rw [hvv] at e; cases e
  · rw [hvv] at e; cases e; exact hb'

set_option maxHeartbeats 4000000 in
theorem rwithout_any (v : Value) (L : List Tri) (s : ByteArray) (w : World) (h : FilesRes w v L) (hl : L.length ≤ 1000000000) :
    Calls Tryz.prog 65 #[v, .string s] w fun e w' => ∃ v', e = .returned v' ∧ FilesRes w' v' (without L s.data.toList) ∧ w'.ownsRow w.heap.size 61 2 v' (without L s.data.toList).length ((without L s.data.toList).flatMap fun t => [encStr t.k, t.v]) ∧ Fr None' w w' := by
  obtain ⟨a, c, rfl, hc⟩ := h.cells
  have hl' : (L.length : Int) ≤ 1000000000 := by omega
  go_enter Tryz.func65, Tryz.ntmps65
  go_wp2_with fail
  obtain ⟨i0, hi, hz0, hz1, hz2⟩ := info_parts Tryz.infoF
  go_loopw [5, 6] (fun o i wr => ∃ j : Nat, j ≤ L.length ∧ i = .int .i64 j ∧ wr.ownsRow w.heap.size 61 2 o (without (L.take j) s.data.toList).length ((without (L.take j) s.data.toList).flatMap fun t => [encStr t.k, t.v]) ∧ Fr None' w wr) (fun _ i _ => L.length - (intOf i).toNat)
  case atStart => exact ⟨0, Nat.zero_le _, rfl, ⟨rfl, Or.inl ⟨rfl, rfl⟩⟩, Fr.refl _ _⟩
  case round =>
    obtain ⟨j, hj, rfl, hv, hfr⟩ := hrel
    obtain ⟨va, vc, rfl⟩ := row_slice hv
    by_cases hlt : j < L.length
    · obtain ⟨t, ht⟩ : ∃ t, L[j]? = some t := ⟨L[j], by simp [hlt]⟩
      obtain ⟨g, rfl, c0, c1, hD⟩ := hc j t ht
      have h1v : t.v.oneCell' = true := by obtain ⟨_, _, e⟩ := row_slice hD; rw [e]; rfl
      have d0 := hfr.cell c0
      have d1 := hfr.cell c1
      have hst := without_step s.data.toList ht
      have HE := bne_str t.k s
      have k0 : (0 : Int) ≤ (j : Int) := by omega
      have k1 : (j : Int) < (L.length : Int) := by omega
      have hol := without_len (L.take j) s.data.toList
      have hol2 : (L.take j).length ≤ j := by simp; omega
      generalize without (L.take j) s.data.toList = O at *
      clear hc ht c0 c1 hD
      by_cases hk : t.k = s.data.toList
      · have tk : (t.k == s.toList) = true := by rw [HE]; simpa using hk
        have tk' : (t.k != s.toList) = false := by rw [bne, tk]; rfl
        rw [if_pos hk, List.append_nil] at hst
        have HS : Hid (without (L.take (j + 1)) s.data.toList = O) := hst
        clear HE hk hst
        go_wp2
        go_roundw
        case rel => exact ⟨j + 1, by omega, by go_num, by rw [HS.out]; exact hv, hfr⟩
        case measure => simp [intOf]; omega
      · have tk : (t.k == s.toList) = false := by rw [HE]; simpa using hk
        have tk' : (t.k != s.toList) = true := by rw [bne, tk]; rfl
        rw [if_neg hk] at hst
        have HS : Hid (without (L.take (j + 1)) s.data.toList = O ++ [t]) := hst
        clear HE hk hst
        go_wp2_with (first
          | (at_builtin; refine wpList_append_own_at _ rfl _ _ 22 rfl w.heap.size 61 i0 _ 2 40 Tryz.underlying22 hi hz0 hz1 hz2 rfl (by decide) _ _ _ rfl (hv.alloc _) ⟨wr.heap.size, 0, none⟩ 1 1 [encStr t.k, t.v] rfl rfl (two_new _ _ _ _) (fun u hu => by simp at hu; rcases hu with rfl | rfl; rfl; exact h1v) (by unfold maxLen; omega) (by omega) (by have := hfr.size; simp; omega) ?_; intro v5 w5 hown5 hg5 hnil hloc)
          | go_in)
        have hfr5 := fr_append hfr hv hg5
        go_roundw
        case rel => exact ⟨j + 1, by omega, by go_num, by rw [HS.out]; simpa using hown5, hfr5⟩
        case measure => simp [intOf]; omega
    · have hjl : j = L.length := by omega
      subst hjl
      rw [List.take_length] at hv ⊢
      clear hc
      go_wp2
      go_ret
      exact ⟨_, rfl, ⟨ownsRow_base_a hv (Nat.zero_le _), fun t ht => hfr.allData (stillN _) h.2 t (List.mem_filter.1 ht).1⟩, hv, hfr⟩

/-- One file more is looked at. -/
def insStep (f : Tri) (st : List Tri × Bool) (t : Tri) : List Tri × Bool := if st.2 = false ∧ f.k < t.k then (st.1 ++ [f, t], true) else (st.1 ++ [t], st.2)
def insFold (f : Tri) (W : List Tri) : List Tri × Bool := W.foldl (insStep f) ([], false)
/-- The files with one, in its place. -/
def withF (L : List Tri) (f : Tri) : List Tri := let r := insFold f (without L f.k); if r.2 then r.1 else r.1 ++ [f]

theorem insFold_step {f t : Tri} {W : List Tri} {j : Nat} (ht : W[j]? = some t) : insFold f (W.take (j + 1)) = insStep f (insFold f (W.take j)) t := by
  unfold insFold
  rw [List.take_add_one, ht, List.foldl_append]
  rfl

theorem insFold_len (f : Tri) : ∀ (W : List Tri) (st : List Tri × Bool), (W.foldl (insStep f) st).1.length ≤ st.1.length + W.length + (if st.2 then 0 else 1)
  | [], st => by simp
  | t :: r, st => by
    have ih := insFold_len f r (insStep f st t)
    rw [List.foldl_cons]
    obtain ⟨O, d⟩ := st
    cases d
    · by_cases h : f.k < t.k
      · simp [insStep, h] at ih ⊢; omega
      · simp [insStep, h] at ih ⊢; omega
    · simp [insStep] at ih ⊢; omega

theorem insFold_mem (f : Tri) : ∀ (W : List Tri) (st : List Tri × Bool) (x : Tri), x ∈ (W.foldl (insStep f) st).1 → x ∈ st.1 ∨ x = f ∨ x ∈ W
  | [], st, x, h => Or.inl h
  | t :: r, st, x, h => by
    rw [List.foldl_cons] at h
    rcases insFold_mem f r _ x h with h1 | h1 | h1
    · unfold insStep at h1
      split at h1
      · simp at h1
        rcases h1 with h1 | h1 | h1
        · exact Or.inl h1
        · exact Or.inr (Or.inl h1)
        · exact Or.inr (Or.inr (by simp [h1]))
      · simp at h1
        rcases h1 with h1 | h1
        · exact Or.inl h1
        · exact Or.inr (Or.inr (by simp [h1]))
    · exact Or.inr (Or.inl h1)
    · exact Or.inr (Or.inr (by simp [h1]))

theorem encStr_back (s : ByteArray) : encStr s.data.toList = .string s := by
  unfold encStr
  cases s
  simp

theorem bytesLess_str (k : List UInt8) (s : ByteArray) : Op.bytesLess k s.toList = decide (k < s.data.toList) := by
  rw [ByteArray.toList_eq, Go.Proofs.bytesLess_eq]

set_option maxHeartbeats 4000000 in
theorem rwith_any (v : Value) (L : List Tri) (s : ByteArray) (fv : Value) (fb : List UInt8) (w : World) (h : FilesRes w v L) (hl : L.length ≤ 900000000) (hf : Data w fv fb) :
    Calls Tryz.prog 36 #[v, .agg #[.string s, fv]] w fun e w' => ∃ v', e = .returned v' ∧ FilesRes w' v' (withF L ⟨s.data.toList, fv, fb⟩) ∧ Fr None' w w' := by
  obtain ⟨a, c, rfl, _⟩ := h.cells
  obtain ⟨fa, fc, rfl⟩ := row_slice hf
  have hw := fun w0 (h0 : FilesRes w0 (.slice a L.length c) L) => rwithout_any _ L s w0 h0 (by omega)
  go_enter Tryz.func36, Tryz.ntmps36
  go_wp2_with fail
  have fA : Fr None' w (w.alloc (.cells #[.string s, .slice fa fb.length fc] 61)) := Fr.alloc None' _ _
  refine (hw _ (h.kept fA (stillN _))).mono ?_
  rintro e w2 ⟨v2, rfl, R2, _, F2⟩
  have n0 := F2.cell (cell0 (MapKept.heap_alloc w (.cells #[.string s, .slice fa fb.length fc] 61)).1)
  have n1 := F2.cell (cell1 (MapKept.heap_alloc w (.cells #[.string s, .slice fa fb.length fc] 61)).1)
  have hD2 := (fA.then F2).row hf (fun _ _ e => e)
  have hF2 := fA.then F2
  generalize hb : w.heap.size = b at *
  clear hw fA F2 h
  obtain ⟨a2, c2, rfl, hc2⟩ := R2.cells
  have hwl := without_len L s.data.toList
  have HW : Hid (withF L ⟨s.data.toList, .slice fa fb.length fc, fb⟩ = (let r := insFold ⟨s.data.toList, .slice fa fb.length fc, fb⟩ (without L s.data.toList); if r.2 then r.1 else r.1 ++ [⟨s.data.toList, .slice fa fb.length fc, fb⟩])) := rfl
  have hne : ∀ t ∈ without L s.data.toList, t.k ≠ s.data.toList := fun t ht => by simpa using (List.mem_filter.1 ht).2
  generalize without L s.data.toList = W at *
  have hl' : (W.length : Int) ≤ 900000000 := by omega
  go_wp2_with fail
  obtain ⟨i0, hi, hz0, hz1, hz2⟩ := info_parts Tryz.infoF
  go_loopw [5, 6, 7] (fun o dn i wr => ∃ j : Nat, j ≤ W.length ∧ i = .int .i64 j ∧ dn = .bool (insFold ⟨s.data.toList, .slice fa fb.length fc, fb⟩ (W.take j)).2 ∧ wr.ownsRow w2.heap.size 61 2 o (insFold ⟨s.data.toList, .slice fa fb.length fc, fb⟩ (W.take j)).1.length ((insFold ⟨s.data.toList, .slice fa fb.length fc, fb⟩ (W.take j)).1.flatMap fun t => [encStr t.k, t.v]) ∧ Fr None' w2 wr) (fun _ _ i _ => W.length - (intOf i).toNat)
  case atStart => exact ⟨0, Nat.zero_le _, rfl, rfl, ⟨rfl, Or.inl ⟨rfl, rfl⟩⟩, Fr.refl _ _⟩
  case round =>
    obtain ⟨j, hj, rfl, rfl, hv, hfr⟩ := hrel
    obtain ⟨va, vc, rfl⟩ := row_slice hv
    by_cases hlt : j < W.length
    · obtain ⟨t, ht⟩ : ∃ t, W[j]? = some t := ⟨W[j], by simp [hlt]⟩
      obtain ⟨g, rfl, c0, c1, hD⟩ := hc2 j t ht
      have h1v : t.v.oneCell' = true := by obtain ⟨_, _, e⟩ := row_slice hD; rw [e]; rfl
      have d0 := hfr.cell c0
      have d1 := hfr.cell c1
      have m0 := hfr.cell n0
      have m1 := hfr.cell n1
      have hst := insFold_step (f := ⟨s.data.toList, .slice fa fb.length fc, fb⟩) ht
      have k0 : (0 : Int) ≤ (j : Int) := by omega
      have k1 : (j : Int) < (W.length : Int) := by omega
      have hol := insFold_len ⟨s.data.toList, .slice fa fb.length fc, fb⟩ (W.take j) ([], false)
      have htk := hne t (List.mem_of_getElem? ht)
      have heq : (t.k == s.toList) = false := by rw [bne_str]; simpa using htk
      have hls := bytesLess_str t.k s
      generalize hO : insFold ⟨s.data.toList, .slice fa fb.length fc, fb⟩ (W.take j) = O at *
      have hol' : O.1.length ≤ 900000001 := by
        have h2 : (insFold ⟨s.data.toList, .slice fa fb.length fc, fb⟩ (W.take j)).1.length ≤ _ := hol
        rw [hO] at h2
        simp at h2
        omega
      obtain ⟨O, dn⟩ := O
      simp only at hol' hv
      clear hc2 ht hD hne hol hO
      cases dn
      · cases hless : Op.bytesLess t.k s.toList
        · have hgt : s.data.toList < t.k := by
            rw [hls] at hless
            simp at hless
            exact Decidable.byContradiction fun h => htk (List.le_antisymm (List.not_lt.1 h) hless)
          have HS : Hid (insFold ⟨s.data.toList, .slice fa fb.length fc, fb⟩ (W.take (j + 1)) = (O ++ [⟨s.data.toList, .slice fa fb.length fc, fb⟩, t], true)) := by
            show _ = _
            rw [hst]; simp [insStep, hgt]
          clear hst hls htk hgt
          go_wp2_with fail
          go_quiet (fail)
          have hvq : (wr.drewN nq).ownsRow w2.heap.size 61 2 (.slice va O.length vc) O.length (O.flatMap fun t => [encStr t.k, t.v]) := hv
          have hfrq := hfr.then (fr_drewN wr nq)
          have q0 := hfrq.cell n0
          have q1 := hfrq.cell n1
          have hsz := hfrq.size
          generalize wr.drewN nq = wq at *
          go_wp2_with (first
            | (at_builtin; refine wpList_append_own_at _ rfl _ _ 22 rfl w2.heap.size 61 i0 _ 2 40 Tryz.underlying22 hi hz0 hz1 hz2 rfl (by decide) _ _ _ rfl (hown5.alloc _) ⟨w5.heap.size, 0, none⟩ 1 1 [encStr t.k, t.v] rfl rfl (two_new _ _ _ _) (fun u hu => by simp at hu; rcases hu with rfl | rfl; rfl; exact h1v) (by unfold maxLen; omega) (by omega) (by have := f5.size; simp; omega) ?_; intro v6 w6 hown6 hg6 hnil6 hloc6)
            | (at_builtin; refine wpList_append_own_at _ rfl _ _ 22 rfl w2.heap.size 61 i0 _ 2 40 Tryz.underlying22 hi hz0 hz1 hz2 rfl (by decide) _ _ _ rfl (hvq.alloc _) ⟨wq.heap.size, 0, none⟩ 1 1 [.string s, .slice fa fb.length fc] rfl rfl (two_new _ _ _ _) (fun u hu => by simp at hu; rcases hu with rfl | rfl; rfl; rfl) (by unfold maxLen; omega) (by omega) (by have := hfrq.size; simp; omega) ?_; intro v5 w5 hown5 hg5 hnil5 hloc5; have f5 := fr_append hfrq hvq hg5; have e0 := f5.cell c0; have e1 := f5.cell c1; obtain ⟨va5, vc5, rfl⟩ := row_slice hown5)
            | go_in)
          have f6 := fr_append f5 hown5 hg6
          go_roundw
          case rel => exact ⟨j + 1, by omega, by go_num, by rw [HS.out], by rw [HS.out]; simpa [encStr_back] using hown6, f6⟩
          case measure => simp [intOf]; omega
        · have hgt : ¬ s.data.toList < t.k := by
            rw [hls] at hless
            simp at hless
            exact fun h => absurd hless (List.lt_asymm h)
          have HS : Hid (insFold ⟨s.data.toList, .slice fa fb.length fc, fb⟩ (W.take (j + 1)) = (O ++ [t], false)) := by
            show _ = _
            rw [hst]; simp [insStep, hgt]
          clear hst hls htk hgt
          go_wp2_with fail
          go_quiet (fail)
          have hvq : (wr.drewN nq).ownsRow w2.heap.size 61 2 (.slice va O.length vc) O.length (O.flatMap fun t => [encStr t.k, t.v]) := hv
          have hfrq := hfr.then (fr_drewN wr nq)
          have q0 := hfrq.cell c0
          have q1 := hfrq.cell c1
          have hsz := hfrq.size
          generalize wr.drewN nq = wq at *
          go_wp2_with (first
            | (at_builtin; refine wpList_append_own_at _ rfl _ _ 22 rfl w2.heap.size 61 i0 _ 2 40 Tryz.underlying22 hi hz0 hz1 hz2 rfl (by decide) _ _ _ rfl (hvq.alloc _) ⟨wq.heap.size, 0, none⟩ 1 1 [encStr t.k, t.v] rfl rfl (two_new _ _ _ _) (fun u hu => by simp at hu; rcases hu with rfl | rfl; rfl; exact h1v) (by unfold maxLen; omega) (by omega) (by have := hfrq.size; simp; omega) ?_; intro v6 w6 hown6 hg6 hnil6 hloc6)
            | go_in)
          have f6 := fr_append hfrq hvq hg6
          go_roundw
          case rel => exact ⟨j + 1, by omega, by go_num, by rw [HS.out], by rw [HS.out]; simpa using hown6, f6⟩
          case measure => simp [intOf]; omega
      · have HS : Hid (insFold ⟨s.data.toList, .slice fa fb.length fc, fb⟩ (W.take (j + 1)) = (O ++ [t], true)) := by
          show _ = _
          rw [hst]; simp [insStep]
        clear hst hls htk
        go_wp2_with fail
        go_quiet (fail)
        have hvq : (wr.drewN nq).ownsRow w2.heap.size 61 2 (.slice va O.length vc) O.length (O.flatMap fun t => [encStr t.k, t.v]) := hv
        have hfrq := hfr.then (fr_drewN wr nq)
        have q0 := hfrq.cell c0
        have q1 := hfrq.cell c1
        have hsz := hfrq.size
        generalize wr.drewN nq = wq at *
        go_wp2_with (first
          | (at_builtin; refine wpList_append_own_at _ rfl _ _ 22 rfl w2.heap.size 61 i0 _ 2 40 Tryz.underlying22 hi hz0 hz1 hz2 rfl (by decide) _ _ _ rfl (hvq.alloc _) ⟨wq.heap.size, 0, none⟩ 1 1 [encStr t.k, t.v] rfl rfl (two_new _ _ _ _) (fun u hu => by simp at hu; rcases hu with rfl | rfl; rfl; exact h1v) (by unfold maxLen; omega) (by omega) (by have := hfrq.size; simp; omega) ?_; intro v6 w6 hown6 hg6 hnil6 hloc6)
          | go_in)
        have f6 := fr_append hfrq hvq hg6
        go_roundw
        case rel => exact ⟨j + 1, by omega, by go_num, by rw [HS.out], by rw [HS.out]; simpa using hown6, f6⟩
        case measure => simp [intOf]; omega
    · have hjl : j = W.length := by omega
      subst hjl
      rw [List.take_length] at hv ⊢
      have hol := insFold_len ⟨s.data.toList, .slice fa fb.length fc, fb⟩ W ([], false)
      have hmem : ∀ x ∈ (insFold ⟨s.data.toList, .slice fa fb.length fc, fb⟩ W).1, x = ⟨s.data.toList, .slice fa fb.length fc, fb⟩ ∨ x ∈ W := fun x hx => by
        rcases insFold_mem _ W ([], false) x hx with h1 | h1 | h1
        · simp at h1
        · exact Or.inl h1
        · exact Or.inr h1
      have HM : Hid (∀ x ∈ (insFold ⟨s.data.toList, .slice fa fb.length fc, fb⟩ W).1, x = ⟨s.data.toList, .slice fa fb.length fc, fb⟩ ∨ x ∈ W) := hmem
      have hol' : (insFold ⟨s.data.toList, .slice fa fb.length fc, fb⟩ W).1.length ≤ 900000001 := by
        have h2 : (insFold ⟨s.data.toList, .slice fa fb.length fc, fb⟩ W).1.length ≤ _ := hol
        simp at h2
        omega
      have m0 := hfr.cell n0
      have m1 := hfr.cell n1
      have HD : Hid (∀ wz, Fr None' w2 wz → ∀ x : Tri, (x = ⟨s.data.toList, .slice fa fb.length fc, fb⟩ ∨ x ∈ W) → Data wz x.v x.b) := fun wz hz x hx => by
        rcases hx with rfl | hx
        · exact hz.row hD2 (fun _ _ e => e)
        · exact hz.allData (stillN _) R2.2 x hx
      clear hc2 hmem hol hne
      generalize hO : insFold ⟨s.data.toList, .slice fa fb.length fc, fb⟩ W = O at *
      obtain ⟨O, dn⟩ := O
      simp only at hol' hv HW HM
      cases dn
      · go_wp2_with (first
          | (at_builtin; refine wpList_append_own_at _ rfl _ _ 22 rfl w2.heap.size 61 i0 _ 2 40 Tryz.underlying22 hi hz0 hz1 hz2 rfl (by decide) _ _ _ rfl (hv.alloc _) ⟨wr.heap.size, 0, none⟩ 1 1 [.string s, .slice fa fb.length fc] rfl rfl (two_new _ _ _ _) (fun u hu => by simp at hu; rcases hu with rfl | rfl; rfl; rfl) (by unfold maxLen; omega) (by omega) (by have := hfr.size; simp; omega) ?_; intro v6 w6 hown6 hg6 hnil6 hloc6)
          | go_in)
        have f6 := fr_append hfr hv hg6
        go_wp2
        go_ret
        refine ⟨_, rfl, ⟨?_, ?_⟩, hF2.then f6⟩
        · rw [HW.out]
          exact ownsRow_base_a (by simpa [encStr_back] using hown6) (Nat.zero_le _)
        · rw [HW.out]
          intro x hx
          rcases List.mem_append.1 hx with h1 | h1
          · exact HD.out _ f6 x (HM.out x h1)
          · simp at h1; exact HD.out _ f6 x (Or.inl h1)
      · go_wp2
        go_ret
        refine ⟨_, rfl, ⟨?_, ?_⟩, hF2.then hfr⟩
        · rw [HW.out]
          exact ownsRow_base_a hv (Nat.zero_le _)
        · rw [HW.out]
          intro x hx
          exact HD.out _ hfr x (HM.out x hx)

end Go.Proofs.YtnmghgbpgpaomaaGreat

namespace Go.Proofs.YtnmghgbpgpaomaaGreat
open Go.RowKit Go.Maps Go.WideMaps
set_option maxRecDepth 100000

/-- A change of the document's. -/
structure RCh where
  frm : ByteArray
  to : ByteArray
  v : Value
  b : List UInt8

def RCh.app (c : RCh) (L : List Tri) : List Tri :=
  if c.frm.data.toList = [] then withF L ⟨c.to.data.toList, c.v, c.b⟩ else
  match get L c.frm.data.toList with
  | none => L
  | some t => if c.to.data.toList = [] then without L c.frm.data.toList else withF (without L c.frm.data.toList) { t with k := c.to.data.toList }

theorem find_get (L : List Tri) (k : List UInt8) : (findAt L k = -1 ∧ get L k = none) ∨ ∃ (i : Nat) (t : Tri), findAt L k = i ∧ L[i]? = some t ∧ get L k = some t ∧ t.k = k := by
  cases hg : get L k with
  | none =>
    refine Or.inl ⟨findAt_none (fun t ht => ?_), rfl⟩
    have := List.find?_eq_none.1 hg t ht
    simpa using this
  | some t =>
    obtain ⟨hk, pre, post, hL, hno⟩ := List.find?_eq_some_iff_append.1 hg
    have hk' : t.k = k := by simpa using hk
    have hi : L[pre.length]? = some t := by rw [hL]; simp
    refine Or.inr ⟨pre.length, t, findAt_some hi hk' (fun j u hj hu => ?_), hi, rfl, hk'⟩
    rw [hL, List.getElem?_append_left hj] at hu
    have := hno u (List.mem_of_getElem? hu)
    simpa using this

theorem empty_str (s : ByteArray) : s.toList.isEmpty = decide (s.data.toList = []) := by
  rw [ByteArray.toList_eq]
  cases s.data.toList <;> simp

set_option maxHeartbeats 4000000 in
theorem rchanged_any (v : Value) (L : List Tri) (c : RCh) (w : World) (h : FilesRes w v L) (hl : L.length ≤ 900000000) (hc : Data w c.v c.b) :
    Calls Tryz.prog 61 #[v, .agg #[.string c.frm, .string c.to, c.v]] w fun e w' => ∃ v', e = .returned v' ∧ FilesRes w' v' (c.app L) ∧ Fr None' w w' := by
  obtain ⟨a, cc, rfl, hcl⟩ := h.cells
  obtain ⟨frm, to, v, b⟩ := c
  simp only at hc ⊢
  obtain ⟨fa, fc, rfl⟩ := row_slice hc
  have fA : Fr None' w (w.alloc (.cells #[.string frm, .string to, .slice fa b.length fc] 90)) := Fr.alloc None' _ _
  have nA := (MapKept.heap_alloc w (.cells #[.string frm, .string to, .slice fa b.length fc] 90)).1
  have hE := empty_str frm
  by_cases h0 : frm.data.toList = []
  · have t0 : frm.toList.isEmpty = true := by rw [hE]; simpa using h0
    have HA : Hid (RCh.app ⟨frm, to, .slice fa b.length fc, b⟩ L = withF L ⟨to.data.toList, .slice fa b.length fc, b⟩) := by
      show _ = _
      simp [RCh.app, h0]
    clear hE h0 nA hcl
    go_enter Tryz.func61, Tryz.ntmps61
    go_wp2_with fail
    refine (rwith_any _ L to _ b _ (h.kept fA (stillN _)) hl (fA.row hc (fun _ _ e => e))).mono ?_
    rintro e w1 ⟨v1, rfl, R1, F1⟩
    go_wp2
    go_ret
    exact ⟨_, rfl, by rw [HA.out]; exact R1, fA.then F1⟩
  · have t0 : frm.toList.isEmpty = false := by rw [hE]; simpa using h0
    have hF := rfind_any _ L frm _ (h.kept fA (stillN _)) (by omega)
    rcases find_get L frm.data.toList with ⟨e1, e2⟩ | ⟨i, t, e1, e2, e3, e4⟩
    · rw [e1] at hF
      have HA : Hid (RCh.app ⟨frm, to, .slice fa b.length fc, b⟩ L = L) := by
        show _ = _
        simp [RCh.app, h0, e2]
      clear hE h0 nA hcl e1 e2
      go_enter Tryz.func61, Tryz.ntmps61
      go_wp2_with fail
      refine hF.mono ?_
      rintro e w1 ⟨rfl, rfl⟩
      go_wp2
      go_ret
      exact ⟨_, rfl, by rw [HA.out]; exact h.kept fA (stillN _), fA⟩
    · rw [e1] at hF
      obtain ⟨g, rfl, c0, c1, hD⟩ := hcl i t e2
      have hlt := (List.getElem?_eq_some_iff.1 e2).1
      have d0 := fA.cell c0
      have d1 := fA.cell c1
      have k0 : (0 : Int) ≤ (i : Int) := by omega
      have k1 : (i : Int) < (L.length : Int) := by omega
      have hDA := fA.row hD (fun _ _ e => e)
      obtain ⟨ta, tc, htv⟩ := row_slice hD
      have hR := fun w1 (h1 : FilesRes w1 (.slice (some ⟨g, 0, none⟩) L.length cc) L) => rwithout_any _ L frm w1 h1 (by omega)
      have hE2 := empty_str to
      obtain ⟨wA, hwA⟩ : ∃ wA, wA = w.alloc (.cells #[.string frm, .string to, .slice fa b.length fc] 90) := ⟨_, rfl⟩
      obtain ⟨wB, hwB⟩ : ∃ wB, wB = wA.alloc (.cells #[.string ⟨t.k.toArray⟩, .slice ta t.b.length tc] 61) := ⟨_, rfl⟩
      have hszA : wA.heap.size = w.heap.size + 1 := by rw [hwA]; exact Array.size_push _
      have fB : Fr None' wA wB := hwB ▸ Fr.alloc None' _ _
      have nB : wB.heap[w.heap.size + 1]? = some (.cells #[.string ⟨t.k.toArray⟩, .slice ta t.b.length tc] 61) := by rw [← hszA, hwB]; exact (MapKept.heap_alloc wA _).1
      have fAB : Fr None' w wB := by rw [← hwA] at fA; exact fA.then fB
      have nAB := fB.at (hwA ▸ nA) (fun e => e)
      have HG : Hid (get L frm.data.toList = some t ∧ frm.data.toList ≠ [] ∧ t.k = frm.data.toList) := ⟨e3, h0, e4⟩
      have HBA : Hid (wA = w.alloc (.cells #[.string frm, .string to, .slice fa b.length fc] 90) ∧ wB = wA.alloc (.cells #[.string ⟨t.k.toArray⟩, .slice ta t.b.length tc] 61)) := ⟨hwA, hwB⟩
      clear hE hcl e1 e2 e3 e4 h0 hwA hwB
      go_enter Tryz.func61, Tryz.ntmps61
      go_wp2_with fail
      refine hF.mono ?_
      rintro e w1 ⟨rfl, rfl⟩
      go_wp2_with fail
      rw [← HBA.out.1, ← HBA.out.2]
      refine (hR _ (h.kept fAB (stillN _))).mono ?_
      rintro e w2 ⟨v2, rfl, R2, O2, F2⟩
      obtain ⟨ra, rc, rfl⟩ := row_slice R2.1
      have n2 := F2.at nAB (fun e => e)
      have m2 := F2.at nB (fun e => e)
      have x0 : w2.cell? ⟨w.heap.size, 1, none⟩ = some (.string to) := by simp [World.cell?, n2]
      have y0 : w2.cell? ⟨w.heap.size + 1, 0, none⟩ = some (.string ⟨t.k.toArray⟩) := cell0 m2
      have y1 : w2.cell? ⟨w.heap.size + 1, 1, none⟩ = some (.slice ta t.b.length tc) := cell1 m2
      have z0 : w2.frozen? ⟨w.heap.size + 1, 0, none⟩ = false := by simp [World.frozen?, m2]
      by_cases h2 : to.data.toList = []
      · have t2 : to.toList.isEmpty = true := by rw [hE2]; simpa using h2
        have HA : Hid (RCh.app ⟨frm, to, .slice fa b.length fc, b⟩ L = without L frm.data.toList) := by
          show _ = _
          simp [RCh.app, HG.out.1, HG.out.2.1, h2]
        clear hE2 h2
        go_wp2
        go_ret
        exact ⟨_, rfl, by rw [HA.out]; exact R2, fAB.then F2⟩
      · have t2 : to.toList.isEmpty = false := by rw [hE2]; simpa using h2
        have HA : Hid (RCh.app ⟨frm, to, .slice fa b.length fc, b⟩ L = withF (without L frm.data.toList) { t with k := to.data.toList }) := by
          show _ = _
          simp [RCh.app, HG.out.1, HG.out.2.1, h2]
        have fS : Fr None' w (w2.setCell ⟨w.heap.size + 1, 0, none⟩ (.string to)) := (fAB.then F2).trans (Fr.setCell (M := fun k => k = w.heap.size + 1) w2 rfl _) (fun i e => Or.inr (by omega))
        have hRS : FilesRes (w2.setCell ⟨w.heap.size + 1, 0, none⟩ (.string to)) (.slice ra (without L frm.data.toList).length rc) (without L frm.data.toList) := by
          refine ⟨?_, fun t' ht' => fS.allData (stillN _) h.2 t' (List.mem_filter.1 ht').1⟩
          refine ownsRow_base_a ((Fr.setCell (M := fun k => k = w.heap.size + 1) w2 rfl _).row O2 (fun g' e' em => ?_)) (Nat.zero_le _)
          have hlo : wB.heap.size ≤ g' := by
            rcases O2.2 with ⟨hvv, _⟩ | ⟨g2, cap2, cur2, hvv, hb2, _⟩
            · rw [hvv] at e'; cases e'
            · rw [hvv] at e'; cases e'; exact hb2
          have := lt_of_some nB
          omega
        have hDS : Data (w2.setCell ⟨w.heap.size + 1, 0, none⟩ (.string to)) (.slice ta t.b.length tc) t.b := fS.row (htv ▸ hD) (fun _ _ e => e)
        clear hE2 h2
        go_wp2_with fail
        refine (rwith_any _ _ to _ t.b _ hRS (by have := without_len L frm.data.toList; omega) hDS).mono ?_
        rintro e w4 ⟨v4, rfl, R4, F4⟩
        go_wp2
        go_ret
        exact ⟨_, rfl, by rw [HA.out, htv]; exact R4, fS.then F4⟩

end Go.Proofs.YtnmghgbpgpaomaaGreat

namespace Go.Proofs.YtnmghgbpgpaomaaGreat
open Go.RowKit Go.Maps Go.WideMaps
set_option maxRecDepth 100000

/-- The document's disk, as plain data. -/
structure RSt where
  room : Int
  L : List Tri
  Y : List Tri
  ch : List RCh
  done : Int
  fused : Bool
  left : Int
  off : Bool

def chCells (c : RCh) : List Value := [.string c.frm, .string c.to, c.v]
def rcells (R : RSt) (vL vO vC : Value) : Array Value := #[.int .i64 R.room, vL, vO, vC, .int .i64 R.done, .bool R.fused, .int .i64 R.left, .bool R.off]

/-- Block p of w is the document's disk R; its files are the row vL, those that were synced vO, its changes vC. -/
structure RAt (w : World) (p : Nat) (vL vO vC : Value) (R : RSt) : Prop where
  own : w.heap[p]? = some (.cells (rcells R vL vO vC) 55)
  files : FilesRes w vL R.L
  old : FilesRes w vO R.Y
  row : w.ownsRow 0 90 3 vC R.ch.length (R.ch.flatMap chCells)
  data : ∀ c ∈ R.ch, Data w c.v c.b

/-- The blocks of it that turn. -/
def RMut (p : Nat) (vC : Value) (k : Nat) : Prop := k = p ∨ vC.ownBlock = some k

def RDisk (w : World) (p : Nat) (M : Nat → Prop) (R : RSt) : Prop := ∃ vL vO vC, RAt w p vL vO vC R ∧ M = RMut p vC

/-- A call that has made it be R'. -/
def RStepped (M : Nat → Prop) (w : World) (p : Nat) (R' : RSt) (w' : World) : Prop := ∃ M', RDisk w' p M' R' ∧ Fr M w w' ∧ ∀ k, M' k → M k ∨ w.heap.size ≤ k

/-- What lies in blocks that do not turn stays. -/
def RStill (M : Nat → Prop) (w : World) : Prop := ∀ k c e f, w.heap[k]? = some (.cells c e f) → M k → e = 55 ∨ e = 90

theorem RAt.still {w : World} {p : Nat} {vL vO vC : Value} {R : RSt} (h : RAt w p vL vO vC R) : RStill (RMut p vC) w := by
  intro k c e f hk hm
  rcases hm with rfl | hm
  · rw [h.own] at hk; cases hk; exact Or.inl rfl
  · rcases h.row.2 with ⟨hv, _⟩ | ⟨g, cap, cur, hv, _, hh, _⟩
    · rw [hv] at hm; cases hm
    · rw [hv] at hm; cases hm
      rw [hh] at hk; cases hk; exact Or.inr rfl

section
variable {M : Nat → Prop} {w w' : World}

theorem Fr.other (h : Fr M w w') (hs : RStill M w) {k : Nat} {c : Array Value} {e : TypeId} {f : Nat × Nat} (hk : w.heap[k]? = some (.cells c e f)) (h1 : e ≠ 55) (h2 : e ≠ 90) : w'.heap[k]? = some (.cells c e f) :=
  h.at hk (fun hm => by rcases hs k c e f hk hm with e1 | e1; exact h1 e1; exact h2 e1)

theorem Fr.otherRow (h : Fr M w w') (hs : RStill M w) {base : Nat} {e : TypeId} {size : Nat} {v : Value} {n : Nat} {xs : List Value} (hr : w.ownsRow base e size v n xs) (h1 : e ≠ 55) (h2 : e ≠ 90) : w'.ownsRow base e size v n xs := by
  refine ⟨hr.1, ?_⟩
  rcases hr.2 with h3 | ⟨g, cap, cur, hv, hg, hh, r⟩
  · exact Or.inl h3
  · exact Or.inr ⟨g, cap, cur, hv, hg, h.other hs hh h1 h2, r⟩

theorem Fr.otherData (h : Fr M w w') (hs : RStill M w) {v : Value} {b : List UInt8} (hd : Data w v b) : Data w' v b := h.otherRow hs hd (by decide) (by decide)

theorem Fr.otherFiles (h : Fr M w w') (hs : RStill M w) {v : Value} {L : List Tri} (hd : FilesRes w v L) : FilesRes w' v L :=
  ⟨h.otherRow hs hd.1 (by decide) (by decide), fun t ht => h.otherData hs (hd.2 t ht)⟩
end

theorem RAt.p_row {w : World} {p : Nat} {vL vO vC : Value} {R : RSt} (h : RAt w p vL vO vC R) : vC.ownBlock ≠ some p := by
  intro e
  rcases h.row.2 with ⟨hv, _⟩ | ⟨g, cap, cur, hv, _, hh, _⟩
  · rw [hv] at e; cases e
  · rw [hv] at e; cases e
    rw [h.own] at hh; cases hh

theorem fr_cell (w : World) (p i : Nat) (u : Value) : Fr (fun k => k = p) w (w.setCell ⟨p, i, none⟩ u) := Fr.setCell (M := fun k => k = p) w rfl u

theorem fr_cells {w w1 w2 : World} {p : Nat} (h : Fr (fun k => k = p) w w1) (h' : Fr (fun k => k = p) w1 w2) : Fr (fun k => k = p) w w2 := h.trans h' (fun _ e => Or.inl e)

/-- One cell of it is stored. -/
theorem RAt.stored {w : World} {p : Nat} {vL vO vC vL' vO' vC' : Value} {R R' : RSt} {i : Nat} {u : Value} (h : RAt w p vL vO vC R) (hc : (rcells R vL vO vC).setIfInBounds i u = rcells R' vL' vO' vC')
    (hL : FilesRes w vL' R'.L) (hO : FilesRes w vO' R'.Y) (hr : w.ownsRow 0 90 3 vC' R'.ch.length (R'.ch.flatMap chCells)) (hd : ∀ c ∈ R'.ch, Data w c.v c.b) (hp : vC'.ownBlock ≠ some p) : RAt (w.setCell ⟨p, i, none⟩ u) p vL' vO' vC' R' := by
  have fr := fr_cell w p i u
  have st : RStill (fun k => k = p) w := fun k c e f hk hm => h.still k c e f hk (Or.inl hm)
  refine ⟨?_, fr.otherFiles st hL, fr.otherFiles st hO, fr.row hr (fun g hg e => hp (e ▸ hg)), fun c hc' => fr.otherData st (hd c hc')⟩
  rw [heap_setCell_same h.own, hc]

theorem RAt.field {w : World} {p : Nat} {vL vO vC : Value} {R R' : RSt} {i : Nat} {u : Value} (h : RAt w p vL vO vC R) (hc : (rcells R vL vO vC).setIfInBounds i u = rcells R' vL vO vC) (h1 : R'.L = R.L) (h2 : R'.Y = R.Y) (h3 : R'.ch = R.ch) : RAt (w.setCell ⟨p, i, none⟩ u) p vL vO vC R' :=
  h.stored hc (h1 ▸ h.files) (h2 ▸ h.old) (h3 ▸ h.row) (h3 ▸ h.data) h.p_row

theorem RAt.fresh {w w' : World} {p : Nat} {vL vO vC : Value} {R : RSt} (h : RAt w p vL vO vC R) (hf : Fr None' w w') : RAt w' p vL vO vC R :=
  ⟨hf.at h.own (fun e => e), h.files.kept hf (stillN _), h.old.kept hf (stillN _), hf.row h.row (fun _ _ e => e), fun c hc => hf.row (h.data c hc) (fun _ _ e => e)⟩

/-- The cells, for a walk. -/
theorem RAt.cells {w : World} {p : Nat} {vL vO vC : Value} {R : RSt} (h : RAt w p vL vO vC R) :
    w.cell? ⟨p, 0, none⟩ = some (.int .i64 R.room) ∧ w.cell? ⟨p, 1, none⟩ = some vL ∧ w.cell? ⟨p, 2, none⟩ = some vO ∧ w.cell? ⟨p, 3, none⟩ = some vC ∧
    w.cell? ⟨p, 4, none⟩ = some (.int .i64 R.done) ∧ w.cell? ⟨p, 5, none⟩ = some (.bool R.fused) ∧ w.cell? ⟨p, 6, none⟩ = some (.int .i64 R.left) ∧ w.cell? ⟨p, 7, none⟩ = some (.bool R.off) ∧ ∀ i, w.frozen? ⟨p, i, none⟩ = false := by
  have := h.own
  refine ⟨?_, ?_, ?_, ?_, ?_, ?_, ?_, ?_, ?_⟩ <;> simp [World.cell?, World.frozen?, this, rcells]

/-- The power is asked. -/
def RSt.asked (R : RSt) : RSt := { R with off := R.off || (R.fused && R.left == 0) }
def RSt.counted (R : RSt) : RSt := { R with done := R.done + 1, left := if R.fused then R.left - 1 else R.left }

theorem rpower_any (p : Nat) (vL vO vC : Value) (R : RSt) (w : World) (h : RAt w p vL vO vC R) :
    Calls Tryz.prog 75 #[.pointer (some ⟨p, 0, none⟩)] w fun e w' => e = .returned (.bool (!R.asked.off)) ∧ RAt w' p vL vO vC R.asked ∧ Fr (fun k => k = p) w w' := by
  obtain ⟨c0, c1, c2, c3, c4, c5, c6, c7, z⟩ := h.cells
  have z7 := z 7
  clear z c0 c1 c2 c3 c4
  cases hf : R.fused
  · have e1 : R.asked = R := by cases R; simp_all [RSt.asked]
    rw [e1]
    rw [hf] at c5
    go_enter Tryz.func75, Tryz.ntmps75
    go_wp2
    go_ret
    exact ⟨rfl, h, Fr.refl _ _⟩
  · rw [hf] at c5
    by_cases h0 : R.left = 0
    · have e1 : R.asked = { R with off := true } := by cases R; simp_all [RSt.asked]
      rw [e1]
      rw [h0] at c6
      go_enter Tryz.func75, Tryz.ntmps75
      go_wp2
      go_ret
      exact ⟨rfl, h.field rfl rfl rfl rfl, fr_cell _ _ _ _⟩
    · have e1 : R.asked = R := by cases R; simp_all [RSt.asked]
      rw [e1]
      go_enter Tryz.func75, Tryz.ntmps75
      go_wp2
      go_ret
      exact ⟨rfl, h, Fr.refl _ _⟩

theorem rdid_any (p : Nat) (vL vO vC : Value) (R : RSt) (w : World) (h : RAt w p vL vO vC R) (h0 : 0 ≤ R.done) (h1 : R.done < 1000000000) (h2 : -1000000000 < R.left) (h3 : R.left ≤ 9223372036854775807) :
    Calls Tryz.prog 81 #[.pointer (some ⟨p, 0, none⟩)] w fun e w' => e = .returned (.int .i64 0) ∧ RAt w' p vL vO vC R.counted ∧ Fr (fun k => k = p) w w' := by
  obtain ⟨c0, c1, c2, c3, c4, c5, c6, c7, z⟩ := h.cells
  have z4 := z 4
  have z6 := z 6
  have w1 : IntKind.i64.wrap (R.done + 1) = R.done + 1 := by rw [IntKind.wrap_i64]; omega
  have w2 : IntKind.i64.wrap (R.left - 1) = R.left - 1 := by rw [IntKind.wrap_i64]; omega
  clear z c0 c1 c2 c3 c7
  cases hf : R.fused
  · have e1 : R.counted = { R with done := R.done + 1 } := by cases R; simp_all [RSt.counted]
    rw [e1]
    rw [hf] at c5
    clear h0 h1 h2 h3
    go_enter Tryz.func81, Tryz.ntmps81
    go_wp2
    go_ret
    exact ⟨rfl, h.field rfl rfl rfl rfl, fr_cell _ _ _ _⟩
  · have e1 : R.counted = { R with done := R.done + 1, left := R.left - 1 } := by cases R; simp_all [RSt.counted]
    rw [e1]
    rw [hf] at c5
    clear h0 h1 h2 h3
    go_enter Tryz.func81, Tryz.ntmps81
    go_wp2
    go_ret
    have a1 : RAt _ p vL vO vC { R with done := R.done + 1 } := h.field (i := 4) (u := .int .i64 (R.done + 1)) rfl rfl rfl rfl
    exact ⟨rfl, a1.field rfl rfl rfl rfl, fr_cells (fr_cell _ _ _ _) (fr_cell _ _ _ _)⟩
end Go.Proofs.YtnmghgbpgpaomaaGreat

namespace Go.Proofs.YtnmghgbpgpaomaaGreat
open Go.RowKit Go.Maps Go.WideMaps
set_option maxRecDepth 100000

def Rising (L : List Tri) : Prop := L.Pairwise (fun a b => a.k < b.k)

def place (f : Tri) : List Tri → List Tri
  | [] => [f]
  | t :: r => if f.k < t.k then f :: t :: r else t :: place f r

theorem fold_true (f : Tri) : ∀ (W O : List Tri), W.foldl (insStep f) (O, true) = (O ++ W, true)
  | [], O => by simp
  | t :: r, O => by
    rw [List.foldl_cons]
    have : insStep f (O, true) t = (O ++ [t], true) := by simp [insStep]
    rw [this, fold_true f r]
    simp

theorem fold_false (f : Tri) : ∀ (W O : List Tri), (if (W.foldl (insStep f) (O, false)).2 then (W.foldl (insStep f) (O, false)).1 else (W.foldl (insStep f) (O, false)).1 ++ [f]) = O ++ place f W
  | [], O => by simp [place]
  | t :: r, O => by
    rw [List.foldl_cons]
    by_cases h : f.k < t.k
    · have e : insStep f (O, false) t = (O ++ [f, t], true) := by simp [insStep, h]
      rw [e, fold_true]
      simp [place, h]
    · have e : insStep f (O, false) t = (O ++ [t], false) := by simp [insStep, h]
      rw [e, fold_false f r]
      simp [place, h]

theorem withF_eq (L : List Tri) (f : Tri) : withF L f = place f (without L f.k) := by
  unfold withF insFold
  have := fold_false f (without L f.k) []
  simpa using this

theorem mem_place {f y : Tri} : ∀ {W : List Tri}, y ∈ place f W ↔ y = f ∨ y ∈ W
  | [] => by simp [place]
  | t :: r => by
    unfold place
    split
    · simp
    · rw [List.mem_cons, mem_place (W := r), List.mem_cons]
      constructor
      · rintro (h | h | h)
        · exact Or.inr (Or.inl h)
        · exact Or.inl h
        · exact Or.inr (Or.inr h)
      · rintro (h | h | h)
        · exact Or.inr (Or.inl h)
        · exact Or.inl h
        · exact Or.inr (Or.inr h)

theorem lt_or {x y : List UInt8} (h : ¬ x < y) (hn : y ≠ x) : y < x := by
  have h1 : y ≤ x := List.not_lt.1 h
  exact Decidable.byContradiction fun h2 => hn (List.le_antisymm h1 (List.not_lt.1 h2))

theorem rising_place {f : Tri} : ∀ {W : List Tri}, Rising W → (∀ t ∈ W, t.k ≠ f.k) → Rising (place f W)
  | [], _, _ => by simp [place, Rising]
  | t :: r, h, hn => by
    have h1 := List.pairwise_cons.1 h
    unfold place
    split
    · rename_i hlt
      refine List.pairwise_cons.2 ⟨fun y hy => ?_, h⟩
      rcases List.mem_cons.1 hy with rfl | hy
      · exact hlt
      · exact List.lt_trans hlt (h1.1 y hy)
    · rename_i hlt
      refine List.pairwise_cons.2 ⟨fun y hy => ?_, rising_place h1.2 (fun z hz => hn z (by simp [hz]))⟩
      rcases mem_place.1 hy with rfl | hy
      · exact lt_or hlt (hn t (by simp))
      · exact h1.1 y hy

theorem rising_apart {L : List Tri} (h : Rising L) : Apart L := h.imp (fun {a b} hlt e => by
  rw [e] at hlt
  exact List.lt_irrefl _ hlt)

theorem rising_without {L : List Tri} (h : Rising L) (k : List UInt8) : Rising (without L k) := h.filter _

theorem rising_withF {L : List Tri} (h : Rising L) (f : Tri) : Rising (withF L f) := by
  rw [withF_eq]
  exact rising_place (rising_without h f.k) (fun t ht => by simpa using (List.mem_filter.1 ht).2)

theorem mem_without {L : List Tri} {k : List UInt8} {y : Tri} : y ∈ without L k ↔ y ∈ L ∧ y.k ≠ k := by simp [without]

theorem mem_withF {L : List Tri} {f y : Tri} : y ∈ withF L f ↔ y = f ∨ (y ∈ L ∧ y.k ≠ f.k) := by
  rw [withF_eq, mem_place, mem_without]

/-- T and L have the same names and bytes; L rises. -/
structure Alike (T L : List Tri) : Prop where
  apart : Apart T
  rising : Rising L
  same : ∀ k b, (∃ t ∈ T, t.k = k ∧ t.b = b) ↔ (∃ t ∈ L, t.k = k ∧ t.b = b)

theorem Alike.put {T L : List Tri} (h : Alike T L) {t f : Tri} (hT : Apart (put T t)) (hk : f.k = t.k) (hb : f.b = t.b) : Alike (put T t) (withF L f) := by
  refine ⟨hT, rising_withF h.rising f, fun k b => ?_⟩
  constructor
  · rintro ⟨x, hx, h1, h2⟩
    rcases mem_put.1 hx with rfl | ⟨hx, hne⟩
    · exact ⟨f, mem_withF.2 (Or.inl rfl), by rw [hk]; exact h1, by rw [hb]; exact h2⟩
    · obtain ⟨y, hy, e1, e2⟩ := (h.same k b).1 ⟨x, hx, h1, h2⟩
      exact ⟨y, mem_withF.2 (Or.inr ⟨hy, by rw [e1, ← h1, hk]; exact hne⟩), e1, e2⟩
  · rintro ⟨x, hx, h1, h2⟩
    rcases mem_withF.1 hx with rfl | ⟨hx, hne⟩
    · exact ⟨t, mem_put.2 (Or.inl rfl), by rw [← hk]; exact h1, by rw [← hb]; exact h2⟩
    · obtain ⟨y, hy, e1, e2⟩ := (h.same k b).2 ⟨x, hx, h1, h2⟩
      exact ⟨y, mem_put.2 (Or.inr ⟨hy, by rw [e1, ← h1, ← hk]; exact hne⟩), e1, e2⟩

theorem Alike.del {T L : List Tri} (h : Alike T L) (k : List UInt8) : Alike (del T k) (without L k) := by
  refine ⟨h.apart.filter _, rising_without h.rising k, fun k' b => ?_⟩
  constructor
  · rintro ⟨x, hx, h1, h2⟩
    obtain ⟨hx, hne⟩ := mem_del.1 hx
    obtain ⟨y, hy, e1, e2⟩ := (h.same k' b).1 ⟨x, hx, h1, h2⟩
    exact ⟨y, mem_without.2 ⟨hy, by rw [e1, ← h1]; exact hne⟩, e1, e2⟩
  · rintro ⟨x, hx, h1, h2⟩
    obtain ⟨hx, hne⟩ := mem_without.1 hx
    obtain ⟨y, hy, e1, e2⟩ := (h.same k' b).2 ⟨x, hx, h1, h2⟩
    exact ⟨y, mem_del.2 ⟨hy, by rw [e1, ← h1]; exact hne⟩, e1, e2⟩

/-- The same name has the same bytes in both, or is in none. -/
theorem Alike.get {T L : List Tri} (h : Alike T L) (k : List UInt8) : (get T k = none ∧ get L k = none) ∨ ∃ t u, get T k = some t ∧ get L k = some u ∧ t.b = u.b := by
  cases hg : Go.Proofs.YtnmghgbpgpaomaaGreat.get T k with
  | none =>
    refine Or.inl ⟨rfl, ?_⟩
    cases hl : Go.Proofs.YtnmghgbpgpaomaaGreat.get L k with
    | none => rfl
    | some u =>
      obtain ⟨hu, huk⟩ := get_mem hl
      obtain ⟨x, hx, e1, _⟩ := (h.same k u.b).2 ⟨u, hu, huk, rfl⟩
      have := get_of_mem h.apart hx
      rw [e1, hg] at this
      cases this
  | some t =>
    obtain ⟨ht, htk⟩ := get_mem hg
    obtain ⟨y, hy, e1, e2⟩ := (h.same k t.b).1 ⟨t, ht, htk, rfl⟩
    have := get_of_mem (rising_apart h.rising) hy
    rw [e1] at this
    exact Or.inr ⟨t, y, rfl, this, e2.symm⟩

theorem Alike.perm {T L : List Tri} (h : Alike T L) : (T.map fun t => (t.k, t.b)).Perm (L.map fun t => (t.k, t.b)) := by
  have nd : ∀ {Q : List Tri}, Apart Q → (Q.map fun t => (t.k, t.b)).Nodup := fun {Q} hQ => by
    refine List.pairwise_map.2 (hQ.imp (fun {a b} hne e => hne ?_))
    exact (Prod.mk.inj e).1
  refine (List.perm_ext_iff_of_nodup (nd h.apart) (nd (rising_apart h.rising))).2 (fun x => ?_)
  obtain ⟨k, b⟩ := x
  simp only [List.mem_map, Prod.mk.injEq]
  exact h.same k b

theorem Alike.length {T L : List Tri} (h : Alike T L) : T.length = L.length := by
  have := h.perm.length_eq
  simpa using this

theorem Alike.used {T L : List Tri} (h : Alike T L) : used T = used L := by
  have := (h.perm.map (fun x => x.2.length)).sum_nat
  rw [List.map_map, List.map_map] at this
  exact this

theorem Alike.sorted {T L : List Tri} (h : Alike T L) : sortedFiles T = kb L := by
  have hk : sortedNames T = L.map (fun t => t.k) := by
    unfold sortedNames
    refine List.Perm.eq_of_pairwise (le := fun a b => a ≤ b) (fun a b _ _ h1 h2 => List.le_antisymm h1 h2) ?_ ?_ ((List.mergeSort_perm _ _).trans ?_)
    · have := List.pairwise_mergeSort (le := fun x y : List UInt8 => decide (x ≤ y)) (fun a b c h1 h2 => by simp at *; exact List.le_trans h1 h2) (fun a b => by simp; exact List.le_total a b) (T.map fun t => t.k)
      exact this.imp (fun {a b} h => by simpa using h)
    · exact List.pairwise_map.2 (h.rising.imp (fun {a b} h => List.le_of_lt h))
    · have := h.perm.map (fun x => x.1)
      rw [List.map_map, List.map_map] at this
      exact this
  unfold sortedFiles kb
  rw [hk, List.map_map]
  refine List.map_congr_left (fun t ht => ?_)
  show (t.k, bAt T t.k) = (t.k, t.b)
  rcases h.get t.k with ⟨_, h2⟩ | ⟨x, u, h1, h2, h3⟩
  · rw [get_of_mem (rising_apart h.rising) ht] at h2
    cases h2
  · rw [get_of_mem (rising_apart h.rising) ht] at h2
    cases h2
    unfold bAt
    rw [h1]
    simp only
    rw [h3]
end Go.Proofs.YtnmghgbpgpaomaaGreat

namespace Go.Proofs.YtnmghgbpgpaomaaGreat
open Go.RowKit Go.Maps Go.WideMaps
set_option maxRecDepth 100000

theorem used_step {L : List Tri} {j : Nat} {t : Tri} (ht : L[j]? = some t) : used (L.take (j + 1)) = used (L.take j) + t.b.length := by
  rw [List.take_add_one, ht]
  simp [used]

theorem used_take (L : List Tri) (j : Nat) : used (L.take j) ≤ used L := by
  have h : used L = used (L.take j) + used (L.drop j) := by
    unfold used
    rw [← List.sum_append_nat, ← List.map_append, List.take_append_drop]
  omega

set_option maxHeartbeats 4000000 in
theorem rused_any (p : Nat) (vL vO vC : Value) (R : RSt) (w : World) (h : RAt w p vL vO vC R) (hl : R.L.length ≤ 1000000000) (hu : used R.L < 35184372088832) :
    Calls Tryz.prog 76 #[.pointer (some ⟨p, 0, none⟩)] w fun e w' => e = .returned (.int .i64 (used R.L)) ∧ w = w' := by
  obtain ⟨_, c1, _⟩ := h.cells
  obtain ⟨a, c, rfl, hc⟩ := h.files.cells
  have hl' : (R.L.length : Int) ≤ 1000000000 := by omega
  clear h
  go_enter Tryz.func76, Tryz.ntmps76
  go_wp2_with fail
  go_loopw [3, 4] (fun n i wr => ∃ j : Nat, j ≤ R.L.length ∧ i = .int .i64 j ∧ n = .int .i64 (used (R.L.take j)) ∧ wr = w) (fun _ i _ => R.L.length - (intOf i).toNat)
  case atStart => exact ⟨0, Nat.zero_le _, rfl, rfl, rfl⟩
  case round =>
    obtain ⟨j, hj, rfl, rfl, rfl⟩ := hrel
    by_cases hlt : j < R.L.length
    · obtain ⟨t, ht⟩ : ∃ t, R.L[j]? = some t := ⟨R.L[j], by simp [hlt]⟩
      obtain ⟨g, rfl, d0, d1, hD⟩ := hc j t ht
      obtain ⟨ta, tc, htv⟩ := row_slice hD
      rw [htv] at d1
      have hst := used_step ht
      have hle := used_take R.L (j + 1)
      obtain ⟨u, hU⟩ : ∃ u, used (R.L.take j) = u := ⟨_, rfl⟩
      rw [hU] at hst ⊢
      have k0 : (0 : Int) ≤ (j : Int) := by omega
      have k1 : (j : Int) < (R.L.length : Int) := by omega
      have k2 : IntKind.i64.wrap ((u : Int) + t.b.length) = u + t.b.length := by rw [IntKind.wrap_i64]; omega
      have HS : Hid (used (R.L.take (j + 1)) = u + t.b.length) := hst
      clear hc ht hD htv d0 hst hU hle
      go_wp2_with fail
      exact ⟨⟨j + 1, by omega, by go_num, by rw [HS.out]; rfl, trivial⟩, by simp [intOf]; omega⟩
    · have hjl : j = R.L.length := by omega
      subst hjl
      rw [List.take_length]
      clear hc
      go_wp2
      go_ret
      exact ⟨rfl, rfl⟩

/-- 'append([]byte{}, x...)'. -/
theorem app_clone {ops : Array Oper} {rest : List Oper} {o : Oper} {a : Act} {w : World} {Q : Exit → Act → World → Prop} (hgd : o.guard = none) (s x : Operand)
    (ho : o.op = .call { callee := .builtin .append, args := #[s, x], argTypes := #[31, 31] })
    {v sv : Value} {b : List UInt8} (hs : a.eval s = v) (hown : w.ownsRow 0 5 1 v 0 []) (hx : a.eval x = sv) (hd : Bytes w sv b) (hb : b.length ≤ 70368744177664)
    (h : ∀ v' w', Data w' v' b → w.grownBy w' v.ownBlock → wpList Tryz.prog ops Q rest (a.put o.dst v') w') : wpList Tryz.prog ops Q (o :: rest) a w := by
  obtain ⟨i0, hi, hz0, hz1, hz2⟩ := info_parts Tryz.infoU
  rcases hd with ⟨rfl, rfl⟩ | ⟨ad, c, rfl, hc⟩
  · exact wpList_append_own_none hgd s x 31 ho 0 5 i0 1 Tryz.underlying31 hi v 0 [] hs hown hx (h v w hown ⟨rfl, rfl, rfl, Nat.le_refl _, fun _ _ _ => rfl⟩)
  · have hlen : (u8s b).length = b.length * 1 := by simp [u8s]
    refine wpList_append_own_at _ hgd s x 31 ho 0 5 i0 (.int .u8 0) 1 1 Tryz.underlying31 hi hz0 hz1 hz2 rfl (by decide) v 0 [] hs hown ad b.length c (u8s b) hx hlen hc (u8s_one b) (by unfold maxLen; omega) (by omega) (Nat.zero_le _) ?_
    intro v' w' h2 h3 _ _
    exact h v' w' (by simpa [Data] using h2) h3

theorem empty_row (w : World) : (w.alloc (.cells #[] 5)).ownsRow 0 5 1 (.slice (some ⟨w.heap.size, 0, none⟩) 0 0) 0 [] :=
  ⟨rfl, Or.inr ⟨w.heap.size, 0, #[], rfl, Nat.zero_le _, (MapKept.heap_alloc w _).1, Nat.le_refl _, Nat.zero_le _, rfl, rfl⟩⟩

/-- Read. -/
def RSt.read (R : RSt) (k : List UInt8) : List UInt8 × Int :=
  if R.off then ([], 13) else match get R.L k with
    | none => ([], 12)
    | some t => (t.b, 0)

set_option maxHeartbeats 4000000 in
theorem rread_any (p : Nat) (vL vO vC : Value) (R : RSt) (s : ByteArray) (w : World) (h : RAt w p vL vO vC R) (hl : R.L.length ≤ 1000000000) (hu : used R.L < 35184372088832) :
    Calls Tryz.prog 43 #[.pointer (some ⟨p, 0, none⟩), .string s] w fun e w' => ∃ v, e = .returned (.tuple #[v, .int .i64 (R.read s.data.toList).2]) ∧ Data w' v (R.read s.data.toList).1 ∧ Fr None' w w' := by
  obtain ⟨_, c1, _, _, _, _, _, c7, _⟩ := h.cells
  unfold RSt.read
  cases ho : R.off
  · rw [ho] at c7
    have hF := rfind_any vL R.L s w h.files hl
    rcases find_get R.L s.data.toList with ⟨e1, e2⟩ | ⟨i, t, e1, e2, e3, e4⟩
    · rw [e1] at hF
      rw [e2]
      clear h e1 e2
      go_enter Tryz.func43, Tryz.ntmps43
      go_wp2_with fail
      refine hF.mono ?_
      rintro e w1 ⟨rfl, rfl⟩
      go_wp2
      go_ret2
      exact ⟨_, rfl, Data.nil _, Fr.refl _ _⟩
    · rw [e1] at hF
      rw [e3]
      obtain ⟨a, c, rfl, hcl⟩ := h.files.cells
      obtain ⟨g, rfl, d0, d1, hD⟩ := hcl i t e2
      have hlt := (List.getElem?_eq_some_iff.1 e2).1
      have k0 : (0 : Int) ≤ (i : Int) := by omega
      have k1 : (i : Int) < (R.L.length : Int) := by omega
      have hb : t.b.length ≤ 70368744177664 := by
        have h1 : t.b.length ≤ used R.L := by
          have := used_step e2
          have := used_take R.L (i + 1)
          omega
        omega
      obtain ⟨wA, hwA⟩ : ∃ wA, w.alloc (.cells #[] 5) = wA := ⟨_, rfl⟩
      have fA : Fr None' w wA := hwA ▸ Fr.alloc None' _ _
      have hE : wA.ownsRow 0 5 1 (.slice (some ⟨w.heap.size, 0, none⟩) 0 0) 0 [] := hwA ▸ empty_row w
      have a1 := fA.cell c1
      have b1 := fA.cell d1
      have HD : Hid (Bytes wA t.v t.b ∧ t.b.length ≤ 70368744177664 ∧ Fr None' w wA ∧ wA.heap.size = w.heap.size + 1) := ⟨Data.bytes (fA.row hD (fun _ _ e => e)), hb, fA, by rw [← hwA]; exact Array.size_push _⟩
      clear h e1 e2 e3 e4 hcl d0 hD hb fA d1
      go_enter Tryz.func43, Tryz.ntmps43
      go_wp2_with fail
      refine hF.mono ?_
      rintro e w1 ⟨rfl, rfl⟩
      clear hF
      go_wp2_with (first
        | (at_builtin; refine app_clone rfl _ _ rfl rfl hE rfl HD.out.1 HD.out.2.1 ?_; intro v2 w2 d2 g2)
        | go_in)
      all_goals try go_wp2
      go_ret2
      refine ⟨_, rfl, d2, HD.out.2.2.1.trans (Fr.grown (M := fun i => i = w.heap.size) g2 (fun k e => by cases e; rfl)) (fun i e => Or.inr (by omega))⟩
  · rw [ho] at c7
    clear h
    go_enter Tryz.func43, Tryz.ntmps43
    go_wp2
    go_ret2
    exact ⟨_, rfl, Data.nil _, Fr.refl _ _⟩
end Go.Proofs.YtnmghgbpgpaomaaGreat

namespace Go.Proofs.YtnmghgbpgpaomaaGreat
open Go.RowKit Go.Maps Go.WideMaps
set_option maxRecDepth 100000

structure RSt.fine (R : RSt) : Prop where
  d0 : 0 ≤ R.done
  d1 : R.done < 1000000000
  l0 : -1000000000 < R.left
  l1 : R.left ≤ 9223372036854775807
  len : R.L.length ≤ 400000000
  chs : R.ch.length ≤ 400000000

theorem RAt.disk {w : World} {p : Nat} {vL vO vC : Value} {R : RSt} (h : RAt w p vL vO vC R) : RDisk w p (RMut p vC) R := ⟨vL, vO, vC, h, rfl⟩

theorem fr_mut {w w' : World} {p : Nat} {vC : Value} (h : Fr (fun k => k = p) w w') : Fr (RMut p vC) w w' := h.mono (fun _ e => Or.inl e)

/-- Sync. -/
def RSt.settled (R : RSt) : RSt := { R with Y := R.L, ch := [] }
def RSt.sync (R : RSt) : Int × RSt := if R.asked.off then (13, R.asked) else (0, R.asked.settled.counted)

set_option maxHeartbeats 2000000 in
theorem rsync_any (p : Nat) (M : Nat → Prop) (R : RSt) (w : World) (h : RDisk w p M R) (hR : R.fine) :
    Calls Tryz.prog 53 #[.pointer (some ⟨p, 0, none⟩)] w fun e w' => e = .returned (.int .i64 R.sync.1) ∧ RStepped M w p R.sync.2 w' := by
  obtain ⟨vL, vO, vC, h, rfl⟩ := h
  obtain ⟨la, lc, hvL⟩ := row_slice h.files.1
  obtain ⟨n, hn⟩ : ∃ n, R.L.length = n := ⟨_, rfl⟩
  rw [hn] at hvL
  subst hvL
  clear hn
  have hP := rpower_any p _ vO vC R w h
  unfold RSt.sync
  cases ho : R.asked.off
  · rw [ho] at hP
    have HR : Hid (R.fine) := hR
    clear h hR
    go_enter Tryz.func53, Tryz.ntmps53
    go_wp2_with fail
    refine hP.mono ?_
    rintro e w1 ⟨rfl, h1, f1⟩
    clear hP
    obtain ⟨_, c1, c2, c3, _, _, _, _, z⟩ := h1.cells
    have z2 := z 2
    have z3 := z 3
    have h2 : RAt (w1.setCell ⟨p, 2, none⟩ (.slice la n lc)) p (.slice la n lc) (.slice la n lc) vC { R.asked with Y := R.asked.L } := h1.stored rfl h1.files h1.files h1.row h1.data h1.p_row
    have h3 : RAt ((w1.setCell ⟨p, 2, none⟩ (.slice la n lc)).setCell ⟨p, 3, none⟩ (.slice none 0 0)) p (.slice la n lc) (.slice la n lc) (.slice none 0 0) R.asked.settled := h2.stored rfl h2.files h2.old ⟨rfl, Or.inl ⟨rfl, rfl⟩⟩ (fun c hc => by simp [RSt.settled] at hc) (by simp [Value.ownBlock])
    have hD := rdid_any p _ _ (.slice none 0 0) R.asked.settled _ h3 HR.out.d0 HR.out.d1 HR.out.l0 HR.out.l1
    have f3 : Fr (fun k => k = p) w ((w1.setCell ⟨p, 2, none⟩ (.slice la n lc)).setCell ⟨p, 3, none⟩ (.slice none 0 0)) := fr_cells f1 (fr_cells (fr_cell _ _ _ _) (fr_cell _ _ _ _))
    clear z h1 h2 h3 f1
    go_wp2_with fail
    refine hD.mono ?_
    rintro e w2 ⟨rfl, h2, f2⟩
    clear hD
    go_wp2
    go_ret
    refine ⟨rfl, _, h2.disk, fr_mut (fr_cells f3 f2), fun k hk => ?_⟩
    rcases hk with e | e
    · exact Or.inl (Or.inl e)
    · cases e
  · rw [ho] at hP
    clear h hR
    go_enter Tryz.func53, Tryz.ntmps53
    go_wp2_with fail
    refine hP.mono ?_
    rintro e w1 ⟨rfl, h1, f1⟩
    clear hP
    go_wp2
    go_ret
    exact ⟨rfl, _, h1.disk, fr_mut f1, fun k hk => Or.inl hk⟩

/-- Fuse. -/
def RSt.fuse (R : RSt) (n : Int) : RSt := { R with fused := decide (0 ≤ n), left := max n 0 }

set_option maxHeartbeats 2000000 in
theorem rfuse_any (p : Nat) (M : Nat → Prop) (R : RSt) (n : Int) (w : World) (h : RDisk w p M R) :
    Calls Tryz.prog 23 #[.pointer (some ⟨p, 0, none⟩), .int .i64 n] w fun e w' => e = .returned (.tuple #[]) ∧ RStepped M w p (R.fuse n) w' := by
  obtain ⟨vL, vO, vC, h, rfl⟩ := h
  obtain ⟨_, _, _, _, _, c5, c6, _, z⟩ := h.cells
  have z5 := z 5
  have z6 := z 6
  clear z
  go_enter Tryz.func23, Tryz.ntmps23
  go_wp2_with fail
  go_end0
  have h1 : RAt (w.setCell ⟨p, 5, none⟩ (.bool (decide (0 ≤ n)))) p vL vO vC { R with fused := decide (0 ≤ n) } := h.field rfl rfl rfl rfl
  exact ⟨rfl, _, (h1.field (R' := R.fuse n) rfl rfl rfl rfl).disk, fr_mut (fr_cells (fr_cell _ _ _ _) (fr_cell _ _ _ _)), fun k hk => Or.inl hk⟩

theorem Tryz.infoRC : (Tryz.prog.info? 90).map (fun i => (i.zero, i.size, i.bytes)) = some (some (.agg #[.string ByteArray.empty, .string ByteArray.empty, .slice none 0 0]), 3, 56) := by kernel_rfl

theorem three_new (w : World) (x y u : Value) (t : TypeId) : ∀ j v, [x, y, u][j]? = some v → (w.alloc (.cells #[x, y, u] t)).cell? ((⟨w.heap.size, 0, none⟩ : Addr).add j) = some v := by
  intro j v hj
  have hh := (MapKept.heap_alloc w (.cells #[x, y, u] t)).1
  have e : (⟨w.heap.size, 0, none⟩ : Addr).add j = ⟨w.heap.size, j, none⟩ := by unfold Addr.add; split <;> simp_all
  rw [e]
  unfold World.cell?
  simp only [hh]
  simpa using hj

/-- One change more, as one step of a region that draws its order. -/
theorem step_ch {ops : Array Oper} {o : Oper} {a : Act} {K : Act → World → Prop} {Q : Exit → Act → World → Prop} {E : Prop} {w : World} (hgd : o.guard = none) (s x : Operand)
    (ho : o.op = .call { callee := .builtin .append, args := #[s, x], argTypes := #[53, 53] })
    {v : Value} {n : Nat} {xs : List Value} (hs : a.eval s = v) (hown : w.ownsRow 0 90 3 v n xs) {frm to : ByteArray} {ca : Option Addr} {cn cc : Nat}
    (hx : a.eval x = .slice (some ⟨w.heap.size, 0, none⟩) 1 1) (hb : n ≤ 400000000)
    (h : ∀ v' w', w'.ownsRow 0 90 3 v' (n + 1) (xs ++ [.string frm, .string to, .slice ca cn cc]) → (w.alloc (.cells #[.string frm, .string to, .slice ca cn cc] 90)).grownBy w' v.ownBlock → (v'.ownBlock = v.ownBlock ∨ v'.ownBlock = some (w.heap.size + 1)) → K (a.put o.dst v') w') :
    if Region.wanted o (yielded ops a.tmps) = true then Oper.wp Tryz.prog o a (w.alloc (.cells #[.string frm, .string to, .slice ca cn cc] 90)) K Q else E := by
  obtain ⟨i0, hi, hz0, hz1, hz2⟩ := info_parts Tryz.infoRC
  refine step_append_lies _ hgd s x 53 ho 0 90 i0 _ 3 56 Tryz.underlying53 hi hz0 hz1 hz2 rfl (by decide) v n xs hs (hown.alloc _) ⟨w.heap.size, 0, none⟩ 1 1 [.string frm, .string to, .slice ca cn cc] hx rfl (three_new _ _ _ _ _) (fun u hu => by
    simp at hu
    rcases hu with rfl | rfl | rfl <;> rfl) (by decide) (by unfold maxLen; omega) (by omega) (Nat.zero_le _) (w.heap.size + 1) (by exact Array.size_push _) ?_
  intro g cap w' h1 h2 h3 _
  refine h _ w' h1 h2 ?_
  rcases h3 with h3 | h3
  · exact Or.inl h3.symm
  · exact Or.inr (by rw [h3]; rfl)

/-- One change more lies in its row. -/
theorem RAt.appended {w w4 : World} {p : Nat} {vL vO vC v4 : Value} {R : RSt} {c : RCh} {o : Obj} (h : RAt w p vL vO vC R) (hc : Data w c.v c.b) (hg : (w.drew.alloc o).grownBy w4 vC.ownBlock)
    (ho : w4.ownsRow 0 90 3 v4 (R.ch.length + 1) (R.ch.flatMap chCells ++ chCells c)) (hb : v4.ownBlock = vC.ownBlock ∨ v4.ownBlock = some (w.heap.size + 1)) :
    RAt (w4.setCell ⟨p, 3, none⟩ v4) p vL vO v4 { R with ch := R.ch ++ [c] } ∧ Fr (RMut p vC) w (w4.setCell ⟨p, 3, none⟩ v4) ∧ ∀ k, RMut p v4 k → RMut p vC k ∨ w.heap.size ≤ k := by
  have hp := lt_of_some h.own
  have f4 : Fr (fun k => vC.ownBlock = some k) w w4 := (((Fr.drew None' w).then (Fr.alloc None' _ o)).mono (fun _ e => e.elim)).trans (Fr.grown (M := fun k => vC.ownBlock = some k) hg (fun k e => e)) (fun _ e => Or.inl e)
  have st4 : RStill (fun k => vC.ownBlock = some k) w := fun k c e f hk hm => h.still k c e f hk (Or.inr hm)
  have own4 := f4.at h.own h.p_row
  have fp := fr_cell w4 p 3 v4
  have stp : RStill (fun k => k = p) w4 := fun k c e f hk hm => by
    subst hm
    rw [own4] at hk
    cases hk
    exact Or.inl rfl
  have hne : v4.ownBlock ≠ some p := by
    rcases hb with e | e
    · rw [e]; exact h.p_row
    · rw [e]
      intro e'
      injection e' with e'
      omega
  refine ⟨⟨?_, fp.otherFiles stp (f4.otherFiles st4 h.files), fp.otherFiles stp (f4.otherFiles st4 h.old), ?_, ?_⟩, ?_, ?_⟩
  · rw [heap_setCell_same own4]
    rfl
  · refine fp.row ?_ (fun g hg e => hne (e ▸ hg))
    simpa using ho
  · intro d hd
    rcases List.mem_append.1 hd with hd | hd
    · exact fp.otherData stp (f4.otherData st4 (h.data d hd))
    · simp at hd
      subst hd
      exact fp.otherData stp (f4.otherData st4 hc)
  · exact (f4.mono (fun _ e => Or.inr e)).trans fp (fun _ e => Or.inl (Or.inl e))
  · intro k hk
    rcases hk with e | e
    · exact Or.inl (Or.inl e)
    · rcases hb with e' | e'
      · exact Or.inl (Or.inr (e' ▸ e))
      · rw [e'] at e
        injection e with e
        exact Or.inr (by omega)

/-- A change is done. -/
def RSt.did (R : RSt) (c : RCh) : RSt := { R with L := c.app R.L, ch := R.ch ++ [c] }.counted

set_option maxHeartbeats 4000000 in
theorem rchange_any (p : Nat) (vL vO vC : Value) (R : RSt) (c : RCh) (w : World) (h : RAt w p vL vO vC R) (hR : R.fine) (hc : Data w c.v c.b) :
    Calls Tryz.prog 77 #[.pointer (some ⟨p, 0, none⟩), .agg #[.string c.frm, .string c.to, c.v]] w fun e w' => e = .returned (.int .i64 0) ∧ RStepped (RMut p vC) w p (R.did c) w' := by
  obtain ⟨frm, to, cv, cb⟩ := c
  simp only at hc ⊢
  obtain ⟨ca, cc, rfl⟩ := row_slice hc
  obtain ⟨wA, hwA⟩ : ∃ wA, w.alloc (.cells #[.string frm, .string to, .slice ca cb.length cc] 90) = wA := ⟨_, rfl⟩
  have fA : Fr None' w wA := hwA ▸ Fr.alloc None' _ _
  have nA : wA.heap[w.heap.size]? = some (.cells #[.string frm, .string to, .slice ca cb.length cc] 90) := hwA ▸ (MapKept.heap_alloc w _).1
  have hA := h.fresh fA
  have hcA : Data wA (.slice ca cb.length cc) cb := fA.row hc (fun _ _ e => e)
  have hp := lt_of_some h.own
  have hCh := rchanged_any vL R.L ⟨frm, to, .slice ca cb.length cc, cb⟩ wA.drew (hA.files.kept (Fr.drew None' _) (stillN _)) (by have := hR.len; omega) ((Fr.drew None' wA).row hcA (fun _ _ e => e))
  simp only at hCh
  have HH : Hid (RAt wA p vL vO vC R ∧ R.fine ∧ Data wA (.slice ca cb.length cc) cb ∧ Fr None' w wA ∧ p < w.heap.size) := ⟨hA, hR, hcA, fA, hp⟩
  have hS : ∀ w', Fr (fun k => k = p) wA w' → w'.cell? ⟨w.heap.size, 0, none⟩ = some (.string frm) ∧ w'.cell? ⟨w.heap.size, 1, none⟩ = some (.string to) ∧ w'.cell? ⟨w.heap.size, 2, none⟩ = some (.slice ca cb.length cc) := fun w' f => by
    have n := f.at nA (fun e => by omega)
    refine ⟨?_, ?_, ?_⟩ <;> simp [World.cell?, n]
  obtain ⟨_, c1, _, c3, _, _, _, _, z⟩ := hA.cells
  have a1 : wA.drew.cell? ⟨p, 1, none⟩ = some vL := c1
  have z1 : wA.drew.frozen? ⟨p, 1, none⟩ = false := z 1
  have HS : Hid _ := hS
  clear hS h hA hcA hR hc c1 c3 z nA fA
  obtain ⟨la, lc, hvL⟩ := row_slice HH.out.1.files.1
  obtain ⟨n, hn⟩ : ∃ n, R.L.length = n := ⟨_, rfl⟩
  rw [hn] at hvL
  subst hvL
  clear hn
  obtain ⟨ra, rc, hvC⟩ := row_slice HH.out.1.row
  obtain ⟨m, hm⟩ : ∃ m, R.ch.length = m := ⟨_, rfl⟩
  have HM : Hid (R.ch.length = m) := hm
  rw [hm] at hvC
  subst hvC
  clear hm
  go_enter Tryz.func77, Tryz.ntmps77
  go_wp2_with fail
  obtain ⟨x0, x1, x2⟩ := HS.out wA.drew (Fr.drew _ _)
  go_region_with (go_at_call 61; refine hCh.mono ?_; rintro e w2 ⟨v2, rfl, R2, f2⟩; obtain ⟨la2, lc2, hv2⟩ := row_slice R2.1; subst hv2; have b1 := f2.cell a1; have zz : w2.frozen? ⟨p, 1, none⟩ = false := ((HH.out.1.fresh ((Fr.drew None' _).then f2)).cells.2.2.2.2.2.2.2.2 1))
  all_goals
    have h2 := HH.out.1.fresh ((Fr.drew None' wA).then f2)
    have h3 : RAt (w2.setCell ⟨p, 1, none⟩ (.slice la2 (RCh.app ⟨frm, to, .slice ca cb.length cc, cb⟩ R.L).length lc2)) p (.slice la2 (RCh.app ⟨frm, to, .slice ca cb.length cc, cb⟩ R.L).length lc2) vO (.slice ra m rc) { R with L := RCh.app ⟨frm, to, .slice ca cb.length cc, cb⟩ R.L } := h2.stored rfl R2 h2.old h2.row h2.data h2.p_row
    have f3 : Fr (fun k => k = p) wA (w2.setCell ⟨p, 1, none⟩ (.slice la2 (RCh.app ⟨frm, to, .slice ca cb.length cc, cb⟩ R.L).length lc2)) := fr_cells (((Fr.drew None' _).then f2).mono (fun _ e => e.elim)) (fr_cell _ _ _ _)
    generalize w2.setCell ⟨p, 1, none⟩ (.slice la2 (RCh.app ⟨frm, to, .slice ca cb.length cc, cb⟩ R.L).length lc2) = w3 at h3 f3 ⊢
    clear h2 R2 f2 b1 zz a1 z1 hCh
    obtain ⟨y0, y1, y2⟩ := HS.out w3 f3
    obtain ⟨_, d1, d2, d3, _, _, _, _, z⟩ := h3.cells
    have z3 := z 3
    clear x0 x1 x2 z
    go_wp2_with fail
    have hr3 : w3.drew.ownsRow 0 90 3 (.slice ra m rc) R.ch.length (R.ch.flatMap chCells) := (Fr.drew None' w3).row h3.row (fun _ _ e => e)
    have hpr : some p ≠ (Value.slice ra m rc).ownBlock := fun e => h3.p_row e.symm
    have hp3 : p < w3.drew.heap.size := lt_of_some h3.own
    have al : ∀ o, (w3.drew.alloc o).cell? ⟨p, 3, none⟩ = some (.slice ra m rc) := fun o => ((Fr.drew None' w3).then (Fr.alloc None' _ o)).cell d3
    have al' : ∀ o, (w3.alloc o).cell? ⟨p, 3, none⟩ = some (.slice ra m rc) := fun o => (Fr.alloc None' w3 o).cell d3
    have al2 : ∀ o i, (w3.drew.alloc o).frozen? ⟨p, i, none⟩ = false := fun o i => (h3.fresh ((Fr.drew None' w3).then (Fr.alloc None' _ o))).cells.2.2.2.2.2.2.2.2 i
    have d3' : w3.drew.cell? ⟨p, 3, none⟩ = some (.slice ra m rc) := d3
    have y0' : w3.drew.cell? ⟨w.heap.size, 0, none⟩ = some (.string frm) := y0
    have y1' : w3.drew.cell? ⟨w.heap.size, 1, none⟩ = some (.string to) := y1
    have y2' : w3.drew.cell? ⟨w.heap.size, 2, none⟩ = some (.slice ca cb.length cc) := y2
    go_region_law (refine step_ch rfl (.tmp 18) (.tmp 20) rfl (by first | rfl | simp [Act.eval, Act.put]) hr3 (by first | rfl | simp [Act.eval, Act.put]) (by have := HH.out.2.1.chs; omega) ?_; intro v4 w4 own4 g4 o4; obtain ⟨xa, xc, hv4⟩ := row_slice own4; subst hv4; have bp := g4.block p (by rw [show ∀ o, (w3.drew.alloc o).heap.size = w3.drew.heap.size + 1 from fun o => Array.size_push _]; omega) hpr; have e3 : w4.cell? ⟨p, 3, none⟩ = some (.slice ra m rc) := (World.cell?_of_block (a := ⟨p, 3, none⟩) bp).trans (al _); have e4 : w4.frozen? ⟨p, 3, none⟩ = false := (World.frozen?_of_block (a := ⟨p, 3, none⟩) bp).trans (al2 _ 3))
    all_goals
      have hM := HM.out
      have hF := HH.out.2.1
      have hcd : Data w3 (.slice ca cb.length cc) cb := f3.otherData (fun k c e f hk hm => HH.out.1.still k c e f hk (Or.inl hm)) HH.out.2.2.1
      obtain ⟨h5, f5, g5⟩ := h3.appended (c := ⟨frm, to, .slice ca cb.length cc, cb⟩) hcd g4 own4 o4
      have hD := rdid_any p _ _ _ _ _ h5 hF.d0 hF.d1 hF.l0 hF.l1
      have fw3 : Fr (RMut p (.slice ra m rc)) w w3 := (HH.out.2.2.2.1.mono (fun _ e => e.elim)).trans f3 (fun _ e => Or.inl (Or.inl e))
      generalize w4.setCell ⟨p, 3, none⟩ (.slice xa (R.ch.length + 1) xc) = w5 at h5 f5 hD ⊢
      have HZ : Hid (Fr (RMut p (.slice ra m rc)) w w5 ∧ ∀ k, RMut p (.slice xa (R.ch.length + 1) xc) k → RMut p (.slice ra m rc) k ∨ w.heap.size ≤ k) := ⟨fw3.trans f5 (fun _ e => Or.inl e), fun k hk => (g5 k hk).imp id (fun e => Nat.le_trans fw3.size e)⟩
      clear al al' al2 d3' y0' y1' y2' y0 y1 y2 d1 d2 d3 z3 e3 e4 bp own4 g4 o4 hr3 hpr hp3 h3 f3 fw3 f5 g5 hcd hM hF h5
      go_wp2_with fail
      refine hD.mono ?_
      rintro e w6 ⟨rfl, h6, f6⟩
      clear hD
      go_wp2
      go_ret
      exact ⟨rfl, _, h6.disk, HZ.out.1.trans f6 (fun _ e => Or.inl (Or.inl e)), HZ.out.2⟩
end Go.Proofs.YtnmghgbpgpaomaaGreat

namespace Go.Proofs.YtnmghgbpgpaomaaGreat
open Go.RowKit Go.Maps Go.WideMaps
set_option maxRecDepth 100000

theorem RSt.fine.asked {R : RSt} (h : R.fine) : R.asked.fine := ⟨h.d0, h.d1, h.l0, h.l1, h.len, h.chs⟩

/-- Rename. -/
def RSt.rename (R : RSt) (a b : ByteArray) : Int × RSt :=
  if R.asked.off then (13, R.asked) else if right b.data.toList = false then (1, R.asked) else if (get R.L a.data.toList).isSome = false then (12, R.asked) else (0, R.asked.did ⟨a, b, .slice none 0 0, []⟩)

/-- Remove. -/
def RSt.remove (R : RSt) (a : ByteArray) : Int × RSt :=
  if R.asked.off then (13, R.asked) else if (get R.L a.data.toList).isSome = false then (12, R.asked) else (0, R.asked.did ⟨a, ByteArray.empty, .slice none 0 0, []⟩)

theorem RStepped.behind {w w1 w2 : World} {p : Nat} {vC : Value} {R' : RSt} (f : Fr (fun k => k = p) w w1) (h : RStepped (RMut p vC) w1 p R' w2) : RStepped (RMut p vC) w p R' w2 := by
  obtain ⟨M', h1, h2, h3⟩ := h
  exact ⟨M', h1, (fr_mut f).trans h2 (fun _ e => Or.inl e), fun k hk => (h3 k hk).imp id (fun e => Nat.le_trans f.size e)⟩

set_option maxHeartbeats 2000000 in
theorem rremove_any (p : Nat) (M : Nat → Prop) (R : RSt) (s : ByteArray) (w : World) (h : RDisk w p M R) (hR : R.fine) :
    Calls Tryz.prog 59 #[.pointer (some ⟨p, 0, none⟩), .string s] w fun e w' => e = .returned (.int .i64 (R.remove s).1) ∧ RStepped M w p (R.remove s).2 w' := by
  obtain ⟨vL, vO, vC, h, rfl⟩ := h
  have hP := rpower_any p _ vO vC R w h
  unfold RSt.remove
  cases ho : R.asked.off
  · rw [ho] at hP
    have hF := fun w1 (h1 : RAt w1 p vL vO vC R.asked) => rfind_any vL R.L s w1 h1.files (by have := hR.len; omega)
    have hC := fun w1 (h1 : RAt w1 p vL vO vC R.asked) => rchange_any p vL vO vC R.asked ⟨s, ByteArray.empty, .slice none 0 0, []⟩ w1 h1 hR.asked (Data.nil _)
    clear h hR
    rcases find_get R.L s.data.toList with ⟨e1, e2⟩ | ⟨i, t, e1, e2, e3, e4⟩
    · rw [e1] at hF
      rw [e2]
      clear e1 e2 hC
      go_enter Tryz.func59, Tryz.ntmps59
      go_wp2_with fail
      refine hP.mono ?_
      rintro e w1 ⟨rfl, h1, f1⟩
      obtain ⟨_, c1, _⟩ := h1.cells
      clear hP
      go_wp2_with fail
      refine (hF w1 h1).mono ?_
      rintro e w2 ⟨rfl, rfl⟩
      go_wp2
      go_ret
      exact ⟨rfl, _, h1.disk, fr_mut f1, fun k hk => Or.inl hk⟩
    · rw [e1] at hF
      rw [e3]
      clear e1 e2 e3 e4
      go_enter Tryz.func59, Tryz.ntmps59
      go_wp2_with fail
      refine hP.mono ?_
      rintro e w1 ⟨rfl, h1, f1⟩
      obtain ⟨_, c1, _⟩ := h1.cells
      clear hP
      go_wp2_with fail
      refine (hF w1 h1).mono ?_
      rintro e w2 ⟨rfl, rfl⟩
      go_wp2_with fail
      refine (hC w1 h1).mono ?_
      rintro e w3 ⟨rfl, h3⟩
      go_wp2
      go_ret
      exact ⟨rfl, h3.behind f1⟩
  · rw [ho] at hP
    clear h hR
    go_enter Tryz.func59, Tryz.ntmps59
    go_wp2_with fail
    refine hP.mono ?_
    rintro e w1 ⟨rfl, h1, f1⟩
    clear hP
    go_wp2
    go_ret
    exact ⟨rfl, _, h1.disk, fr_mut f1, fun k hk => Or.inl hk⟩

set_option maxHeartbeats 2000000 in
theorem rrename_any (p : Nat) (M : Nat → Prop) (R : RSt) (s s' : ByteArray) (w : World) (h : RDisk w p M R) (hR : R.fine) (hs : s'.size ≤ maxLen) :
    Calls Tryz.prog 54 #[.pointer (some ⟨p, 0, none⟩), .string s, .string s'] w fun e w' => e = .returned (.int .i64 (R.rename s s').1) ∧ RStepped M w p (R.rename s s').2 w' := by
  obtain ⟨vL, vO, vC, h, rfl⟩ := h
  have hP := rpower_any p _ vO vC R w h
  unfold RSt.rename
  cases ho : R.asked.off
  · rw [ho] at hP
    have hF := fun w1 (h1 : RAt w1 p vL vO vC R.asked) => rfind_any vL R.L s w1 h1.files (by have := hR.len; omega)
    have hC := fun w1 (h1 : RAt w1 p vL vO vC R.asked) => rchange_any p vL vO vC R.asked ⟨s, s', .slice none 0 0, []⟩ w1 h1 hR.asked (Data.nil _)
    have hN := fun w1 => rright_any s' w1 hs
    clear h hR
    cases hr : right s'.data.toList
    · rw [hr] at hN
      clear hF hC
      go_enter Tryz.func54, Tryz.ntmps54
      go_wp2_with fail
      refine hP.mono ?_
      rintro e w1 ⟨rfl, h1, f1⟩
      clear hP
      go_wp2_with fail
      refine (hN w1).mono ?_
      rintro e w2 ⟨rfl, rfl⟩
      go_wp2
      go_ret
      exact ⟨rfl, _, h1.disk, fr_mut f1, fun k hk => Or.inl hk⟩
    rw [hr] at hN
    rcases find_get R.L s.data.toList with ⟨e1, e2⟩ | ⟨i, t, e1, e2, e3, e4⟩
    · rw [e1] at hF
      rw [e2]
      clear e1 e2 hC
      go_enter Tryz.func54, Tryz.ntmps54
      go_wp2_with fail
      refine hP.mono ?_
      rintro e w1 ⟨rfl, h1, f1⟩
      obtain ⟨_, c1, _⟩ := h1.cells
      clear hP
      go_wp2_with fail
      refine (hN w1).mono ?_
      rintro e w2 ⟨rfl, rfl⟩
      go_wp2_with fail
      refine (hF w1 h1).mono ?_
      rintro e w2 ⟨rfl, rfl⟩
      go_wp2
      go_ret
      exact ⟨rfl, _, h1.disk, fr_mut f1, fun k hk => Or.inl hk⟩
    · rw [e1] at hF
      rw [e3]
      clear e1 e2 e3 e4
      go_enter Tryz.func54, Tryz.ntmps54
      go_wp2_with fail
      refine hP.mono ?_
      rintro e w1 ⟨rfl, h1, f1⟩
      obtain ⟨_, c1, _⟩ := h1.cells
      clear hP
      go_wp2_with fail
      refine (hN w1).mono ?_
      rintro e w2 ⟨rfl, rfl⟩
      go_wp2_with fail
      refine (hF w1 h1).mono ?_
      rintro e w2 ⟨rfl, rfl⟩
      go_wp2_with fail
      refine (hC w1 h1).mono ?_
      rintro e w3 ⟨rfl, h3⟩
      go_wp2
      go_ret
      exact ⟨rfl, h3.behind f1⟩
  · rw [ho] at hP
    clear h hR
    go_enter Tryz.func54, Tryz.ntmps54
    go_wp2_with fail
    refine hP.mono ?_
    rintro e w1 ⟨rfl, h1, f1⟩
    clear hP
    go_wp2
    go_ret
    exact ⟨rfl, _, h1.disk, fr_mut f1, fun k hk => Or.inl hk⟩
end Go.Proofs.YtnmghgbpgpaomaaGreat

namespace Go.Proofs.YtnmghgbpgpaomaaGreat
open Go.RowKit Go.Maps Go.WideMaps
set_option maxRecDepth 100000

def RSt.refuse (R : RSt) (k : List UInt8) (size : Nat) : Int :=
  if right k = false then 1 else if 65536 < size ∨ (get R.L k = none ∧ 512 ≤ R.L.length) then 2 else if R.room < (used R.L : Int) - lenAt R.L k + size then 11 else 0

/-- Write. -/
def RSt.write (R : RSt) (s : ByteArray) (v : Value) (b : List UInt8) : Int × RSt :=
  if R.asked.off then (13, R.asked) else if R.refuse s.data.toList b.length = 0 then (0, R.asked.did ⟨ByteArray.empty, s, v, b⟩) else (R.refuse s.data.toList b.length, R.asked)

theorem RSt.write_no {R : RSt} {s : ByteArray} {v : Value} {b : List UInt8} {e : Int} (ho : R.asked.off = false) (hr : R.refuse s.data.toList b.length = e) (he : e ≠ 0) : R.write s v b = (e, R.asked) := by
  unfold RSt.write
  rw [hr, if_neg (by simp [ho]), if_neg he]

theorem RSt.write_yes {R : RSt} {s : ByteArray} {v : Value} {b : List UInt8} (ho : R.asked.off = false) (hr : R.refuse s.data.toList b.length = 0) : R.write s v b = (0, R.asked.did ⟨ByteArray.empty, s, v, b⟩) := by
  unfold RSt.write
  rw [hr, if_neg (by simp [ho]), if_pos rfl]

theorem RAt.out {w : World} {p : Nat} {vC v : Value} {b : List UInt8} {w1 : World} (hM : Out (RMut p vC) v) (f : Fr (fun k => k = p) w w1) (hv : Bytes w v b) : Bytes w1 v b := hv.kept f (fun ad n c e h0 hm => hM ad n c e h0 (Or.inl hm))

set_option maxHeartbeats 400000 in
theorem rwrite_any (p : Nat) (M : Nat → Prop) (R : RSt) (s : ByteArray) (v : Value) (b : List UInt8) (w : World) (h : RDisk w p M R) (hR : R.fine) (hs : s.size ≤ maxLen) (hv : Bytes w v b) (hM : Out M v)
    (hu : used R.L < 35184372088832) (hb : b.length < 35184372088832) (hr0 : 0 ≤ R.room) (hr1 : R.room ≤ 9223372036854775807) :
    Calls Tryz.prog 45 #[.pointer (some ⟨p, 0, none⟩), .string s, v] w fun e w' => ∃ v', e = .returned (.int .i64 (R.write s v' b).1) ∧ RStepped M w p (R.write s v' b).2 w' := by
  obtain ⟨vL, vO, vC, h, rfl⟩ := h
  obtain ⟨ba, bc, rfl⟩ := bytes_slice hv
  have hP := rpower_any p _ vO vC R w h
  cases ho : R.asked.off
  · rw [ho] at hP
    have hF := fun w1 (h1 : RAt w1 p vL vO vC R.asked) => rfind_any vL R.L s w1 h1.files (by have := hR.len; omega)
    have hU := fun w1 (h1 : RAt w1 p vL vO vC R.asked) => rused_any p vL vO vC R.asked w1 h1 (by have : R.asked.L = R.L := rfl; have := hR.len; simp_all; omega) hu
    have hC := fun w1 v' (h1 : RAt w1 p vL vO vC R.asked) (hd : Data w1 v' b) => rchange_any p vL vO vC R.asked ⟨ByteArray.empty, s, v', b⟩ w1 h1 hR.asked hd
    have hN := fun w1 => rright_any s w1 hs
    cases hr : right s.data.toList
    · rw [hr] at hN
      have HW : Hid (∀ v', R.write s v' b = (1, R.asked)) := fun v' => RSt.write_no ho (by simp [RSt.refuse, hr]) (by decide)
      clear hF hC hU h hR
      go_enter Tryz.func45, Tryz.ntmps45
      go_wp2_with fail
      refine hP.mono ?_
      rintro e w1 ⟨rfl, h1, f1⟩
      clear hP
      go_wp2_with fail
      refine (hN w1).mono ?_
      rintro e w2 ⟨rfl, rfl⟩
      go_wp2
      go_ret
      refine ⟨.slice none 0 0, ?_⟩
      rw [HW.out]
      exact ⟨rfl, _, h1.disk, fr_mut f1, fun k hk => Or.inl hk⟩
    rw [hr] at hN
    have hL0 : R.asked.L = R.L := rfl
    have hlen : (R.L.length : Int) ≤ 400000000 := by have := hR.len; omega
    by_cases hbig : 65536 < b.length
    · have HW : Hid (∀ v', R.write s v' b = (2, R.asked)) := fun v' => RSt.write_no ho (by simp [RSt.refuse, hr, hbig]) (by decide)
      clear hC hU h hR
      go_enter Tryz.func45, Tryz.ntmps45
      go_wp2_with fail
      refine hP.mono ?_
      rintro e w1 ⟨rfl, h1, f1⟩
      obtain ⟨_, c1, _⟩ := h1.cells
      clear hP
      go_wp2_with fail
      refine (hN w1).mono ?_
      rintro e w2 ⟨rfl, rfl⟩
      go_wp2_with fail
      refine (hF w1 h1).mono ?_
      rintro e w2 ⟨rfl, rfl⟩
      go_wp2
      go_ret
      refine ⟨.slice none 0 0, ?_⟩
      rw [HW.out]
      exact ⟨rfl, _, h1.disk, fr_mut f1, fun k hk => Or.inl hk⟩
    rcases find_get R.L s.data.toList with ⟨e1, e2⟩ | ⟨i, t, e1, e2, e3, e4⟩
    · rw [e1] at hF
      obtain ⟨la, lc, hvL⟩ := row_slice h.files.1
      subst hvL
      by_cases hmany : 512 ≤ R.L.length
      · have HW : Hid (∀ v', R.write s v' b = (2, R.asked)) := fun v' => RSt.write_no ho (by simp [RSt.refuse, hr, e2, hmany]) (by decide)
        clear hC hU h hR e1 e2
        go_enter Tryz.func45, Tryz.ntmps45
        go_wp2_with fail
        refine hP.mono ?_
        rintro e w1 ⟨rfl, h1, f1⟩
        obtain ⟨_, c1, _⟩ := h1.cells
        clear hP
        go_wp2_with fail
        refine (hN w1).mono ?_
        rintro e w2 ⟨rfl, rfl⟩
        go_wp2_with fail
        refine (hF w1 h1).mono ?_
        rintro e w2 ⟨rfl, rfl⟩
        go_wp2
        go_ret
        refine ⟨.slice none 0 0, ?_⟩
        rw [HW.out]
        exact ⟨rfl, _, h1.disk, fr_mut f1, fun k hk => Or.inl hk⟩
      have hla : lenAt R.L s.data.toList = 0 := by simp [lenAt, e2]
      have hwr : IntKind.i64.wrap (R.room - (used R.L : Int)) = R.room - used R.L := by rw [IntKind.wrap_i64]; omega
      by_cases hroom : R.room < (used R.L : Int) + b.length
      · have HW : Hid (∀ v', R.write s v' b = (11, R.asked)) := fun v' => RSt.write_no ho (by
          unfold RSt.refuse
          rw [if_neg (by simp [hr]), if_neg (by rintro (h1 | h1); exact hbig h1; exact hmany h1.2), hla, if_pos (by omega)]) (by decide)
        have hlt : R.room - (used R.L : Int) < (b.length : Int) := by omega
        have hmany' : (R.L.length : Int) < 512 := by omega
        clear hC h hR e1 e2 hla hmany hroom
        go_enter Tryz.func45, Tryz.ntmps45
        go_wp2_with fail
        refine hP.mono ?_
        rintro e w1 ⟨rfl, h1, f1⟩
        obtain ⟨c0, c1, _⟩ := h1.cells
        change w1.cell? ⟨p, 0, none⟩ = some (.int .i64 R.room) at c0
        clear hP
        go_wp2_with fail
        refine (hN w1).mono ?_
        rintro e w2 ⟨rfl, rfl⟩
        go_wp2_with fail
        refine (hF w1 h1).mono ?_
        rintro e w2 ⟨rfl, rfl⟩
        go_wp2_with fail
        refine (hU w1 h1).mono ?_
        rintro e w2 ⟨rfl, rfl⟩
        go_wp2
        go_ret
        refine ⟨.slice none 0 0, ?_⟩
        rw [HW.out]
        exact ⟨rfl, _, h1.disk, fr_mut f1, fun k hk => Or.inl hk⟩
      · have HW : Hid (∀ v', R.write s v' b = (0, R.asked.did ⟨ByteArray.empty, s, v', b⟩)) := fun v' => RSt.write_yes ho (by
          unfold RSt.refuse
          rw [if_neg (by simp [hr]), if_neg (by rintro (h1 | h1); exact hbig h1; exact hmany h1.2), hla, if_neg (by omega)])
        have hlt : (b.length : Int) ≤ R.room - (used R.L : Int) := by omega
        have hmany' : (R.L.length : Int) < 512 := by omega
        clear h hR e1 e2 hla hmany hroom
        go_enter Tryz.func45, Tryz.ntmps45
        go_wp2_with fail
        refine hP.mono ?_
        rintro e w1 ⟨rfl, h1, f1⟩
        obtain ⟨c0, c1, _⟩ := h1.cells
        change w1.cell? ⟨p, 0, none⟩ = some (.int .i64 R.room) at c0
        clear hP
        go_wp2_with fail
        refine (hN w1).mono ?_
        rintro e w2 ⟨rfl, rfl⟩
        go_wp2_with fail
        refine (hF w1 h1).mono ?_
        rintro e w2 ⟨rfl, rfl⟩
        go_wp2_with fail
        refine (hU w1 h1).mono ?_
        rintro e w2 ⟨rfl, rfl⟩
        obtain ⟨wA, hwA⟩ : ∃ wA, w1.alloc (.cells #[] 5) = wA := ⟨_, rfl⟩
        have fA : Fr None' w1 wA := hwA ▸ Fr.alloc None' _ _
        have hE : wA.ownsRow 0 5 1 (.slice (some ⟨w1.heap.size, 0, none⟩) 0 0) 0 [] := hwA ▸ empty_row w1
        have HB : Hid (Bytes wA (.slice ba b.length bc) b ∧ Fr None' w1 wA ∧ RAt w1 p (.slice la R.L.length lc) vO vC R.asked) := ⟨(RAt.out hM f1 hv).kept fA (fun _ _ _ _ _ e => e), fA, h1⟩
        clear h1 fA hF hU hN hM hv
        go_wp2_with (first
          | (at_builtin; refine app_clone rfl _ _ rfl rfl hE rfl HB.out.1 (by omega) ?_; intro v2 w2 d2 g2; obtain ⟨va, vc, hv2⟩ := row_slice d2; subst hv2)
          | fail)
        have f2 : Fr None' w1 w2 := HB.out.2.1.trans (Fr.grown (M := fun i => i = w1.heap.size) g2 (fun k e => by cases e; rfl)) (fun i e => Or.inr (by omega))
        refine (hC w2 _ (HB.out.2.2.fresh f2) d2).mono ?_
        rintro e w3 ⟨rfl, h3⟩
        clear hC d2 g2 hE HB hwA hlen hlt hmany' c0 c1 hwr
        go_wp2
        go_ret
        refine ⟨.slice va b.length vc, ?_⟩
        rw [HW.out]
        exact ⟨rfl, h3.behind (fr_cells f1 (f2.mono (fun _ e => e.elim)))⟩
    · rw [e1] at hF
      have hla : lenAt R.L s.data.toList = t.b.length := by simp [lenAt, e3]
      have hle : t.b.length ≤ used R.L := by
        have h1 := used_step e2
        have h2 := used_take R.L (i + 1)
        omega
      have hwr1 : IntKind.i64.wrap ((used R.L : Int) - t.b.length) = used R.L - t.b.length := by rw [IntKind.wrap_i64]; omega
      have hwr : IntKind.i64.wrap (R.room - ((used R.L : Int) - t.b.length)) = R.room - (used R.L - t.b.length) := by rw [IntKind.wrap_i64]; omega
      have k0 : (0 : Int) ≤ (i : Int) := by omega
      have k1 : (i : Int) < (R.L.length : Int) := by have := (List.getElem?_eq_some_iff.1 e2).1; omega
      have HI : Hid (R.L[i]? = some t) := e2
      obtain ⟨la, lc, hvL⟩ := row_slice h.files.1
      subst hvL
      by_cases hroom : R.room < (used R.L : Int) - t.b.length + b.length
      · have HW : Hid (∀ v', R.write s v' b = (11, R.asked)) := fun v' => RSt.write_no ho (by
          unfold RSt.refuse
          rw [if_neg (by simp [hr]), if_neg (by rintro (h1 | h1); exact hbig h1; rw [e3] at h1; cases h1.1), hla, if_pos (by omega)]) (by decide)
        have hlt : R.room - ((used R.L : Int) - t.b.length) < (b.length : Int) := by omega
        clear hC h hR e1 e2 e3 e4 hla hroom hle
        go_enter Tryz.func45, Tryz.ntmps45
        go_wp2_with fail
        refine hP.mono ?_
        rintro e w1 ⟨rfl, h1, f1⟩
        obtain ⟨c0, c1, _⟩ := h1.cells
        change w1.cell? ⟨p, 0, none⟩ = some (.int .i64 R.room) at c0
        obtain ⟨la', lc', heq, hcl⟩ := h1.files.cells
        cases heq
        obtain ⟨g, hg, _, d1, hD⟩ := hcl i t HI.out
        subst hg
        obtain ⟨ta, tc, htv⟩ := row_slice hD
        rw [htv] at d1
        clear hcl hD htv
        clear hP
        go_wp2_with fail
        refine (hN w1).mono ?_
        rintro e w2 ⟨rfl, rfl⟩
        go_wp2_with fail
        refine (hF w1 h1).mono ?_
        rintro e w2 ⟨rfl, rfl⟩
        go_wp2_with fail
        refine (hU w1 h1).mono ?_
        rintro e w2 ⟨rfl, rfl⟩
        go_wp2
        go_ret
        refine ⟨.slice none 0 0, ?_⟩
        rw [HW.out]
        exact ⟨rfl, _, h1.disk, fr_mut f1, fun k hk => Or.inl hk⟩
      · have HW : Hid (∀ v', R.write s v' b = (0, R.asked.did ⟨ByteArray.empty, s, v', b⟩)) := fun v' => RSt.write_yes ho (by
          unfold RSt.refuse
          rw [if_neg (by simp [hr]), if_neg (by rintro (h1 | h1); exact hbig h1; rw [e3] at h1; cases h1.1), hla, if_neg (by omega)])
        have hlt : (b.length : Int) ≤ R.room - ((used R.L : Int) - t.b.length) := by omega
        clear h hR e1 e2 e3 e4 hla hroom hle
        go_enter Tryz.func45, Tryz.ntmps45
        go_wp2_with fail
        refine hP.mono ?_
        rintro e w1 ⟨rfl, h1, f1⟩
        obtain ⟨c0, c1, _⟩ := h1.cells
        change w1.cell? ⟨p, 0, none⟩ = some (.int .i64 R.room) at c0
        obtain ⟨la', lc', heq, hcl⟩ := h1.files.cells
        cases heq
        obtain ⟨g, hg, _, d1, hD⟩ := hcl i t HI.out
        subst hg
        obtain ⟨ta, tc, htv⟩ := row_slice hD
        rw [htv] at d1
        clear hcl hD htv
        clear hP
        go_wp2_with fail
        refine (hN w1).mono ?_
        rintro e w2 ⟨rfl, rfl⟩
        go_wp2_with fail
        refine (hF w1 h1).mono ?_
        rintro e w2 ⟨rfl, rfl⟩
        go_wp2_with fail
        refine (hU w1 h1).mono ?_
        rintro e w2 ⟨rfl, rfl⟩
        obtain ⟨wA, hwA⟩ : ∃ wA, w1.alloc (.cells #[] 5) = wA := ⟨_, rfl⟩
        have fA : Fr None' w1 wA := hwA ▸ Fr.alloc None' _ _
        have hE : wA.ownsRow 0 5 1 (.slice (some ⟨w1.heap.size, 0, none⟩) 0 0) 0 [] := hwA ▸ empty_row w1
        have HB : Hid (Bytes wA (.slice ba b.length bc) b ∧ Fr None' w1 wA ∧ RAt w1 p (.slice (some ⟨g, 0, none⟩) R.L.length lc) vO vC R.asked) := ⟨(RAt.out hM f1 hv).kept fA (fun _ _ _ _ _ e => e), fA, h1⟩
        clear h1 fA hF hU hN hM hv
        go_wp2_with (first
          | (at_builtin; refine app_clone rfl _ _ rfl rfl hE rfl HB.out.1 (by omega) ?_; intro v2 w2 d2 g2; obtain ⟨va, vc, hv2⟩ := row_slice d2; subst hv2)
          | fail)
        have f2 : Fr None' w1 w2 := HB.out.2.1.trans (Fr.grown (M := fun i => i = w1.heap.size) g2 (fun k e => by cases e; rfl)) (fun i e => Or.inr (by omega))
        refine (hC w2 _ (HB.out.2.2.fresh f2) d2).mono ?_
        rintro e w3 ⟨rfl, h3⟩
        clear hC d2 g2 hE HB hwA hlen hlt c0 c1 hwr
        go_wp2
        go_ret
        refine ⟨.slice va b.length vc, ?_⟩
        rw [HW.out]
        exact ⟨rfl, h3.behind (fr_cells f1 (f2.mono (fun _ e => e.elim)))⟩
  · rw [ho] at hP
    have HW : Hid (∀ v', R.write s v' b = (13, R.asked)) := fun v' => by unfold RSt.write; rw [if_pos ho]
    clear h hR
    go_enter Tryz.func45, Tryz.ntmps45
    go_wp2_with fail
    refine hP.mono ?_
    rintro e w1 ⟨rfl, h1, f1⟩
    clear hP
    go_wp2
    go_ret
    refine ⟨.slice none 0 0, ?_⟩
    rw [HW.out]
    exact ⟨rfl, _, h1.disk, fr_mut f1, fun k hk => Or.inl hk⟩
end Go.Proofs.YtnmghgbpgpaomaaGreat

namespace Go.Proofs.YtnmghgbpgpaomaaGreat
open Go.RowKit Go.Maps Go.WideMaps
set_option maxRecDepth 100000

theorem place_len (f : Tri) : ∀ W : List Tri, (place f W).length = W.length + 1
  | [] => rfl
  | t :: r => by
    rw [place]
    split
    · rfl
    · simp [place_len f r]

theorem withF_len (L : List Tri) (f : Tri) : (withF L f).length ≤ L.length + 1 := by
  rw [withF_eq, place_len]
  have := without_len L f.k
  omega

theorem app_len (c : RCh) (L : List Tri) : (c.app L).length ≤ L.length + 1 := by
  unfold RCh.app
  split
  · exact withF_len _ _
  · split
    · omega
    · split
      · have := without_len L c.frm.data.toList; omega
      · refine Nat.le_trans (withF_len _ _) ?_
        have := without_len L c.frm.data.toList
        omega

/-- The first i changes, of which those are done that are kept. -/
def rrep (ch : List RCh) (keep : List Bool) (Y : List Tri) : Nat → List Tri
  | 0 => Y
  | i + 1 => match ch[i]?, keep[i]? with
    | some c, some true => c.app (rrep ch keep Y i)
    | _, _ => rrep ch keep Y i

theorem rrep_done {ch : List RCh} {keep : List Bool} {Y : List Tri} {k : Nat} {c : RCh} (h1 : ch[k]? = some c) (h2 : keep[k]? = some true) : rrep ch keep Y (k + 1) = c.app (rrep ch keep Y k) := by
  simp [rrep, h1, h2]
theorem rrep_not {ch : List RCh} {keep : List Bool} {Y : List Tri} {k : Nat} (h2 : keep[k]? ≠ some true) : rrep ch keep Y (k + 1) = rrep ch keep Y k := by
  rw [rrep]
  split
  · rename_i h; exact absurd h h2
  · rfl

theorem rrep_len (ch : List RCh) (keep : List Bool) (Y : List Tri) : ∀ k, (rrep ch keep Y k).length ≤ Y.length + k
  | 0 => Nat.le_refl _
  | k + 1 => by
    have ih := rrep_len ch keep Y k
    rw [rrep]
    split
    · refine Nat.le_trans (app_len _ _) ?_; omega
    · omega

theorem rrep_stop (ch : List RCh) (keep : List Bool) (Y : List Tri) (d : Nat) : rrep ch keep Y (keep.length + d) = rrep ch keep Y keep.length := by
  induction d with
  | zero => rfl
  | succ d ih => rw [← ih]; exact rrep_not (k := keep.length + d) (by simp)

def RSt.crash (R : RSt) (keep : List Bool) : RSt :=
  { R with L := rrep R.ch keep R.Y R.ch.length, Y := rrep R.ch keep R.Y R.ch.length, ch := [], fused := false, left := 0, off := false }

theorem ch_flat : ∀ (L : List RCh) (i : Nat) (c : RCh), L[i]? = some c → (L.flatMap chCells)[i * 3]? = some (.string c.frm) ∧ (L.flatMap chCells)[i * 3 + 1]? = some (.string c.to) ∧ (L.flatMap chCells)[i * 3 + 2]? = some c.v
  | [], i, c, h => by simp at h
  | x :: L, 0, c, h => by
    simp at h
    subst h
    exact ⟨rfl, rfl, rfl⟩
  | x :: L, i + 1, c, h => by
    have ih := ch_flat L i c (by simpa using h)
    rw [List.flatMap_cons]
    have e : ∀ j, (chCells x ++ L.flatMap chCells)[(i + 1) * 3 + j]? = (L.flatMap chCells)[i * 3 + j]? := fun j => by
      rw [List.getElem?_append_right (by simp [chCells]; omega)]
      congr 1
      simp [chCells]
      omega
    exact ⟨(e 0).trans ih.1, (e 1).trans ih.2.1, (e 2).trans ih.2.2⟩

/-- The cells of a change. -/
theorem ch_cells {w : World} {v : Value} {L : List RCh} (h : w.ownsRow 0 90 3 v L.length (L.flatMap chCells)) : ∃ a c, v = .slice a L.length c ∧ ∀ i x, L[i]? = some x → ∃ g, a = some ⟨g, 0, none⟩ ∧ w.cell? ⟨g, i * 3, none⟩ = some (.string x.frm) ∧ w.cell? ⟨g, i * 3 + 1, none⟩ = some (.string x.to) ∧ w.cell? ⟨g, i * 3 + 2, none⟩ = some x.v := by
  rcases h.2 with ⟨hv, h0⟩ | ⟨g, cap, cur, hv, _, hh, _, _, _, ht⟩
  · have hL : L = [] := by simpa using h0
    subst hL
    exact ⟨none, 0, hv, fun i t hi => by simp at hi⟩
  · have key : ∀ j u, (L.flatMap chCells)[j]? = some u → w.cell? ⟨g, j, none⟩ = some u := fun j u hf => by
      rw [← ht, List.getElem?_take] at hf
      split at hf
      · simp [World.cell?, hh]; simpa using hf
      · cases hf
    refine ⟨_, cap, hv, fun i t hi => ?_⟩
    obtain ⟨h1, h2, h3⟩ := ch_flat L i t hi
    exact ⟨g, rfl, key _ _ h1, key _ _ h2, key _ _ h3⟩

/-- What Crash stores. -/
theorem RAt.crashed {w : World} {p : Nat} {vL vO vC v : Value} {R : RSt} {X : List Tri} (h : RAt w p vL vO vC R) (hv : FilesRes w v X) :
    RAt ((((((w.setCell ⟨p, 1, none⟩ v).setCell ⟨p, 2, none⟩ v).setCell ⟨p, 3, none⟩ (.slice none 0 0)).setCell ⟨p, 5, none⟩ (.bool false)).setCell ⟨p, 6, none⟩ (.int .i64 0)).setCell ⟨p, 7, none⟩ (.bool false)) p v v (.slice none 0 0) { R with L := X, Y := X, ch := [], fused := false, left := 0, off := false } ∧
    Fr (fun k => k = p) w ((((((w.setCell ⟨p, 1, none⟩ v).setCell ⟨p, 2, none⟩ v).setCell ⟨p, 3, none⟩ (.slice none 0 0)).setCell ⟨p, 5, none⟩ (.bool false)).setCell ⟨p, 6, none⟩ (.int .i64 0)).setCell ⟨p, 7, none⟩ (.bool false)) := by
  have h1 : RAt (w.setCell ⟨p, 1, none⟩ v) p v vO vC { R with L := X } := h.stored rfl hv h.old h.row h.data h.p_row
  have h2 : RAt ((w.setCell ⟨p, 1, none⟩ v).setCell ⟨p, 2, none⟩ v) p v v vC { R with L := X, Y := X } := h1.stored rfl h1.files h1.files h1.row h1.data h1.p_row
  have h3 : RAt (((w.setCell ⟨p, 1, none⟩ v).setCell ⟨p, 2, none⟩ v).setCell ⟨p, 3, none⟩ (.slice none 0 0)) p v v (.slice none 0 0) { R with L := X, Y := X, ch := [] } := h2.stored rfl h2.files h2.old ⟨rfl, Or.inl ⟨rfl, rfl⟩⟩ (fun c hc => by simp at hc) (by simp [Value.ownBlock])
  have h4 := h3.field (i := 5) (u := .bool false) (R' := { R with L := X, Y := X, ch := [], fused := false }) rfl rfl rfl rfl
  have h5 := h4.field (i := 6) (u := .int .i64 0) (R' := { R with L := X, Y := X, ch := [], fused := false, left := 0 }) rfl rfl rfl rfl
  exact ⟨h5.field rfl rfl rfl rfl, fr_cells (fr_cells (fr_cells (fr_cells (fr_cells (fr_cell _ _ _ _) (fr_cell _ _ _ _)) (fr_cell _ _ _ _)) (fr_cell _ _ _ _)) (fr_cell _ _ _ _)) (fr_cell _ _ _ _)⟩

set_option maxHeartbeats 400000 in
theorem rcrash_any (p : Nat) (M : Nat → Prop) (R : RSt) (v : Value) (keep : List Bool) (w : World) (h : RDisk w p M R) (hR : R.fine) (hY : R.Y.length ≤ 400000000) (hv : Bools w v keep) :
    Calls Tryz.prog 21 #[.pointer (some ⟨p, 0, none⟩), v] w fun e w' => e = .returned (.tuple #[]) ∧ RStepped M w p (R.crash keep) w' := by
  obtain ⟨vL, vO, vC, h, rfl⟩ := h
  obtain ⟨_, _, c2, _⟩ := h.cells
  obtain ⟨va, vc, rfl, hva⟩ : ∃ va vc, v = .slice va keep.length vc ∧ ∀ wr, Fr None' w wr → ∀ k u, keep[k]? = some u → ∃ g off, va = some ⟨g, off, none⟩ ∧ wr.cell? ⟨g, off + k, none⟩ = some (.bool u) := by
    rcases hv with ⟨rfl, rfl⟩ | ⟨ad, c, rfl, hc⟩
    · exact ⟨none, 0, rfl, fun _ _ k u hu => by simp at hu⟩
    · refine ⟨_, c, rfl, fun wr fwr k u hu => ?_⟩
      obtain ⟨h0, h1⟩ := hc k u hu
      exact ⟨ad.block, ad.off, by rw [← h0], fwr.cell h1⟩
  clear hv
  go_enter Tryz.func21, Tryz.ntmps21
  go_wp2_with fail
  have HR : Hid (R.ch.length ≤ 400000000) := hR.chs
  have HY : Hid (R.Y.length ≤ 400000000) := hY
  have hch : (R.ch.length : Int) ≤ 400000000 := by have := hR.chs; omega
  clear hR hY c2
  go_loopw [4, 5] (fun l i wr => ∃ k : Nat, k ≤ R.ch.length ∧ k ≤ keep.length ∧ i = .int .i64 k ∧ FilesRes wr l (rrep R.ch keep R.Y k) ∧ Fr None' w wr) (fun _ i _ => R.ch.length - (intOf i).toNat)
  case atStart => exact ⟨0, Nat.zero_le _, Nat.zero_le _, rfl, h.old, Fr.refl _ _⟩
  case round =>
    obtain ⟨k, hk, hkk, rfl, hl, fwr⟩ := hrel
    obtain ⟨xa, xc, rfl⟩ := row_slice hl.1
    have hwr := h.fresh fwr
    obtain ⟨ra, rc, hvC, hcc⟩ := ch_cells hwr.row
    subst hvC
    obtain ⟨_, _, _, c3, _⟩ := hwr.cells
    by_cases hlt : k < R.ch.length
    · by_cases hkl : k < keep.length
      · obtain ⟨c, hc⟩ : ∃ c, R.ch[k]? = some c := ⟨R.ch[k], by simp [hlt]⟩
        obtain ⟨g, rfl, q0, q1, q2⟩ := hcc k c hc
        have hd := hwr.data c (List.mem_of_getElem? hc)
        obtain ⟨ta, tc, htv⟩ := row_slice hd
        rw [htv] at q2
        have k0 : (0 : Int) ≤ (k : Int) := by omega
        have k1 : (k : Int) < (R.ch.length : Int) := by omega
        have k2 : (k : Int) < (keep.length : Int) := by omega
        have hlen := rrep_len R.ch keep R.Y k
        cases hb : keep[k] with
        | true =>
          have hb' : keep[k]? = some true := by rw [List.getElem?_eq_getElem hkl, hb]
          obtain ⟨g2, off2, rfl, hc2⟩ := hva wr fwr k true hb'
          have HS : Hid (rrep R.ch keep R.Y (k + 1) = c.app (rrep R.ch keep R.Y k)) := rrep_done hc hb'
          have hCh := rchanged_any _ _ c wr hl (by have := HR.out; have := HY.out; omega) hd
          rw [htv] at hCh
          generalize rrep R.ch keep R.Y k = X at *
          clear hva hcc hc hb hb' hd htv hlen hl hwr
          go_wp2_with (first
            | (go_at_call 61; refine hCh.mono ?_; rintro e w2 ⟨v2, rfl, R2, f2⟩; obtain ⟨xa2, xc2, hv2⟩ := row_slice R2.1; subst hv2))
          go_roundw
          case rel => exact ⟨k + 1, by omega, by omega, by go_num, by rw [HS.out]; exact R2, fwr.then f2⟩
          case measure => simp [intOf]; omega
        | false =>
          have hb' : keep[k]? = some false := by rw [List.getElem?_eq_getElem hkl, hb]
          obtain ⟨g2, off2, rfl, hc2⟩ := hva wr fwr k false hb'
          have HS : Hid (rrep R.ch keep R.Y (k + 1) = rrep R.ch keep R.Y k) := rrep_not (by rw [hb']; simp)
          generalize rrep R.ch keep R.Y k = X at *
          clear hva hcc hc hb hb' hd htv hlen
          go_wp2
          go_roundw
          case rel => exact ⟨k + 1, by omega, by omega, by go_num, by rw [HS.out]; exact hl, fwr⟩
          case measure => simp [intOf]; omega
      · have hke : k = keep.length := by omega
        have k2 : (keep.length : Int) ≤ (k : Int) := by omega
        have HS : Hid (rrep R.ch keep R.Y R.ch.length = rrep R.ch keep R.Y k) := by
          show _ = _
          have := rrep_stop R.ch keep R.Y (R.ch.length - keep.length)
          rw [show keep.length + (R.ch.length - keep.length) = R.ch.length from by omega] at this
          rw [this, hke]
        obtain ⟨h9, f9⟩ := hwr.crashed hl
        obtain ⟨_, c1', c2', _, _, c5', c6', c7', z⟩ := hwr.cells
        have z1 := z 1
        have z2 := z 2
        have z3 := z 3
        have z5 := z 5
        have z6 := z 6
        have z7 := z 7
        have HE : Hid (RDisk _ p _ _ ∧ Fr _ w _ ∧ ∀ k, RMut p (.slice none 0 0) k → RMut p (.slice ra R.ch.length rc) k ∨ w.heap.size ≤ k) := ⟨h9.disk, fr_mut (vC := .slice ra R.ch.length rc) (fr_cells (fwr.mono (fun _ e => e.elim)) f9), fun k hk => by
          rcases hk with e | e
          · exact Or.inl (Or.inl e)
          · cases e⟩
        generalize rrep R.ch keep R.Y k = X at *
        clear hva hcc z hwr h9 f9 hl
        go_wp2
        go_end0
        unfold RSt.crash
        rw [HS.out]
        exact ⟨rfl, _, HE.out⟩
    · have hke : k = R.ch.length := by omega
      have k2 : (R.ch.length : Int) ≤ (k : Int) := by omega
      have HS : Hid (rrep R.ch keep R.Y R.ch.length = rrep R.ch keep R.Y k) := by rw [hke]; exact rfl
      obtain ⟨h9, f9⟩ := hwr.crashed hl
      obtain ⟨_, c1', c2', _, _, c5', c6', c7', z⟩ := hwr.cells
      have z1 := z 1
      have z2 := z 2
      have z3 := z 3
      have z5 := z 5
      have z6 := z 6
      have z7 := z 7
      have HE : Hid (RDisk _ p _ _ ∧ Fr _ w _ ∧ ∀ k, RMut p (.slice none 0 0) k → RMut p (.slice ra R.ch.length rc) k ∨ w.heap.size ≤ k) := ⟨h9.disk, fr_mut (vC := .slice ra R.ch.length rc) (fr_cells (fwr.mono (fun _ e => e.elim)) f9), fun k hk => by
        rcases hk with e | e
        · exact Or.inl (Or.inl e)
        · cases e⟩
      generalize rrep R.ch keep R.Y k = X at *
      clear hva hcc z hwr h9 f9 hl
      go_wp2
      go_end0
      unfold RSt.crash
      rw [HS.out]
      exact ⟨rfl, _, HE.out⟩
end Go.Proofs.YtnmghgbpgpaomaaGreat

namespace Go.Proofs.YtnmghgbpgpaomaaGreat
open Go.RowKit Go.Maps Go.WideMaps
set_option maxRecDepth 100000

theorem RStepped.from {M : Nat → Prop} {w w0 w' : World} {p : Nat} {R' : RSt} (hf : Fr None' w w0) (h : RStepped M w0 p R' w') : RStepped M w p R' w' := by
  obtain ⟨M', h1, h2, h3⟩ := h
  refine ⟨M', h1, (hf.mono (fun _ e => e.elim)).trans h2 (fun _ e => Or.inl e), fun k hk => ?_⟩
  rcases h3 k hk with e | e
  · exact Or.inl e
  · exact Or.inr (Nat.le_trans hf.size e)

theorem RDisk.fresh {M : Nat → Prop} {w w' : World} {p : Nat} {R : RSt} (h : RDisk w p M R) (hf : Fr None' w w') : RDisk w' p M R := by
  obtain ⟨vL, vO, vC, h, rfl⟩ := h
  exact ⟨vL, vO, vC, h.fresh hf, rfl⟩

theorem RDisk.same {M : Nat → Prop} {w w' : World} {p : Nat} {R : RSt} (h : RDisk w p M R) (hf : Fr None' w w') : RStepped M w p R w' := ⟨M, h.fresh hf, hf.mono (fun _ e => e.elim), fun _ hk => Or.inl hk⟩

end Go.Proofs.YtnmghgbpgpaomaaGreat

namespace Go.Proofs.YtnmghgbpgpaomaaGreat
open Go.RowKit Go.Maps Go.WideMaps
set_option maxRecDepth 100000

theorem apart_ins {x : Tri} : ∀ {T : List Tri}, Apart T → (∀ t ∈ T, t.k ≠ x.k) → Apart (ins x T)
  | [], _, _ => by simp [ins, Apart]
  | y :: r, h, hn => by
    obtain ⟨h1, h2⟩ := List.pairwise_cons.1 h
    rw [ins]
    split
    · refine List.pairwise_cons.2 ⟨fun t ht => (hn t ht).symm, h⟩
    · refine List.pairwise_cons.2 ⟨fun t ht => ?_, apart_ins h2 (fun t ht => hn t (List.mem_cons_of_mem _ ht))⟩
      rcases mem_ins.1 ht with rfl | ht
      · exact hn y (List.mem_cons_self ..)
      · exact h1 t ht

theorem apart_put {T : List Tri} (h : Apart T) (x : Tri) : Apart (put T x) :=
  apart_ins (h.filter _) (fun _ ht => (mem_del.1 ht).2)

/-- No name is empty. -/
def NE (T : List Tri) : Prop := ∀ t ∈ T, t.k ≠ []

theorem NE.put {T : List Tri} (h : NE T) {x : Tri} (hx : x.k ≠ []) : NE (put T x) := fun t ht => by
  rcases mem_put.1 ht with rfl | ⟨h1, _⟩
  · exact hx
  · exact h t h1
theorem NE.del {T : List Tri} (h : NE T) (k : List UInt8) : NE (del T k) := fun t ht => h t (mem_del.1 ht).1

/-- The same change. -/
def RelCh (c : Ch) (d : RCh) : Prop :=
  (∃ t, c = Ch.wr t ∧ d.frm.data.toList = [] ∧ d.to.data.toList = t.k ∧ d.b = t.b ∧ t.k ≠ []) ∨
  (∃ a b, c = Ch.mv a b ∧ d.frm.data.toList = a ∧ d.to.data.toList = b ∧ a ≠ [] ∧ b ≠ []) ∨
  ∃ k, c = Ch.rm k ∧ d.frm.data.toList = k ∧ d.to.data.toList = [] ∧ k ≠ []

theorem RelCh.app {c : Ch} {d : RCh} (h : RelCh c d) {T L : List Tri} (hA : Alike T L) (hn : NE T) : Alike (c.app T) (d.app L) ∧ NE (c.app T) := by
  rcases h with ⟨t, rfl, h1, h2, h3, h4⟩ | ⟨a, b, rfl, h1, h2, h3, h4⟩ | ⟨k, rfl, h1, h2, h3⟩
  · refine ⟨?_, hn.put h4⟩
    unfold RCh.app
    rw [if_pos h1]
    exact hA.put (apart_put hA.apart t) h2 h3
  · unfold RCh.app
    rw [if_neg (by rw [h1]; exact h3), h1]
    rcases hA.get a with ⟨g1, g2⟩ | ⟨t, u, g1, g2, g3⟩
    · simp only [Ch.app, g1, g2]
      exact ⟨hA, hn⟩
    · simp only [Ch.app, g1, g2]
      rw [if_neg (by rw [h2]; exact h4), h2]
      exact ⟨(hA.del a).put (apart_put (hA.del a).apart _) rfl g3.symm, (hn.del a).put h4⟩
  · unfold RCh.app
    rw [if_neg (by rw [h1]; exact h3), h1]
    refine ⟨?_, hn.del k⟩
    rcases hA.get k with ⟨g1, g2⟩ | ⟨t, u, g1, g2, g3⟩
    · simp only [g2]
      have e : del T k = T := by
        unfold Go.Proofs.YtnmghgbpgpaomaaGreat.del
        refine List.filter_eq_self.2 (fun t ht => ?_)
        have := List.find?_eq_none.1 g1 t ht
        simpa using this
      show Alike (del T k) L
      rw [e]
      exact hA
    · simp only [g2]
      rw [if_pos h2]
      exact hA.del k

/-- The two disks, as plain data. -/
structure Rel (S : St) (R : RSt) : Prop where
  room : S.room = R.room
  r0 : 0 ≤ R.room
  r1 : R.room ≤ 9223372036854775807
  F : Alike S.F R.L
  Y : Alike S.Y R.Y
  neF : NE S.F
  neY : NE S.Y
  len : S.ch.length = R.ch.length
  ch : ∀ (i : Nat) c d, S.ch[i]? = some c → R.ch[i]? = some d → RelCh c d
  acts : S.acts = R.done
  fuse : (S.fuse < 0 ∧ R.fused = false ∧ R.left = 0) ∨ (0 ≤ S.fuse ∧ R.fused = true ∧ R.left = S.fuse)
  down : S.down = R.off

section
variable {S : St} {R : RSt}

theorem Rel.asked (h : Rel S R) : Rel S.asked R.asked := by
  refine ⟨h.room, h.r0, h.r1, h.F, h.Y, h.neF, h.neY, h.len, h.ch, h.acts, h.fuse, ?_⟩
  show (S.down || S.fuse == 0) = (R.off || (R.fused && R.left == 0))
  rw [h.down]
  rcases h.fuse with ⟨h1, h2, _⟩ | ⟨h1, h2, h3⟩
  · have : (S.fuse == 0) = false := by simp; omega
    rw [this, h2]; rfl
  · rw [h2, h3]; rfl

/-- Where the power is on, a fuse has an act left. -/
theorem Rel.on (_ : Rel S R) (hd : S.asked.down = false) : S.fuse ≠ 0 := by
  intro e
  simp [St.asked, e] at hd

theorem Rel.counted (h : Rel S R) (hf : S.fuse ≠ 0) : Rel S.counted R.counted := by
  refine ⟨h.room, h.r0, h.r1, h.F, h.Y, h.neF, h.neY, h.len, h.ch, ?_, ?_, h.down⟩
  · show S.acts + 1 = R.done + 1
    rw [h.acts]
  · show ((if 0 < S.fuse then S.fuse - 1 else S.fuse) < 0 ∧ R.fused = false ∧ (if R.fused then R.left - 1 else R.left) = 0) ∨ (0 ≤ (if 0 < S.fuse then S.fuse - 1 else S.fuse) ∧ R.fused = true ∧ (if R.fused then R.left - 1 else R.left) = (if 0 < S.fuse then S.fuse - 1 else S.fuse))
    rcases h.fuse with ⟨h1, h2, h3⟩ | ⟨h1, h2, h3⟩
    · rw [if_neg (by omega), h2]
      exact Or.inl ⟨h1, rfl, h3⟩
    · rw [if_pos (show 0 < S.fuse by omega), h2, h3]
      exact Or.inr ⟨by omega, rfl, rfl⟩

theorem Rel.did (h : Rel S R) (hf : S.fuse ≠ 0) {c : Ch} {d : RCh} (hc : RelCh c d) : Rel (S.did c) (R.did d) := by
  obtain ⟨h1, h2⟩ := hc.app h.F h.neF
  unfold St.did RSt.did
  refine Rel.counted (S := { S with F := c.app S.F, n := S.n + 1, ch := S.ch ++ [c] }) (R := { R with L := d.app R.L, ch := R.ch ++ [d] }) ⟨h.room, h.r0, h.r1, h1, h.Y, h2, h.neY, ?_, ?_, h.acts, h.fuse, h.down⟩ hf
  · simp [h.len]
  · intro i x y hx hy
    simp only at hx hy
    by_cases hi : i < S.ch.length
    · rw [List.getElem?_append_left hi] at hx
      rw [List.getElem?_append_left (by rw [← h.len]; exact hi)] at hy
      exact h.ch i x y hx hy
    · rw [List.getElem?_append_right (by omega)] at hx
      rw [List.getElem?_append_right (by rw [← h.len]; omega), ← h.len] at hy
      cases hj : i - S.ch.length with
      | zero =>
        rw [hj] at hx hy
        simp at hx hy
        subst hx hy
        exact hc
      | succ j =>
        rw [hj] at hx
        simp at hx

theorem Rel.refuse (h : Rel S R) (k : List UInt8) (n : Nat) : S.refuse k n = R.refuse k n := by
  have hg : (get S.F k = none ↔ get R.L k = none) ∧ lenAt S.F k = lenAt R.L k := by
    unfold lenAt
    rcases h.F.get k with ⟨g1, g2⟩ | ⟨t, u, g1, g2, g3⟩
    · rw [g1, g2]; exact ⟨Iff.rfl, rfl⟩
    · rw [g1, g2]; exact ⟨by simp, by simp [g3]⟩
  unfold St.refuse RSt.refuse
  rw [h.room, h.F.used, h.F.length, hg.2]
  simp only [hg.1]

theorem Rel.some (h : Rel S R) (k : List UInt8) : (get S.F k).isSome = (get R.L k).isSome := by
  rcases h.F.get k with ⟨g1, g2⟩ | ⟨t, u, g1, g2, g3⟩
  · rw [g1, g2]
  · rw [g1, g2]; rfl

theorem ne_of_get {T : List Tri} (h : NE T) {k : List UInt8} (hg : (get T k).isSome = true) : k ≠ [] := by
  obtain ⟨t, ht⟩ := Option.isSome_iff_exists.1 hg
  obtain ⟨h1, h2⟩ := get_mem ht
  rw [← h2]
  exact h t h1

theorem ne_of_right {k : List UInt8} (h : right k = true) : k ≠ [] := by
  rintro rfl
  simp [right] at h

theorem refuse_right {k : List UInt8} {n : Nat} (h : S.refuse k n = 0) : right k = true := by
  unfold St.refuse at h
  cases hr : right k
  · rw [if_pos hr] at h; cases h
  · rfl

theorem Rel.write (h : Rel S R) (s : ByteArray) (v v' : Value) (b : List UInt8) : (S.write ⟨s.data.toList, v, b⟩).1 = (R.write s v' b).1 ∧ Rel (S.write ⟨s.data.toList, v, b⟩).2 (R.write s v' b).2 := by
  have ha := h.asked
  have hd : S.asked.down = R.asked.off := ha.down
  have he : R.refuse s.data.toList b.length = S.asked.refuse s.data.toList b.length := (h.refuse _ _).symm
  unfold St.write RSt.write
  rw [← hd, he]
  cases hdn : S.asked.down
  · by_cases hz : S.asked.refuse s.data.toList b.length = 0
    · simp only [hz, if_pos]
      exact ⟨rfl, ha.did (h.on hdn) (Or.inl ⟨_, rfl, rfl, rfl, rfl, ne_of_right (refuse_right hz)⟩)⟩
    · simp only [hz, if_false]
      exact ⟨rfl, ha⟩
  · exact ⟨rfl, ha⟩

theorem Rel.rename (h : Rel S R) (s s' : ByteArray) : (S.rename s.data.toList s'.data.toList).1 = (R.rename s s').1 ∧ Rel (S.rename s.data.toList s'.data.toList).2 (R.rename s s').2 := by
  have ha := h.asked
  have hd : S.asked.down = R.asked.off := ha.down
  unfold St.rename RSt.rename
  rw [← hd, ← h.some]
  cases hdn : S.asked.down
  · cases hr : right s'.data.toList
    · exact ⟨rfl, ha⟩
    · cases hg : (get S.F s.data.toList).isSome
      · exact ⟨rfl, ha⟩
      · exact ⟨rfl, ha.did (h.on hdn) (Or.inr (Or.inl ⟨_, _, rfl, rfl, rfl, ne_of_get h.neF hg, ne_of_right hr⟩))⟩
  · exact ⟨rfl, ha⟩

theorem Rel.remove (h : Rel S R) (s : ByteArray) : (S.remove s.data.toList).1 = (R.remove s).1 ∧ Rel (S.remove s.data.toList).2 (R.remove s).2 := by
  have ha := h.asked
  have hd : S.asked.down = R.asked.off := ha.down
  unfold St.remove RSt.remove
  rw [← hd, ← h.some]
  cases hdn : S.asked.down
  · cases hg : (get S.F s.data.toList).isSome
    · exact ⟨rfl, ha⟩
    · exact ⟨rfl, ha.did (h.on hdn) (Or.inr (Or.inr ⟨_, rfl, rfl, rfl, ne_of_get h.neF hg⟩))⟩
  · exact ⟨rfl, ha⟩

theorem Rel.sync (h : Rel S R) : S.sync.1 = R.sync.1 ∧ Rel S.sync.2 R.sync.2 := by
  have ha := h.asked
  have hd : S.asked.down = R.asked.off := ha.down
  unfold St.sync RSt.sync
  rw [← hd]
  cases hdn : S.asked.down
  · refine ⟨rfl, Rel.counted (S := S.asked.settled) (R := R.asked.settled) ⟨ha.room, ha.r0, ha.r1, ha.F, ha.F, ha.neF, ha.neF, rfl, fun i c d hc => by simp [St.settled] at hc, ha.acts, ha.fuse, ha.down⟩ (h.on hdn)⟩
  · exact ⟨rfl, ha⟩

theorem Rel.fused (h : Rel S R) (n : Int) : Rel (S.fused n) (R.fuse n) := by
  refine ⟨h.room, h.r0, h.r1, h.F, h.Y, h.neF, h.neY, h.len, h.ch, h.acts, ?_, h.down⟩
  show (max n (-1) < 0 ∧ decide (0 ≤ n) = false ∧ max n 0 = 0) ∨ (0 ≤ max n (-1) ∧ decide (0 ≤ n) = true ∧ max n 0 = max n (-1))
  by_cases hn : 0 ≤ n
  · exact Or.inr ⟨by omega, by simpa using hn, by omega⟩
  · exact Or.inl ⟨by omega, by simpa using hn, by omega⟩

theorem Rel.rep (h : Rel S R) (keep : List Bool) : ∀ k, k ≤ S.ch.length → Alike (rep S.ch keep S.Y k) (rrep R.ch keep R.Y k) ∧ NE (rep S.ch keep S.Y k)
  | 0, _ => ⟨h.Y, h.neY⟩
  | k + 1, hk => by
    obtain ⟨h1, h2⟩ := Rel.rep h keep k (by omega)
    obtain ⟨c, hc⟩ : ∃ c, S.ch[k]? = Option.some c := ⟨S.ch[k]'(by omega), by simp⟩
    have hk' : k < R.ch.length := by rw [← h.len]; omega
    obtain ⟨d, hd⟩ : ∃ d, R.ch[k]? = Option.some d := ⟨R.ch[k], by simp [hk']⟩
    by_cases hb : keep[k]? = Option.some true
    · rw [rep_done hc hb, rrep_done hd hb]
      exact (h.ch k c d hc hd).app h1 h2
    · rw [rep_not hb, rrep_not hb]
      exact ⟨h1, h2⟩

theorem Rel.crash (h : Rel S R) (keep : List Bool) : Rel (S.crash keep) (R.crash keep) := by
  obtain ⟨h1, h2⟩ := h.rep keep S.ch.length (Nat.le_refl _)
  have h1' : Alike (Go.Proofs.YtnmghgbpgpaomaaGreat.rep S.ch keep S.Y S.ch.length) (rrep R.ch keep R.Y R.ch.length) := by rw [← h.len]; exact h1
  exact ⟨h.room, h.r0, h.r1, h1', h1', h2, h2, rfl, fun i c d hc => by simp [St.crash] at hc, h.acts, Or.inl ⟨by show (-1 : Int) < 0; decide, rfl, rfl⟩, rfl⟩

end
end Go.Proofs.YtnmghgbpgpaomaaGreat

namespace Go.Proofs.YtnmghgbpgpaomaaGreat
open Go.RowKit Go.Maps Go.WideMaps
set_option maxRecDepth 100000

/-- All blocks of M are the document's disk's. -/
def RCells (M : Nat → Prop) (w : World) : Prop := ∀ k, M k → ∃ c e f, w.heap[k]? = some (.cells c e f) ∧ (e = 55 ∨ e = 90)

theorem RAt.held {w : World} {p : Nat} {vL vO vC : Value} {R : RSt} (h : RAt w p vL vO vC R) : RCells (RMut p vC) w := by
  rintro k (rfl | hm)
  · exact ⟨_, _, _, h.own, Or.inl rfl⟩
  · rcases h.row.2 with ⟨hv, _⟩ | ⟨g, cap, cur, hv, _, hh, _⟩
    · rw [hv] at hm; cases hm
    · rw [hv] at hm; cases hm
      exact ⟨_, _, _, hh, Or.inr rfl⟩

theorem RDisk.held {w : World} {p : Nat} {M : Nat → Prop} {R : RSt} (h : RDisk w p M R) : RCells M w := by
  obtain ⟨vL, vO, vC, h, rfl⟩ := h
  exact h.held

theorem RCells.still {M : Nat → Prop} {w : World} (h : RCells M w) : RStill M w := fun k c e f hk hm => by
  obtain ⟨c', e', f', h1, h2⟩ := h k hm
  rw [h1] at hk
  cases hk
  exact h2

section
variable {M : Nat → Prop} {w w' : World}

theorem Fr.namedR (h : Fr M w w') (hs : RStill M w) {b : Nat} {k : List UInt8} (hd : Named w b k) : Named w' b k := by
  obtain ⟨s, h1, h2, h3⟩ := hd
  exact ⟨s, h.other hs h1 (by decide) (by decide), h2, h3⟩

theorem Fr.cloR (h : Fr M w w') (hs : RStill M w) {f : Value} {c : Ch} (hd : Clo w f c) : Clo w' f c := by
  rcases c.three with ⟨t, rfl⟩ | ⟨a, b, rfl⟩ | ⟨k, rfl⟩
  · obtain ⟨b1, b2, e, h1, h2, h3⟩ := hd; exact ⟨b1, b2, e, h.other hs h1 (by decide) (by decide), h.namedR hs h2, h.otherData hs h3⟩
  · obtain ⟨b1, b2, e, h1, h2⟩ := hd; exact ⟨b1, b2, e, h.namedR hs h1, h.namedR hs h2⟩
  · obtain ⟨b1, e, h1⟩ := hd; exact ⟨b1, e, h.namedR hs h1⟩

theorem Fr.closR (h : Fr M w w') (hs : RStill M w) : ∀ {fs : List Value} {cs : List Ch}, Clos w fs cs → Clos w' fs cs
  | [], [], _ => trivial
  | _ :: _, _ :: _, hd => ⟨h.cloR hs hd.1, Fr.closR h hs hd.2⟩
  | [], _ :: _, hd => hd.elim
  | _ :: _, [], hd => hd.elim

theorem Fr.mapR (h : Fr M w w') (hc : RCells M w) {b n : Nat} {D : DataW Value} (hm : w.ownsMap Tryz.prog 9 heldR b n D) : w'.ownsMap Tryz.prog 9 heldR b n D := by
  refine h.map hm (fun hb => ?_)
  obtain ⟨c, e, f, h1, _⟩ := hc b hb
  obtain ⟨es, cl, h2, _⟩ := hm
  rw [h1] at h2
  cases h2

/-- The program's disk stays while the document's turns. -/
theorem Disk.keptR {p : Nat} {N : Nat → Prop} {S : St} (hd : Disk w p N S) (h : Fr M w w') (hc : RCells M w) : Disk w' p N S := by
  obtain ⟨bf, bs, ca, hd, rfl⟩ := hd
  have hs := hc.still
  obtain ⟨fs, h1, h2⟩ := hd.changes
  exact ⟨bf, bs, ca, ⟨h.other hs hd.own (by decide) (by decide), h.mapR hc hd.files, h.mapR hc hd.synced, hd.ne, ⟨fs, h.otherRow hs h1 (by decide) (by decide), h.closR hs h2⟩, fun t ht => h.otherData hs (hd.dataF t ht), fun t ht => h.otherData hs (hd.dataY t ht)⟩, rfl⟩

theorem Fr.rowD (h : Fr M w w') (hs : Still M w) {base : Nat} {e : TypeId} {size : Nat} {v : Value} {n : Nat} {xs : List Value} (hr : w.ownsRow base e size v n xs) (h1 : e ≠ 67) (h2 : e ≠ 87) : w'.ownsRow base e size v n xs := by
  refine ⟨hr.1, ?_⟩
  rcases hr.2 with h3 | ⟨g, cap, cur, hv, hg, hh, r⟩
  · exact Or.inl h3
  · exact Or.inr ⟨g, cap, cur, hv, hg, h.cellsAt hs hh h1 h2, r⟩

/-- The document's disk stays while the program's turns. -/
theorem RDisk.keptD {p : Nat} {N : Nat → Prop} {R : RSt} (hd : RDisk w p N R) (h : Fr M w w') (hs : Still M w) : RDisk w' p N R := by
  obtain ⟨vL, vO, vC, hd, rfl⟩ := hd
  exact ⟨vL, vO, vC, ⟨h.cellsAt hs hd.own (by decide) (by decide), hd.files.kept h hs, hd.old.kept h hs, h.rowD hs hd.row (by decide) (by decide), fun c hc => h.data hs (hd.data c hc)⟩, rfl⟩
end
end Go.Proofs.YtnmghgbpgpaomaaGreat

namespace Go.Proofs.YtnmghgbpgpaomaaGreat
open Go.RowKit Go.Maps Go.WideMaps
set_option maxRecDepth 100000

/-- In wi lie the program's disk S at p and the document's R at q, both made since w; nothing of w has turned. -/
def Two (w wi : World) (p q : Nat) (S : St) (R : RSt) : Prop :=
  ∃ M N, Disk wi p M S ∧ RDisk wi q N R ∧ Fr None' w wi ∧ (∀ j, M j → w.heap.size ≤ j) ∧ ∀ j, N j → w.heap.size ≤ j

section
variable {w wi wj : World} {p q : Nat} {S : St} {R : RSt}

theorem Two.live (h : Two w wi p q S R) : Live w wi p S := by
  obtain ⟨M, N, h1, h2, h3, h4, h5⟩ := h
  exact ⟨M, h1, h3, h4⟩

theorem Two.fr (h : Two w wi p q S R) : Fr None' w wi := by
  obtain ⟨_, _, _, _, h3, _⟩ := h
  exact h3

theorem Two.fresh (h : Two w wi p q S R) (hf : Fr None' wi wj) : Two w wj p q S R := by
  obtain ⟨M, N, h1, h2, h3, h4, h5⟩ := h
  exact ⟨M, N, h1.fresh hf, h2.fresh hf, h3.then hf, h4, h5⟩

theorem Rel.small (h : Rel S R) {k : Nat} (hi : Inv k S) (hk : k ≤ 60000000) {M : Nat → Prop} (hd : Disk wi p M S) : R.fine ∧ R.Y.length ≤ 400000000 ∧ used R.L < 35184372088832 := by
  have hu := hd.used hi hk
  obtain ⟨bf, bs, ca, hd, _⟩ := hd
  have h1 := hd.files.size_le
  have h2 := hd.synced.size_le
  rw [size_toD] at h1 h2
  have h3 := hi.nc
  have h4 := h.F.length
  have h5 := h.Y.length
  have h6 := h.len
  have h7 := hi.a0
  have h8 := hi.a1
  have h9 := hi.f1
  have h10 := h.acts
  refine ⟨⟨by omega, by omega, ?_, ?_, by omega, by omega⟩, by omega, by rw [← h.F.used]; exact hu⟩
  · rcases h.fuse with ⟨_, _, e⟩ | ⟨_, _, e⟩ <;> omega
  · rcases h.fuse with ⟨_, _, e⟩ | ⟨_, _, e⟩ <;> omega

theorem Two.rread (h : Two w wi p q S R) (s : ByteArray) (hl : R.L.length ≤ 400000000) (hu : used R.L < 35184372088832) :
    Calls Tryz.prog 43 #[.pointer (some ⟨q, 0, none⟩), .string s] wi fun e w' => ∃ v, e = .returned (.tuple #[v, .int .i64 (R.read s.data.toList).2]) ∧ Bytes w' v (R.read s.data.toList).1 ∧ Fr None' wi w' := by
  obtain ⟨M, N, h1, ⟨vL, vO, vC, h2, _⟩, _⟩ := h
  exact (rread_any q vL vO vC R s wi h2 (by omega) hu).mono fun _ _ ⟨v, e1, hd, hf⟩ => ⟨v, e1, hd.bytes, hf⟩

theorem Two.rused (h : Two w wi p q S R) (hl : R.L.length ≤ 400000000) (hu : used R.L < 35184372088832) :
    Calls Tryz.prog 76 #[.pointer (some ⟨q, 0, none⟩)] wi fun e w' => e = .returned (.int .i64 (used R.L)) ∧ wi = w' := by
  obtain ⟨M, N, h1, ⟨vL, vO, vC, h2, _⟩, _⟩ := h
  exact rused_any q vL vO vC R wi h2 (by omega) hu

theorem Rel.read (h : Rel S R) (k : List UInt8) : S.read k = R.read k := by
  unfold St.read RSt.read
  rw [h.down]
  rcases h.F.get k with ⟨g1, g2⟩ | ⟨t, u, g1, g2, g3⟩
  · rw [g1, g2]
  · rw [g1, g2]; simp only [g3]

/-- The cells of the document's disk that the law reads. -/
theorem Two.cells (h : Two w wi p q S R) : ∃ ra rc la lc, wi.cell? ⟨q, 1, none⟩ = some (.slice la R.L.length lc) ∧ wi.cell? ⟨q, 3, none⟩ = some (.slice ra R.ch.length rc) ∧ wi.cell? ⟨q, 4, none⟩ = some (.int .i64 R.done) ∧ wi.cell? ⟨q, 7, none⟩ = some (.bool R.off) ∧ FilesRes wi (.slice la R.L.length lc) R.L := by
  obtain ⟨M, N, h1, ⟨vL, vO, vC, h2, _⟩, _⟩ := h
  obtain ⟨_, c1, _, c3, c4, _, _, c7, _⟩ := h2.cells
  have hf := h2.files
  obtain ⟨la, lc, rfl⟩ := row_slice h2.files.1
  obtain ⟨ra, rc, rfl⟩ := row_slice h2.row
  exact ⟨ra, rc, la, lc, c1, c3, c4, c7, hf⟩

theorem ne_of_good {L : List FileD} {n : Nat} {T : List Tri} (hg : Good L n) (hb : Built L n T) : NE T := fun t ht => by
  obtain ⟨i, f, h1, h2, h3, _⟩ := hb.only t ht
  rw [h3]
  exact ne_of_right (hg i f h1 h2).1

theorem built_alike {L : List FileD} {n : Nat} {T U : List Tri} (hA : Apart T) (hU : Rising U) (h1 : Built L n T) (h2 : Built L n U) : Alike T U := by
  refine ⟨hA, hU, fun k b => ⟨?_, ?_⟩⟩
  · rintro ⟨t, ht, rfl, rfl⟩
    obtain ⟨i, f, a1, a2, a3, a4⟩ := h1.only t ht
    obtain ⟨u, b1, b2⟩ := h2.has i f a1 a2
    obtain ⟨b3, b4⟩ := get_mem b1
    exact ⟨u, b3, by rw [b4, a3], by rw [b2, a4]⟩
  · rintro ⟨t, ht, rfl, rfl⟩
    obtain ⟨i, f, a1, a2, a3, a4⟩ := h2.only t ht
    obtain ⟨u, b1, b2⟩ := h1.has i f a1 a2
    obtain ⟨b3, b4⟩ := get_mem b1
    exact ⟨u, b3, by rw [b4, a3], by rw [b2, a4]⟩
end
end Go.Proofs.YtnmghgbpgpaomaaGreat
