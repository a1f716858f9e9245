/-
  What is proved here: what the document's without, with and changed answer. Condition: the files lie in memory.
-/
import Derived.Test.YthnneejkbobbcaaRFind
import Derived.Laws.Cover1
import Derived.Sort.Walk0
namespace Go.Proofs.Ythnneejkbobbcaa
open Go.RowKit Go.Maps Go.WideMaps
set_option maxRecDepth 100000

def without (L : List Tri) (k : List UInt8) : List Tri := L.filter (fun t => t.k ≠ k)

theorem without_step {L : List Tri} {j : Nat} {t : Tri} (k : List UInt8) (ht : L[j]? = some t) : without (L.take (j + 1)) k = without (L.take j) k ++ (if t.k = k then [] else [t]) := by
  rw [List.take_add_one, ht]
  unfold without
  rw [List.filter_append]
  congr 1
  by_cases h : t.k = k <;> simp [h]

theorem bne_str (k : List UInt8) (s : ByteArray) : (k == s.toList) = decide (k = s.data.toList) := by
  rw [ByteArray.toList_eq]
  generalize s.data.toList = b
  by_cases h : k = b <;> simp [h]

theorem without_len (L : List Tri) (k : List UInt8) : (without L k).length ≤ L.length := List.length_filter_le _ _

/-- The cell of a row that lay there. -/
theorem Fr.cell {w wr : World} (hf : Fr None' w wr) {g off : Nat} {u : Value} (hu : w.cell? ⟨g, off, none⟩ = some u) : wr.cell? ⟨g, off, none⟩ = some u := by
  have hlt' : g < w.heap.size := by
    unfold World.cell? at hu
    split at hu
    · rename_i hk; exact lt_of_some hk
    · cases hu
  rw [World.cell?_of_block (w := w) (a := ⟨g, off, none⟩) (hf.block g hlt' (fun e => e))]
  exact hu

/-- A row of one's own grows. -/
theorem fr_append {w wr w5 : World} {v : Value} {e : TypeId} {n sz : Nat} {xs : List Value} {o : Obj} (hfr : Fr None' w wr) (hv : wr.ownsRow w.heap.size e sz v n xs) (hg : (wr.alloc o).grownBy w5 v.ownBlock) : Fr None' w w5 := by
  refine (hfr.then (Fr.alloc _ _ _)).trans (Fr.grown (M := fun i => v.ownBlock = some i) hg (fun k e => e)) (fun i e => Or.inr ?_)
  rcases hv.2 with ⟨hvv, _⟩ | ⟨g', cap', cur', hvv, hb', _⟩
  · rw [hvv] at e; cases e
  · rw [hvv] at e; cases e; exact hb'

set_option maxHeartbeats 4000000 in
theorem rwithout_any (v : Value) (L : List Tri) (s : ByteArray) (w : World) (h : FilesRes w v L) (hl : L.length ≤ 1000000) :
    Calls Try.prog 51 #[v, .string s] w fun e w' => ∃ v', e = .returned v' ∧ FilesRes w' v' (without L s.data.toList) ∧ w'.ownsRow w.heap.size 53 2 v' (without L s.data.toList).length ((without L s.data.toList).flatMap fun t => [encStr t.k, t.v]) ∧ Fr None' w w' := by
  obtain ⟨a, c, rfl, hc⟩ := h.cells
  have hl' : (L.length : Int) ≤ 1000000 := by omega
  go_enter Try.func51, Try.ntmps51
  go_wp2_with fail
  obtain ⟨i0, hi, hz0, hz1, hz2⟩ := info_parts Try.infoF
  go_loopw [5, 6] (fun o i wr => ∃ j : Nat, j ≤ L.length ∧ i = .int .i64 j ∧ wr.ownsRow w.heap.size 53 2 o (without (L.take j) s.data.toList).length ((without (L.take j) s.data.toList).flatMap fun t => [encStr t.k, t.v]) ∧ Fr None' w wr) (fun _ i _ => L.length - (intOf i).toNat)
  case atStart => exact ⟨0, Nat.zero_le _, rfl, ⟨rfl, Or.inl ⟨rfl, rfl⟩⟩, Fr.refl _ _⟩
  case round =>
    obtain ⟨j, hj, rfl, hv, hfr⟩ := hrel
    obtain ⟨va, vc, rfl⟩ := row_slice hv
    by_cases hlt : j < L.length
    · obtain ⟨t, ht⟩ : ∃ t, L[j]? = some t := ⟨L[j], by simp [hlt]⟩
      obtain ⟨g, rfl, c0, c1, hD⟩ := hc j t ht
      have h1v : t.v.oneCell' = true := by obtain ⟨_, _, e⟩ := row_slice hD; rw [e]; rfl
      have d0 := hfr.cell c0
      have d1 := hfr.cell c1
      have hst := without_step s.data.toList ht
      have HE := bne_str t.k s
      have k0 : (0 : Int) ≤ (j : Int) := by omega
      have k1 : (j : Int) < (L.length : Int) := by omega
      have hol := without_len (L.take j) s.data.toList
      have hol2 : (L.take j).length ≤ j := by simp; omega
      generalize without (L.take j) s.data.toList = O at *
      clear hc ht c0 c1 hD
      by_cases hk : t.k = s.data.toList
      · have tk : (t.k == s.toList) = true := by rw [HE]; simpa using hk
        have tk' : (t.k != s.toList) = false := by rw [bne, tk]; rfl
        rw [if_pos hk, List.append_nil] at hst
        have HS : Hid (without (L.take (j + 1)) s.data.toList = O) := hst
        clear HE hk hst
        go_wp2
        go_roundw
        case rel => exact ⟨j + 1, by omega, by go_num, by rw [HS.out]; exact hv, hfr⟩
        case measure => simp [intOf]; omega
      · have tk : (t.k == s.toList) = false := by rw [HE]; simpa using hk
        have tk' : (t.k != s.toList) = true := by rw [bne, tk]; rfl
        rw [if_neg hk] at hst
        have HS : Hid (without (L.take (j + 1)) s.data.toList = O ++ [t]) := hst
        clear HE hk hst
        go_wp2_with (first
          | (at_builtin; refine wpList_append_own_at _ rfl _ _ 22 rfl w.heap.size 53 i0 _ 2 40 Try.underlying22 hi hz0 hz1 hz2 rfl (by decide) _ _ _ rfl (hv.alloc _) ⟨wr.heap.size, 0, none⟩ 1 1 [encStr t.k, t.v] rfl rfl (two_new _ _ _ _) (fun u hu => by simp at hu; rcases hu with rfl | rfl; rfl; exact h1v) (by unfold maxLen; omega) (by omega) (by have := hfr.size; simp; omega) ?_; intro v5 w5 hown5 hg5 hnil hloc)
          | go_in)
        have hfr5 := fr_append hfr hv hg5
        go_roundw
        case rel => exact ⟨j + 1, by omega, by go_num, by rw [HS.out]; simpa using hown5, hfr5⟩
        case measure => simp [intOf]; omega
    · have hjl : j = L.length := by omega
      subst hjl
      rw [List.take_length] at hv ⊢
      clear hc
      go_wp2
      go_ret
      exact ⟨_, rfl, ⟨ownsRow_base_a hv (Nat.zero_le _), fun t ht => hfr.allData (stillN _) h.2 t (List.mem_filter.1 ht).1⟩, hv, hfr⟩

/-- One file more is looked at. -/
def insStep (f : Tri) (st : List Tri × Bool) (t : Tri) : List Tri × Bool := if st.2 = false ∧ f.k < t.k then (st.1 ++ [f, t], true) else (st.1 ++ [t], st.2)
def insFold (f : Tri) (W : List Tri) : List Tri × Bool := W.foldl (insStep f) ([], false)
/-- The files with one, in its place. -/
def withF (L : List Tri) (f : Tri) : List Tri := let r := insFold f (without L f.k); if r.2 then r.1 else r.1 ++ [f]

theorem insFold_step {f t : Tri} {W : List Tri} {j : Nat} (ht : W[j]? = some t) : insFold f (W.take (j + 1)) = insStep f (insFold f (W.take j)) t := by
  unfold insFold
  rw [List.take_add_one, ht, List.foldl_append]
  rfl

theorem insFold_len (f : Tri) : ∀ (W : List Tri) (st : List Tri × Bool), (W.foldl (insStep f) st).1.length ≤ st.1.length + W.length + (if st.2 then 0 else 1)
  | [], st => by simp
  | t :: r, st => by
    have ih := insFold_len f r (insStep f st t)
    rw [List.foldl_cons]
    obtain ⟨O, d⟩ := st
    cases d
    · by_cases h : f.k < t.k
      · simp [insStep, h] at ih ⊢; omega
      · simp [insStep, h] at ih ⊢; omega
    · simp [insStep] at ih ⊢; omega

theorem insFold_mem (f : Tri) : ∀ (W : List Tri) (st : List Tri × Bool) (x : Tri), x ∈ (W.foldl (insStep f) st).1 → x ∈ st.1 ∨ x = f ∨ x ∈ W
  | [], st, x, h => Or.inl h
  | t :: r, st, x, h => by
    rw [List.foldl_cons] at h
    rcases insFold_mem f r _ x h with h1 | h1 | h1
    · unfold insStep at h1
      split at h1
      · simp at h1
        rcases h1 with h1 | h1 | h1
        · exact Or.inl h1
        · exact Or.inr (Or.inl h1)
        · exact Or.inr (Or.inr (by simp [h1]))
      · simp at h1
        rcases h1 with h1 | h1
        · exact Or.inl h1
        · exact Or.inr (Or.inr (by simp [h1]))
    · exact Or.inr (Or.inl h1)
    · exact Or.inr (Or.inr (by simp [h1]))

theorem encStr_back (s : ByteArray) : encStr s.data.toList = .string s := by
  unfold encStr
  cases s
  simp

theorem bytesLess_str (k : List UInt8) (s : ByteArray) : Op.bytesLess k s.toList = decide (k < s.data.toList) := by
  rw [ByteArray.toList_eq, Go.Proofs.bytesLess_eq]

set_option maxHeartbeats 4000000 in
theorem rwith_any (v : Value) (L : List Tri) (s : ByteArray) (fv : Value) (fb : List UInt8) (w : World) (h : FilesRes w v L) (hl : L.length ≤ 900000) (hf : Data w fv fb) :
    Calls Try.prog 32 #[v, .agg #[.string s, fv]] w fun e w' => ∃ v', e = .returned v' ∧ FilesRes w' v' (withF L ⟨s.data.toList, fv, fb⟩) ∧ Fr None' w w' := by
  obtain ⟨a, c, rfl, _⟩ := h.cells
  obtain ⟨fa, fc, rfl⟩ := row_slice hf
  have hw := fun w0 (h0 : FilesRes w0 (.slice a L.length c) L) => rwithout_any _ L s w0 h0 (by omega)
  go_enter Try.func32, Try.ntmps32
  go_wp2_with fail
  have fA : Fr None' w (w.alloc (.cells #[.string s, .slice fa fb.length fc] 53)) := Fr.alloc None' _ _
  refine (hw _ (h.kept fA (stillN _))).mono ?_
  rintro e w2 ⟨v2, rfl, R2, _, F2⟩
  have n0 := F2.cell (cell0 (MapKept.heap_alloc w (.cells #[.string s, .slice fa fb.length fc] 53)).1)
  have n1 := F2.cell (cell1 (MapKept.heap_alloc w (.cells #[.string s, .slice fa fb.length fc] 53)).1)
  have hD2 := (fA.then F2).row hf (fun _ _ e => e)
  have hF2 := fA.then F2
  generalize hb : w.heap.size = b at *
  clear hw fA F2 h
  obtain ⟨a2, c2, rfl, hc2⟩ := R2.cells
  have hwl := without_len L s.data.toList
  have HW : Hid (withF L ⟨s.data.toList, .slice fa fb.length fc, fb⟩ = (let r := insFold ⟨s.data.toList, .slice fa fb.length fc, fb⟩ (without L s.data.toList); if r.2 then r.1 else r.1 ++ [⟨s.data.toList, .slice fa fb.length fc, fb⟩])) := rfl
  have hne : ∀ t ∈ without L s.data.toList, t.k ≠ s.data.toList := fun t ht => by simpa using (List.mem_filter.1 ht).2
  generalize without L s.data.toList = W at *
  have hl' : (W.length : Int) ≤ 900000 := by omega
  go_wp2_with fail
  obtain ⟨i0, hi, hz0, hz1, hz2⟩ := info_parts Try.infoF
  go_loopw [5, 6, 7] (fun o dn i wr => ∃ j : Nat, j ≤ W.length ∧ i = .int .i64 j ∧ dn = .bool (insFold ⟨s.data.toList, .slice fa fb.length fc, fb⟩ (W.take j)).2 ∧ wr.ownsRow w2.heap.size 53 2 o (insFold ⟨s.data.toList, .slice fa fb.length fc, fb⟩ (W.take j)).1.length ((insFold ⟨s.data.toList, .slice fa fb.length fc, fb⟩ (W.take j)).1.flatMap fun t => [encStr t.k, t.v]) ∧ Fr None' w2 wr) (fun _ _ i _ => W.length - (intOf i).toNat)
  case atStart => exact ⟨0, Nat.zero_le _, rfl, rfl, ⟨rfl, Or.inl ⟨rfl, rfl⟩⟩, Fr.refl _ _⟩
  case round =>
    obtain ⟨j, hj, rfl, rfl, hv, hfr⟩ := hrel
    obtain ⟨va, vc, rfl⟩ := row_slice hv
    by_cases hlt : j < W.length
    · obtain ⟨t, ht⟩ : ∃ t, W[j]? = some t := ⟨W[j], by simp [hlt]⟩
      obtain ⟨g, rfl, c0, c1, hD⟩ := hc2 j t ht
      have h1v : t.v.oneCell' = true := by obtain ⟨_, _, e⟩ := row_slice hD; rw [e]; rfl
      have d0 := hfr.cell c0
      have d1 := hfr.cell c1
      have m0 := hfr.cell n0
      have m1 := hfr.cell n1
      have hst := insFold_step (f := ⟨s.data.toList, .slice fa fb.length fc, fb⟩) ht
      have k0 : (0 : Int) ≤ (j : Int) := by omega
      have k1 : (j : Int) < (W.length : Int) := by omega
      have hol := insFold_len ⟨s.data.toList, .slice fa fb.length fc, fb⟩ (W.take j) ([], false)
      have htk := hne t (List.mem_of_getElem? ht)
      have heq : (t.k == s.toList) = false := by rw [bne_str]; simpa using htk
      have hls := bytesLess_str t.k s
      generalize hO : insFold ⟨s.data.toList, .slice fa fb.length fc, fb⟩ (W.take j) = O at *
      have hol' : O.1.length ≤ 900001 := by
        have h2 : (insFold ⟨s.data.toList, .slice fa fb.length fc, fb⟩ (W.take j)).1.length ≤ _ := hol
        rw [hO] at h2
        simp at h2
        omega
      obtain ⟨O, dn⟩ := O
      simp only at hol' hv
      clear hc2 ht hD hne hol hO
      cases dn
      · cases hless : Op.bytesLess t.k s.toList
        · have hgt : s.data.toList < t.k := by
            rw [hls] at hless
            simp at hless
            exact Decidable.byContradiction fun h => htk (List.le_antisymm (List.not_lt.1 h) hless)
          have HS : Hid (insFold ⟨s.data.toList, .slice fa fb.length fc, fb⟩ (W.take (j + 1)) = (O ++ [⟨s.data.toList, .slice fa fb.length fc, fb⟩, t], true)) := by
            show _ = _
            rw [hst]; simp [insStep, hgt]
          clear hst hls htk hgt
          go_wp2_with fail
          go_quiet (fail)
          have hvq : (wr.drewN nq).ownsRow w2.heap.size 53 2 (.slice va O.length vc) O.length (O.flatMap fun t => [encStr t.k, t.v]) := hv
          have hfrq := hfr.then (fr_drewN wr nq)
          have q0 := hfrq.cell n0
          have q1 := hfrq.cell n1
          have hsz := hfrq.size
          generalize wr.drewN nq = wq at *
          go_wp2_with (first
            | (at_builtin; refine wpList_append_own_at _ rfl _ _ 22 rfl w2.heap.size 53 i0 _ 2 40 Try.underlying22 hi hz0 hz1 hz2 rfl (by decide) _ _ _ rfl (hown5.alloc _) ⟨w5.heap.size, 0, none⟩ 1 1 [encStr t.k, t.v] rfl rfl (two_new _ _ _ _) (fun u hu => by simp at hu; rcases hu with rfl | rfl; rfl; exact h1v) (by unfold maxLen; omega) (by omega) (by have := f5.size; simp; omega) ?_; intro v6 w6 hown6 hg6 hnil6 hloc6)
            | (at_builtin; refine wpList_append_own_at _ rfl _ _ 22 rfl w2.heap.size 53 i0 _ 2 40 Try.underlying22 hi hz0 hz1 hz2 rfl (by decide) _ _ _ rfl (hvq.alloc _) ⟨wq.heap.size, 0, none⟩ 1 1 [.string s, .slice fa fb.length fc] rfl rfl (two_new _ _ _ _) (fun u hu => by simp at hu; rcases hu with rfl | rfl; rfl; rfl) (by unfold maxLen; omega) (by omega) (by have := hfrq.size; simp; omega) ?_; intro v5 w5 hown5 hg5 hnil5 hloc5; have f5 := fr_append hfrq hvq hg5; have e0 := f5.cell c0; have e1 := f5.cell c1; obtain ⟨va5, vc5, rfl⟩ := row_slice hown5)
            | go_in)
          have f6 := fr_append f5 hown5 hg6
          go_roundw
          case rel => exact ⟨j + 1, by omega, by go_num, by rw [HS.out], by rw [HS.out]; simpa [encStr_back] using hown6, f6⟩
          case measure => simp [intOf]; omega
        · have hgt : ¬ s.data.toList < t.k := by
            rw [hls] at hless
            simp at hless
            exact fun h => absurd hless (List.lt_asymm h)
          have HS : Hid (insFold ⟨s.data.toList, .slice fa fb.length fc, fb⟩ (W.take (j + 1)) = (O ++ [t], false)) := by
            show _ = _
            rw [hst]; simp [insStep, hgt]
          clear hst hls htk hgt
          go_wp2_with fail
          go_quiet (fail)
          have hvq : (wr.drewN nq).ownsRow w2.heap.size 53 2 (.slice va O.length vc) O.length (O.flatMap fun t => [encStr t.k, t.v]) := hv
          have hfrq := hfr.then (fr_drewN wr nq)
          have q0 := hfrq.cell c0
          have q1 := hfrq.cell c1
          have hsz := hfrq.size
          generalize wr.drewN nq = wq at *
          go_wp2_with (first
            | (at_builtin; refine wpList_append_own_at _ rfl _ _ 22 rfl w2.heap.size 53 i0 _ 2 40 Try.underlying22 hi hz0 hz1 hz2 rfl (by decide) _ _ _ rfl (hvq.alloc _) ⟨wq.heap.size, 0, none⟩ 1 1 [encStr t.k, t.v] rfl rfl (two_new _ _ _ _) (fun u hu => by simp at hu; rcases hu with rfl | rfl; rfl; exact h1v) (by unfold maxLen; omega) (by omega) (by have := hfrq.size; simp; omega) ?_; intro v6 w6 hown6 hg6 hnil6 hloc6)
            | go_in)
          have f6 := fr_append hfrq hvq hg6
          go_roundw
          case rel => exact ⟨j + 1, by omega, by go_num, by rw [HS.out], by rw [HS.out]; simpa using hown6, f6⟩
          case measure => simp [intOf]; omega
      · have HS : Hid (insFold ⟨s.data.toList, .slice fa fb.length fc, fb⟩ (W.take (j + 1)) = (O ++ [t], true)) := by
          show _ = _
          rw [hst]; simp [insStep]
        clear hst hls htk
        go_wp2_with fail
        go_quiet (fail)
        have hvq : (wr.drewN nq).ownsRow w2.heap.size 53 2 (.slice va O.length vc) O.length (O.flatMap fun t => [encStr t.k, t.v]) := hv
        have hfrq := hfr.then (fr_drewN wr nq)
        have q0 := hfrq.cell c0
        have q1 := hfrq.cell c1
        have hsz := hfrq.size
        generalize wr.drewN nq = wq at *
        go_wp2_with (first
          | (at_builtin; refine wpList_append_own_at _ rfl _ _ 22 rfl w2.heap.size 53 i0 _ 2 40 Try.underlying22 hi hz0 hz1 hz2 rfl (by decide) _ _ _ rfl (hvq.alloc _) ⟨wq.heap.size, 0, none⟩ 1 1 [encStr t.k, t.v] rfl rfl (two_new _ _ _ _) (fun u hu => by simp at hu; rcases hu with rfl | rfl; rfl; exact h1v) (by unfold maxLen; omega) (by omega) (by have := hfrq.size; simp; omega) ?_; intro v6 w6 hown6 hg6 hnil6 hloc6)
          | go_in)
        have f6 := fr_append hfrq hvq hg6
        go_roundw
        case rel => exact ⟨j + 1, by omega, by go_num, by rw [HS.out], by rw [HS.out]; simpa using hown6, f6⟩
        case measure => simp [intOf]; omega
    · have hjl : j = W.length := by omega
      subst hjl
      rw [List.take_length] at hv ⊢
      have hol := insFold_len ⟨s.data.toList, .slice fa fb.length fc, fb⟩ W ([], false)
      have hmem : ∀ x ∈ (insFold ⟨s.data.toList, .slice fa fb.length fc, fb⟩ W).1, x = ⟨s.data.toList, .slice fa fb.length fc, fb⟩ ∨ x ∈ W := fun x hx => by
        rcases insFold_mem _ W ([], false) x hx with h1 | h1 | h1
        · simp at h1
        · exact Or.inl h1
        · exact Or.inr h1
      have HM : Hid (∀ x ∈ (insFold ⟨s.data.toList, .slice fa fb.length fc, fb⟩ W).1, x = ⟨s.data.toList, .slice fa fb.length fc, fb⟩ ∨ x ∈ W) := hmem
      have hol' : (insFold ⟨s.data.toList, .slice fa fb.length fc, fb⟩ W).1.length ≤ 900001 := by
        have h2 : (insFold ⟨s.data.toList, .slice fa fb.length fc, fb⟩ W).1.length ≤ _ := hol
        simp at h2
        omega
      have m0 := hfr.cell n0
      have m1 := hfr.cell n1
      have HD : Hid (∀ wz, Fr None' w2 wz → ∀ x : Tri, (x = ⟨s.data.toList, .slice fa fb.length fc, fb⟩ ∨ x ∈ W) → Data wz x.v x.b) := fun wz hz x hx => by
        rcases hx with rfl | hx
        · exact hz.row hD2 (fun _ _ e => e)
        · exact hz.allData (stillN _) R2.2 x hx
      clear hc2 hmem hol hne
      generalize hO : insFold ⟨s.data.toList, .slice fa fb.length fc, fb⟩ W = O at *
      obtain ⟨O, dn⟩ := O
      simp only at hol' hv HW HM
      cases dn
      · go_wp2_with (first
          | (at_builtin; refine wpList_append_own_at _ rfl _ _ 22 rfl w2.heap.size 53 i0 _ 2 40 Try.underlying22 hi hz0 hz1 hz2 rfl (by decide) _ _ _ rfl (hv.alloc _) ⟨wr.heap.size, 0, none⟩ 1 1 [.string s, .slice fa fb.length fc] rfl rfl (two_new _ _ _ _) (fun u hu => by simp at hu; rcases hu with rfl | rfl; rfl; rfl) (by unfold maxLen; omega) (by omega) (by have := hfr.size; simp; omega) ?_; intro v6 w6 hown6 hg6 hnil6 hloc6)
          | go_in)
        have f6 := fr_append hfr hv hg6
        go_wp2
        go_ret
        refine ⟨_, rfl, ⟨?_, ?_⟩, hF2.then f6⟩
        · rw [HW.out]
          exact ownsRow_base_a (by simpa [encStr_back] using hown6) (Nat.zero_le _)
        · rw [HW.out]
          intro x hx
          rcases List.mem_append.1 hx with h1 | h1
          · exact HD.out _ f6 x (HM.out x h1)
          · simp at h1; exact HD.out _ f6 x (Or.inl h1)
      · go_wp2
        go_ret
        refine ⟨_, rfl, ⟨?_, ?_⟩, hF2.then hfr⟩
        · rw [HW.out]
          exact ownsRow_base_a hv (Nat.zero_le _)
        · rw [HW.out]
          intro x hx
          exact HD.out _ hfr x (HM.out x hx)

end Go.Proofs.Ythnneejkbobbcaa
