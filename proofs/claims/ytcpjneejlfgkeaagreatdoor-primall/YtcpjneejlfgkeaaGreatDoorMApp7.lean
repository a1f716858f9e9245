/-
  What is proved here: what append makes of a row of things of the call's own and a slice of things. Conditions: as each theorem names them.
-/
import Derived.Test.YtcpjneejlfgkeaaGreatDoorM7Strs9
namespace Go.Proofs.YtcpjneejlfgkeaaGreatDoor
open Go.RowKit
set_option maxRecDepth 100000

theorem ecells_append : ∀ (L B : List En) (V U : List Value), V.length = L.length → ecells (L ++ B) (V ++ U) = ecells L V ++ ecells B U
  | [], B, [], U, _ => rfl
  | [], _, _ :: _, _, e => by cases e
  | _ :: _, _, [], _, e => by cases e
  | x :: L, B, v :: V, U, e => by
    simp only [List.cons_append, ecells]
    rw [ecells_append L B V U (by simpa using e)]

/-- The cells of a slice of things. -/
theorem ents_cells {w : World} {g : Nat} : ∀ (B : List En) (o : Nat), EntsAt w (some ⟨g, o, none⟩) B → ∃ U : List Value, U.length = B.length ∧ (∀ j u, (ecells B U)[j]? = some u → w.cell? ⟨g, o + j, none⟩ = some u) ∧ (∀ v ∈ U, v.oneCell' = true) ∧ ∀ (k : Nat) (x : En) (vl : Value), B[k]? = some x → U[k]? = some vl → StrsAt w vl x.lines
  | [], o, _ => ⟨[], rfl, (fun j u e => by simp [ecells] at e), (fun v e => by cases e), fun k x vl e => by simp at e⟩
  | x :: B, o, h => by
    obtain ⟨g', o', e, vl, c0, c1, c2, c3, hs⟩ := h 0 x rfl
    cases e
    obtain ⟨U, h1, h2, h3, h4⟩ := ents_cells B (o + 4) (fun k y hk => by
      obtain ⟨g', o', e, hy⟩ := h (k + 1) y (by simpa using hk)
      cases e
      exact ⟨_, _, rfl, by rw [show o + 4 + k * 4 = o + (k + 1) * 4 from by omega]; exact hy⟩)
    refine ⟨vl :: U, by simp [h1], fun j u hj => ?_, fun v hv => ?_, fun k y vy e1 e2 => ?_⟩
    · simp only [ecells] at hj
      match j, hj with
      | 0, hj => simp at hj; subst hj; simpa using c0
      | 1, hj => simp at hj; subst hj; simpa using c1
      | 2, hj => simp at hj; subst hj; simpa using c2
      | 3, hj => simp at hj; subst hj; simpa using c3
      | j + 4, hj =>
        have := h2 j u (by simpa using hj)
        rw [show o + (j + 4) = o + 4 + j from by omega]
        exact this
    · rcases List.mem_cons.1 hv with e | e
      · subst e
        obtain ⟨_, _, e2, _⟩ := hs
        rw [e2]
        rfl
      · exact h3 v e
    · cases k with
      | zero => simp at e1 e2; subst e1 e2; exact hs
      | succ k => exact h4 k y vy (by simpa using e1) (by simpa using e2)

/-- 'append(l, b...)', l a row of things of the call's own. -/
theorem OwnE.appendAll {base : Nat} {w0 w : World} {v : Value} {L : List En} {V : List Value} (h : OwnE base w0 w v L V) {g o c m : Nat} {B : List En} (hm : B.length = m) (hB : EntsAt w0 (some ⟨g, o, none⟩) B) (f0 : Fr None' w0 w) (hn : L.length + m ≤ 100000) (hbase : base ≤ w.heap.size) :
    ∃ v' U w', (Builtin.append_ #[22, 22] 22 #[v, .slice (some ⟨g, o, none⟩) m c]).run Tryz.prog w = .ok v' w' ∧ OwnE base w0 w' v' (L ++ B) (V ++ U) ∧ Fr (fun k => v.ownBlock = some k) w w' := by
  obtain ⟨U, h1, h2, h3, h4⟩ := ents_cells B o hB
  obtain ⟨i0, hi, hz0, hz1, hz2⟩ := info_parts infoE
  obtain ⟨v', w', hr, h5, h6, _, h7⟩ := run_append_own_at (P := Tryz.prog) w base 22 22 41 i0 _ 4 64 Tryz.underlying22 hi hz0 hz1 hz2 rfl (by decide) v L.length (ecells L V) h.row ⟨g, o, none⟩ m c (ecells B U) (by rw [ecells_length B U h1, hm]) (fun j u hj => by
    have e : (⟨g, o, none⟩ : Addr).add j = ⟨g, o + j, none⟩ := Addr.add_lit ..
    rw [e]
    exact f0.keepCell (h2 j u hj) (fun e => e)) (fun u hu => by
    obtain ⟨j, hj, rfl⟩ := List.getElem_of_mem hu
    have key : ∀ (B : List En) (U : List Value), (∀ v ∈ U, v.oneCell' = true) → ∀ u ∈ ecells B U, u.oneCell' = true := fun B => by
      induction B with
      | nil => exact fun U _ u hu => by simp [ecells] at hu
      | cons x B ih =>
        intro U hU u hu
        cases U with
        | nil => simp [ecells] at hu
        | cons y U =>
          simp only [ecells, List.mem_cons] at hu
          rcases hu with rfl | rfl | rfl | rfl | hu
          · rfl
          · rfl
          · exact hU _ (List.mem_cons_self ..)
          · rfl
          · exact ih U (fun v hv => hU v (List.mem_cons_of_mem _ hv)) u hu
    exact key B U h3 _ hu) (by unfold maxLen; omega) (by omega) hbase
  refine ⟨v', U, w', hr, ⟨by simp [h.len, h1], by rw [ecells_append L B V U h.len, List.length_append, hm]; exact h5, fun k x vl e1 e2 => ?_⟩, Fr.grown h6 (fun k e => e)⟩
  rcases Nat.lt_or_ge k L.length with hk | hk
  · rw [List.getElem?_append_left hk] at e1
    rw [List.getElem?_append_left (by rw [h.len]; exact hk)] at e2
    exact h.str k x vl e1 e2
  · rw [List.getElem?_append_right hk] at e1
    rw [List.getElem?_append_right (by rw [h.len]; exact hk), h.len] at e2
    exact h4 _ x vl e1 e2

end Go.Proofs.YtcpjneejlfgkeaaGreatDoor
