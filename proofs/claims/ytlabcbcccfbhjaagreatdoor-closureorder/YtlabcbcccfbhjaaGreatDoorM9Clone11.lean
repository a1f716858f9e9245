/-
  What is proved here: the contracts that the statement stands on: Clone11, Clone9, Copy10, Copy11. Conditions: as each theorem names them.
-/
import Derived.Test.YtlabcbcccfbhjaaGreatDoorM8OwnP
import Derived.Lib.SliceRun
import Derived.Test.YtlabcbcccfbhjaaGreatDoorM6Strs9
import Derived.Deep.RegionHeld3
namespace Go.Proofs.YtlabcbcccfbhjaaGreatDoor
open Go.RowKit
set_option maxRecDepth 100000

set_option maxHeartbeats 1000000 in
theorem cloneP_any (va : Option Addr) (n c : Nat) (L : List Pr) (w : World) (hl : L.length = n) (ha : PrsAt w va L) (hc : va = none → c = 0) (hn : n ≤ 90000) :
    Calls Tryz.prog 44 #[.slice va n c] w fun e w' => ∃ v' U, e = .returned v' ∧ OwnP w.heap.size w' v' L U ∧ Fr None' w w' := by
  cases va with
  | none =>
    have e : L = [] := by
      cases L with
      | nil => rfl
      | cons x l => obtain ⟨_, _, e, _⟩ := ha 0 x rfl; cases e
    subst e
    obtain rfl := hc rfl
    obtain rfl : n = 0 := hl.symm
    have q : ∀ w, (binOp .eql 35 (.slice none 0 0) (.slice none 0 0)).run Tryz.prog w = .ok (.bool true) w := fun w => Lib.run_eql_slice_nil w _ _ _ 0 0 0 0 Tryz.underlying35
    clear ha hc hl
    go_enter Tryz.func44, Tryz.ntmps44
    go_wp2_with fail
    go_ret
    exact ⟨_, [], rfl, OwnP.nil _ _, Fr.refl _ _⟩
  | some a =>
    have q : ∀ w, (binOp .eql 35 (.slice (some a) n c) (.slice none 0 0)).run Tryz.prog w = .ok (.bool false) w := fun w => Lib.run_eql_slice_nil w _ _ _ n c 0 0 Tryz.underlying35
    obtain ⟨w1, hw1⟩ : ∃ w1, w.alloc (.cells #[] 67) = w1 := ⟨_, rfl⟩
    have F1 : Fr None' w w1 := hw1 ▸ Fr.alloc None' w _
    have O1 : OwnP w.heap.size w1 (.slice (some ⟨w.heap.size, 0, none⟩) 0 0) [] [] := hw1 ▸ OwnP.empty (Nat.le_refl _)
    obtain ⟨v2, U2, w2, r2, O2, f2⟩ := O1.addAll ha hl hc F1 (Nat.le_refl _) F1.size (by simp; omega)
    have F2 : Fr None' w w2 := F1.trans f2 (fun i e => Or.inr (O1.ge e).1)
    obtain ⟨p2, c2, hv2, _⟩ := O2.slice
    have HR : Hid ((Builtin.append_ #[35, 35] 35 #[.slice (some ⟨w.heap.size, 0, none⟩) 0 0, .slice (some a) n c]).run Tryz.prog w1 = .ok v2 w2) := r2
    have HO : Hid (OwnP w.heap.size w2 v2 L U2 ∧ Fr None' w w2) := ⟨by simpa using O2, F2⟩
    clear ha hc hl hn F1 O1 r2 O2 f2 F2 hv2
    go_enter Tryz.func44, Tryz.ntmps44
    go_wp2_with (at_builtin
                 refine app_list9 rfl _ _ rfl rfl rfl HR.out ?_)
    go_ret
    exact ⟨_, U2, rfl, HO.out.1, HO.out.2⟩

theorem pcells_set : ∀ (L : List Pr) (V : List (Value × Value)) (k : Nat) (a b : Value), V.length = L.length → k < L.length → pcells L (V.set k (a, b)) = ((pcells L V).set (k * 7 + 5) a).set (k * 7 + 6) b
  | [], _, k, _, _, _, hk => by simp at hk
  | x :: L, [], _, _, _, e, _ => by cases e
  | x :: L, u :: V, 0, a, b, _, _ => by simp [pcells, prCells]
  | x :: L, u :: V, k + 1, a, b, e, hk => by
    have ih := pcells_set L V k a b (by simpa using e) (by simpa using hk)
    simp only [List.set_cons_succ, pcells, ih]
    rw [show (k + 1) * 7 + 5 = (k * 7 + 5) + 7 from by omega, show (k + 1) * 7 + 6 = (k * 7 + 6) + 7 from by omega]
    simp [prCells]

/-- The rows of one patch are set. -/
theorem OwnP.setRows {base : Nat} {w : World} {g n cap : Nat} {L : List Pr} {V : List (Value × Value)} (h : OwnP base w (.slice (some ⟨g, 0, none⟩) n cap) L V) {k : Nat} (hk : k < L.length) {a b : Value} (ha : StrsAt w a L[k].old) (hb : StrsAt w b L[k].new) (fa : ∀ j, a.ownBlock = some j → ¬ j = g) (fb : ∀ j, b.ownBlock = some j → ¬ j = g) :
    OwnP base ((w.setCell ⟨g, k * 7 + 5, none⟩ a).setCell ⟨g, k * 7 + 6, none⟩ b) (.slice (some ⟨g, 0, none⟩) n cap) L (V.set k (a, b)) ∧ Fr (fun j => j = g) w ((w.setCell ⟨g, k * 7 + 5, none⟩ a).setCell ⟨g, k * 7 + 6, none⟩ b) := by
  have f : Fr (fun j => j = g) w ((w.setCell ⟨g, k * 7 + 5, none⟩ a).setCell ⟨g, k * 7 + 6, none⟩ b) := (Fr.setQ _ _ _ _).then (Fr.setQ _ _ _ _)
  refine ⟨⟨by simp [h.len], ⟨by rw [pcells_set L V k a b h.len hk]; simpa using h.row.1, ?_⟩, fun j x u e1 e2 => ?_⟩, f⟩
  · rcases h.row.2 with ⟨hv, _⟩ | ⟨g', cap', cur, he, hb', hh, h1, h2, h3, h4⟩
    · cases hv
    · cases he
      have e1 := Go.heap_setCell_same w g (k * 7 + 5) _ _ a hh
      have e2 := Go.heap_setCell_same _ g (k * 7 + 6) _ _ b e1
      refine Or.inr ⟨g, cap, _, rfl, hb', e2, h1, h2, by simp [h3], ?_⟩
      rw [pcells_set L V k a b h.len hk, ← h4]
      simp [List.take_set]
  · have key : StrsAt w u.1 x.old ∧ StrsAt w u.2 x.new ∧ Far (.slice (some ⟨g, 0, none⟩) n cap) u.1 x.old ∧ Far (.slice (some ⟨g, 0, none⟩) n cap) u.2 x.new := by
      by_cases hj : k = j
      · subst hj
        rw [List.getElem?_set_self (by rw [h.len]; exact hk)] at e2
        rw [List.getElem?_eq_getElem hk] at e1
        cases e1
        cases e2
        exact ⟨ha, hb, fun _ i e e' => fa i e (Option.some.inj e').symm, fun _ i e e' => fb i e (Option.some.inj e').symm⟩
      · rw [List.getElem?_set_ne hj] at e2
        exact h.str j x u e1 e2
    obtain ⟨s1, s2, f1, f2⟩ := key
    exact ⟨s1.far f (fun hl i e e' => f1 hl i e (by rw [e']; rfl)), s2.far f (fun hl i e e' => f2 hl i e (by rw [e']; rfl)), f1, f2⟩

end Go.Proofs.YtlabcbcccfbhjaaGreatDoor

namespace Go.Proofs.YtlabcbcccfbhjaaGreatDoor
open Go.RowKit
set_option maxRecDepth 100000

set_option maxHeartbeats 1000000 in
theorem clone_any (v : Value) (l : List ByteArray) (w : World) (h : StrsAt w v l) (hl : l.length ≤ 900000) :
    Calls Tryz.prog 43 #[v] w fun e w' => ∃ v', e = .returned v' ∧ StrsAt w' v' l ∧ Fr None' w w' ∧ ∀ k, v'.ownBlock = some k → w.heap.size ≤ k := by
  obtain ⟨va, c, rfl, h1, h2, h3⟩ := h
  cases va with
  | none =>
    have e : l = [] := by
      cases l with
      | nil => rfl
      | cons x l => obtain ⟨_, _, e, _⟩ := h3 0 x rfl; cases e
    subst e
    obtain rfl := h1 rfl
    have q : ∀ w, (binOp .eql 23 (.slice none 0 0) (.slice none 0 0)).run Tryz.prog w = .ok (.bool true) w := fun w => Lib.run_eql_slice_nil w _ _ _ 0 0 0 0 Tryz.underlying23
    clear h1 h2 h3
    go_enter Tryz.func43, Tryz.ntmps43
    go_wp2_with fail
    go_ret
    exact ⟨_, rfl, ⟨none, 0, rfl, fun _ => rfl, Nat.le_refl _, Lines.Row.nil _ _⟩, Fr.refl _ _, fun k e => by cases e⟩
  | some a =>
    have q : ∀ w, (binOp .eql 23 (.slice (some a) l.length c) (.slice none 0 0)).run Tryz.prog w = .ok (.bool false) w := fun w => Lib.run_eql_slice_nil w _ _ _ l.length c 0 0 Tryz.underlying23
    have HR : Hid (Lines.Row w (some a) l) := h3
    have HL : Hid (l.length ≤ 900000) := hl
    clear h1 h2 h3 hl
    go_enter Tryz.func43, Tryz.ntmps43
    go_wp2_with (at_builtin
                 refine Lines.append_str rfl _ _ rfl rfl (Lines.OwnS.empty (w0 := w) (Nat.le_refl _)) (Lines.Fr.alloc _ _ _) (m := l) rfl (HR.out.fr (Lines.Fr.alloc _ _ _)) (fun e => by cases e) (by have := HL.out; simp; omega) ?_
                 intro v1 w1 own1 f1 _)
    rw [List.nil_append] at own1
    go_ret
    exact ⟨_, rfl, own_strs own1, ofLN f1, fun k e => own_ge own1 e⟩

end Go.Proofs.YtlabcbcccfbhjaaGreatDoor

namespace Go.Proofs.YtlabcbcccfbhjaaGreatDoor
open Go.RowKit
set_option maxRecDepth 100000

theorem StrsAt.as2 {w : World} {v : Value} {l : List ByteArray} (h : StrsAt w v l) : ∃ pa ca, v = .slice pa l.length ca := by
  obtain ⟨pa, ca, e, _⟩ := h
  exact ⟨pa, ca, e⟩

end Go.Proofs.YtlabcbcccfbhjaaGreatDoor

namespace Go.Proofs.YtlabcbcccfbhjaaGreatDoor
open Go.RowKit
set_option maxRecDepth 100000

theorem toHid11c {p : Prop} (h : p) : Hid p := h

/-- What copied's loop has made: the rows of the first k patches are new. -/
structure CopyAt (w wr : World) (v : Value) (L : List Pr) (V : List (Value × Value)) (k : Nat) : Prop where
  fr : Fr None' w wr
  own : OwnP w.heap.size wr v L V
  new : ∀ j u, j < k → V[j]? = some u → (∀ i, u.1.ownBlock = some i → w.heap.size ≤ i) ∧ ∀ i, u.2.ownBlock = some i → w.heap.size ≤ i

/-- The cells of one patch of a row. -/
theorem OwnP.cellsAt {base : Nat} {w : World} {g n cap : Nat} {L : List Pr} {V : List (Value × Value)} (h : OwnP base w (.slice (some ⟨g, 0, none⟩) n cap) L V) {k : Nat} (hk : k < L.length) :
    ∃ u, V[k]? = some u ∧ (w.cell? ⟨g, k * 7, none⟩ = some (.int .i64 L[k].kind) ∧ w.cell? ⟨g, k * 7 + 1, none⟩ = some (.string L[k].path) ∧ w.cell? ⟨g, k * 7 + 2, none⟩ = some (.string L[k].dst) ∧ w.cell? ⟨g, k * 7 + 3, none⟩ = some (.string L[k].src) ∧ w.cell? ⟨g, k * 7 + 4, none⟩ = some (.int .i64 L[k].pos) ∧ w.cell? ⟨g, k * 7 + 5, none⟩ = some u.1 ∧ w.cell? ⟨g, k * 7 + 6, none⟩ = some u.2) ∧ (StrsAt w u.1 L[k].old ∧ StrsAt w u.2 L[k].new) ∧ ∀ o, w.frozen? ⟨g, o, none⟩ = false := by
  obtain ⟨u, hp⟩ : ∃ u, V[k]? = some u := ⟨_, List.getElem?_eq_getElem (by rw [h.len]; exact hk)⟩
  have hx := pcells_get L V k _ u (List.getElem?_eq_getElem hk) hp
  rcases h.row.2 with ⟨hv, _⟩ | ⟨g', cap', cur, he, hb', hh, h1, h2, h3, h4⟩
  · cases hv
  · cases he
    have hc' : ∀ j u, j < L.length * 7 → (pcells L V)[j]? = some u → w.cell? ⟨g, j, none⟩ = some u := fun j u hj h1 => by
      rw [← h4, List.getElem?_take, if_pos hj] at h1
      rw [World.cell?, hh]
      simpa using h1
    obtain ⟨s1, s2, _, _⟩ := h.str k _ u (List.getElem?_eq_getElem hk) hp
    refine ⟨u, hp, ⟨?_, ?_, ?_, ?_, ?_, ?_, ?_⟩, ⟨s1, s2⟩, fun o => ?_⟩
    · exact hc' _ _ (by omega) (hx 0 (by omega))
    · exact hc' _ _ (by omega) (hx 1 (by omega))
    · exact hc' _ _ (by omega) (hx 2 (by omega))
    · exact hc' _ _ (by omega) (hx 3 (by omega))
    · exact hc' _ _ (by omega) (hx 4 (by omega))
    · exact hc' _ _ (by omega) (hx 5 (by omega))
    · exact hc' _ _ (by omega) (hx 6 (by omega))
    · unfold World.frozen?
      rw [hh]
      simp

theorem OwnP.at0 {base : Nat} {w : World} {pv : Option Addr} {n cap : Nat} {L : List Pr} {V : List (Value × Value)} (h : OwnP base w (.slice pv n cap) L V) {k : Nat} (hk : k < L.length) : ∃ g, pv = some ⟨g, 0, none⟩ ∧ base ≤ g ∧ g < w.heap.size := by
  rcases h.row.2 with ⟨_, h0⟩ | ⟨g, cap', cur, he, hb', hh, _⟩
  · omega
  · cases he
    exact ⟨g, rfl, hb', (Array.getElem?_eq_some_iff.1 hh).1⟩

theorem CopyAt.step {w wr w5 : World} {g n cap : Nat} {L : List Pr} {V : List (Value × Value)} {k : Nat} (h : CopyAt w wr (.slice (some ⟨g, 0, none⟩) n cap) L V k) (hk : k < L.length) (f : Fr None' wr w5) (hg : w.heap.size ≤ g) (hg2 : g < wr.heap.size) {a b : Value} (ha : StrsAt w5 a L[k].old) (hb : StrsAt w5 b L[k].new) (fa : ∀ j, a.ownBlock = some j → wr.heap.size ≤ j) (fb : ∀ j, b.ownBlock = some j → wr.heap.size ≤ j) :
    CopyAt w ((w5.setCell ⟨g, k * 7 + 5, none⟩ a).setCell ⟨g, k * 7 + 6, none⟩ b) (.slice (some ⟨g, 0, none⟩) n cap) L (V.set k (a, b)) (k + 1) := by
  obtain ⟨h1, h2⟩ := (h.own.kept f).setRows hk ha hb (fun j e e' => by have := fa j e; omega) (fun j e e' => by have := fb j e; omega)
  have hw := h.fr.size
  refine ⟨(h.fr.then7 f).trans h2 (fun i e => Or.inr (by omega)), h1, fun j u hj e => ?_⟩
  by_cases hjk : k = j
  · subst hjk
    rw [List.getElem?_set_self (by rw [h.own.len]; exact hk)] at e
    cases e
    exact ⟨fun i e => by have := fa i e; omega, fun i e => by have := fb i e; omega⟩
  · rw [List.getElem?_set_ne hjk] at e
    exact h.new j u (by omega) e

end Go.Proofs.YtlabcbcccfbhjaaGreatDoor
