/-
  What is proved here: how a row of hunks lies in memory, whose last hunk grows. Conditions: as each theorem names them.
-/
import Derived.Test.YtoophkpmbinmlaaGath
namespace Go.Proofs.Ytoophkpmbinmlaa
open Go.RowKit
set_option maxRecDepth 100000

def nil' : Value := .slice none 0 0

theorem nil_own (k : Nat) : ¬ Own1 nil' k := fun e => by cases e

/-- Hunks of the call's own, each with texts of its own. -/
structure RD (base : Nat) (w : World) (v : Value) (L : List (Hk ByteArray)) (V : List (Value × Value)) : Prop where
  len : V.length = L.length
  row : w.ownsRow base 24 3 v L.length (hcells L V)
  str : ∀ (k : Nat) (h : Hk ByteArray) (p : Value × Value), L[k]? = some h → V[k]? = some p → OwnV base w 9 p.1 (h.o.map .string) ∧ OwnV base w 9 p.2 (h.n.map .string)
  ap : ∀ (k : Nat) (p : Value × Value), V[k]? = some p → ∀ b, Own1 p.1 b ∨ Own1 p.2 b → ¬ Own1 v b
  two : ∀ (k : Nat) (p : Value × Value), V[k]? = some p → ∀ b, Own1 p.1 b → ¬ Own1 p.2 b
  far : ∀ (j k : Nat) (p q : Value × Value), V[j]? = some p → V[k]? = some q → j ≠ k → ∀ b, Own1 p.1 b ∨ Own1 p.2 b → ¬ (Own1 q.1 b ∨ Own1 q.2 b)

theorem RD.nil (base : Nat) (w : World) : RD base w nil' [] [] := ⟨rfl, World.ownsRow_nil w _ _ 3, fun k h p e => by simp at e, fun k p e => by simp at e, fun k p e => by simp at e, fun j k p q e => by simp at e⟩

theorem RD.get {base : Nat} {w : World} {v : Value} {L : List (Hk ByteArray)} {V : List (Value × Value)} (h : RD base w v L V) {k : Nat} {p : Value × Value} (hk : V[k]? = some p) : ∃ x, L[k]? = some x := by
  have := (List.getElem?_eq_some_iff.1 hk).1
  exact ⟨_, List.getElem?_eq_getElem (by rw [← h.len]; exact this)⟩

theorem RD.lt {base : Nat} {w : World} {v : Value} {L : List (Hk ByteArray)} {V : List (Value × Value)} (h : RD base w v L V) {k : Nat} {p : Value × Value} (hk : V[k]? = some p) {b : Nat} (hb : Own1 p.1 b ∨ Own1 p.2 b) : base ≤ b ∧ b < w.heap.size := by
  obtain ⟨x, hx⟩ := h.get hk
  obtain ⟨h1, h2⟩ := h.str k x p hx hk
  exact hb.elim (fun e => h1.lt e) (fun e => h2.lt e)

theorem RD.fr {base : Nat} {w w' : World} {v : Value} {L : List (Hk ByteArray)} {V : List (Value × Value)} (h : RD base w v L V) {M : Nat → Prop} (f : Fr M w w') (hv : ∀ k, Own1 v k → ¬ M k) (hV : ∀ (k : Nat) (p : Value × Value), V[k]? = some p → ∀ b, Own1 p.1 b ∨ Own1 p.2 b → ¬ M b) : RD base w' v L V :=
  ⟨h.len, ownH_fr h.row f hv, fun k x p e1 e2 => ⟨(h.str k x p e1 e2).1.fr f (fun b hb => hV k p e2 b (Or.inl hb)), (h.str k x p e1 e2).2.fr f (fun b hb => hV k p e2 b (Or.inr hb))⟩, h.ap, h.two, h.far⟩

theorem RD.kept {base : Nat} {w w' : World} {v : Value} {L : List (Hk ByteArray)} {V : List (Value × Value)} (h : RD base w v L V) (f : Fr None' w w') : RD base w' v L V := h.fr f (fun _ _ e => e) (fun _ _ _ _ _ e => e)

theorem snoc_get {α : Type} {l : List α} {x y : α} {k : Nat} (h : (l ++ [x])[k]? = some y) : l[k]? = some y ∧ k < l.length ∨ k = l.length ∧ y = x := by
  rcases Nat.lt_trichotomy k l.length with h1 | h1 | h1
  · rw [List.getElem?_append_left h1] at h; exact Or.inl ⟨h, h1⟩
  · subst h1
    rw [List.getElem?_append_right (Nat.le_refl _), Nat.sub_self] at h
    simp at h
    exact Or.inr ⟨rfl, h.symm⟩
  · rw [List.getElem?_eq_none (by simp; omega)] at h; cases h

/-- A hunk without texts is put behind. -/
theorem RD.open {base : Nat} {w : World} {v : Value} {L : List (Hk ByteArray)} {V : List (Value × Value)} (h : RD base w v L V) (at' : Nat) (hb : base ≤ w.heap.size) (hL : L.length ≤ 2000) :
    ∃ g c w4, (Builtin.append_ #[28, 28] 28 #[v, .slice (some ⟨w.heap.size, 0, none⟩) 1 1]).run Try.prog (w.alloc (.cells #[.int .i64 (at' : Int), .slice none 0 0, .slice none 0 0] 24 (0, 0))) = .ok (.slice (some ⟨g, 0, none⟩) (L.length + 1) c) w4 ∧
      RD base w4 (.slice (some ⟨g, 0, none⟩) (L.length + 1) c) (L ++ [⟨at', [], []⟩]) (V ++ [(nil', nil')]) ∧ Fr (Own1 v) w w4 := by
  have F : Fr None' w (w.alloc (.cells #[.int .i64 (at' : Int), .slice none 0 0, .slice none 0 0] 24 (0, 0))) := Fr.alloc None' w _
  obtain ⟨g, c, w4, hr, own4, f4, hg⟩ := append_hunk (ownH_fr h.row F (fun _ _ e => e)) (b := w.heap.size) (u1 := .int .i64 (at' : Int)) (u2 := .slice none 0 0) (u3 := .slice none 0 0) (heap_alloc_new w _) rfl rfl rfl (by omega) (by simp; omega)
  have F4 : Fr (Own1 v) w w4 := F.any.then f4
  have hgo : ∀ k, Own1 (.slice (some ⟨g, 0, none⟩) (L.length + 1) c) k → k = g := fun k hk => by cases hk; rfl
  have hs : (w.alloc (.cells #[.int .i64 (at' : Int), .slice none 0 0, .slice none 0 0] 24 (0, 0))).heap.size = w.heap.size + 1 := by simp
  have nv : ∀ k, Own1 v k → k < w.heap.size := fun k hk => (ownH_lt h.row hk).2
  have off : ∀ (k : Nat) (p : Value × Value), V[k]? = some p → ∀ b, Own1 p.1 b ∨ Own1 p.2 b → b ≠ g := fun k p hk b hb' e => by
    rcases hg with hg | hg
    · exact h.ap k p hk b hb' (e ▸ hg)
    · have := (h.lt hk hb').2; rw [hs] at hg; omega
  refine ⟨g, c, w4, hr, ⟨by simp [h.len], ?_, fun k x p e1 e2 => ?_, fun k p e2 b hb' e => ?_, fun k p e2 b hb' => ?_, fun j k p q e1 e2 hne b hb' => ?_⟩, F4⟩
  · rw [hcells_snoc L V _ _ _ h.len, List.length_append]
    exact own4
  · rcases snoc_get e2 with ⟨e2, hk⟩ | ⟨hk, rfl⟩
    · rw [List.getElem?_append_left (by rw [← h.len]; exact hk)] at e1
      obtain ⟨s1, s2⟩ := h.str k x p e1 e2
      exact ⟨s1.fr F4 (fun b hb' => h.ap k p e2 b (Or.inl hb')), s2.fr F4 (fun b hb' => h.ap k p e2 b (Or.inr hb'))⟩
    · rw [hk, h.len, List.getElem?_append_right (Nat.le_refl _), Nat.sub_self] at e1
      simp at e1
      subst e1
      exact ⟨OwnV.nil _ _ _, OwnV.nil _ _ _⟩
  · rcases snoc_get e2 with ⟨e2, _⟩ | ⟨_, rfl⟩
    · exact off k p e2 b hb' (hgo b e)
    · exact hb'.elim (nil_own b) (nil_own b)
  · rcases snoc_get e2 with ⟨e2, _⟩ | ⟨_, rfl⟩
    · exact h.two k p e2 b hb'
    · exact nil_own b
  · rcases snoc_get e1 with ⟨e1, _⟩ | ⟨_, rfl⟩
    · rcases snoc_get e2 with ⟨e2, _⟩ | ⟨_, rfl⟩
      · exact h.far j k p q e1 e2 hne b hb'
      · exact fun e => e.elim (nil_own b) (nil_own b)
    · exact (hb'.elim (nil_own b) (nil_own b)).elim

theorem setCell_at {w : World} {g o : Nat} {c : Array Value} {t : TypeId} {z : Nat × Nat} (h : w.heap[g]? = some (.cells c t z)) (u : Value) : (w.setCell ⟨g, o, none⟩ u).heap[g]? = some (.cells (c.setIfInBounds o u) t z) := by
  unfold World.setCell
  simp only
  rw [Array.getElem?_modify]
  simp [h]

/-- The last hunk's cells. -/
theorem RD.last {base : Nat} {w : World} {v : Value} {L : List (Hk ByteArray)} {V : List (Value × Value)} {h : Hk ByteArray} {p1 p2 : Value} (R : RD base w v (L ++ [h]) (V ++ [(p1, p2)])) :
    ∃ g c, v = .slice (some ⟨g, 0, none⟩) (L.length + 1) c ∧ w.cell? ⟨g, L.length * 3, none⟩ = some (.int .i64 (h.at' : Int)) ∧ w.cell? ⟨g, L.length * 3 + 1, none⟩ = some p1 ∧ w.cell? ⟨g, L.length * 3 + 2, none⟩ = some p2 ∧ (∀ o, w.frozen? ⟨g, o, none⟩ = false) := by
  have hl := R.len
  simp at hl
  rcases R.row.2 with ⟨_, e⟩ | ⟨g, cap, cur, hv, hb, hh, hc, _, hs, ht⟩
  · simp at e
  · have hx := hcells_get (L ++ [h]) (V ++ [(p1, p2)]) L.length h (p1, p2) (by simp) (by simp [← hl])
    refine ⟨g, cap, by rw [hv]; simp, ?_, ?_, ?_, fun o => ?_⟩
    · have h1 := hx.1
      rw [← ht, List.getElem?_take, if_pos (by simp <;> omega)] at h1
      rw [World.cell?, hh]; simpa using h1
    · have h1 := hx.2.1
      rw [← ht, List.getElem?_take, if_pos (by simp <;> omega)] at h1
      rw [World.cell?, hh]; simpa using h1
    · have h1 := hx.2.2
      rw [← ht, List.getElem?_take, if_pos (by simp <;> omega)] at h1
      rw [World.cell?, hh]; simpa using h1
    · unfold World.frozen?
      rw [hh]
      simp

/-- The last hunk is laid anew. -/
theorem RD.put {base : Nat} {w w1 : World} {v : Value} {L : List (Hk ByteArray)} {V : List (Value × Value)} {h h' : Hk ByteArray} {p1 p2 q1 q2 : Value} (R : RD base w v (L ++ [h]) (V ++ [(p1, p2)])) {M : Nat → Prop} (f : Fr M w w1) (hM : ∀ k, M k → (Own1 p1 k ∨ Own1 p2 k) ∨ w.heap.size ≤ k)
    (o1 : OwnV base w1 9 q1 (h'.o.map .string)) (o2 : OwnV base w1 9 q2 (h'.n.map .string)) (n1 : ∀ k, Own1 q1 k ∨ Own1 q2 k → (Own1 p1 k ∨ Own1 p2 k) ∨ w.heap.size ≤ k) (n2 : ∀ k, Own1 q1 k → ¬ Own1 q2 k)
    {g c : Nat} (hv : v = .slice (some ⟨g, 0, none⟩) (L.length + 1) c) :
    RD base (((w1.setCell ⟨g, L.length * 3, none⟩ (.int .i64 (h'.at' : Int))).setCell ⟨g, L.length * 3 + 1, none⟩ q1).setCell ⟨g, L.length * 3 + 2, none⟩ q2) v (L ++ [h']) (V ++ [(q1, q2)]) := by
  have hl : V.length = L.length := by have := R.len; simpa using this
  have hlast : (V ++ [(p1, p2)])[V.length]? = some (p1, p2) := by simp
  have hvg : Own1 v g := by rw [hv]; rfl
  have vg : ∀ k, Own1 v k → k = g := fun k hk => by rw [hv] at hk; cases hk; rfl
  have hglt := (ownH_lt R.row hvg).2
  have nMg : ¬ M g := fun e => by
    rcases hM g e with e | e
    · exact R.ap _ _ hlast g e hvg
    · omega
  have F2 : Fr (fun k => k = g) w1 (((w1.setCell ⟨g, L.length * 3, none⟩ (.int .i64 (h'.at' : Int))).setCell ⟨g, L.length * 3 + 1, none⟩ q1).setCell ⟨g, L.length * 3 + 2, none⟩ q2) :=
    ((Fr.setCell (M := fun k => k = g) w1 (a := ⟨g, _, none⟩) rfl _).then (Fr.setCell (M := fun k => k = g) _ (a := ⟨g, _, none⟩) rfl _)).then (Fr.setCell (M := fun k => k = g) _ (a := ⟨g, _, none⟩) rfl _)
  have old : ∀ (k : Nat) (p : Value × Value), V[k]? = some p → ∀ b, Own1 p.1 b ∨ Own1 p.2 b → ¬ (Own1 p1 b ∨ Own1 p2 b) ∧ b < w.heap.size ∧ b ≠ g := fun k p hk b hb => by
    have hkl := (List.getElem?_eq_some_iff.1 hk).1
    have hk' : (V ++ [(p1, p2)])[k]? = some p := by rw [List.getElem?_append_left hkl]; exact hk
    exact ⟨R.far k V.length p (p1, p2) hk' hlast (by omega) b hb, (R.lt hk' hb).2, fun e => R.ap k p hk' b hb (e ▸ hvg)⟩
  have newg : ∀ b, Own1 q1 b ∨ Own1 q2 b → b ≠ g := fun b hb e => by
    rcases n1 b hb with h1 | h1
    · exact R.ap _ _ hlast b h1 (e ▸ hvg)
    · omega
  refine ⟨by simp [hl], ?_, fun k x p e1 e2 => ?_, fun k p e2 b hb' e => ?_, fun k p e2 b hb' => ?_, fun j k p q e1 e2 hne b hb' => ?_⟩
  · rcases R.row.2 with ⟨_, e⟩ | ⟨g', cap, cur, hv', hb, hh, hc, hm, hs, ht⟩
    · simp at e
    · have e : g' = g := by rw [hv] at hv'; simp only [Value.slice.injEq, Option.some.injEq, Addr.mk.injEq] at hv'; exact hv'.1.1.symm
      subst e
      have hh1 := f.at hh nMg
      have hh2 := setCell_at (o := L.length * 3 + 2) (setCell_at (o := L.length * 3 + 1) (setCell_at (o := L.length * 3) hh1 (.int .i64 (h'.at' : Int))) q1) q2
      refine ⟨by rw [hcells_length _ _ (by simp [hl])], Or.inr ⟨g', cap, _, by rw [hv']; simp, hb, hh2, by simpa using hc, hm, by simpa using hs, ?_⟩⟩
      rw [hcells_snoc L V _ _ _ hl] at ht ⊢
      have hlen := hcells_length L V hl
      simp only [List.length_append, List.length_cons, List.length_nil, Nat.zero_add] at ht hc
      simp only [Array.toList_setIfInBounds, List.length_append, List.length_cons, List.length_nil, Nat.zero_add]
      have hcs : cur.toList.length = cap * 3 := by simpa using hs
      generalize cur.toList = l at *
      rw [List.take_set, List.take_set, List.take_set, ht, ← hlen]
      rw [List.set_append_right _ _ (Nat.le_refl _), Nat.sub_self, List.set_append_right _ _ (by omega), List.set_append_right _ _ (by omega)]
      simp [Nat.add_sub_cancel_left]
  · rcases snoc_get e2 with ⟨e2, hk⟩ | ⟨hk, rfl⟩
    · rw [List.getElem?_append_left (by omega)] at e1
      obtain ⟨s1, s2⟩ := R.str k x p (by rw [List.getElem?_append_left (by omega)]; exact e1) (by rw [List.getElem?_append_left hk]; exact e2)
      have nm : ∀ b, Own1 p.1 b ∨ Own1 p.2 b → ¬ M b := fun b hb e => by
        obtain ⟨h1, h2, _⟩ := old k p e2 b hb
        rcases hM b e with h3 | h3
        · exact h1 h3
        · omega
      exact ⟨(s1.fr f (fun b hb => nm b (Or.inl hb))).fr F2 (fun b hb => (old k p e2 b (Or.inl hb)).2.2), (s2.fr f (fun b hb => nm b (Or.inr hb))).fr F2 (fun b hb => (old k p e2 b (Or.inr hb)).2.2)⟩
    · rw [hk, hl, List.getElem?_append_right (Nat.le_refl _), Nat.sub_self] at e1
      simp at e1
      subst e1
      exact ⟨o1.fr F2 (fun b hb => newg b (Or.inl hb)), o2.fr F2 (fun b hb => newg b (Or.inr hb))⟩
  · rcases snoc_get e2 with ⟨e2, _⟩ | ⟨_, rfl⟩
    · exact (old k p e2 b hb').2.2 (vg b e)
    · exact newg b hb' (vg b e)
  · rcases snoc_get e2 with ⟨e2, hk⟩ | ⟨_, rfl⟩
    · exact R.two k p (by rw [List.getElem?_append_left hk]; exact e2) b hb'
    · exact n2 b hb'
  · rcases snoc_get e1 with ⟨e1, hj⟩ | ⟨hj, rfl⟩
    · rcases snoc_get e2 with ⟨e2, hk⟩ | ⟨_, rfl⟩
      · exact R.far j k p q (by rw [List.getElem?_append_left hj]; exact e1) (by rw [List.getElem?_append_left hk]; exact e2) hne b hb'
      · intro e
        obtain ⟨h1, h2, _⟩ := old j p e1 b hb'
        rcases n1 b e with h3 | h3
        · exact h1 h3
        · omega
    · rcases snoc_get e2 with ⟨e2, hk⟩ | ⟨hk, _⟩
      · intro e
        obtain ⟨h1, h2, _⟩ := old k q e2 b e
        rcases n1 b hb' with h3 | h3
        · exact h1 h3
        · omega
      · omega

/-- As whoever asks for them sees them. -/
theorem RD.at {base : Nat} {w : World} {v : Value} {L : List (Hk ByteArray)} {V : List (Value × Value)} (R : RD base w v L V) : HunksAt w v L := by
  rcases R.row.2 with ⟨hv, e⟩ | ⟨g, cap, cur, hv, hb, hh, hc, _, hs, ht⟩
  · have e2 : L = [] := List.length_eq_zero_iff.1 e
    subst e2
    exact ⟨none, 0, hv, fun _ => rfl, fun k h e => by simp at e⟩
  · refine ⟨_, cap, hv, fun e => by simp at e, fun k h hk => ?_⟩
    have hkl := (List.getElem?_eq_some_iff.1 hk).1
    obtain ⟨p, hp⟩ : ∃ p, V[k]? = some p := ⟨_, List.getElem?_eq_getElem (by rw [R.len]; exact hkl)⟩
    have hx := hcells_get L V k h p hk hp
    obtain ⟨s1, s2⟩ := R.str k h p hk hp
    refine ⟨g, 0, p.1, p.2, rfl, ?_, ?_, ?_, s1.strAt, s2.strAt⟩
    · have h1 := hx.1
      rw [← ht, List.getElem?_take, if_pos (by omega)] at h1
      rw [World.cell?, hh]; simpa using h1
    · have h1 := hx.2.1
      rw [← ht, List.getElem?_take, if_pos (by omega)] at h1
      rw [World.cell?, hh]; simpa using h1
    · have h1 := hx.2.2
      rw [← ht, List.getElem?_take, if_pos (by omega)] at h1
      rw [World.cell?, hh]; simpa using h1

end Go.Proofs.Ytoophkpmbinmlaa
