/-
  What is proved here: a table whose entries are rows of floating numbers, each in a block of its own, as it lies in memory, and how an entry is laid anew. Conditions: as each theorem names them.
-/
import Derived.Test.YtoophkpmbinmlaaLast
import Derived.Test.YtoophkpmbinmlaaRound
namespace Go.Proofs.Ytoophkpmbinmlaa
open Go.RowKit
set_option maxRecDepth 100000

/-- sz rows in the block g0; what they own lies beyond it, and apart. -/
structure Tab (base : Nat) (w : World) (g0 sz : Nat) (R : Nat → Value) : Prop where
  lt : g0 < base
  cell : ∀ i, i < sz → w.cell? ⟨g0, i, none⟩ = some (R i)
  frz : ∀ i, w.frozen? ⟨g0, i, none⟩ = false
  own : ∀ i, i < sz → ∃ vs, OwnV base w 55 (R i) vs
  apart : ∀ i j k, i < sz → j < sz → i ≠ j → Own1 (R i) k → ¬ Own1 (R j) k

theorem frozen_kept' {w w' : World} {k o : Nat} (h : w'.heap[k]? = w.heap[k]?) : w'.frozen? ⟨k, o, none⟩ = w.frozen? ⟨k, o, none⟩ := by
  unfold World.frozen?
  rw [h]

theorem Tab.blk {base : Nat} {w : World} {g0 sz : Nat} {R : Nat → Value} (h : Tab base w g0 sz R) (h0 : 0 < sz) : ∃ c t f, w.heap[g0]? = some (.cells c t f) := by
  have := h.cell 0 h0
  unfold World.cell? at this
  split at this
  · exact ⟨_, _, _, by assumption⟩
  · cases this

theorem own_cells {base : Nat} {w : World} {e : TypeId} {v : Value} {vs : List Value} (h : OwnV base w e v vs) {k : Nat} (hk : Own1 v k) : ∃ c t f, w.heap[k]? = some (.cells c t f) := by
  rcases h.2 with ⟨hv, _⟩ | ⟨g, cap, cur, hv, hb, hh, _⟩
  · rw [Own1, hv] at hk; cases hk
  · rw [Own1, hv] at hk; cases hk; exact ⟨_, _, _, hh⟩

theorem Tab.fr {M : Nat → Prop} {base : Nat} {w w' : World} {g0 sz : Nat} {R : Nat → Value} (h : Tab base w g0 sz R) (h0 : 0 < sz) (f : Fr M w w') (hg : ¬ M g0) (ho : ∀ i k, i < sz → Own1 (R i) k → ¬ M k) : Tab base w' g0 sz R := by
  have hlt : g0 < w.heap.size := cell_lt (h.cell 0 h0)
  exact ⟨h.lt, fun i hi => f.cell (h.cell i hi) hg, fun i => (frozen_kept' (f.block g0 hlt hg)).trans (h.frz i), fun i hi => let ⟨vs, hv⟩ := h.own i hi; ⟨vs, hv.fr f (fun k hk => ho i k hi hk)⟩, h.apart⟩

/-- An entry is laid anew. -/
theorem Tab.put {base : Nat} {w w1 : World} {g0 sz i : Nat} {R : Nat → Value} {v : Value} {vs : List Value} (h : Tab base w g0 sz R) (hi : i < sz) (hv : OwnV base w1 55 v vs) (f : Fr (Own1 (R i)) w w1) (ho : ∀ k, Own1 v k → Own1 (R i) k ∨ k = w.heap.size) :
    Tab base (w1.setCell ⟨g0, i, none⟩ v) g0 sz (fun j => if j = i then v else R j) ∧ Fr (fun k => k = g0 ∨ Own1 (R i) k) w (w1.setCell ⟨g0, i, none⟩ v) ∧ OwnV base (w1.setCell ⟨g0, i, none⟩ v) 55 v vs := by
  have hlt : g0 < w.heap.size := cell_lt (h.cell i hi)
  have hng : ∀ j k, j < sz → Own1 (R j) k → k ≠ g0 := fun j k hj hk e => by
    obtain ⟨vs, hv⟩ := h.own j hj
    have := (hv.lt hk).1
    have := h.lt
    omega
  have hnv : ∀ k, Own1 v k → k ≠ g0 := fun k hk e => by
    have := (hv.lt hk).1
    have := h.lt
    omega
  have f2 : Fr (fun k => k = g0) w1 (w1.setCell ⟨g0, i, none⟩ v) := Fr.setCell (M := fun k => k = g0) w1 (a := ⟨g0, i, none⟩) rfl _
  have hg1 : ¬ Own1 (R i) g0 := fun e => hng i g0 hi e rfl
  have c1 : ∀ j, j < sz → w1.cell? ⟨g0, j, none⟩ = some (R j) := fun j hj => f.cell (h.cell j hj) hg1
  refine ⟨⟨h.lt, fun j hj => ?_, fun j => ?_, fun j hj => ?_, fun j j' k hj hj' hne hk hk' => ?_⟩, ?_, hv.fr f2 hnv⟩
  · by_cases e : j = i
    · subst e
      rw [if_pos rfl]
      exact World.cell?_setCell_same' _ _ _ (by rw [c1 j hj]; rfl)
    · rw [if_neg e, World.cell?_setCell_other]
      · exact c1 j hj
      · simp
  · rw [World.frozen?_setCell, frozen_kept' (f.block g0 hlt hg1)]
    exact h.frz j
  · by_cases e : j = i
    · subst e
      rw [if_pos rfl]
      exact ⟨vs, hv.fr f2 hnv⟩
    · rw [if_neg e]
      obtain ⟨us, hu⟩ := h.own j hj
      exact ⟨us, (hu.fr f (fun k hk hk' => h.apart j i k hj hi e hk hk')).fr f2 (fun k hk => hng j k hj hk)⟩
  · have old : ∀ j' k, j' < sz → j' ≠ i → Own1 v k → ¬ Own1 (R j') k := fun j' k hj' hne hk hk' => by
      rcases ho k hk with h1 | h1
      · exact h.apart i j' k hi hj' (fun e => hne e.symm) h1 hk'
      · obtain ⟨us, hu⟩ := h.own j' hj'
        have := (hu.lt hk').2
        omega
    by_cases e : j = i
    · rw [if_pos e] at hk
      have e' : j' ≠ i := fun h => hne (by rw [e, h])
      rw [if_neg e'] at hk'
      exact old j' k hj' e' hk hk'
    · rw [if_neg e] at hk
      by_cases e' : j' = i
      · rw [if_pos e'] at hk'
        exact old j k hj e hk' hk
      · rw [if_neg e'] at hk'
        exact h.apart j j' k hj hj' hne hk hk'
  · exact (f.mono (fun k hk => Or.inr hk)).then (f2.mono (fun k hk => Or.inl hk))

theorem keeps_of_fr {M : Nat → Prop} {w w' : World} (f : Fr M w w') (h : ∀ k, M k → ∃ c t fz, w.heap[k]? = some (.cells c t fz)) : KeepsOthers w w' :=
  ⟨f.size, fun k o hk ho => f.at hk (fun e => by
    obtain ⟨c, t, fz, e2⟩ := h k e
    rw [hk] at e2
    cases e2
    cases ho)⟩

/-- The table while a block's lines are put ahead, one by one from behind: those from lo on are done. -/
structure FillAt (base g0 sz m : Nat) (w0 : World) (R0 : Nat → Value) (X : Nat → Prop) (Lb a B : List Int) (lo : Nat) (w : World) (R : Nat → Value) : Prop where
  tab : Tab base w g0 sz R
  rows : ∀ i, lo ≤ i → i ≤ Lb.length → FRow base w (R i) (m + 1) (rowK (Lb.drop i ++ a) B)
  far : ∀ i k, i < sz → Own1 (R i) k → ¬ X k
  new : ∀ i k, i < sz → Own1 (R i) k → Own1 (R0 i) k ∨ w0.heap.size ≤ k
  fr : Fr (fun k => k = g0 ∨ ∃ i, i < sz ∧ Own1 (R0 i) k) w0 w

theorem fillAt_lo {base g0 sz m : Nat} {w0 : World} {R0 : Nat → Value} {X : Nat → Prop} {Lb a B : List Int} {lo lo' : Nat} {A : World} {R : Nat → Value} (e : lo = lo') (h : FillAt base g0 sz m w0 R0 X Lb a B lo A R) : FillAt base g0 sz m w0 R0 X Lb a B lo' A R := e ▸ h

/-- What is no cells, and newer, may be turned. -/
theorem FillAt.keep {base g0 sz m : Nat} {w0 : World} {R0 : Nat → Value} {X : Nat → Prop} {Lb a B : List Int} {lo : Nat} {A C : World} {R : Nat → Value} (h : FillAt base g0 sz m w0 R0 X Lb a B lo A R) (hl : Lb.length < sz) {Y : Nat → Prop} (f : Fr Y A C) (hY : ∀ k, Y k → w0.heap.size ≤ k ∧ NoCells A k) : FillAt base g0 sz m w0 R0 X Lb a B lo C R := by
  have h0 : 0 < sz := by omega
  have nc : ∀ {k c t fz}, A.heap[k]? = some (.cells c t fz) → ¬ Y k := fun hk hy => (hY _ hy).2 _ _ _ hk
  have hg : ¬ Y g0 := by
    obtain ⟨c, t, fz, e⟩ := h.tab.blk h0
    exact nc e
  have ho : ∀ i k, i < sz → Own1 (R i) k → ¬ Y k := fun i k hi hk => by
    obtain ⟨vs, hv⟩ := h.tab.own i hi
    obtain ⟨c, t, fz, e⟩ := own_cells hv hk
    exact nc e
  exact ⟨h.tab.fr h0 f hg ho, fun i h1 h2 => (h.rows i h1 h2).fr f (fun k hk => ho i k (by omega) hk), h.far, h.new, h.fr.trans f (fun i e => Or.inr (hY i e).1)⟩

/-- A line more: the entry below it is copied into its own, and the line put ahead of that. -/
theorem FillAt.step {base g0 sz m lo c : Nat} {w0 : World} {R0 : Nat → Value} {X : Nat → Prop} {Lb a B : List Int} {w w2 w3 : World} {R : Nat → Value} {g' : Nat} (h : FillAt base g0 sz m w0 R0 X Lb a B (lo + 1) w R) (hlo : lo < Lb.length) (hl : Lb.length < sz)
    (t2 : Tab base w2 g0 sz (fun j => if j = lo then .slice (some ⟨g', 0, none⟩) (m + 1) c else R j)) (f2 : Fr (fun k => k = g0 ∨ Own1 (R lo) k) w w2) (hn : Own1 (R lo) g' ∨ g' = w.heap.size) (hb : base ≤ g')
    (r3 : FRow base w3 (.slice (some ⟨g', 0, none⟩) (m + 1) c) (m + 1) (rowK (Lb.drop lo ++ a) B)) (f3 : Fr (fun k => k = g') w2 w3) (hX : ∀ k, X k → k < w.heap.size) (hw : w0.heap.size ≤ w.heap.size) :
    FillAt base g0 sz m w0 R0 X Lb a B lo w3 (fun j => if j = lo then .slice (some ⟨g', 0, none⟩) (m + 1) c else R j) ∧ Fr (fun k => k = g0 ∨ Own1 (R lo) k) w w3 := by
  have h0 : 0 < sz := by omega
  have hls : lo < sz := by omega
  have hg : g0 ≠ g' := by have := h.tab.lt; omega
  have f23 : Fr (fun k => k = g0 ∨ Own1 (R lo) k) w w3 := f2.trans f3 (fun k e => by
    rcases hn with hn | hn
    · exact Or.inl (Or.inr (e ▸ hn))
    · exact Or.inr (by omega))
  have own' : ∀ k, Own1 (.slice (some ⟨g', 0, none⟩) (m + 1) c) k → k = g' := fun k hk => by
    unfold Own1 at hk; cases hk; rfl
  have other : ∀ j k, j < sz → j ≠ lo → Own1 (R j) k → k ≠ g' := fun j k hj hne hk e => by
    rcases hn with hn | hn
    · exact h.tab.apart j lo k hj hls hne hk (e ▸ hn)
    · obtain ⟨vs, hv⟩ := h.tab.own j hj
      have := (hv.lt hk).2
      omega
  refine ⟨⟨?_, fun i h1 h2 => ?_, fun i k hi hk => ?_, fun i k hi hk => ?_, ?_⟩, f23⟩
  · refine ⟨t2.lt, fun i hi => f3.cell (t2.cell i hi) hg, fun i => (frozen_kept' (f3.block g0 (cell_lt (t2.cell lo hls)) hg)).trans (t2.frz i), fun i hi => ?_, t2.apart⟩
    by_cases e : i = lo
    · subst e
      rw [if_pos rfl]
      exact ⟨_, r3⟩
    · obtain ⟨vs, hv⟩ := t2.own i hi
      rw [if_neg e] at hv ⊢
      exact ⟨vs, hv.fr f3 (fun k hk => other i k hi e hk)⟩
  · by_cases e : i = lo
    · subst e
      rw [if_pos rfl]
      exact r3
    · rw [if_neg e]
      refine (h.rows i (by omega) h2).fr f23 (fun k hk => ?_)
      rintro (e1 | e1)
      · obtain ⟨vs, hv⟩ := h.tab.own i (by omega)
        have := (hv.lt hk).1
        have := h.tab.lt
        omega
      · exact h.tab.apart i lo k (by omega) hls e hk e1
  · by_cases e : i = lo
    · rw [if_pos e] at hk
      have := own' k hk
      subst this
      rcases hn with hn | hn
      · exact h.far lo k hls hn
      · intro hx
        have := hX k hx
        omega
    · rw [if_neg e] at hk
      exact h.far i k hi hk
  · by_cases e : i = lo
    · rw [if_pos e] at hk
      have := own' k hk
      subst this
      rcases hn with hn | hn
      · rw [e]; exact h.new lo k hls hn
      · exact Or.inr (by omega)
    · rw [if_neg e] at hk
      exact h.new i k hi hk
  · refine h.fr.trans f23 (fun k e => ?_)
    rcases e with e | e
    · exact Or.inl (Or.inl e)
    · rcases h.new lo k hls e with e | e
      · exact Or.inl (Or.inr ⟨lo, hls, e⟩)
      · exact Or.inr e

end Go.Proofs.Ytoophkpmbinmlaa
