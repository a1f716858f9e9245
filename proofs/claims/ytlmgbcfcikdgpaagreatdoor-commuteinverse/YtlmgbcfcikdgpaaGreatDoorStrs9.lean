/-
  What is proved here: what a slice of texts is in memory, and how it is kept. No condition.
-/
import Derived.Test.YtlmgbcfcikdgpaaGreatDoorBase
import Derived.Test.YtlmgbcfcikdgpaaGreatDoorLRSame
namespace Go.Proofs.YtlmgbcfcikdgpaaGreatDoor
open Go.RowKit
set_option maxRecDepth 100000

theorem toL {M : Nat → Prop} {w w' : World} (h : Fr M w w') : Lines.Fr M w w' := ⟨h.os, h.tape, h.output, h.size, h.block⟩
theorem ofL {M : Nat → Prop} {w w' : World} (h : Lines.Fr M w w') : Fr M w w' := ⟨h.os, h.tape, h.output, h.size, h.block⟩
theorem ofLN {w w' : World} (h : Lines.Fr Lines.None' w w') : Fr None' w w' := ofL (M := Lines.None') h |>.mono (fun _ e => e)
theorem toLN {w w' : World} (h : Fr None' w w') : Lines.Fr Lines.None' w w' := toL (h.mono (fun _ e => e))
theorem ofBelow {w w' : World} (h : Below w.heap.size w w') : Fr None' w w' := ⟨h.os, h.tape, h.output, h.size, fun k hk _ => h.block k hk⟩

theorem Fr.keepCell {M : Nat → Prop} {w w' : World} (h : Fr M w w') {a : Addr} {v : Value} (hc : w.cell? a = some v) (hm : ¬ M a.block) : w'.cell? a = some v := (toL h).cell hc hm

theorem Fr.then7 {a b c : World} (h : Fr None' a b) (k : Fr None' b c) : Fr None' a c := h.trans k (fun _ e => Or.inl e)

theorem Fr.drew (M : Nat → Prop) (w : World) : Fr M w w.drew := ⟨rfl, rfl, rfl, Nat.le_refl _, fun _ _ _ => rfl⟩

/-- A slice of texts. -/
def StrsAt (w : World) (v : Value) (l : List ByteArray) : Prop := ∃ va c, v = .slice va l.length c ∧ (va = none → c = 0) ∧ l.length ≤ c ∧ Lines.Row w va l

theorem StrsAt.fr {M : Nat → Prop} {w w' : World} {v : Value} {l : List ByteArray} (h : StrsAt w v l) (f : Fr M w w') (hm : ∀ k, v.ownBlock = some k → ¬ M k) : StrsAt w' v l := by
  obtain ⟨va, c, rfl, h1, h2, h3⟩ := h
  refine ⟨va, c, rfl, h1, h2, fun j x hj => ?_⟩
  obtain ⟨g, o, e, hc⟩ := h3 j x hj
  exact ⟨g, o, e, f.keepCell hc (hm g (by rw [e]; rfl))⟩

theorem StrsAt.kept {w w' : World} {v : Value} {l : List ByteArray} (h : StrsAt w v l) (f : Fr None' w w') : StrsAt w' v l := h.fr f (fun _ _ e => e)

theorem StrsAt.lt {w : World} {v : Value} {l : List ByteArray} (h : StrsAt w v l) (hl : l ≠ []) {k : Nat} (hk : v.ownBlock = some k) : k < w.heap.size := by
  obtain ⟨va, c, rfl, h1, h2, h3⟩ := h
  cases l with
  | nil => exact absurd rfl hl
  | cons x l =>
    obtain ⟨g, o, e, hc⟩ := h3 0 x rfl
    subst e
    cases hk
    exact cell_lt hc

theorem StrsAt.far {M : Nat → Prop} {w w' : World} {v : Value} {l : List ByteArray} (h : StrsAt w v l) (f : Fr M w w') (hm : l ≠ [] → ∀ k, v.ownBlock = some k → ¬ M k) : StrsAt w' v l := by
  by_cases hl : l = []
  · subst hl
    obtain ⟨va, c, rfl, h1, h2, h3⟩ := h
    exact ⟨va, c, rfl, h1, h2, Lines.Row.nil _ _⟩
  · exact h.fr f (hm hl)

theorem size_mem {l : List ByteArray} {x : ByteArray} (h : x ∈ l) : x.size ≤ (l.map (·.size)).sum := by
  induction l with
  | nil => cases h
  | cons y l ih =>
    simp only [List.map_cons, List.sum_cons]
    rcases List.mem_cons.1 h with e | e
    · subst e; omega
    · have := ih e; omega

theorem own_strs {base : Nat} {w : World} {v : Value} {l : List ByteArray} (h : w.ownsRow base 9 1 v l.length (l.map Value.string)) : StrsAt w v l := by
  rcases h.2 with ⟨hv, h0⟩ | ⟨g, cap, cur, hv, hb, hh, hc, _, hs, ht⟩
  · have e : l = [] := List.length_eq_zero_iff.1 h0
    subst e
    exact ⟨none, 0, hv, fun _ => rfl, Nat.le_refl _, Lines.Row.nil _ _⟩
  · refine ⟨_, cap, hv, fun e => by simp at e, hc, fun j x hj => ⟨g, 0, rfl, ?_⟩⟩
    have hlt := (List.getElem?_eq_some_iff.1 hj).1
    have h1 : (l.map Value.string)[j]? = some (.string x) := by rw [List.getElem?_map, hj]; rfl
    rw [← ht, List.getElem?_take, if_pos (by omega)] at h1
    rw [World.cell?, Nat.zero_add, hh]
    simpa using h1

theorem own_ge {base n : Nat} {w : World} {e : TypeId} {v : Value} {xs : List Value} (h : w.ownsRow base e 1 v n xs) {k : Nat} (hk : v.ownBlock = some k) : base ≤ k := by
  rcases h.2 with ⟨hv, _⟩ | ⟨g, cap, cur, hv, hb, _⟩
  · rw [hv] at hk; cases hk
  · rw [hv] at hk; cases hk; exact hb

theorem sizes_step {l : List ByteArray} {k : Nat} (hk : k < l.length) : ((l.take (k + 1)).map (·.size)).sum = ((l.take k).map (·.size)).sum + l[k].size := by
  rw [List.take_succ_eq_append_getElem hk, List.map_append, List.sum_append]
  simp

theorem ret_bool7 {a b : Bool} (h : a = b) : Ending.returned (.bool a) = .returned (.bool b) := by rw [h]

end Go.Proofs.YtlmgbcfcikdgpaaGreatDoor
