/-
  What is proved here: what slices.Backward of patches gives, one by one, for whatever a loop does with it that keeps the row; and what All hands back. The row has at most 90000 patches.
-/
import Derived.Test.YtbnfjjjdnbcehaaGreatDoorQ2Base
import Derived.Test.YtbnfjjjdnbcehaaGreatDoorQ9Plain8
import Derived.Test.YtbnfjjjdnbcehaaGreatDoorQ12Clone11
import Derived.Shelf.Abstract
import Derived.Shelf.RegionOpen
import Derived.WalkKit
import Derived.OwnWalkIn
import Derived.TacticsInMore
import Derived.LoopNIn
import Derived.LoopIn
namespace Go.Proofs.YtbnfjjjdnbcehaaGreatDoor
open Go.RowKit Go.Shelf
set_option maxRecDepth 100000
attribute [local go_sem] Oper.semAt_some

/-- The blocks that R names lie as they lay. -/
structure KeepB (R : Nat → Prop) (W W' : World) : Prop where
  size : W.heap.size ≤ W'.heap.size
  same : ∀ k, R k → k < W.heap.size → W'.heap[k]? = W.heap[k]?

theorem KeepB.refl (R : Nat → Prop) (W : World) : KeepB R W W := ⟨Nat.le_refl _, fun _ _ _ => rfl⟩
theorem KeepB.trans {R : Nat → Prop} {A B C : World} (h : KeepB R A B) (k : KeepB R B C) : KeepB R A C := ⟨Nat.le_trans h.size k.size, fun i hi hl => (k.same i hi (by have := h.size; omega)).trans (h.same i hi hl)⟩
theorem KeepB.put {R : Nat → Prop} (W : World) {l : Nat} (hl : ∀ k, R k → k ≠ l) (o : Obj) : KeepB R W (W.putObj l o) := ⟨by simp, fun k hk _ => World.putObj_heap_other (fun e => hl k hk e)⟩
theorem KeepB.of {R M : Nat → Prop} {W W' : World} (f : Fr M W W') (h : ∀ k, R k → ¬ M k) : KeepB R W W' := ⟨f.size, fun k hk hl => f.block k hl (h k hk)⟩
theorem KeepB.cell {R : Nat → Prop} {W W' : World} (h : KeepB R W W') {a : Addr} {v : Value} (hc : W.cell? a = some v) (hr : R a.block) : W'.cell? a = some v := by
  have := h.same a.block hr (cell_lt hc)
  unfold World.cell? at hc ⊢
  rw [this]; exact hc

/-- A slice's cells hold these values. -/
def RowC (W : World) (ad : Option Addr) (vs : List Value) : Prop := ∀ j v, vs[j]? = some v → ∃ g o, ad = some ⟨g, o, none⟩ ∧ W.cell? ⟨g, o + j, none⟩ = some v

theorem KeepB.row {R : Nat → Prop} {W W' : World} (h : KeepB R W W') {va : Option Addr} {L : List Value} (hr : RowC W va L) (hR : ∀ a, va = some a → R a.block) : RowC W' va L := fun j v hj => by
  obtain ⟨g, o, e, hc⟩ := hr j v hj
  exact ⟨g, o, e, h.cell hc (hR ⟨g, o, none⟩ e)⟩

/-- The patches as values. -/
def aggs (L : List Pr) (U : List (Value × Value)) : List Value := List.zipWith (fun x u => .agg #[.int .i64 x.kind, .string x.path, .string x.dst, .string x.src, .int .i64 x.pos, u.1, u.2]) L U

/-- The t-th from behind, and the first m of them. -/
def elB (L : List Value) (t : Nat) : Nat × Value := (L.length - 1 - t, L[L.length - 1 - t]?.getD (.bool false))
def uptoB (L : List Value) (m : Nat) : List (Nat × Value) := (List.range m).map (elB L)

theorem uptoB_succ (L : List Value) (m : Nat) : uptoB L (m + 1) = uptoB L m ++ [elB L m] := by
  simp [uptoB, List.range_succ]

theorem uptoB_length (L : List Value) (m : Nat) : (uptoB L m).length = m := by simp [uptoB]

theorem uptoB_snoc {L : List Value} {pre : List (Nat × Value)} {x : Nat × Value} {m : Nat} (h : pre ++ [x] = uptoB L m) : ∃ t, m = t + 1 ∧ pre = uptoB L t ∧ x = elB L t := by
  have hl := congrArg List.length h
  rw [uptoB_length, List.length_append] at hl
  cases m with
  | zero => simp at hl
  | succ t =>
    rw [uptoB_succ] at h
    obtain ⟨h1, h2⟩ := List.append_inj' h rfl
    exact ⟨t, rfl, h1, by simpa using h2⟩

theorem elB_get {L : List Value} {t k : Nat} (h : t + k + 1 = L.length) : elB L t = (k, L[k]'(by omega)) := by
  unfold elB
  rw [show L.length - 1 - t = k by omega, List.getElem?_eq_getElem (by omega)]
  rfl

end Go.Proofs.YtbnfjjjdnbcehaaGreatDoor
