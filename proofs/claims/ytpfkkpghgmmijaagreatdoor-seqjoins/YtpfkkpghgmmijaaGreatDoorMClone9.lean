/-
  What is proved here: what slices.Clone of texts hands back. Conditions: they lie in memory, and are at most 900000.
-/
import Derived.Test.YtpfkkpghgmmijaaGreatDoorM9Strs9
import Derived.Lib.SliceRun
namespace Go.Proofs.YtpfkkpghgmmijaaGreatDoor
open Go.RowKit
set_option maxRecDepth 100000

set_option maxHeartbeats 1000000 in
theorem clone_any (v : Value) (l : List ByteArray) (w : World) (h : StrsAt w v l) (hl : l.length ≤ 900000) :
    Calls Tryz.prog 41 #[v] w fun e w' => ∃ v', e = .returned v' ∧ StrsAt w' v' l ∧ Fr None' w w' ∧ ∀ k, v'.ownBlock = some k → w.heap.size ≤ k := by
  obtain ⟨va, c, rfl, h1, h2, h3⟩ := h
  cases va with
  | none =>
    have e : l = [] := by
      cases l with
      | nil => rfl
      | cons x l => obtain ⟨_, _, e, _⟩ := h3 0 x rfl; cases e
    subst e
    obtain rfl := h1 rfl
    have q : ∀ w, (binOp .eql 43 (.slice none 0 0) (.slice none 0 0)).run Tryz.prog w = .ok (.bool true) w := fun w => Lib.run_eql_slice_nil w _ _ _ 0 0 0 0 Tryz.underlying43
    clear h1 h2 h3
    go_enter Tryz.func41, Tryz.ntmps41
    go_wp2_with fail
    go_ret
    exact ⟨_, rfl, ⟨none, 0, rfl, fun _ => rfl, Nat.le_refl _, Lines.Row.nil _ _⟩, Fr.refl _ _, fun k e => by cases e⟩
  | some a =>
    have q : ∀ w, (binOp .eql 43 (.slice (some a) l.length c) (.slice none 0 0)).run Tryz.prog w = .ok (.bool false) w := fun w => Lib.run_eql_slice_nil w _ _ _ l.length c 0 0 Tryz.underlying43
    have HR : Hid (Lines.Row w (some a) l) := h3
    have HL : Hid (l.length ≤ 900000) := hl
    clear h1 h2 h3 hl
    go_enter Tryz.func41, Tryz.ntmps41
    go_wp2_with (at_builtin
                 refine Lines.append_str rfl _ _ rfl rfl (Lines.OwnS.empty (w0 := w) (Nat.le_refl _)) (Lines.Fr.alloc _ _ _) (m := l) rfl (HR.out.fr (Lines.Fr.alloc _ _ _)) (fun e => by cases e) (by have := HL.out; simp; omega) ?_
                 intro v1 w1 own1 f1 _)
    rw [List.nil_append] at own1
    go_ret
    exact ⟨_, rfl, own_strs own1, ofLN f1, fun k e => own_ge own1 e⟩

end Go.Proofs.YtpfkkpghgmmijaaGreatDoor
