/-
  What is proved here: what undoing and kinds answer. No condition.
-/
import Derived.Test.YtlmgbcfcikdgpaaGreatDoorPrims
namespace Go.Proofs.YtlmgbcfcikdgpaaGreatDoor
open Go.RowKit
set_option maxRecDepth 100000

def undo (k : Int) : Int := if k = 1 ∨ k = 3 ∨ k = 5 then k + 1 else if k = 2 ∨ k = 4 ∨ k = 6 then k - 1 else if k = 7 ∨ k = 8 ∨ k = 9 ∨ k = 10 then k else 0

theorem info11 : (Tryz.prog.info? 111).map (·.size) = some 11 := by kernel_rfl

set_option maxHeartbeats 1000000 in
theorem kinds_any (w : World) : Calls Tryz.prog 114 #[] w fun e w' => e = .returned (.agg #[.int .i64 0, .int .i64 2, .int .i64 1, .int .i64 4, .int .i64 3, .int .i64 6, .int .i64 5, .int .i64 7, .int .i64 8, .int .i64 9, .int .i64 10]) ∧ Fr None' w w' := by
  go_enter Tryz.func114, Tryz.ntmps114
  go_wp2_with fail
  exact bodyPost_ret (results_cell_row rfl _ _ w.heap.size 111 #[.int .i64 0, .int .i64 2, .int .i64 1, .int .i64 4, .int .i64 3, .int .i64 6, .int .i64 5, .int .i64 7, .int .i64 8, .int .i64 9, .int .i64 10] (0, 0) _ rfl (heap_alloc_new w _) Tryz.underlying111 rfl info11) rfl ⟨rfl, Fr.alloc _ _ _⟩

theorem eleven (k : Int) : k < 0 ∨ 11 ≤ k ∨ k = 0 ∨ k = 1 ∨ k = 2 ∨ k = 3 ∨ k = 4 ∨ k = 5 ∨ k = 6 ∨ k = 7 ∨ k = 8 ∨ k = 9 ∨ k = 10 := by omega

set_option maxHeartbeats 2000000 in
theorem undoing_any (k : Int) (w : World) : Calls Tryz.prog 91 #[.int .i64 k] w fun e w' => e = .returned (.int .i64 (undo k)) ∧ Fr None' w w' := by
  have q1 := kinds_any w
  have HU : Hid (k < 0 ∨ 11 ≤ k → undo k = 0) := fun h => by unfold undo; rw [if_neg (by omega), if_neg (by omega), if_neg (by omega)]
  rcases eleven k with h | h | rfl | rfl | rfl | rfl | rfl | rfl | rfl | rfl | rfl | rfl | rfl
  · rw [HU.out (Or.inl h)]
    clear HU
    go_enter Tryz.func91, Tryz.ntmps91
    go_wp2_with fail
    with_reducible refine q1.mono ?_
    rintro e w1 ⟨rfl, f1⟩
    clear q1
    go_wp2_with fail
    go_ret
    exact ⟨rfl, f1.then7 (Fr.alloc _ _ _)⟩
  · rw [HU.out (Or.inr h)]
    clear HU
    go_enter Tryz.func91, Tryz.ntmps91
    go_wp2_with fail
    with_reducible refine q1.mono ?_
    rintro e w1 ⟨rfl, f1⟩
    clear q1
    go_wp2_with fail
    go_ret
    exact ⟨rfl, f1.then7 (Fr.alloc _ _ _)⟩
  all_goals
    clear HU
    go_enter Tryz.func91, Tryz.ntmps91
    go_wp2_with fail
    with_reducible refine q1.mono ?_
    rintro e w1 ⟨rfl, f1⟩
    clear q1
    go_wp2_with fail
    go_ret
    exact ⟨rfl, f1.then7 (Fr.alloc _ _ _)⟩

end Go.Proofs.YtlmgbcfcikdgpaaGreatDoor
