/-
  What is proved here: what math.Inf and math.Sqrt answer. No condition.
-/
import Derived.Test.YtoophkpmbinmlaaFl
namespace Go.Proofs.Ytoophkpmbinmlaa
open Go.RowKit
set_option maxRecDepth 100000

theorem run_store_float {P : Program} {w : World} {a : Addr} {m : Mode} (k : FloatKind) (b : Nat) : (store a (.float k b) m).run P w = stored P w a (.float k b) m := run_store P w a _ m rfl

theorem run_sqrt {x r : Nat} (h : FloatKind.f64.format.sqrt x = some r) (w : World) : (callFunc 38 #[.float .f64 x]).run Try.prog w = .ok (.value (.float .f64 r)) w := by
  rw [run_callFunc_extern (P := Try.prog) (f := 38) (fn := Try.f38) (e := Extern.MathSqrt.sqrt) (by kernel_rfl) (by kernel_rfl) (by kernel_rfl) (by kernel_rfl) (by kernel_rfl)]
  have e : Extern.MathSqrt.sqrt #[.float .f64 x] = (match FloatKind.f64.format.sqrt x with
    | some r => pure (Value.float .f64 r)
    | none => do pure (Value.float .f64 (← choose (.nanBits .f64 x x)))) := rfl
  rw [e, h]
  rfl

theorem run_frombits (n : Nat) (w : World) : (callFunc 51 #[.int .u64 n]).run Try.prog w = .ok (.value (.float .f64 n)) w := by
  rw [run_callFunc_extern (P := Try.prog) (f := 51) (fn := Try.f51) (e := Extern.MathFloatBits.float64frombits) (by kernel_rfl) (by kernel_rfl) (by kernel_rfl) (by kernel_rfl) (by kernel_rfl)]
  rfl

set_option maxHeartbeats 1000000 in
theorem sqrt_any {x r : Nat} (h : FloatKind.f64.format.sqrt x = some r) (w : World) : Calls Try.prog 32 #[.float .f64 x] w fun e w' => e = .returned (.float .f64 r) ∧ w = w' := by
  have hq := run_sqrt h
  clear h
  go_enter Try.func32, Try.ntmps32
  go_wp2
  go_ret
  exact ⟨rfl, rfl⟩

set_option maxHeartbeats 1000000 in
theorem inf_any (w : World) : Calls Try.prog 47 #[.int .i64 (-1)] w fun e w' => e = .returned (flV none) ∧ w = w' := by
  have hq : ∀ w, (callFunc 51 #[.int .u64 18442240474082181120]).run Try.prog w = .ok (.value (.float .f64 18442240474082181120)) w := run_frombits 18442240474082181120
  go_enter Try.func47, Try.ntmps47
  go_wp2
  go_ret
  exact ⟨rfl, rfl⟩

end Go.Proofs.Ytoophkpmbinmlaa
