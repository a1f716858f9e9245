/-
  What is proved here: facts on the program's own types, and the bounds of a byte. No condition.
-/
import Derived.Test.YtalmkjlhiieafaaDoorChecked
import Derived.Test.YtalmkjlhiieafaaDoorBase
import Derived.JoinedOf
import Derived.KernelRfl
import Derived.ChangeSame
import Derived.RowKit
namespace Go.Proofs.YtalmkjlhiieafaaDoor
open Go.RowKit
set_option maxRecDepth 100000

theorem own : ownKnob Tryd.prog.godebug = none := by kernel_rfl

theorem bounds_u8 {n : Int} (h : (Lit.int .u8 n).wf = true) : 0 ≤ n ∧ n < 256 := by
  simp [Lit.wf, IntKind.min, IntKind.max, IntKind.bits, IntKind.signed] at h
  omega

end Go.Proofs.YtalmkjlhiieafaaDoor
