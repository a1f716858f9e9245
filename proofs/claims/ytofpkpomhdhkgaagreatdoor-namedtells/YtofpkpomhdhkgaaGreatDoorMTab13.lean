/-
  What is proved here: the row's condition gives the table of powers of ten. No condition.
-/
import Derived.Test.YtofpkpomhdhkgaaGreatDoorM13Wri13
import Derived.Stop.LaidErr
import Derived.Test.YtofpkpomhdhkgaaGreatDoorRows
namespace Go.Proofs.YtofpkpomhdhkgaaGreatDoor
open Go.RowKit
set_option maxRecDepth 100000

theorem tab13 {W : World} {X Y : String × DataW Unit} {l : List (String × DataW Unit)} (h : laidMet Tryz.prog (X :: Y :: ("internal/strconv.uint64pow10", Rows.laid_internal_strconv_uint64pow10) :: l) W) : Lib.TabIs Tryz.prog W pow10 .u64 Lib.pow10Tab :=
  Lib.tabIs_of_head (g := 2) (t := 158) (e := 135) (n := 20) (by kernel_rfl) (by kernel_rfl) (by kernel_rfl) (by kernel_rfl) (by kernel_rfl) (by kernel_rfl) (show laidMet Tryz.prog ((pow10, Lib.tabData .u64 Lib.pow10Tab) :: l) W from h.tail.tail)

end Go.Proofs.YtofpkpomhdhkgaaGreatDoor
