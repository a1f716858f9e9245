/- What is proved here: contracts for RecordMakes. Conditions: as named. -/
import Derived.Test.YtbnfjjjdnbcehaaGreatDoorX58RecW12
import Derived.Lib.LaidTab
import Derived.Stop.LaidErr
set_option maxHeartbeats 16000000
namespace Go.Proofs.YtbnfjjjdnbcehaaGreatDoor
open Go.RowKit
set_option maxRecDepth 100000
theorem tabs_of {W : World} {X Y : String × DataW Unit} (h : laidMet Tryz.prog [X, ("counterpane/record.adds", Lib.tabData .i64 [0, 1, 3, 5]), ("counterpane/record.removes", Lib.tabData .i64 [0, 2, 4, 6]), Y] W) : TabsAt W := by
 have t1 := Lib.tabIs_of_head (g := 1) (t := 68) (e := 3) (n := 4) (by kernel_rfl) (by kernel_rfl) (by kernel_rfl) (by kernel_rfl) (by kernel_rfl) (by kernel_rfl) h.tail
 have t0 := Lib.tabIs_of_head (g := 0) (t := 68) (e := 3) (n := 4) (by kernel_rfl) (by kernel_rfl) (by kernel_rfl) (by kernel_rfl) (by kernel_rfl) (by kernel_rfl) h.tail.tail
 rintro k (rfl | rfl | rfl)
 ·exact ⟨t0.cell (by kernel_rfl) 1 (by decide), t1.cell (by kernel_rfl) 1 (by decide)⟩
 ·exact ⟨t0.cell (by kernel_rfl) 2 (by decide), t1.cell (by kernel_rfl) 2 (by decide)⟩
 ·exact ⟨t0.cell (by kernel_rfl) 3 (by decide), t1.cell (by kernel_rfl) 3 (by decide)⟩
end Go.Proofs.YtbnfjjjdnbcehaaGreatDoor
