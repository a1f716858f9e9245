/-
  What is proved here: what has, free and within answer of a map of things. Conditions: the map lies in memory, paths are of bounded size, and it has at most 100000 things.
-/
import Derived.Test.YtbnfjjjdnbcehaaGreatDoorM7Box10
import Derived.Test.YtbnfjjjdnbcehaaGreatDoorM18PRunes
namespace Go.Proofs.YtbnfjjjdnbcehaaGreatDoor
open Go.RowKit Go.Maps Go.WideMaps
set_option maxRecDepth 100000

theorem toHid8 {p : Prop} (h : p) : Hid p := h

end Go.Proofs.YtbnfjjjdnbcehaaGreatDoor
