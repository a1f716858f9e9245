/- What is proved here: contracts that SeqTells stands on. Conditions: as each theorem names them. -/
import Derived.Test.YtbnfjjjdnbcehaaGreatDoorM7Box10
import Derived.Test.YtbnfjjjdnbcehaaGreatDoorM18PRunes
set_option maxHeartbeats 16000000
namespace Go.Proofs.YtbnfjjjdnbcehaaGreatDoor
open Go.RowKit Go.Maps Go.WideMaps
set_option maxRecDepth 100000
theorem Yu {p : Prop} (h : p) : Hid p := h
end Go.Proofs.YtbnfjjjdnbcehaaGreatDoor
