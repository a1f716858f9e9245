/-
  What is proved here: the contracts that the statement stands on: RInv9, Same9, Great9. Conditions: as each theorem names them.
-/
import Derived.Test.YtbnfjjjdnbcehaaGreatDoorQ9Plain8
import Derived.Test.YtbnfjjjdnbcehaaGreatDoorQ8Strs9
import Derived.Deep.RegionHeld3
namespace Go.Proofs.YtbnfjjjdnbcehaaGreatDoor
open Go.RowKit
set_option maxRecDepth 100000

theorem StrsAt.is {w : World} {v : Value} {l : List ByteArray} (h : StrsAt w v l) : ∃ pa ca, v = .slice pa l.length ca := by
  obtain ⟨pa, ca, e, _⟩ := h
  exact ⟨pa, ca, e⟩

end Go.Proofs.YtbnfjjjdnbcehaaGreatDoor

namespace Go.Proofs.YtbnfjjjdnbcehaaGreatDoor
open Go.RowKit
set_option maxRecDepth 100000

end Go.Proofs.YtbnfjjjdnbcehaaGreatDoor

namespace Go.Proofs.YtbnfjjjdnbcehaaGreatDoor
open Go.RowKit
set_option maxRecDepth 100000

end Go.Proofs.YtbnfjjjdnbcehaaGreatDoor
