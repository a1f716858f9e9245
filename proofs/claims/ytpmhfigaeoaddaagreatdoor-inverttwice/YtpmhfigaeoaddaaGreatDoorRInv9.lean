/-
  What is proved here: what the document's Invert hands back. Condition: the patch lies in memory.
-/
import Derived.Test.YtpmhfigaeoaddaaGreatDoorBox9
import Derived.Test.YtpmhfigaeoaddaaGreatDoorKind9
import Derived.Deep.RegionHeld3
namespace Go.Proofs.YtpmhfigaeoaddaaGreatDoor
open Go.RowKit
set_option maxRecDepth 100000

theorem StrsAt.is {w : World} {v : Value} {l : List ByteArray} (h : StrsAt w v l) : ∃ pa ca, v = .slice pa l.length ca := by
  obtain ⟨pa, ca, e, _⟩ := h
  exact ⟨pa, ca, e⟩

end Go.Proofs.YtpmhfigaeoaddaaGreatDoor
