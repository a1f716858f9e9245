/-
  What is proved here: what undoing and kinds answer. No condition.
-/
import Derived.Test.YtdkhccdclahbaaaGreatDoorPrims
namespace Go.Proofs.YtdkhccdclahbaaaGreatDoor
open Go.RowKit
set_option maxRecDepth 100000

def undo (k : Int) : Int := if k = 1 ∨ k = 3 ∨ k = 5 then k + 1 else if k = 2 ∨ k = 4 ∨ k = 6 then k - 1 else if k = 7 ∨ k = 8 ∨ k = 9 ∨ k = 10 then k else 0

theorem eleven (k : Int) : k < 0 ∨ 11 ≤ k ∨ k = 0 ∨ k = 1 ∨ k = 2 ∨ k = 3 ∨ k = 4 ∨ k = 5 ∨ k = 6 ∨ k = 7 ∨ k = 8 ∨ k = 9 ∨ k = 10 := by omega

end Go.Proofs.YtdkhccdclahbaaaGreatDoor
