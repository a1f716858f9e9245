/-
  What is proved here: CommuteBack answers true. Conditions: its arguments lie in memory, and are no longer than the reach; Commute answers as it does.
-/
import Derived.Test.YtlmgbcfcikdgpaaGreatDoorHead10
import Derived.Test.YtlmgbcfcikdgpaaGreatDoorSame9
import Derived.Test.YtlmgbcfcikdgpaaGreatDoorGreat9
namespace Go.Proofs.YtlmgbcfcikdgpaaGreatDoor
open Go.RowKit
set_option maxRecDepth 100000

theorem weight_small10 {x : Pr} (h : x.weight < 4000) : SmallP x := by
  unfold Pr.weight at h
  exact ⟨by omega, by omega, by omega, by omega, by omega⟩

theorem comm_small {x y : Pr} (sx : SmallP x) (sy : SmallP y) (h : (commP x y).2.2 = true) : SmallP (commP x y).1 ∧ SmallP (commP x y).2.1 := by
  obtain ⟨h1, h2, h3, _⟩ := commP_yes h
  rw [h3]
  exact rule_small h1 h2 sx sy

end Go.Proofs.YtlmgbcfcikdgpaaGreatDoor
