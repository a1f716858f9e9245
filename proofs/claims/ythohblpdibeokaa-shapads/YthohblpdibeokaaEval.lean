/-
  What is proved here: the names of two texts, worked out. No condition.
-/
import Derived.Test.YthohblpdibeokaaName
namespace Go.Proofs.Ythohblpdibeokaa

/-- The text abc; its name, and that of nothing. -/
def abcM (i : Nat) : Int := [97, 98, 99].getD i 0
def abcS : List UInt8 := [98, 97, 55, 56, 49, 54, 98, 102, 56, 102, 48, 49, 99, 102, 101, 97, 52, 49, 52, 49, 52, 48, 100, 101, 53, 100, 97, 101, 50, 50, 50, 51, 98, 48, 48, 51, 54, 49, 97, 51, 57, 54, 49, 55, 55, 97, 57, 99, 98, 52, 49, 48, 102, 102, 54, 49, 102, 50, 48, 48, 49, 53, 97, 100]
def nilS : List UInt8 := [101, 51, 98, 48, 99, 52, 52, 50, 57, 56, 102, 99, 49, 99, 49, 52, 57, 97, 102, 98, 102, 52, 99, 56, 57, 57, 54, 102, 98, 57, 50, 52, 50, 55, 97, 101, 52, 49, 101, 52, 54, 52, 57, 98, 57, 51, 52, 99, 97, 52, 57, 53, 57, 57, 49, 98, 55, 56, 53, 50, 98, 56, 53, 53]

theorem name_abc : nameS 3 abcM = abcS := by decide +kernel
theorem name_nil : nameS 0 (fun _ => 0) = nilS := by decide +kernel

end Go.Proofs.Ythohblpdibeokaa
