/-
  What is proved here: what is kept of the tree that each law asks for first, worked out. No condition.
-/
import Derived.Test.YtdaogldmcbfmoaaGreatDoorM45SortT
import Derived.Test.YtdaogldmcbfmoaaGreatDoorM38RightT2
import Derived.Test.YtdaogldmcbfmoaaGreatDoorM11SRWords
import Derived.Lib.SlBytesConst
namespace Go.Proofs.YtdaogldmcbfmoaaGreatDoor
open Go.RowKit Go.Maps Go.WideMaps
set_option maxRecDepth 100000

/-- The tree that is asked for: a directory a, and a text a/b with the line x. -/
def enA : En := ⟨⟨#[97]⟩, 1, [], ⟨#[]⟩⟩
def enB : En := ⟨⟨#[97, 47, 98]⟩, 2, [⟨#[120]⟩], ⟨#[]⟩⟩
def two7 : List En := [enA, enB]

def k0 : List UInt8 := [116, 120, 10]
def n0 : List UInt8 := nm k0
def k1 : List UInt8 := [100, 50, 32, 98, 32] ++ n0 ++ [10]
def n1 : List UInt8 := nm k1
def k2 : List UInt8 := [100, 49, 32, 97, 32] ++ n1 ++ [10]
def n2 : List UInt8 := nm k2

theorem right_two : treeRight two7 = true := by decide +kernel
theorem right_one : treeRight [enB] = false := by decide +kernel
theorem right_none : treeRight [] = true := by decide +kernel
theorem kept_two : keptL two7 4 [] = [k0, k1, k2] := by decide +kernel
theorem find_two : findE two7 [97, 47, 98] = some enB := rfl
theorem file_apart : fileK n0 ≠ fileK n1 ∧ fileK n0 ≠ fileK n2 ∧ fileK n1 ≠ fileK n2 := by decide +kernel
theorem named_all : Sha.namedB n0 = true ∧ Sha.namedB n1 = true ∧ Sha.namedB n2 = true := by decide +kernel

def S1 (a : Value) : St := ((St.new 10000).put k0 a).2.2
def S2 (a b : Value) : St := ((S1 a).put k1 b).2.2
def S3 (a b c : Value) : St := ((S2 a b).put k2 c).2.2

theorem put_one (a : Value) : ((St.new 10000).put k0 a).2.1 = 0 := by kernel_rfl
theorem put_two (a b : Value) : ((S1 a).put k1 b).2.1 = 0 := by kernel_rfl
theorem put_three (a b c : Value) : ((S2 a b).put k2 c).2.1 = 0 := by kernel_rfl
theorem rd_three (a b c : Value) : rd (S3 a b c).getB 9 n2 [] [] = (two7, 0) := by kernel_rfl
theorem last_two : lastName (keptL two7 (2000000 + 1) []) = n2 := by kernel_rfl

theorem load_three (a b c : Value) : loadL (S3 a b c).getB 2000000 n2 = (two7, 0) := by
  unfold loadL
  rw [rd_three]
  simp only
  rw [if_pos trivial, if_pos ⟨right_two, last_two⟩]
  rfl

theorem S1_eq (a : Value) : S1 a = ((St.new 10000).put k0 a).2.2 := by unfold S1; with_reducible rfl
theorem S2_eq (a b : Value) : S2 a b = ((S1 a).put k1 b).2.2 := by unfold S2; with_reducible rfl
theorem S3_eq (a b c : Value) : S3 a b c = ((S2 a b).put k2 c).2.2 := by unfold S3; with_reducible rfl

end Go.Proofs.YtdaogldmcbfmoaaGreatDoor
