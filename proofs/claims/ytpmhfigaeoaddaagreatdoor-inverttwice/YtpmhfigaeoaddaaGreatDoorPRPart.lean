/-
  What is proved here: what the document's part, Within, Apart, Moved and Parent answer. The texts are shorter than 100000000 bytes.
-/
import Derived.Test.YtpmhfigaeoaddaaGreatDoorPPlain
import Derived.Test.YtpmhfigaeoaddaaGreatDoorProg
import Derived.WalkKit
import Derived.Laws.Strings3
import Derived.Laws.Concat
namespace Go.Proofs.YtpmhfigaeoaddaaGreatDoor.Path
open Go.RowKit
set_option maxRecDepth 100000

theorem len_eq (s : ByteArray) : s.data.toList.length = s.size := by cases s; rfl

theorem take_snoc (s : ByteArray) (k : Nat) (h : k < s.size) : s.data.toList.take (k + 1) = s.data.toList.take k ++ [s[k]] := by
  rw [List.take_succ_eq_append_getElem (by simpa using h)]; rfl

theorem str_eq (s : ByteArray) (l : List UInt8) : (s = ⟨l.toArray⟩) ↔ s.data.toList = l := by
  constructor
  · rintro rfl; rfl
  · intro h; cases s with | mk d => cases d; simp at h; subst h; rfl

theorem all_step {f : UInt8 → Bool} {s : ByteArray} {k : Nat} (h : k < s.size) (ha : (s.data.toList.take k).all f = true) (hc : f s[k] = true) : (s.data.toList.take (k + 1)).all f = true := by
  rw [take_snoc s k h, List.all_append, ha]
  simp [hc]

theorem all_no {f : UInt8 → Bool} {s : ByteArray} {k : Nat} (h : k < s.size) (hc : f s[k] = false) : s.data.toList.all f = false := by
  rw [List.all_eq_false]
  exact ⟨s[k], List.getElem_mem (l := s.data.toList) (n := k) (by rw [len_eq]; exact h), by simp [hc]⟩

/-- How the walk asks whether a text is that one. -/
theorem asks_no {s : ByteArray} {l : List UInt8} (h : ¬ s.data.toList = l) : (¬ s.toList = l) ∧ (s.toList == l) = false := by
  rw [ByteArray.toList_eq]; exact ⟨h, by simpa using h⟩

theorem asks_yes {s : ByteArray} {l : List UInt8} (h : s.data.toList = l) : s.toList = l ∧ (s.toList == l) = true := by
  rw [ByteArray.toList_eq]; exact ⟨h, by simpa using h⟩

end Go.Proofs.YtpmhfigaeoaddaaGreatDoor.Path
