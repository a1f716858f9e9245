/-
  What is proved here: what inToken, first and Token answer, and the document's in and Token. The texts are shorter than 900000 bytes.
-/
import Derived.Test.YtjfmooiapddgaaaLPlain
import Derived.Test.YtjfmooiapddgaaaProg
import Derived.Test.YtjfmooiapddgaaaLBase
import Derived.WalkKit
import Derived.Laws.Strings3
import Derived.Laws.Concat
namespace Go.Proofs.Ytjfmooiapddgaaa.Lines
open Go.RowKit
set_option maxRecDepth 100000

theorem len_eq (s : ByteArray) : s.data.toList.length = s.size := by cases s; rfl

theorem str_of {s : ByteArray} {l : Bs} (h : s.data.toList = l) : s = ⟨l.toArray⟩ := by
  cases s with | mk d => cases d; simp at h; subst h; rfl

theorem take_snoc (s : ByteArray) (k : Nat) (h : k < s.size) : s.data.toList.take (k + 1) = s.data.toList.take k ++ [s[k]] := by
  rw [List.take_succ_eq_append_getElem (by simpa using h)]; rfl

/-- How the walk asks whether a text is that one. -/
theorem asks_no {s : ByteArray} {l : List UInt8} (h : ¬ s.data.toList = l) : (¬ s.toList = l) ∧ (s.toList == l) = false := by
  rw [ByteArray.toList_eq]; exact ⟨h, by simpa using h⟩

theorem asks_yes {s : ByteArray} {l : List UInt8} (h : s.data.toList = l) : s.toList = l ∧ (s.toList == l) = true := by
  rw [ByteArray.toList_eq]; exact ⟨h, by simpa using h⟩

theorem extract_list (s : ByteArray) (a b : Nat) : (s.extract a b).data.toList = (s.data.toList.take b).drop a := by
  simp [ByteArray.data_extract, Array.toList_extract, List.extract_eq_take_drop, List.drop_take]

theorem Grew.of {w w' : World} (h : Below w.heap.size w w') : Fr None' w w' := ⟨h.os, h.tape, h.output, h.size, fun k hk _ => h.block k hk⟩

theorem Grew.below {w w' : World} (h : Fr None' w w') : Below w.heap.size w w' := Fr.below h (Nat.le_refl _) (fun _ e => e.elim)

theorem ret_int {k : IntKind} {a b : Int} (h : a = b) : Ending.returned (.int k a) = .returned (.int k b) := by rw [h]
theorem ret_bool {a b : Bool} (h : a = b) : Ending.returned (.bool a) = .returned (.bool b) := by rw [h]

theorem first_is {s : ByteArray} {k : Nat} (h0 : 0 < s.size) (h1 : 1 ≤ k) (hk : k ≤ s.size) (HA : ∀ j (h : j < s.data.toList.length), j < k → tokB s.data.toList[j] = tokB (s[0]'h0)) (hn : ∀ h : k < s.size, tokB (s[k]'h) ≠ tokB (s[0]'h0)) : firstLen s.data.toList = k :=
  firstLen_eq _ _ (by omega) (by rw [len_eq]; exact hk) _ HA (fun h => hn (by rw [← len_eq]; exact h))

theorem first_on {s : ByteArray} {k : Nat} (h0 : 0 < s.size) (hlt : k < s.size) (HA : ∀ j (h : j < s.data.toList.length), j < k → tokB s.data.toList[j] = tokB (s[0]'h0)) (hy : tokB (s[k]'hlt) = tokB (s[0]'h0)) : ∀ j (h : j < s.data.toList.length), j < k + 1 → tokB s.data.toList[j] = tokB (s[0]'h0) := fun j h hj => by
  by_cases e : j = k
  · subst e; exact hy
  · exact HA j h (by omega)

theorem tok_size {s : ByteArray} (h0 : 0 < s.size) : tok s.data.toList = (inB (s[0]'h0).toNat && decide ((firstLen s.data.toList : Int) = (s.size : Int))) := by
  obtain ⟨⟨l⟩⟩ := s
  cases l with
  | nil => exact absurd h0 (by decide)
  | cons c r =>
    show tok (c :: r) = (inB c.toNat && decide ((firstLen (c :: r) : Int) = ((c :: r).length : Int)))
    rw [tok_first, tokB]
    refine congrArg _ ?_
    rw [Bool.eq_iff_iff]; simp; omega

theorem all_step {f : UInt8 → Bool} {s : ByteArray} {k : Nat} (h : k < s.size) (ha : (s.data.toList.take k).all f = true) (hc : f s[k] = true) : (s.data.toList.take (k + 1)).all f = true := by
  rw [take_snoc s k h, List.all_append, ha]
  simp [hc]

theorem all_no {f : UInt8 → Bool} {s : ByteArray} {k : Nat} (h : k < s.size) (hc : f s[k] = false) : s.data.toList.all f = false := by
  rw [List.all_eq_false]
  exact ⟨s[k], List.getElem_mem (l := s.data.toList) (n := k) (by rw [len_eq]; exact h), by simp [hc]⟩

end Go.Proofs.Ytjfmooiapddgaaa.Lines
