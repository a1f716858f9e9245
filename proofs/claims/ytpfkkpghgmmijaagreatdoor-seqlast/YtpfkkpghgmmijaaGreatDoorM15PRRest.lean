/-
  What is proved here: the contracts that the statement stands on: PRRest, PRRight. Conditions: as each theorem names them.
-/
import Derived.Test.YtpfkkpghgmmijaaGreatDoorMPRPart
import Derived.Lib.IndexBytes
namespace Go.Proofs.YtpfkkpghgmmijaaGreatDoor.Path
open Go.RowKit
set_option maxRecDepth 100000

theorem str_of {s : ByteArray} {l : List UInt8} (h : s.data.toList = l) : s = ⟨l.toArray⟩ := (str_eq s l).2 h

theorem bytes_eq {p q : ByteArray} : p = q ↔ p.data.toList = q.data.toList := by
  constructor
  · rintro rfl; rfl
  · intro h; rw [str_of h]

theorem extract_list (s : ByteArray) (a b : Nat) : (s.extract a b).data.toList = (s.data.toList.take b).drop a := by
  rw [ByteArray.data_extract, Array.toList_extract]
  simp [List.extract_eq_take_drop, List.drop_take]

theorem apart_def (p q : Bs) : apart p q = (!within p q && !within q p) := rfl

theorem parent_at {p : ByteArray} {k : Nat} (hk : k < p.size) (hc : p[k] = 47) (h : (47 : UInt8) ∉ p.data.toList.drop (k + 1)) : parent p.data.toList = some (p.data.toList.take k) := by
  have e := List.take_append_drop k p.data.toList
  rw [List.drop_eq_getElem_cons (by rw [len_eq]; exact hk)] at e
  rw [show p.data.toList[k]'(by rw [len_eq]; exact hk) = 47 from hc] at e
  have := parent_join (p.data.toList.take k) h
  rwa [e] at this

theorem cut_list (p : ByteArray) (k : Nat) : p.extract 0 k = ⟨(p.data.toList.take k).toArray⟩ := str_of (by rw [extract_list, List.drop_zero])

def parentS (p : Bs) : Value := .tuple #[.string ⟨((parent p).getD []).toArray⟩, .bool (parent p).isSome]

end Go.Proofs.YtpfkkpghgmmijaaGreatDoor.Path

namespace Go.Proofs.YtpfkkpghgmmijaaGreatDoor.Path
open Go.RowKit
set_option maxRecDepth 100000

/-- The parts that are through when the document's loop stands at byte k, the part at hand from byte f on. -/
structure At (p : Bs) (done : List Bs) (f k : Nat) : Prop where
  fk : f ≤ k
  kp : k ≤ p.length
  eq : parts p = done ++ parts (p.drop f)
  no : (47 : UInt8) ∉ (p.drop f).take (k - f)
  fine : ∀ l ∈ done, goodPart l = true

theorem At.start (p : Bs) : At p [] 0 0 := ⟨Nat.le_refl _, Nat.zero_le _, by simp, by simp, by simp⟩

theorem At.len {p : Bs} {done : List Bs} {f k : Nat} (h : At p done f k) : done.length ≤ p.length := by
  have e := congrArg List.length h.eq
  rw [parts_length, List.length_append] at e
  have := List.length_pos_iff.2 (parts_ne (p.drop f))
  have := List.count_le_length (a := (47 : UInt8)) (l := p)
  omega

theorem At.on {p : Bs} {done : List Bs} {f k : Nat} (h : At p done f k) (hk : k < p.length) (hc : p[k] ≠ 47) : At p done f (k + 1) := by
  refine ⟨by have := h.fk; omega, by omega, h.eq, ?_, h.fine⟩
  have e : k + 1 - f = (k - f) + 1 := by have := h.fk; omega
  rw [e, List.take_add_one, List.mem_append, not_or]
  refine ⟨h.no, ?_⟩
  rw [List.getElem?_drop, show f + (k - f) = k from by have := h.fk; omega, List.getElem?_eq_getElem hk]
  simpa using fun e => hc e.symm

/-- The part at hand. -/
def seg (p : Bs) (f k : Nat) : Bs := (p.take k).drop f

theorem seg_eq (p : Bs) (f k : Nat) : seg p f k = (p.drop f).take (k - f) := by rw [seg, List.drop_take]

theorem At.slash {p : Bs} {done : List Bs} {f k : Nat} (h : At p done f k) (hk : k < p.length) (hc : p[k] = 47) : parts p = done ++ seg p f k :: parts (p.drop (k + 1)) := by
  have e : p.drop f = seg p f k ++ 47 :: p.drop (k + 1) := by
    have := List.take_append_drop (k - f) (p.drop f)
    rw [List.drop_drop, show f + (k - f) = k from by have := h.fk; omega, List.drop_eq_getElem_cons hk, hc, ← seg_eq] at this
    exact this.symm
  rw [h.eq, e, parts_join, parts_one (by rw [seg_eq]; exact h.no)]
  rfl

theorem At.last {p : Bs} {done : List Bs} {f : Nat} (h : At p done f p.length) : parts p = done ++ [seg p f p.length] := by
  have e : p.drop f = seg p f p.length := by rw [seg, List.take_length]
  rw [h.eq, e, parts_one (by rw [seg_eq]; exact h.no)]

theorem At.next {p : Bs} {done : List Bs} {f k : Nat} (h : At p done f k) (hk : k < p.length) (hc : p[k] = 47) (hg : goodPart (seg p f k) = true) : At p (done ++ [seg p f k]) (k + 1) (k + 1) :=
  ⟨Nat.le_refl _, by omega, by rw [h.slash hk hc]; simp, by simp, fun l hl => by
    rcases List.mem_append.1 hl with hl | hl
    · exact h.fine l hl
    · rw [List.mem_singleton.1 hl]; exact hg⟩

theorem not_right {p : Bs} {l : Bs} (hl : l ∈ parts p) (hg : goodPart l = false) : right p = false := by
  cases h : right p with
  | false => rfl
  | true => have := ((right_iff p).1 h).2 l hl; rw [hg] at this; cases this

end Go.Proofs.YtpfkkpghgmmijaaGreatDoor.Path
