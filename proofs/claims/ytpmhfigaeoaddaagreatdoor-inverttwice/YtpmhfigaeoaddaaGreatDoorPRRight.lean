/-
  What is proved here: what the document's Right answers. The text is shorter than 100000000 bytes.
-/
import Derived.Test.YtpmhfigaeoaddaaGreatDoorPRRest
namespace Go.Proofs.YtpmhfigaeoaddaaGreatDoor.Path
open Go.RowKit
set_option maxRecDepth 100000

/-- The parts that are through when the document's loop stands at byte k, the part at hand from byte f on. -/
structure At (p : Bs) (done : List Bs) (f k : Nat) : Prop where
  fk : f ≤ k
  kp : k ≤ p.length
  eq : parts p = done ++ parts (p.drop f)
  no : (47 : UInt8) ∉ (p.drop f).take (k - f)
  fine : ∀ l ∈ done, goodPart l = true

theorem At.start (p : Bs) : At p [] 0 0 := ⟨Nat.le_refl _, Nat.zero_le _, by simp, by simp, by simp⟩

theorem At.len {p : Bs} {done : List Bs} {f k : Nat} (h : At p done f k) : done.length ≤ p.length := by
  have e := congrArg List.length h.eq
  rw [parts_length, List.length_append] at e
  have := List.length_pos_iff.2 (parts_ne (p.drop f))
  have := List.count_le_length (a := (47 : UInt8)) (l := p)
  omega

theorem At.on {p : Bs} {done : List Bs} {f k : Nat} (h : At p done f k) (hk : k < p.length) (hc : p[k] ≠ 47) : At p done f (k + 1) := by
  refine ⟨by have := h.fk; omega, by omega, h.eq, ?_, h.fine⟩
  have e : k + 1 - f = (k - f) + 1 := by have := h.fk; omega
  rw [e, List.take_add_one, List.mem_append, not_or]
  refine ⟨h.no, ?_⟩
  rw [List.getElem?_drop, show f + (k - f) = k from by have := h.fk; omega, List.getElem?_eq_getElem hk]
  simpa using fun e => hc e.symm

/-- The part at hand. -/
def seg (p : Bs) (f k : Nat) : Bs := (p.take k).drop f

theorem seg_eq (p : Bs) (f k : Nat) : seg p f k = (p.drop f).take (k - f) := by rw [seg, List.drop_take]

theorem At.slash {p : Bs} {done : List Bs} {f k : Nat} (h : At p done f k) (hk : k < p.length) (hc : p[k] = 47) : parts p = done ++ seg p f k :: parts (p.drop (k + 1)) := by
  have e : p.drop f = seg p f k ++ 47 :: p.drop (k + 1) := by
    have := List.take_append_drop (k - f) (p.drop f)
    rw [List.drop_drop, show f + (k - f) = k from by have := h.fk; omega, List.drop_eq_getElem_cons hk, hc, ← seg_eq] at this
    exact this.symm
  rw [h.eq, e, parts_join, parts_one (by rw [seg_eq]; exact h.no)]
  rfl

theorem At.last {p : Bs} {done : List Bs} {f : Nat} (h : At p done f p.length) : parts p = done ++ [seg p f p.length] := by
  have e : p.drop f = seg p f p.length := by rw [seg, List.take_length]
  rw [h.eq, e, parts_one (by rw [seg_eq]; exact h.no)]

theorem At.next {p : Bs} {done : List Bs} {f k : Nat} (h : At p done f k) (hk : k < p.length) (hc : p[k] = 47) (hg : goodPart (seg p f k) = true) : At p (done ++ [seg p f k]) (k + 1) (k + 1) :=
  ⟨Nat.le_refl _, by omega, by rw [h.slash hk hc]; simp, by simp, fun l hl => by
    rcases List.mem_append.1 hl with hl | hl
    · exact h.fine l hl
    · rw [List.mem_singleton.1 hl]; exact hg⟩

theorem not_right {p : Bs} {l : Bs} (hl : l ∈ parts p) (hg : goodPart l = false) : right p = false := by
  cases h : right p with
  | false => rfl
  | true => have := ((right_iff p).1 h).2 l hl; rw [hg] at this; cases this

theorem is_right {p : Bs} {done : List Bs} (e : parts p = done) (h : ∀ l ∈ done, goodPart l = true) : right p = decide (done.length ≤ 8) := by
  rw [right, e, List.all_eq_true.2 h, Bool.and_true]

end Go.Proofs.YtpmhfigaeoaddaaGreatDoor.Path
