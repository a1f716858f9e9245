/-
  What is proved here: what two patches are the other way about, as a function on patches, and what the statements ask of it. No condition.
-/
import Derived.Test.YtlmgbcfcikdgpaaGreatDoorRight9
import Derived.Test.YtlmgbcfcikdgpaaGreatDoorPRRest
namespace Go.Proofs.YtlmgbcfcikdgpaaGreatDoor
open Go.RowKit
set_option maxRecDepth 100000

/-- Classes of patches: 0 an addition, 1 a change, 2 a Move. -/
def clsP (x : Pr) : Nat := if x.kind ≤ 6 then 0 else if x.kind = 10 then 2 else 1

def apP (a b : ByteArray) : Bool := Path.apart a.data.toList b.data.toList
def wiP (a b : ByteArray) : Bool := Path.within a.data.toList b.data.toList
def moP (a b c : ByteArray) : ByteArray := ⟨(Path.moved a.data.toList b.data.toList c.data.toList).toArray⟩

/-- The paths that a patch has. -/
def placesP (x : Pr) : List ByteArray := if x.kind = 10 then [x.path, x.dst] else [x.path]

def apartP (p q : Pr) : Bool := (placesP p).all fun a => (placesP q).all fun b => apP a b

/-- Where a path is, once all within one is at another. -/
def carryP (a f t : ByteArray) : ByteArray × Bool := if wiP a f then (moP a f t, true) else (a, !wiP a t)

/-- Two Lines of one path. -/
def linesC (p q : Pr) : Pr × Pr × Bool :=
  if p.pos + p.new.length < q.pos then ({ q with pos := q.pos + (p.old.length - p.new.length) }, p, true)
  else if q.pos + q.old.length < p.pos then (q, { p with pos := p.pos + (q.new.length - q.old.length) }, true)
  else (q, p, false)

def changesC (p q : Pr) : Pr × Pr × Bool := if p.path = q.path then (if p.kind = 7 ∧ q.kind = 7 then linesC p q else (q, p, false)) else (q, p, true)

def changeMoveC (p q : Pr) : Pr × Pr × Bool := (q, { p with path := (carryP p.path q.path q.dst).1 }, (carryP p.path q.path q.dst).2)
def moveChangeC (p q : Pr) : Pr × Pr × Bool := ({ q with path := (carryP q.path p.dst p.path).1 }, p, (carryP q.path p.dst p.path).2)

/-- What two right patches are the other way about. -/
def ruleC (p q : Pr) : Pr × Pr × Bool :=
  if clsP p = 1 ∧ clsP q = 1 then changesC p q
  else if clsP p = 1 ∧ clsP q = 2 then changeMoveC p q
  else if clsP p = 2 ∧ clsP q = 1 then moveChangeC p q
  else if clsP p = 1 ∨ clsP q = 1 then (q, p, decide (¬ p.path = q.path))
  else (q, p, apartP p q)

def noneC : Pr × Pr × Bool := (zeroP, zeroP, false)

def checkC (r : Pr × Pr × Bool) : Pr × Pr × Bool := if r.2.2 && rightP r.1 && rightP r.2.1 then r else noneC

/-- What two patches are the other way about. -/
def commP (p q : Pr) : Pr × Pr × Bool := if rightP p && rightP q then checkC (ruleC p q) else noneC

/-- A patch, and several behind it, the other way about. -/
def pastP : Pr → List Pr → List Pr × Pr × Bool
  | p, [] => ([], p, true)
  | p, q :: l => if (commP p q).2.2 then (match pastP (commP p q).2.1 l with | (a, b, t) => if t then ((commP p q).1 :: a, b, true) else ([], zeroP, false)) else ([], zeroP, false)

theorem checkC_yes {r : Pr × Pr × Bool} (h : (checkC r).2.2 = true) : checkC r = r ∧ r.2.2 = true ∧ rightP r.1 = true ∧ rightP r.2.1 = true := by
  unfold checkC at h ⊢
  split
  · rename_i hc
    simp only [Bool.and_eq_true] at hc
    exact ⟨rfl, hc.1.1, hc.1.2, hc.2⟩
  · rename_i hc
    rw [if_neg hc] at h
    simp [noneC] at h

theorem commP_yes {p q : Pr} (h : (commP p q).2.2 = true) : rightP p = true ∧ rightP q = true ∧ commP p q = ruleC p q ∧ (ruleC p q).2.2 = true ∧ rightP (ruleC p q).1 = true ∧ rightP (ruleC p q).2.1 = true := by
  unfold commP at h ⊢
  split
  · rename_i hc
    rw [if_pos hc] at h
    simp only [Bool.and_eq_true] at hc
    obtain ⟨h1, h2, h3, h4⟩ := checkC_yes h
    exact ⟨hc.1, hc.2, h1, h2, h3, h4⟩
  · rename_i hc
    rw [if_neg hc] at h
    simp [noneC] at h

theorem commP_no {p q : Pr} (h : (commP p q).2.2 = false) : commP p q = noneC := by
  unfold commP checkC at h ⊢
  split
  · rename_i hc
    rw [if_pos hc] at h
    split
    · rename_i hc2
      rw [if_pos hc2] at h
      simp only [Bool.and_eq_true] at hc2
      rw [h] at hc2
      simp at hc2
    · rfl
  · rfl

theorem commP_of {p q : Pr} (hp : rightP p = true) (hq : rightP q = true) (h : (ruleC p q).2.2 = true) (h1 : rightP (ruleC p q).1 = true) (h2 : rightP (ruleC p q).2.1 = true) : commP p q = ruleC p q := by
  unfold commP checkC
  simp [hp, hq, h, h1, h2]

theorem apP_comm (a b : ByteArray) : apP a b = apP b a := Path.apart_comm _ _

theorem moP_list (a b c : ByteArray) : (moP a b c).data.toList = Path.moved a.data.toList b.data.toList c.data.toList := by simp [moP]

theorem wiP_moved {a f t : ByteArray} (h : wiP a f = true) : wiP (moP a f t) t = true ∧ moP (moP a f t) t f = a := by
  unfold wiP at h ⊢
  rcases (Path.within_iff _ _).1 h with e | ⟨r, e⟩
  · have h1 : (moP a f t).data.toList = t.data.toList := by rw [moP_list, e, Path.moved_self]
    refine ⟨by rw [h1]; exact Path.within_refl _, ?_⟩
    rw [Path.bytes_eq, moP_list, h1, Path.moved_self, e]
  · have h1 : (moP a f t).data.toList = t.data.toList ++ 47 :: r := by rw [moP_list, e, Path.moved_join]
    refine ⟨by rw [h1]; exact Path.within_join _ _, ?_⟩
    rw [Path.bytes_eq, moP_list, h1, Path.moved_join, e]

/-- What is carried is carried back. -/
theorem carry_back {a f t : ByteArray} (h : (carryP a f t).2 = true) : carryP (carryP a f t).1 t f = (a, true) := by
  unfold carryP at h ⊢
  by_cases hw : wiP a f = true
  · obtain ⟨h1, h2⟩ := wiP_moved (t := t) hw
    simp [hw, h1, h2]
  · simp only [Bool.not_eq_true] at hw
    simp [hw] at h ⊢
    simp [h]

theorem cls_cases {x : Pr} (h : rightP x = true) : (clsP x = 0 ∧ x.kind ≤ 6 ∧ 1 ≤ x.kind) ∨ (clsP x = 1 ∧ 7 ≤ x.kind ∧ x.kind ≤ 9) ∨ (clsP x = 2 ∧ x.kind = 10) := by
  unfold rightP at h
  simp only [Bool.and_eq_true, decide_eq_true_eq] at h
  obtain ⟨⟨⟨h1, h2⟩, _⟩, _⟩ := h
  unfold clsP
  (repeat' split) <;> omega

theorem apartP_comm (p q : Pr) : apartP p q = apartP q p := by
  unfold apartP placesP
  (repeat' split) <;> simp only [List.all_cons, List.all_nil, Bool.and_true] <;> simp only [apP_comm p.path, apP_comm p.dst] <;> ac_rfl

end Go.Proofs.YtlmgbcfcikdgpaaGreatDoor
