/-
  What is proved here: the contracts that the statement stands on: Plain10, Laws10, Plain11. Conditions: as each theorem names them.
-/
import Derived.Test.YtbnfjjjdnbcehaaGreatDoorM6Strs9
import Derived.Test.YtbnfjjjdnbcehaaGreatDoorM13PRRest
namespace Go.Proofs.YtbnfjjjdnbcehaaGreatDoor
open Go.RowKit
set_option maxRecDepth 100000

/-- Classes of patches: 0 an addition, 1 a change, 2 a Move. -/
def clsP (x : Pr) : Nat := if x.kind ≤ 6 then 0 else if x.kind = 10 then 2 else 1

def apP (a b : ByteArray) : Bool := Path.apart a.data.toList b.data.toList
def wiP (a b : ByteArray) : Bool := Path.within a.data.toList b.data.toList
def moP (a b c : ByteArray) : ByteArray := ⟨(Path.moved a.data.toList b.data.toList c.data.toList).toArray⟩

/-- The paths that a patch has. -/
def placesP (x : Pr) : List ByteArray := if x.kind = 10 then [x.path, x.dst] else [x.path]

def apartP (p q : Pr) : Bool := (placesP p).all fun a => (placesP q).all fun b => apP a b

/-- Where a path is, once all within one is at another. -/
def carryP (a f t : ByteArray) : ByteArray × Bool := if wiP a f then (moP a f t, true) else (a, !wiP a t)

/-- Two Lines of one path. -/
def linesC (p q : Pr) : Pr × Pr × Bool :=
  if p.pos + p.new.length < q.pos then ({ q with pos := q.pos + (p.old.length - p.new.length) }, p, true)
  else if q.pos + q.old.length < p.pos then (q, { p with pos := p.pos + (q.new.length - q.old.length) }, true)
  else (q, p, false)

def changesC (p q : Pr) : Pr × Pr × Bool := if p.path = q.path then (if p.kind = 7 ∧ q.kind = 7 then linesC p q else (q, p, false)) else (q, p, true)

def changeMoveC (p q : Pr) : Pr × Pr × Bool := (q, { p with path := (carryP p.path q.path q.dst).1 }, (carryP p.path q.path q.dst).2)
def moveChangeC (p q : Pr) : Pr × Pr × Bool := ({ q with path := (carryP q.path p.dst p.path).1 }, p, (carryP q.path p.dst p.path).2)

/-- What two right patches are the other way about. -/
def ruleC (p q : Pr) : Pr × Pr × Bool :=
  if clsP p = 1 ∧ clsP q = 1 then changesC p q
  else if clsP p = 1 ∧ clsP q = 2 then changeMoveC p q
  else if clsP p = 2 ∧ clsP q = 1 then moveChangeC p q
  else if clsP p = 1 ∨ clsP q = 1 then (q, p, decide (¬ p.path = q.path))
  else (q, p, apartP p q)

def noneC : Pr × Pr × Bool := (zeroP, zeroP, false)

def checkC (r : Pr × Pr × Bool) : Pr × Pr × Bool := if r.2.2 && rightP r.1 && rightP r.2.1 then r else noneC

/-- What two patches are the other way about. -/
def commP (p q : Pr) : Pr × Pr × Bool := if rightP p && rightP q then checkC (ruleC p q) else noneC

/-- A patch, and several behind it, the other way about. -/
def pastP : Pr → List Pr → List Pr × Pr × Bool
  | p, [] => ([], p, true)
  | p, q :: l => if (commP p q).2.2 then (match pastP (commP p q).2.1 l with | (a, b, t) => if t then ((commP p q).1 :: a, b, true) else ([], zeroP, false)) else ([], zeroP, false)

theorem checkC_yes {r : Pr × Pr × Bool} (h : (checkC r).2.2 = true) : checkC r = r ∧ r.2.2 = true ∧ rightP r.1 = true ∧ rightP r.2.1 = true := by
  unfold checkC at h ⊢
  split
  · rename_i hc
    simp only [Bool.and_eq_true] at hc
    exact ⟨rfl, hc.1.1, hc.1.2, hc.2⟩
  · rename_i hc
    rw [if_neg hc] at h
    simp [noneC] at h

theorem commP_yes {p q : Pr} (h : (commP p q).2.2 = true) : rightP p = true ∧ rightP q = true ∧ commP p q = ruleC p q ∧ (ruleC p q).2.2 = true ∧ rightP (ruleC p q).1 = true ∧ rightP (ruleC p q).2.1 = true := by
  unfold commP at h ⊢
  split
  · rename_i hc
    rw [if_pos hc] at h
    simp only [Bool.and_eq_true] at hc
    obtain ⟨h1, h2, h3, h4⟩ := checkC_yes h
    exact ⟨hc.1, hc.2, h1, h2, h3, h4⟩
  · rename_i hc
    rw [if_neg hc] at h
    simp [noneC] at h

theorem apP_comm (a b : ByteArray) : apP a b = apP b a := Path.apart_comm _ _

theorem cls_cases {x : Pr} (h : rightP x = true) : (clsP x = 0 ∧ x.kind ≤ 6 ∧ 1 ≤ x.kind) ∨ (clsP x = 1 ∧ 7 ≤ x.kind ∧ x.kind ≤ 9) ∨ (clsP x = 2 ∧ x.kind = 10) := by
  unfold rightP at h
  simp only [Bool.and_eq_true, decide_eq_true_eq] at h
  obtain ⟨⟨⟨h1, h2⟩, _⟩, _⟩ := h
  unfold clsP
  (repeat' split) <;> omega

end Go.Proofs.YtbnfjjjdnbcehaaGreatDoor

namespace Go.Proofs.YtbnfjjjdnbcehaaGreatDoor
open Go.RowKit
set_option maxRecDepth 100000

theorem rule_11 {x y : Pr} (h : clsP x = 1) (k : clsP y = 1) : ruleC x y = changesC x y := by unfold ruleC; simp [h, k]
theorem rule_12 {x y : Pr} (h : clsP x = 1) (k : clsP y = 2) : ruleC x y = changeMoveC x y := by unfold ruleC; simp [h, k]
theorem rule_21 {x y : Pr} (h : clsP x = 2) (k : clsP y = 1) : ruleC x y = moveChangeC x y := by unfold ruleC; simp [h, k]
theorem rule_un {x y : Pr} (h : clsP x = 1 ∧ clsP y = 0 ∨ clsP x = 0 ∧ clsP y = 1) : ruleC x y = (y, x, decide (¬ x.path = y.path)) := by unfold ruleC; rcases h with ⟨h, k⟩ | ⟨h, k⟩ <;> simp [h, k]
theorem rule_ap {x y : Pr} (h : clsP x = 0 ∨ clsP x = 2) (k : clsP y = 0 ∨ clsP y = 2) : ruleC x y = (y, x, apartP x y) := by unfold ruleC; rcases h with h | h <;> rcases k with k | k <;> simp [h, k]

theorem past_no {p : Pr} {l : List Pr} (h : (pastP p l).2.2 = false) : pastP p l = ([], zeroP, false) := by
  cases l with
  | nil => simp [pastP] at h
  | cons q l =>
    simp only [pastP] at h ⊢
    split
    · rename_i hc
      rw [if_pos hc] at h
      split
      · rename_i ht
        rw [if_pos ht] at h
        simp at h
      · rfl
    · rfl

/-- A patch passes two rows one behind the other. -/
theorem past_append : ∀ (a b : List Pr) (p : Pr), pastP p (a ++ b) = if (pastP p a).2.2 then (if (pastP (pastP p a).2.1 b).2.2 then ((pastP p a).1 ++ (pastP (pastP p a).2.1 b).1, (pastP (pastP p a).2.1 b).2.1, true) else ([], zeroP, false)) else ([], zeroP, false)
  | [], b, p => by
    show pastP p b = if true = true then (if (pastP p b).2.2 = true then ((pastP p b).1, (pastP p b).2.1, true) else ([], zeroP, false)) else ([], zeroP, false)
    rw [if_pos rfl]
    by_cases h : (pastP p b).2.2 = true
    · rw [if_pos h, ← h]
    · rw [if_neg h]
      exact past_no (by simpa using h)
  | q :: a, b, p => by
    simp only [List.cons_append, pastP]
    by_cases hc : (commP p q).2.2 = true
    · rw [if_pos hc, if_pos hc, past_append a b (commP p q).2.1]
      by_cases ha : (pastP (commP p q).2.1 a).2.2 = true
      · rw [if_pos ha, if_pos ha]
        simp only [if_true]
        by_cases hb : (pastP (pastP (commP p q).2.1 a).2.1 b).2.2 = true
        · rw [if_pos hb, if_pos hb]
          rfl
        · rw [if_neg hb, if_neg hb]
          rfl
      · rw [if_neg ha, if_neg ha]
        rfl
    · rw [if_neg hc, if_neg hc]
      rfl

end Go.Proofs.YtbnfjjjdnbcehaaGreatDoor

namespace Go.Proofs.YtbnfjjjdnbcehaaGreatDoor
open Go.RowKit
set_option maxRecDepth 100000

/-- A row, and one behind it, the other way about. -/
def swapP : List Pr → List Pr → List Pr × List Pr × Bool
  | [], b => (b, [], true)
  | p :: a, b => if (swapP a b).2.2 then (if (pastP p (swapP a b).1).2.2 then ((pastP p (swapP a b).1).1, (pastP p (swapP a b).1).2.1 :: (swapP a b).2.1, true) else ([], [], false)) else ([], [], false)

theorem swap_no {a b : List Pr} (h : (swapP a b).2.2 = false) : swapP a b = ([], [], false) := by
  cases a with
  | nil => cases h
  | cons p a =>
    simp only [swapP] at h ⊢
    split
    · rename_i h1
      rw [if_pos h1] at h
      split
      · rename_i h2
        rw [if_pos h2] at h
        cases h
      · rfl
    · rfl

theorem swap_append : ∀ (a b c : List Pr), swapP (a ++ b) c = if (swapP b c).2.2 then (if (swapP a (swapP b c).1).2.2 then ((swapP a (swapP b c).1).1, (swapP a (swapP b c).1).2.1 ++ (swapP b c).2.1, true) else ([], [], false)) else ([], [], false)
  | [], b, c => by
    simp only [List.nil_append, swapP, if_true]
    split
    · rename_i h
      rw [← h]
    · rename_i h
      exact swap_no (by simpa using h)
  | p :: a, b, c => by
    simp only [List.cons_append, swapP, swap_append a b c]
    by_cases h1 : (swapP b c).2.2 = true
    · rw [if_pos h1]
      by_cases h2 : (swapP a (swapP b c).1).2.2 = true
      · simp only [if_pos h1, if_pos h2, if_true]
        by_cases h3 : (pastP p (swapP a (swapP b c).1).1).2.2 = true
        · simp only [if_pos h3, if_true, List.cons_append]
        · simp only [if_neg h3, Bool.false_eq_true, if_false]
      · simp only [if_neg h2, Bool.false_eq_true, if_false, if_pos h1]
    · simp only [if_neg h1, Bool.false_eq_true, if_false]

/-- Are two patches the same? -/
def alikeP (p q : Pr) : Bool := decide (p.kind = q.kind) && decide (p.path = q.path) && decide (p.dst = q.dst) && decide (p.src = q.src) && decide (p.pos = q.pos) && decide (p.old = q.old) && decide (p.new = q.new)

theorem alike_iff {p q : Pr} : alikeP p q = true ↔ p = q := by
  obtain ⟨a, b, c, d, e, f, g⟩ := p
  obtain ⟨a', b', c', d', e', f', g'⟩ := q
  simp [alikeP, and_assoc]

/-- What two neighbours are, if they are one. -/
def joinP (p q : Pr) : Option (List Pr) :=
  if !(rightP p && rightP q) then none
  else if alikeP q (inv p) then some []
  else if ¬ p.kind = q.kind then none
  else if p.kind = 9 ∧ p.path = q.path ∧ p.dst = q.src then some [{ p with dst := q.dst }]
  else if p.kind = 7 ∧ p.path = q.path ∧ p.pos = q.pos ∧ p.new = q.old then some [{ p with new := q.new }]
  else if p.kind = 10 ∧ p.dst = q.path ∧ apP p.path q.dst = true then some [{ p with dst := q.dst }]
  else none

theorem join_len {p q : Pr} {l : List Pr} (h : joinP p q = some l) : l.length ≤ 1 := by
  unfold joinP at h
  repeat' split at h
  all_goals first | cases h; done | (cases h; simp)

theorem bytes0 {x : ByteArray} (h : x.data = #[]) : x = ⟨#[]⟩ := by
  cases x
  simp only at h
  rw [h]

/-- A patch is put behind what there is (the last one first). -/
def pushR : List Pr → Pr → List Pr
  | [], x => [x]
  | y :: st, x => match joinP y x with
    | none => x :: y :: st
    | some [] => st
    | some (z :: _) => pushR st z

def coalR (st : List Pr) (l : List Pr) : List Pr := l.foldl pushR st

/-- A row with neighbours joined that are one. -/
def coalP (l : List Pr) : List Pr := (coalR [] l).reverse

/-- No two neighbours are one. -/
def Settled : List Pr → Prop
  | x :: y :: st => joinP y x = none ∧ Settled (y :: st)
  | _ => True

theorem Settled.tail {x : Pr} {st : List Pr} (h : Settled (x :: st)) : Settled st := by
  cases st with
  | nil => trivial
  | cons y st => exact h.2

theorem push_settled : ∀ (st : List Pr) (x : Pr), Settled st → Settled (pushR st x)
  | [], x, _ => trivial
  | y :: st, x, h => by
    unfold pushR
    split
    · rename_i hj
      exact ⟨hj, h⟩
    · exact h.tail
    · exact push_settled st _ h.tail

theorem coal_settled : ∀ (l st : List Pr), Settled st → Settled (coalR st l)
  | [], _, h => h
  | x :: l, st, h => coal_settled l (pushR st x) (push_settled st x h)

theorem push_of {y x : Pr} {st : List Pr} (h : joinP y x = none) : pushR (y :: st) x = x :: y :: st := by
  unfold pushR
  rw [h]

theorem push_length : ∀ (st : List Pr) (x : Pr), (pushR st x).length ≤ st.length + 1
  | [], x => by simp [pushR]
  | y :: st, x => by
    unfold pushR
    split
    · simp
    · simp; omega
    · rename_i z _ _
      have := push_length st z
      simp
      omega

theorem coal_length : ∀ (l st : List Pr), (coalR st l).length ≤ st.length + l.length
  | [], _ => by simp [coalR]
  | x :: l, st => by
    have h1 := coal_length l (pushR st x)
    have h2 := push_length st x
    simp only [coalR, List.foldl_cons, List.length_cons] at h1 ⊢
    omega

theorem coalR_append (st a b : List Pr) : coalR st (a ++ b) = coalR (coalR st a) b := List.foldl_append ..

end Go.Proofs.YtbnfjjjdnbcehaaGreatDoor
