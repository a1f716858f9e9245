/- What is proved here: contracts that SeqTells stands on. Conditions: as each theorem names them. -/
import Derived.Test.YtbnfjjjdnbcehaaGreatDoorM6Strs9
import Derived.Test.YtbnfjjjdnbcehaaGreatDoorM13PRRest
set_option maxHeartbeats 16000000
namespace Go.Proofs.YtbnfjjjdnbcehaaGreatDoor
open Go.RowKit
set_option maxRecDepth 100000
def Ys (x : Pr) : Nat := if x.kind ≤ 6 then 0 else if x.kind = 10 then 2 else 1
def apP (a b : ByteArray) : Bool := Path.apart a.data.toList b.data.toList
def wiP (a b : ByteArray) : Bool := Path.within a.data.toList b.data.toList
def moP (a b c : ByteArray) : ByteArray := ⟨(Path.moved a.data.toList b.data.toList c.data.toList).toArray⟩
def Yn (x : Pr) : List ByteArray := if x.kind = 10 then [x.path, x.dst] else [x.path]
def Yg (p q : Pr) : Bool := (Yn p).all fun a => (Yn q).all fun b => apP a b
def carryP (a f t : ByteArray) : ByteArray × Bool := if wiP a f then (moP a f t, true) else (a, !wiP a t)
def linesC (p q : Pr) : Pr × Pr × Bool :=
 if p.pos + p.new.length < q.pos then ({ q with pos := q.pos + (p.old.length - p.new.length) }, p, true)
 else if q.pos + q.old.length < p.pos then (q, { p with pos := p.pos + (q.new.length - q.old.length) }, true)
 else (q, p, false)
def Yo (p q : Pr) : Pr × Pr × Bool := if p.path = q.path then (if p.kind = 7 ∧ q.kind = 7 then linesC p q else (q, p, false)) else (q, p, true)
def Yw (p q : Pr) : Pr × Pr × Bool := (q, { p with path := (carryP p.path q.path q.dst).1 }, (carryP p.path q.path q.dst).2)
def Yx (p q : Pr) : Pr × Pr × Bool := ({ q with path := (carryP q.path p.dst p.path).1 }, p, (carryP q.path p.dst p.path).2)
def Zx (p q : Pr) : Pr × Pr × Bool :=
 if Ys p = 1 ∧ Ys q = 1 then Yo p q
 else if Ys p = 1 ∧ Ys q = 2 then Yw p q
 else if Ys p = 2 ∧ Ys q = 1 then Yx p q
 else if Ys p = 1 ∨ Ys q = 1 then (q, p, decide (¬ p.path = q.path))
 else (q, p, Yg p q)
def Yz : Pr × Pr × Bool := (Yr, Yr, false)
def Zu (r : Pr × Pr × Bool) : Pr × Pr × Bool := if r.2.2 && Zw r.1 && Zw r.2.1 then r else Yz
def Zj (p q : Pr) : Pr × Pr × Bool := if Zw p && Zw q then Zu (Zx p q) else Yz
def Zk : Pr → List Pr → List Pr × Pr × Bool
 | p, [] => ([], p, true)
 | p, q :: l => if (Zj p q).2.2 then (match Zk (Zj p q).2.1 l with | (a, b, t) => if t then ((Zj p q).1 :: a, b, true) else ([], Yr, false)) else ([], Yr, false)
theorem checkC_yes {r : Pr × Pr × Bool} (h : (Zu r).2.2 = true) : Zu r = r ∧ r.2.2 = true ∧ Zw r.1 = true ∧ Zw r.2.1 = true := by
 unfold Zu at h ⊢
 split
 ·rename_i hc
  simp only [Bool.and_eq_true] at hc
  exact ⟨rfl, hc.1.1, hc.1.2, hc.2⟩
 ·rename_i hc
  rw [if_neg hc] at h
  simp [Yz] at h
theorem commP_yes {p q : Pr} (h : (Zj p q).2.2 = true) : Zw p = true ∧ Zw q = true ∧ Zj p q = Zx p q ∧ (Zx p q).2.2 = true ∧ Zw (Zx p q).1 = true ∧ Zw (Zx p q).2.1 = true := by
 unfold Zj at h ⊢
 split
 ·rename_i hc
  rw [if_pos hc] at h
  simp only [Bool.and_eq_true] at hc
  obtain ⟨h1, h2, h3, h4⟩ := checkC_yes h
  exact ⟨hc.1, hc.2, h1, h2, h3, h4⟩
 ·rename_i hc
  rw [if_neg hc] at h
  simp [Yz] at h
theorem apP_comm (a b : ByteArray) : apP a b = apP b a := Path.apart_comm _ _
theorem cls_cases {x : Pr} (h : Zw x = true) : (Ys x = 0 ∧ x.kind ≤ 6 ∧ 1 ≤ x.kind) ∨ (Ys x = 1 ∧ 7 ≤ x.kind ∧ x.kind ≤ 9) ∨ (Ys x = 2 ∧ x.kind = 10) := by
 unfold Zw at h
 simp only [Bool.and_eq_true, decide_eq_true_eq] at h
 obtain ⟨⟨⟨h1, h2⟩, _⟩, _⟩ := h
 unfold Ys
 (repeat' split) <;> omega
end Go.Proofs.YtbnfjjjdnbcehaaGreatDoor
namespace Go.Proofs.YtbnfjjjdnbcehaaGreatDoor
open Go.RowKit
set_option maxRecDepth 100000
theorem rule_11 {x y : Pr} (h : Ys x = 1) (k : Ys y = 1) : Zx x y = Yo x y := by unfold Zx; simp [h, k]
theorem rule_12 {x y : Pr} (h : Ys x = 1) (k : Ys y = 2) : Zx x y = Yw x y := by unfold Zx; simp [h, k]
theorem rule_21 {x y : Pr} (h : Ys x = 2) (k : Ys y = 1) : Zx x y = Yx x y := by unfold Zx; simp [h, k]
theorem rule_un {x y : Pr} (h : Ys x = 1 ∧ Ys y = 0 ∨ Ys x = 0 ∧ Ys y = 1) : Zx x y = (y, x, decide (¬ x.path = y.path)) := by unfold Zx; rcases h with ⟨h, k⟩ | ⟨h, k⟩ <;> simp [h, k]
theorem rule_ap {x y : Pr} (h : Ys x = 0 ∨ Ys x = 2) (k : Ys y = 0 ∨ Ys y = 2) : Zx x y = (y, x, Yg x y) := by unfold Zx; rcases h with h | h <;> rcases k with k | k <;> simp [h, k]
theorem past_no {p : Pr} {l : List Pr} (h : (Zk p l).2.2 = false) : Zk p l = ([], Yr, false) := by
 cases l with
 | nil => simp [Zk] at h
 | cons q l =>
  simp only [Zk] at h ⊢
  split
  ·rename_i hc
   rw [if_pos hc] at h
   split
   ·rename_i ht
    rw [if_pos ht] at h
    simp at h
   ·rfl
  ·rfl
theorem past_append : ∀ (a b : List Pr) (p : Pr), Zk p (a ++ b) = if (Zk p a).2.2 then (if (Zk (Zk p a).2.1 b).2.2 then ((Zk p a).1 ++ (Zk (Zk p a).2.1 b).1, (Zk (Zk p a).2.1 b).2.1, true) else ([], Yr, false)) else ([], Yr, false)
 | [], b, p => by
  show Zk p b = if true = true then (if (Zk p b).2.2 = true then ((Zk p b).1, (Zk p b).2.1, true) else ([], Yr, false)) else ([], Yr, false)
  rw [if_pos rfl]
  by_cases h : (Zk p b).2.2 = true
  ·rw [if_pos h, ← h]
  ·rw [if_neg h]
   exact past_no (by simpa using h)
 | q :: a, b, p => by
  simp only [List.cons_append, Zk]
  by_cases hc : (Zj p q).2.2 = true
  ·rw [if_pos hc, if_pos hc, past_append a b (Zj p q).2.1]
   by_cases ha : (Zk (Zj p q).2.1 a).2.2 = true
   ·rw [if_pos ha, if_pos ha]
    simp only [if_true]
    by_cases hb : (Zk (Zk (Zj p q).2.1 a).2.1 b).2.2 = true
    ·rw [if_pos hb, if_pos hb]
     rfl
    ·rw [if_neg hb, if_neg hb]
     rfl
   ·rw [if_neg ha, if_neg ha]
    rfl
  ·rw [if_neg hc, if_neg hc]
   rfl
end Go.Proofs.YtbnfjjjdnbcehaaGreatDoor
namespace Go.Proofs.YtbnfjjjdnbcehaaGreatDoor
open Go.RowKit
set_option maxRecDepth 100000
def Z1 : List Pr → List Pr → List Pr × List Pr × Bool
 | [], b => (b, [], true)
 | p :: a, b => if (Z1 a b).2.2 then (if (Zk p (Z1 a b).1).2.2 then ((Zk p (Z1 a b).1).1, (Zk p (Z1 a b).1).2.1 :: (Z1 a b).2.1, true) else ([], [], false)) else ([], [], false)
theorem swap_no {a b : List Pr} (h : (Z1 a b).2.2 = false) : Z1 a b = ([], [], false) := by
 cases a with
 | nil => cases h
 | cons p a =>
  simp only [Z1] at h ⊢
  split
  ·rename_i h1
   rw [if_pos h1] at h
   split
   ·rename_i h2
    rw [if_pos h2] at h
    cases h
   ·rfl
  ·rfl
theorem swap_append : ∀ (a b c : List Pr), Z1 (a ++ b) c = if (Z1 b c).2.2 then (if (Z1 a (Z1 b c).1).2.2 then ((Z1 a (Z1 b c).1).1, (Z1 a (Z1 b c).1).2.1 ++ (Z1 b c).2.1, true) else ([], [], false)) else ([], [], false)
 | [], b, c => by
  simp only [List.nil_append, Z1, if_true]
  split
  ·rename_i h
   rw [← h]
  ·rename_i h
   exact swap_no (by simpa using h)
 | p :: a, b, c => by
  simp only [List.cons_append, Z1, swap_append a b c]
  by_cases h1 : (Z1 b c).2.2 = true
  ·rw [if_pos h1]
   by_cases h2 : (Z1 a (Z1 b c).1).2.2 = true
   ·simp only [if_pos h1, if_pos h2, if_true]
    by_cases h3 : (Zk p (Z1 a (Z1 b c).1).1).2.2 = true
    ·simp only [if_pos h3, if_true, List.cons_append]
    ·simp only [if_neg h3, Bool.false_eq_true, if_false]
   ·simp only [if_neg h2, Bool.false_eq_true, if_false, if_pos h1]
  ·simp only [if_neg h1, Bool.false_eq_true, if_false]
def Yb (p q : Pr) : Bool := decide (p.kind = q.kind) && decide (p.path = q.path) && decide (p.dst = q.dst) && decide (p.src = q.src) && decide (p.pos = q.pos) && decide (p.old = q.old) && decide (p.new = q.new)
theorem alike_iff {p q : Pr} : Yb p q = true ↔ p = q := by
 obtain ⟨a, b, c, d, e, f, g⟩ := p
 obtain ⟨a', b', c', d', e', f', g'⟩ := q
 simp [Yb, and_assoc]
def Z0 (p q : Pr) : Option (List Pr) :=
 if !(Zw p && Zw q) then none
 else if Yb q (inv p) then some []
 else if ¬ p.kind = q.kind then none
 else if p.kind = 9 ∧ p.path = q.path ∧ p.dst = q.src then some [{ p with dst := q.dst }]
 else if p.kind = 7 ∧ p.path = q.path ∧ p.pos = q.pos ∧ p.new = q.old then some [{ p with new := q.new }]
 else if p.kind = 10 ∧ p.dst = q.path ∧ apP p.path q.dst = true then some [{ p with dst := q.dst }]
 else none
theorem join_len {p q : Pr} {l : List Pr} (h : Z0 p q = some l) : l.length ≤ 1 := by
 unfold Z0 at h
 repeat' split at h
 all_goals first | cases h; done | (cases h; simp)
theorem bytes0 {x : ByteArray} (h : x.data = #[]) : x = ⟨#[]⟩ := by
 cases x
 simp only at h
 rw [h]
def pushR : List Pr → Pr → List Pr
 | [], x => [x]
 | y :: st, x => match Z0 y x with
  | none => x :: y :: st
  | some [] => st
  | some (z :: _) => pushR st z
def coalR (st : List Pr) (l : List Pr) : List Pr := l.foldl pushR st
def coalP (l : List Pr) : List Pr := (coalR [] l).reverse
def Ya : List Pr → Prop
 | x :: y :: st => Z0 y x = none ∧ Ya (y :: st)
 | _ => True
theorem Ya.tail {x : Pr} {st : List Pr} (h : Ya (x :: st)) : Ya st := by
 cases st with
 | nil => trivial
 | cons y st => exact h.2
theorem push_settled : ∀ (st : List Pr) (x : Pr), Ya st → Ya (pushR st x)
 | [], x, _ => trivial
 | y :: st, x, h => by
  unfold pushR
  split
  ·rename_i hj
   exact ⟨hj, h⟩
  ·exact h.tail
  ·exact push_settled st _ h.tail
theorem coal_settled : ∀ (l st : List Pr), Ya st → Ya (coalR st l)
 | [], _, h => h
 | x :: l, st, h => coal_settled l (pushR st x) (push_settled st x h)
theorem push_of {y x : Pr} {st : List Pr} (h : Z0 y x = none) : pushR (y :: st) x = x :: y :: st := by
 unfold pushR
 rw [h]
theorem push_length : ∀ (st : List Pr) (x : Pr), (pushR st x).length ≤ st.length + 1
 | [], x => by simp [pushR]
 | y :: st, x => by
  unfold pushR
  split
  ·simp
  ·simp; omega
  ·rename_i z _ _
   have := push_length st z
   simp
   omega
theorem coal_length : ∀ (l st : List Pr), (coalR st l).length ≤ st.length + l.length
 | [], _ => by simp [coalR]
 | x :: l, st => by
  have h1 := coal_length l (pushR st x)
  have h2 := push_length st x
  simp only [coalR, List.foldl_cons, List.length_cons] at h1 ⊢
  omega
theorem coalR_append (st a b : List Pr) : coalR st (a ++ b) = coalR (coalR st a) b := List.foldl_append ..
end Go.Proofs.YtbnfjjjdnbcehaaGreatDoor
