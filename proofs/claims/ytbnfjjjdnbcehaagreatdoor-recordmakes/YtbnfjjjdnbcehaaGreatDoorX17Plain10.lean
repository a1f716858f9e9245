/- What is proved here: contracts for RecordMakes. Conditions: as named. -/
import Derived.Test.YtbnfjjjdnbcehaaGreatDoorX8Strs9
import Derived.Test.YtbnfjjjdnbcehaaGreatDoorX16PRRest
import Derived.Test.YtbnfjjjdnbcehaaGreatDoorX9Plain8
set_option maxHeartbeats 16000000
namespace Go.Proofs.YtbnfjjjdnbcehaaGreatDoor
open Go.RowKit
set_option maxRecDepth 100000
def clsP (x : Pr) : Nat := if x.kind ≤ 6 then 0 else if x.kind = 10 then 2 else 1
def apP (a b : ByteArray) : Bool := Path.apart a.data.toList b.data.toList
def wiP (a b : ByteArray) : Bool := Path.within a.data.toList b.data.toList
def moP (a b c : ByteArray) : ByteArray := ⟨(Path.moved a.data.toList b.data.toList c.data.toList).toArray⟩
def placesP (x : Pr) : List ByteArray := if x.kind = 10 then [x.path, x.dst] else [x.path]
def apartP (p q : Pr) : Bool := (placesP p).all fun a => (placesP q).all fun b => apP a b
def carryP (a f t : ByteArray) : ByteArray × Bool := if wiP a f then (moP a f t, true) else (a, !wiP a t)
def linesC (p q : Pr) : Pr × Pr × Bool :=
 if p.pos + p.new.length < q.pos then ({ q with pos := q.pos + (p.old.length - p.new.length) }, p, true)
 else if q.pos + q.old.length < p.pos then (q, { p with pos := p.pos + (q.new.length - q.old.length) }, true)
 else (q, p, false)
def changesC (p q : Pr) : Pr × Pr × Bool := if p.path = q.path then (if p.kind = 7 ∧ q.kind = 7 then linesC p q else (q, p, false)) else (q, p, true)
def changeMoveC (p q : Pr) : Pr × Pr × Bool := (q, { p with path := (carryP p.path q.path q.dst).1 }, (carryP p.path q.path q.dst).2)
def moveChangeC (p q : Pr) : Pr × Pr × Bool := ({ q with path := (carryP q.path p.dst p.path).1 }, p, (carryP q.path p.dst p.path).2)
def ruleC (p q : Pr) : Pr × Pr × Bool :=
 if clsP p = 1 ∧ clsP q = 1 then changesC p q
 else if clsP p = 1 ∧ clsP q = 2 then changeMoveC p q
 else if clsP p = 2 ∧ clsP q = 1 then moveChangeC p q
 else if clsP p = 1 ∨ clsP q = 1 then (q, p, decide (¬ p.path = q.path))
 else (q, p, apartP p q)
def noneC : Pr × Pr × Bool := (zeroP, zeroP, false)
def checkC (r : Pr × Pr × Bool) : Pr × Pr × Bool := if r.2.2 && Zv r.1 && Zv r.2.1 then r else noneC
def commP (p q : Pr) : Pr × Pr × Bool := if Zv p && Zv q then checkC (ruleC p q) else noneC
def pastP : Pr → List Pr → List Pr × Pr × Bool
 | p, [] => ([], p, true)
 | p, q :: l => if (commP p q).2.2 then (match pastP (commP p q).2.1 l with | (a, b, t) => if t then ((commP p q).1 :: a, b, true) else ([], zeroP, false)) else ([], zeroP, false)
def swapP : List Pr → List Pr → List Pr × List Pr × Bool
 | [], b => (b, [], true)
 | p :: a, b => if (swapP a b).2.2 then (if (pastP p (swapP a b).1).2.2 then ((pastP p (swapP a b).1).1, (pastP p (swapP a b).1).2.1 :: (swapP a b).2.1, true) else ([], [], false)) else ([], [], false)
def alikeP (p q : Pr) : Bool := decide (p.kind = q.kind) && decide (p.path = q.path) && decide (p.dst = q.dst) && decide (p.src = q.src) && decide (p.pos = q.pos) && decide (p.old = q.old) && decide (p.new = q.new)
theorem alike_iff {p q : Pr} : alikeP p q = true ↔ p = q := by
 obtain ⟨a, b, c, d, e, f, g⟩ := p
 obtain ⟨a', b', c', d', e', f', g'⟩ := q
 simp [alikeP, and_assoc]
def Z3 (p q : Pr) : Option (List Pr) :=
 if !(Zv p && Zv q) then none
 else if alikeP q (inv p) then some []
 else if ¬ p.kind = q.kind then none
 else if p.kind = 9 ∧ p.path = q.path ∧ p.dst = q.src then some [{ p with dst := q.dst }]
 else if p.kind = 7 ∧ p.path = q.path ∧ p.pos = q.pos ∧ p.new = q.old then some [{ p with new := q.new }]
 else if p.kind = 10 ∧ p.dst = q.path ∧ apP p.path q.dst = true then some [{ p with dst := q.dst }]
 else none
theorem join_len {p q : Pr} {l : List Pr} (h : Z3 p q = some l) : l.length ≤ 1 := by
 unfold Z3 at h
 repeat' split at h
 all_goals first | cases h; done | (cases h; simp)
theorem bytes0 {x : ByteArray} (h : x.data = #[]) : x = ⟨#[]⟩ := by
 cases x
 simp only at h
 rw [h]
theorem join_right {p q z : Pr} {l : List Pr} (h : Z3 p q = some (z :: l)) : Zv z = true := by
 unfold Z3 at h
 split at h
 ·cases h
 rename_i h0
 simp only [Bool.not_eq_true, Bool.not_eq_false', Bool.and_eq_true] at h0
 obtain ⟨hp, hq⟩ := h0
 split at h
 ·cases h
 rename_i h1
 have h1' : ¬ q = inv p := fun e => h1 (alike_iff.2 e)
 split at h
 ·cases h
 rename_i h2
 obtain ⟨K, P, T, F, A, O, N⟩ := p
 obtain ⟨K', P', T', F', A', O', N'⟩ := q
 simp only at h h2
 have h2' : K = K' := by simpa using h2
 subst h2'
 split at h
 ·rename_i h3
  obtain ⟨rfl, rfl, rfl⟩ := h3
  cases h
  simp [Zv, Yn, bytesP, Zc] at hp hq ⊢
  refine ⟨hp.1, ⟨hp.2.1, fun e => h1' ?_⟩⟩
  subst e
  simp [inv, hp, hq]
 ·split at h
  ·rename_i h3
   obtain ⟨rfl, rfl, rfl, rfl⟩ := h3
   cases h
   simp [Zv, Yn, linesP] at hp hq ⊢
   refine ⟨hp.1, ⟨⟨⟨hp.2.1.1.1, hp.2.1.1.2⟩, hq.2.1.2⟩, ?_⟩⟩
   rcases Nat.eq_zero_or_pos (O.length + N'.length) with e | e
   ·exfalso
    apply h1'
    have e1 : O = [] := List.length_eq_zero_iff.1 (by omega)
    have e2 : N' = [] := List.length_eq_zero_iff.1 (by omega)
    have e3 : T = T' := (bytes0 hp.2.1.1.1.1.1.1).trans (bytes0 hq.2.1.1.1.1.1.1).symm
    have e4 : F = F' := (bytes0 hp.2.1.1.1.1.1.2).trans (bytes0 hq.2.1.1.1.1.1.2).symm
    subst e1 e2 e3 e4
    simp [inv]
   ·exact e
  ·split at h
   ·rename_i h3
    obtain ⟨rfl, rfl, h5⟩ := h3
    cases h
    simp [Zv, Yn, moveP, Zc] at hp hq ⊢
    exact ⟨hp.1, ⟨hp.2.1.1, hq.2.1.2⟩, by rw [Path.apart_comm]; exact h5⟩
   ·cases h
def pushR : List Pr → Pr → List Pr
 | [], x => [x]
 | y :: st, x => match Z3 y x with
  | none => x :: y :: st
  | some [] => st
  | some (z :: _) => pushR st z
def coalR (st : List Pr) (l : List Pr) : List Pr := l.foldl pushR st
def coalP (l : List Pr) : List Pr := (coalR [] l).reverse
def Settled : List Pr → Prop
 | x :: y :: st => Z3 y x = none ∧ Settled (y :: st)
 | _ => True
theorem Settled.tail {x : Pr} {st : List Pr} (h : Settled (x :: st)) : Settled st := by
 cases st with
 | nil => trivial
 | cons y st => exact h.2
theorem push_settled : ∀ (st : List Pr) (x : Pr), Settled st → Settled (pushR st x)
 | [], x, _ => trivial
 | y :: st, x, h => by
  unfold pushR
  split
  ·rename_i hj
   exact ⟨hj, h⟩
  ·exact h.tail
  ·exact push_settled st _ h.tail
theorem coal_settled : ∀ (l st : List Pr), Settled st → Settled (coalR st l)
 | [], _, h => h
 | x :: l, st, h => coal_settled l (pushR st x) (push_settled st x h)
theorem push_of {y x : Pr} {st : List Pr} (h : Z3 y x = none) : pushR (y :: st) x = x :: y :: st := by
 unfold pushR
 rw [h]
theorem push_length : ∀ (st : List Pr) (x : Pr), (pushR st x).length ≤ st.length + 1
 | [], x => by simp [pushR]
 | y :: st, x => by
  unfold pushR
  split
  ·simp
  ·simp; omega
  ·rename_i z _ _
   have := push_length st z
   simp
   omega
theorem coal_length : ∀ (l st : List Pr), (coalR st l).length ≤ st.length + l.length
 | [], _ => by simp [coalR]
 | x :: l, st => by
  have h1 := coal_length l (pushR st x)
  have h2 := push_length st x
  simp only [coalR, List.foldl_cons, List.length_cons] at h1 ⊢
  omega
theorem coalR_append (st a b : List Pr) : coalR st (a ++ b) = coalR (coalR st a) b := List.foldl_append ..
theorem apart_no {P A : List UInt8} (h : Path.apart P A = true) : Path.within P A = false ∧ Path.within A P = false := by
 unfold Path.apart at h
 simp only [Bool.and_eq_true, Bool.not_eq_true'] at h
 exact h
theorem parent_in {P s : List UInt8} (h : Path.parent P = some s) : Path.within P s = true := by
 obtain ⟨b, e, _⟩ := Path.parent_some h
 rw [e]; exact Path.within_join _ _
theorem chg_not {p : Pr} (k : p.kind = 7 ∨ p.kind = 8 ∨ p.kind = 9) : ¬ (p.kind = 1 ∨ p.kind = 3 ∨ p.kind = 5) ∧ ¬ (p.kind = 2 ∨ p.kind = 4 ∨ p.kind = 6) ∧ ¬ p.kind = 10 := by omega
theorem ok_chg {p : Pr} {f : Fm} (k : p.kind = 7 ∨ p.kind = 8 ∨ p.kind = 9) : okF p f ↔ ∃ x y, f (bl p.path) = some x ∧ x.kind = (if p.kind = 9 then 3 else 2) ∧ Zb x p = some y := by
 obtain ⟨h1, h2, h3⟩ := chg_not k
 unfold okF
 rw [if_neg h1, if_neg h2, if_neg h3]
theorem eff_chg {p : Pr} {f : Fm} (k : p.kind = 7 ∨ p.kind = 8 ∨ p.kind = 9) (s : List UInt8) : effF p f s = if s = bl p.path then (f s).bind (fun x => Zb x p) else f s := by
 obtain ⟨h1, h2, h3⟩ := chg_not k
 unfold effF
 rw [if_neg h1, if_neg h2, if_neg h3]
theorem mov_not {p : Pr} (k : p.kind = 10) : ¬ (p.kind = 1 ∨ p.kind = 3 ∨ p.kind = 5) ∧ ¬ (p.kind = 2 ∨ p.kind = 4 ∨ p.kind = 6) := by omega
theorem ok_mov {p : Pr} {f : Fm} (k : p.kind = 10) : okF p f ↔ f (bl p.path) ≠ none ∧ (f (bl p.dst) = none ∧ ∀ q, Path.parent (bl p.dst) = some q → ∃ d, f q = some d ∧ d.kind = 1) ∧ ∀ s, Path.within s (bl p.path) = true → f s ≠ none → Path.right (Path.moved s (bl p.path) (bl p.dst)) = true := by
 unfold okF
 rw [if_neg (mov_not k).1, if_neg (mov_not k).2, if_pos k]
theorem eff_mov {p : Pr} {f : Fm} (k : p.kind = 10) (s : List UInt8) : effF p f s = if Path.within s (bl p.dst) then (f (backM (bl p.path) (bl p.dst) s)).map (mvE (bl p.path) (bl p.dst)) else if Path.within s (bl p.path) then none else f s := by
 unfold effF
 rw [if_neg (mov_not k).1, if_neg (mov_not k).2, if_pos k]
end Go.Proofs.YtbnfjjjdnbcehaaGreatDoor
