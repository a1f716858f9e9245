/-
  What is proved here: the contracts that the statement stands on: Plain10, Laws10, Plain11, CommT8, CommM8, CommW8. Conditions: as each theorem names them.
-/
import Derived.Test.YtbnfjjjdnbcehaaGreatDoorQ8Strs9
import Derived.Test.YtbnfjjjdnbcehaaGreatDoorQ16PRRest
import Derived.Test.YtbnfjjjdnbcehaaGreatDoorQ9Plain8
namespace Go.Proofs.YtbnfjjjdnbcehaaGreatDoor
open Go.RowKit
set_option maxRecDepth 100000

/-- Classes of patches: 0 an addition, 1 a change, 2 a Move. -/
def clsP (x : Pr) : Nat := if x.kind ≤ 6 then 0 else if x.kind = 10 then 2 else 1

def apP (a b : ByteArray) : Bool := Path.apart a.data.toList b.data.toList
def wiP (a b : ByteArray) : Bool := Path.within a.data.toList b.data.toList
def moP (a b c : ByteArray) : ByteArray := ⟨(Path.moved a.data.toList b.data.toList c.data.toList).toArray⟩

/-- The paths that a patch has. -/
def placesP (x : Pr) : List ByteArray := if x.kind = 10 then [x.path, x.dst] else [x.path]

def apartP (p q : Pr) : Bool := (placesP p).all fun a => (placesP q).all fun b => apP a b

/-- Where a path is, once all within one is at another. -/
def carryP (a f t : ByteArray) : ByteArray × Bool := if wiP a f then (moP a f t, true) else (a, !wiP a t)

/-- Two Lines of one path. -/
def linesC (p q : Pr) : Pr × Pr × Bool :=
  if p.pos + p.new.length < q.pos then ({ q with pos := q.pos + (p.old.length - p.new.length) }, p, true)
  else if q.pos + q.old.length < p.pos then (q, { p with pos := p.pos + (q.new.length - q.old.length) }, true)
  else (q, p, false)

def changesC (p q : Pr) : Pr × Pr × Bool := if p.path = q.path then (if p.kind = 7 ∧ q.kind = 7 then linesC p q else (q, p, false)) else (q, p, true)

def changeMoveC (p q : Pr) : Pr × Pr × Bool := (q, { p with path := (carryP p.path q.path q.dst).1 }, (carryP p.path q.path q.dst).2)
def moveChangeC (p q : Pr) : Pr × Pr × Bool := ({ q with path := (carryP q.path p.dst p.path).1 }, p, (carryP q.path p.dst p.path).2)

/-- What two right patches are the other way about. -/
def ruleC (p q : Pr) : Pr × Pr × Bool :=
  if clsP p = 1 ∧ clsP q = 1 then changesC p q
  else if clsP p = 1 ∧ clsP q = 2 then changeMoveC p q
  else if clsP p = 2 ∧ clsP q = 1 then moveChangeC p q
  else if clsP p = 1 ∨ clsP q = 1 then (q, p, decide (¬ p.path = q.path))
  else (q, p, apartP p q)

def noneC : Pr × Pr × Bool := (zeroP, zeroP, false)

def checkC (r : Pr × Pr × Bool) : Pr × Pr × Bool := if r.2.2 && rightP r.1 && rightP r.2.1 then r else noneC

/-- What two patches are the other way about. -/
def commP (p q : Pr) : Pr × Pr × Bool := if rightP p && rightP q then checkC (ruleC p q) else noneC

/-- A patch, and several behind it, the other way about. -/
def pastP : Pr → List Pr → List Pr × Pr × Bool
  | p, [] => ([], p, true)
  | p, q :: l => if (commP p q).2.2 then (match pastP (commP p q).2.1 l with | (a, b, t) => if t then ((commP p q).1 :: a, b, true) else ([], zeroP, false)) else ([], zeroP, false)

end Go.Proofs.YtbnfjjjdnbcehaaGreatDoor

namespace Go.Proofs.YtbnfjjjdnbcehaaGreatDoor
open Go.RowKit
set_option maxRecDepth 100000

end Go.Proofs.YtbnfjjjdnbcehaaGreatDoor

namespace Go.Proofs.YtbnfjjjdnbcehaaGreatDoor
open Go.RowKit
set_option maxRecDepth 100000

/-- A row, and one behind it, the other way about. -/
def swapP : List Pr → List Pr → List Pr × List Pr × Bool
  | [], b => (b, [], true)
  | p :: a, b => if (swapP a b).2.2 then (if (pastP p (swapP a b).1).2.2 then ((pastP p (swapP a b).1).1, (pastP p (swapP a b).1).2.1 :: (swapP a b).2.1, true) else ([], [], false)) else ([], [], false)

/-- Are two patches the same? -/
def alikeP (p q : Pr) : Bool := decide (p.kind = q.kind) && decide (p.path = q.path) && decide (p.dst = q.dst) && decide (p.src = q.src) && decide (p.pos = q.pos) && decide (p.old = q.old) && decide (p.new = q.new)

/-- What two neighbours are, if they are one. -/
def joinP (p q : Pr) : Option (List Pr) :=
  if !(rightP p && rightP q) then none
  else if alikeP q (inv p) then some []
  else if ¬ p.kind = q.kind then none
  else if p.kind = 9 ∧ p.path = q.path ∧ p.dst = q.src then some [{ p with dst := q.dst }]
  else if p.kind = 7 ∧ p.path = q.path ∧ p.pos = q.pos ∧ p.new = q.old then some [{ p with new := q.new }]
  else if p.kind = 10 ∧ p.dst = q.path ∧ apP p.path q.dst = true then some [{ p with dst := q.dst }]
  else none

/-- A patch is put behind what there is (the last one first). -/
def pushR : List Pr → Pr → List Pr
  | [], x => [x]
  | y :: st, x => match joinP y x with
    | none => x :: y :: st
    | some [] => st
    | some (z :: _) => pushR st z

/-- No two neighbours are one. -/
def Settled : List Pr → Prop
  | x :: y :: st => joinP y x = none ∧ Settled (y :: st)
  | _ => True

theorem Settled.tail {x : Pr} {st : List Pr} (h : Settled (x :: st)) : Settled st := by
  cases st with
  | nil => trivial
  | cons y st => exact h.2

theorem push_of {y x : Pr} {st : List Pr} (h : joinP y x = none) : pushR (y :: st) x = x :: y :: st := by
  unfold pushR
  rw [h]

end Go.Proofs.YtbnfjjjdnbcehaaGreatDoor

namespace Go.Proofs.YtbnfjjjdnbcehaaGreatDoor
open Go.RowKit
set_option maxRecDepth 100000

/-! ## Changes -/

end Go.Proofs.YtbnfjjjdnbcehaaGreatDoor

namespace Go.Proofs.YtbnfjjjdnbcehaaGreatDoor
open Go.RowKit
set_option maxRecDepth 100000

end Go.Proofs.YtbnfjjjdnbcehaaGreatDoor

namespace Go.Proofs.YtbnfjjjdnbcehaaGreatDoor
open Go.RowKit
set_option maxRecDepth 100000

end Go.Proofs.YtbnfjjjdnbcehaaGreatDoor
