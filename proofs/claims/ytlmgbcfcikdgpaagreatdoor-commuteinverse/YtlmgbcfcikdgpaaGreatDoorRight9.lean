/-
  What is proved here: which patches are right, as a function on patches; what undoes a right one is right, and what undoes that is it. No condition.
-/
import Derived.Test.YtlmgbcfcikdgpaaGreatDoorPrims
import Derived.Test.YtlmgbcfcikdgpaaGreatDoorPPlain
import Derived.Test.YtlmgbcfcikdgpaaGreatDoorLPlain
import Derived.Test.YtlmgbcfcikdgpaaGreatDoorKind9
namespace Go.Proofs.YtlmgbcfcikdgpaaGreatDoor
open Go.RowKit
set_option maxRecDepth 100000

def noLines (x : Pr) : Bool := decide (x.pos = 0) && decide (x.old.length = 0) && decide (x.new.length = 0)
def bareP (x : Pr) : Bool := decide (x.dst.data.toList = []) && decide (x.src.data.toList = []) && noLines x
def linesP (x : Pr) : Bool := decide (x.dst.data.toList = []) && decide (x.src.data.toList = []) && decide (0 ≤ x.pos) && decide (x.pos ≤ 1073741824) && Lines.right (Lines.bs x.old) && Lines.right (Lines.bs x.new) && decide (0 < x.old.length + x.new.length)
def tokenP (x : Pr) : Bool := noLines x && Lines.tok x.src.data.toList && Lines.tok x.dst.data.toList && decide (¬ x.src = x.dst)
def bytesP (x : Pr) : Bool := noLines x && decide (¬ x.src = x.dst)
def moveP (x : Pr) : Bool := noLines x && decide (x.src.data.toList = []) && Path.right x.dst.data.toList && Path.apart x.dst.data.toList x.path.data.toList

/-- Is a patch of that kind right, if its path is? -/
def ruleP (x : Pr) : Bool :=
  if x.kind ≤ 6 then bareP x else if x.kind = 7 then linesP x else if x.kind = 8 then tokenP x else if x.kind = 9 then bytesP x else moveP x

/-- May that be a patch? -/
def rightP (x : Pr) : Bool := decide (1 ≤ x.kind ∧ x.kind ≤ 10) && Path.right x.path.data.toList && ruleP x

theorem kinds10 {k : Int} (h : 1 ≤ k ∧ k ≤ 10) : k = 1 ∨ k = 2 ∨ k = 3 ∨ k = 4 ∨ k = 5 ∨ k = 6 ∨ k = 7 ∨ k = 8 ∨ k = 9 ∨ k = 10 := by omega

theorem inv_inv {x : Pr} (h : rightP x = true) : inv (inv x) = x := by
  obtain ⟨K, P, T, F, A, lO, lN⟩ := x
  unfold rightP at h
  simp only [Bool.and_eq_true, decide_eq_true_eq] at h
  rcases kinds10 h.1.1 with rfl | rfl | rfl | rfl | rfl | rfl | rfl | rfl | rfl | rfl <;> simp [inv]

theorem right_inv {x : Pr} (h : rightP x = true) : rightP (inv x) = true := by
  obtain ⟨K, P, T, F, A, lO, lN⟩ := x
  unfold rightP at h
  simp only [Bool.and_eq_true, decide_eq_true_eq] at h
  obtain ⟨⟨hk, hp⟩, hr⟩ := h
  rcases kinds10 hk with rfl | rfl | rfl | rfl | rfl | rfl | rfl | rfl | rfl | rfl
  case inr.inr.inr.inr.inr.inr.inl =>
    simp [ruleP, linesP] at hr
    simp [inv, rightP, ruleP, linesP, hp, hr]
    omega
  case inr.inr.inr.inr.inr.inr.inr.inl =>
    simp [ruleP, tokenP, noLines] at hr
    simp [inv, rightP, ruleP, tokenP, noLines, hp, hr]
    exact fun e => hr.2 e.symm
  case inr.inr.inr.inr.inr.inr.inr.inr.inl =>
    simp [ruleP, bytesP, noLines] at hr
    simp [inv, rightP, ruleP, bytesP, noLines, hp, hr]
    exact fun e => hr.2 e.symm
  case inr.inr.inr.inr.inr.inr.inr.inr.inr =>
    simp [ruleP, moveP, noLines] at hr
    have hc := hr.2
    rw [Path.apart_comm] at hc
    simp [inv, rightP, ruleP, moveP, noLines, hp, hr, hc]
  all_goals
    simp [ruleP, bareP, noLines] at hr
    simp [inv, rightP, ruleP, bareP, noLines, hp, hr]

end Go.Proofs.YtlmgbcfcikdgpaaGreatDoor
