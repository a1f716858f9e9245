/-
  What is proved here: the contracts that the statement stands on: FPlain, FBase, FVals, FPut, FRange, FBack. Conditions: as each theorem names them.
-/
import Derived.KernelRfl
import Derived.WalkKit
import Derived.WalkSpells
import Derived.Deep.OwnRows
import Derived.Deep.QuietTactic
import Derived.BigQuiet
import Derived.StillTailTactics
import Derived.Laws.Rows
import Derived.Test.YtpfkkpghgmmijaaGreatDoorProg
import Derived.Maps.AppendAt
import Derived.Laws.AppendOwnNone
import Derived.OwnWalk
import Derived.Deep.AppendLies
import Derived.Laws.FloatArith
import Derived.RangeFuncNested
import Derived.RangeFuncBound
import Derived.RangeFuncCalls
import Derived.RangeFuncLeaves
import Derived.Shelf.Abstract
import Derived.Shelf.RegionOpen
import Derived.OwnWalkIn
import Derived.TacticsInMore
import Derived.LoopNIn
import Derived.LoopIn
namespace Go.Proofs.YtpfkkpghgmmijaaGreatDoor.Diff

section
variable {α : Type} [DecidableEq α]
set_option linter.unusedSectionVars false

/-- How many can be kept of both, in order. -/
def lcs : List α → List α → Nat
  | [], _ => 0
  | _ :: _, [] => 0
  | x :: a, y :: b => if x = y then lcs a b + 1 else max (lcs a (y :: b)) (lcs (x :: a) b)
termination_by a b => a.length + b.length

theorem lcs_nil (b : List α) : lcs ([] : List α) b = 0 := by rw [lcs]
theorem lcs_nil' (a : List α) : lcs a ([] : List α) = 0 := by cases a <;> rw [lcs]
theorem lcs_same (x : α) (a b : List α) : lcs (x :: a) (x :: b) = lcs a b + 1 := by rw [lcs, if_pos rfl]
theorem lcs_ne {x y : α} (h : ¬ x = y) (a b : List α) : lcs (x :: a) (y :: b) = max (lcs a (y :: b)) (lcs (x :: a) b) := by rw [lcs, if_neg h]

theorem lcs_has (a b : List α) : ∃ l : List α, l.Sublist a ∧ l.Sublist b ∧ l.length = lcs a b := by
  induction a, b using lcs.induct with
  | case1 b => exact ⟨[], List.nil_sublist _, List.nil_sublist _, by rw [lcs_nil]; rfl⟩
  | case2 x a => exact ⟨[], List.nil_sublist _, List.nil_sublist _, by rw [lcs_nil']; rfl⟩
  | case3 a x b ih =>
    obtain ⟨l, h1, h2, h3⟩ := ih
    exact ⟨x :: l, h1.cons_cons x, h2.cons_cons x, by rw [lcs_same, List.length_cons, h3]⟩
  | case4 x a y b h ih1 ih2 =>
    rw [lcs_ne h]
    obtain ⟨l, h1, h2, h3⟩ := ih1
    obtain ⟨m, k1, k2, k3⟩ := ih2
    rcases Nat.le_total (lcs a (y :: b)) (lcs (x :: a) b) with hle | hle
    · rw [Nat.max_eq_right hle]; exact ⟨m, k1, k2.cons y, k3⟩
    · rw [Nat.max_eq_left hle]; exact ⟨l, h1.cons x, h2, h3⟩

theorem tail_sub {l a : List α} {x : α} (h : l.Sublist (x :: a)) : l.tail.Sublist a := by
  cases h with
  | cons _ h => exact (List.tail_sublist l).trans h
  | cons_cons _ h => exact h

theorem lcs_max (a b : List α) : ∀ l : List α, l.Sublist a → l.Sublist b → l.length ≤ lcs a b := by
  induction a, b using lcs.induct with
  | case1 b => intro l h _; rw [List.sublist_nil.1 h]; exact Nat.zero_le _
  | case2 x a => intro l _ h; rw [List.sublist_nil.1 h]; exact Nat.zero_le _
  | case3 a x b ih =>
    intro l h k
    rw [lcs_same]
    have := ih l.tail (tail_sub h) (tail_sub k)
    rw [List.length_tail] at this
    omega
  | case4 x a y b hne ih1 ih2 =>
    intro l h k
    rw [lcs_ne hne]
    cases h with
    | cons _ h => exact Nat.le_trans (ih1 l h k) (Nat.le_max_left _ _)
    | @cons_cons l' _ _ h =>
      refine Nat.le_trans (ih2 _ (h.cons_cons x) ?_) (Nat.le_max_right _ _)
      cases k with
      | cons _ k => exact k
      | cons_cons _ k => exact absurd rfl hne

theorem lcs_mono {a a' b b' : List α} (ha : a.Sublist a') (hb : b.Sublist b') : lcs a b ≤ lcs a' b' := by
  obtain ⟨l, h1, h2, h3⟩ := lcs_has a b
  rw [← h3]
  exact lcs_max _ _ l (h1.trans ha) (h2.trans hb)

theorem lcs_symm (a b : List α) : lcs a b = lcs b a := by
  apply Nat.le_antisymm
  · obtain ⟨l, h1, h2, h3⟩ := lcs_has a b; rw [← h3]; exact lcs_max _ _ l h2 h1
  · obtain ⟨l, h1, h2, h3⟩ := lcs_has b a; rw [← h3]; exact lcs_max _ _ l h2 h1

theorem lcs_le (a b : List α) : lcs a b ≤ a.length ∧ lcs a b ≤ b.length := by
  obtain ⟨l, h1, h2, h3⟩ := lcs_has a b
  rw [← h3]; exact ⟨h1.length_le, h2.length_le⟩

/-- One more on the left: at most one more can be kept. -/
theorem lcs_one (p s b : List α) (x : α) : lcs (p ++ x :: s) b ≤ lcs (p ++ s) b + 1 := by
  obtain ⟨l, h1, h2, h3⟩ := lcs_has (p ++ x :: s) b
  rw [← h3]
  obtain ⟨l1, l2, rfl, k1, k2⟩ := List.sublist_append_iff.1 h1
  have k3 := tail_sub k2
  have k4 : (l1 ++ l2.tail).Sublist b := ((List.Sublist.refl l1).append (List.tail_sublist l2)).trans h2
  have := lcs_max (p ++ s) b _ (k1.append k3) k4
  rw [List.length_append, List.length_tail] at this
  rw [List.length_append]
  omega

theorem lcs_some (p o s b : List α) : lcs (p ++ o ++ s) b ≤ lcs (p ++ s) b + o.length := by
  induction o generalizing p with
  | nil => simp
  | cons x o ih =>
    have h1 := lcs_one p (o ++ s) b x
    have h2 := ih p
    simp only [List.append_assoc, List.cons_append, List.length_cons] at *
    omega

theorem lcs_cons_le (x : α) (a b : List α) : lcs a b ≤ lcs (x :: a) b ∧ lcs (x :: a) b ≤ lcs a b + 1 :=
  ⟨lcs_mono (List.sublist_cons_self x a) (List.Sublist.refl b), lcs_one [] a b x⟩
theorem lcs_cons_le' (y : α) (a b : List α) : lcs a b ≤ lcs a (y :: b) ∧ lcs a (y :: b) ≤ lcs a b + 1 := by
  rw [lcs_symm a b, lcs_symm a (y :: b)]; exact lcs_cons_le y b a

/-- As the document's table reckons it. -/
theorem lcs_table (x y : α) (a b : List α) : lcs (x :: a) (y :: b) = if x = y then max (max (lcs a (y :: b)) (lcs (x :: a) b)) (lcs a b + 1) else max (lcs a (y :: b)) (lcs (x :: a) b) := by
  split
  · rename_i h
    subst h
    have h1 := (lcs_cons_le' x a b).2
    have h2 := (lcs_cons_le x a b).2
    rw [lcs_same]
    omega
  · rename_i h; exact lcs_ne h a b

theorem lcs_pre (p a b : List α) : lcs (p ++ a) (p ++ b) = p.length + lcs a b := by
  induction p with
  | nil => simp
  | cons x p ih => rw [List.cons_append, List.cons_append, lcs_same, ih, List.length_cons]; omega

theorem lcs_rev (a b : List α) : lcs a.reverse b.reverse = lcs a b := by
  apply Nat.le_antisymm
  · obtain ⟨l, h1, h2, h3⟩ := lcs_has a.reverse b.reverse
    rw [← h3, ← List.length_reverse]
    have k1 := h1.reverse
    have k2 := h2.reverse
    rw [List.reverse_reverse] at k1 k2
    exact lcs_max _ _ _ k1 k2
  · obtain ⟨l, h1, h2, h3⟩ := lcs_has a b
    rw [← h3, ← List.length_reverse]
    exact lcs_max _ _ _ h1.reverse h2.reverse

theorem lcs_behind (s a b : List α) : lcs (a ++ s) (b ++ s) = lcs a b + s.length := by
  rw [← lcs_rev, List.reverse_append, List.reverse_append, lcs_pre, lcs_rev, List.length_reverse]; omega

theorem lcs_around (p s a b : List α) : lcs (p ++ a ++ s) (p ++ b ++ s) = p.length + lcs a b + s.length := by
  rw [lcs_behind, lcs_pre]

/-- A hunk: where, what goes, what comes. -/
structure Hk (α : Type) where
  at' : Nat
  o : List α
  n : List α
  deriving DecidableEq

def flush (at' : Nat) (o n : List α) (r : List (Hk α)) : List (Hk α) := if o = [] ∧ n = [] then r else ⟨at', o, n⟩ :: r

/-- The document's hunks of a and b, where o and n have gone and come since the last line that stays. -/
def hunks (at' : Nat) (o n : List α) : List α → List α → List (Hk α)
  | [], [] => flush at' o n []
  | x :: a, [] => hunks at' (o ++ [x]) n a []
  | [], y :: b => hunks at' o (n ++ [y]) [] b
  | x :: a, y :: b =>
    if x = y then flush at' o n (hunks (at' + n.length + 1) [] [] a b)
    else if lcs (x :: a) b ≤ lcs a (y :: b) then hunks at' (o ++ [x]) n a (y :: b) else hunks at' o (n ++ [y]) (x :: a) b
termination_by a b => a.length + b.length

def diffs (a b : List α) : List (Hk α) := hunks 0 [] [] a b

theorem hunks_nn (k : Nat) (o n : List α) : hunks k o n [] [] = flush k o n [] := by rw [hunks]
theorem hunks_cn (k : Nat) (o n : List α) (x : α) (a : List α) : hunks k o n (x :: a) [] = hunks k (o ++ [x]) n a [] := by rw [hunks]
theorem hunks_nc (k : Nat) (o n : List α) (y : α) (b : List α) : hunks k o n [] (y :: b) = hunks k o (n ++ [y]) [] b := by rw [hunks]
theorem hunks_same (k : Nat) (o n : List α) (x : α) (a b : List α) : hunks k o n (x :: a) (x :: b) = flush k o n (hunks (k + n.length + 1) [] [] a b) := by rw [hunks, if_pos rfl]
theorem hunks_goes (k : Nat) (o n : List α) {x y : α} (a b : List α) (h : ¬ x = y) (hg : lcs (x :: a) b ≤ lcs a (y :: b)) : hunks k o n (x :: a) (y :: b) = hunks k (o ++ [x]) n a (y :: b) := by rw [hunks, if_neg h, if_pos hg]
theorem hunks_comes (k : Nat) (o n : List α) {x y : α} (a b : List α) (h : ¬ x = y) (hg : ¬ lcs (x :: a) b ≤ lcs a (y :: b)) : hunks k o n (x :: a) (y :: b) = hunks k o (n ++ [y]) (x :: a) b := by rw [hunks, if_neg h, if_neg hg]

theorem hunks_pre (p : List α) : ∀ (k : Nat) (a b : List α), hunks k [] [] (p ++ a) (p ++ b) = hunks (k + p.length) [] [] a b := by
  induction p with
  | nil => intro k a b; rfl
  | cons x p ih =>
    intro k a b
    rw [List.cons_append, List.cons_append, hunks_same]
    show hunks (k + 0 + 1) [] [] (p ++ a) (p ++ b) = _
    rw [ih, List.length_cons]
    congr 1
    omega

/-- What a hunk makes of lines. -/
def apply1 (l : List α) (h : Hk α) : Option (List α) := if h.at' ≤ l.length ∧ (l.drop h.at').take h.o.length = h.o then some (l.take h.at' ++ h.n ++ l.drop (h.at' + h.o.length)) else none

def applyAll : List α → List (Hk α) → Option (List α)
  | l, [] => some l
  | l, h :: r => match apply1 l h with
    | some l' => applyAll l' r
    | none => none

def cost (l : List (Hk α)) : Nat := (l.map (fun h => h.o.length + h.n.length)).sum

theorem cost_cons (h : Hk α) (l : List (Hk α)) : cost (h :: l) = h.o.length + h.n.length + cost l := by simp [cost]

theorem apply1_mk (p o n s : List α) : apply1 (p ++ o ++ s) ⟨p.length, o, n⟩ = some (p ++ n ++ s) := by
  unfold apply1
  have h1 : (p ++ o ++ s).drop p.length = o ++ s := by rw [List.append_assoc, List.drop_left]
  rw [if_pos ⟨by simp, by show ((p ++ o ++ s).drop p.length).take o.length = o; rw [h1, List.take_left]⟩]
  have h2 : (p ++ o ++ s).drop (p.length + o.length) = s := by rw [← List.drop_drop, h1, List.drop_left]
  have h3 : (p ++ o ++ s).take p.length = p := by rw [List.append_assoc, List.take_left]
  show some ((p ++ o ++ s).take p.length ++ n ++ (p ++ o ++ s).drop (p.length + o.length)) = _
  rw [h2, h3]

theorem apply1_some {l l' : List α} {h : Hk α} (e : apply1 l h = some l') : ∃ p s, l = p ++ h.o ++ s ∧ p.length = h.at' ∧ l' = p ++ h.n ++ s := by
  unfold apply1 at e
  split at e
  · rename_i hc
    cases e
    refine ⟨l.take h.at', l.drop (h.at' + h.o.length), ?_, by rw [List.length_take]; omega, rfl⟩
    conv => lhs; rw [← List.take_append_drop h.at' l, ← List.take_append_drop h.o.length (l.drop h.at'), hc.2, List.drop_drop]
    rw [List.append_assoc]
  · cases e

theorem applyAll_flush (p o n s : List α) (r : List (Hk α)) : applyAll (p ++ o ++ s) (flush p.length o n r) = applyAll (p ++ n ++ s) r := by
  unfold flush
  split
  · rename_i h; rw [h.1, h.2]
  · rw [applyAll, apply1_mk]

/-- Done one behind the other they make b of a. -/
theorem hunks_make : ∀ (p o n a b : List α), applyAll (p ++ o ++ a) (hunks p.length o n a b) = some (p ++ n ++ b) := by
  intro p o n a b
  induction h : a.length + b.length using Nat.strongRecOn generalizing p o n a b with
  | ind m ih =>
    subst h
    match a, b with
    | [], [] => rw [hunks_nn, applyAll_flush]; rfl
    | x :: a, [] =>
      rw [hunks_cn, show p ++ o ++ x :: a = p ++ (o ++ [x]) ++ a by simp]
      exact ih _ (by simp) p (o ++ [x]) n a [] rfl
    | [], y :: b =>
      rw [hunks_nc, show p ++ n ++ y :: b = p ++ (n ++ [y]) ++ b by simp]
      exact ih _ (by simp) p o (n ++ [y]) [] b rfl
    | x :: a, y :: b =>
      by_cases hxy : x = y
      · subst hxy
        rw [hunks_same, applyAll_flush]
        have := ih _ (by simp; omega) (p ++ n ++ [x]) [] [] a b rfl
        rw [show (p ++ n ++ [x]).length = p.length + n.length + 1 by simp; omega] at this
        simpa using this
      · by_cases hg : lcs (x :: a) b ≤ lcs a (y :: b)
        · rw [hunks_goes _ _ _ _ _ hxy hg, show p ++ o ++ x :: a = p ++ (o ++ [x]) ++ a by simp]
          exact ih _ (by simp) p (o ++ [x]) n a (y :: b) rfl
        · rw [hunks_comes _ _ _ _ _ hxy hg, show p ++ n ++ y :: b = p ++ (n ++ [y]) ++ b by simp]
          exact ih _ (by simp) p o (n ++ [y]) (x :: a) b rfl

theorem diffs_make (a b : List α) : applyAll a (diffs a b) = some b := hunks_make [] [] [] a b

/-- None is empty, and between two a line stays. -/
def Spread : Int → List (Hk α) → Prop
  | _, [] => True
  | last, h :: r => 0 < h.o.length + h.n.length ∧ last < h.at' ∧ Spread (h.at' + h.n.length : Nat) r

theorem spread_mono {l l' : Int} {r : List (Hk α)} (h : Spread l r) (hl : l' ≤ l) : Spread l' r := by
  cases r with
  | nil => trivial
  | cons x r => exact ⟨h.1, by have := h.2.1; omega, h.2.2⟩

theorem spread_flush {k : Nat} {o n : List α} {r : List (Hk α)} {last : Int} (hk : last < k) (h : Spread (k + n.length : Nat) r) : Spread last (flush k o n r) := by
  unfold flush
  split
  · exact spread_mono h (by omega)
  · rename_i hc
    refine ⟨?_, hk, h⟩
    show 0 < o.length + n.length
    cases o with
    | nil => cases n with
      | nil => exact absurd ⟨rfl, rfl⟩ hc
      | cons => simp
    | cons => simp; omega

theorem hunks_spread : ∀ (k : Nat) (o n a b : List α) (last : Int), last < k → Spread last (hunks k o n a b) := by
  intro k o n a b
  induction h : a.length + b.length using Nat.strongRecOn generalizing k o n a b with
  | ind m ih =>
    subst h
    intro last hl
    match a, b with
    | [], [] => rw [hunks_nn]; exact spread_flush hl trivial
    | x :: a, [] => rw [hunks_cn]; exact ih _ (by simp) k (o ++ [x]) n a [] rfl last hl
    | [], y :: b => rw [hunks_nc]; exact ih _ (by simp) k o (n ++ [y]) [] b rfl last hl
    | x :: a, y :: b =>
      by_cases hxy : x = y
      · subst hxy
        rw [hunks_same]
        exact spread_flush hl (ih _ (by simp; omega) _ [] [] a b rfl _ (by omega))
      · by_cases hg : lcs (x :: a) b ≤ lcs a (y :: b)
        · rw [hunks_goes _ _ _ _ _ hxy hg]; exact ih _ (by simp) k (o ++ [x]) n a (y :: b) rfl last hl
        · rw [hunks_comes _ _ _ _ _ hxy hg]; exact ih _ (by simp) k o (n ++ [y]) (x :: a) b rfl last hl

theorem diffs_spread (a b : List α) : Spread (-1) (diffs a b) := hunks_spread 0 [] [] a b (-1) (by decide)

theorem cost_flush (k : Nat) (o n : List α) (r : List (Hk α)) : cost (flush k o n r) = o.length + n.length + cost r := by
  unfold flush
  split
  · rename_i h; rw [h.1, h.2]; simp
  · rw [cost_cons]

theorem hunks_cost : ∀ (k : Nat) (o n a b : List α), cost (hunks k o n a b) + 2 * lcs a b = o.length + n.length + a.length + b.length := by
  intro k o n a b
  induction h : a.length + b.length using Nat.strongRecOn generalizing k o n a b with
  | ind m ih =>
    subst h
    match a, b with
    | [], [] => rw [hunks_nn, cost_flush, lcs_nil]; simp [cost]
    | x :: a, [] =>
      have := ih _ (by simp) k (o ++ [x]) n a [] rfl
      rw [hunks_cn]; rw [lcs_nil'] at this ⊢; simp at this ⊢; omega
    | [], y :: b =>
      have := ih _ (by simp) k o (n ++ [y]) [] b rfl
      rw [hunks_nc]; rw [lcs_nil] at this ⊢; simp at this ⊢; omega
    | x :: a, y :: b =>
      by_cases hxy : x = y
      · subst hxy
        have := ih _ (by simp; omega) (k + n.length + 1) [] [] a b rfl
        rw [hunks_same, cost_flush, lcs_same]; simp at this ⊢; omega
      · by_cases hg : lcs (x :: a) b ≤ lcs a (y :: b)
        · have := ih _ (by simp) k (o ++ [x]) n a (y :: b) rfl
          rw [hunks_goes _ _ _ _ _ hxy hg, lcs_ne hxy, Nat.max_eq_left hg]; simp at this ⊢; omega
        · have := ih _ (by simp) k o (n ++ [y]) (x :: a) b rfl
          rw [hunks_comes _ _ _ _ _ hxy hg, lcs_ne hxy, Nat.max_eq_right (by omega)]; simp at this ⊢; omega

theorem diffs_cost (a b : List α) : cost (diffs a b) + 2 * lcs a b = a.length + b.length := by have := hunks_cost 0 [] [] a b; simp at this; exact this

/-- No hunks that make b of a cost less. -/
theorem least : ∀ (l : List (Hk α)) (a b : List α), applyAll a l = some b → a.length + b.length ≤ cost l + 2 * lcs a b := by
  intro l
  induction l with
  | nil =>
    intro a b h
    simp only [applyAll, Option.some.injEq] at h
    subst h
    have := lcs_max a a a (List.Sublist.refl a) (List.Sublist.refl a)
    omega
  | cons h l ih =>
    intro a b e
    rw [applyAll] at e
    cases h1 : apply1 a h with
    | none => rw [h1] at e; cases e
    | some a' =>
      rw [h1] at e
      have k := ih a' b e
      obtain ⟨p, s, rfl, _, rfl⟩ := apply1_some h1
      have k1 := lcs_some p h.n s b
      have k2 : lcs (p ++ s) b ≤ lcs (p ++ h.o ++ s) b := lcs_mono ((List.sublist_append_left p h.o).append (List.Sublist.refl s)) (List.Sublist.refl b)
      rw [cost_cons]
      simp only [List.length_append] at k ⊢
      omega

theorem diffs_nil_iff (a b : List α) : diffs a b = [] ↔ a = b := by
  constructor
  · intro h
    have := diffs_make a b
    rw [h] at this
    simpa [applyAll] using this
  · rintro rfl
    have h := hunks_pre a 0 [] []
    rw [List.append_nil, hunks_nn] at h
    exact h

/-- There and back. -/
theorem apply1_back {l l' : List α} {h : Hk α} (e : apply1 l h = some l') : apply1 l' ⟨h.at', h.n, h.o⟩ = some l ∧ l'.length = l.length - h.o.length + h.n.length ∧ h.o.length ≤ l.length := by
  obtain ⟨p, s, rfl, hp, rfl⟩ := apply1_some e
  rw [← hp, apply1_mk]
  exact ⟨rfl, by simp; omega, by simp; omega⟩

end

/-- Numbers that can be kept, with minus infinity: none. -/
def kmax : Option Nat → Option Nat → Option Nat
  | none, v => v
  | some u, none => some u
  | some u, some v => some (max u v)

def klt : Option Nat → Option Nat → Bool
  | _, none => false
  | none, some _ => true
  | some u, some v => decide (u < v)

def kgeq (u v : Option Nat) : Bool := !klt u v

def kept : List Int → List Int → Option Nat
  | [], [] => some 0
  | [], _ :: _ => none
  | _ :: _, [] => none
  | x :: a, y :: b => if x = y then (kept a b).map (· + 1) else kmax (kept (x :: a) b) (kept a (y :: b))
termination_by a b => a.length + b.length

theorem kept_cn (x : Int) (a : List Int) : kept (x :: a) [] = none := by rw [kept]
theorem kept_nc (y : Int) (b : List Int) : kept [] (y :: b) = none := by rw [kept]
theorem kept_nn : kept [] [] = some 0 := by rw [kept]
theorem kept_same (x : Int) (a b : List Int) : kept (x :: a) (x :: b) = (kept a b).map (· + 1) := by rw [kept, if_pos rfl]
theorem kept_ne {x y : Int} (h : ¬ x = y) (a b : List Int) : kept (x :: a) (y :: b) = kmax (kept (x :: a) b) (kept a (y :: b)) := by rw [kept, if_neg h]

theorem kmax_lt (u v : Option Nat) : kmax u v = if klt u v then v else u := by
  cases u <;> cases v <;> simp only [kmax, klt, decide_eq_true_eq, if_false, if_true, Bool.false_eq_true]
  split
  · congr 1; omega
  · congr 1; omega

/-- With the ends behind them one more can be kept. -/
theorem kept_ends : ∀ (a b : List Int), (0 : Int) ∉ a → (0 : Int) ∉ b → kept (a ++ [0]) (b ++ [0]) = some (lcs a b + 1) := by
  intro a b
  induction h : a.length + b.length using Nat.strongRecOn generalizing a b with
  | ind m ih =>
    subst h
    intro ha hb
    match a, b with
    | [], [] => rw [lcs_nil]; show kept [0] [0] = _; rw [kept_same, kept_nn]; rfl
    | x :: a, [] =>
      have h1 := ih _ (by simp) a [] rfl (fun h => ha (List.mem_cons_of_mem _ h)) hb
      have hx : ¬ x = 0 := fun e => ha (e ▸ List.mem_cons_self)
      rw [List.cons_append, List.nil_append, kept_ne hx, kept_cn, lcs_nil']
      rw [List.nil_append, lcs_nil'] at h1
      rw [h1]; rfl
    | [], y :: b =>
      have h1 := ih _ (by simp) [] b rfl ha (fun h => hb (List.mem_cons_of_mem _ h))
      have hy : ¬ (0 : Int) = y := fun e => hb (e ▸ List.mem_cons_self)
      rw [List.cons_append, List.nil_append, kept_ne hy, kept_nc, lcs_nil]
      rw [List.nil_append, lcs_nil] at h1
      rw [h1]; rfl
    | x :: a, y :: b =>
      have ha' : (0 : Int) ∉ a := fun h => ha (List.mem_cons_of_mem _ h)
      have hb' : (0 : Int) ∉ b := fun h => hb (List.mem_cons_of_mem _ h)
      by_cases hxy : x = y
      · subst hxy
        rw [List.cons_append, List.cons_append, kept_same, ih _ (by simp; omega) a b rfl ha' hb', lcs_same]; rfl
      · have h1 := ih _ (by simp) (x :: a) b rfl ha hb'
        have h2 := ih _ (by simp) a (y :: b) rfl ha' hb
        rw [List.cons_append] at h1 h2
        rw [List.cons_append, List.cons_append, kept_ne hxy, h1, h2, lcs_ne hxy]
        show some (max _ _) = some _
        congr 1
        omega

/-- What can be kept is at most what there is. -/
theorem kept_le : ∀ (a b : List Int) (k : Nat), kept a b = some k → k ≤ a.length := by
  intro a b
  induction h : a.length + b.length using Nat.strongRecOn generalizing a b with
  | ind m ih =>
    subst h
    intro k hk
    match a, b with
    | [], [] => rw [kept_nn] at hk; cases hk; exact Nat.zero_le _
    | x :: a, [] => rw [kept_cn] at hk; cases hk
    | [], y :: b => rw [kept_nc] at hk; cases hk
    | x :: a, y :: b =>
      by_cases hxy : x = y
      · subst hxy
        rw [kept_same] at hk
        cases h1 : kept a b with
        | none => rw [h1] at hk; cases hk
        | some j =>
          rw [h1] at hk
          have := ih _ (by simp; omega) a b rfl j h1
          cases hk
          simp; omega
      · rw [kept_ne hxy] at hk
        cases h1 : kept (x :: a) b with
        | none =>
          rw [h1] at hk
          have := ih _ (by simp) a (y :: b) rfl k hk
          simp; omega
        | some j =>
          have k1 := ih _ (by simp) (x :: a) b rfl j h1
          cases h2 : kept a (y :: b) with
          | none => rw [h1, h2] at hk; cases hk; exact k1
          | some i =>
            have k2 := ih _ (by simp) a (y :: b) rfl i h2
            rw [h1, h2] at hk
            cases hk
            simp at k1 ⊢; omega

/-- A row: what can be kept of a and of b from each place on. -/
def rowK (a : List Int) (b : List Int) (j : Nat) : Option Nat := kept a (b.drop j)

end Go.Proofs.YtpfkkpghgmmijaaGreatDoor.Diff

namespace Go.Proofs.YtpfkkpghgmmijaaGreatDoor.Diff
open Go.RowKit

/-- w' is w but for the blocks that M names, and for new ones. -/
structure Fr (M : Nat → Prop) (w w' : World) : Prop where
  os : w'.os = w.os
  tape : w'.tape = w.tape
  output : w'.output = w.output
  size : w.heap.size ≤ w'.heap.size
  block : ∀ k, k < w.heap.size → ¬ M k → w'.heap[k]? = w.heap[k]?

def None' : Nat → Prop := fun _ => False

theorem Fr.refl (M : Nat → Prop) (w : World) : Fr M w w := ⟨rfl, rfl, rfl, Nat.le_refl _, fun _ _ _ => rfl⟩

theorem Fr.trans {M M' : Nat → Prop} {a b c : World} (h : Fr M a b) (k : Fr M' b c) (hs : ∀ i, M' i → M i ∨ a.heap.size ≤ i) : Fr M a c :=
  ⟨k.os.trans h.os, k.tape.trans h.tape, k.output.trans h.output, Nat.le_trans h.size k.size, fun i hi hm =>
    (k.block i (Nat.lt_of_lt_of_le hi h.size) (fun e => by rcases hs i e with h1 | h1; exact hm h1; omega)).trans (h.block i hi hm)⟩

theorem Fr.then {M : Nat → Prop} {a b c : World} (h : Fr M a b) (k : Fr M b c) : Fr M a c := h.trans k (fun _ e => Or.inl e)

theorem Fr.mono {M M' : Nat → Prop} {a b : World} (h : Fr M a b) (hs : ∀ i, M i → M' i) : Fr M' a b :=
  ⟨h.os, h.tape, h.output, h.size, fun i hi hm => h.block i hi (fun e => hm (hs i e))⟩

theorem Fr.any {M : Nat → Prop} {a b : World} (h : Fr None' a b) : Fr M a b := h.mono (fun _ e => e.elim)

theorem Fr.alloc (M : Nat → Prop) (w : World) (o : Obj) : Fr M w (w.alloc o) :=
  ⟨rfl, rfl, rfl, by simp, fun k hk _ => Below.heap_alloc _ _ _ hk⟩

theorem Fr.setCell {M : Nat → Prop} (w : World) {a : Addr} (ha : M a.block) (u : Value) : Fr M w (w.setCell a u) :=
  ⟨rfl, rfl, rfl, by simp [World.setCell], fun k _ hm => Below.heap_setCell _ _ _ _ (fun e => hm (e ▸ ha))⟩

theorem Fr.grown {M : Nat → Prop} {w w' : World} {row : Option Nat} (hg : w.grownBy w' row) (hr : ∀ k, row = some k → M k) : Fr M w w' :=
  ⟨hg.os, hg.tape, hg.output, hg.size, fun k hk hm => hg.block k hk (fun e => hm (hr k e.symm))⟩

theorem Fr.drewN (M : Nat → Prop) (w : World) (n : Nat) : Fr M w (w.drewN n) := ⟨rfl, rfl, rfl, Nat.le_refl _, fun _ _ _ => rfl⟩

theorem Fr.setRow {M : Nat → Prop} (w : World) {g : Nat} (hg : M g) (c : Array Value) : Fr M w (w.setRow g c) :=
  ⟨rfl, rfl, rfl, by simp [World.setRow], fun k _ hm => by
    have hne : g ≠ k := fun e => hm (e ▸ hg)
    simp only [World.setRow]
    rw [Array.getElem?_modify, if_neg hne]⟩

theorem Fr.at {M : Nat → Prop} {w w' : World} (h : Fr M w w') {k : Nat} {o : Obj} (ho : w.heap[k]? = some o) (hm : ¬ M k) : w'.heap[k]? = some o := by
  rw [h.block k (Array.getElem?_eq_some_iff.1 ho).1 hm]; exact ho

theorem Fr.below {M : Nat → Prop} {w w' : World} (h : Fr M w w') {B : Nat} (hB : B ≤ w.heap.size) (hM : ∀ k, M k → B ≤ k) : Below B w w' :=
  ⟨h.os, h.tape, h.output, h.size, fun k hk => h.block k (by omega) (fun e => by have := hM k e; omega)⟩

theorem cell_lt {w : World} {a : Addr} {v : Value} (h : w.cell? a = some v) : a.block < w.heap.size := by
  rcases Nat.lt_or_ge a.block w.heap.size with h1 | h1
  · exact h1
  · rw [World.cell?, Array.getElem?_eq_none h1] at h; cases h

theorem Fr.cell {M : Nat → Prop} {w w' : World} (h : Fr M w w') {a : Addr} {v : Value} (hc : w.cell? a = some v) (hm : ¬ M a.block) : w'.cell? a = some v := by
  have := h.block a.block (cell_lt hc) hm
  unfold World.cell? at hc ⊢
  rw [this]; exact hc

theorem Fr.rowIs {M : Nat → Prop} {w w' : World} (h : Fr M w w') {b : Nat} {t : TypeId} {n : Nat} {f : Nat → Value} (hr : w.rowIs b t n f) (hm : ¬ M b) : w'.rowIs b t n f := hr.of_block (h.block b hr.lt hm)

/-- A region that draws its order and whose first n operations only read. -/
theorem region_tail {P : Program} {id : Nat} {Q : Exit → Act → World → Prop} {a : Act} {w : World} {l : List Oper} (n : Nat) (hm : P.follows .mixedOrders = true) (hB : Region.lexTailB .any l.toArray n = true)
    (h : wpStill P l.toArray w.drew (fun a' => wpList P l.toArray Q (l.drop n) a' w.drew) (l.take n) a) : (Code.region id l.toArray true).wp P Q a w := wp_region_still_tail n hm hB h

/-- n cells, cell i holding f i. -/
def arr (n : Nat) (f : Nat → Value) : Array Value := Array.ofFn (fun i : Fin n => f i)

theorem arr_size (n : Nat) (f : Nat → Value) : (arr n f).size = n := by simp [arr]

theorem arr_get (n : Nat) (f : Nat → Value) {i : Nat} (hi : i < n) : (arr n f)[i]? = some (f i) := by
  unfold arr
  rw [Array.getElem?_eq_getElem (by simpa using hi)]
  simp

theorem eq_arr {n : Nat} {f : Nat → Value} {c : Array Value} (hn : c.size = n) (hc : ∀ i, i < n → c[i]? = some (f i)) : c = arr n f := by
  apply Array.ext_getElem?
  intro i
  by_cases hi : i < n
  · rw [hc i hi, arr_get n f hi]
  · rw [Array.getElem?_eq_none (by omega), Array.getElem?_eq_none (by rw [arr_size]; omega)]

theorem rowIs_block {w : World} {b : Nat} {t : TypeId} {n : Nat} {f : Nat → Value} (h : w.rowIs b t n f) : w.heap[b]? = some (.cells (arr n f) t (0, 0)) := by
  obtain ⟨c, hb, hn, hc⟩ := h
  rw [hb, eq_arr hn hc]

theorem rowIs_of {w : World} {b : Nat} {t : TypeId} {n : Nat} {f : Nat → Value} (h : w.heap[b]? = some (.cells (arr n f) t (0, 0))) : w.rowIs b t n f := ⟨_, h, arr_size _ _, fun _ hi => arr_get n f hi⟩

theorem setRow_at {w : World} {g : Nat} {c c' : Array Value} {t : TypeId} (h : w.heap[g]? = some (.cells c t (0, 0))) : (w.setRow g c').heap[g]? = some (.cells c' t (0, 0)) := by
  simp only [World.setRow]
  rw [Array.getElem?_modify]
  simp [h]

theorem rowIs_setRow {w : World} {g : Nat} {t : TypeId} {n : Nat} {f g' : Nat → Value} (h : w.rowIs g t n f) : (w.setRow g (arr n g')).rowIs g t n g' :=
  rowIs_of (setRow_at (rowIs_block h))

/-- A new block that a whole row is stored into. -/
theorem new_row {w w' : World} {c : Array Value} {t : TypeId} {n : Nat} {f : Nat → Value} (_hc : c.size = n) (h : (w.alloc (.cells c t (0, 0))).setRow w.heap.size (arr n f) = w') : w'.rowIs w.heap.size t n f ∧ Fr None' w w' := by
  have e : (w.alloc (.cells c t (0, 0))).heap[w.heap.size]? = some (.cells c t (0, 0)) := heap_alloc_new w _
  subst h
  refine ⟨rowIs_of (setRow_at e), (Fr.alloc None' w _).trans (Fr.setRow (M := fun i => i = w.heap.size) _ rfl _) (fun i e => Or.inr (by omega))⟩

theorem arr_one {n : Nat} {f : Nat → Value} (h : ∀ i, i < n → (f i).oneCell' = true) : (arr n f).all (·.oneCell') = true := by
  rw [Array.all_eq_true_iff_forall_mem]
  intro v hv
  obtain ⟨i, hi, rfl⟩ := Array.getElem_of_mem hv
  have hi' : i < n := by simpa [arr] using hi
  simpa [arr] using h i hi'

/-- A whole array out of a row, into a row, and out of the answer's row. -/
theorem load_arr {P : Program} {ops : Array Oper} {rest : List Oper} {o : Oper} {a : Act} {w : World} {Q : Exit → Act → World → Prop} {ty e : TypeId} {n : Nat} (hu : P.underlying ty = some (.array n e)) (hi : (P.info? ty).map (·.size) = some n)
    (g : Nat) {t : TypeId} {f : Nat → Value} (hr : w.rowIs g t n f) (x : Operand) (ho : o.op = .load ty x) (hgd : o.guard = none) (hx : a.eval x = .pointer (some ⟨g, 0, none⟩))
    (h : wpList P ops Q rest (a.put o.dst (.agg (arr n f))) w) : wpList P ops Q (o :: rest) a w :=
  wpList_load_row hgd ty x ho g hx t _ (0, 0) _ (rowIs_block hr) hu rfl (by rw [arr_size]; exact hi) h

theorem store_arr {P : Program} {ops : Array Oper} {rest : List Oper} {o : Oper} {a : Act} {w : World} {Q : Exit → Act → World → Prop} {ty : TypeId} {n : Nat} (hi : (P.info? ty).map (·.size) = some n)
    (g : Nat) {t : TypeId} {f0 f : Nat → Value} (hr : w.rowIs g t n f0) (h1 : ∀ i, i < n → (f i).oneCell' = true) (x y : Operand) (ho : o.op = .store ty x y) (hgd : o.guard = none) (hx : a.eval x = .pointer (some ⟨g, 0, none⟩)) (hy : a.eval y = .agg (arr n f)) (hd : o.dst = none)
    (h : wpList P ops Q rest a (w.setRow g (arr n f))) : wpList P ops Q (o :: rest) a w :=
  wpList_store_row hgd ty x y ho g _ hx hy t _ (rowIs_block hr) (by rw [arr_size]; exact hi) (by rw [arr_size, arr_size]) (arr_one h1) (by rw [hd]; exact h)

theorem result_arr {P : Program} {fn : Func} {p : Tmp} {ty e : TypeId} {n : Nat} (hu : P.underlying ty = some (.array n e)) (hi : (P.info? ty).map (·.size) = some n) (h : fn.results = #[.cell p ty]) (tmps : Array Value) {w : World} {g : Nat} {t : TypeId} {f : Nat → Value}
    (hp : tmps.getD p undef = .pointer (some ⟨g, 0, none⟩)) (hr : w.rowIs g t n f) : (results fn tmps).run P w = .ok (.agg (arr n f)) w :=
  results_cell_row h tmps w g t _ (0, 0) _ hp (rowIs_block hr) hu rfl (by rw [arr_size]; exact hi)

/-- Numbers of 32 bits in a row; bytes in a row. -/
def n32 (f : Nat → Int) : Nat → Value := fun i => .int .u32 (f i)
def n8 (f : Nat → Int) : Nat → Value := fun i => .int .u8 (f i)

end Go.Proofs.YtpfkkpghgmmijaaGreatDoor.Diff

namespace Go.Proofs.YtpfkkpghgmmijaaGreatDoor.Diff
open Go.RowKit
set_option maxRecDepth 100000

theorem ret_int {k : IntKind} {a b : Int} (h : a = b) : Ending.returned (.int k a) = .returned (.int k b) := by rw [h]
theorem ret_bool {a b : Bool} (h : a = b) : Ending.returned (.bool a) = .returned (.bool b) := by rw [h]

theorem len_eq (s : ByteArray) : s.data.toList.length = s.size := by cases s; rfl

theorem str_of {s : ByteArray} {l : List UInt8} (h : s.data.toList = l) : s = ⟨l.toArray⟩ := by
  cases s with | mk d => cases d; simp at h; subst h; rfl

theorem str_no {x y : ByteArray} (h : ¬ x = y) : (¬ x.toList = y.toList) ∧ (x.toList == y.toList) = false := by
  rw [ByteArray.toList_eq, ByteArray.toList_eq]
  have : ¬ x.data.toList = y.data.toList := fun e => h (by rw [str_of e])
  exact ⟨this, by simpa using this⟩

theorem Grew.of {w w' : World} (h : Below w.heap.size w w') : Fr None' w w' := ⟨h.os, h.tape, h.output, h.size, fun k hk _ => h.block k hk⟩

theorem Grew.below {w w' : World} (h : Fr None' w w') : Below w.heap.size w w' := Fr.below h (Nat.le_refl _) (fun _ e => e.elim)

/-- A slice's cells hold these values. -/
def RowV (W : World) (ad : Option Addr) (vs : List Value) : Prop := ∀ j v, vs[j]? = some v → ∃ g o, ad = some ⟨g, o, none⟩ ∧ W.cell? ⟨g, o + j, none⟩ = some v

/-- .. all of them in blocks that M does not name. -/
def Off (M : Nat → Prop) (ad : Option Addr) : Prop := ∀ a, ad = some a → ¬ M a.block

theorem RowV.fr {M : Nat → Prop} {W W' : World} {ad : Option Addr} {vs : List Value} (h : RowV W ad vs) (f : Fr M W W') (hm : Off M ad) : RowV W' ad vs := fun j x hj => by
  obtain ⟨g, o, e, hc⟩ := h j x hj
  exact ⟨g, o, e, f.cell hc (hm ⟨g, o, none⟩ e)⟩

theorem Off.none (M : Nat → Prop) : Off M none := fun _ e => by cases e
theorem Off.no (ad : Option Addr) : Off None' ad := fun _ _ e => e

theorem RowV.nil (W : World) (ad : Option Addr) : RowV W ad [] := fun j x h => by simp at h

theorem RowV.get {W : World} {ad : Option Addr} {vs : List Value} (h : RowV W ad vs) {k : Nat} (hk : k < vs.length) : ∃ g o, ad = some ⟨g, o, none⟩ ∧ W.cell? ⟨g, o + k, none⟩ = some vs[k] := h k _ (List.getElem?_eq_getElem hk)

/-- Texts in a row. -/
def Row (W : World) (ad : Option Addr) (ss : List ByteArray) : Prop := ∀ j x, ss[j]? = some x → ∃ g o, ad = some ⟨g, o, none⟩ ∧ W.cell? ⟨g, o + j, none⟩ = some (.string x)

theorem Row.frM {M : Nat → Prop} {W W' : World} {ad : Option Addr} {ss : List ByteArray} (h : Row W ad ss) (f : Fr M W W') (hm : Off M ad) : Row W' ad ss := fun j x hj => by
  obtain ⟨g, o, e, hc⟩ := h j x hj
  exact ⟨g, o, e, f.cell hc (hm ⟨g, o, none⟩ e)⟩

theorem Row.fr {W W' : World} {ad : Option Addr} {ss : List ByteArray} (h : Row W ad ss) (f : Fr None' W W') : Row W' ad ss := h.frM f (Off.no ad)

theorem Row.nil (W : World) (ad : Option Addr) : Row W ad [] := fun j x h => by simp at h

theorem Row.get {W : World} {ad : Option Addr} {ss : List ByteArray} (h : Row W ad ss) {k : Nat} (hk : k < ss.length) : ∃ g o, ad = some ⟨g, o, none⟩ ∧ W.cell? ⟨g, o + k, none⟩ = some (.string ss[k]) := h k _ (List.getElem?_eq_getElem hk)

theorem Row.vals {W : World} {ad : Option Addr} {ss : List ByteArray} (h : Row W ad ss) : RowV W ad (ss.map .string) := fun j v hj => by
  rw [List.getElem?_map] at hj
  cases hm : ss[j]? with
  | none => rw [hm] at hj; cases hj
  | some y => rw [hm] at hj; cases hj; exact h j y hm

theorem RowV.row {W : World} {ad : Option Addr} {ss : List ByteArray} (h : RowV W ad (ss.map .string)) : Row W ad ss := fun j x hj => h j _ (by rw [List.getElem?_map, hj]; rfl)

/-- A part of a row. -/
theorem RowV.part {W : World} {g o : Nat} {vs : List Value} (h : RowV W (some ⟨g, o, none⟩) vs) (k n : Nat) : RowV W (some ⟨g, o + k, none⟩) ((vs.drop k).take n) := fun j x hj => by
  have hj' : vs[k + j]? = some x := by
    rw [List.getElem?_take] at hj
    split at hj
    · rw [List.getElem?_drop] at hj; exact hj
    · cases hj
  obtain ⟨g', o', e, hc⟩ := h (k + j) x hj'
  cases e
  exact ⟨g, o + k, rfl, by rw [Nat.add_assoc]; exact hc⟩

theorem Row.part {W : World} {g o : Nat} {ss : List ByteArray} (h : Row W (some ⟨g, o, none⟩) ss) (k n : Nat) : Row W (some ⟨g, o + k, none⟩) ((ss.drop k).take n) := by
  have := h.vals.part k n
  rw [← List.map_drop, ← List.map_take] at this
  exact this.row

/-- v is a row of the values vs, in a block of its own at or beyond base. -/
def OwnV (base : Nat) (w : World) (e : TypeId) (v : Value) (vs : List Value) : Prop := w.ownsRow base e 1 v vs.length vs

theorem OwnV.slice {base : Nat} {w : World} {e : TypeId} {v : Value} {vs : List Value} (h : OwnV base w e v vs) : ∃ va c, v = .slice va vs.length c ∧ vs.length ≤ c ∧ (va = none → c = 0) ∧ RowV w va vs ∧ (∀ a, va = some a → base ≤ a.block ∧ a.off = 0 ∧ a.spot = none ∧ a.block < w.heap.size) := by
  rcases h.2 with ⟨hv, h0⟩ | ⟨g, cap, cur, hv, hb, hh, hc, _, hs, ht⟩
  · refine ⟨none, 0, by rw [hv, h0], by omega, fun _ => rfl, fun j x hj => ?_, fun a e => by cases e⟩
    have := (List.getElem?_eq_some_iff.1 hj).1
    omega
  · refine ⟨_, cap, hv, hc, fun e => by simp at e, fun i x hi => ⟨g, 0, rfl, ?_⟩, fun a e => by cases e; exact ⟨hb, rfl, rfl, (Array.getElem?_eq_some_iff.1 hh).1⟩⟩
    have hlt := (List.getElem?_eq_some_iff.1 hi).1
    rw [← ht, List.getElem?_take, if_pos (by omega)] at hi
    rw [World.cell?, Nat.zero_add, hh]
    simpa using hi

/-- The block of v, if it has one. -/
def Own1 (v : Value) : Nat → Prop := fun k => v.ownBlock = some k

theorem OwnV.fr {M : Nat → Prop} {base : Nat} {w w' : World} {e : TypeId} {v : Value} {vs : List Value} (h : OwnV base w e v vs) (f : Fr M w w') (hm : ∀ k, Own1 v k → ¬ M k) : OwnV base w' e v vs := by
  refine ⟨h.1, ?_⟩
  rcases h.2 with h | ⟨g, cap, cur, hv, hb, hh, h⟩
  · exact Or.inl h
  · exact Or.inr ⟨g, cap, cur, hv, hb, f.at hh (hm g (by rw [Own1, hv]; rfl)), h⟩

theorem OwnV.kept {base : Nat} {w w' : World} {e : TypeId} {v : Value} {vs : List Value} (h : OwnV base w e v vs) (f : Fr None' w w') : OwnV base w' e v vs := h.fr f (fun _ _ e => e)

theorem OwnV.nil (base : Nat) (w : World) (e : TypeId) : OwnV base w e (.slice none 0 0) [] := World.ownsRow_nil w _ e 1

theorem OwnV.lt {base : Nat} {w : World} {e : TypeId} {v : Value} {vs : List Value} (h : OwnV base w e v vs) {k : Nat} (hk : Own1 v k) : base ≤ k ∧ k < w.heap.size := by
  rcases h.2 with ⟨hv, _⟩ | ⟨g, cap, cur, hv, hb, hh, _⟩
  · rw [Own1, hv] at hk; cases hk
  · rw [Own1, hv] at hk; cases hk; exact ⟨hb, (Array.getElem?_eq_some_iff.1 hh).1⟩

/-- The row's head of no elements, its room kept. -/
theorem OwnV.zero {base : Nat} {w : World} {e : TypeId} {va : Option Addr} {c : Nat} {vs : List Value} (h : OwnV base w e (.slice va vs.length c) vs) : OwnV base w e (.slice va 0 c) [] := by
  rcases h.2 with ⟨hv, _⟩ | ⟨g, cap, cur, hv, hb, hh, hc, hm, hs, _⟩
  · simp only [Value.slice.injEq] at hv
    obtain ⟨rfl, _, rfl⟩ := hv
    exact OwnV.nil _ _ _
  · simp only [Value.slice.injEq] at hv
    obtain ⟨rfl, _, rfl⟩ := hv
    exact ⟨rfl, Or.inr ⟨g, c, cur, rfl, hb, hh, Nat.zero_le _, hm, hs, by simp⟩⟩

/-- '[]T{}': an empty row of no room. -/
theorem OwnV.empty {base : Nat} {w : World} (e : TypeId) (hb : base ≤ w.heap.size) : OwnV base (w.alloc (.cells #[] e)) e (.slice (some ⟨w.heap.size, 0, none⟩) 0 0) [] :=
  ⟨rfl, Or.inr ⟨w.heap.size, 0, #[], rfl, hb, heap_alloc_new w _, Nat.le_refl _, Nat.zero_le _, rfl, rfl⟩⟩

/-- A type whose values are one cell each. -/
structure One (e t : TypeId) (bytes : Nat) : Prop where
  ty : Tryz.prog.underlying t = some (.slice e)
  info : ∃ i z, Tryz.prog.info? e = some i ∧ i.zero = some z ∧ i.size = 1 ∧ i.bytes = bytes ∧ z.cells.size = 1
  small : bytes ≤ 24

theorem one_mk {e t : TypeId} {z : Value} {bytes : Nat} (ht : Tryz.prog.underlying t = some (.slice e)) (h : (Tryz.prog.info? e).map (fun i => (i.zero, i.size, i.bytes)) = some (some z, 1, bytes)) (hz : z.cells.size = 1) (hb : bytes ≤ 24) : One e t bytes := by
  obtain ⟨i0, hi, hz0, hz1, hz2⟩ := info_parts h
  exact ⟨ht, ⟨i0, z, hi, hz0, hz1, hz2, hz⟩, hb⟩

theorem oneS : One 9 43 16 := one_mk (z := (.string ⟨#[]⟩)) Tryz.underlying43 (by kernel_rfl) rfl (by decide)

/-- 'append(s, x...)', s the call's own. -/
theorem append_run {e t : TypeId} {bytes : Nat} (h1 : One e t bytes) (ty : TypeId) {base : Nat} {w : World} {v : Value} {vs : List Value} (hown : OwnV base w e v vs) {va : Option Addr} {c k : Nat} {m : List Value} (hk : m.length = k) (hl : RowV w va m) (hn : va = none → c = 0) (hm : ∀ u ∈ m, u.oneCell' = true) (hbig : vs.length + m.length ≤ 1000000000) (hb : base ≤ w.heap.size) :
    ∃ v' w', (Builtin.append_ #[t, t] ty #[v, .slice va k c]).run Tryz.prog w = .ok v' w' ∧ OwnV base w' e v' (vs ++ m) ∧ Fr (Own1 v) w w' ∧ (v'.ownBlock = v.ownBlock ∨ v'.ownBlock = some w.heap.size) := by
  obtain ⟨i0, z, hi, hz0, hz1, hz2, hz3⟩ := h1.info
  have hbb := h1.small
  subst hk
  cases va with
  | none =>
    obtain rfl := hn rfl
    have hn0 : m = [] := by
      cases m with
      | nil => rfl
      | cons y m => obtain ⟨_, _, e, _⟩ := hl 0 y rfl; cases e
    subst hn0
    exact ⟨v, w, run_append_owned_none (P := Tryz.prog) (w := w) base t ty e i0 1 h1.ty hi v _ _ hown, by simpa using hown, Fr.refl _ _, Or.inl rfl⟩
  | some ad =>
    have hnews : ∀ j u, m[j]? = some u → w.cell? (ad.add j) = some u := fun j u hj => by
      obtain ⟨b, o, e, hc⟩ := hl j u hj
      cases e
      have hadd : (⟨b, o, none⟩ : Addr).add j = ⟨b, o + j, none⟩ := by unfold Addr.add; split <;> simp_all
      rw [hadd, hc]
    obtain ⟨v', w', hr, h2, h3, _, h5⟩ := run_append_own_at (P := Tryz.prog) w base t ty e i0 z 1 bytes h1.ty hi hz0 hz1 hz2 hz3 (by decide) v _ _ hown ad m.length c m (by simp) hnews hm (by unfold maxLen; omega) (by
      have : (vs.length + m.length) * bytes ≤ 1000000000 * 24 := Nat.mul_le_mul hbig hbb
      omega) hb
    refine ⟨v', w', hr, ?_, Fr.grown h3 (fun k e => e), h5⟩
    unfold OwnV
    rw [List.length_append]
    exact h2

theorem append_one {e t : TypeId} {bytes : Nat} (h1 : One e t bytes) {ops : Array Oper} {rest : List Oper} {o : Oper} {a : Act} {w : World} {Q : Exit → Act → World → Prop} (hgd : o.guard = none) (s x : Operand)
    (ho : o.op = .call { callee := .builtin .append, args := #[s, x], argTypes := #[t, t] })
    {base : Nat} {v : Value} {vs : List Value} (hs : a.eval s = v) (hown : OwnV base w e v vs) {va : Option Addr} {c k : Nat} {m : List Value} (hx : a.eval x = .slice va k c) (hk : m.length = k) (hl : RowV w va m) (hn : va = none → c = 0) (hm : ∀ u ∈ m, u.oneCell' = true) (hbig : vs.length + m.length ≤ 1000000000) (hb : base ≤ w.heap.size)
    (h : ∀ v' w', OwnV base w' e v' (vs ++ m) → Fr (Own1 v) w w' → (v'.ownBlock = v.ownBlock ∨ v'.ownBlock = some w.heap.size) → wpList Tryz.prog ops Q rest (a.put o.dst v') w') : wpList Tryz.prog ops Q (o :: rest) a w := by
  refine wpList_plain hgd fun K hK => ?_
  obtain ⟨v', w', hr, h2, h3, h4⟩ := append_run h1 o.type hown hk hl hn hm hbig hb
  unfold Oper.wp execOp
  simp only [ho, resolve, invoke, builtin, Sem.run_bind, Sem.run_pure, Result.andThen_ok, List.map_toArray, List.map_cons, List.map_nil, hs, hx, hr]
  exact hK _ _ (h v' w' h2 h3 h4)

/-- One value, in a block of its own. -/
theorem one_row (w : World) (e : TypeId) (x : Value) : RowV (w.alloc (.cells #[x] e)) (some ⟨w.heap.size, 0, none⟩) [x] := fun j y hj => by
  have hlt := (List.getElem?_eq_some_iff.1 hj).1
  obtain rfl : j = 0 := by simpa using hlt
  simp at hj
  subst hj
  exact ⟨_, _, rfl, by simp⟩

/-- Its own or new. -/
theorem own_or {v v' : Value} {w : World} (h : v'.ownBlock = v.ownBlock ∨ v'.ownBlock = some w.heap.size) {k : Nat} (hk : Own1 v' k) : Own1 v k ∨ k = w.heap.size := by
  unfold Own1 at *
  rcases h with h | h
  · exact Or.inl (h ▸ hk)
  · rw [h] at hk; cases hk; exact Or.inr rfl

theorem own_fr {M : Nat → Prop} {e : TypeId} {v : Value} {vs : List Value} {w wr wx w1 : World} (h : OwnV w.heap.size wr e v vs) (hF : Fr M w wr) (f0 : Fr None' wr wx) (f : Fr (Own1 v) wx w1) : Fr M w w1 ∧ Fr (Own1 v) wr w1 := by
  have f2 : Fr (Own1 v) wr w1 := (f0.mono (fun _ e => e.elim)).then f
  exact ⟨hF.trans f2 (fun i e => Or.inr (h.lt e).1), f2⟩

/-- Numbers in a row. -/
def ints (l : List Int) : List Value := l.map (Value.int .i64)

theorem ints_one (l : List Int) : ∀ u ∈ ints l, u.oneCell' = true := fun u hu => by
  obtain ⟨z, _, rfl⟩ := List.mem_map.1 hu; rfl
theorem strs_one (l : List ByteArray) : ∀ u ∈ l.map Value.string, u.oneCell' = true := fun u hu => by
  obtain ⟨z, _, rfl⟩ := List.mem_map.1 hu; rfl

theorem ints_length (l : List Int) : (ints l).length = l.length := List.length_map ..

theorem ints_get {l : List Int} {k : Nat} (hk : k < l.length) : (ints l)[k]'(by rw [ints_length]; exact hk) = .int .i64 l[k] := by simp [ints]

end Go.Proofs.YtpfkkpghgmmijaaGreatDoor.Diff

namespace Go.Proofs.YtpfkkpghgmmijaaGreatDoor.Diff
open Go.RowKit
set_option maxRecDepth 100000

theorem kept_bound {a : List Int} (ha : a.length ≤ 900) (b : List Int) : ∀ k, kept a b = some k → k < 1000 := fun k h => by
  have := kept_le a b k h
  omega

theorem drop_get {B : List Int} {k : Nat} (hk : k < B.length) : B.drop k = B[k] :: B.drop (k + 1) := List.drop_eq_getElem_cons hk

end Go.Proofs.YtpfkkpghgmmijaaGreatDoor.Diff

namespace Go.Proofs.YtpfkkpghgmmijaaGreatDoor.Diff
open Go.RowKit

/-- J abides whatever is done to the blocks that M names, and new ones. -/
def Abide {β : Type} (M : Nat → Prop) (J : β → World → Prop) : Prop := ∀ s A B, J s A → Fr M A B → J s B

def NoCells (A : World) (k : Nat) : Prop := ∀ c t f, A.heap[k]? ≠ some (.cells c t f)

/-- .. and to what is no cells. -/
def AbideN {β : Type} (base : Nat) (M : Nat → Prop) (J : β → World → Prop) : Prop := ∀ s A B, J s A → Fr (fun k => M k ∨ (base ≤ k ∧ NoCells A k)) A B → J s B

/-- The contract of an iterator that may turn the blocks of M between two rounds; Kp: what a round keeps. -/
def SeqM {α : Type} (F : Fence) (n : Nat) (P : Program) (g : Nat) (lb : Array Value) (encs : α → Array Value) (M : Nat → Prop) (Kp : World → World → Prop) (S Sp : List α → Prop) (St : World → Prop) : Prop :=
  ∀ (l : Nat) (J Jx : List α → World → Prop) (W : World), St W → Abide M J → Abide M Jx →
    (∀ pre x W1, J pre W1 → Sp (pre ++ [x]) → YieldAt F (n - 1) P l (encs x) W1 fun e W' =>
      (e = .returned (.bool true) ∧ J (pre ++ [x]) W' ∧ Kp W1 W') ∨ (e = .returned (.bool false) ∧ Jx (pre ++ [x]) W')) →
    J [] W →
    CallsIn F n P g (#[.func (.yield l) #[] #[]] ++ lb) W fun e W' => (∃ v, e = .returned v) ∧ ((∃ xs, S xs ∧ J xs W') ∨ (∃ pre, Sp pre ∧ Jx pre W'))

theorem Fr.putObj {M : Nat → Prop} (w : World) {l : Nat} (hl : M l) (o : Obj) : Fr M w (w.putObj l o) :=
  ⟨rfl, rfl, rfl, by simp, fun k _ hm => World.putObj_heap_other (fun e => hm (e ▸ hl))⟩

variable {F : Fence} {n : Nat} {P : Program}

theorem range_own {α : Type} {g : Operand} {ps : Array Tmp} {assign body : Code} {Q : Exit → Act → World → Prop} {a : Act} {w : World}
    (hro : F.round = none) (h1 : 1 ≤ n) {gf : Nat} {lb : Array Value} (hg : a.eval g = .func (.func gf) #[] lb) (hFg : F.fn gf) (eg : ∀ args w, (callFunc gf args).run P w = .ok (.enter gf args) w)
    {encs : α → Array Value} {M : Nat → Prop} {Kp : World → World → Prop} {S Sp : List α → Prop} {St : World → Prop} (hseq : SeqM F (n - 1) P gf lb encs M Kp S Sp St)
    (hM : ∀ k, M k → k < w.heap.size) (hSt : ∀ W, Below w.heap.size w W → St W)
    (hKt : ∀ {A B C : World}, Kp A B → Kp B C → Kp A C) (hKb : ∀ (W : World) (l : Nat) (o' : Obj), w.heap.size ≤ l → Kp W (W.putObj l o'))
    (hps : ∀ x, (encs x).size = ps.size)
    (I : List α → World → Prop) (Ix : Code → List α → World → Prop) (hI : AbideN w.heap.size M I) (hIx : ∀ c, AbideN w.heap.size M (Ix c)) (h0 : I [] w) (a₁ : α → Act)
    (hassign : ∀ (l : Nat) (x : α) (W : World) (K : Act → World → Prop), K (a₁ x) W →
      assign.wpIn (F.inRound l) (n - 1 - 1) P (Exit.then K (fun _ _ _ => False)) { tmps := (ps.zip (encs x)).foldl (fun t (p, v) => t.setIfInBounds p v) a.tmps, defers := [] } W)
    (hbody : ∀ (l : Nat) (pre : List α) (x : α) (W : World), I pre W → Sp (pre ++ [x]) → w.heap.size ≤ l → (∃ r, W.heap[l]? = some (.loop r)) → body.wpIn (F.inRound l) (n - 1 - 1) P (ownPostK Kp I Ix (pre ++ [x]) W) (a₁ x) W)
    (hdone : ∀ (D : Nat) (xs : List α) (W : World), S xs → I xs W → W.heap[D]? = some (.deferred (some [])) → w.heap.size ≤ D → Q .normal { a with defers := { target := .collected D, args := #[] } :: a.defers } W)
    (hstop : ∀ (D : Nat) (c : Code) (pre : List α) (W : World), Sp pre → Ix c pre W → W.heap[D]? = some (.deferred (some [])) → w.heap.size ≤ D → c.wpIn F n P Q { a with defers := { target := .collected D, args := #[] } :: a.defers } W) :
    (Code.rangeFunc g ps assign body).wpIn F n P Q a w := by
  refine wpIn_rangeFunc fun fn hfn => ?_
  rw [hro]
  obtain ⟨R, hR⟩ : ∃ R : LoopState → Option Code → Loop, R = fun st pe => { state := st, pending := pe, fn, tmps := a.tmps, params := ps, assign, body, defers := w.heap.size } := ⟨_, rfl⟩
  obtain ⟨V, hV⟩ : ∃ V, (w.alloc (.deferred (some []))).alloc (.loop (R .ready none)) = V := ⟨_, rfl⟩
  have hL : V.heap[w.heap.size + 1]? = some (.loop (R .ready none)) := by
    rw [← hV]; simpa using World.alloc_heap_new (w.alloc (.deferred (some []))) (.loop (R .ready none))
  have hD : V.heap[w.heap.size]? = some (.deferred (some [])) := by
    rw [← hV]; exact (Below.heap_alloc _ _ _ (by simp)).trans (World.alloc_heap_new w _)
  have hIV : I [] V := by
    rw [← hV]; exact hI _ _ _ (hI _ _ _ h0 (Fr.alloc _ _ _)) (Fr.alloc _ _ _)
  have hBV : Below w.heap.size w V := by rw [← hV]; exact ((Below.refl _ w).alloc (Nat.le_refl _) _).alloc (by simp) _
  -- what the law itself does to its two blocks
  have far : ∀ {W : World} {k : Nat} {r : Loop} (o : Obj), W.heap[k]? = some (.loop r) → w.heap.size ≤ k → Fr (fun k => M k ∨ (w.heap.size ≤ k ∧ NoCells W k)) W (W.putObj k o) := fun o hk hle => Fr.putObj _ (.inr ⟨hle, fun c t f e => by rw [hk] at e; cases e⟩) o
  have wide : ∀ {A B : World}, Fr M A B → Fr (fun k => M k ∨ (w.heap.size ≤ k ∧ NoCells A k)) A B := fun h => h.mono (fun _ e => .inl e)
  have nM : ∀ {k : Nat}, w.heap.size ≤ k → ¬ M k := fun hk hm => by have := hM _ hm; omega
  refine ⟨w.heap.size + 1, [{ target := .collected w.heap.size, args := #[] }], V, { target := .fn (.func gf) lb, args := #[.func (.yield (w.heap.size + 1)) #[] #[]] }, V, gf,
    #[.func (.yield (w.heap.size + 1)) #[] #[]] ++ lb, V, by rw [← hV, hR]; exact run_enterLoop_outer _ _ _ _ _, by simp only [resolve, hg]; simp [go_sem], ?_, by simp [invoke, go_sem, eg], fun _ => h1, ?_⟩
  · intro f' hf'; simp [Target.leads] at hf'; subst hf'; exact hFg
  refine (hseq (w.heap.size + 1)
    (fun pre W => I pre W ∧ W.heap[w.heap.size + 1]? = some (.loop (R .ready none)) ∧ W.heap[w.heap.size]? = some (.deferred (some [])))
    (fun pre W => ∃ c, Ix c pre W ∧ W.heap[w.heap.size + 1]? = some (.loop (R .done (some c))) ∧ W.heap[w.heap.size]? = some (.deferred (some [])))
    V (hSt _ hBV)
    (fun s A B hs hf => ⟨hI _ _ _ hs.1 (wide hf), hf.at hs.2.1 (nM (by omega)), hf.at hs.2.2 (nM (by omega))⟩)
    (fun s A B ⟨c, hc, hl, hk⟩ hf => ⟨c, hIx c _ _ _ hc (wide hf), hf.at hl (nM (by omega)), hf.at hk (nM (by omega))⟩)
    ?_ ⟨hIV, hL, hD⟩).mono ?_
  · rintro pre x W ⟨hi, hl, hk⟩ hsp
    have hy := run_yield (P := P) (args := encs x) hl (by rw [hR]; exact hps x)
    rw [hR] at hy
    refine ⟨fn, _, assign, body, hy, roundIn_of_wpIn hfn (hassign _ x W _ ⟨_, run_beginRound hl (by rw [hR]), ?_⟩)⟩
    obtain ⟨W2, hW2⟩ : ∃ W2, W.putObj (w.heap.size + 1) (.loop { R .ready none with state := .busy }) = W2 := ⟨_, rfl⟩
    have hl2 : W2.heap[w.heap.size + 1]? = some (.loop { R .ready none with state := .busy }) := by
      rw [← hW2]; exact World.putObj_heap_same (Array.getElem?_eq_some_iff.1 hl).1
    have hk2 : W2.heap[w.heap.size]? = some (.deferred (some [])) := by rw [← hW2]; exact (World.putObj_heap_other (by omega)).trans hk
    have hp2 : Kp W W2 := by rw [← hW2]; exact hKb _ _ _ (by omega)
    have hi2 : I pre W2 := by rw [← hW2]; exact hI _ _ _ hi (far _ hl (by omega))
    rw [hW2]
    refine wpIn_mono (hbody _ pre x W2 hi2 hsp (by omega) ⟨_, hl2⟩) ?_
    have fin : ∀ (jump : Option Code) (W3 : World), KeepsOthers W2 W3 → W3.heap[w.heap.size + 1]? = some (.loop { R .ready none with state := .busy }) ∧
        (Instr.endRound (w.heap.size + 1) jump).run P W3 = .ok (.bool jump.isNone) (W3.putObj (w.heap.size + 1) (.loop (R (if jump.isNone then .ready else .done) jump))) ∧
        (W3.putObj (w.heap.size + 1) (.loop (R (if jump.isNone then .ready else .done) jump))).heap[w.heap.size + 1]? = some (.loop (R (if jump.isNone then .ready else .done) jump)) ∧
        (W3.putObj (w.heap.size + 1) (.loop (R (if jump.isNone then .ready else .done) jump))).heap[w.heap.size]? = some (.deferred (some [])) := fun jump W3 h3 => by
      have hl3 := h3.same _ _ hl2 rfl
      have := run_endRound (P := P) jump hl3
      rw [hR] at this ⊢
      exact ⟨by rw [hR] at hl3; exact hl3, this, World.putObj_heap_same (Array.getElem?_eq_some_iff.1 hl3).1, (World.putObj_heap_other (by omega)).trans (h3.same _ _ hk2 rfl)⟩
    rintro e a3 W3 hp
    cases e with
    | normal =>
      obtain ⟨h3, hkp, hi3⟩ := hp
      obtain ⟨hl3, hr, hl4, hk4⟩ := fin none W3 h3
      exact ⟨_, _, hr, .inl ⟨rfl, ⟨hI _ _ _ hi3 (far _ hl3 (by omega)), hl4, hk4⟩, hKt (hKt hp2 hkp) (hKb _ _ _ (by omega))⟩⟩
    | ret =>
      obtain ⟨h3, hi3⟩ := hp
      obtain ⟨hl3, hr, hl4, hk4⟩ := fin (some .ret) W3 h3
      exact ⟨_, _, hr, .inr ⟨rfl, .ret, hIx _ _ _ _ hi3 (far _ hl3 (by omega)), hl4, hk4⟩⟩
    | exit id =>
      obtain ⟨h3, hi3⟩ := hp
      obtain ⟨hl3, hr, hl4, hk4⟩ := fin (some (.exit id)) W3 h3
      exact ⟨_, _, hr, .inr ⟨rfl, .exit id, hIx _ _ _ _ hi3 (far _ hl3 (by omega)), hl4, hk4⟩⟩
    | goto t =>
      obtain ⟨h3, hi3⟩ := hp
      obtain ⟨hl3, hr, hl4, hk4⟩ := fin (some (.goto t)) W3 h3
      exact ⟨_, _, hr, .inr ⟨rfl, .goto t, hIx _ _ _ _ hi3 (far _ hl3 (by omega)), hl4, hk4⟩⟩
    | panic ch => exact hp.elim
    | outgrown => exact hp.elim
  · rintro e W2 ⟨⟨v, rfl⟩, (⟨xs, hS, hi, hl, hk⟩ | ⟨pre, hSp, c, hi, hl, hk⟩)⟩
    · exact ⟨none, _, by have := run_endLoop (P := P) hl (by rw [hR]; simp); rw [hR] at this; exact this, hdone _ xs _ hS (hI _ _ _ hi (far _ hl (by omega))) ((World.putObj_heap_other (by omega)).trans hk) (by omega)⟩
    · exact ⟨some c, _, by have := run_endLoop (P := P) hl (by rw [hR]; simp); rw [hR] at this; exact this, hstop _ c pre _ hSp (hIx c _ _ _ hi (far _ hl (by omega))) ((World.putObj_heap_other (by omega)).trans hk) (by omega)⟩


/-- The same within a round of the loop l₀. -/
theorem range_in {α : Type} {g : Operand} {ps : Array Tmp} {assign body : Code} {Q : Exit → Act → World → Prop} {a : Act} {w : World}
    {l₀ : Nat} {r₀ : Loop} (hro : F.round = some l₀) (hl₀ : w.heap[l₀]? = some (.loop r₀)) (h1 : 1 ≤ n) {gf : Nat} {lb : Array Value} (hg : a.eval g = .func (.func gf) #[] lb) (hFg : F.fn gf) (eg : ∀ args w, (callFunc gf args).run P w = .ok (.enter gf args) w)
    {encs : α → Array Value} {M : Nat → Prop} {Kp : World → World → Prop} {S Sp : List α → Prop} {St : World → Prop} (hseq : SeqM F (n - 1) P gf lb encs M Kp S Sp St)
    (hM : ∀ k, M k → k < w.heap.size) (hSt : ∀ W, Below w.heap.size w W → St W)
    (hKt : ∀ {A B C : World}, Kp A B → Kp B C → Kp A C) (hKb : ∀ (W : World) (l : Nat) (o' : Obj), w.heap.size ≤ l → Kp W (W.putObj l o'))
    (hps : ∀ x, (encs x).size = ps.size)
    (I : List α → World → Prop) (Ix : Code → List α → World → Prop) (hI : AbideN w.heap.size M I) (hIx : ∀ c, AbideN w.heap.size M (Ix c)) (h0 : I [] w) (a₁ : α → Act)
    (hassign : ∀ (l : Nat) (x : α) (W : World) (K : Act → World → Prop), K (a₁ x) W →
      assign.wpIn (F.inRound l) (n - 1 - 1) P (Exit.then K (fun _ _ _ => False)) { tmps := (ps.zip (encs x)).foldl (fun t (p, v) => t.setIfInBounds p v) a.tmps, defers := [] } W)
    (hbody : ∀ (l : Nat) (pre : List α) (x : α) (W : World), I pre W → Sp (pre ++ [x]) → w.heap.size ≤ l → (∃ r, W.heap[l]? = some (.loop r)) → body.wpIn (F.inRound l) (n - 1 - 1) P (ownPostK Kp I Ix (pre ++ [x]) W) (a₁ x) W)
    (hdone : ∀ (xs : List α) (W : World), S xs → I xs W → Q .normal a W)
    (hstop : ∀ (c : Code) (pre : List α) (W : World), Sp pre → Ix c pre W → c.wpIn F n P Q a W) :
    (Code.rangeFunc g ps assign body).wpIn F n P Q a w := by
  refine wpIn_rangeFunc fun fn hfn => ?_
  rw [hro]
  obtain ⟨R, hR⟩ : ∃ R : LoopState → Option Code → Loop, R = fun st pe => { state := st, pending := pe, fn, tmps := a.tmps, params := ps, assign, body, defers := r₀.defers } := ⟨_, rfl⟩
  obtain ⟨V, hV⟩ : ∃ V, w.alloc (.loop (R .ready none)) = V := ⟨_, rfl⟩
  have hL : V.heap[w.heap.size]? = some (.loop (R .ready none)) := by
    rw [← hV]; exact World.alloc_heap_new w _
  have hIV : I [] V := by
    rw [← hV]; exact hI _ _ _ h0 (Fr.alloc _ _ _)
  have hBV : Below w.heap.size w V := by rw [← hV]; exact (Below.refl _ w).alloc (Nat.le_refl _) _
  have far : ∀ {W : World} {k : Nat} {r : Loop} (o : Obj), W.heap[k]? = some (.loop r) → w.heap.size ≤ k → Fr (fun k => M k ∨ (w.heap.size ≤ k ∧ NoCells W k)) W (W.putObj k o) := fun o hk hle => Fr.putObj _ (.inr ⟨hle, fun c t f e => by rw [hk] at e; cases e⟩) o
  have wide : ∀ {A B : World}, Fr M A B → Fr (fun k => M k ∨ (w.heap.size ≤ k ∧ NoCells A k)) A B := fun h => h.mono (fun _ e => .inl e)
  have nM : ∀ {k : Nat}, w.heap.size ≤ k → ¬ M k := fun hk hm => by have := hM _ hm; omega
  refine ⟨w.heap.size, [], V, { target := .fn (.func gf) lb, args := #[.func (.yield w.heap.size) #[] #[]] }, V, gf,
    #[.func (.yield w.heap.size) #[] #[]] ++ lb, V, by rw [← hV, hR]; exact run_enterLoop_inner hl₀ _ _ _ _ _, by simp only [resolve, hg]; simp [go_sem], ?_, by simp [invoke, go_sem, eg], fun _ => h1, ?_⟩
  · intro f' hf'; simp [Target.leads] at hf'; subst hf'; exact hFg
  refine (hseq w.heap.size
    (fun pre W => I pre W ∧ W.heap[w.heap.size]? = some (.loop (R .ready none)))
    (fun pre W => ∃ c, Ix c pre W ∧ W.heap[w.heap.size]? = some (.loop (R .done (some c))))
    V (hSt _ hBV)
    (fun s A B hs hf => ⟨hI _ _ _ hs.1 (wide hf), hf.at hs.2 (nM (Nat.le_refl _))⟩)
    (fun s A B ⟨c, hc, hl⟩ hf => ⟨c, hIx c _ _ _ hc (wide hf), hf.at hl (nM (Nat.le_refl _))⟩)
    ?_ ⟨hIV, hL⟩).mono ?_
  · rintro pre x W ⟨hi, hl⟩ hsp
    have hy := run_yield (P := P) (args := encs x) hl (by rw [hR]; exact hps x)
    rw [hR] at hy
    refine ⟨fn, _, assign, body, hy, roundIn_of_wpIn hfn (hassign _ x W _ ⟨_, run_beginRound hl (by rw [hR]), ?_⟩)⟩
    obtain ⟨W2, hW2⟩ : ∃ W2, W.putObj w.heap.size (.loop { R .ready none with state := .busy }) = W2 := ⟨_, rfl⟩
    have hl2 : W2.heap[w.heap.size]? = some (.loop { R .ready none with state := .busy }) := by
      rw [← hW2]; exact World.putObj_heap_same (Array.getElem?_eq_some_iff.1 hl).1
    have hp2 : Kp W W2 := by rw [← hW2]; exact hKb _ _ _ (Nat.le_refl _)
    have hi2 : I pre W2 := by rw [← hW2]; exact hI _ _ _ hi (far _ hl (Nat.le_refl _))
    rw [hW2]
    refine wpIn_mono (hbody _ pre x W2 hi2 hsp (Nat.le_refl _) ⟨_, hl2⟩) ?_
    have fin : ∀ (jump : Option Code) (W3 : World), KeepsOthers W2 W3 → W3.heap[w.heap.size]? = some (.loop { R .ready none with state := .busy }) ∧
        (Instr.endRound w.heap.size jump).run P W3 = .ok (.bool jump.isNone) (W3.putObj w.heap.size (.loop (R (if jump.isNone then .ready else .done) jump))) ∧
        (W3.putObj w.heap.size (.loop (R (if jump.isNone then .ready else .done) jump))).heap[w.heap.size]? = some (.loop (R (if jump.isNone then .ready else .done) jump)) := fun jump W3 h3 => by
      have hl3 := h3.same _ _ hl2 rfl
      have := run_endRound (P := P) jump hl3
      rw [hR] at this ⊢
      exact ⟨by rw [hR] at hl3; exact hl3, this, World.putObj_heap_same (Array.getElem?_eq_some_iff.1 hl3).1⟩
    rintro e a3 W3 hp
    cases e with
    | normal =>
      obtain ⟨h3, hkp, hi3⟩ := hp
      obtain ⟨hl3, hr, hl4⟩ := fin none W3 h3
      exact ⟨_, _, hr, .inl ⟨rfl, ⟨hI _ _ _ hi3 (far _ hl3 (Nat.le_refl _)), hl4⟩, hKt (hKt hp2 hkp) (hKb _ _ _ (Nat.le_refl _))⟩⟩
    | ret =>
      obtain ⟨h3, hi3⟩ := hp
      obtain ⟨hl3, hr, hl4⟩ := fin (some .ret) W3 h3
      exact ⟨_, _, hr, .inr ⟨rfl, .ret, hIx _ _ _ _ hi3 (far _ hl3 (Nat.le_refl _)), hl4⟩⟩
    | exit id =>
      obtain ⟨h3, hi3⟩ := hp
      obtain ⟨hl3, hr, hl4⟩ := fin (some (.exit id)) W3 h3
      exact ⟨_, _, hr, .inr ⟨rfl, .exit id, hIx _ _ _ _ hi3 (far _ hl3 (Nat.le_refl _)), hl4⟩⟩
    | goto t =>
      obtain ⟨h3, hi3⟩ := hp
      obtain ⟨hl3, hr, hl4⟩ := fin (some (.goto t)) W3 h3
      exact ⟨_, _, hr, .inr ⟨rfl, .goto t, hIx _ _ _ _ hi3 (far _ hl3 (Nat.le_refl _)), hl4⟩⟩
    | panic ch => exact hp.elim
    | outgrown => exact hp.elim
  · rintro e W2 ⟨⟨v, rfl⟩, (⟨xs, hS, hi, hl⟩ | ⟨pre, hSp, c, hi, hl⟩)⟩
    · exact ⟨none, _, by have := run_endLoop (P := P) hl (by rw [hR]; simp); rw [hR] at this; exact this, hdone xs _ hS (hI _ _ _ hi (far _ hl (Nat.le_refl _)))⟩
    · exact ⟨some c, _, by have := run_endLoop (P := P) hl (by rw [hR]; simp); rw [hR] at this; exact this, hstop c pre _ hSp (hIx c _ _ _ hi (far _ hl (Nat.le_refl _)))⟩

/-- A contract of an iterator goes into a round as it is. -/
theorem SeqM.inRound {α : Type} {g : Nat} {lb : Array Value} {encs : α → Array Value} {M : Nat → Prop} {Kp : World → World → Prop} {S Sp : List α → Prop} {St : World → Prop} (l : Nat)
    (h : SeqM F n P g lb encs M Kp S Sp St) : SeqM (F.inRound l) n P g lb encs M Kp S Sp St := h

theorem Fr.isCells {M : Nat → Prop} {A B : World} {k : Nat} {o : Obj} (f : Fr M A B) (h : A.heap[k]? = some o) (hm : ¬ M k) : B.heap[k]? = some o := f.at h hm

/-- What lay in W0 and is no cells abides what is done to newer blocks. -/
theorem abide_keeps {β : Type} {base : Nat} {W0 : World} (hb : W0.heap.size ≤ base) : AbideN base None' (fun (_ : β) W => KeepsOthers W0 W) := fun _ A B h f =>
  ⟨Nat.le_trans h.size f.size, fun k o hk ho => f.at (h.same k o hk ho) (fun e => by
    rcases e with e | ⟨e, _⟩
    · exact e
    · have := (Array.getElem?_eq_some_iff.1 hk).1; omega)⟩

end Go.Proofs.YtpfkkpghgmmijaaGreatDoor.Diff

namespace Go.Proofs.YtpfkkpghgmmijaaGreatDoor.Diff
open Go.RowKit Go.Shelf
set_option maxRecDepth 100000
attribute [local go_sem] Oper.semAt_some

/-- The blocks that R names lie as they lay. -/
structure KeepB (R : Nat → Prop) (W W' : World) : Prop where
  size : W.heap.size ≤ W'.heap.size
  same : ∀ k, R k → k < W.heap.size → W'.heap[k]? = W.heap[k]?

theorem KeepB.refl (R : Nat → Prop) (W : World) : KeepB R W W := ⟨Nat.le_refl _, fun _ _ _ => rfl⟩
theorem KeepB.trans {R : Nat → Prop} {A B C : World} (h : KeepB R A B) (k : KeepB R B C) : KeepB R A C := ⟨Nat.le_trans h.size k.size, fun i hi hl => (k.same i hi (by have := h.size; omega)).trans (h.same i hi hl)⟩
theorem KeepB.put {R : Nat → Prop} (W : World) {l : Nat} (hl : ∀ k, R k → k ≠ l) (o : Obj) : KeepB R W (W.putObj l o) := ⟨by simp, fun k hk _ => World.putObj_heap_other (fun e => hl k hk e)⟩
theorem KeepB.of {R M : Nat → Prop} {W W' : World} (f : Fr M W W') (h : ∀ k, R k → ¬ M k) : KeepB R W W' := ⟨f.size, fun k hk hl => f.block k hl (h k hk)⟩
theorem KeepB.cell {R : Nat → Prop} {W W' : World} (h : KeepB R W W') {a : Addr} {v : Value} (hc : W.cell? a = some v) (hr : R a.block) : W'.cell? a = some v := by
  have := h.same a.block hr (cell_lt hc)
  unfold World.cell? at hc ⊢
  rw [this]; exact hc
theorem KeepB.row {R : Nat → Prop} {W W' : World} (h : KeepB R W W') {va : Option Addr} {L : List Value} (hr : RowV W va L) (hR : ∀ a, va = some a → R a.block) : RowV W' va L := fun j v hj => by
  obtain ⟨g, o, e, hc⟩ := hr j v hj
  exact ⟨g, o, e, h.cell hc (hR ⟨g, o, none⟩ e)⟩

/-- The blocks that Backward reads. -/
def BackR (b : Nat) (va : Option Addr) : Nat → Prop := fun k => k = b ∨ ∃ a, va = some a ∧ k = a.block

/-- The t-th from behind, and the first m of them. -/
def elB (L : List Value) (t : Nat) : Nat × Value := (L.length - 1 - t, L[L.length - 1 - t]?.getD (.bool false))
def uptoB (L : List Value) (m : Nat) : List (Nat × Value) := (List.range m).map (elB L)

theorem uptoB_succ (L : List Value) (m : Nat) : uptoB L (m + 1) = uptoB L m ++ [elB L m] := by
  simp [uptoB, List.range_succ]

theorem uptoB_length (L : List Value) (m : Nat) : (uptoB L m).length = m := by simp [uptoB]

theorem uptoB_snoc {L : List Value} {pre : List (Nat × Value)} {x : Nat × Value} {m : Nat} (h : pre ++ [x] = uptoB L m) : ∃ t, m = t + 1 ∧ pre = uptoB L t ∧ x = elB L t := by
  have hl := congrArg List.length h
  rw [uptoB_length, List.length_append] at hl
  cases m with
  | zero => simp at hl
  | succ t =>
    rw [uptoB_succ] at h
    obtain ⟨h1, h2⟩ := List.append_inj' h rfl
    exact ⟨t, rfl, h1, by simpa using h2⟩

theorem elB_get {L : List Value} {t k : Nat} (h : t + k + 1 = L.length) : elB L t = (k, L[k]'(by omega)) := by
  unfold elB
  rw [show L.length - 1 - t = k by omega, List.getElem?_eq_getElem (by omega)]
  rfl

end Go.Proofs.YtpfkkpghgmmijaaGreatDoor.Diff
