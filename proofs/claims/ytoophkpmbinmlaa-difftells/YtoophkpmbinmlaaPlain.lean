/-
  What is proved here: plain facts on rows of lines: how many can be kept of two rows, the document's hunks, what hunks make, and what they cost. No condition.
-/
import Derived.KernelRfl
namespace Go.Proofs.Ytoophkpmbinmlaa

section
variable {α : Type} [DecidableEq α]
set_option linter.unusedSectionVars false

/-- How many can be kept of both, in order. -/
def lcs : List α → List α → Nat
  | [], _ => 0
  | _ :: _, [] => 0
  | x :: a, y :: b => if x = y then lcs a b + 1 else max (lcs a (y :: b)) (lcs (x :: a) b)
termination_by a b => a.length + b.length

theorem lcs_nil (b : List α) : lcs ([] : List α) b = 0 := by rw [lcs]
theorem lcs_nil' (a : List α) : lcs a ([] : List α) = 0 := by cases a <;> rw [lcs]
theorem lcs_same (x : α) (a b : List α) : lcs (x :: a) (x :: b) = lcs a b + 1 := by rw [lcs, if_pos rfl]
theorem lcs_ne {x y : α} (h : ¬ x = y) (a b : List α) : lcs (x :: a) (y :: b) = max (lcs a (y :: b)) (lcs (x :: a) b) := by rw [lcs, if_neg h]

theorem lcs_has (a b : List α) : ∃ l : List α, l.Sublist a ∧ l.Sublist b ∧ l.length = lcs a b := by
  induction a, b using lcs.induct with
  | case1 b => exact ⟨[], List.nil_sublist _, List.nil_sublist _, by rw [lcs_nil]; rfl⟩
  | case2 x a => exact ⟨[], List.nil_sublist _, List.nil_sublist _, by rw [lcs_nil']; rfl⟩
  | case3 a x b ih =>
    obtain ⟨l, h1, h2, h3⟩ := ih
    exact ⟨x :: l, h1.cons_cons x, h2.cons_cons x, by rw [lcs_same, List.length_cons, h3]⟩
  | case4 x a y b h ih1 ih2 =>
    rw [lcs_ne h]
    obtain ⟨l, h1, h2, h3⟩ := ih1
    obtain ⟨m, k1, k2, k3⟩ := ih2
    rcases Nat.le_total (lcs a (y :: b)) (lcs (x :: a) b) with hle | hle
    · rw [Nat.max_eq_right hle]; exact ⟨m, k1, k2.cons y, k3⟩
    · rw [Nat.max_eq_left hle]; exact ⟨l, h1.cons x, h2, h3⟩

theorem tail_sub {l a : List α} {x : α} (h : l.Sublist (x :: a)) : l.tail.Sublist a := by
  cases h with
  | cons _ h => exact (List.tail_sublist l).trans h
  | cons_cons _ h => exact h

theorem lcs_max (a b : List α) : ∀ l : List α, l.Sublist a → l.Sublist b → l.length ≤ lcs a b := by
  induction a, b using lcs.induct with
  | case1 b => intro l h _; rw [List.sublist_nil.1 h]; exact Nat.zero_le _
  | case2 x a => intro l _ h; rw [List.sublist_nil.1 h]; exact Nat.zero_le _
  | case3 a x b ih =>
    intro l h k
    rw [lcs_same]
    have := ih l.tail (tail_sub h) (tail_sub k)
    rw [List.length_tail] at this
    omega
  | case4 x a y b hne ih1 ih2 =>
    intro l h k
    rw [lcs_ne hne]
    cases h with
    | cons _ h => exact Nat.le_trans (ih1 l h k) (Nat.le_max_left _ _)
    | @cons_cons l' _ _ h =>
      refine Nat.le_trans (ih2 _ (h.cons_cons x) ?_) (Nat.le_max_right _ _)
      cases k with
      | cons _ k => exact k
      | cons_cons _ k => exact absurd rfl hne

theorem lcs_mono {a a' b b' : List α} (ha : a.Sublist a') (hb : b.Sublist b') : lcs a b ≤ lcs a' b' := by
  obtain ⟨l, h1, h2, h3⟩ := lcs_has a b
  rw [← h3]
  exact lcs_max _ _ l (h1.trans ha) (h2.trans hb)

theorem lcs_symm (a b : List α) : lcs a b = lcs b a := by
  apply Nat.le_antisymm
  · obtain ⟨l, h1, h2, h3⟩ := lcs_has a b; rw [← h3]; exact lcs_max _ _ l h2 h1
  · obtain ⟨l, h1, h2, h3⟩ := lcs_has b a; rw [← h3]; exact lcs_max _ _ l h2 h1

theorem lcs_le (a b : List α) : lcs a b ≤ a.length ∧ lcs a b ≤ b.length := by
  obtain ⟨l, h1, h2, h3⟩ := lcs_has a b
  rw [← h3]; exact ⟨h1.length_le, h2.length_le⟩

/-- One more on the left: at most one more can be kept. -/
theorem lcs_one (p s b : List α) (x : α) : lcs (p ++ x :: s) b ≤ lcs (p ++ s) b + 1 := by
  obtain ⟨l, h1, h2, h3⟩ := lcs_has (p ++ x :: s) b
  rw [← h3]
  obtain ⟨l1, l2, rfl, k1, k2⟩ := List.sublist_append_iff.1 h1
  have k3 := tail_sub k2
  have k4 : (l1 ++ l2.tail).Sublist b := ((List.Sublist.refl l1).append (List.tail_sublist l2)).trans h2
  have := lcs_max (p ++ s) b _ (k1.append k3) k4
  rw [List.length_append, List.length_tail] at this
  rw [List.length_append]
  omega

theorem lcs_some (p o s b : List α) : lcs (p ++ o ++ s) b ≤ lcs (p ++ s) b + o.length := by
  induction o generalizing p with
  | nil => simp
  | cons x o ih =>
    have h1 := lcs_one p (o ++ s) b x
    have h2 := ih p
    simp only [List.append_assoc, List.cons_append, List.length_cons] at *
    omega

theorem lcs_cons_le (x : α) (a b : List α) : lcs a b ≤ lcs (x :: a) b ∧ lcs (x :: a) b ≤ lcs a b + 1 :=
  ⟨lcs_mono (List.sublist_cons_self x a) (List.Sublist.refl b), lcs_one [] a b x⟩
theorem lcs_cons_le' (y : α) (a b : List α) : lcs a b ≤ lcs a (y :: b) ∧ lcs a (y :: b) ≤ lcs a b + 1 := by
  rw [lcs_symm a b, lcs_symm a (y :: b)]; exact lcs_cons_le y b a

/-- As the document's table reckons it. -/
theorem lcs_table (x y : α) (a b : List α) : lcs (x :: a) (y :: b) = if x = y then max (max (lcs a (y :: b)) (lcs (x :: a) b)) (lcs a b + 1) else max (lcs a (y :: b)) (lcs (x :: a) b) := by
  split
  · rename_i h
    subst h
    have h1 := (lcs_cons_le' x a b).2
    have h2 := (lcs_cons_le x a b).2
    rw [lcs_same]
    omega
  · rename_i h; exact lcs_ne h a b

theorem lcs_pre (p a b : List α) : lcs (p ++ a) (p ++ b) = p.length + lcs a b := by
  induction p with
  | nil => simp
  | cons x p ih => rw [List.cons_append, List.cons_append, lcs_same, ih, List.length_cons]; omega

theorem lcs_rev (a b : List α) : lcs a.reverse b.reverse = lcs a b := by
  apply Nat.le_antisymm
  · obtain ⟨l, h1, h2, h3⟩ := lcs_has a.reverse b.reverse
    rw [← h3, ← List.length_reverse]
    have k1 := h1.reverse
    have k2 := h2.reverse
    rw [List.reverse_reverse] at k1 k2
    exact lcs_max _ _ _ k1 k2
  · obtain ⟨l, h1, h2, h3⟩ := lcs_has a b
    rw [← h3, ← List.length_reverse]
    exact lcs_max _ _ _ h1.reverse h2.reverse

theorem lcs_behind (s a b : List α) : lcs (a ++ s) (b ++ s) = lcs a b + s.length := by
  rw [← lcs_rev, List.reverse_append, List.reverse_append, lcs_pre, lcs_rev, List.length_reverse]; omega

theorem lcs_around (p s a b : List α) : lcs (p ++ a ++ s) (p ++ b ++ s) = p.length + lcs a b + s.length := by
  rw [lcs_behind, lcs_pre]

/-- A hunk: where, what goes, what comes. -/
structure Hk (α : Type) where
  at' : Nat
  o : List α
  n : List α
  deriving DecidableEq

def flush (at' : Nat) (o n : List α) (r : List (Hk α)) : List (Hk α) := if o = [] ∧ n = [] then r else ⟨at', o, n⟩ :: r

/-- The document's hunks of a and b, where o and n have gone and come since the last line that stays. -/
def hunks (at' : Nat) (o n : List α) : List α → List α → List (Hk α)
  | [], [] => flush at' o n []
  | x :: a, [] => hunks at' (o ++ [x]) n a []
  | [], y :: b => hunks at' o (n ++ [y]) [] b
  | x :: a, y :: b =>
    if x = y then flush at' o n (hunks (at' + n.length + 1) [] [] a b)
    else if lcs (x :: a) b ≤ lcs a (y :: b) then hunks at' (o ++ [x]) n a (y :: b) else hunks at' o (n ++ [y]) (x :: a) b
termination_by a b => a.length + b.length

def diffs (a b : List α) : List (Hk α) := hunks 0 [] [] a b

theorem hunks_nn (k : Nat) (o n : List α) : hunks k o n [] [] = flush k o n [] := by rw [hunks]
theorem hunks_cn (k : Nat) (o n : List α) (x : α) (a : List α) : hunks k o n (x :: a) [] = hunks k (o ++ [x]) n a [] := by rw [hunks]
theorem hunks_nc (k : Nat) (o n : List α) (y : α) (b : List α) : hunks k o n [] (y :: b) = hunks k o (n ++ [y]) [] b := by rw [hunks]
theorem hunks_same (k : Nat) (o n : List α) (x : α) (a b : List α) : hunks k o n (x :: a) (x :: b) = flush k o n (hunks (k + n.length + 1) [] [] a b) := by rw [hunks, if_pos rfl]
theorem hunks_goes (k : Nat) (o n : List α) {x y : α} (a b : List α) (h : ¬ x = y) (hg : lcs (x :: a) b ≤ lcs a (y :: b)) : hunks k o n (x :: a) (y :: b) = hunks k (o ++ [x]) n a (y :: b) := by rw [hunks, if_neg h, if_pos hg]
theorem hunks_comes (k : Nat) (o n : List α) {x y : α} (a b : List α) (h : ¬ x = y) (hg : ¬ lcs (x :: a) b ≤ lcs a (y :: b)) : hunks k o n (x :: a) (y :: b) = hunks k o (n ++ [y]) (x :: a) b := by rw [hunks, if_neg h, if_neg hg]

theorem hunks_pre (p : List α) : ∀ (k : Nat) (a b : List α), hunks k [] [] (p ++ a) (p ++ b) = hunks (k + p.length) [] [] a b := by
  induction p with
  | nil => intro k a b; rfl
  | cons x p ih =>
    intro k a b
    rw [List.cons_append, List.cons_append, hunks_same]
    show hunks (k + 0 + 1) [] [] (p ++ a) (p ++ b) = _
    rw [ih, List.length_cons]
    congr 1
    omega

/-- What a hunk makes of lines. -/
def apply1 (l : List α) (h : Hk α) : Option (List α) := if h.at' ≤ l.length ∧ (l.drop h.at').take h.o.length = h.o then some (l.take h.at' ++ h.n ++ l.drop (h.at' + h.o.length)) else none

def applyAll : List α → List (Hk α) → Option (List α)
  | l, [] => some l
  | l, h :: r => match apply1 l h with
    | some l' => applyAll l' r
    | none => none

def cost (l : List (Hk α)) : Nat := (l.map (fun h => h.o.length + h.n.length)).sum

theorem cost_cons (h : Hk α) (l : List (Hk α)) : cost (h :: l) = h.o.length + h.n.length + cost l := by simp [cost]

theorem apply1_mk (p o n s : List α) : apply1 (p ++ o ++ s) ⟨p.length, o, n⟩ = some (p ++ n ++ s) := by
  unfold apply1
  have h1 : (p ++ o ++ s).drop p.length = o ++ s := by rw [List.append_assoc, List.drop_left]
  rw [if_pos ⟨by simp, by show ((p ++ o ++ s).drop p.length).take o.length = o; rw [h1, List.take_left]⟩]
  have h2 : (p ++ o ++ s).drop (p.length + o.length) = s := by rw [← List.drop_drop, h1, List.drop_left]
  have h3 : (p ++ o ++ s).take p.length = p := by rw [List.append_assoc, List.take_left]
  show some ((p ++ o ++ s).take p.length ++ n ++ (p ++ o ++ s).drop (p.length + o.length)) = _
  rw [h2, h3]

theorem apply1_some {l l' : List α} {h : Hk α} (e : apply1 l h = some l') : ∃ p s, l = p ++ h.o ++ s ∧ p.length = h.at' ∧ l' = p ++ h.n ++ s := by
  unfold apply1 at e
  split at e
  · rename_i hc
    cases e
    refine ⟨l.take h.at', l.drop (h.at' + h.o.length), ?_, by rw [List.length_take]; omega, rfl⟩
    conv => lhs; rw [← List.take_append_drop h.at' l, ← List.take_append_drop h.o.length (l.drop h.at'), hc.2, List.drop_drop]
    rw [List.append_assoc]
  · cases e

theorem applyAll_flush (p o n s : List α) (r : List (Hk α)) : applyAll (p ++ o ++ s) (flush p.length o n r) = applyAll (p ++ n ++ s) r := by
  unfold flush
  split
  · rename_i h; rw [h.1, h.2]
  · rw [applyAll, apply1_mk]

/-- Done one behind the other they make b of a. -/
theorem hunks_make : ∀ (p o n a b : List α), applyAll (p ++ o ++ a) (hunks p.length o n a b) = some (p ++ n ++ b) := by
  intro p o n a b
  induction h : a.length + b.length using Nat.strongRecOn generalizing p o n a b with
  | ind m ih =>
    subst h
    match a, b with
    | [], [] => rw [hunks_nn, applyAll_flush]; rfl
    | x :: a, [] =>
      rw [hunks_cn, show p ++ o ++ x :: a = p ++ (o ++ [x]) ++ a by simp]
      exact ih _ (by simp) p (o ++ [x]) n a [] rfl
    | [], y :: b =>
      rw [hunks_nc, show p ++ n ++ y :: b = p ++ (n ++ [y]) ++ b by simp]
      exact ih _ (by simp) p o (n ++ [y]) [] b rfl
    | x :: a, y :: b =>
      by_cases hxy : x = y
      · subst hxy
        rw [hunks_same, applyAll_flush]
        have := ih _ (by simp; omega) (p ++ n ++ [x]) [] [] a b rfl
        rw [show (p ++ n ++ [x]).length = p.length + n.length + 1 by simp; omega] at this
        simpa using this
      · by_cases hg : lcs (x :: a) b ≤ lcs a (y :: b)
        · rw [hunks_goes _ _ _ _ _ hxy hg, show p ++ o ++ x :: a = p ++ (o ++ [x]) ++ a by simp]
          exact ih _ (by simp) p (o ++ [x]) n a (y :: b) rfl
        · rw [hunks_comes _ _ _ _ _ hxy hg, show p ++ n ++ y :: b = p ++ (n ++ [y]) ++ b by simp]
          exact ih _ (by simp) p o (n ++ [y]) (x :: a) b rfl

theorem diffs_make (a b : List α) : applyAll a (diffs a b) = some b := hunks_make [] [] [] a b

/-- None is empty, and between two a line stays. -/
def Spread : Int → List (Hk α) → Prop
  | _, [] => True
  | last, h :: r => 0 < h.o.length + h.n.length ∧ last < h.at' ∧ Spread (h.at' + h.n.length : Nat) r

theorem spread_mono {l l' : Int} {r : List (Hk α)} (h : Spread l r) (hl : l' ≤ l) : Spread l' r := by
  cases r with
  | nil => trivial
  | cons x r => exact ⟨h.1, by have := h.2.1; omega, h.2.2⟩

theorem spread_flush {k : Nat} {o n : List α} {r : List (Hk α)} {last : Int} (hk : last < k) (h : Spread (k + n.length : Nat) r) : Spread last (flush k o n r) := by
  unfold flush
  split
  · exact spread_mono h (by omega)
  · rename_i hc
    refine ⟨?_, hk, h⟩
    show 0 < o.length + n.length
    cases o with
    | nil => cases n with
      | nil => exact absurd ⟨rfl, rfl⟩ hc
      | cons => simp
    | cons => simp; omega

theorem hunks_spread : ∀ (k : Nat) (o n a b : List α) (last : Int), last < k → Spread last (hunks k o n a b) := by
  intro k o n a b
  induction h : a.length + b.length using Nat.strongRecOn generalizing k o n a b with
  | ind m ih =>
    subst h
    intro last hl
    match a, b with
    | [], [] => rw [hunks_nn]; exact spread_flush hl trivial
    | x :: a, [] => rw [hunks_cn]; exact ih _ (by simp) k (o ++ [x]) n a [] rfl last hl
    | [], y :: b => rw [hunks_nc]; exact ih _ (by simp) k o (n ++ [y]) [] b rfl last hl
    | x :: a, y :: b =>
      by_cases hxy : x = y
      · subst hxy
        rw [hunks_same]
        exact spread_flush hl (ih _ (by simp; omega) _ [] [] a b rfl _ (by omega))
      · by_cases hg : lcs (x :: a) b ≤ lcs a (y :: b)
        · rw [hunks_goes _ _ _ _ _ hxy hg]; exact ih _ (by simp) k (o ++ [x]) n a (y :: b) rfl last hl
        · rw [hunks_comes _ _ _ _ _ hxy hg]; exact ih _ (by simp) k o (n ++ [y]) (x :: a) b rfl last hl

theorem diffs_spread (a b : List α) : Spread (-1) (diffs a b) := hunks_spread 0 [] [] a b (-1) (by decide)

theorem cost_flush (k : Nat) (o n : List α) (r : List (Hk α)) : cost (flush k o n r) = o.length + n.length + cost r := by
  unfold flush
  split
  · rename_i h; rw [h.1, h.2]; simp
  · rw [cost_cons]

theorem hunks_cost : ∀ (k : Nat) (o n a b : List α), cost (hunks k o n a b) + 2 * lcs a b = o.length + n.length + a.length + b.length := by
  intro k o n a b
  induction h : a.length + b.length using Nat.strongRecOn generalizing k o n a b with
  | ind m ih =>
    subst h
    match a, b with
    | [], [] => rw [hunks_nn, cost_flush, lcs_nil]; simp [cost]
    | x :: a, [] =>
      have := ih _ (by simp) k (o ++ [x]) n a [] rfl
      rw [hunks_cn]; rw [lcs_nil'] at this ⊢; simp at this ⊢; omega
    | [], y :: b =>
      have := ih _ (by simp) k o (n ++ [y]) [] b rfl
      rw [hunks_nc]; rw [lcs_nil] at this ⊢; simp at this ⊢; omega
    | x :: a, y :: b =>
      by_cases hxy : x = y
      · subst hxy
        have := ih _ (by simp; omega) (k + n.length + 1) [] [] a b rfl
        rw [hunks_same, cost_flush, lcs_same]; simp at this ⊢; omega
      · by_cases hg : lcs (x :: a) b ≤ lcs a (y :: b)
        · have := ih _ (by simp) k (o ++ [x]) n a (y :: b) rfl
          rw [hunks_goes _ _ _ _ _ hxy hg, lcs_ne hxy, Nat.max_eq_left hg]; simp at this ⊢; omega
        · have := ih _ (by simp) k o (n ++ [y]) (x :: a) b rfl
          rw [hunks_comes _ _ _ _ _ hxy hg, lcs_ne hxy, Nat.max_eq_right (by omega)]; simp at this ⊢; omega

theorem diffs_cost (a b : List α) : cost (diffs a b) + 2 * lcs a b = a.length + b.length := by have := hunks_cost 0 [] [] a b; simp at this; exact this

/-- No hunks that make b of a cost less. -/
theorem least : ∀ (l : List (Hk α)) (a b : List α), applyAll a l = some b → a.length + b.length ≤ cost l + 2 * lcs a b := by
  intro l
  induction l with
  | nil =>
    intro a b h
    simp only [applyAll, Option.some.injEq] at h
    subst h
    have := lcs_max a a a (List.Sublist.refl a) (List.Sublist.refl a)
    omega
  | cons h l ih =>
    intro a b e
    rw [applyAll] at e
    cases h1 : apply1 a h with
    | none => rw [h1] at e; cases e
    | some a' =>
      rw [h1] at e
      have k := ih a' b e
      obtain ⟨p, s, rfl, _, rfl⟩ := apply1_some h1
      have k1 := lcs_some p h.n s b
      have k2 : lcs (p ++ s) b ≤ lcs (p ++ h.o ++ s) b := lcs_mono ((List.sublist_append_left p h.o).append (List.Sublist.refl s)) (List.Sublist.refl b)
      rw [cost_cons]
      simp only [List.length_append] at k ⊢
      omega

theorem diffs_nil_iff (a b : List α) : diffs a b = [] ↔ a = b := by
  constructor
  · intro h
    have := diffs_make a b
    rw [h] at this
    simpa [applyAll] using this
  · rintro rfl
    have h := hunks_pre a 0 [] []
    rw [List.append_nil, hunks_nn] at h
    exact h

/-- There and back. -/
theorem apply1_back {l l' : List α} {h : Hk α} (e : apply1 l h = some l') : apply1 l' ⟨h.at', h.n, h.o⟩ = some l ∧ l'.length = l.length - h.o.length + h.n.length ∧ h.o.length ≤ l.length := by
  obtain ⟨p, s, rfl, hp, rfl⟩ := apply1_some e
  rw [← hp, apply1_mk]
  exact ⟨rfl, by simp; omega, by simp; omega⟩

end

/-- Numbers that can be kept, with minus infinity: none. -/
def kmax : Option Nat → Option Nat → Option Nat
  | none, v => v
  | some u, none => some u
  | some u, some v => some (max u v)

def klt : Option Nat → Option Nat → Bool
  | _, none => false
  | none, some _ => true
  | some u, some v => decide (u < v)

def kgeq (u v : Option Nat) : Bool := !klt u v

def kept : List Int → List Int → Option Nat
  | [], [] => some 0
  | [], _ :: _ => none
  | _ :: _, [] => none
  | x :: a, y :: b => if x = y then (kept a b).map (· + 1) else kmax (kept (x :: a) b) (kept a (y :: b))
termination_by a b => a.length + b.length

theorem kept_cn (x : Int) (a : List Int) : kept (x :: a) [] = none := by rw [kept]
theorem kept_nc (y : Int) (b : List Int) : kept [] (y :: b) = none := by rw [kept]
theorem kept_nn : kept [] [] = some 0 := by rw [kept]
theorem kept_same (x : Int) (a b : List Int) : kept (x :: a) (x :: b) = (kept a b).map (· + 1) := by rw [kept, if_pos rfl]
theorem kept_ne {x y : Int} (h : ¬ x = y) (a b : List Int) : kept (x :: a) (y :: b) = kmax (kept (x :: a) b) (kept a (y :: b)) := by rw [kept, if_neg h]

theorem kmax_lt (u v : Option Nat) : kmax u v = if klt u v then v else u := by
  cases u <;> cases v <;> simp only [kmax, klt, decide_eq_true_eq, if_false, if_true, Bool.false_eq_true]
  split
  · congr 1; omega
  · congr 1; omega

/-- With the ends behind them one more can be kept. -/
theorem kept_ends : ∀ (a b : List Int), (0 : Int) ∉ a → (0 : Int) ∉ b → kept (a ++ [0]) (b ++ [0]) = some (lcs a b + 1) := by
  intro a b
  induction h : a.length + b.length using Nat.strongRecOn generalizing a b with
  | ind m ih =>
    subst h
    intro ha hb
    match a, b with
    | [], [] => rw [lcs_nil]; show kept [0] [0] = _; rw [kept_same, kept_nn]; rfl
    | x :: a, [] =>
      have h1 := ih _ (by simp) a [] rfl (fun h => ha (List.mem_cons_of_mem _ h)) hb
      have hx : ¬ x = 0 := fun e => ha (e ▸ List.mem_cons_self)
      rw [List.cons_append, List.nil_append, kept_ne hx, kept_cn, lcs_nil']
      rw [List.nil_append, lcs_nil'] at h1
      rw [h1]; rfl
    | [], y :: b =>
      have h1 := ih _ (by simp) [] b rfl ha (fun h => hb (List.mem_cons_of_mem _ h))
      have hy : ¬ (0 : Int) = y := fun e => hb (e ▸ List.mem_cons_self)
      rw [List.cons_append, List.nil_append, kept_ne hy, kept_nc, lcs_nil]
      rw [List.nil_append, lcs_nil] at h1
      rw [h1]; rfl
    | x :: a, y :: b =>
      have ha' : (0 : Int) ∉ a := fun h => ha (List.mem_cons_of_mem _ h)
      have hb' : (0 : Int) ∉ b := fun h => hb (List.mem_cons_of_mem _ h)
      by_cases hxy : x = y
      · subst hxy
        rw [List.cons_append, List.cons_append, kept_same, ih _ (by simp; omega) a b rfl ha' hb', lcs_same]; rfl
      · have h1 := ih _ (by simp) (x :: a) b rfl ha hb'
        have h2 := ih _ (by simp) a (y :: b) rfl ha' hb
        rw [List.cons_append] at h1 h2
        rw [List.cons_append, List.cons_append, kept_ne hxy, h1, h2, lcs_ne hxy]
        show some (max _ _) = some _
        congr 1
        omega

/-- What can be kept is at most what there is. -/
theorem kept_le : ∀ (a b : List Int) (k : Nat), kept a b = some k → k ≤ a.length := by
  intro a b
  induction h : a.length + b.length using Nat.strongRecOn generalizing a b with
  | ind m ih =>
    subst h
    intro k hk
    match a, b with
    | [], [] => rw [kept_nn] at hk; cases hk; exact Nat.zero_le _
    | x :: a, [] => rw [kept_cn] at hk; cases hk
    | [], y :: b => rw [kept_nc] at hk; cases hk
    | x :: a, y :: b =>
      by_cases hxy : x = y
      · subst hxy
        rw [kept_same] at hk
        cases h1 : kept a b with
        | none => rw [h1] at hk; cases hk
        | some j =>
          rw [h1] at hk
          have := ih _ (by simp; omega) a b rfl j h1
          cases hk
          simp; omega
      · rw [kept_ne hxy] at hk
        cases h1 : kept (x :: a) b with
        | none =>
          rw [h1] at hk
          have := ih _ (by simp) a (y :: b) rfl k hk
          simp; omega
        | some j =>
          have k1 := ih _ (by simp) (x :: a) b rfl j h1
          cases h2 : kept a (y :: b) with
          | none => rw [h1, h2] at hk; cases hk; exact k1
          | some i =>
            have k2 := ih _ (by simp) a (y :: b) rfl i h2
            rw [h1, h2] at hk
            cases hk
            simp at k1 ⊢; omega

/-- A row: what can be kept of a and of b from each place on. -/
def rowK (a : List Int) (b : List Int) (j : Nat) : Option Nat := kept a (b.drop j)

end Go.Proofs.Ytoophkpmbinmlaa
