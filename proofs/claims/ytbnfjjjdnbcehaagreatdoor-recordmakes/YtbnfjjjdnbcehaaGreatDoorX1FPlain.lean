/- What is proved here: contracts for RecordMakes. Conditions: as named. -/
import Derived.KernelRfl
import Derived.WalkKit
import Derived.WalkSpells
import Derived.Deep.OwnRows
import Derived.Deep.QuietTactic
import Derived.BigQuiet
import Derived.StillTailTactics
import Derived.Laws.Rows
import Derived.Test.YtbnfjjjdnbcehaaGreatDoorProg
import Derived.Maps.AppendAt
import Derived.Laws.AppendOwnNone
import Derived.OwnWalk
import Derived.Deep.AppendLies
import Derived.Laws.FloatArith
import Derived.Laws.Externs
import Derived.RangeFuncNested
import Derived.RangeFuncBound
import Derived.RangeFuncCalls
import Derived.RangeFuncLeaves
set_option maxHeartbeats 16000000
namespace Go.Proofs.YtbnfjjjdnbcehaaGreatDoor.Diff
section
variable {α : Type} [DecidableEq α]
set_option linter.unusedSectionVars false
def lcs : List α → List α → Nat
 | [], _ => 0
 | _ :: _, [] => 0
 | x :: a, y :: b => if x = y then lcs a b + 1 else max (lcs a (y :: b)) (lcs (x :: a) b)
termination_by a b => a.length + b.length
theorem lcs_nil (b : List α) : lcs ([] : List α) b = 0 := by rw [lcs]
theorem lcs_nil' (a : List α) : lcs a ([] : List α) = 0 := by cases a <;> rw [lcs]
theorem lcs_same (x : α) (a b : List α) : lcs (x :: a) (x :: b) = lcs a b + 1 := by rw [lcs, if_pos rfl]
theorem lcs_ne {x y : α} (h : ¬ x = y) (a b : List α) : lcs (x :: a) (y :: b) = max (lcs a (y :: b)) (lcs (x :: a) b) := by rw [lcs, if_neg h]
structure Hk (α : Type) where
 at' : Nat
 o : List α
 n : List α
 deriving DecidableEq
def flush (at' : Nat) (o n : List α) (r : List (Hk α)) : List (Hk α) := if o = [] ∧ n = [] then r else ⟨at', o, n⟩ :: r
def hunks (at' : Nat) (o n : List α) : List α → List α → List (Hk α)
 | [], [] => flush at' o n []
 | x :: a, [] => hunks at' (o ++ [x]) n a []
 | [], y :: b => hunks at' o (n ++ [y]) [] b
 | x :: a, y :: b =>
  if x = y then flush at' o n (hunks (at' + n.length + 1) [] [] a b)
  else if lcs (x :: a) b ≤ lcs a (y :: b) then hunks at' (o ++ [x]) n a (y :: b) else hunks at' o (n ++ [y]) (x :: a) b
termination_by a b => a.length + b.length
def diffs (a b : List α) : List (Hk α) := hunks 0 [] [] a b
theorem hunks_nn (k : Nat) (o n : List α) : hunks k o n [] [] = flush k o n [] := by rw [hunks]
theorem hunks_cn (k : Nat) (o n : List α) (x : α) (a : List α) : hunks k o n (x :: a) [] = hunks k (o ++ [x]) n a [] := by rw [hunks]
theorem hunks_nc (k : Nat) (o n : List α) (y : α) (b : List α) : hunks k o n [] (y :: b) = hunks k o (n ++ [y]) [] b := by rw [hunks]
theorem hunks_same (k : Nat) (o n : List α) (x : α) (a b : List α) : hunks k o n (x :: a) (x :: b) = flush k o n (hunks (k + n.length + 1) [] [] a b) := by rw [hunks, if_pos rfl]
theorem hunks_goes (k : Nat) (o n : List α) {x y : α} (a b : List α) (h : ¬ x = y) (hg : lcs (x :: a) b ≤ lcs a (y :: b)) : hunks k o n (x :: a) (y :: b) = hunks k (o ++ [x]) n a (y :: b) := by rw [hunks, if_neg h, if_pos hg]
theorem hunks_comes (k : Nat) (o n : List α) {x y : α} (a b : List α) (h : ¬ x = y) (hg : ¬ lcs (x :: a) b ≤ lcs a (y :: b)) : hunks k o n (x :: a) (y :: b) = hunks k o (n ++ [y]) (x :: a) b := by rw [hunks, if_neg h, if_neg hg]
theorem hunks_pre (p : List α) : ∀ (k : Nat) (a b : List α), hunks k [] [] (p ++ a) (p ++ b) = hunks (k + p.length) [] [] a b := by
 induction p with
 | nil => intro k a b; rfl
 | cons x p ih =>
  intro k a b
  rw [List.cons_append, List.cons_append, hunks_same]
  show hunks (k + 0 + 1) [] [] (p ++ a) (p ++ b) = _
  rw [ih, List.length_cons]
  congr 1
  omega
def apply1 (l : List α) (h : Hk α) : Option (List α) := if h.at' ≤ l.length ∧ (l.drop h.at').take h.o.length = h.o then some (l.take h.at' ++ h.n ++ l.drop (h.at' + h.o.length)) else none
def applyAll : List α → List (Hk α) → Option (List α)
 | l, [] => some l
 | l, h :: r => match apply1 l h with
  | some l' => applyAll l' r
  | none => none
def cost (l : List (Hk α)) : Nat := (l.map (fun h => h.o.length + h.n.length)).sum
theorem cost_cons (h : Hk α) (l : List (Hk α)) : cost (h :: l) = h.o.length + h.n.length + cost l := by simp [cost]
theorem apply1_mk (p o n s : List α) : apply1 (p ++ o ++ s) ⟨p.length, o, n⟩ = some (p ++ n ++ s) := by
 unfold apply1
 have h1 : (p ++ o ++ s).drop p.length = o ++ s := by rw [List.append_assoc, List.drop_left]
 rw [if_pos ⟨by simp, by show ((p ++ o ++ s).drop p.length).take o.length = o; rw [h1, List.take_left]⟩]
 have h2 : (p ++ o ++ s).drop (p.length + o.length) = s := by rw [← List.drop_drop, h1, List.drop_left]
 have h3 : (p ++ o ++ s).take p.length = p := by rw [List.append_assoc, List.take_left]
 show some ((p ++ o ++ s).take p.length ++ n ++ (p ++ o ++ s).drop (p.length + o.length)) = _
 rw [h2, h3]
theorem applyAll_flush (p o n s : List α) (r : List (Hk α)) : applyAll (p ++ o ++ s) (flush p.length o n r) = applyAll (p ++ n ++ s) r := by
 unfold flush
 split
 ·rename_i h; rw [h.1, h.2]
 ·rw [applyAll, apply1_mk]
theorem hunks_make : ∀ (p o n a b : List α), applyAll (p ++ o ++ a) (hunks p.length o n a b) = some (p ++ n ++ b) := by
 intro p o n a b
 induction h : a.length + b.length using Nat.strongRecOn generalizing p o n a b with
 | ind m ih =>
  subst h
  match a, b with
  | [], [] => rw [hunks_nn, applyAll_flush]; rfl
  | x :: a, [] =>
   rw [hunks_cn, show p ++ o ++ x :: a = p ++ (o ++ [x]) ++ a by simp]
   exact ih _ (by simp) p (o ++ [x]) n a [] rfl
  | [], y :: b =>
   rw [hunks_nc, show p ++ n ++ y :: b = p ++ (n ++ [y]) ++ b by simp]
   exact ih _ (by simp) p o (n ++ [y]) [] b rfl
  | x :: a, y :: b =>
   by_cases hxy : x = y
   ·subst hxy
    rw [hunks_same, applyAll_flush]
    have := ih _ (by simp; omega) (p ++ n ++ [x]) [] [] a b rfl
    rw [show (p ++ n ++ [x]).length = p.length + n.length + 1 by simp; omega] at this
    simpa using this
   ·by_cases hg : lcs (x :: a) b ≤ lcs a (y :: b)
    ·rw [hunks_goes _ _ _ _ _ hxy hg, show p ++ o ++ x :: a = p ++ (o ++ [x]) ++ a by simp]
     exact ih _ (by simp) p (o ++ [x]) n a (y :: b) rfl
    ·rw [hunks_comes _ _ _ _ _ hxy hg, show p ++ n ++ y :: b = p ++ (n ++ [y]) ++ b by simp]
     exact ih _ (by simp) p o (n ++ [y]) (x :: a) b rfl
theorem diffs_make (a b : List α) : applyAll a (diffs a b) = some b := hunks_make [] [] [] a b
def Spread : Int → List (Hk α) → Prop
 | _, [] => True
 | last, h :: r => 0 < h.o.length + h.n.length ∧ last < h.at' ∧ Spread (h.at' + h.n.length : Nat) r
theorem spread_mono {l l' : Int} {r : List (Hk α)} (h : Spread l r) (hl : l' ≤ l) : Spread l' r := by
 cases r with
 | nil => trivial
 | cons x r => exact ⟨h.1, by have := h.2.1; omega, h.2.2⟩
theorem spread_flush {k : Nat} {o n : List α} {r : List (Hk α)} {last : Int} (hk : last < k) (h : Spread (k + n.length : Nat) r) : Spread last (flush k o n r) := by
 unfold flush
 split
 ·exact spread_mono h (by omega)
 ·rename_i hc
  refine ⟨?_, hk, h⟩
  show 0 < o.length + n.length
  cases o with
  | nil => cases n with
   | nil => exact absurd ⟨rfl, rfl⟩ hc
   | cons => simp
  | cons => simp; omega
theorem hunks_spread : ∀ (k : Nat) (o n a b : List α) (last : Int), last < k → Spread last (hunks k o n a b) := by
 intro k o n a b
 induction h : a.length + b.length using Nat.strongRecOn generalizing k o n a b with
 | ind m ih =>
  subst h
  intro last hl
  match a, b with
  | [], [] => rw [hunks_nn]; exact spread_flush hl trivial
  | x :: a, [] => rw [hunks_cn]; exact ih _ (by simp) k (o ++ [x]) n a [] rfl last hl
  | [], y :: b => rw [hunks_nc]; exact ih _ (by simp) k o (n ++ [y]) [] b rfl last hl
  | x :: a, y :: b =>
   by_cases hxy : x = y
   ·subst hxy
    rw [hunks_same]
    exact spread_flush hl (ih _ (by simp; omega) _ [] [] a b rfl _ (by omega))
   ·by_cases hg : lcs (x :: a) b ≤ lcs a (y :: b)
    ·rw [hunks_goes _ _ _ _ _ hxy hg]; exact ih _ (by simp) k (o ++ [x]) n a (y :: b) rfl last hl
    ·rw [hunks_comes _ _ _ _ _ hxy hg]; exact ih _ (by simp) k o (n ++ [y]) (x :: a) b rfl last hl
theorem diffs_spread (a b : List α) : Spread (-1) (diffs a b) := hunks_spread 0 [] [] a b (-1) (by decide)
theorem cost_flush (k : Nat) (o n : List α) (r : List (Hk α)) : cost (flush k o n r) = o.length + n.length + cost r := by
 unfold flush
 split
 ·rename_i h; rw [h.1, h.2]; simp
 ·rw [cost_cons]
theorem hunks_cost : ∀ (k : Nat) (o n a b : List α), cost (hunks k o n a b) + 2 * lcs a b = o.length + n.length + a.length + b.length := by
 intro k o n a b
 induction h : a.length + b.length using Nat.strongRecOn generalizing k o n a b with
 | ind m ih =>
  subst h
  match a, b with
  | [], [] => rw [hunks_nn, cost_flush, lcs_nil]; simp [cost]
  | x :: a, [] =>
   have := ih _ (by simp) k (o ++ [x]) n a [] rfl
   rw [hunks_cn]; rw [lcs_nil'] at this ⊢; simp at this ⊢; omega
  | [], y :: b =>
   have := ih _ (by simp) k o (n ++ [y]) [] b rfl
   rw [hunks_nc]; rw [lcs_nil] at this ⊢; simp at this ⊢; omega
  | x :: a, y :: b =>
   by_cases hxy : x = y
   ·subst hxy
    have := ih _ (by simp; omega) (k + n.length + 1) [] [] a b rfl
    rw [hunks_same, cost_flush, lcs_same]; simp at this ⊢; omega
   ·by_cases hg : lcs (x :: a) b ≤ lcs a (y :: b)
    ·have := ih _ (by simp) k (o ++ [x]) n a (y :: b) rfl
     rw [hunks_goes _ _ _ _ _ hxy hg, lcs_ne hxy, Nat.max_eq_left hg]; simp at this ⊢; omega
    ·have := ih _ (by simp) k o (n ++ [y]) (x :: a) b rfl
     rw [hunks_comes _ _ _ _ _ hxy hg, lcs_ne hxy, Nat.max_eq_right (by omega)]; simp at this ⊢; omega
theorem diffs_cost (a b : List α) : cost (diffs a b) + 2 * lcs a b = a.length + b.length := by have := hunks_cost 0 [] [] a b; simp at this; exact this
theorem diffs_nil_iff (a b : List α) : diffs a b = [] ↔ a = b := by
 constructor
 ·intro h
  have := diffs_make a b
  rw [h] at this
  simpa [applyAll] using this
 ·rintro rfl
  have h := hunks_pre a 0 [] []
  rw [List.append_nil, hunks_nn] at h
  exact h
end
def kmax : Option Nat → Option Nat → Option Nat
 | none, v => v
 | some u, none => some u
 | some u, some v => some (max u v)
def klt : Option Nat → Option Nat → Bool
 | _, none => false
 | none, some _ => true
 | some u, some v => decide (u < v)
def kgeq (u v : Option Nat) : Bool := !klt u v
def kept : List Int → List Int → Option Nat
 | [], [] => some 0
 | [], _ :: _ => none
 | _ :: _, [] => none
 | x :: a, y :: b => if x = y then (kept a b).map (· + 1) else kmax (kept (x :: a) b) (kept a (y :: b))
termination_by a b => a.length + b.length
theorem kept_cn (x : Int) (a : List Int) : kept (x :: a) [] = none := by rw [kept]
theorem kept_nc (y : Int) (b : List Int) : kept [] (y :: b) = none := by rw [kept]
theorem kept_nn : kept [] [] = some 0 := by rw [kept]
theorem kept_same (x : Int) (a b : List Int) : kept (x :: a) (x :: b) = (kept a b).map (· + 1) := by rw [kept, if_pos rfl]
theorem kept_ne {x y : Int} (h : ¬ x = y) (a b : List Int) : kept (x :: a) (y :: b) = kmax (kept (x :: a) b) (kept a (y :: b)) := by rw [kept, if_neg h]
theorem kmax_lt (u v : Option Nat) : kmax u v = if klt u v then v else u := by
 cases u <;> cases v <;> simp only [kmax, klt, decide_eq_true_eq, if_false, if_true, Bool.false_eq_true]
 split
 ·congr 1; omega
 ·congr 1; omega
theorem kept_ends : ∀ (a b : List Int), (0 : Int) ∉ a → (0 : Int) ∉ b → kept (a ++ [0]) (b ++ [0]) = some (lcs a b + 1) := by
 intro a b
 induction h : a.length + b.length using Nat.strongRecOn generalizing a b with
 | ind m ih =>
  subst h
  intro ha hb
  match a, b with
  | [], [] => rw [lcs_nil]; show kept [0] [0] = _; rw [kept_same, kept_nn]; rfl
  | x :: a, [] =>
   have h1 := ih _ (by simp) a [] rfl (fun h => ha (List.mem_cons_of_mem _ h)) hb
   have hx : ¬ x = 0 := fun e => ha (e ▸ List.mem_cons_self)
   rw [List.cons_append, List.nil_append, kept_ne hx, kept_cn, lcs_nil']
   rw [List.nil_append, lcs_nil'] at h1
   rw [h1]; rfl
  | [], y :: b =>
   have h1 := ih _ (by simp) [] b rfl ha (fun h => hb (List.mem_cons_of_mem _ h))
   have hy : ¬ (0 : Int) = y := fun e => hb (e ▸ List.mem_cons_self)
   rw [List.cons_append, List.nil_append, kept_ne hy, kept_nc, lcs_nil]
   rw [List.nil_append, lcs_nil] at h1
   rw [h1]; rfl
  | x :: a, y :: b =>
   have ha' : (0 : Int) ∉ a := fun h => ha (List.mem_cons_of_mem _ h)
   have hb' : (0 : Int) ∉ b := fun h => hb (List.mem_cons_of_mem _ h)
   by_cases hxy : x = y
   ·subst hxy
    rw [List.cons_append, List.cons_append, kept_same, ih _ (by simp; omega) a b rfl ha' hb', lcs_same]; rfl
   ·have h1 := ih _ (by simp) (x :: a) b rfl ha hb'
    have h2 := ih _ (by simp) a (y :: b) rfl ha' hb
    rw [List.cons_append] at h1 h2
    rw [List.cons_append, List.cons_append, kept_ne hxy, h1, h2, lcs_ne hxy]
    show some (max _ _) = some _
    congr 1
    omega
theorem kept_le : ∀ (a b : List Int) (k : Nat), kept a b = some k → k ≤ a.length := by
 intro a b
 induction h : a.length + b.length using Nat.strongRecOn generalizing a b with
 | ind m ih =>
  subst h
  intro k hk
  match a, b with
  | [], [] => rw [kept_nn] at hk; cases hk; exact Nat.zero_le _
  | x :: a, [] => rw [kept_cn] at hk; cases hk
  | [], y :: b => rw [kept_nc] at hk; cases hk
  | x :: a, y :: b =>
   by_cases hxy : x = y
   ·subst hxy
    rw [kept_same] at hk
    cases h1 : kept a b with
    | none => rw [h1] at hk; cases hk
    | some j =>
     rw [h1] at hk
     have := ih _ (by simp; omega) a b rfl j h1
     cases hk
     simp; omega
   ·rw [kept_ne hxy] at hk
    cases h1 : kept (x :: a) b with
    | none =>
     rw [h1] at hk
     have := ih _ (by simp) a (y :: b) rfl k hk
     simp; omega
    | some j =>
     have k1 := ih _ (by simp) (x :: a) b rfl j h1
     cases h2 : kept a (y :: b) with
     | none => rw [h1, h2] at hk; cases hk; exact k1
     | some i =>
      have k2 := ih _ (by simp) a (y :: b) rfl i h2
      rw [h1, h2] at hk
      cases hk
      simp at k1 ⊢; omega
def rowK (a : List Int) (b : List Int) (j : Nat) : Option Nat := kept a (b.drop j)
end Go.Proofs.YtbnfjjjdnbcehaaGreatDoor.Diff
namespace Go.Proofs.YtbnfjjjdnbcehaaGreatDoor.Diff
open Go.RowKit
structure Fr (M : Nat → Prop) (w w' : World) : Prop where
 os : w'.os = w.os
 tape : w'.tape = w.tape
 output : w'.output = w.output
 size : w.heap.size ≤ w'.heap.size
 block : ∀ k, k < w.heap.size → ¬ M k → w'.heap[k]? = w.heap[k]?
def None' : Nat → Prop := fun _ => False
theorem Fr.refl (M : Nat → Prop) (w : World) : Fr M w w := ⟨rfl, rfl, rfl, Nat.le_refl _, fun _ _ _ => rfl⟩
theorem Fr.trans {M M' : Nat → Prop} {a b c : World} (h : Fr M a b) (k : Fr M' b c) (hs : ∀ i, M' i → M i ∨ a.heap.size ≤ i) : Fr M a c :=
 ⟨k.os.trans h.os, k.tape.trans h.tape, k.output.trans h.output, Nat.le_trans h.size k.size, fun i hi hm =>
  (k.block i (Nat.lt_of_lt_of_le hi h.size) (fun e => by rcases hs i e with h1 | h1; exact hm h1; omega)).trans (h.block i hi hm)⟩
theorem Fr.then {M : Nat → Prop} {a b c : World} (h : Fr M a b) (k : Fr M b c) : Fr M a c := h.trans k (fun _ e => Or.inl e)
theorem Fr.mono {M M' : Nat → Prop} {a b : World} (h : Fr M a b) (hs : ∀ i, M i → M' i) : Fr M' a b :=
 ⟨h.os, h.tape, h.output, h.size, fun i hi hm => h.block i hi (fun e => hm (hs i e))⟩
theorem Fr.any {M : Nat → Prop} {a b : World} (h : Fr None' a b) : Fr M a b := h.mono (fun _ e => e.elim)
theorem Fr.alloc (M : Nat → Prop) (w : World) (o : Obj) : Fr M w (w.alloc o) :=
 ⟨rfl, rfl, rfl, by simp, fun k hk _ => Below.heap_alloc _ _ _ hk⟩
theorem Fr.setCell {M : Nat → Prop} (w : World) {a : Addr} (ha : M a.block) (u : Value) : Fr M w (w.setCell a u) :=
 ⟨rfl, rfl, rfl, by simp [World.setCell], fun k _ hm => Below.heap_setCell _ _ _ _ (fun e => hm (e ▸ ha))⟩
theorem Fr.grown {M : Nat → Prop} {w w' : World} {row : Option Nat} (hg : w.grownBy w' row) (hr : ∀ k, row = some k → M k) : Fr M w w' :=
 ⟨hg.os, hg.tape, hg.output, hg.size, fun k hk hm => hg.block k hk (fun e => hm (hr k e.symm))⟩
theorem Fr.drewN (M : Nat → Prop) (w : World) (n : Nat) : Fr M w (w.drewN n) := ⟨rfl, rfl, rfl, Nat.le_refl _, fun _ _ _ => rfl⟩
theorem Fr.setRow {M : Nat → Prop} (w : World) {g : Nat} (hg : M g) (c : Array Value) : Fr M w (w.setRow g c) :=
 ⟨rfl, rfl, rfl, by simp [World.setRow], fun k _ hm => by
  have hne : g ≠ k := fun e => hm (e ▸ hg)
  simp only [World.setRow]
  rw [Array.getElem?_modify, if_neg hne]⟩
theorem Fr.at {M : Nat → Prop} {w w' : World} (h : Fr M w w') {k : Nat} {o : Obj} (ho : w.heap[k]? = some o) (hm : ¬ M k) : w'.heap[k]? = some o := by
 rw [h.block k (Array.getElem?_eq_some_iff.1 ho).1 hm]; exact ho
theorem Fr.below {M : Nat → Prop} {w w' : World} (h : Fr M w w') {B : Nat} (hB : B ≤ w.heap.size) (hM : ∀ k, M k → B ≤ k) : Below B w w' :=
 ⟨h.os, h.tape, h.output, h.size, fun k hk => h.block k (by omega) (fun e => by have := hM k e; omega)⟩
theorem Zq {w : World} {a : Addr} {v : Value} (h : w.cell? a = some v) : a.block < w.heap.size := by
 rcases Nat.lt_or_ge a.block w.heap.size with h1 | h1
 ·exact h1
 ·rw [World.cell?, Array.getElem?_eq_none h1] at h; cases h
theorem Fr.cell {M : Nat → Prop} {w w' : World} (h : Fr M w w') {a : Addr} {v : Value} (hc : w.cell? a = some v) (hm : ¬ M a.block) : w'.cell? a = some v := by
 have := h.block a.block (Zq hc) hm
 unfold World.cell? at hc ⊢
 rw [this]; exact hc
theorem Fr.rowIs {M : Nat → Prop} {w w' : World} (h : Fr M w w') {b : Nat} {t : TypeId} {n : Nat} {f : Nat → Value} (hr : w.rowIs b t n f) (hm : ¬ M b) : w'.rowIs b t n f := hr.of_block (h.block b hr.lt hm)
theorem setRow_at {w : World} {g : Nat} {c c' : Array Value} {t : TypeId} (h : w.heap[g]? = some (.cells c t (0, 0))) : (w.setRow g c').heap[g]? = some (.cells c' t (0, 0)) := by
 simp only [World.setRow]
 rw [Array.getElem?_modify]
 simp [h]
def n8 (f : Nat → Int) : Nat → Value := fun i => .int .u8 (f i)
end Go.Proofs.YtbnfjjjdnbcehaaGreatDoor.Diff
namespace Go.Proofs.YtbnfjjjdnbcehaaGreatDoor.Diff
open Go.RowKit
set_option maxRecDepth 100000
theorem ret_int {k : IntKind} {a b : Int} (h : a = b) : Ending.returned (.int k a) = .returned (.int k b) := by rw [h]
theorem ret_bool {a b : Bool} (h : a = b) : Ending.returned (.bool a) = .returned (.bool b) := by rw [h]
theorem Z1 (s : ByteArray) : s.data.toList.length = s.size := by cases s; rfl
theorem str_of {s : ByteArray} {l : List UInt8} (h : s.data.toList = l) : s = ⟨l.toArray⟩ := by
 cases s with | mk d => cases d; simp at h; subst h; rfl
theorem str_no {x y : ByteArray} (h : ¬ x = y) : (¬ x.toList = y.toList) ∧ (x.toList == y.toList) = false := by
 rw [ByteArray.toList_eq, ByteArray.toList_eq]
 have : ¬ x.data.toList = y.data.toList := fun e => h (by rw [str_of e])
 exact ⟨this, by simpa using this⟩
theorem Grew.of {w w' : World} (h : Below w.heap.size w w') : Fr None' w w' := ⟨h.os, h.tape, h.output, h.size, fun k hk _ => h.block k hk⟩
theorem Grew.below {w w' : World} (h : Fr None' w w') : Below w.heap.size w w' := Fr.below h (Nat.le_refl _) (fun _ e => e.elim)
def RowV (W : World) (ad : Option Addr) (vs : List Value) : Prop := ∀ j v, vs[j]? = some v → ∃ g o, ad = some ⟨g, o, none⟩ ∧ W.cell? ⟨g, o + j, none⟩ = some v
def Off (M : Nat → Prop) (ad : Option Addr) : Prop := ∀ a, ad = some a → ¬ M a.block
theorem RowV.fr {M : Nat → Prop} {W W' : World} {ad : Option Addr} {vs : List Value} (h : RowV W ad vs) (f : Fr M W W') (hm : Off M ad) : RowV W' ad vs := fun j x hj => by
 obtain ⟨g, o, e, hc⟩ := h j x hj
 exact ⟨g, o, e, f.cell hc (hm ⟨g, o, none⟩ e)⟩
theorem Off.no (ad : Option Addr) : Off None' ad := fun _ _ e => e
theorem RowV.nil (W : World) (ad : Option Addr) : RowV W ad [] := fun j x h => by simp at h
theorem RowV.get {W : World} {ad : Option Addr} {vs : List Value} (h : RowV W ad vs) {k : Nat} (hk : k < vs.length) : ∃ g o, ad = some ⟨g, o, none⟩ ∧ W.cell? ⟨g, o + k, none⟩ = some vs[k] := h k _ (List.getElem?_eq_getElem hk)
def Row (W : World) (ad : Option Addr) (ss : List ByteArray) : Prop := ∀ j x, ss[j]? = some x → ∃ g o, ad = some ⟨g, o, none⟩ ∧ W.cell? ⟨g, o + j, none⟩ = some (.string x)
theorem Row.frM {M : Nat → Prop} {W W' : World} {ad : Option Addr} {ss : List ByteArray} (h : Row W ad ss) (f : Fr M W W') (hm : Off M ad) : Row W' ad ss := fun j x hj => by
 obtain ⟨g, o, e, hc⟩ := h j x hj
 exact ⟨g, o, e, f.cell hc (hm ⟨g, o, none⟩ e)⟩
theorem Row.fr {W W' : World} {ad : Option Addr} {ss : List ByteArray} (h : Row W ad ss) (f : Fr None' W W') : Row W' ad ss := h.frM f (Off.no ad)
theorem Row.frW {M : Nat → Prop} {W W' : World} {ad : Option Addr} {ss : List ByteArray} (h : Row W ad ss) (f : Fr M W W') (hm : ss ≠ [] → Off M ad) : Row W' ad ss := fun j x hj => h.frM f (hm (fun e => by subst e; simp at hj)) j x hj
theorem Row.nil (W : World) (ad : Option Addr) : Row W ad [] := fun j x h => by simp at h
theorem Row.get {W : World} {ad : Option Addr} {ss : List ByteArray} (h : Row W ad ss) {k : Nat} (hk : k < ss.length) : ∃ g o, ad = some ⟨g, o, none⟩ ∧ W.cell? ⟨g, o + k, none⟩ = some (.string ss[k]) := h k _ (List.getElem?_eq_getElem hk)
theorem Row.vals {W : World} {ad : Option Addr} {ss : List ByteArray} (h : Row W ad ss) : RowV W ad (ss.map .string) := fun j v hj => by
 rw [List.getElem?_map] at hj
 cases hm : ss[j]? with
 | none => rw [hm] at hj; cases hj
 | some y => rw [hm] at hj; cases hj; exact h j y hm
theorem RowV.row {W : World} {ad : Option Addr} {ss : List ByteArray} (h : RowV W ad (ss.map .string)) : Row W ad ss := fun j x hj => h j _ (by rw [List.getElem?_map, hj]; rfl)
theorem RowV.part {W : World} {g o : Nat} {vs : List Value} (h : RowV W (some ⟨g, o, none⟩) vs) (k n : Nat) : RowV W (some ⟨g, o + k, none⟩) ((vs.drop k).take n) := fun j x hj => by
 have hj' : vs[k + j]? = some x := by
  rw [List.getElem?_take] at hj
  split at hj
  ·rw [List.getElem?_drop] at hj; exact hj
  ·cases hj
 obtain ⟨g', o', e, hc⟩ := h (k + j) x hj'
 cases e
 exact ⟨g, o + k, rfl, by rw [Nat.add_assoc]; exact hc⟩
theorem Row.part {W : World} {g o : Nat} {ss : List ByteArray} (h : Row W (some ⟨g, o, none⟩) ss) (k n : Nat) : Row W (some ⟨g, o + k, none⟩) ((ss.drop k).take n) := by
 have := h.vals.part k n
 rw [← List.map_drop, ← List.map_take] at this
 exact this.row
def OwnV (base : Nat) (w : World) (e : TypeId) (v : Value) (vs : List Value) : Prop := w.ownsRow base e 1 v vs.length vs
theorem OwnV.slice {base : Nat} {w : World} {e : TypeId} {v : Value} {vs : List Value} (h : OwnV base w e v vs) : ∃ va c, v = .slice va vs.length c ∧ vs.length ≤ c ∧ (va = none → c = 0) ∧ RowV w va vs ∧ (∀ a, va = some a → base ≤ a.block ∧ a.off = 0 ∧ a.spot = none ∧ a.block < w.heap.size) := by
 rcases h.2 with ⟨hv, h0⟩ | ⟨g, cap, cur, hv, hb, hh, hc, _, hs, ht⟩
 ·refine ⟨none, 0, by rw [hv, h0], by omega, fun _ => rfl, fun j x hj => ?_, fun a e => by cases e⟩
  have := (List.getElem?_eq_some_iff.1 hj).1
  omega
 ·refine ⟨_, cap, hv, hc, fun e => by simp at e, fun i x hi => ⟨g, 0, rfl, ?_⟩, fun a e => by cases e; exact ⟨hb, rfl, rfl, (Array.getElem?_eq_some_iff.1 hh).1⟩⟩
  have hlt := (List.getElem?_eq_some_iff.1 hi).1
  rw [← ht, List.getElem?_take, if_pos (by omega)] at hi
  rw [World.cell?, Nat.zero_add, hh]
  simpa using hi
def Zr (v : Value) : Nat → Prop := fun k => v.ownBlock = some k
theorem OwnV.fr {M : Nat → Prop} {base : Nat} {w w' : World} {e : TypeId} {v : Value} {vs : List Value} (h : OwnV base w e v vs) (f : Fr M w w') (hm : ∀ k, Zr v k → ¬ M k) : OwnV base w' e v vs := by
 refine ⟨h.1, ?_⟩
 rcases h.2 with h | ⟨g, cap, cur, hv, hb, hh, h⟩
 ·exact Or.inl h
 ·exact Or.inr ⟨g, cap, cur, hv, hb, f.at hh (hm g (by rw [Zr, hv]; rfl)), h⟩
theorem OwnV.kept {base : Nat} {w w' : World} {e : TypeId} {v : Value} {vs : List Value} (h : OwnV base w e v vs) (f : Fr None' w w') : OwnV base w' e v vs := h.fr f (fun _ _ e => e)
theorem OwnV.nil (base : Nat) (w : World) (e : TypeId) : OwnV base w e (.slice none 0 0) [] := World.ownsRow_nil w _ e 1
theorem OwnV.lt {base : Nat} {w : World} {e : TypeId} {v : Value} {vs : List Value} (h : OwnV base w e v vs) {k : Nat} (hk : Zr v k) : base ≤ k ∧ k < w.heap.size := by
 rcases h.2 with ⟨hv, _⟩ | ⟨g, cap, cur, hv, hb, hh, _⟩
 ·rw [Zr, hv] at hk; cases hk
 ·rw [Zr, hv] at hk; cases hk; exact ⟨hb, (Array.getElem?_eq_some_iff.1 hh).1⟩
theorem OwnV.zero {base : Nat} {w : World} {e : TypeId} {va : Option Addr} {c : Nat} {vs : List Value} (h : OwnV base w e (.slice va vs.length c) vs) : OwnV base w e (.slice va 0 c) [] := by
 rcases h.2 with ⟨hv, _⟩ | ⟨g, cap, cur, hv, hb, hh, hc, hm, hs, _⟩
 ·simp only [Value.slice.injEq] at hv
  obtain ⟨rfl, _, rfl⟩ := hv
  exact OwnV.nil _ _ _
 ·simp only [Value.slice.injEq] at hv
  obtain ⟨rfl, _, rfl⟩ := hv
  exact ⟨rfl, Or.inr ⟨g, c, cur, rfl, hb, hh, Nat.zero_le _, hm, hs, by simp⟩⟩
theorem OwnV.empty {base : Nat} {w : World} (e : TypeId) (hb : base ≤ w.heap.size) : OwnV base (w.alloc (.cells #[] e)) e (.slice (some ⟨w.heap.size, 0, none⟩) 0 0) [] :=
 ⟨rfl, Or.inr ⟨w.heap.size, 0, #[], rfl, hb, heap_alloc_new w _, Nat.le_refl _, Nat.zero_le _, rfl, rfl⟩⟩
structure One (e t : TypeId) (bytes : Nat) : Prop where
 ty : Tryz.prog.underlying t = some (.slice e)
 info : ∃ i z, Tryz.prog.info? e = some i ∧ i.zero = some z ∧ i.size = 1 ∧ i.bytes = bytes ∧ z.cells.size = 1
 small : bytes ≤ 24
theorem one_mk {e t : TypeId} {z : Value} {bytes : Nat} (ht : Tryz.prog.underlying t = some (.slice e)) (h : (Tryz.prog.info? e).map (fun i => (i.zero, i.size, i.bytes)) = some (some z, 1, bytes)) (hz : z.cells.size = 1) (hb : bytes ≤ 24) : One e t bytes := by
 obtain ⟨i0, hi, hz0, hz1, hz2⟩ := info_parts h
 exact ⟨ht, ⟨i0, z, hi, hz0, hz1, hz2, hz⟩, hb⟩
theorem oneS : One 9 41 16 := one_mk (z := (.string ⟨#[]⟩)) Tryz.underlying41 (by kernel_rfl) rfl (by decide)
theorem oneI : One 3 122 8 := one_mk (z := (.int .i64 0)) Tryz.underlying122 (by kernel_rfl) rfl (by decide)
theorem oneIS : One 122 173 24 := one_mk (z := (.slice none 0 0)) Tryz.underlying173 (by kernel_rfl) rfl (by decide)
theorem oneF : One 171 181 8 := one_mk (z := (.float .f64 0)) Tryz.underlying181 (by kernel_rfl) rfl (by decide)
theorem append_run {e t : TypeId} {bytes : Nat} (h1 : One e t bytes) (ty : TypeId) {base : Nat} {w : World} {v : Value} {vs : List Value} (hown : OwnV base w e v vs) {va : Option Addr} {c k : Nat} {m : List Value} (hk : m.length = k) (hl : RowV w va m) (hn : va = none → c = 0) (hm : ∀ u ∈ m, u.oneCell' = true) (hbig : vs.length + m.length ≤ 1000000000) (hb : base ≤ w.heap.size) :
  ∃ v' w', (Builtin.append_ #[t, t] ty #[v, .slice va k c]).run Tryz.prog w = .ok v' w' ∧ OwnV base w' e v' (vs ++ m) ∧ Fr (Zr v) w w' ∧ (v'.ownBlock = v.ownBlock ∨ v'.ownBlock = some w.heap.size) := by
 obtain ⟨i0, z, hi, hz0, hz1, hz2, hz3⟩ := h1.info
 have hbb := h1.small
 subst hk
 cases va with
 | none =>
  obtain rfl := hn rfl
  have hn0 : m = [] := by
   cases m with
   | nil => rfl
   | cons y m => obtain ⟨_, _, e, _⟩ := hl 0 y rfl; cases e
  subst hn0
  exact ⟨v, w, run_append_owned_none (P := Tryz.prog) (w := w) base t ty e i0 1 h1.ty hi v _ _ hown, by simpa using hown, Fr.refl _ _, Or.inl rfl⟩
 | some ad =>
  have hnews : ∀ j u, m[j]? = some u → w.cell? (ad.add j) = some u := fun j u hj => by
   obtain ⟨b, o, e, hc⟩ := hl j u hj
   cases e
   have hadd : (⟨b, o, none⟩ : Addr).add j = ⟨b, o + j, none⟩ := by unfold Addr.add; split <;> simp_all
   rw [hadd, hc]
  obtain ⟨v', w', hr, h2, h3, _, h5⟩ := run_append_own_at (P := Tryz.prog) w base t ty e i0 z 1 bytes h1.ty hi hz0 hz1 hz2 hz3 (by decide) v _ _ hown ad m.length c m (by simp) hnews hm (by unfold maxLen; omega) (by
   have : (vs.length + m.length) * bytes ≤ 1000000000 * 24 := Nat.mul_le_mul hbig hbb
   omega) hb
  refine ⟨v', w', hr, ?_, Fr.grown h3 (fun k e => e), h5⟩
  unfold OwnV
  rw [List.length_append]
  exact h2
theorem append_one {e t : TypeId} {bytes : Nat} (h1 : One e t bytes) {ops : Array Oper} {rest : List Oper} {o : Oper} {a : Act} {w : World} {Q : Exit → Act → World → Prop} (hgd : o.guard = none) (s x : Operand)
  (ho : o.op = .call { callee := .builtin .append, args := #[s, x], argTypes := #[t, t] })
  {base : Nat} {v : Value} {vs : List Value} (hs : a.eval s = v) (hown : OwnV base w e v vs) {va : Option Addr} {c k : Nat} {m : List Value} (hx : a.eval x = .slice va k c) (hk : m.length = k) (hl : RowV w va m) (hn : va = none → c = 0) (hm : ∀ u ∈ m, u.oneCell' = true) (hbig : vs.length + m.length ≤ 1000000000) (hb : base ≤ w.heap.size)
  (h : ∀ v' w', OwnV base w' e v' (vs ++ m) → Fr (Zr v) w w' → (v'.ownBlock = v.ownBlock ∨ v'.ownBlock = some w.heap.size) → wpList Tryz.prog ops Q rest (a.put o.dst v') w') : wpList Tryz.prog ops Q (o :: rest) a w := by
 refine wpList_plain hgd fun K hK => ?_
 obtain ⟨v', w', hr, h2, h3, h4⟩ := append_run h1 o.type hown hk hl hn hm hbig hb
 unfold Oper.wp execOp
 simp only [ho, resolve, invoke, builtin, Sem.run_bind, Sem.run_pure, Result.andThen_ok, List.map_toArray, List.map_cons, List.map_nil, hs, hx, hr]
 exact hK _ _ (h v' w' h2 h3 h4)
theorem one_row (w : World) (e : TypeId) (x : Value) : RowV (w.alloc (.cells #[x] e)) (some ⟨w.heap.size, 0, none⟩) [x] := fun j y hj => by
 have hlt := (List.getElem?_eq_some_iff.1 hj).1
 obtain rfl : j = 0 := by simpa using hlt
 simp at hj
 subst hj
 exact ⟨_, _, rfl, by simp⟩
theorem own_or {v v' : Value} {w : World} (h : v'.ownBlock = v.ownBlock ∨ v'.ownBlock = some w.heap.size) {k : Nat} (hk : Zr v' k) : Zr v k ∨ k = w.heap.size := by
 unfold Zr at *
 rcases h with h | h
 ·exact Or.inl (h ▸ hk)
 ·rw [h] at hk; cases hk; exact Or.inr rfl
theorem own_fr {M : Nat → Prop} {e : TypeId} {v : Value} {vs : List Value} {w wr wx w1 : World} (h : OwnV w.heap.size wr e v vs) (hF : Fr M w wr) (f0 : Fr None' wr wx) (f : Fr (Zr v) wx w1) : Fr M w w1 ∧ Fr (Zr v) wr w1 := by
 have f2 : Fr (Zr v) wr w1 := (f0.mono (fun _ e => e.elim)).then f
 exact ⟨hF.trans f2 (fun i e => Or.inr (h.lt e).1), f2⟩
def ints (l : List Int) : List Value := l.map (Value.int .i64)
theorem strs_one (l : List ByteArray) : ∀ u ∈ l.map Value.string, u.oneCell' = true := fun u hu => by
 obtain ⟨z, _, rfl⟩ := List.mem_map.1 hu; rfl
theorem Z9 (l : List Int) : (ints l).length = l.length := List.length_map ..
theorem ints_get {l : List Int} {k : Nat} (hk : k < l.length) : (ints l)[k]'(by rw [Z9]; exact hk) = .int .i64 l[k] := by simp [ints]
def negInf : Nat := 18442240474082181120
def fl : Option Nat → Nat
 | none => negInf
 | some k => floatOfInt .f64 k
def flV (u : Option Nat) : Value := .float .f64 (fl u)
def addsB : Bool := (List.range 4220).all fun k => floatBits .add .f64 (fl (some k)) 4607182418800017408 == some (fl (some (k + 1)))
theorem addsB_true : addsB = true := by decide +kernel
theorem fl_add (u : Option Nat) (hu : ∀ k, u = some k → k < 4220) : floatBits .add .f64 (fl u) 4607182418800017408 = some (fl (u.map (· + 1))) := by
 cases u with
 | none => decide +kernel
 | some k =>
  have h := List.all_eq_true.1 addsB_true k (List.mem_range.2 (hu k rfl))
  simpa using h
def readsB : Bool := (List.range 4221).all fun k => k == 0 || (Ieee.double.read (fl (some k)) == .number false (k <<< (52 - k.log2)) ((k.log2 : Int) - 52) && decide (k.log2 ≤ 52))
theorem readsB_true : readsB = true := by decide +kernel
theorem fl_read {k : Nat} (hk : k ≤ 4220) (h0 : 0 < k) : Ieee.double.read (fl (some k)) = .number false (k <<< (52 - k.log2)) ((k.log2 : Int) - 52) ∧ k.log2 ≤ 52 := by
 have h := List.all_eq_true.1 readsB_true k (List.mem_range.2 (by omega))
 have hne : (k == 0) = false := by simp; omega
 rw [hne, Bool.false_or, Bool.and_eq_true, beq_iff_eq, decide_eq_true_eq] at h
 exact h
theorem fl_read0 : Ieee.double.read (fl (some 0)) = .number false 0 (-1074) := by decide +kernel
theorem fl_readN : Ieee.double.read (fl none) = .infinity true := by decide +kernel
def kord : Option Nat → Option Nat → Ordering
 | none, none => .eq
 | none, some _ => .lt
 | some _, none => .gt
 | some u, some v => compare u v
theorem int_cmp (u v : Nat) : compare (u : Int) (v : Int) = compare u v := by
 rcases Nat.lt_trichotomy u v with h | h | h
 ·rw [Nat.compare_eq_lt.2 h]
  show compareOfLessAndEq (u : Int) (v : Int) = _
  rw [compareOfLessAndEq, if_pos (by omega)]
 ·subst h
  simp
 ·rw [Nat.compare_eq_gt.2 h]
  show compareOfLessAndEq (u : Int) (v : Int) = _
  rw [compareOfLessAndEq, if_neg (by omega), if_neg (by omega)]
theorem shift_cmp (u v e : Nat) : compare (u <<< e) (v <<< e) = compare u v := by
 have h2 : 0 < 2 ^ e := Nat.two_pow_pos e
 rw [Nat.shiftLeft_eq, Nat.shiftLeft_eq]
 rcases Nat.lt_trichotomy u v with h | h | h
 ·have : u * 2 ^ e < v * 2 ^ e := Nat.mul_lt_mul_of_pos_right h h2
  rw [Nat.compare_eq_lt.2 h, Nat.compare_eq_lt.2 this]
 ·subst h; simp
 ·have : v * 2 ^ e < u * 2 ^ e := Nat.mul_lt_mul_of_pos_right h h2
  rw [Nat.compare_eq_gt.2 h, Nat.compare_eq_gt.2 this]
theorem fl_order (u v : Option Nat) (hu : ∀ k, u = some k → k ≤ 4220) (hv : ∀ k, v = some k → k ≤ 4220) : FloatKind.f64.format.order (fl u) (fl v) = some (kord u v) := by
 show (Ieee.double.read (fl u)).order (Ieee.double.read (fl v)) = _
 cases u with
 | none =>
  rw [fl_readN]
  cases v with
  | none => rw [fl_readN]; rfl
  | some k =>
   by_cases h0 : 0 < k
   ·rw [(fl_read (hv k rfl) h0).1]; rfl
   ·obtain rfl : k = 0 := by omega
    rw [fl_read0]; rfl
 | some j =>
  cases v with
  | none =>
   rw [fl_readN]
   by_cases h0 : 0 < j
   ·rw [(fl_read (hu j rfl) h0).1]; rfl
   ·obtain rfl : j = 0 := by omega
    rw [fl_read0]; rfl
  | some k =>
   by_cases h0 : 0 < j <;> by_cases h1 : 0 < k
   ·obtain ⟨e1, l1⟩ := fl_read (hu j rfl) h0
    obtain ⟨e2, l2⟩ := fl_read (hv k rfl) h1
    rw [e1, e2]
    show some (compare (((j <<< (52 - j.log2)) <<< ((j.log2 : Int) - 52 - min ((j.log2 : Int) - 52) ((k.log2 : Int) - 52)).toNat : Nat) : Int) (((k <<< (52 - k.log2)) <<< ((k.log2 : Int) - 52 - min ((j.log2 : Int) - 52) ((k.log2 : Int) - 52)).toNat : Nat) : Int)) = some (compare j k)
    rw [int_cmp, ← Nat.shiftLeft_add, ← Nat.shiftLeft_add]
    rw [show 52 - j.log2 + ((j.log2 : Int) - 52 - min ((j.log2 : Int) - 52) ((k.log2 : Int) - 52)).toNat = 52 - min j.log2 k.log2 by omega]
    rw [show 52 - k.log2 + ((k.log2 : Int) - 52 - min ((j.log2 : Int) - 52) ((k.log2 : Int) - 52)).toNat = 52 - min j.log2 k.log2 by omega]
    rw [shift_cmp]
   ·obtain rfl : k = 0 := by omega
    obtain ⟨e1, l1⟩ := fl_read (hu j rfl) h0
    rw [e1, fl_read0]
    show some (compare (((j <<< (52 - j.log2)) <<< ((j.log2 : Int) - 52 - min ((j.log2 : Int) - 52) (-1074)).toNat : Nat) : Int) ((0 <<< ((-1074 : Int) - min ((j.log2 : Int) - 52) (-1074)).toNat : Nat) : Int)) = some (compare j 0)
    rw [int_cmp, ← Nat.shiftLeft_add, Nat.zero_shiftLeft]
    have := shift_cmp j 0 (52 - j.log2 + ((j.log2 : Int) - 52 - min ((j.log2 : Int) - 52) (-1074)).toNat)
    rw [Nat.zero_shiftLeft] at this
    rw [this]
   ·obtain rfl : j = 0 := by omega
    obtain ⟨e1, l1⟩ := fl_read (hv k rfl) h1
    rw [e1, fl_read0]
    show some (compare ((0 <<< ((-1074 : Int) - min (-1074) ((k.log2 : Int) - 52)).toNat : Nat) : Int) (((k <<< (52 - k.log2)) <<< ((k.log2 : Int) - 52 - min (-1074) ((k.log2 : Int) - 52)).toNat : Nat) : Int)) = some (compare 0 k)
    rw [int_cmp, ← Nat.shiftLeft_add, Nat.zero_shiftLeft]
    have := shift_cmp 0 k (52 - k.log2 + ((k.log2 : Int) - 52 - min (-1074) ((k.log2 : Int) - 52)).toNat)
    rw [Nat.zero_shiftLeft] at this
    rw [this]
   ·obtain rfl : j = 0 := by omega
    obtain rfl : k = 0 := by omega
    rw [fl_read0]; rfl
theorem kord_lt (u v : Option Nat) : (some (kord u v) == some Ordering.lt) = klt u v := by
 cases u <;> cases v <;> try rfl
 rename_i a b
 show (some (compare a b) == some Ordering.lt) = decide (a < b)
 rw [Bool.eq_iff_iff]
 simp [Nat.compare_eq_lt]
theorem kord_ge (u v : Option Nat) : (some (kord u v) == some Ordering.gt || some (kord u v) == some Ordering.eq) = kgeq u v := by
 cases u <;> cases v <;> try rfl
 rename_i a b
 show (some (compare a b) == some Ordering.gt || some (compare a b) == some Ordering.eq) = !decide (a < b)
 rw [Bool.eq_iff_iff]
 simp [Nat.compare_eq_gt]
 omega
theorem fl_lss (u v : Option Nat) (hu : ∀ k, u = some k → k ≤ 4220) (hv : ∀ k, v = some k → k ≤ 4220) : (FloatKind.f64.format.order (fl u) (fl v) == some Ordering.lt) = klt u v := by
 rw [fl_order u v hu hv, kord_lt]
theorem fl_geq (u v : Option Nat) (hu : ∀ k, u = some k → k ≤ 4220) (hv : ∀ k, v = some k → k ≤ 4220) : (FloatKind.f64.format.order (fl u) (fl v) == some Ordering.gt || FloatKind.f64.format.order (fl u) (fl v) == some Ordering.eq) = kgeq u v := by
 rw [fl_order u v hu hv, kord_ge]
def rootB : Bool := (List.range 4220).all fun n => match Ieee.double.sqrt (floatOfInt .f64 n) with
 | some r => match floatToIntVal .f64 r .i64 with
  | some s => decide (0 ≤ s ∧ s ≤ 80)
  | none => false
 | none => false
theorem rootB_true : rootB = true := by decide +kernel
theorem root_ex {n : Nat} (hn : n < 4220) : ∃ (r : Nat) (s : Nat), FloatKind.f64.format.sqrt (floatOfInt .f64 n) = some r ∧ floatToIntVal .f64 r .i64 = some (s : Int) ∧ s ≤ 80 := by
 have h := List.all_eq_true.1 rootB_true n (List.mem_range.2 hn)
 split at h
 ·rename_i r hr
  split at h
  ·rename_i s hs
   rw [decide_eq_true_eq] at h
   obtain ⟨k, rfl⟩ := Int.eq_ofNat_of_zero_le h.1
   exact ⟨r, k, hr, hs, by omega⟩
  ·cases h
 ·cases h
end Go.Proofs.YtbnfjjjdnbcehaaGreatDoor.Diff
namespace Go.Proofs.YtbnfjjjdnbcehaaGreatDoor.Diff
open Go.RowKit
def Abide {β : Type} (M : Nat → Prop) (J : β → World → Prop) : Prop := ∀ s A B, J s A → Fr M A B → J s B
def Za (A : World) (k : Nat) : Prop := ∀ c t f, A.heap[k]? ≠ some (.cells c t f)
def AbideN {β : Type} (base : Nat) (M : Nat → Prop) (J : β → World → Prop) : Prop := ∀ s A B, J s A → Fr (fun k => M k ∨ (base ≤ k ∧ Za A k)) A B → J s B
def SeqM {α : Type} (F : Fence) (n : Nat) (P : Program) (g : Nat) (lb : Array Value) (encs : α → Array Value) (M : Nat → Prop) (Kp : World → World → Prop) (S Sp : List α → Prop) (St : World → Prop) : Prop :=
 ∀ (l : Nat) (J Jx : List α → World → Prop) (W : World), St W → Abide M J → Abide M Jx →
  (∀ pre x W1, J pre W1 → Sp (pre ++ [x]) → YieldAt F (n - 1) P l (encs x) W1 fun e W' =>
   (e = .returned (.bool true) ∧ J (pre ++ [x]) W' ∧ Kp W1 W') ∨ (e = .returned (.bool false) ∧ Jx (pre ++ [x]) W')) →
  J [] W →
  CallsIn F n P g (#[.func (.yield l) #[] #[]] ++ lb) W fun e W' => (∃ v, e = .returned v) ∧ ((∃ xs, S xs ∧ J xs W') ∨ (∃ pre, Sp pre ∧ Jx pre W'))
theorem Fr.putObj {M : Nat → Prop} (w : World) {l : Nat} (hl : M l) (o : Obj) : Fr M w (w.putObj l o) :=
 ⟨rfl, rfl, rfl, by simp, fun k _ hm => World.putObj_heap_other (fun e => hm (e ▸ hl))⟩
variable {F : Fence} {n : Nat} {P : Program}
theorem range_own {α : Type} {g : Operand} {ps : Array Tmp} {assign body : Code} {Q : Exit → Act → World → Prop} {a : Act} {w : World}
  (hro : F.round = none) (h1 : 1 ≤ n) {gf : Nat} {lb : Array Value} (hg : a.eval g = .func (.func gf) #[] lb) (hFg : F.fn gf) (eg : ∀ args w, (callFunc gf args).run P w = .ok (.enter gf args) w)
  {encs : α → Array Value} {M : Nat → Prop} {Kp : World → World → Prop} {S Sp : List α → Prop} {St : World → Prop} (hseq : SeqM F (n - 1) P gf lb encs M Kp S Sp St)
  (hM : ∀ k, M k → k < w.heap.size) (hSt : ∀ W, Below w.heap.size w W → St W)
  (hKt : ∀ {A B C : World}, Kp A B → Kp B C → Kp A C) (hKb : ∀ (W : World) (l : Nat) (o' : Obj), w.heap.size ≤ l → Kp W (W.putObj l o'))
  (hps : ∀ x, (encs x).size = ps.size)
  (I : List α → World → Prop) (Ix : Code → List α → World → Prop) (hI : AbideN w.heap.size M I) (hIx : ∀ c, AbideN w.heap.size M (Ix c)) (h0 : I [] w) (a₁ : α → Act)
  (hassign : ∀ (l : Nat) (x : α) (W : World) (K : Act → World → Prop), K (a₁ x) W →
   assign.wpIn (F.inRound l) (n - 1 - 1) P (Exit.then K (fun _ _ _ => False)) { tmps := (ps.zip (encs x)).foldl (fun t (p, v) => t.setIfInBounds p v) a.tmps, defers := [] } W)
  (hbody : ∀ (l : Nat) (pre : List α) (x : α) (W : World), I pre W → Sp (pre ++ [x]) → w.heap.size ≤ l → (∃ r, W.heap[l]? = some (.loop r)) → body.wpIn (F.inRound l) (n - 1 - 1) P (ownPostK Kp I Ix (pre ++ [x]) W) (a₁ x) W)
  (hdone : ∀ (D : Nat) (xs : List α) (W : World), S xs → I xs W → W.heap[D]? = some (.deferred (some [])) → w.heap.size ≤ D → Q .normal { a with defers := { target := .collected D, args := #[] } :: a.defers } W)
  (hstop : ∀ (D : Nat) (c : Code) (pre : List α) (W : World), Sp pre → Ix c pre W → W.heap[D]? = some (.deferred (some [])) → w.heap.size ≤ D → c.wpIn F n P Q { a with defers := { target := .collected D, args := #[] } :: a.defers } W) :
  (Code.rangeFunc g ps assign body).wpIn F n P Q a w := by
 refine wpIn_rangeFunc fun fn hfn => ?_
 rw [hro]
 obtain ⟨R, hR⟩ : ∃ R : LoopState → Option Code → Loop, R = fun st pe => { state := st, pending := pe, fn, tmps := a.tmps, params := ps, assign, body, defers := w.heap.size } := ⟨_, rfl⟩
 obtain ⟨V, hV⟩ : ∃ V, (w.alloc (.deferred (some []))).alloc (.loop (R .ready none)) = V := ⟨_, rfl⟩
 have hL : V.heap[w.heap.size + 1]? = some (.loop (R .ready none)) := by
  rw [← hV]; simpa using World.alloc_heap_new (w.alloc (.deferred (some []))) (.loop (R .ready none))
 have hD : V.heap[w.heap.size]? = some (.deferred (some [])) := by
  rw [← hV]; exact (Below.heap_alloc _ _ _ (by simp)).trans (World.alloc_heap_new w _)
 have hIV : I [] V := by
  rw [← hV]; exact hI _ _ _ (hI _ _ _ h0 (Fr.alloc _ _ _)) (Fr.alloc _ _ _)
 have hBV : Below w.heap.size w V := by rw [← hV]; exact ((Below.refl _ w).alloc (Nat.le_refl _) _).alloc (by simp) _
 have far : ∀ {W : World} {k : Nat} {r : Loop} (o : Obj), W.heap[k]? = some (.loop r) → w.heap.size ≤ k → Fr (fun k => M k ∨ (w.heap.size ≤ k ∧ Za W k)) W (W.putObj k o) := fun o hk hle => Fr.putObj _ (.inr ⟨hle, fun c t f e => by rw [hk] at e; cases e⟩) o
 have wide : ∀ {A B : World}, Fr M A B → Fr (fun k => M k ∨ (w.heap.size ≤ k ∧ Za A k)) A B := fun h => h.mono (fun _ e => .inl e)
 have nM : ∀ {k : Nat}, w.heap.size ≤ k → ¬ M k := fun hk hm => by have := hM _ hm; omega
 refine ⟨w.heap.size + 1, [{ target := .collected w.heap.size, args := #[] }], V, { target := .fn (.func gf) lb, args := #[.func (.yield (w.heap.size + 1)) #[] #[]] }, V, gf,
  #[.func (.yield (w.heap.size + 1)) #[] #[]] ++ lb, V, by rw [← hV, hR]; exact run_enterLoop_outer _ _ _ _ _, by simp only [resolve, hg]; simp [go_sem], ?_, by simp [invoke, go_sem, eg], fun _ => h1, ?_⟩
 ·intro f' hf'; simp [Target.leads] at hf'; subst hf'; exact hFg
 refine (hseq (w.heap.size + 1)
  (fun pre W => I pre W ∧ W.heap[w.heap.size + 1]? = some (.loop (R .ready none)) ∧ W.heap[w.heap.size]? = some (.deferred (some [])))
  (fun pre W => ∃ c, Ix c pre W ∧ W.heap[w.heap.size + 1]? = some (.loop (R .done (some c))) ∧ W.heap[w.heap.size]? = some (.deferred (some [])))
  V (hSt _ hBV)
  (fun s A B hs hf => ⟨hI _ _ _ hs.1 (wide hf), hf.at hs.2.1 (nM (by omega)), hf.at hs.2.2 (nM (by omega))⟩)
  (fun s A B ⟨c, hc, hl, hk⟩ hf => ⟨c, hIx c _ _ _ hc (wide hf), hf.at hl (nM (by omega)), hf.at hk (nM (by omega))⟩)
  ?_ ⟨hIV, hL, hD⟩).mono ?_
 ·rintro pre x W ⟨hi, hl, hk⟩ hsp
  have hy := run_yield (P := P) (args := encs x) hl (by rw [hR]; exact hps x)
  rw [hR] at hy
  refine ⟨fn, _, assign, body, hy, roundIn_of_wpIn hfn (hassign _ x W _ ⟨_, run_beginRound hl (by rw [hR]), ?_⟩)⟩
  obtain ⟨W2, hW2⟩ : ∃ W2, W.putObj (w.heap.size + 1) (.loop { R .ready none with state := .busy }) = W2 := ⟨_, rfl⟩
  have hl2 : W2.heap[w.heap.size + 1]? = some (.loop { R .ready none with state := .busy }) := by
   rw [← hW2]; exact World.putObj_heap_same (Array.getElem?_eq_some_iff.1 hl).1
  have hk2 : W2.heap[w.heap.size]? = some (.deferred (some [])) := by rw [← hW2]; exact (World.putObj_heap_other (by omega)).trans hk
  have hp2 : Kp W W2 := by rw [← hW2]; exact hKb _ _ _ (by omega)
  have hi2 : I pre W2 := by rw [← hW2]; exact hI _ _ _ hi (far _ hl (by omega))
  rw [hW2]
  refine wpIn_mono (hbody _ pre x W2 hi2 hsp (by omega) ⟨_, hl2⟩) ?_
  have fin : ∀ (jump : Option Code) (W3 : World), KeepsOthers W2 W3 → W3.heap[w.heap.size + 1]? = some (.loop { R .ready none with state := .busy }) ∧
    (Instr.endRound (w.heap.size + 1) jump).run P W3 = .ok (.bool jump.isNone) (W3.putObj (w.heap.size + 1) (.loop (R (if jump.isNone then .ready else .done) jump))) ∧
    (W3.putObj (w.heap.size + 1) (.loop (R (if jump.isNone then .ready else .done) jump))).heap[w.heap.size + 1]? = some (.loop (R (if jump.isNone then .ready else .done) jump)) ∧
    (W3.putObj (w.heap.size + 1) (.loop (R (if jump.isNone then .ready else .done) jump))).heap[w.heap.size]? = some (.deferred (some [])) := fun jump W3 h3 => by
   have hl3 := h3.same _ _ hl2 rfl
   have := run_endRound (P := P) jump hl3
   rw [hR] at this ⊢
   exact ⟨by rw [hR] at hl3; exact hl3, this, World.putObj_heap_same (Array.getElem?_eq_some_iff.1 hl3).1, (World.putObj_heap_other (by omega)).trans (h3.same _ _ hk2 rfl)⟩
  rintro e a3 W3 hp
  cases e with
  | normal =>
   obtain ⟨h3, hkp, hi3⟩ := hp
   obtain ⟨hl3, hr, hl4, hk4⟩ := fin none W3 h3
   exact ⟨_, _, hr, .inl ⟨rfl, ⟨hI _ _ _ hi3 (far _ hl3 (by omega)), hl4, hk4⟩, hKt (hKt hp2 hkp) (hKb _ _ _ (by omega))⟩⟩
  | ret =>
   obtain ⟨h3, hi3⟩ := hp
   obtain ⟨hl3, hr, hl4, hk4⟩ := fin (some .ret) W3 h3
   exact ⟨_, _, hr, .inr ⟨rfl, .ret, hIx _ _ _ _ hi3 (far _ hl3 (by omega)), hl4, hk4⟩⟩
  | exit id =>
   obtain ⟨h3, hi3⟩ := hp
   obtain ⟨hl3, hr, hl4, hk4⟩ := fin (some (.exit id)) W3 h3
   exact ⟨_, _, hr, .inr ⟨rfl, .exit id, hIx _ _ _ _ hi3 (far _ hl3 (by omega)), hl4, hk4⟩⟩
  | goto t =>
   obtain ⟨h3, hi3⟩ := hp
   obtain ⟨hl3, hr, hl4, hk4⟩ := fin (some (.goto t)) W3 h3
   exact ⟨_, _, hr, .inr ⟨rfl, .goto t, hIx _ _ _ _ hi3 (far _ hl3 (by omega)), hl4, hk4⟩⟩
  | panic ch => exact hp.elim
  | outgrown => exact hp.elim
 ·rintro e W2 ⟨⟨v, rfl⟩, (⟨xs, hS, hi, hl, hk⟩ | ⟨pre, hSp, c, hi, hl, hk⟩)⟩
  ·exact ⟨none, _, by have := run_endLoop (P := P) hl (by rw [hR]; simp); rw [hR] at this; exact this, hdone _ xs _ hS (hI _ _ _ hi (far _ hl (by omega))) ((World.putObj_heap_other (by omega)).trans hk) (by omega)⟩
  ·exact ⟨some c, _, by have := run_endLoop (P := P) hl (by rw [hR]; simp); rw [hR] at this; exact this, hstop _ c pre _ hSp (hIx c _ _ _ hi (far _ hl (by omega))) ((World.putObj_heap_other (by omega)).trans hk) (by omega)⟩
theorem range_in {α : Type} {g : Operand} {ps : Array Tmp} {assign body : Code} {Q : Exit → Act → World → Prop} {a : Act} {w : World}
  {l₀ : Nat} {r₀ : Loop} (hro : F.round = some l₀) (hl₀ : w.heap[l₀]? = some (.loop r₀)) (h1 : 1 ≤ n) {gf : Nat} {lb : Array Value} (hg : a.eval g = .func (.func gf) #[] lb) (hFg : F.fn gf) (eg : ∀ args w, (callFunc gf args).run P w = .ok (.enter gf args) w)
  {encs : α → Array Value} {M : Nat → Prop} {Kp : World → World → Prop} {S Sp : List α → Prop} {St : World → Prop} (hseq : SeqM F (n - 1) P gf lb encs M Kp S Sp St)
  (hM : ∀ k, M k → k < w.heap.size) (hSt : ∀ W, Below w.heap.size w W → St W)
  (hKt : ∀ {A B C : World}, Kp A B → Kp B C → Kp A C) (hKb : ∀ (W : World) (l : Nat) (o' : Obj), w.heap.size ≤ l → Kp W (W.putObj l o'))
  (hps : ∀ x, (encs x).size = ps.size)
  (I : List α → World → Prop) (Ix : Code → List α → World → Prop) (hI : AbideN w.heap.size M I) (hIx : ∀ c, AbideN w.heap.size M (Ix c)) (h0 : I [] w) (a₁ : α → Act)
  (hassign : ∀ (l : Nat) (x : α) (W : World) (K : Act → World → Prop), K (a₁ x) W →
   assign.wpIn (F.inRound l) (n - 1 - 1) P (Exit.then K (fun _ _ _ => False)) { tmps := (ps.zip (encs x)).foldl (fun t (p, v) => t.setIfInBounds p v) a.tmps, defers := [] } W)
  (hbody : ∀ (l : Nat) (pre : List α) (x : α) (W : World), I pre W → Sp (pre ++ [x]) → w.heap.size ≤ l → (∃ r, W.heap[l]? = some (.loop r)) → body.wpIn (F.inRound l) (n - 1 - 1) P (ownPostK Kp I Ix (pre ++ [x]) W) (a₁ x) W)
  (hdone : ∀ (xs : List α) (W : World), S xs → I xs W → Q .normal a W)
  (hstop : ∀ (c : Code) (pre : List α) (W : World), Sp pre → Ix c pre W → c.wpIn F n P Q a W) :
  (Code.rangeFunc g ps assign body).wpIn F n P Q a w := by
 refine wpIn_rangeFunc fun fn hfn => ?_
 rw [hro]
 obtain ⟨R, hR⟩ : ∃ R : LoopState → Option Code → Loop, R = fun st pe => { state := st, pending := pe, fn, tmps := a.tmps, params := ps, assign, body, defers := r₀.defers } := ⟨_, rfl⟩
 obtain ⟨V, hV⟩ : ∃ V, w.alloc (.loop (R .ready none)) = V := ⟨_, rfl⟩
 have hL : V.heap[w.heap.size]? = some (.loop (R .ready none)) := by
  rw [← hV]; exact World.alloc_heap_new w _
 have hIV : I [] V := by
  rw [← hV]; exact hI _ _ _ h0 (Fr.alloc _ _ _)
 have hBV : Below w.heap.size w V := by rw [← hV]; exact (Below.refl _ w).alloc (Nat.le_refl _) _
 have far : ∀ {W : World} {k : Nat} {r : Loop} (o : Obj), W.heap[k]? = some (.loop r) → w.heap.size ≤ k → Fr (fun k => M k ∨ (w.heap.size ≤ k ∧ Za W k)) W (W.putObj k o) := fun o hk hle => Fr.putObj _ (.inr ⟨hle, fun c t f e => by rw [hk] at e; cases e⟩) o
 have wide : ∀ {A B : World}, Fr M A B → Fr (fun k => M k ∨ (w.heap.size ≤ k ∧ Za A k)) A B := fun h => h.mono (fun _ e => .inl e)
 have nM : ∀ {k : Nat}, w.heap.size ≤ k → ¬ M k := fun hk hm => by have := hM _ hm; omega
 refine ⟨w.heap.size, [], V, { target := .fn (.func gf) lb, args := #[.func (.yield w.heap.size) #[] #[]] }, V, gf,
  #[.func (.yield w.heap.size) #[] #[]] ++ lb, V, by rw [← hV, hR]; exact run_enterLoop_inner hl₀ _ _ _ _ _, by simp only [resolve, hg]; simp [go_sem], ?_, by simp [invoke, go_sem, eg], fun _ => h1, ?_⟩
 ·intro f' hf'; simp [Target.leads] at hf'; subst hf'; exact hFg
 refine (hseq w.heap.size
  (fun pre W => I pre W ∧ W.heap[w.heap.size]? = some (.loop (R .ready none)))
  (fun pre W => ∃ c, Ix c pre W ∧ W.heap[w.heap.size]? = some (.loop (R .done (some c))))
  V (hSt _ hBV)
  (fun s A B hs hf => ⟨hI _ _ _ hs.1 (wide hf), hf.at hs.2 (nM (Nat.le_refl _))⟩)
  (fun s A B ⟨c, hc, hl⟩ hf => ⟨c, hIx c _ _ _ hc (wide hf), hf.at hl (nM (Nat.le_refl _))⟩)
  ?_ ⟨hIV, hL⟩).mono ?_
 ·rintro pre x W ⟨hi, hl⟩ hsp
  have hy := run_yield (P := P) (args := encs x) hl (by rw [hR]; exact hps x)
  rw [hR] at hy
  refine ⟨fn, _, assign, body, hy, roundIn_of_wpIn hfn (hassign _ x W _ ⟨_, run_beginRound hl (by rw [hR]), ?_⟩)⟩
  obtain ⟨W2, hW2⟩ : ∃ W2, W.putObj w.heap.size (.loop { R .ready none with state := .busy }) = W2 := ⟨_, rfl⟩
  have hl2 : W2.heap[w.heap.size]? = some (.loop { R .ready none with state := .busy }) := by
   rw [← hW2]; exact World.putObj_heap_same (Array.getElem?_eq_some_iff.1 hl).1
  have hp2 : Kp W W2 := by rw [← hW2]; exact hKb _ _ _ (Nat.le_refl _)
  have hi2 : I pre W2 := by rw [← hW2]; exact hI _ _ _ hi (far _ hl (Nat.le_refl _))
  rw [hW2]
  refine wpIn_mono (hbody _ pre x W2 hi2 hsp (Nat.le_refl _) ⟨_, hl2⟩) ?_
  have fin : ∀ (jump : Option Code) (W3 : World), KeepsOthers W2 W3 → W3.heap[w.heap.size]? = some (.loop { R .ready none with state := .busy }) ∧
    (Instr.endRound w.heap.size jump).run P W3 = .ok (.bool jump.isNone) (W3.putObj w.heap.size (.loop (R (if jump.isNone then .ready else .done) jump))) ∧
    (W3.putObj w.heap.size (.loop (R (if jump.isNone then .ready else .done) jump))).heap[w.heap.size]? = some (.loop (R (if jump.isNone then .ready else .done) jump)) := fun jump W3 h3 => by
   have hl3 := h3.same _ _ hl2 rfl
   have := run_endRound (P := P) jump hl3
   rw [hR] at this ⊢
   exact ⟨by rw [hR] at hl3; exact hl3, this, World.putObj_heap_same (Array.getElem?_eq_some_iff.1 hl3).1⟩
  rintro e a3 W3 hp
  cases e with
  | normal =>
   obtain ⟨h3, hkp, hi3⟩ := hp
   obtain ⟨hl3, hr, hl4⟩ := fin none W3 h3
   exact ⟨_, _, hr, .inl ⟨rfl, ⟨hI _ _ _ hi3 (far _ hl3 (Nat.le_refl _)), hl4⟩, hKt (hKt hp2 hkp) (hKb _ _ _ (Nat.le_refl _))⟩⟩
  | ret =>
   obtain ⟨h3, hi3⟩ := hp
   obtain ⟨hl3, hr, hl4⟩ := fin (some .ret) W3 h3
   exact ⟨_, _, hr, .inr ⟨rfl, .ret, hIx _ _ _ _ hi3 (far _ hl3 (Nat.le_refl _)), hl4⟩⟩
  | exit id =>
   obtain ⟨h3, hi3⟩ := hp
   obtain ⟨hl3, hr, hl4⟩ := fin (some (.exit id)) W3 h3
   exact ⟨_, _, hr, .inr ⟨rfl, .exit id, hIx _ _ _ _ hi3 (far _ hl3 (Nat.le_refl _)), hl4⟩⟩
  | goto t =>
   obtain ⟨h3, hi3⟩ := hp
   obtain ⟨hl3, hr, hl4⟩ := fin (some (.goto t)) W3 h3
   exact ⟨_, _, hr, .inr ⟨rfl, .goto t, hIx _ _ _ _ hi3 (far _ hl3 (Nat.le_refl _)), hl4⟩⟩
  | panic ch => exact hp.elim
  | outgrown => exact hp.elim
 ·rintro e W2 ⟨⟨v, rfl⟩, (⟨xs, hS, hi, hl⟩ | ⟨pre, hSp, c, hi, hl⟩)⟩
  ·exact ⟨none, _, by have := run_endLoop (P := P) hl (by rw [hR]; simp); rw [hR] at this; exact this, hdone xs _ hS (hI _ _ _ hi (far _ hl (Nat.le_refl _)))⟩
  ·exact ⟨some c, _, by have := run_endLoop (P := P) hl (by rw [hR]; simp); rw [hR] at this; exact this, hstop c pre _ hSp (hIx c _ _ _ hi (far _ hl (Nat.le_refl _)))⟩
theorem SeqM.inRound {α : Type} {g : Nat} {lb : Array Value} {encs : α → Array Value} {M : Nat → Prop} {Kp : World → World → Prop} {S Sp : List α → Prop} {St : World → Prop} (l : Nat)
  (h : SeqM F n P g lb encs M Kp S Sp St) : SeqM (F.inRound l) n P g lb encs M Kp S Sp St := h
theorem abide_keeps {β : Type} {base : Nat} {W0 : World} (hb : W0.heap.size ≤ base) : AbideN base None' (fun (_ : β) W => KeepsOthers W0 W) := fun _ A B h f =>
 ⟨Nat.le_trans h.size f.size, fun k o hk ho => f.at (h.same k o hk ho) (fun e => by
  rcases e with e | ⟨e, _⟩
  ·exact e
  ·have := (Array.getElem?_eq_some_iff.1 hk).1; omega)⟩
end Go.Proofs.YtbnfjjjdnbcehaaGreatDoor.Diff
namespace Go.Proofs.YtbnfjjjdnbcehaaGreatDoor.Diff
structure Nums (f : ByteArray → Int) (a b : List ByteArray) : Prop where
 inj : ∀ s ∈ a, ∀ t ∈ b, (f s = f t ↔ s = t)
 pa : ∀ s ∈ a, 1 ≤ f s
 pb : ∀ s ∈ b, 1 ≤ f s
theorem lcs_map (f : ByteArray → Int) : ∀ (a b : List ByteArray), (∀ s ∈ a, ∀ t ∈ b, (f s = f t ↔ s = t)) → lcs (a.map f) (b.map f) = lcs a b := by
 intro a b
 induction h : a.length + b.length using Nat.strongRecOn generalizing a b with
 | ind m ih =>
  subst h
  intro hi
  match a, b with
  | [], b => rw [List.map_nil, lcs_nil, lcs_nil]
  | x :: a, [] => rw [List.map_nil, lcs_nil', lcs_nil']
  | x :: a, y :: b =>
   have e := hi x (by simp) y (by simp)
   rw [List.map_cons, List.map_cons]
   by_cases hxy : x = y
   ·subst hxy
    rw [lcs_same, lcs_same, ih _ (by simp; omega) a b rfl (fun s hs t ht => hi s (by simp [hs]) t (by simp [ht]))]
   ·rw [lcs_ne hxy, lcs_ne (fun h => hxy (e.1 h)), ← List.map_cons, ← List.map_cons, ih _ (by simp) a (y :: b) rfl (fun s hs t ht => hi s (by simp [hs]) t ht), ih _ (by simp) (x :: a) b rfl (fun s hs t ht => hi s hs t (by simp [ht]))]
theorem flush_app (k : Nat) (o n : List ByteArray) (r : List (Hk ByteArray)) : flush k o n r = flush k o n [] ++ r := by
 unfold flush
 split <;> rfl
theorem take_snoc {l : List ByteArray} {i0 i : Nat} (h0 : i0 ≤ i) (h : i < l.length) : (l.drop i0).take (i + 1 - i0) = (l.drop i0).take (i - i0) ++ [l[i]] := by
 rw [show i + 1 - i0 = (i - i0) + 1 by omega, List.take_add_one, List.getElem?_drop, show i0 + (i - i0) = i by omega, List.getElem?_eq_getElem h]
 rfl
structure Walk (h : Nat) (a b : List ByteArray) (D : List (Hk ByteArray)) (i j i0 j0 : Nat) (L : List (Hk ByteArray)) : Prop where
 li : i ≤ a.length
 lj : j ≤ b.length
 gi : i0 ≤ i
 gj : j0 ≤ j
 eq : L ++ hunks (h + j0) ((a.drop i0).take (i - i0)) ((b.drop j0).take (j - j0)) (a.drop i) (b.drop j) = D
theorem Walk.start (h : Nat) (a b : List ByteArray) : Walk h a b (hunks h [] [] a b) 0 0 0 0 [] := ⟨Nat.zero_le _, Nat.zero_le _, Nat.le_refl _, Nat.le_refl _, by simp⟩
theorem ends_get (f : ByteArray → Int) (a : List ByteArray) {i : Nat} (hi : i < a.length) {x : Int} (hx : (a.map f ++ [0])[i]? = some x) : x = f a[i] := by
 rw [List.getElem?_append_left (by rw [List.length_map]; exact hi), List.getElem?_map, List.getElem?_eq_getElem hi] at hx
 cases hx; rfl
theorem ends_last (f : ByteArray → Int) (a : List ByteArray) {x : Int} (hx : (a.map f ++ [0])[a.length]? = some x) : x = 0 := by
 rw [List.getElem?_append_right (by rw [List.length_map]; exact Nat.le_refl _), List.length_map, Nat.sub_self] at hx
 cases hx; rfl
theorem Walk.stay {h : Nat} {a b : List ByteArray} {D L : List (Hk ByteArray)} {i j i0 j0 : Nat} (hw : Walk h a b D i j i0 j0 L) {f : ByteArray → Int} (hn : Nums f a b) {x : Int} (hx : (a.map f ++ [0])[i]? = some x) (hy : (b.map f ++ [0])[j]? = some x) :
  Walk h a b D (i + 1) (j + 1) (i + 1) (j + 1) (L ++ flush (h + j0) ((a.drop i0).take (i - i0)) ((b.drop j0).take (j - j0)) []) ∨ (i = a.length ∧ L ++ flush (h + j0) ((a.drop i0).take (i - i0)) ((b.drop j0).take (j - j0)) [] = D) := by
 by_cases ei : i < a.length
 ·have e1 := ends_get f a ei hx
  have p1 := hn.pa a[i] (List.getElem_mem ei)
  by_cases ej : j < b.length
  ·have e2 := ends_get f b ej hy
   have e := (hn.inj a[i] (List.getElem_mem ei) b[j] (List.getElem_mem ej)).1 (e1.symm.trans e2)
   refine Or.inl ⟨ei, ej, Nat.le_refl _, Nat.le_refl _, ?_⟩
   rw [← hw.eq, List.drop_eq_getElem_cons ei, List.drop_eq_getElem_cons ej, ← e, hunks_same, flush_app (h + j0) _ _ (hunks _ _ _ _ _), List.append_assoc]
   have hl : ((b.drop j0).take (j - j0)).length = j - j0 := by rw [List.length_take, List.length_drop]; omega
   rw [hl, Nat.sub_self, Nat.sub_self, List.take_zero, List.take_zero, show h + j0 + (j - j0) + 1 = h + (j + 1) by have := hw.gj; omega]
  ·have : j = b.length := by have := hw.lj; omega
   subst this
   have := ends_last f b hy
   omega
 ·have e : i = a.length := by have := hw.li; omega
  subst e
  have e1 := ends_last f a hx
  by_cases ej : j < b.length
  ·have e2 := ends_get f b ej hy
   have p1 := hn.pb b[j] (List.getElem_mem ej)
   omega
  ·have : j = b.length := by have := hw.lj; omega
   subst this
   refine Or.inr ⟨rfl, ?_⟩
   rw [← hw.eq, List.drop_length, List.drop_length, hunks_nn]
theorem drop_ends (f : ByteArray → Int) (a : List ByteArray) {i : Nat} (hi : i ≤ a.length) : (a.map f ++ [0]).drop i = (a.drop i).map f ++ [0] := by
 rw [List.drop_append_of_le_length (by rw [List.length_map]; exact hi), List.map_drop]
theorem no_end {f : ByteArray → Int} {a : List ByteArray} (hp : ∀ s ∈ a, 1 ≤ f s) (i : Nat) : (0 : Int) ∉ (a.drop i).map f := fun h => by
 obtain ⟨s, hs, e⟩ := List.mem_map.1 h
 have := hp s (List.mem_of_mem_drop hs)
 omega
theorem kept_lcs {f : ByteArray → Int} {a b : List ByteArray} (hn : Nums f a b) {i j : Nat} (hi : i ≤ a.length) (hj : j ≤ b.length) : kept ((a.map f ++ [0]).drop i) ((b.map f ++ [0]).drop j) = some (lcs (a.drop i) (b.drop j) + 1) := by
 rw [drop_ends f a hi, drop_ends f b hj, kept_ends _ _ (no_end hn.pa i) (no_end hn.pb j), lcs_map f _ _ (fun s hs t ht => hn.inj s (List.mem_of_mem_drop hs) t (List.mem_of_mem_drop ht))]
theorem kept_past {f : ByteArray → Int} {a b : List ByteArray} {j : Nat} (hj : j ≤ b.length) : kept ((a.map f ++ [0]).drop (a.length + 1)) ((b.map f ++ [0]).drop j) = none := by
 rw [List.drop_of_length_le (by simp), drop_ends f b hj]
 cases (b.drop j).map f with
 | nil => exact kept_nc _ _
 | cons y l => exact kept_nc _ _
theorem kept_past' {f : ByteArray → Int} {a b : List ByteArray} {i : Nat} (hi : i ≤ a.length) : kept ((a.map f ++ [0]).drop i) ((b.map f ++ [0]).drop (b.length + 1)) = none := by
 rw [List.drop_of_length_le (l := b.map f ++ [0]) (by simp), drop_ends f a hi]
 cases (a.drop i).map f with
 | nil => exact kept_cn _ _
 | cons y l => exact kept_cn _ _
theorem Walk.split {h : Nat} {a b : List ByteArray} {D L : List (Hk ByteArray)} {i j i0 j0 : Nat} (hw : Walk h a b D i j i0 j0 L) {f : ByteArray → Int} {x y : Int} (hx : (a.map f ++ [0])[i]? = some x) (hy : (b.map f ++ [0])[j]? = some y) (hxy : x ≠ y) : i < a.length ∨ j < b.length := by
 by_cases ei : i < a.length
 ·exact Or.inl ei
 ·refine Or.inr (Nat.lt_of_not_le fun e => hxy ?_)
  have e1 : i = a.length := by have := hw.li; omega
  have e2 : j = b.length := by have := hw.lj; omega
  subst e1 e2
  rw [ends_last f a hx, ends_last f b hy]
theorem Walk.differ {h : Nat} {a b : List ByteArray} {D L : List (Hk ByteArray)} {i j i0 j0 : Nat} (_ : Walk h a b D i j i0 j0 L) {f : ByteArray → Int} {x y : Int} (hx : (a.map f ++ [0])[i]? = some x) (hy : (b.map f ++ [0])[j]? = some y) (hxy : x ≠ y) (ei : i < a.length) (ej : j < b.length) : ¬ a[i] = b[j] := fun e => by
 rw [ends_get f a ei hx, ends_get f b ej hy, e] at hxy
 exact hxy rfl
theorem Walk.goes {h : Nat} {a b : List ByteArray} {D L : List (Hk ByteArray)} {i j i0 j0 : Nat} (hw : Walk h a b D i j i0 j0 L) {f : ByteArray → Int} (hn : Nums f a b) {x y : Int} (hx : (a.map f ++ [0])[i]? = some x) (hy : (b.map f ++ [0])[j]? = some y) (hxy : x ≠ y)
  (hg : kgeq (kept ((a.map f ++ [0]).drop (i + 1)) ((b.map f ++ [0]).drop j)) (kept ((a.map f ++ [0]).drop i) ((b.map f ++ [0]).drop (j + 1))) = true) : Walk h a b D (i + 1) j i0 j0 L := by
 have hsp := hw.split hx hy hxy
 by_cases ei : i < a.length
 ·refine ⟨ei, hw.lj, Nat.le_succ_of_le hw.gi, hw.gj, ?_⟩
  rw [← hw.eq, take_snoc hw.gi ei, List.drop_eq_getElem_cons ei]
  by_cases ej : j < b.length
  ·rw [List.drop_eq_getElem_cons ej, hunks_goes _ _ _ _ _ (hw.differ hx hy hxy ei ej)]
   rw [kept_lcs hn (i := i + 1) ei hw.lj, kept_lcs hn (j := j + 1) hw.li ej] at hg
   simp only [kgeq, klt, Bool.not_eq_true', decide_eq_false_iff_not] at hg
   rw [← List.drop_eq_getElem_cons ei, ← List.drop_eq_getElem_cons ej]
   omega
  ·have e2 : j = b.length := by have := hw.lj; omega
   subst e2
   rw [List.drop_length, hunks_cn]
 ·have e1 : i = a.length := by have := hw.li; omega
  have ej : j < b.length := by omega
  subst e1
  rw [kept_past hw.lj, kept_lcs hn (Nat.le_refl _) ej] at hg
  cases hg
theorem Walk.comes {h : Nat} {a b : List ByteArray} {D L : List (Hk ByteArray)} {i j i0 j0 : Nat} (hw : Walk h a b D i j i0 j0 L) {f : ByteArray → Int} (hn : Nums f a b) {x y : Int} (hx : (a.map f ++ [0])[i]? = some x) (hy : (b.map f ++ [0])[j]? = some y) (hxy : x ≠ y)
  (hg : kgeq (kept ((a.map f ++ [0]).drop (i + 1)) ((b.map f ++ [0]).drop j)) (kept ((a.map f ++ [0]).drop i) ((b.map f ++ [0]).drop (j + 1))) = false) : Walk h a b D i (j + 1) i0 j0 L := by
 have hsp := hw.split hx hy hxy
 by_cases ej : j < b.length
 ·refine ⟨hw.li, ej, hw.gi, Nat.le_succ_of_le hw.gj, ?_⟩
  rw [← hw.eq, take_snoc hw.gj ej, List.drop_eq_getElem_cons ej]
  by_cases ei : i < a.length
  ·rw [List.drop_eq_getElem_cons ei, hunks_comes _ _ _ _ _ (hw.differ hx hy hxy ei ej)]
   rw [kept_lcs hn (i := i + 1) ei hw.lj, kept_lcs hn (j := j + 1) hw.li ej] at hg
   simp only [kgeq, klt, Bool.not_eq_false', decide_eq_true_eq] at hg
   rw [← List.drop_eq_getElem_cons ei, ← List.drop_eq_getElem_cons ej]
   omega
  ·have e2 : i = a.length := by have := hw.li; omega
   subst e2
   rw [List.drop_length, hunks_nc]
 ·have e1 : j = b.length := by have := hw.lj; omega
  have ei : i < a.length := by omega
  subst e1
  rw [kept_past' hw.li, kept_lcs hn ei (Nat.le_refl _)] at hg
  cases hg
end Go.Proofs.YtbnfjjjdnbcehaaGreatDoor.Diff
