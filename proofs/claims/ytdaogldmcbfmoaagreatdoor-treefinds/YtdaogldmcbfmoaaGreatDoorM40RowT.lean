/-
  What is proved here: the contracts that the statement stands on: RowT, Kept7. Conditions: as each theorem names them.
-/
import Derived.Test.YtdaogldmcbfmoaaGreatDoorM38RightT2
import Derived.Test.YtdaogldmcbfmoaaGreatDoorMRRightE
import Derived.Test.YtdaogldmcbfmoaaGreatDoorM34Plain3
namespace Go.Proofs.YtdaogldmcbfmoaaGreatDoor
open Go.RowKit
set_option maxRecDepth 100000

/-- What stands behind a path's last slash. -/
def lastPart (p : List UInt8) : List UInt8 := match Path.parent p with | none => p | some a => p.drop (a.length + 1)

/-- The line of a thing of kind K, path p and name n. -/
def rowL (K : Nat) (p n : List UInt8) : List UInt8 := UInt8.ofNat (48 + K) :: 32 :: (lastPart p ++ 32 :: n)

theorem drop_list (p : ByteArray) (k : Nat) : bl (p.extract k p.size) = (bl p).drop k := by
  unfold bl
  rw [Path.extract_list, List.take_of_length_le (by rw [Path.len_eq]; exact Nat.le_refl _)]

theorem lastPart_at (P : ByteArray) : ∃ j : Nat, j ≤ P.size ∧ Lib.lastIndexByte P 47 = (j : Int) - 1 ∧ lastPart (bl P) = (bl P).drop j := by
  rcases Lib.lastIndexByte_spec P 47 with ⟨h1, h2⟩ | ⟨i, h1, h2, h3, h4⟩
  · refine ⟨0, Nat.zero_le _, by rw [h1]; rfl, ?_⟩
    unfold lastPart bl
    rw [Path.last_none h2, List.drop_zero]
  · refine ⟨i + 1, h1, by rw [h2]; omega, ?_⟩
    have at' : ∀ (j : Nat) (hj : j < P.size), P.data[j]! = P[j] := fun j hj => by rw [getElem!_pos P.data j hj]; rfl
    have e := Path.parent_at h1 (UInt8.toNat_inj.1 (by rw [at' i h1] at h3; show (P[i]).toNat = 47; omega)) (fun hm => by
      obtain ⟨k, hk, e⟩ := List.getElem_of_mem hm
      rw [List.length_drop, Path.len_eq] at hk
      rw [List.getElem_drop] at e
      refine h4 (i + 1 + k) (by omega) (by omega) ?_
      rw [at' _ (by omega), show P[i + 1 + k] = 47 from e]
      rfl)
    unfold lastPart bl
    rw [e]
    show List.drop (_ + 1) _ = _
    rw [List.length_take, Path.len_eq, Nat.min_eq_left (by omega)]

set_option maxHeartbeats 1000000 in
theorem rowOf_any (P D nm : ByteArray) (K : Nat) (vl : Value) (w : World) (pl : Option Addr) (nl cl : Nat) (hv : vl = .slice pl nl cl) (h1 : 1 ≤ K) (h3 : K ≤ 3) (hP : P.size < 100000000) (hn : nm.size < 100000000) :
    Calls Tryz.prog 69 #[.agg #[.string P, .int .i64 (K : Int), vl, .string D], .string nm] w fun e w' => e = .returned (.string ⟨(rowL K (bl P) (bl nm)).toArray⟩) ∧ Fr None' w w' := by
  subst hv
  obtain ⟨j, hj, hz, hp⟩ := lastPart_at P
  have cL : ∀ v : World, Calls Tryz.prog 83 #[.string P, .string ⟨#[47]⟩] v fun e w' => e = .returned (.int .i64 ((j : Int) - 1)) ∧ w' = v := fun v => by
    have h := Tryz.strings_LastIndex_one P ⟨#[47]⟩ rfl (by omega) v
    rw [← hz]
    exact h
  obtain ⟨dg, hdg⟩ : ∃ s : ByteArray, (⟨#[UInt8.ofNat (48 + K)]⟩ : ByteArray) = s := ⟨_, rfl⟩
  have sD : dg.size = 1 := by rw [← hdg]; rfl
  have cI : ∀ v : World, Calls Tryz.prog 105 #[.int .i64 (K : Int)] v fun e w' => e = .returned (.string dg) ∧ v = w' := fun v => by
    have h := Tryz.strconv_Itoa_small K (by omega) v
    rw [Lib.decDigits_one (by omega)] at h
    rw [← hdg]
    exact h.mono fun _ _ ⟨a, b⟩ => ⟨a, b.symm⟩
  obtain ⟨p, hpe⟩ : ∃ p, P.extract j P.size = p := ⟨_, rfl⟩
  have hpl : bl p = lastPart (bl P) := by rw [hp, ← hpe, drop_list]
  have hps : p.size ≤ P.size := by
    have e : (bl p).length ≤ (bl P).length := by rw [hpl, hp, List.length_drop]; omega
    unfold bl at e
    rw [Path.len_eq, Path.len_eq] at e
    exact e
  obtain ⟨A, hA⟩ : ∃ A, dg ++ ⟨#[32]⟩ = A := ⟨_, rfl⟩
  have sA : A.size = 2 := by rw [← hA, ByteArray.size_append, sD]; rfl
  obtain ⟨B, hB⟩ : ∃ B, A ++ p = B := ⟨_, rfl⟩
  have sB : B.size = A.size + p.size := by rw [← hB, ByteArray.size_append]
  obtain ⟨C, hC⟩ : ∃ C, B ++ (⟨#[32]⟩ : ByteArray) = C := ⟨_, rfl⟩
  have sC : C.size = B.size + 1 := by rw [← hC, ByteArray.size_append]; rfl
  obtain ⟨E, hE⟩ : ∃ E, C ++ nm = E := ⟨_, rfl⟩
  have a1 : ∀ v, (Op.stringOp .add dg ⟨#[32]⟩).run Tryz.prog v = .ok (.string A) v := fun v => by rw [run_string_add_sum _ _ _ (by rw [sD]; show 1 + 1 ≤ _; omega), hA]
  have a2 : ∀ v, (Op.stringOp .add A p).run Tryz.prog v = .ok (.string B) v := fun v => by rw [run_string_add_sum _ _ _ (by omega), hB]
  have a3 : ∀ v, (Op.stringOp .add B ⟨#[32]⟩).run Tryz.prog v = .ok (.string C) v := fun v => by rw [run_string_add_sum _ _ _ (by show B.size + 1 ≤ _; omega), hC]
  have a4 : ∀ v, (Op.stringOp .add C nm).run Tryz.prog v = .ok (.string E) v := fun v => by rw [run_string_add_sum _ _ _ (by omega), hE]
  have HR : Hid (E = ⟨(rowL K (bl P) (bl nm)).toArray⟩) := Path.str_of (by
    show _ = rowL K (bl P) (bl nm)
    rw [← hE, ← hC, ← hB, ← hA, ← hdg]
    unfold rowL
    rw [← hpl]
    simp [bl, ByteArray.data_append])
  have i1 : (0 : Int) ≤ (j : Int) := by omega
  have i2 : (j : Int) ≤ (P.size : Int) := by omega
  have i3 : (P.size : Int) < 100000000 := by omega
  obtain ⟨w1, hw1⟩ : ∃ w1, w.alloc (.cells #[.string P, .int .i64 (K : Int), .slice pl nl cl, .string D] 38) = w1 := ⟨_, rfl⟩
  have F1 : Fr None' w w1 := hw1 ▸ Fr.alloc None' w _
  obtain ⟨b0, b1, b2, b3⟩ := cell4 w 38 (.string P) (.int .i64 (K : Int)) (.slice pl nl cl) (.string D)
  rw [hw1] at b0 b1 b2 b3
  clear hdg sD hA hB hC hE sA sB sC hps hpl hp hz hj hP hn h1 h3
  go_enter Tryz.func69, Tryz.ntmps69
  go_wp2_with fail
  go_quiet ((go_at_call 83; exact Calls.quiet_of_same (cL _)))
  obtain ⟨w2, hw2⟩ : ∃ x, w1.drewN nq = x := ⟨_, rfl⟩
  have f2 : Fr None' w1 w2 := hw2 ▸ drewF _ _
  rw [hw2]
  replace b1 := f2.keepCell b1 (fun e => e)
  clear b0 b2 b3 hw1 hw2 cL
  go_wp2_with (go_at_call 105; refine (cI _).mono ?_; rintro e w' ⟨rfl, rfl⟩)
  go_ret
  exact ⟨by rw [HR.out]; rfl, F1.then7 f2⟩

end Go.Proofs.YtdaogldmcbfmoaaGreatDoor

namespace Go.Proofs.YtdaogldmcbfmoaaGreatDoor
open Go.RowKit
set_option maxRecDepth 100000

theorem not_right_nil : Path.right [] = false := rfl

theorem parent_noSlash {p : List UInt8} (h : Path.parent p = none) : (47 : UInt8) ∉ p := fun hm => by
  obtain ⟨a, b, e⟩ := List.append_of_mem hm
  have key : ∀ (q : List UInt8), Path.parent (47 :: q) ≠ none := fun q e => by
    unfold Path.parent at e
    split at e <;> simp at e
  subst e
  clear hm
  induction a with
  | nil => exact key b h
  | cons c a ih =>
    rw [List.cons_append] at h
    unfold Path.parent at h
    split at h
    · cases h
    · rename_i e2
      exact ih e2

theorem right_at7 {L : List En} (h : treeRight L = true) {x : En} (hx : x ∈ L) : Path.right (bl x.path) = true ∧ 1 ≤ x.kind ∧ x.kind ≤ 3 := by
  obtain ⟨j, hj, rfl⟩ := List.getElem_of_mem hx
  have := okD_parts.1 (((treeRight_D L).1 h).2 j hj)
  exact ⟨this.1, this.2.2.1, this.2.2.2.1⟩

/-- In a right tree a directory's things are those that lie under its path. -/
theorem children_byKey {L : List En} (h : treeRight L = true) (p : List UInt8) : children L p = byKey L p := by
  unfold children byKey
  refine List.filter_congr fun x hx => ?_
  have hr := (right_at7 h hx).1
  unfold isChild keyOfE
  cases hp : Path.parent (bl x.path) with
  | none =>
    show decide (p = []) = decide ([] = p)
    exact decide_eq_decide.2 eq_comm
  | some a =>
    have ha : a ≠ [] := fun e => by
      have := (Path.right_parent hr hp).1
      rw [e, not_right_nil] at this
      cases this
    show (!decide (p = []) && decide (a = p)) = decide (a = p)
    by_cases e : a = p
    · subst e; simp [ha]
    · simp [e]

theorem byKey_longer {L : List En} (h : treeRight L = true) {p : List UInt8} {x : En} (hx : x ∈ byKey L p) : x ∈ L ∧ p.length < (bl x.path).length := by
  unfold byKey at hx
  obtain ⟨h1, h2⟩ := List.mem_filter.1 hx
  refine ⟨h1, ?_⟩
  have hk : keyOfE x = p := by simpa using h2
  have hr := (right_at7 h h1).1
  subst hk
  unfold keyOfE
  cases hp : Path.parent (bl x.path) with
  | none =>
    show 0 < _
    refine List.length_pos_iff.2 fun e => ?_
    rw [e, not_right_nil] at hr
    cases hr
  | some a =>
    obtain ⟨b, e, _⟩ := Path.parent_some hp
    rw [e]
    show a.length < (a ++ 47 :: b).length
    simp

theorem lastPart_good {p : List UInt8} (h : Path.right p = true) : Path.goodPart (lastPart p) = true := by
  unfold lastPart
  cases hp : Path.parent p with
  | none =>
    have h1 := (Path.right_iff p).1 h
    rw [Path.parts_one (parent_noSlash hp)] at h1
    exact h1.2 p (List.mem_singleton.2 rfl)
  | some a =>
    obtain ⟨b, e, hb⟩ := Path.parent_some hp
    subst e
    have h1 := (Path.right_join.1 h).2.2 b (by rw [Path.parts_one hb]; exact List.mem_singleton.2 rfl)
    show Path.goodPart (List.drop (a.length + 1) (a ++ 47 :: b)) = true
    rw [show a ++ 47 :: b = (a ++ [47]) ++ b from by simp, List.drop_left' (by simp)]
    exact h1

theorem lastPart_len {p : List UInt8} (h : Path.right p = true) : (lastPart p).length ≤ 16 := by
  have h1 := lastPart_good h
  unfold Path.goodPart at h1
  simp only [Bool.and_eq_true, decide_eq_true_eq] at h1
  exact h1.1.1.1.2

/-- What is kept of a thing that is no directory. -/
def leaf (x : En) : List UInt8 := if x.kind = 2 then 116 :: Lines.join (Lines.bs x.lines) else 98 :: bl x.data

/-- What is kept of a thing, and of all below it; of a directory by r. -/
def part7 (r : List UInt8 → List (List UInt8)) (x : En) : List (List UInt8) := if x.kind = 1 then r (bl x.path) else [leaf x]

/-- The name of what is kept last. -/
def lastName (k : List (List UInt8)) : List UInt8 := nm (k.getLast?.getD [])

def rows7 (g : En → List (List UInt8)) (c : List En) : List (List UInt8) := c.map fun x => rowL x.kind.toNat (bl x.path) (lastName (g x))

def node7 (g : En → List (List UInt8)) (c : List En) : List (List UInt8) := c.flatMap g ++ [100 :: Lines.join (rows7 g c)]

/-- What is kept of all below a directory, and of it, in the order of Save. -/
def keptL (L : List En) : Nat → List UInt8 → List (List UInt8)
  | 0, _ => []
  | f + 1, p => node7 (part7 (keptL L f)) (byKey L p)

theorem node7_last (g : En → List (List UInt8)) (c : List En) : lastName (node7 g c) = nm (100 :: Lines.join (rows7 g c)) := by
  unfold lastName node7
  rw [List.getLast?_append]
  rfl

theorem rows7_snoc (g : En → List (List UInt8)) (c : List En) (x : En) : rows7 g (c ++ [x]) = rows7 g c ++ [rowL x.kind.toNat (bl x.path) (lastName (g x))] := by simp [rows7]

theorem join_snoc7 (l : List (List UInt8)) (x : List UInt8) : Lines.join (l ++ [x]) = Lines.join l ++ (x ++ [10]) := by simp [Lines.join]

theorem rowL_len {K : Nat} {p n : List UInt8} (hp : Path.right p = true) (hn : n.length = 64) : (rowL K p n).length ≤ 83 := by
  have := lastPart_len hp
  unfold rowL
  simp only [List.length_cons, List.length_append, hn]
  omega

/-- A directory's lines are of bounded size. -/
theorem rows7_len (g : En → List (List UInt8)) (c : List En) (h : ∀ x ∈ c, Path.right (bl x.path) = true) : (Lines.join (rows7 g c)).length ≤ 84 * c.length := by
  induction c with
  | nil => exact Nat.le_refl _
  | cons x c ih =>
    have h1 := ih fun y hy => h y (List.mem_cons_of_mem _ hy)
    have h2 := rowL_len (K := x.kind.toNat) (n := lastName (g x)) (h x (List.mem_cons_self ..)) (nm_length _)
    have e : Lines.join (rows7 g (x :: c)) = (rowL x.kind.toNat (bl x.path) (lastName (g x)) ++ [10]) ++ Lines.join (rows7 g c) := by simp [Lines.join, rows7]
    rw [e]
    simp only [List.length_append, List.length_cons, List.length_nil]
    omega

/-- Puts, one behind the other, up to the first error: R tells what a put hands back (0: no error) and leaves. -/
inductive Puts {S : Type} (R : S → List UInt8 → Int → S → Prop) : S → List (List UInt8) → Int → S → Prop
  | nil (s : S) : Puts R s [] 0 s
  | stop {s s' : S} {b : List UInt8} {l : List (List UInt8)} {e : Int} : R s b e s' → e ≠ 0 → Puts R s (b :: l) e s'
  | next {s s' s2 : S} {b : List UInt8} {l : List (List UInt8)} {e : Int} : R s b 0 s' → Puts R s' l e s2 → Puts R s (b :: l) e s2

theorem Puts.one {S : Type} {R : S → List UInt8 → Int → S → Prop} {s s' : S} {b : List UInt8} {e : Int} (h : R s b e s') : Puts R s [b] e s' := by
  by_cases h0 : e = 0
  · subst h0; exact .next h (.nil _)
  · exact .stop h h0

theorem Puts.ends {S : Type} {R : S → List UInt8 → Int → S → Prop} {s s' : S} {a : List (List UInt8)} {e : Int} (h : Puts R s a e s') (h0 : e ≠ 0) (b : List (List UInt8)) : Puts R s (a ++ b) e s' := by
  induction h with
  | nil s => exact absurd rfl h0
  | stop h1 h2 => exact .stop h1 h2
  | next h1 _ ih => exact .next h1 (ih h0)

theorem Puts.then {S : Type} {R : S → List UInt8 → Int → S → Prop} {s s' s2 : S} {a b : List (List UInt8)} {e z : Int} (h : Puts R s a z s') (hz : z = 0) (k : Puts R s' b e s2) : Puts R s (a ++ b) e s2 := by
  induction h with
  | nil s => exact k
  | stop h1 h2 => exact absurd hz h2
  | next h1 _ ih => exact .next h1 (ih hz k)

end Go.Proofs.YtdaogldmcbfmoaaGreatDoor
