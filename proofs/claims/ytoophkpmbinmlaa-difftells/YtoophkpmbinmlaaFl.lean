/-
  What is proved here: small whole numbers, and minus infinity, as floating numbers: their sum with 1, their order, a root's whole part. The numbers are below 1000.
-/
import Derived.Test.YtoophkpmbinmlaaVals
import Derived.Laws.Externs
namespace Go.Proofs.Ytoophkpmbinmlaa
open Go.RowKit
set_option maxRecDepth 100000

def negInf : Nat := 18442240474082181120

/-- A number, or minus infinity, as bits. -/
def fl : Option Nat → Nat
  | none => negInf
  | some k => floatOfInt .f64 k

def flV (u : Option Nat) : Value := .float .f64 (fl u)

def addsB : Bool := (List.range 1000).all fun k => floatBits .add .f64 (fl (some k)) 4607182418800017408 == some (fl (some (k + 1)))
theorem addsB_true : addsB = true := by decide +kernel

theorem fl_add (u : Option Nat) (hu : ∀ k, u = some k → k < 1000) : floatBits .add .f64 (fl u) 4607182418800017408 = some (fl (u.map (· + 1))) := by
  cases u with
  | none => decide +kernel
  | some k =>
    have h := List.all_eq_true.1 addsB_true k (List.mem_range.2 (hu k rfl))
    simpa using h

/-- How a number lies. -/
def readsB : Bool := (List.range 1001).all fun k => k == 0 || (Ieee.double.read (fl (some k)) == .number false (k <<< (52 - k.log2)) ((k.log2 : Int) - 52) && decide (k.log2 ≤ 52))
theorem readsB_true : readsB = true := by decide +kernel

theorem fl_read {k : Nat} (hk : k ≤ 1000) (h0 : 0 < k) : Ieee.double.read (fl (some k)) = .number false (k <<< (52 - k.log2)) ((k.log2 : Int) - 52) ∧ k.log2 ≤ 52 := by
  have h := List.all_eq_true.1 readsB_true k (List.mem_range.2 (by omega))
  have hne : (k == 0) = false := by simp; omega
  rw [hne, Bool.false_or, Bool.and_eq_true, beq_iff_eq, decide_eq_true_eq] at h
  exact h

theorem fl_read0 : Ieee.double.read (fl (some 0)) = .number false 0 (-1074) := by decide +kernel
theorem fl_readN : Ieee.double.read (fl none) = .infinity true := by decide +kernel

def kord : Option Nat → Option Nat → Ordering
  | none, none => .eq
  | none, some _ => .lt
  | some _, none => .gt
  | some u, some v => compare u v

theorem int_cmp (u v : Nat) : compare (u : Int) (v : Int) = compare u v := by
  rcases Nat.lt_trichotomy u v with h | h | h
  · rw [Nat.compare_eq_lt.2 h]
    show compareOfLessAndEq (u : Int) (v : Int) = _
    rw [compareOfLessAndEq, if_pos (by omega)]
  · subst h
    simp
  · rw [Nat.compare_eq_gt.2 h]
    show compareOfLessAndEq (u : Int) (v : Int) = _
    rw [compareOfLessAndEq, if_neg (by omega), if_neg (by omega)]

theorem shift_cmp (u v e : Nat) : compare (u <<< e) (v <<< e) = compare u v := by
  have h2 : 0 < 2 ^ e := Nat.two_pow_pos e
  rw [Nat.shiftLeft_eq, Nat.shiftLeft_eq]
  rcases Nat.lt_trichotomy u v with h | h | h
  · have : u * 2 ^ e < v * 2 ^ e := Nat.mul_lt_mul_of_pos_right h h2
    rw [Nat.compare_eq_lt.2 h, Nat.compare_eq_lt.2 this]
  · subst h; simp
  · have : v * 2 ^ e < u * 2 ^ e := Nat.mul_lt_mul_of_pos_right h h2
    rw [Nat.compare_eq_gt.2 h, Nat.compare_eq_gt.2 this]

theorem fl_order (u v : Option Nat) (hu : ∀ k, u = some k → k ≤ 1000) (hv : ∀ k, v = some k → k ≤ 1000) : FloatKind.f64.format.order (fl u) (fl v) = some (kord u v) := by
  show (Ieee.double.read (fl u)).order (Ieee.double.read (fl v)) = _
  cases u with
  | none =>
    rw [fl_readN]
    cases v with
    | none => rw [fl_readN]; rfl
    | some k =>
      by_cases h0 : 0 < k
      · rw [(fl_read (hv k rfl) h0).1]; rfl
      · obtain rfl : k = 0 := by omega
        rw [fl_read0]; rfl
  | some j =>
    cases v with
    | none =>
      rw [fl_readN]
      by_cases h0 : 0 < j
      · rw [(fl_read (hu j rfl) h0).1]; rfl
      · obtain rfl : j = 0 := by omega
        rw [fl_read0]; rfl
    | some k =>
      by_cases h0 : 0 < j <;> by_cases h1 : 0 < k
      · obtain ⟨e1, l1⟩ := fl_read (hu j rfl) h0
        obtain ⟨e2, l2⟩ := fl_read (hv k rfl) h1
        rw [e1, e2]
        show some (compare (((j <<< (52 - j.log2)) <<< ((j.log2 : Int) - 52 - min ((j.log2 : Int) - 52) ((k.log2 : Int) - 52)).toNat : Nat) : Int) (((k <<< (52 - k.log2)) <<< ((k.log2 : Int) - 52 - min ((j.log2 : Int) - 52) ((k.log2 : Int) - 52)).toNat : Nat) : Int)) = some (compare j k)
        rw [int_cmp, ← Nat.shiftLeft_add, ← Nat.shiftLeft_add]
        rw [show 52 - j.log2 + ((j.log2 : Int) - 52 - min ((j.log2 : Int) - 52) ((k.log2 : Int) - 52)).toNat = 52 - min j.log2 k.log2 by omega]
        rw [show 52 - k.log2 + ((k.log2 : Int) - 52 - min ((j.log2 : Int) - 52) ((k.log2 : Int) - 52)).toNat = 52 - min j.log2 k.log2 by omega]
        rw [shift_cmp]
      · obtain rfl : k = 0 := by omega
        obtain ⟨e1, l1⟩ := fl_read (hu j rfl) h0
        rw [e1, fl_read0]
        show some (compare (((j <<< (52 - j.log2)) <<< ((j.log2 : Int) - 52 - min ((j.log2 : Int) - 52) (-1074)).toNat : Nat) : Int) ((0 <<< ((-1074 : Int) - min ((j.log2 : Int) - 52) (-1074)).toNat : Nat) : Int)) = some (compare j 0)
        rw [int_cmp, ← Nat.shiftLeft_add, Nat.zero_shiftLeft]
        have := shift_cmp j 0 (52 - j.log2 + ((j.log2 : Int) - 52 - min ((j.log2 : Int) - 52) (-1074)).toNat)
        rw [Nat.zero_shiftLeft] at this
        rw [this]
      · obtain rfl : j = 0 := by omega
        obtain ⟨e1, l1⟩ := fl_read (hv k rfl) h1
        rw [e1, fl_read0]
        show some (compare ((0 <<< ((-1074 : Int) - min (-1074) ((k.log2 : Int) - 52)).toNat : Nat) : Int) (((k <<< (52 - k.log2)) <<< ((k.log2 : Int) - 52 - min (-1074) ((k.log2 : Int) - 52)).toNat : Nat) : Int)) = some (compare 0 k)
        rw [int_cmp, ← Nat.shiftLeft_add, Nat.zero_shiftLeft]
        have := shift_cmp 0 k (52 - k.log2 + ((k.log2 : Int) - 52 - min (-1074) ((k.log2 : Int) - 52)).toNat)
        rw [Nat.zero_shiftLeft] at this
        rw [this]
      · obtain rfl : j = 0 := by omega
        obtain rfl : k = 0 := by omega
        rw [fl_read0]; rfl

theorem kord_lt (u v : Option Nat) : (some (kord u v) == some Ordering.lt) = klt u v := by
  cases u <;> cases v <;> try rfl
  rename_i a b
  show (some (compare a b) == some Ordering.lt) = decide (a < b)
  rw [Bool.eq_iff_iff]
  simp [Nat.compare_eq_lt]

theorem kord_ge (u v : Option Nat) : (some (kord u v) == some Ordering.gt || some (kord u v) == some Ordering.eq) = kgeq u v := by
  cases u <;> cases v <;> try rfl
  rename_i a b
  show (some (compare a b) == some Ordering.gt || some (compare a b) == some Ordering.eq) = !decide (a < b)
  rw [Bool.eq_iff_iff]
  simp [Nat.compare_eq_gt]
  omega

theorem fl_lss (u v : Option Nat) (hu : ∀ k, u = some k → k ≤ 1000) (hv : ∀ k, v = some k → k ≤ 1000) : (FloatKind.f64.format.order (fl u) (fl v) == some Ordering.lt) = klt u v := by
  rw [fl_order u v hu hv, kord_lt]

theorem fl_geq (u v : Option Nat) (hu : ∀ k, u = some k → k ≤ 1000) (hv : ∀ k, v = some k → k ≤ 1000) : (FloatKind.f64.format.order (fl u) (fl v) == some Ordering.gt || FloatKind.f64.format.order (fl u) (fl v) == some Ordering.eq) = kgeq u v := by
  rw [fl_order u v hu hv, kord_ge]

/-- The whole part of a root. -/
def rootB : Bool := (List.range 1000).all fun n => match Ieee.double.sqrt (floatOfInt .f64 n) with
  | some r => match floatToIntVal .f64 r .i64 with
    | some s => decide (0 ≤ s ∧ s ≤ 40)
    | none => false
  | none => false
theorem rootB_true : rootB = true := by decide +kernel

theorem root_ex {n : Nat} (hn : n < 1000) : ∃ (r : Nat) (s : Nat), FloatKind.f64.format.sqrt (floatOfInt .f64 n) = some r ∧ floatToIntVal .f64 r .i64 = some (s : Int) ∧ s ≤ 40 := by
  have h := List.all_eq_true.1 rootB_true n (List.mem_range.2 hn)
  split at h
  · rename_i r hr
    split at h
    · rename_i s hs
      rw [decide_eq_true_eq] at h
      obtain ⟨k, rfl⟩ := Int.eq_ofNat_of_zero_le h.1
      exact ⟨r, k, hr, hs, by omega⟩
    · cases h
  · cases h

end Go.Proofs.Ytoophkpmbinmlaa
