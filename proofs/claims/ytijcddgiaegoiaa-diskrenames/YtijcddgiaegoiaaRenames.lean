/-
  What is proved here: DiskRenames answers true, whatever bytes it is given. No condition but that the bytes lie in memory.
-/
import Derived.Test.YtijcddgiaegoiaaArgs
namespace Go.Proofs.Ytijcddgiaegoiaa
open Go.RowKit Go.Maps Go.WideMaps
set_option maxRecDepth 100000

section
variable (va vb vc : Value) (a b c : List UInt8)
abbrev one : List UInt8 := [111, 110, 101]
abbrev two : List UInt8 := [116, 119, 111]
def Q1 : St := ⟨1048576, 1, [⟨one, va, a⟩], [], [Ch.wr ⟨one, va, a⟩], 1, -1, false⟩
def Q2 : St := ⟨1048576, 2, [⟨one, va, a⟩, ⟨two, vb, b⟩], [], [Ch.wr ⟨one, va, a⟩, Ch.wr ⟨two, vb, b⟩], 2, -1, false⟩
def Q3 : St := ⟨1048576, 2, [⟨one, va, a⟩, ⟨two, vb, b⟩], [⟨one, va, a⟩, ⟨two, vb, b⟩], [], 3, -1, false⟩
def Q4 : St := ⟨1048576, 3, [⟨one, vc, c⟩, ⟨two, vb, b⟩], [⟨one, va, a⟩, ⟨two, vb, b⟩], [Ch.wr ⟨one, vc, c⟩], 4, -1, false⟩
def Q5 : St := ⟨1048576, 3, [⟨one, vc, c⟩, ⟨two, vb, b⟩], [⟨one, vc, c⟩, ⟨two, vb, b⟩], [], 5, -1, false⟩
def Q6s : St := ⟨1048576, 4, [⟨two, vc, c⟩], [⟨one, vc, c⟩, ⟨two, vb, b⟩], [Ch.mv one two], 6, -1, false⟩
def Q6n : St := ⟨1048576, 4, [⟨two, vc, c⟩], [⟨one, va, a⟩, ⟨two, vb, b⟩], [Ch.wr ⟨one, vc, c⟩, Ch.mv one two], 5, -1, false⟩
def Q7 (k : Int) : St := ⟨1048576, if k = 6 then 5 else 6, [⟨two, va, a⟩], [⟨two, va, a⟩], [], k, -1, false⟩
theorem fQ0 : (St.new 1048576).fine := by constructor <;> simp [St.new]
theorem fQ1 : (Q1 va a).fine := by constructor <;> simp [Q1]
theorem fQ2 : (Q2 va vb a b).fine := by constructor <;> simp [Q2]
theorem fQ3 : (Q3 va vb a b).fine := by constructor <;> simp [Q3]
theorem fQ4 : (Q4 va vb vc a b c).fine := by constructor <;> simp [Q4]
theorem fQ5 : (Q5 vb vc b c).fine := by constructor <;> simp [Q5]
theorem fQ6s : (Q6s vb vc b c).fine := by constructor <;> simp [Q6s]
theorem fQ6n : (Q6n va vb vc a b c).fine := by constructor <;> simp [Q6n]
theorem uQ1 (ha : a.length ≤ 1000) : used (Q1 va a).F < 1099511627776 := by simp [Q1, used]; omega
theorem uQ3 (ha : a.length ≤ 1000) (hb : b.length ≤ 1000) : used (Q3 va vb a b).F < 1099511627776 := by simp [Q3, used]; omega
theorem uQ6s (hc : c.length ≤ 1000) : used (Q6s vb vc b c).F < 1099511627776 := by simp [Q6s, used]; omega
theorem uQ6n (hc : c.length ≤ 1000) : used (Q6n va vb vc a b c).F < 1099511627776 := by simp [Q6n, used]; omega
theorem uQ7 (k : Int) (ha : a.length ≤ 1000) : used (Q7 va a k).F < 1099511627776 := by simp [Q7, used]; omega
theorem q1_eq (ha : a.length ≤ 1000) : ((St.new 1048576).write ⟨(⟨#[111, 110, 101]⟩ : ByteArray).data.toList, va, a⟩).2 = Q1 va a := by
  rw [write_eq _ _ rfl rfl rfl (by simp only; omega) (by simp [St.new])]
  rw [if_neg (by simp [St.new, used, lenAt, get]; omega)]
  rfl
theorem q2_eq (ha : a.length ≤ 1000) (hb : b.length ≤ 1000) : ((Q1 va a).write ⟨(⟨#[116, 119, 111]⟩ : ByteArray).data.toList, vb, b⟩).2 = Q2 va vb a b := by
  rw [write_eq _ _ rfl rfl rfl (by simp only; omega) (by simp [Q1])]
  rw [if_neg (by simp [Q1, used, lenAt, get]; omega)]
  rfl
theorem q3_eq : (Q2 va vb a b).sync.2 = Q3 va vb a b := rfl
theorem q4_eq (hb : b.length ≤ 1000) (hc : c.length ≤ 1000) : ((Q3 va vb a b).write ⟨(⟨#[111, 110, 101]⟩ : ByteArray).data.toList, vc, c⟩).2 = Q4 va vb vc a b c := by
  rw [write_eq _ _ rfl rfl rfl (by simp only; omega) (by simp [Q3])]
  rw [if_neg (by simp [Q3, used, lenAt, get]; omega)]
  rfl
theorem q5_eq : (Q4 va vb vc a b c).sync.2 = Q5 vb vc b c := rfl
end

theorem kept3 {w w' : World} {v1 v2 v3 : Value} {a b c : List UInt8} (h1 : Bytes w v1 a) (h2 : Bytes w v2 b) (h3 : Bytes w v3 c) (hf : Fr None' w w') : Bytes w' v1 a ∧ Bytes w' v2 b ∧ Bytes w' v3 c :=
  ⟨h1.kept hf (fun _ _ _ _ _ e => e), h2.kept hf (fun _ _ _ _ _ e => e), h3.kept hf (fun _ _ _ _ _ e => e)⟩

set_option maxHeartbeats 8000000 in
theorem renames_walk (vA vB vC : Value) (a b c : List UInt8) (sync : Bool) (w : World) (hA : Bytes w vA a) (hB : Bytes w vB b) (hC : Bytes w vC c) (hlA : Low w vA) (hlB : Low w vB) (hlC : Low w vC)
    (ha : a.length ≤ 1000) (hb : b.length ≤ 1000) (hc : c.length ≤ 1000) :
    Calls Try.prog 8 #[vA, vB, vC, .bool sync] w fun e w' => e = .returned (.bool true) ∧ Fr None' w w' := by
  obtain ⟨sA, cA, rfl⟩ := bytes_slice hA
  obtain ⟨sB, cB, rfl⟩ := bytes_slice hB
  obtain ⟨sC, cC, rfl⟩ := bytes_slice hC
  cases sync
  · go_enter Try.func8, Try.ntmps8
    go_wp2_with fail
    refine (head_any w).mono ?_
    rintro e w1 ⟨rfl, F1⟩
    go_wp2_with fail
    refine (live_new 1048576 w1).mono ?_
    rintro e w2 ⟨p, rfl, L0⟩
    have A2 := kept3 hA hB hC (fin F1 L0)
    go_wp2_with fail
    refine (live_write L0 (Fr.refl _ _) fQ0 ⟨#[111, 110, 101]⟩ (by decide) _ a A2.1 (low hlA F1) (by decide) (by omega)).mono ?_
    rintro e w3 ⟨va, rfl, L1⟩
    rw [q1_eq va a (by omega)] at L1
    have A3 := kept3 hA hB hC (fin F1 L1)
    go_wp2_with fail
    refine (live_write L1 (Fr.refl _ _) (fQ1 va a) ⟨#[116, 119, 111]⟩ (by decide) _ b A3.2.1 (low hlB F1) (uQ1 va a (by omega)) (by omega)).mono ?_
    rintro e w4 ⟨vb, rfl, L2⟩
    rw [q2_eq va vb a b (by omega) (by omega)] at L2
    go_wp2_with fail
    refine (live_sync L2 (fQ2 va vb a b)).mono ?_
    rintro e w5 ⟨rfl, L3⟩
    rw [q3_eq] at L3
    have A5 := kept3 hA hB hC (fin F1 L3)
    go_wp2_with fail
    refine (live_write L3 (Fr.refl _ _) (fQ3 va vb a b) ⟨#[111, 110, 101]⟩ (by decide) _ c A5.2.2 (low hlC F1) (uQ3 va vb a b (by omega) (by omega)) (by omega)).mono ?_
    rintro e w6 ⟨vc, rfl, L4⟩
    rw [q4_eq va vb vc a b c (by omega) (by omega)] at L4
    go_wp2_with fail
    have L5 := L4
    refine (live_rename L5 (fQ4 va vb vc a b c) ⟨#[111, 110, 101]⟩ ⟨#[116, 119, 111]⟩ (by decide) (by decide)).mono ?_
    rintro e w8 ⟨rfl, L6⟩
    have e1 : (Q4 va vb vc a b c).rename (⟨#[111, 110, 101]⟩ : ByteArray).data.toList (⟨#[116, 119, 111]⟩ : ByteArray).data.toList = (0, Q6n va vb vc a b c) := rfl
    rw [e1] at L6 ⊢
    clear e1
    go_wp2_with fail
    refine (live_read L6 ⟨#[116, 119, 111]⟩ (by decide) (uQ6n va vb vc a b c (by omega))).mono ?_
    rintro e w9 ⟨x, rfl, X1, L7, G7⟩
    have e1 : (Q6n va vb vc a b c).read (⟨#[116, 119, 111]⟩ : ByteArray).data.toList = (c, 0) := rfl
    rw [e1] at X1 ⊢
    clear e1
    go_wp2_with fail
    refine (live_read L7 ⟨#[111, 110, 101]⟩ (by decide) (uQ6n va vb vc a b c (by omega))).mono ?_
    rintro e w10 ⟨y, rfl, Y1, L8, G8⟩
    have e1 : (Q6n va vb vc a b c).read (⟨#[111, 110, 101]⟩ : ByteArray).data.toList = ([], 12) := rfl
    rw [e1] at Y1 ⊢
    clear e1 Y1
    have s1 := str_any (X1.kept G8 (fun _ _ _ _ _ e => e))
    have s2 := str_any (kept3 hA hB hC (fin F1 L8)).2.2
    go_wp2_with fail
    refine (live_crash L8 (Fr.alloc _ _ _) (fQ6n va vb vc a b c) _ [false, true] (bools_new w10 [false, true] 2) (aside_new _ _ _ _)).mono ?_
    rintro e w11 ⟨rfl, L9⟩
    have e1 : (Q6n va vb vc a b c).crash [false, true] = Q7 va a 5 := rfl
    rw [e1] at L9
    clear e1 s1 s2
    go_wp2_with fail
    refine (live_read L9 ⟨#[116, 119, 111]⟩ (by decide) (uQ7 _ _ _ (by omega))).mono ?_
    rintro e w12 ⟨x2, rfl, X2, L10, G10⟩
    have e1 : (Q7 va a 5).read (⟨#[116, 119, 111]⟩ : ByteArray).data.toList = (a, 0) := rfl
    rw [e1] at X2 ⊢
    clear e1
    go_wp2_with fail
    refine (live_read L10 ⟨#[111, 110, 101]⟩ (by decide) (uQ7 _ _ _ (by omega))).mono ?_
    rintro e w13 ⟨y2, rfl, Y2, L11, G11⟩
    have e1 : (Q7 va a 5).read (⟨#[111, 110, 101]⟩ : ByteArray).data.toList = ([], 12) := rfl
    rw [e1] at Y2 ⊢
    clear e1 Y2
    have s3 := str_any (X2.kept G11 (fun _ _ _ _ _ e => e))
    have s4 := str_any (kept3 hA hB hC (fin F1 L11)).1
    go_wp2
    go_ret
    exact ⟨rfl, fin F1 L11⟩
  · go_enter Try.func8, Try.ntmps8
    go_wp2_with fail
    refine (head_any w).mono ?_
    rintro e w1 ⟨rfl, F1⟩
    go_wp2_with fail
    refine (live_new 1048576 w1).mono ?_
    rintro e w2 ⟨p, rfl, L0⟩
    have A2 := kept3 hA hB hC (fin F1 L0)
    go_wp2_with fail
    refine (live_write L0 (Fr.refl _ _) fQ0 ⟨#[111, 110, 101]⟩ (by decide) _ a A2.1 (low hlA F1) (by decide) (by omega)).mono ?_
    rintro e w3 ⟨va, rfl, L1⟩
    rw [q1_eq va a (by omega)] at L1
    have A3 := kept3 hA hB hC (fin F1 L1)
    go_wp2_with fail
    refine (live_write L1 (Fr.refl _ _) (fQ1 va a) ⟨#[116, 119, 111]⟩ (by decide) _ b A3.2.1 (low hlB F1) (uQ1 va a (by omega)) (by omega)).mono ?_
    rintro e w4 ⟨vb, rfl, L2⟩
    rw [q2_eq va vb a b (by omega) (by omega)] at L2
    go_wp2_with fail
    refine (live_sync L2 (fQ2 va vb a b)).mono ?_
    rintro e w5 ⟨rfl, L3⟩
    rw [q3_eq] at L3
    have A5 := kept3 hA hB hC (fin F1 L3)
    go_wp2_with fail
    refine (live_write L3 (Fr.refl _ _) (fQ3 va vb a b) ⟨#[111, 110, 101]⟩ (by decide) _ c A5.2.2 (low hlC F1) (uQ3 va vb a b (by omega) (by omega)) (by omega)).mono ?_
    rintro e w6 ⟨vc, rfl, L4⟩
    rw [q4_eq va vb vc a b c (by omega) (by omega)] at L4
    go_wp2_with fail
    refine (live_sync L4 (fQ4 va vb vc a b c)).mono ?_
    rintro e w7 ⟨rfl, L5⟩
    rw [q5_eq] at L5
    go_wp2_with fail
    refine (live_rename L5 (fQ5 vb vc b c) ⟨#[111, 110, 101]⟩ ⟨#[116, 119, 111]⟩ (by decide) (by decide)).mono ?_
    rintro e w8 ⟨rfl, L6⟩
    have e1 : (Q5 vb vc b c).rename (⟨#[111, 110, 101]⟩ : ByteArray).data.toList (⟨#[116, 119, 111]⟩ : ByteArray).data.toList = (0, Q6s vb vc b c) := rfl
    rw [e1] at L6 ⊢
    clear e1
    go_wp2_with fail
    refine (live_read L6 ⟨#[116, 119, 111]⟩ (by decide) (uQ6s vb vc b c (by omega))).mono ?_
    rintro e w9 ⟨x, rfl, X1, L7, G7⟩
    have e1 : (Q6s vb vc b c).read (⟨#[116, 119, 111]⟩ : ByteArray).data.toList = (c, 0) := rfl
    rw [e1] at X1 ⊢
    clear e1
    go_wp2_with fail
    refine (live_read L7 ⟨#[111, 110, 101]⟩ (by decide) (uQ6s vb vc b c (by omega))).mono ?_
    rintro e w10 ⟨y, rfl, Y1, L8, G8⟩
    have e1 : (Q6s vb vc b c).read (⟨#[111, 110, 101]⟩ : ByteArray).data.toList = ([], 12) := rfl
    rw [e1] at Y1 ⊢
    clear e1 Y1
    have s1 := str_any (X1.kept G8 (fun _ _ _ _ _ e => e))
    have s2 := str_any (kept3 hA hB hC (fin F1 L8)).2.2
    go_wp2_with fail
    refine (live_crash L8 (Fr.alloc _ _ _) (fQ6s vb vc b c) _ [true, true] (bools_new w10 [true, true] 2) (aside_new _ _ _ _)).mono ?_
    rintro e w11 ⟨rfl, L9⟩
    have e1 : (Q6s vb vc b c).crash [true, true] = Q7 vc c 6 := rfl
    rw [e1] at L9
    clear e1 s1 s2
    go_wp2_with fail
    refine (live_read L9 ⟨#[116, 119, 111]⟩ (by decide) (uQ7 _ _ _ (by omega))).mono ?_
    rintro e w12 ⟨x2, rfl, X2, L10, G10⟩
    have e1 : (Q7 vc c 6).read (⟨#[116, 119, 111]⟩ : ByteArray).data.toList = (c, 0) := rfl
    rw [e1] at X2 ⊢
    clear e1
    go_wp2_with fail
    refine (live_read L10 ⟨#[111, 110, 101]⟩ (by decide) (uQ7 _ _ _ (by omega))).mono ?_
    rintro e w13 ⟨y2, rfl, Y2, L11, G11⟩
    have e1 : (Q7 vc c 6).read (⟨#[111, 110, 101]⟩ : ByteArray).data.toList = ([], 12) := rfl
    rw [e1] at Y2 ⊢
    clear e1 Y2
    have s3 := str_any (X2.kept G11 (fun _ _ _ _ _ e => e))
    have s4 := str_any (kept3 hA hB hC (fin F1 L11)).2.2
    go_wp2
    go_ret
    exact ⟨rfl, fin F1 L11⟩

end Go.Proofs.Ytijcddgiaegoiaa
