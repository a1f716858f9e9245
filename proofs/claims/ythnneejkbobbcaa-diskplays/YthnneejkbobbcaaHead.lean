/-
  What is proved here: the question that each law asks first is answered true, and turns nothing that was there. No condition.
-/
import Derived.Test.YthnneejkbobbcaaLive
import Derived.Lib.SlBytesConst
namespace Go.Proofs.Ythnneejkbobbcaa
open Go.RowKit Go.Maps Go.WideMaps
set_option maxRecDepth 100000

section
variable (v1 v2 v3 : Value)
def t1 : Tri := ⟨[97], v1, [120]⟩
def t2 : Tri := ⟨[97], v2, [121, 122]⟩
def H1 : St := ⟨9, 1, [t1 v1], [], [Ch.wr (t1 v1)], 1, -1, false⟩
def H2 : St := ⟨9, 1, [t1 v1], [t1 v1], [], 2, -1, false⟩
def H3 : St := ⟨9, 2, [t2 v2], [t1 v1], [Ch.wr (t2 v2)], 3, -1, false⟩
def H4 : St := ⟨9, 3, [⟨[98], v2, [121, 122]⟩], [t1 v1], [Ch.wr (t2 v2), Ch.mv [97] [98]], 4, -1, false⟩
def H5 : St := ⟨9, 5, [⟨[98], v1, [120]⟩], [⟨[98], v1, [120]⟩], [], 4, -1, false⟩
theorem h1_eq : (St.new 9).write ⟨[97], v1, [120]⟩ = (0, H1 v1) := rfl
theorem h2_eq : (H1 v1).sync = (0, H2 v1) := rfl
theorem h3_eq : (H2 v1).write ⟨[97], v2, [121, 122]⟩ = (0, H3 v1 v2) := rfl
theorem h4_eq : (H3 v1 v2).rename [97] [98] = (0, H4 v1 v2) := rfl
theorem h4_again : (H4 v1 v2).write ⟨[99], v3, [0, 0, 0, 0, 0, 0, 0, 0]⟩ = (11, H4 v1 v2) := rfl
theorem h5_eq : (H4 v1 v2).crash [false, true] = H5 v1 := rfl
theorem h5_read : (H5 v1).read [98] = ([120], 0) := rfl
end

theorem b1 (w : World) : Bytes (w.alloc (.cells #[.int .u8 120] 5 (1, 2))) (.slice (some ⟨w.heap.size, 0, none⟩) 1 1) [120] := bytes_new w [120] 1 _
theorem b2 (w : World) : Bytes (w.alloc (.cells #[.int .u8 121, .int .u8 122] 5 (2, 3))) (.slice (some ⟨w.heap.size, 0, none⟩) 2 2) [121, 122] := bytes_new w [121, 122] 2 _
theorem b3 (w : World) : Bytes (w.alloc (.cells #[.int .u8 0, .int .u8 0, .int .u8 0, .int .u8 0, .int .u8 0, .int .u8 0, .int .u8 0, .int .u8 0] 5)) (.slice (some ⟨w.heap.size, 0, none⟩) 8 8) [0, 0, 0, 0, 0, 0, 0, 0] := bytes_new w [0, 0, 0, 0, 0, 0, 0, 0] 8 _
theorem k1 (w : World) : Bools (w.alloc (.cells #[.bool false, .bool true] 4)) (.slice (some ⟨w.heap.size, 0, none⟩) 2 2) [false, true] := bools_new w [false, true] 2

theorem make8 (w : World) : (Instr.makeSlice 33 (.int .i64 8) (.int .i64 8)).run Try.prog w = .ok (.slice (some ⟨w.heap.size, 0, none⟩) 8 8) (w.alloc (.cells #[.int .u8 0, .int .u8 0, .int .u8 0, .int .u8 0, .int .u8 0, .int .u8 0, .int .u8 0, .int .u8 0] 5)) := by kernel_rfl

theorem conv28 (w : World) (C : Array Value) (n c : Nat) : (convert 33 33 (.slice (some ⟨w.heap.size, 0, none⟩) n c)).run Try.prog (w.alloc (.cells C 5)) = .ok (.slice (some ⟨w.heap.size, 0, none⟩) n c) (w.alloc (.cells C 5 (C.size, C.size + 1))) :=
  Lib.run_convert_bytes_const (P := Try.prog) w 33 5 C n c Try.underlying33 Try.underlying5

theorem fN : (St.new 9).fine := by constructor <;> simp [St.new]
theorem f1 (v1 : Value) : (H1 v1).fine := by constructor <;> simp [H1]
theorem f2 (v1 : Value) : (H2 v1).fine := by constructor <;> simp [H2]
theorem f3 (v1 v2 : Value) : (H3 v1 v2).fine := by constructor <;> simp [H3]
theorem f4 (v1 v2 : Value) : (H4 v1 v2).fine := by constructor <;> simp [H4]
theorem u2 (v1 : Value) : used (H2 v1).F < 1099511627776 := by simp [H2, used, t1]
theorem u4 (v1 v2 : Value) : used (H4 v1 v2).F < 1099511627776 := by simp [H4, used]
theorem u5 (v1 : Value) : used (H5 v1).F < 1099511627776 := by simp [H5, used]

set_option maxHeartbeats 4000000 in
theorem head_any (w : World) : Calls Try.prog 4 #[] w fun e w' => e = .returned (.bool true) ∧ Fr None' w w' := by
  have hmk := make8
  go_enter Try.func4, Try.ntmps4
  go_wp2_with fail
  refine (live_new 9 w).mono ?_
  rintro e w1 ⟨p, rfl, L0⟩
  have hcv := conv28
  go_wp2_with fail
  refine (live_write L0 (Fr.alloc _ _ _) fN ⟨#[97]⟩ (by decide) _ [120] (b1 w1) (aside_new _ _ _ _) (by decide) (by decide)).mono ?_
  rintro e w2 ⟨v1, rfl, L1⟩
  have e1 : ((St.new 9).write ⟨(⟨#[97]⟩ : ByteArray).data.toList, v1, [120]⟩) = (0, H1 v1) := rfl
  rw [e1] at L1 ⊢
  clear e1
  go_wp2_with fail
  refine (live_sync L1 (f1 v1)).mono ?_
  rintro e w3 ⟨rfl, L2⟩
  rw [h2_eq] at L2 ⊢
  go_wp2_with fail
  refine (live_write L2 (Fr.alloc _ _ _) (f2 v1) ⟨#[97]⟩ (by decide) _ [121, 122] (b2 w3) (aside_new _ _ _ _) (u2 v1) (by decide)).mono ?_
  rintro e w4 ⟨v2, rfl, L3⟩
  have e1 : ((H2 v1).write ⟨(⟨#[97]⟩ : ByteArray).data.toList, v2, [121, 122]⟩) = (0, H3 v1 v2) := rfl
  rw [e1] at L3 ⊢
  clear e1
  go_wp2_with fail
  refine (live_rename L3 (f3 v1 v2) ⟨#[97]⟩ ⟨#[98]⟩ (by decide) (by decide)).mono ?_
  rintro e w5 ⟨rfl, L4⟩
  have e1 : ((H3 v1 v2).rename (⟨#[97]⟩ : ByteArray).data.toList (⟨#[98]⟩ : ByteArray).data.toList) = (0, H4 v1 v2) := rfl
  rw [e1] at L4 ⊢
  clear e1
  go_wp2_with fail
  refine (live_write L4 (Fr.alloc _ _ _) (f4 v1 v2) ⟨#[99]⟩ (by decide) _ [0, 0, 0, 0, 0, 0, 0, 0] (b3 w5) (aside_new _ _ _ _) (u4 v1 v2) (by decide)).mono ?_
  rintro e w6 ⟨v3, rfl, L5⟩
  have e1 : ((H4 v1 v2).write ⟨(⟨#[99]⟩ : ByteArray).data.toList, v3, [0, 0, 0, 0, 0, 0, 0, 0]⟩) = (11, H4 v1 v2) := rfl
  rw [e1] at L5 ⊢
  clear e1
  go_wp2_with fail
  refine (live_loose L5).mono ?_
  rintro e w7 ⟨rfl, rfl⟩
  go_wp2_with fail
  refine (live_crash L5 (Fr.alloc _ _ _) (f4 v1 v2) _ [false, true] (k1 w6) (aside_new _ _ _ _)).mono ?_
  rintro e w7 ⟨rfl, L6⟩
  rw [h5_eq] at L6
  go_wp2_with fail
  refine (live_read L6 ⟨#[98]⟩ (by decide) (u5 v1)).mono ?_
  rintro e w8 ⟨s, rfl, B, L7, F7⟩
  have e1 : ((H5 v1).read (⟨#[98]⟩ : ByteArray).data.toList) = ([120], 0) := rfl
  rw [e1] at B ⊢
  clear e1
  have hst := str_any B
  go_wp2_with fail
  refine (live_acts L7).mono ?_
  rintro e w9 ⟨rfl, rfl⟩
  have e1 : (H5 v1).acts = 4 := rfl
  rw [e1]
  go_wp2_with fail
  refine (live_used L7 (u5 v1)).mono ?_
  rintro e w10 ⟨rfl, L8, F8⟩
  have e2 : ((used (H5 v1).F : Nat) : Int) = 1 := rfl
  rw [e2]
  clear e1 e2
  go_wp2
  go_ret
  obtain ⟨_, _, F9, _⟩ := L8
  exact ⟨rfl, F9⟩

end Go.Proofs.Ythnneejkbobbcaa
