/-
  What is proved here: DiskRoom answers true, whatever its four numbers are. No condition.
-/
import Derived.Test.YtijcddgiaegoiabHead
import Derived.Deep.OwnRows
namespace Go.Proofs.Ytijcddgiaegoiab
open Go.RowKit Go.Maps Go.WideMaps

def zs (n : Nat) : List UInt8 := List.replicate n 0

theorem made_eq (n : Nat) : madeCells #[.int .u8 0] n = (u8s (zs n)).toArray := by
  apply Array.ext
  · simp [size_madeCells, u8s, zs]
  · intro i h1 h2
    simp [madeCells, u8s, zs, Nat.mod_one]

theorem z1 (w : World) (n : Nat) : Bytes (w.alloc (.cells (madeCells #[.int .u8 0] n) 5)) (.slice (some ⟨w.heap.size, 0, none⟩) n n) (zs n) := by
  rw [made_eq]
  have := bytes_new w (zs n) n (0, 0)
  simpa [zs] using this

theorem makeN (n : Nat) (hn : n < 65536) (w : World) : (Instr.makeSlice 28 (.int .i64 n) (.int .i64 n)).run Try.prog w = .ok (.slice (some ⟨w.heap.size, 0, none⟩) n n) (w.alloc (.cells (madeCells #[.int .u8 0] n) 5)) :=
  run_make_row' (P := Try.prog) 28 5 (.int .u8 0) 1 Try.underlying28 Try.infoU rfl .i64 .i64 n (by omega) (by omega) w

theorem write_eq (S : St) (t : Tri) (hd : S.down = false) (hf : S.fuse = -1) (hk : right t.k = true) (hb : t.b.length ≤ 65536) (hF : S.F.length < 512) :
    S.write t = if S.room < (used S.F : Int) - lenAt S.F t.k + t.b.length then (11, S) else (0, S.did (Ch.wr t)) := by
  have ea : S.asked = S := by cases S; simp_all [St.asked]
  unfold St.write
  rw [ea, hd]
  have hr : S.refuse t.k t.b.length = if S.room < (used S.F : Int) - lenAt S.F t.k + t.b.length then 11 else 0 := by
    unfold St.refuse
    rw [if_neg (by simp [hk]), if_neg (by rintro (h | h) <;> omega)]
  rw [hr]
  by_cases h' : S.room < (used S.F : Int) - lenAt S.F t.k + t.b.length
  · simp [h']
  · simp [h']

section
variable (room : Int) (va vb vc : Value) (a b c : Nat)
def R1 : St := ⟨max room 0, 1, [⟨[97], va, zs a⟩], [], [Ch.wr ⟨[97], va, zs a⟩], 1, -1, false⟩
def R2 : St := ⟨max room 0, 2, [⟨[97], va, zs a⟩, ⟨[98], vb, zs b⟩], [], [Ch.wr ⟨[97], va, zs a⟩, Ch.wr ⟨[98], vb, zs b⟩], 2, -1, false⟩
def R3 : St := ⟨max room 0, 1, [⟨[98], vb, zs b⟩], [], [Ch.wr ⟨[98], vb, zs b⟩], 1, -1, false⟩
theorem zlen : (zs a).length = a := by simp [zs]
theorem uR0 : used (St.new room).F = 0 := rfl
theorem uR1 : used (R1 room va a).F = a := by simp [R1, used, zs]
theorem uR2 : used (R2 room va vb a b).F = a + b := by simp [R2, used, zs]
theorem uR3 : used (R3 room vb b).F = b := by simp [R3, used, zs]
theorem fR0 : (St.new room).fine := by constructor <;> simp [St.new]
theorem fR1 : (R1 room va a).fine := by constructor <;> simp [R1]
theorem fR2 : (R2 room va vb a b).fine := by constructor <;> simp [R2]
theorem fR3 : (R3 room vb b).fine := by constructor <;> simp [R3]
theorem w1_yes (hr : 0 ≤ room) (ha : a < 65536) (h : (a : Int) ≤ room) : (St.new room).write ⟨[97], va, zs a⟩ = (0, R1 room va a) := by
  rw [write_eq _ _ rfl rfl rfl (by simp [zs]; omega) (by simp [St.new])]
  rw [if_neg (by simp [St.new, used, lenAt, get, zs]; omega)]
  rfl
theorem w1_no (hr : 0 ≤ room) (ha : a < 65536) (h : ¬ (a : Int) ≤ room) : (St.new room).write ⟨[97], va, zs a⟩ = (11, St.new room) := by
  rw [write_eq _ _ rfl rfl rfl (by simp [zs]; omega) (by simp [St.new])]
  rw [if_pos (by simp [St.new, used, lenAt, get, zs]; omega)]
theorem w2_yes (hr : 0 ≤ room) (hb : b < 65536) (h : (a : Int) + b ≤ room) : (R1 room va a).write ⟨[98], vb, zs b⟩ = (0, R2 room va vb a b) := by
  rw [write_eq _ _ rfl rfl rfl (by simp [zs]; omega) (by simp [R1])]
  rw [if_neg (by simp [R1, used, lenAt, get, zs]; omega)]
  rfl
theorem w2_no (hr : 0 ≤ room) (hb : b < 65536) (h : ¬ (a : Int) + b ≤ room) : (R1 room va a).write ⟨[98], vb, zs b⟩ = (11, R1 room va a) := by
  rw [write_eq _ _ rfl rfl rfl (by simp [zs]; omega) (by simp [R1])]
  rw [if_pos (by simp [R1, used, lenAt, get, zs]; omega)]
theorem w3_yes (hr : 0 ≤ room) (hb : b < 65536) (h : (b : Int) ≤ room) : (St.new room).write ⟨[98], vb, zs b⟩ = (0, R3 room vb b) := by
  rw [write_eq _ _ rfl rfl rfl (by simp [zs]; omega) (by simp [St.new])]
  rw [if_neg (by simp [St.new, used, lenAt, get, zs]; omega)]
  rfl
theorem w3_no (hr : 0 ≤ room) (hb : b < 65536) (h : ¬ (b : Int) ≤ room) : (St.new room).write ⟨[98], vb, zs b⟩ = (11, St.new room) := by
  rw [write_eq _ _ rfl rfl rfl (by simp [zs]; omega) (by simp [St.new])]
  rw [if_pos (by simp [St.new, used, lenAt, get, zs]; omega)]
theorem w4_yes (hr : 0 ≤ room) (hc : c < 65536) (h : (a : Int) + c ≤ room) : ((R2 room va vb a b).write ⟨[98], vc, zs c⟩).1 = 0 := by
  rw [write_eq _ _ rfl rfl rfl (by simp [zs]; omega) (by simp [R2])]
  rw [if_neg (by simp [R2, used, lenAt, get, zs]; omega)]
theorem w4_no (hr : 0 ≤ room) (hc : c < 65536) (h : ¬ (a : Int) + c ≤ room) : ((R2 room va vb a b).write ⟨[98], vc, zs c⟩).1 = 11 := by
  rw [write_eq _ _ rfl rfl rfl (by simp [zs]; omega) (by simp [R2])]
  rw [if_pos (by simp [R2, used, lenAt, get, zs]; omega)]
theorem w5_yes (hr : 0 ≤ room) (hc : c < 65536) (h : (c : Int) ≤ room) : ((R3 room vb b).write ⟨[98], vc, zs c⟩).1 = 0 := by
  rw [write_eq _ _ rfl rfl rfl (by simp [zs]; omega) (by simp [R3])]
  rw [if_neg (by simp [R3, used, lenAt, get, zs]; omega)]
theorem w5_no (hr : 0 ≤ room) (hc : c < 65536) (h : ¬ (c : Int) ≤ room) : ((R3 room vb b).write ⟨[98], vc, zs c⟩).1 = 11 := by
  rw [write_eq _ _ rfl rfl rfl (by simp [zs]; omega) (by simp [R3])]
  rw [if_pos (by simp [R3, used, lenAt, get, zs]; omega)]
end

theorem fin {w w1 w' : World} {p : Nat} {S : St} (h : Fr None' w w1) (hL : Live w1 w' p S) : Fr None' w w' := by
  obtain ⟨_, _, h2, _⟩ := hL
  exact h.then h2

set_option maxHeartbeats 8000000 in
theorem room_walk (room : Int) (a b c : Nat) (hr0 : 0 ≤ room) (hr1 : room ≤ 65535) (ha : a ≤ 65535) (hb : b ≤ 65535) (hc : c ≤ 65535) (w : World) :
    Calls Try.prog 3 #[.int .u16 room, .int .u16 a, .int .u16 b, .int .u16 c] w fun e w' => e = .returned (.bool true) ∧ Fr None' w w' := by
  have ma := makeN a (by omega)
  have mb := makeN b (by omega)
  have mc := makeN c (by omega)
  by_cases h1 : (a : Int) ≤ room
  · by_cases h2 : (a : Int) + (b : Int) ≤ room
    · by_cases h3 : (a : Int) + (c : Int) ≤ room
      · go_enter Try.func3, Try.ntmps3
        go_wp2_with fail
        refine (head_any w).mono ?_
        rintro e w1 ⟨rfl, F1⟩
        go_wp2_with fail
        refine (live_new room w1).mono ?_
        rintro e w2 ⟨p, rfl, L0⟩
        go_wp2_with fail
        refine (live_write L0 (Fr.alloc _ _ _) (fR0 room) ⟨#[97]⟩ (by decide) _ (zs a) (z1 w2 a) (aside_new _ _ _ _) (by rw [uR0]; omega) (by rw [zlen]; omega)).mono ?_
        rintro e w3 ⟨va, rfl, L1⟩
        have e1 : (St.new room).write ⟨(⟨#[97]⟩ : ByteArray).data.toList, va, zs a⟩ = (0, R1 room va a) := w1_yes room va a (by omega) (by omega) (by omega)
        rw [e1] at L1 ⊢
        clear e1
        go_wp2_with fail
        refine (live_write L1 (Fr.alloc _ _ _) (fR1 room va a) ⟨#[98]⟩ (by decide) _ (zs b) (z1 w3 b) (aside_new _ _ _ _) (by rw [uR1]; omega) (by rw [zlen]; omega)).mono ?_
        rintro e w4 ⟨vb, rfl, L2⟩
        have e1 : (R1 room va a).write ⟨(⟨#[98]⟩ : ByteArray).data.toList, vb, zs b⟩ = (0, R2 room va vb a b) := w2_yes room va vb a b (by omega) (by omega) (by omega)
        rw [e1] at L2 ⊢
        clear e1
        go_wp2_with fail
        refine (live_write L2 (Fr.alloc _ _ _) (fR2 room va vb a b) ⟨#[98]⟩ (by decide) _ (zs c) (z1 w4 c) (aside_new _ _ _ _) (by rw [uR2]; omega) (by rw [zlen]; omega)).mono ?_
        rintro e w5 ⟨vc, rfl, L3⟩
        have e1 : ((R2 room va vb a b).write ⟨(⟨#[98]⟩ : ByteArray).data.toList, vc, zs c⟩).1 = 0 := w4_yes room va vb vc a b c (by omega) (by omega) (by omega)
        rw [e1]
        clear e1
        go_wp2
        go_ret
        exact ⟨by first | rfl | exact ret_bool (by simp; omega), fin F1 L3⟩
      · go_enter Try.func3, Try.ntmps3
        go_wp2_with fail
        refine (head_any w).mono ?_
        rintro e w1 ⟨rfl, F1⟩
        go_wp2_with fail
        refine (live_new room w1).mono ?_
        rintro e w2 ⟨p, rfl, L0⟩
        go_wp2_with fail
        refine (live_write L0 (Fr.alloc _ _ _) (fR0 room) ⟨#[97]⟩ (by decide) _ (zs a) (z1 w2 a) (aside_new _ _ _ _) (by rw [uR0]; omega) (by rw [zlen]; omega)).mono ?_
        rintro e w3 ⟨va, rfl, L1⟩
        have e1 : (St.new room).write ⟨(⟨#[97]⟩ : ByteArray).data.toList, va, zs a⟩ = (0, R1 room va a) := w1_yes room va a (by omega) (by omega) (by omega)
        rw [e1] at L1 ⊢
        clear e1
        go_wp2_with fail
        refine (live_write L1 (Fr.alloc _ _ _) (fR1 room va a) ⟨#[98]⟩ (by decide) _ (zs b) (z1 w3 b) (aside_new _ _ _ _) (by rw [uR1]; omega) (by rw [zlen]; omega)).mono ?_
        rintro e w4 ⟨vb, rfl, L2⟩
        have e1 : (R1 room va a).write ⟨(⟨#[98]⟩ : ByteArray).data.toList, vb, zs b⟩ = (0, R2 room va vb a b) := w2_yes room va vb a b (by omega) (by omega) (by omega)
        rw [e1] at L2 ⊢
        clear e1
        go_wp2_with fail
        refine (live_write L2 (Fr.alloc _ _ _) (fR2 room va vb a b) ⟨#[98]⟩ (by decide) _ (zs c) (z1 w4 c) (aside_new _ _ _ _) (by rw [uR2]; omega) (by rw [zlen]; omega)).mono ?_
        rintro e w5 ⟨vc, rfl, L3⟩
        have e1 : ((R2 room va vb a b).write ⟨(⟨#[98]⟩ : ByteArray).data.toList, vc, zs c⟩).1 = 11 := w4_no room va vb vc a b c (by omega) (by omega) (by omega)
        rw [e1]
        clear e1
        go_wp2
        go_ret
        exact ⟨by first | rfl | exact ret_bool (by simp; omega), fin F1 L3⟩
    · go_enter Try.func3, Try.ntmps3
      go_wp2_with fail
      refine (head_any w).mono ?_
      rintro e w1 ⟨rfl, F1⟩
      go_wp2_with fail
      refine (live_new room w1).mono ?_
      rintro e w2 ⟨p, rfl, L0⟩
      go_wp2_with fail
      refine (live_write L0 (Fr.alloc _ _ _) (fR0 room) ⟨#[97]⟩ (by decide) _ (zs a) (z1 w2 a) (aside_new _ _ _ _) (by rw [uR0]; omega) (by rw [zlen]; omega)).mono ?_
      rintro e w3 ⟨va, rfl, L1⟩
      have e1 : (St.new room).write ⟨(⟨#[97]⟩ : ByteArray).data.toList, va, zs a⟩ = (0, R1 room va a) := w1_yes room va a (by omega) (by omega) (by omega)
      rw [e1] at L1 ⊢
      clear e1
      go_wp2_with fail
      refine (live_write L1 (Fr.alloc _ _ _) (fR1 room va a) ⟨#[98]⟩ (by decide) _ (zs b) (z1 w3 b) (aside_new _ _ _ _) (by rw [uR1]; omega) (by rw [zlen]; omega)).mono ?_
      rintro e w4 ⟨vb, rfl, L2⟩
      have e1 : (R1 room va a).write ⟨(⟨#[98]⟩ : ByteArray).data.toList, vb, zs b⟩ = (11, R1 room va a) := w2_no room va vb a b (by omega) (by omega) (by omega)
      rw [e1] at L2 ⊢
      clear e1
      go_wp2_with fail
      refine (live_used L2 (by rw [uR1]; omega)).mono ?_
      rintro e w5 ⟨rfl, L3, F3⟩
      have e1 : ((used (R1 room va a).F : Nat) : Int) = a := by rw [uR1]
      rw [e1]
      clear e1
      go_wp2
      go_ret
      exact ⟨by first | rfl | exact ret_bool (by simp; omega), fin F1 L3⟩
  · by_cases h2 : (b : Int) ≤ room
    · by_cases h3 : (c : Int) ≤ room
      · go_enter Try.func3, Try.ntmps3
        go_wp2_with fail
        refine (head_any w).mono ?_
        rintro e w1 ⟨rfl, F1⟩
        go_wp2_with fail
        refine (live_new room w1).mono ?_
        rintro e w2 ⟨p, rfl, L0⟩
        go_wp2_with fail
        refine (live_write L0 (Fr.alloc _ _ _) (fR0 room) ⟨#[97]⟩ (by decide) _ (zs a) (z1 w2 a) (aside_new _ _ _ _) (by rw [uR0]; omega) (by rw [zlen]; omega)).mono ?_
        rintro e w3 ⟨va, rfl, L1⟩
        have e1 : (St.new room).write ⟨(⟨#[97]⟩ : ByteArray).data.toList, va, zs a⟩ = (11, St.new room) := w1_no room va a (by omega) (by omega) (by omega)
        rw [e1] at L1 ⊢
        clear e1
        go_wp2_with fail
        refine (live_write L1 (Fr.alloc _ _ _) (fR0 room) ⟨#[98]⟩ (by decide) _ (zs b) (z1 w3 b) (aside_new _ _ _ _) (by rw [uR0]; omega) (by rw [zlen]; omega)).mono ?_
        rintro e w4 ⟨vb, rfl, L2⟩
        have e1 : (St.new room).write ⟨(⟨#[98]⟩ : ByteArray).data.toList, vb, zs b⟩ = (0, R3 room vb b) := w3_yes room vb b (by omega) (by omega) (by omega)
        rw [e1] at L2 ⊢
        clear e1
        go_wp2_with fail
        refine (live_write L2 (Fr.alloc _ _ _) (fR3 room vb b) ⟨#[98]⟩ (by decide) _ (zs c) (z1 w4 c) (aside_new _ _ _ _) (by rw [uR3]; omega) (by rw [zlen]; omega)).mono ?_
        rintro e w5 ⟨vc, rfl, L3⟩
        have e1 : ((R3 room vb b).write ⟨(⟨#[98]⟩ : ByteArray).data.toList, vc, zs c⟩).1 = 0 := w5_yes room vb vc b c (by omega) (by omega) (by omega)
        rw [e1]
        clear e1
        go_wp2
        go_ret
        exact ⟨by first | rfl | exact ret_bool (by simp; omega), fin F1 L3⟩
      · go_enter Try.func3, Try.ntmps3
        go_wp2_with fail
        refine (head_any w).mono ?_
        rintro e w1 ⟨rfl, F1⟩
        go_wp2_with fail
        refine (live_new room w1).mono ?_
        rintro e w2 ⟨p, rfl, L0⟩
        go_wp2_with fail
        refine (live_write L0 (Fr.alloc _ _ _) (fR0 room) ⟨#[97]⟩ (by decide) _ (zs a) (z1 w2 a) (aside_new _ _ _ _) (by rw [uR0]; omega) (by rw [zlen]; omega)).mono ?_
        rintro e w3 ⟨va, rfl, L1⟩
        have e1 : (St.new room).write ⟨(⟨#[97]⟩ : ByteArray).data.toList, va, zs a⟩ = (11, St.new room) := w1_no room va a (by omega) (by omega) (by omega)
        rw [e1] at L1 ⊢
        clear e1
        go_wp2_with fail
        refine (live_write L1 (Fr.alloc _ _ _) (fR0 room) ⟨#[98]⟩ (by decide) _ (zs b) (z1 w3 b) (aside_new _ _ _ _) (by rw [uR0]; omega) (by rw [zlen]; omega)).mono ?_
        rintro e w4 ⟨vb, rfl, L2⟩
        have e1 : (St.new room).write ⟨(⟨#[98]⟩ : ByteArray).data.toList, vb, zs b⟩ = (0, R3 room vb b) := w3_yes room vb b (by omega) (by omega) (by omega)
        rw [e1] at L2 ⊢
        clear e1
        go_wp2_with fail
        refine (live_write L2 (Fr.alloc _ _ _) (fR3 room vb b) ⟨#[98]⟩ (by decide) _ (zs c) (z1 w4 c) (aside_new _ _ _ _) (by rw [uR3]; omega) (by rw [zlen]; omega)).mono ?_
        rintro e w5 ⟨vc, rfl, L3⟩
        have e1 : ((R3 room vb b).write ⟨(⟨#[98]⟩ : ByteArray).data.toList, vc, zs c⟩).1 = 11 := w5_no room vb vc b c (by omega) (by omega) (by omega)
        rw [e1]
        clear e1
        go_wp2
        go_ret
        exact ⟨by first | rfl | exact ret_bool (by simp; omega), fin F1 L3⟩
    · go_enter Try.func3, Try.ntmps3
      go_wp2_with fail
      refine (head_any w).mono ?_
      rintro e w1 ⟨rfl, F1⟩
      go_wp2_with fail
      refine (live_new room w1).mono ?_
      rintro e w2 ⟨p, rfl, L0⟩
      go_wp2_with fail
      refine (live_write L0 (Fr.alloc _ _ _) (fR0 room) ⟨#[97]⟩ (by decide) _ (zs a) (z1 w2 a) (aside_new _ _ _ _) (by rw [uR0]; omega) (by rw [zlen]; omega)).mono ?_
      rintro e w3 ⟨va, rfl, L1⟩
      have e1 : (St.new room).write ⟨(⟨#[97]⟩ : ByteArray).data.toList, va, zs a⟩ = (11, St.new room) := w1_no room va a (by omega) (by omega) (by omega)
      rw [e1] at L1 ⊢
      clear e1
      go_wp2_with fail
      refine (live_write L1 (Fr.alloc _ _ _) (fR0 room) ⟨#[98]⟩ (by decide) _ (zs b) (z1 w3 b) (aside_new _ _ _ _) (by rw [uR0]; omega) (by rw [zlen]; omega)).mono ?_
      rintro e w4 ⟨vb, rfl, L2⟩
      have e1 : (St.new room).write ⟨(⟨#[98]⟩ : ByteArray).data.toList, vb, zs b⟩ = (11, St.new room) := w3_no room vb b (by omega) (by omega) (by omega)
      rw [e1] at L2 ⊢
      clear e1
      go_wp2_with fail
      refine (live_used L2 (by rw [uR0]; omega)).mono ?_
      rintro e w5 ⟨rfl, L3, F3⟩
      have e1 : ((used (St.new room).F : Nat) : Int) = 0 := by rw [uR0]; rfl
      rw [e1]
      clear e1
      go_wp2
      go_ret
      exact ⟨by first | rfl | exact ret_bool (by simp; omega), fin F1 L3⟩

end Go.Proofs.Ytijcddgiaegoiab
