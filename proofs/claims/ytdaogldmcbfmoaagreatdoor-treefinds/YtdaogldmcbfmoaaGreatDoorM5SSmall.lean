/-
  What is proved here: the contracts that the statement stands on: SSmall, SSpread, SMix, SParts, SBlocks. Conditions: as each theorem names them.
-/
import Derived.Test.YtdaogldmcbfmoaaGreatDoorProg
import Derived.Test.YtdaogldmcbfmoaaGreatDoorMSPlain
namespace Go.Proofs.YtdaogldmcbfmoaaGreatDoor.Sha
set_option maxRecDepth 100000

theorem info64 : (Tryz.prog.info? 130).map (·.size) = some 64 := by kernel_rfl
theorem info8 : (Tryz.prog.info? 132).map (·.size) = some 8 := by kernel_rfl
theorem info32 : (Tryz.prog.info? 96).map (·.size) = some 32 := by kernel_rfl
theorem info128 : (Tryz.prog.info? 150).map (·.size) = some 128 := by kernel_rfl
theorem infoN64 : (Tryz.prog.info? 108).map (·.size) = some 64 := by kernel_rfl
theorem mixed : Tryz.prog.follows .mixedOrders = true := by kernel_rfl

theorem rotl_any (x : Int) (n : Nat) (h0 : 0 < n) (hn : n < 32) (w : World) : Calls Tryz.prog 201 #[.int .u32 x, .int .i64 (-n)] w fun e w' => e = .returned (.int .u32 (rotr x n)) ∧ w = w' := by
  have e31 : bits .and .u64 (IntKind.u64.wrap (-(n : Int))) 31 = 32 - (n : Int) := by
    have := neg31 ⟨n, hn⟩ (by intro h; cases h; omega)
    simpa [IntKind.wrap, IntKind.bits, IntKind.signed] using this
  have hR : rotr x n = bits .or .u32 (IntKind.u32.wrap (x * 2 ^ (32 - n))) (x / 2 ^ n) := or_comm32 _ _
  have e1 : (32 - (n : Int)).toNat = 32 - n := by omega
  have hsl : Op.shift .shl .u32 x .u64 (32 - (n : Int)) = pure (.int .u32 (IntKind.u32.wrap (x * 2 ^ (32 - n)))) := by rw [shift_shl .u32 .u64 x _ (by omega) (by show _ ≤ (32 : Int); omega), e1]
  have e2 : (32 - (32 - (n : Int))) = n := by omega
  have e3 : IntKind.u64.wrap (32 - (32 - (n : Int))) = n := by rw [e2]; simp [IntKind.wrap, IntKind.bits, IntKind.signed]; omega
  have hsr : Op.shift .shr .u32 x .u64 (n : Int) = pure (.int .u32 (x / 2 ^ n)) := by rw [shift_shr .u32 .u64 x _ (by omega) (by show _ ≤ (32 : Int); omega)]; rfl
  rw [hR]
  clear hR e1 e2
  go_enter Tryz.func201, Tryz.ntmps201
  go_wp2
  go_ret
  exact ⟨rfl, rfl⟩

theorem right_any (x : Int) (n : Nat) (h0 : 0 < n) (hn : n < 32) (w : World) : Calls Tryz.prog 180 #[.int .u32 x, .int .i64 n] w fun e w' => e = .returned (.int .u32 (rotr x n)) ∧ w = w' := by
  have hc := rotl_any x n h0 hn w
  have hn' : (n : Int) < 32 := by omega
  clear hn
  go_enter Tryz.func180, Tryz.ntmps180
  go_wp2_with fail
  refine hc.mono ?_
  rintro e w' ⟨rfl, rfl⟩
  go_wp2
  go_ret
  exact ⟨rfl, rfl⟩

theorem right_q (x : Int) (n : Nat) (h0 : 0 < n) (hn : n < 32) {w : World} {k : Nat} : Calls Tryz.prog 180 #[.int .u32 x, .int .i64 n] (w.drewN k) fun e w' => e = .returned (.int .u32 (rotr x n)) ∧ ∃ m, w' = w.drewN m :=
  (right_any x n h0 hn _).mono fun _ _ h => ⟨h.1, k, h.2.symm⟩

theorem turned_any (x : Int) (n : Nat) (h0 : 0 < n) (hn : n < 32) (w : World) : Calls Tryz.prog 101 #[.int .u32 x, .int .i64 n] w fun e w' => e = .returned (.int .u32 (rotr x n)) ∧ ∃ k, w' = w.drewN k := by
  have e1 : (32 - (n : Int)).toNat = 32 - n := by omega
  have hsl : Op.shift .shl .u32 x .i64 (32 - (n : Int)) = pure (.int .u32 (IntKind.u32.wrap (x * 2 ^ (32 - n)))) := by rw [shift_shl .u32 .i64 x _ (by omega) (by show _ ≤ (32 : Int); omega), e1]
  have hsr : Op.shift .shr .u32 x .i64 (n : Int) = pure (.int .u32 (x / 2 ^ n)) := by rw [shift_shr .u32 .i64 x _ (by omega) (by show _ ≤ (32 : Int); omega)]; rfl
  have e3 : IntKind.i64.wrap (32 - (n : Int)) = 32 - n := by rw [IntKind.wrap_i64]; omega
  clear hn e1
  unfold rotr
  go_enter Tryz.func101, Tryz.ntmps101
  go_wp2_with fail
  go_quiet (fail)
  go_wp2
  go_ret
  exact ⟨rfl, ⟨_, rfl⟩⟩

theorem turned_q (x : Int) (n : Nat) (h0 : 0 < n) (hn : n < 32) {w : World} {k : Nat} : Calls Tryz.prog 101 #[.int .u32 x, .int .i64 n] (w.drewN k) fun e w' => e = .returned (.int .u32 (rotr x n)) ∧ ∃ m, w' = w.drewN m :=
  Calls.quiet_of (turned_any x n h0 hn _)

theorem right_q2 (x : Int) {w : World} {k : Nat} : Calls Tryz.prog 180 #[.int .u32 x, .int .i64 2] (w.drewN k) fun e w' => e = .returned (.int .u32 (rotr x 2)) ∧ ∃ m, w' = w.drewN m := right_q x 2 (by omega) (by omega)
theorem right_q6 (x : Int) {w : World} {k : Nat} : Calls Tryz.prog 180 #[.int .u32 x, .int .i64 6] (w.drewN k) fun e w' => e = .returned (.int .u32 (rotr x 6)) ∧ ∃ m, w' = w.drewN m := right_q x 6 (by omega) (by omega)
theorem right_q7 (x : Int) {w : World} {k : Nat} : Calls Tryz.prog 180 #[.int .u32 x, .int .i64 7] (w.drewN k) fun e w' => e = .returned (.int .u32 (rotr x 7)) ∧ ∃ m, w' = w.drewN m := right_q x 7 (by omega) (by omega)
theorem right_q11 (x : Int) {w : World} {k : Nat} : Calls Tryz.prog 180 #[.int .u32 x, .int .i64 11] (w.drewN k) fun e w' => e = .returned (.int .u32 (rotr x 11)) ∧ ∃ m, w' = w.drewN m := right_q x 11 (by omega) (by omega)
theorem right_q13 (x : Int) {w : World} {k : Nat} : Calls Tryz.prog 180 #[.int .u32 x, .int .i64 13] (w.drewN k) fun e w' => e = .returned (.int .u32 (rotr x 13)) ∧ ∃ m, w' = w.drewN m := right_q x 13 (by omega) (by omega)
theorem right_q17 (x : Int) {w : World} {k : Nat} : Calls Tryz.prog 180 #[.int .u32 x, .int .i64 17] (w.drewN k) fun e w' => e = .returned (.int .u32 (rotr x 17)) ∧ ∃ m, w' = w.drewN m := right_q x 17 (by omega) (by omega)
theorem right_q18 (x : Int) {w : World} {k : Nat} : Calls Tryz.prog 180 #[.int .u32 x, .int .i64 18] (w.drewN k) fun e w' => e = .returned (.int .u32 (rotr x 18)) ∧ ∃ m, w' = w.drewN m := right_q x 18 (by omega) (by omega)
theorem right_q19 (x : Int) {w : World} {k : Nat} : Calls Tryz.prog 180 #[.int .u32 x, .int .i64 19] (w.drewN k) fun e w' => e = .returned (.int .u32 (rotr x 19)) ∧ ∃ m, w' = w.drewN m := right_q x 19 (by omega) (by omega)
theorem right_q22 (x : Int) {w : World} {k : Nat} : Calls Tryz.prog 180 #[.int .u32 x, .int .i64 22] (w.drewN k) fun e w' => e = .returned (.int .u32 (rotr x 22)) ∧ ∃ m, w' = w.drewN m := right_q x 22 (by omega) (by omega)
theorem right_q25 (x : Int) {w : World} {k : Nat} : Calls Tryz.prog 180 #[.int .u32 x, .int .i64 25] (w.drewN k) fun e w' => e = .returned (.int .u32 (rotr x 25)) ∧ ∃ m, w' = w.drewN m := right_q x 25 (by omega) (by omega)
theorem turned_q2 (x : Int) {w : World} {k : Nat} : Calls Tryz.prog 101 #[.int .u32 x, .int .i64 2] (w.drewN k) fun e w' => e = .returned (.int .u32 (rotr x 2)) ∧ ∃ m, w' = w.drewN m := turned_q x 2 (by omega) (by omega)
theorem turned_q6 (x : Int) {w : World} {k : Nat} : Calls Tryz.prog 101 #[.int .u32 x, .int .i64 6] (w.drewN k) fun e w' => e = .returned (.int .u32 (rotr x 6)) ∧ ∃ m, w' = w.drewN m := turned_q x 6 (by omega) (by omega)
theorem turned_q7 (x : Int) {w : World} {k : Nat} : Calls Tryz.prog 101 #[.int .u32 x, .int .i64 7] (w.drewN k) fun e w' => e = .returned (.int .u32 (rotr x 7)) ∧ ∃ m, w' = w.drewN m := turned_q x 7 (by omega) (by omega)
theorem turned_q11 (x : Int) {w : World} {k : Nat} : Calls Tryz.prog 101 #[.int .u32 x, .int .i64 11] (w.drewN k) fun e w' => e = .returned (.int .u32 (rotr x 11)) ∧ ∃ m, w' = w.drewN m := turned_q x 11 (by omega) (by omega)
theorem turned_q13 (x : Int) {w : World} {k : Nat} : Calls Tryz.prog 101 #[.int .u32 x, .int .i64 13] (w.drewN k) fun e w' => e = .returned (.int .u32 (rotr x 13)) ∧ ∃ m, w' = w.drewN m := turned_q x 13 (by omega) (by omega)
theorem turned_q17 (x : Int) {w : World} {k : Nat} : Calls Tryz.prog 101 #[.int .u32 x, .int .i64 17] (w.drewN k) fun e w' => e = .returned (.int .u32 (rotr x 17)) ∧ ∃ m, w' = w.drewN m := turned_q x 17 (by omega) (by omega)
theorem turned_q18 (x : Int) {w : World} {k : Nat} : Calls Tryz.prog 101 #[.int .u32 x, .int .i64 18] (w.drewN k) fun e w' => e = .returned (.int .u32 (rotr x 18)) ∧ ∃ m, w' = w.drewN m := turned_q x 18 (by omega) (by omega)
theorem turned_q19 (x : Int) {w : World} {k : Nat} : Calls Tryz.prog 101 #[.int .u32 x, .int .i64 19] (w.drewN k) fun e w' => e = .returned (.int .u32 (rotr x 19)) ∧ ∃ m, w' = w.drewN m := turned_q x 19 (by omega) (by omega)
theorem turned_q22 (x : Int) {w : World} {k : Nat} : Calls Tryz.prog 101 #[.int .u32 x, .int .i64 22] (w.drewN k) fun e w' => e = .returned (.int .u32 (rotr x 22)) ∧ ∃ m, w' = w.drewN m := turned_q x 22 (by omega) (by omega)
theorem turned_q25 (x : Int) {w : World} {k : Nat} : Calls Tryz.prog 101 #[.int .u32 x, .int .i64 25] (w.drewN k) fun e w' => e = .returned (.int .u32 (rotr x 25)) ∧ ∃ m, w' = w.drewN m := turned_q x 25 (by omega) (by omega)

theorem word_any (b : Nat) (o len cap : Nat) (x0 x1 x2 x3 : Int) (w : World) (hl : 4 ≤ len)
  (c0 : w.cell? ⟨b, o, none⟩ = some (.int .u8 x0)) (c1 : w.cell? ⟨b, o + 1, none⟩ = some (.int .u8 x1)) (c2 : w.cell? ⟨b, o + 2, none⟩ = some (.int .u8 x2)) (c3 : w.cell? ⟨b, o + 3, none⟩ = some (.int .u8 x3)) :
   Calls Tryz.prog 200 #[.slice (some ⟨b, o, none⟩) len cap] w fun e w' => e = .returned (.int .u32 (word4 x0 x1 x2 x3)) ∧ ∃ k, w' = w.drewN k := by
  have l0 : (0 : Int) < (len : Int) := by omega
  have l1 : (1 : Int) < (len : Int) := by omega
  have l2 : (2 : Int) < (len : Int) := by omega
  have l3 : (3 : Int) < (len : Int) := by omega
  have l00 : 0 < len := by omega
  clear hl
  go_enter Tryz.func200, Tryz.ntmps200
  go_wp2_with fail
  go_quiet (fail)
  go_wp2
  go_ret
  exact ⟨rfl, ⟨_, rfl⟩⟩

end Go.Proofs.YtdaogldmcbfmoaaGreatDoor.Sha

namespace Go.Proofs.YtdaogldmcbfmoaaGreatDoor.Sha
open Go.RowKit
set_option maxRecDepth 100000

theorem spread_any (b : Nat) (o len cap : Nat) (m : Nat → Int) (w : World) (hl : 64 ≤ len) (hcap : len ≤ cap)
  (hc : ∀ i : Nat, i < 64 → w.cell? ⟨b, o + i, none⟩ = some (.int .u8 (m i))) :
   Calls Tryz.prog 179 #[.slice (some ⟨b, o, none⟩) len cap] w fun e w' => e = .returned (.agg (arr 64 (n32 (W m)))) ∧ Fr None' w w' := by
  go_enter Tryz.func179, Tryz.ntmps179
  go_wp2_with fail
  generalize hw1 : World.alloc (World.alloc w _) _ = w1
  have r0 : w1.rowIs w.heap.size 130 64 (n32 fun _ => 0) := by
    rw [← hw1]; exact rowIs_of (heap_alloc2_old w _ _)
  have r1 : w1.rowIs (w.heap.size + 1) 130 64 (n32 fun _ => 0) := by
    rw [← hw1]; exact rowIs_of (heap_alloc2_new w _ _)
  have f1 : Fr None' w w1 := by
    rw [← hw1]; exact (Fr.alloc _ w _).then (Fr.alloc _ _ _)
  clear hw1
  go_loopw [10] (fun i wr => ∃ k : Nat, k ≤ 16 ∧ i = .int .i64 k ∧ wr.rowIs w.heap.size 130 64 (n32 fun _ => 0) ∧ wr.rowIs (w.heap.size + 1) 130 64 (n32 fun j => if j < k then W m j else 0) ∧ Fr None' w wr) (fun i _ => 16 - (intOf i).toNat)
  case atStart => exact ⟨0, by omega, rfl, r0, r1.congr (fun i _ => by simp [n32]), f1⟩
  case round =>
    obtain ⟨k, hk, rfl, q0, q1, fr⟩ := hrel
    clear r0 r1 f1
    by_cases hlt : k < 16
    · have i0 : (k : Int) < 16 := by omega
      have c0 := fr.cell (hc (4 * k) (by omega)) id
      have c1 := fr.cell (hc (4 * k + 1) (by omega)) id
      have c2 := fr.cell (hc (4 * k + 2) (by omega)) id
      have c3 := fr.cell (hc (4 * k + 3) (by omega)) id
      have hw := word_any b (o + 4 * k) (len - 4 * k) (cap - 4 * k) _ _ _ _ _ (by omega) c0 c1 c2 c3
      have z := q1.cell (i := k) (by omega)
      have zf := q1.frozen k
      have l1 : (4 * (k : Int)) ≤ (len : Int) := by omega
      have l2 : (len : Int) ≤ (cap : Int) := by omega
      clear hc
      go_wp2_with fail
      refine hw.mono ?_
      rintro e w2 ⟨rfl, nd, rfl⟩
      have q0' : (wr.drewN nd).rowIs w.heap.size 130 64 (n32 fun _ => 0) := q0
      have q1' : (wr.drewN nd).rowIs (w.heap.size + 1) 130 64 (n32 fun j => if j < k then W m j else 0) := q1
      have fr' : Fr None' w (wr.drewN nd) := fr.then (Fr.drewN _ _ _)
      clear hw c0 c1 c2 c3 q0 q1 fr
      go_wp2
      go_roundw
      case rel =>
        refine ⟨k + 1, by omega, by go_num, q0'.setOther (by simp) _, (q1'.set k _).congr (fun i _ => ?_), fr'.trans (Fr.setCell (M := fun i => i = w.heap.size + 1) _ rfl _) (fun i e => Or.inr (by omega))⟩
        by_cases e : i = k
        · subst e
          simp [n32, W_low m i hlt]
        · simp only [n32, if_neg e]
          by_cases h1 : i < k
          · rw [if_pos h1, if_pos (by omega)]
          · rw [if_neg h1, if_neg (by omega)]
      case measure => simp [intOf]; omega
    · have hk16 : k = 16 := by omega
      have i0 : (16 : Int) ≤ (k : Int) := by omega
      have q1' : wr.rowIs (w.heap.size + 1) 130 64 (n32 fun j => if j < 16 then W m j else 0) := hk16 ▸ q1
      clear q1 hc hk hlt hk16
      go_wp2_with fail
      go_loopw [5] (fun i wr => ∃ k : Nat, 16 ≤ k ∧ k ≤ 64 ∧ i = .int .i64 k ∧ wr.rowIs w.heap.size 130 64 (n32 fun _ => 0) ∧ wr.rowIs (w.heap.size + 1) 130 64 (n32 fun j => if j < k then W m j else 0) ∧ Fr None' w wr) (fun i _ => 64 - (intOf i).toNat)
      case atStart => exact ⟨16, by omega, by omega, rfl, q0, q1', fr⟩
      case round =>
        clear q0 q1' fr i0
        obtain ⟨k, hk, hk2, rfl, q0, q1, fr⟩ := hrel
        by_cases hlt : k < 64
        · have i0 : (k : Int) < 64 := by omega
          have i1 : (16 : Int) ≤ k := by omega
          have hat : ∀ j, j < k → wr.cell? ⟨w.heap.size + 1, j, none⟩ = some (.int .u32 (W m j)) := fun j hj => by
            have := q1.cell (i := j) (by omega)
            simpa [n32, if_pos hj] using this
          have z := q1.cell (i := k) (by omega)
          have zf := q1.frozen k
          have a15 := hat (k - 15) (by omega)
          have a2 := hat (k - 2) (by omega)
          have a16 := hat (k - 16) (by omega)
          have a7 := hat (k - 7) (by omega)
          have t15 : ((k : Int) - 15).toNat = k - 15 := by omega
          have t2 : ((k : Int) - 2).toNat = k - 2 := by omega
          have t7 : ((k : Int) - 7).toNat = k - 7 := by omega
          have t16 : ((k : Int) - 16).toNat = k - 16 := by omega
          have b15 : (k : Int) - 15 < 64 := by omega
          have b2 : (k : Int) - 2 < 64 := by omega
          have b16 : (k : Int) - 16 < 64 := by omega
          have b7 : (k : Int) - 7 < 64 := by omega
          have d15 : 0 ≤ (k : Int) - 15 := by omega
          have d2 : 0 ≤ (k : Int) - 2 := by omega
          have d16 : 0 ≤ (k : Int) - 16 := by omega
          have d7 : 0 ≤ (k : Int) - 7 := by omega
          clear hat hlt
          go_wp2_with fail
          go_quiet (fail)
          go_wp2_with fail
          refine (right_any _ 7 (by omega) (by omega) _).mono ?_
          rintro e w2 ⟨rfl, rfl⟩
          go_wp2_with fail
          refine (right_any _ 18 (by omega) (by omega) _).mono ?_
          rintro e w2 ⟨rfl, rfl⟩
          go_wp2_with fail
          refine (right_any _ 17 (by omega) (by omega) _).mono ?_
          rintro e w2 ⟨rfl, rfl⟩
          go_wp2_with fail
          refine (right_any _ 19 (by omega) (by omega) _).mono ?_
          rintro e w2 ⟨rfl, rfl⟩
          go_wp2_with fail
          have w16 : IntKind.i64.wrap ((k : Int) - 16) = k - 16 := by rw [IntKind.wrap_i64]; omega
          have w7 : IntKind.i64.wrap ((k : Int) - 7) = k - 7 := by rw [IntKind.wrap_i64]; omega
          have g7 : (7 : Int) ≤ k := by omega
          refine region_tail 15 (by kernel_rfl) (by kernel_rfl) ?_
          simp only [List.take_succ_cons, List.take_zero, List.drop_succ_cons, List.drop_zero]
          repeat still_step
          refine wpStill_nil ?_
          have q0' : (wr.drewN nq).drew.rowIs w.heap.size 130 64 (n32 fun _ => 0) := q0
          have q1' : (wr.drewN nq).drew.rowIs (w.heap.size + 1) 130 64 (n32 fun j => if j < k then W m j else 0) := q1
          have fr' : Fr None' w (wr.drewN nq).drew := (fr.then (Fr.drewN _ _ _)).then (Fr.drewN _ _ 1)
          clear q0 q1 fr a15 a2 a16 a7
          go_wp2
          go_roundw
          case rel =>
            refine ⟨k + 1, by omega, by omega, by go_num, q0'.setOther (by simp) _, (q1'.set k _).congr (fun i _ => ?_), fr'.trans (Fr.setCell (M := fun i => i = w.heap.size + 1) _ rfl _) (fun i e => Or.inr (by omega))⟩
            by_cases e : i = k
            · subst e
              simp only [n32, if_true, if_pos (show i < i + 1 by omega)]
              rw [W_high m i (by omega)]
              rfl
            · simp only [n32, if_neg e]
              by_cases h1 : i < k
              · rw [if_pos h1, if_pos (by omega)]
              · rw [if_neg h1, if_neg (by omega)]
          case measure => simp [intOf]; omega
        · have i0 : (64 : Int) ≤ (k : Int) := by omega
          have q1' : wr.rowIs (w.heap.size + 1) 130 64 (n32 (W m)) := q1.congr (fun i hi => by simp only [n32]; rw [if_pos (by omega)])
          clear q1 hk hlt hk2
          go_wp2_with (first
            | refine load_arr Tryz.underlying130 info64 (w.heap.size + 1) q1' _ rfl rfl rfl ?_
            | refine store_arr info64 w.heap.size q0 (fun _ _ => rfl) _ _ rfl rfl rfl rfl rfl ?_)
          refine bodyPost_ret (v := .agg (arr 64 (n32 (W m)))) (result_arr Tryz.underlying130 info64 rfl _ rfl (rowIs_setRow q0)) rfl ⟨rfl, ?_⟩
          exact fr.trans (Fr.setRow (M := fun i => i = w.heap.size) _ rfl _) (fun i e => Or.inr (by omega))
end Go.Proofs.YtdaogldmcbfmoaaGreatDoor.Sha

namespace Go.Proofs.YtdaogldmcbfmoaaGreatDoor.Sha
open Go.RowKit
set_option maxRecDepth 100000

theorem agg32 (f : Nat → Int) (j : Nat) (hj : j < 8) (w : World) : (Instr.index 132 (.agg (arr 8 (n32 f))) (.int .i64 j)).run Tryz.prog w = .ok (.int .u32 (f j)) w := by
  have h0 : (j : Int) < ((8 : Nat) : Int) := by omega
  have h1 : (0 : Int) ≤ j := by omega
  have hg := arr_get 8 (n32 f) hj
  have h2 : (isAgg 129).run Tryz.prog w = .ok false w := by kernel_rfl
  have h3 : (sizeOf 129).run Tryz.prog w = .ok 1 w := by kernel_rfl
  unfold Instr.index
  simp only [Sem.run_bind, asIntOf, run_underlying Tryz.underlying132 w, Sem.run_pure, Result.andThen_ok]
  rw [if_pos ⟨h1, h0⟩]
  unfold part
  simp only [Sem.run_bind, h2, h3, Result.andThen_ok, Int.toNat_natCast, Nat.mul_one, hg]
  rfl

set_option maxHeartbeats 8000000 in
theorem mix_any (ps pr b o len cap : Nat) (v k m : Nat → Int) (w : World) (hl : 64 ≤ len) (hcap : len ≤ cap)
  (hv : w.rowIs ps 132 8 (n32 v)) (hk : w.rowIs pr 130 64 (n32 k))
  (hc : ∀ i : Nat, i < 64 → w.cell? ⟨b, o + i, none⟩ = some (.int .u8 (m i))) :
   Calls Tryz.prog 145 #[.pointer (some ⟨ps, 0, none⟩), .pointer (some ⟨pr, 0, none⟩), .slice (some ⟨b, o, none⟩) len cap] w fun e w' => e = .returned (.tuple #[]) ∧ w'.rowIs ps 132 8 (n32 (blk k m v)) ∧ Fr (fun i => i = ps) w w' := by
  go_enter Tryz.func145, Tryz.ntmps145
  go_wp2_with fail
  refine (spread_any b o len cap m w hl hcap hc).mono ?_
  rintro e w2 ⟨rfl, f2⟩
  have v2 := f2.rowIs hv id
  have k2 := f2.rowIs hk id
  clear hc hv hk
  go_wp2_with (first
    | refine store_arr info64 w2.heap.size (f0 := n32 fun _ => 0) (rowIs_of (heap_alloc_new w2 _)) (fun _ _ => rfl) _ _ rfl rfl rfl rfl rfl ?_)
  generalize hw3 : World.setRow _ _ _ = w3
  obtain ⟨r3, f3⟩ := new_row (n := 64) rfl hw3
  clear hw3
  have v3 := f3.rowIs v2 id
  have k3 := f3.rowIs k2 id
  have c0 := v3.cell (i := 0) (by omega)
  have c1 := v3.cell (i := 1) (by omega)
  have c2 := v3.cell (i := 2) (by omega)
  have c3 := v3.cell (i := 3) (by omega)
  have c4 := v3.cell (i := 4) (by omega)
  have c5 := v3.cell (i := 5) (by omega)
  have c6 := v3.cell (i := 6) (by omega)
  have c7 := v3.cell (i := 7) (by omega)
  simp only [n32] at c0 c1 c2 c3 c4 c5 c6 c7
  have f4 := f2.then f3
  clear f2 f3 v2 k2
  go_quiet (fail)
  clear c0 c1 c2 c3 c4 c5 c6 c7
  go_wp2_with fail
  go_loopw [7, 8, 9, 10, 11, 12, 13, 14, 54] (fun a b c d e f g h i wr => ∃ (n : Nat) (x : V8), n ≤ 64 ∧ i = .int .i64 n ∧ x = rnds k (W m) (V8.of v) n ∧ a = .int .u32 x.a ∧ b = .int .u32 x.b ∧ c = .int .u32 x.c ∧ d = .int .u32 x.d ∧ e = .int .u32 x.e ∧ f = .int .u32 x.f ∧ g = .int .u32 x.g ∧ h = .int .u32 x.h ∧ wr.rowIs w2.heap.size 130 64 (n32 (W m)) ∧ wr.rowIs ps 132 8 (n32 v) ∧ wr.rowIs pr 130 64 (n32 k) ∧ Fr None' w wr) (fun _ _ _ _ _ _ _ _ i _ => 64 - (intOf i).toNat)
  case atStart => exact ⟨0, V8.of v, by omega, rfl, rfl, rfl, rfl, rfl, rfl, rfl, rfl, rfl, rfl, r3, v3, k3, f4.then (Fr.drewN _ _ _)⟩
  case round =>
    obtain ⟨n, x, hn, rfl, hx, rfl, rfl, rfl, rfl, rfl, rfl, rfl, rfl, q1, q2, q3, fr⟩ := hrel
    clear r3 v3 k3 f4
    have HX : Hid (x = rnds k (W m) (V8.of v) n) := hx
    clear hx
    by_cases hlt : n < 64
    · have i0 : (n : Int) < 64 := by omega
      have cw := q1.cell hlt
      have ck := q3.cell hlt
      simp only [n32] at cw ck
      go_wp2_with fail
      go_quiet (with_reducible (first | exact right_q6 _ | exact right_q11 _ | exact right_q25 _))
      go_wp2_with fail
      refine (right_any _ 2 (by omega) (by omega) _).mono ?_
      rintro e w5 ⟨rfl, rfl⟩
      go_wp2_with fail
      refine (right_any _ 13 (by omega) (by omega) _).mono ?_
      rintro e w5 ⟨rfl, rfl⟩
      go_wp2_with fail
      refine (right_any _ 22 (by omega) (by omega) _).mono ?_
      rintro e w5 ⟨rfl, rfl⟩
      go_wp2
      go_roundw
      case rel =>
        refine ⟨n + 1, rnd (k n) (W m n) x, by omega, by go_num, ?_, rfl, rfl, rfl, rfl, rfl, rfl, rfl, rfl, q1, q2, q3, fr.then (Fr.drewN _ _ _)⟩
        rw [HX.out]; rfl
      case measure => simp [intOf]; omega
    · have i0 : (64 : Int) ≤ n := by omega
      have hx64 : Hid (x = rnds k (W m) (V8.of v) 64) := by
        have : n = 64 := by omega
        have h := HX.out
        rw [this] at h; exact h
      clear HX q1 q3 hn hlt
      have fr' : Fr (fun i => i = ps) w wr := fr.any
      clear fr
      go_wp2_with fail
      have ha : #[Value.int .u32 x.a, Value.int .u32 x.b, Value.int .u32 x.c, Value.int .u32 x.d, Value.int .u32 x.e, Value.int .u32 x.f, Value.int .u32 x.g, Value.int .u32 x.h] = arr 8 (n32 x.at) := rfl
      rw [ha]
      clear ha
      go_loopw [128] (fun i wr => ∃ j : Nat, j ≤ 8 ∧ i = .int .i64 j ∧ wr.rowIs ps 132 8 (n32 fun i => if i < j then (v i + x.at i) % 4294967296 else v i) ∧ Fr (fun i => i = ps) w wr) (fun i _ => 8 - (intOf i).toNat)
      case atStart => exact ⟨0, by omega, rfl, q2.congr (fun i _ => by simp [n32]), fr'⟩
      case round =>
        clear q2 fr' i0
        obtain ⟨j, hj, rfl, q2, fr⟩ := hrel
        by_cases hlt : j < 8
        · have i0 : (j : Int) < 8 := by omega
          have i1 : j < 8 := by omega
          have hag := agg32 x.at j hlt
          have cv := q2.cell hlt
          have zf := q2.frozen j
          simp only [n32, Nat.lt_irrefl, if_false] at cv
          go_wp2_with fail
          refine region_tail 9 mixed (by kernel_rfl) ?_
          simp only [List.take_succ_cons, List.take_zero, List.drop_succ_cons, List.drop_zero]
          repeat still_step
          refine wpStill_nil ?_
          go_wp2
          go_roundw
          case rel =>
            refine ⟨j + 1, by omega, by go_num, World.rowIs.drew ((q2.set j _).congr (fun i _ => ?_)), (fr.then (Fr.setCell (M := fun i => i = ps) _ rfl _)).then (Fr.drewN _ _ 1)⟩
            by_cases e : i = j
            · subst e
              simp only [n32, if_true, if_pos (show i < i + 1 by omega)]
            · simp only [n32, if_neg e]
              by_cases h1 : i < j
              · rw [if_pos h1, if_pos (by omega)]
              · rw [if_neg h1, if_neg (by omega)]
          case measure => simp [intOf]; omega
        · have i0 : (8 : Int) ≤ (j : Int) := by omega
          have q2' : wr.rowIs ps 132 8 (n32 (blk k m v)) := q2.congr (fun i hi => by
            simp only [n32]; rw [if_pos (by omega)]; unfold blk; rw [← hx64.out])
          clear q2 hlt hj
          go_wp2
          go_end0
          exact ⟨rfl, q2', fr⟩
end Go.Proofs.YtdaogldmcbfmoaaGreatDoor.Sha

namespace Go.Proofs.YtdaogldmcbfmoaaGreatDoor.Sha
open Go.RowKit
set_option maxRecDepth 100000

theorem starts_any (w : World) : Calls Tryz.prog 106 #[] w fun e w' => e = .returned (.agg (arr 8 (n32 iv))) ∧ Fr None' w w' := by
  go_enter Tryz.func106, Tryz.ntmps106
  go_wp2_with fail
  refine bodyPost_ret (v := .agg (arr 8 (n32 iv))) (result_arr Tryz.underlying132 info8 rfl _ rfl (rowIs_of (heap_alloc_new w _))) rfl ⟨rfl, Fr.alloc _ _ _⟩

set_option maxHeartbeats 4000000 in
theorem consts_any (w : World) : Calls Tryz.prog 107 #[] w fun e w' => e = .returned (.agg (arr 64 (n32 kc))) ∧ Fr None' w w' := by
  go_enter Tryz.func107, Tryz.ntmps107
  go_wp2_with (refine store_arr info64 w.heap.size (f0 := n32 fun _ => 0) (f := n32 kc) (rowIs_of (heap_alloc_new w _)) (fun _ _ => rfl) _ _ rfl rfl rfl rfl rfl ?_)
  generalize hw : World.setRow _ _ _ = w'
  obtain ⟨r, f⟩ := new_row (n := 64) rfl hw
  exact bodyPost_ret (v := .agg (arr 64 (n32 kc))) (result_arr Tryz.underlying130 info64 rfl _ rfl r) rfl ⟨rfl, f⟩

theorem putWord_any (b o len cap : Nat) (x : Int) (w : World) (hl : 4 ≤ len) (t : TypeId) (n : Nat) (f : Nat → Value) (hr : w.rowIs b t n f) (ho : o + 4 ≤ n) :
   Calls Tryz.prog 110 #[.slice (some ⟨b, o, none⟩) len cap, .int .u32 x] w fun e w' => e = .returned (.tuple #[]) ∧ w'.rowIs b t n (put4 o x f) ∧ Fr (fun i => i = b) w w' := by
  have l0 : (0 : Int) < (len : Int) := by omega
  have l1 : (1 : Int) < (len : Int) := by omega
  have l2 : (2 : Int) < (len : Int) := by omega
  have l3 : (3 : Int) < (len : Int) := by omega
  have l00 : 0 < len := by omega
  have c0 := hr.cell (i := o) (by omega)
  have c1 := hr.cell (i := o + 1) (by omega)
  have c2 := hr.cell (i := o + 2) (by omega)
  have c3 := hr.cell (i := o + 3) (by omega)
  have z0 := hr.frozen o
  have z1 := hr.frozen (o + 1)
  have z2 := hr.frozen (o + 2)
  have z3 := hr.frozen (o + 3)
  generalize f o = y0 at c0
  generalize f (o + 1) = y1 at c1
  generalize f (o + 2) = y2 at c2
  generalize f (o + 3) = y3 at c3
  clear hl
  go_enter Tryz.func110, Tryz.ntmps110
  go_wp2
  go_end0
  refine ⟨rfl, ((((hr.set o _).set (o + 1) _).set (o + 2) _).set (o + 3) _).congr (fun i _ => put4_eq o x f i), ?_⟩
  exact (((Fr.setCell (M := fun i => i = b) _ rfl _).then (Fr.setCell (M := fun i => i = b) _ rfl _)).then (Fr.setCell (M := fun i => i = b) _ rfl _)).then (Fr.setCell (M := fun i => i = b) _ rfl _)
end Go.Proofs.YtdaogldmcbfmoaaGreatDoor.Sha

namespace Go.Proofs.YtdaogldmcbfmoaaGreatDoor.Sha
open Go.RowKit
set_option maxRecDepth 100000

set_option maxHeartbeats 4000000 in
theorem mixBlocks_any (ps pr : Nat) (va : Option Addr) (len cap nb : Nat) (v k m : Nat → Int) (w : World) (hl : len = 64 * nb) (hcap : len ≤ cap) (hbig : len ≤ 1000000)
  (hv : w.rowIs ps 132 8 (n32 v)) (hk : w.rowIs pr 130 64 (n32 k)) (hpr : pr ≠ ps)
  (hc : ∀ i : Nat, i < len → ∃ b o, va = some ⟨b, o, none⟩ ∧ b ≠ ps ∧ w.cell? ⟨b, o + i, none⟩ = some (.int .u8 (m i))) :
   Calls Tryz.prog 108 #[.pointer (some ⟨ps, 0, none⟩), .pointer (some ⟨pr, 0, none⟩), .slice va len cap] w fun e w' => e = .returned (.tuple #[]) ∧ w'.rowIs ps 132 8 (n32 (blks k m v nb)) ∧ Fr (fun i => i = ps) w w' := by
  have hq : (len : Int) / 64 = nb := by omega
  have hb : (nb : Int) ≤ 1000000 := by omega
  have HL : Hid (len = 64 * nb) := hl
  clear hl
  go_enter Tryz.func108, Tryz.ntmps108
  go_wp2_with fail
  go_loopw [10] (fun i wr => ∃ j : Nat, j ≤ nb ∧ i = .int .i64 j ∧ wr.rowIs ps 132 8 (n32 (blks k m v j)) ∧ Fr (fun i => i = ps) w wr) (fun i _ => nb - (intOf i).toNat)
  case atStart => exact ⟨0, by omega, rfl, hv, Fr.refl _ _⟩
  case round =>
    obtain ⟨j, hj, rfl, q, fr⟩ := hrel
    have hl := HL.out
    by_cases hlt : j < nb
    · obtain ⟨b, o, rfl, hbs, _⟩ := hc (64 * j) (by omega)
      have i0 : (j : Int) < nb := by omega
      have l1 : (64 * (j : Int)) ≤ (len : Int) := by omega
      have l2 : (len : Int) ≤ (cap : Int) := by omega
      have hm := mix_any ps pr b (o + 64 * j) (len - 64 * j) (cap - 64 * j) (blks k m v j) k (fun i => m (64 * j + i)) wr (by omega) (by omega) q (fr.rowIs hk hpr) (fun i hi => by
        obtain ⟨b', o', e, hb', hcc⟩ := hc (64 * j + i) (by omega)
        cases e
        rw [Nat.add_assoc]
        exact fr.cell hcc hb')
      clear hc hv hk hl
      go_wp2_with fail
      refine hm.mono ?_
      rintro e w2 ⟨rfl, q', f2⟩
      clear hm q
      go_wp2
      go_roundw
      case rel => exact ⟨j + 1, by omega, by go_num, q', fr.then f2⟩
      case measure => simp [intOf]; omega
    · have i0 : (nb : Int) ≤ (j : Int) := by omega
      have hjn : j = nb := by omega
      have q' := hjn ▸ q
      clear hc hv hk hl q hjn hlt
      go_wp2
      go_end0
      exact ⟨rfl, q', fr⟩
end Go.Proofs.YtdaogldmcbfmoaaGreatDoor.Sha
