/-
  What is proved here: what spread answers. Condition: the block lies in memory.
-/
import Derived.Test.YtklefjmihapdpaaSSmall
namespace Go.Proofs.Ytklefjmihapdpaa.Sha
open Go.RowKit
set_option maxRecDepth 100000

theorem spread_any (b : Nat) (o len cap : Nat) (m : Nat → Int) (w : World) (hl : 64 ≤ len) (hcap : len ≤ cap)
  (hc : ∀ i : Nat, i < 64 → w.cell? ⟨b, o + i, none⟩ = some (.int .u8 (m i))) :
   Calls Try.prog 77 #[.slice (some ⟨b, o, none⟩) len cap] w fun e w' => e = .returned (.agg (arr 64 (n32 (W m)))) ∧ Fr None' w w' := by
  go_enter Try.func77, Try.ntmps77
  go_wp2_with fail
  generalize hw1 : World.alloc (World.alloc w _) _ = w1
  have r0 : w1.rowIs w.heap.size 78 64 (n32 fun _ => 0) := by
    rw [← hw1]; exact rowIs_of (heap_alloc2_old w _ _)
  have r1 : w1.rowIs (w.heap.size + 1) 78 64 (n32 fun _ => 0) := by
    rw [← hw1]; exact rowIs_of (heap_alloc2_new w _ _)
  have f1 : Fr None' w w1 := by
    rw [← hw1]; exact (Fr.alloc _ w _).then (Fr.alloc _ _ _)
  clear hw1
  go_loopw [10] (fun i wr => ∃ k : Nat, k ≤ 16 ∧ i = .int .i64 k ∧ wr.rowIs w.heap.size 78 64 (n32 fun _ => 0) ∧ wr.rowIs (w.heap.size + 1) 78 64 (n32 fun j => if j < k then W m j else 0) ∧ Fr None' w wr) (fun i _ => 16 - (intOf i).toNat)
  case atStart => exact ⟨0, by omega, rfl, r0, r1.congr (fun i _ => by simp [n32]), f1⟩
  case round =>
    obtain ⟨k, hk, rfl, q0, q1, fr⟩ := hrel
    clear r0 r1 f1
    by_cases hlt : k < 16
    · have i0 : (k : Int) < 16 := by omega
      have c0 := fr.cell (hc (4 * k) (by omega)) id
      have c1 := fr.cell (hc (4 * k + 1) (by omega)) id
      have c2 := fr.cell (hc (4 * k + 2) (by omega)) id
      have c3 := fr.cell (hc (4 * k + 3) (by omega)) id
      have hw := word_any b (o + 4 * k) (len - 4 * k) (cap - 4 * k) _ _ _ _ _ (by omega) c0 c1 c2 c3
      have z := q1.cell (i := k) (by omega)
      have zf := q1.frozen k
      have l1 : (4 * (k : Int)) ≤ (len : Int) := by omega
      have l2 : (len : Int) ≤ (cap : Int) := by omega
      clear hc
      go_wp2_with fail
      refine hw.mono ?_
      rintro e w2 ⟨rfl, nd, rfl⟩
      have q0' : (wr.drewN nd).rowIs w.heap.size 78 64 (n32 fun _ => 0) := q0
      have q1' : (wr.drewN nd).rowIs (w.heap.size + 1) 78 64 (n32 fun j => if j < k then W m j else 0) := q1
      have fr' : Fr None' w (wr.drewN nd) := fr.then (Fr.drewN _ _ _)
      clear hw c0 c1 c2 c3 q0 q1 fr
      go_wp2
      go_roundw
      case rel =>
        refine ⟨k + 1, by omega, by go_num, q0'.setOther (by simp) _, (q1'.set k _).congr (fun i _ => ?_), fr'.trans (Fr.setCell (M := fun i => i = w.heap.size + 1) _ rfl _) (fun i e => Or.inr (by omega))⟩
        by_cases e : i = k
        · subst e
          simp [n32, W_low m i hlt]
        · simp only [n32, if_neg e]
          by_cases h1 : i < k
          · rw [if_pos h1, if_pos (by omega)]
          · rw [if_neg h1, if_neg (by omega)]
      case measure => simp [intOf]; omega
    · have hk16 : k = 16 := by omega
      have i0 : (16 : Int) ≤ (k : Int) := by omega
      have q1' : wr.rowIs (w.heap.size + 1) 78 64 (n32 fun j => if j < 16 then W m j else 0) := hk16 ▸ q1
      clear q1 hc hk hlt hk16
      go_wp2_with fail
      go_loopw [5] (fun i wr => ∃ k : Nat, 16 ≤ k ∧ k ≤ 64 ∧ i = .int .i64 k ∧ wr.rowIs w.heap.size 78 64 (n32 fun _ => 0) ∧ wr.rowIs (w.heap.size + 1) 78 64 (n32 fun j => if j < k then W m j else 0) ∧ Fr None' w wr) (fun i _ => 64 - (intOf i).toNat)
      case atStart => exact ⟨16, by omega, by omega, rfl, q0, q1', fr⟩
      case round =>
        clear q0 q1' fr i0
        obtain ⟨k, hk, hk2, rfl, q0, q1, fr⟩ := hrel
        by_cases hlt : k < 64
        · have i0 : (k : Int) < 64 := by omega
          have i1 : (16 : Int) ≤ k := by omega
          have hat : ∀ j, j < k → wr.cell? ⟨w.heap.size + 1, j, none⟩ = some (.int .u32 (W m j)) := fun j hj => by
            have := q1.cell (i := j) (by omega)
            simpa [n32, if_pos hj] using this
          have z := q1.cell (i := k) (by omega)
          have zf := q1.frozen k
          have a15 := hat (k - 15) (by omega)
          have a2 := hat (k - 2) (by omega)
          have a16 := hat (k - 16) (by omega)
          have a7 := hat (k - 7) (by omega)
          have t15 : ((k : Int) - 15).toNat = k - 15 := by omega
          have t2 : ((k : Int) - 2).toNat = k - 2 := by omega
          have t7 : ((k : Int) - 7).toNat = k - 7 := by omega
          have t16 : ((k : Int) - 16).toNat = k - 16 := by omega
          have b15 : (k : Int) - 15 < 64 := by omega
          have b2 : (k : Int) - 2 < 64 := by omega
          have b16 : (k : Int) - 16 < 64 := by omega
          have b7 : (k : Int) - 7 < 64 := by omega
          have d15 : 0 ≤ (k : Int) - 15 := by omega
          have d2 : 0 ≤ (k : Int) - 2 := by omega
          have d16 : 0 ≤ (k : Int) - 16 := by omega
          have d7 : 0 ≤ (k : Int) - 7 := by omega
          clear hat hlt
          go_wp2_with fail
          go_quiet (fail)
          go_wp2_with fail
          refine (right_any _ 7 (by omega) (by omega) _).mono ?_
          rintro e w2 ⟨rfl, rfl⟩
          go_wp2_with fail
          refine (right_any _ 18 (by omega) (by omega) _).mono ?_
          rintro e w2 ⟨rfl, rfl⟩
          go_wp2_with fail
          refine (right_any _ 17 (by omega) (by omega) _).mono ?_
          rintro e w2 ⟨rfl, rfl⟩
          go_wp2_with fail
          refine (right_any _ 19 (by omega) (by omega) _).mono ?_
          rintro e w2 ⟨rfl, rfl⟩
          go_wp2_with fail
          have w16 : IntKind.i64.wrap ((k : Int) - 16) = k - 16 := by rw [IntKind.wrap_i64]; omega
          have w7 : IntKind.i64.wrap ((k : Int) - 7) = k - 7 := by rw [IntKind.wrap_i64]; omega
          have g7 : (7 : Int) ≤ k := by omega
          refine region_tail 15 (by kernel_rfl) (by kernel_rfl) ?_
          simp only [List.take_succ_cons, List.take_zero, List.drop_succ_cons, List.drop_zero]
          repeat still_step
          refine wpStill_nil ?_
          have q0' : (wr.drewN nq).drew.rowIs w.heap.size 78 64 (n32 fun _ => 0) := q0
          have q1' : (wr.drewN nq).drew.rowIs (w.heap.size + 1) 78 64 (n32 fun j => if j < k then W m j else 0) := q1
          have fr' : Fr None' w (wr.drewN nq).drew := (fr.then (Fr.drewN _ _ _)).then (Fr.drewN _ _ 1)
          clear q0 q1 fr a15 a2 a16 a7
          go_wp2
          go_roundw
          case rel =>
            refine ⟨k + 1, by omega, by omega, by go_num, q0'.setOther (by simp) _, (q1'.set k _).congr (fun i _ => ?_), fr'.trans (Fr.setCell (M := fun i => i = w.heap.size + 1) _ rfl _) (fun i e => Or.inr (by omega))⟩
            by_cases e : i = k
            · subst e
              simp only [n32, if_true, if_pos (show i < i + 1 by omega)]
              rw [W_high m i (by omega)]
              rfl
            · simp only [n32, if_neg e]
              by_cases h1 : i < k
              · rw [if_pos h1, if_pos (by omega)]
              · rw [if_neg h1, if_neg (by omega)]
          case measure => simp [intOf]; omega
        · have i0 : (64 : Int) ≤ (k : Int) := by omega
          have q1' : wr.rowIs (w.heap.size + 1) 78 64 (n32 (W m)) := q1.congr (fun i hi => by simp only [n32]; rw [if_pos (by omega)])
          clear q1 hk hlt hk2
          go_wp2_with (first
            | refine load_arr Try.underlying78 info64 (w.heap.size + 1) q1' _ rfl rfl rfl ?_
            | refine store_arr info64 w.heap.size q0 (fun _ _ => rfl) _ _ rfl rfl rfl rfl rfl ?_)
          refine bodyPost_ret (v := .agg (arr 64 (n32 (W m)))) (result_arr Try.underlying78 info64 rfl _ rfl (rowIs_setRow q0)) rfl ⟨rfl, ?_⟩
          exact fr.trans (Fr.setRow (M := fun i => i = w.heap.size) _ rfl _) (fun i e => Or.inr (by omega))
end Go.Proofs.Ytklefjmihapdpaa.Sha
