/-
  What is proved here: what mix does to the eight numbers. Condition: they, the constants and the block lie in memory.
-/
import Derived.Test.YtklefjmihapdpaaSSpread
namespace Go.Proofs.Ytklefjmihapdpaa.Sha
open Go.RowKit
set_option maxRecDepth 100000

theorem agg32 (f : Nat → Int) (j : Nat) (hj : j < 8) (w : World) : (Instr.index 80 (.agg (arr 8 (n32 f))) (.int .i64 j)).run Try.prog w = .ok (.int .u32 (f j)) w := by
  have h0 : (j : Int) < ((8 : Nat) : Int) := by omega
  have h1 : (0 : Int) ≤ j := by omega
  have hg := arr_get 8 (n32 f) hj
  have h2 : (isAgg 77).run Try.prog w = .ok false w := by kernel_rfl
  have h3 : (sizeOf 77).run Try.prog w = .ok 1 w := by kernel_rfl
  unfold Instr.index
  simp only [Sem.run_bind, asIntOf, run_underlying Try.underlying80 w, Sem.run_pure, Result.andThen_ok]
  rw [if_pos ⟨h1, h0⟩]
  unfold part
  simp only [Sem.run_bind, h2, h3, Result.andThen_ok, Int.toNat_natCast, Nat.mul_one, hg]
  rfl

set_option maxHeartbeats 8000000 in
theorem mix_any (ps pr b o len cap : Nat) (v k m : Nat → Int) (w : World) (hl : 64 ≤ len) (hcap : len ≤ cap)
  (hv : w.rowIs ps 80 8 (n32 v)) (hk : w.rowIs pr 78 64 (n32 k))
  (hc : ∀ i : Nat, i < 64 → w.cell? ⟨b, o + i, none⟩ = some (.int .u8 (m i))) :
   Calls Try.prog 65 #[.pointer (some ⟨ps, 0, none⟩), .pointer (some ⟨pr, 0, none⟩), .slice (some ⟨b, o, none⟩) len cap] w fun e w' => e = .returned (.tuple #[]) ∧ w'.rowIs ps 80 8 (n32 (blk k m v)) ∧ Fr (fun i => i = ps) w w' := by
  go_enter Try.func65, Try.ntmps65
  go_wp2_with fail
  refine (spread_any b o len cap m w hl hcap hc).mono ?_
  rintro e w2 ⟨rfl, f2⟩
  have v2 := f2.rowIs hv id
  have k2 := f2.rowIs hk id
  clear hc hv hk
  go_wp2_with (first
    | refine store_arr info64 w2.heap.size (f0 := n32 fun _ => 0) (rowIs_of (heap_alloc_new w2 _)) (fun _ _ => rfl) _ _ rfl rfl rfl rfl rfl ?_)
  generalize hw3 : World.setRow _ _ _ = w3
  obtain ⟨r3, f3⟩ := new_row (n := 64) rfl hw3
  clear hw3
  have v3 := f3.rowIs v2 id
  have k3 := f3.rowIs k2 id
  have c0 := v3.cell (i := 0) (by omega)
  have c1 := v3.cell (i := 1) (by omega)
  have c2 := v3.cell (i := 2) (by omega)
  have c3 := v3.cell (i := 3) (by omega)
  have c4 := v3.cell (i := 4) (by omega)
  have c5 := v3.cell (i := 5) (by omega)
  have c6 := v3.cell (i := 6) (by omega)
  have c7 := v3.cell (i := 7) (by omega)
  simp only [n32] at c0 c1 c2 c3 c4 c5 c6 c7
  have f4 := f2.then f3
  clear f2 f3 v2 k2
  go_quiet (fail)
  clear c0 c1 c2 c3 c4 c5 c6 c7
  go_wp2_with fail
  go_loopw [7, 8, 9, 10, 11, 12, 13, 14, 54] (fun a b c d e f g h i wr => ∃ (n : Nat) (x : V8), n ≤ 64 ∧ i = .int .i64 n ∧ x = rnds k (W m) (V8.of v) n ∧ a = .int .u32 x.a ∧ b = .int .u32 x.b ∧ c = .int .u32 x.c ∧ d = .int .u32 x.d ∧ e = .int .u32 x.e ∧ f = .int .u32 x.f ∧ g = .int .u32 x.g ∧ h = .int .u32 x.h ∧ wr.rowIs w2.heap.size 78 64 (n32 (W m)) ∧ wr.rowIs ps 80 8 (n32 v) ∧ wr.rowIs pr 78 64 (n32 k) ∧ Fr None' w wr) (fun _ _ _ _ _ _ _ _ i _ => 64 - (intOf i).toNat)
  case atStart => exact ⟨0, V8.of v, by omega, rfl, rfl, rfl, rfl, rfl, rfl, rfl, rfl, rfl, rfl, r3, v3, k3, f4.then (Fr.drewN _ _ _)⟩
  case round =>
    obtain ⟨n, x, hn, rfl, hx, rfl, rfl, rfl, rfl, rfl, rfl, rfl, rfl, q1, q2, q3, fr⟩ := hrel
    clear r3 v3 k3 f4
    have HX : Hid (x = rnds k (W m) (V8.of v) n) := hx
    clear hx
    by_cases hlt : n < 64
    · have i0 : (n : Int) < 64 := by omega
      have cw := q1.cell hlt
      have ck := q3.cell hlt
      simp only [n32] at cw ck
      go_wp2_with fail
      go_quiet (with_reducible (first | exact right_q6 _ | exact right_q11 _ | exact right_q25 _))
      go_wp2_with fail
      refine (right_any _ 2 (by omega) (by omega) _).mono ?_
      rintro e w5 ⟨rfl, rfl⟩
      go_wp2_with fail
      refine (right_any _ 13 (by omega) (by omega) _).mono ?_
      rintro e w5 ⟨rfl, rfl⟩
      go_wp2_with fail
      refine (right_any _ 22 (by omega) (by omega) _).mono ?_
      rintro e w5 ⟨rfl, rfl⟩
      go_wp2
      go_roundw
      case rel =>
        refine ⟨n + 1, rnd (k n) (W m n) x, by omega, by go_num, ?_, rfl, rfl, rfl, rfl, rfl, rfl, rfl, rfl, q1, q2, q3, fr.then (Fr.drewN _ _ _)⟩
        rw [HX.out]; rfl
      case measure => simp [intOf]; omega
    · have i0 : (64 : Int) ≤ n := by omega
      have hx64 : Hid (x = rnds k (W m) (V8.of v) 64) := by
        have : n = 64 := by omega
        have h := HX.out
        rw [this] at h; exact h
      clear HX q1 q3 hn hlt
      have fr' : Fr (fun i => i = ps) w wr := fr.any
      clear fr
      go_wp2_with fail
      have ha : #[Value.int .u32 x.a, Value.int .u32 x.b, Value.int .u32 x.c, Value.int .u32 x.d, Value.int .u32 x.e, Value.int .u32 x.f, Value.int .u32 x.g, Value.int .u32 x.h] = arr 8 (n32 x.at) := rfl
      rw [ha]
      clear ha
      go_loopw [128] (fun i wr => ∃ j : Nat, j ≤ 8 ∧ i = .int .i64 j ∧ wr.rowIs ps 80 8 (n32 fun i => if i < j then (v i + x.at i) % 4294967296 else v i) ∧ Fr (fun i => i = ps) w wr) (fun i _ => 8 - (intOf i).toNat)
      case atStart => exact ⟨0, by omega, rfl, q2.congr (fun i _ => by simp [n32]), fr'⟩
      case round =>
        clear q2 fr' i0
        obtain ⟨j, hj, rfl, q2, fr⟩ := hrel
        by_cases hlt : j < 8
        · have i0 : (j : Int) < 8 := by omega
          have i1 : j < 8 := by omega
          have hag := agg32 x.at j hlt
          have cv := q2.cell hlt
          have zf := q2.frozen j
          simp only [n32, Nat.lt_irrefl, if_false] at cv
          go_wp2_with fail
          refine region_tail 9 mixed (by kernel_rfl) ?_
          simp only [List.take_succ_cons, List.take_zero, List.drop_succ_cons, List.drop_zero]
          repeat still_step
          refine wpStill_nil ?_
          go_wp2
          go_roundw
          case rel =>
            refine ⟨j + 1, by omega, by go_num, World.rowIs.drew ((q2.set j _).congr (fun i _ => ?_)), (fr.then (Fr.setCell (M := fun i => i = ps) _ rfl _)).then (Fr.drewN _ _ 1)⟩
            by_cases e : i = j
            · subst e
              simp only [n32, if_true, if_pos (show i < i + 1 by omega)]
            · simp only [n32, if_neg e]
              by_cases h1 : i < j
              · rw [if_pos h1, if_pos (by omega)]
              · rw [if_neg h1, if_neg (by omega)]
          case measure => simp [intOf]; omega
        · have i0 : (8 : Int) ≤ (j : Int) := by omega
          have q2' : wr.rowIs ps 80 8 (n32 (blk k m v)) := q2.congr (fun i hi => by
            simp only [n32]; rw [if_pos (by omega)]; unfold blk; rw [← hx64.out])
          clear q2 hlt hj
          go_wp2
          go_end0
          exact ⟨rfl, q2', fr⟩
end Go.Proofs.Ytklefjmihapdpaa.Sha
