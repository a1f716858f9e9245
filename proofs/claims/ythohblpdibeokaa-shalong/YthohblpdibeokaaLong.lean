/-
  What is proved here: ShaLong answers true. No condition.
-/
import Derived.Test.YthohblpdibeokaaTells
import Derived.Deep.OwnRows
namespace Go.Proofs.Ythohblpdibeokaa
open Go.RowKit
set_option maxRecDepth 100000

theorem make8 (n : Nat) (hn : n ≤ 400) (w : World) : ∃ w', (Instr.makeSlice 22 (.int .i64 n) (.int .i64 n)).run Try.prog w = .ok (.slice (some ⟨w.heap.size, 0, none⟩) n n) w' ∧ w'.rowIs w.heap.size 5 n (fun _ => .int .u8 0) ∧ Fr None' w w' :=
  ⟨_, run_make_row' (P := Try.prog) 22 5 (.int .u8 0) 1 Try.underlying22 Try.info8 rfl .i64 .i64 n (by omega) (by omega) w, World.rowIs_made w _ n 5, Fr.alloc _ _ _⟩

set_option maxHeartbeats 4000000 in
theorem long_walk (c : Int) (k : Nat) (w : World) : Calls Try.prog 4 #[.int .u8 c, .int .u16 k] w fun e w' => e = .returned (.bool true) ∧ Fr None' w w' := by
  go_enter Try.func4, Try.ntmps4
  go_wp2_with fail
  refine (head_any _).mono ?_
  rintro e w1 ⟨rfl, f1⟩
  obtain ⟨n, hn⟩ : ∃ n, k % 400 = n := ⟨_, rfl⟩
  have n0 : (k : Int) % 400 = n := by omega
  have n1 : (n : Int) < 400 := by omega
  have hn4 : n ≤ 400 := by omega
  clear hn
  obtain ⟨w2, hmk, hrow, F2⟩ := make8 n hn4 w1
  go_wp2_with fail
  have f02 := f1.then F2
  have l1 := f1.size
  clear hmk F2 f1
  go_loopw [7] (fun i wr => ∃ j : Nat, j ≤ n ∧ i = .int .i64 j ∧ wr.rowIs w1.heap.size 5 n (fun i => if i < j then .int .u8 c else .int .u8 0) ∧ Fr None' w wr) (fun i _ => n - (intOf i).toNat)
  case atStart => exact ⟨0, Nat.zero_le _, rfl, hrow.congr (fun i _ => by simp), f02⟩
  case round =>
    clear hrow f02
    obtain ⟨j, hj, rfl, hr, fr⟩ := hrel
    by_cases hlt : j < n
    · have i0 : (j : Int) < n := by omega
      have hc := hr.cell hlt
      have hz := hr.frozen j
      simp only [Nat.lt_irrefl, if_false] at hc
      have hr' := (hr.set j (.int .u8 c)).congr (g := fun i => if i < j + 1 then .int .u8 c else .int .u8 0) (fun i _ => by
        by_cases e : i = j
        · subst e; simp
        · have e1 : (i < j + 1) = (i < j) := propext ⟨fun h => by omega, fun h => by omega⟩
          simp [e, e1])
      have fr' : Fr None' w (wr.setCell ⟨w1.heap.size, j, none⟩ (.int .u8 c)) := fr.trans (Fr.setCell (M := fun i => i = w1.heap.size) _ rfl _) (fun i e => Or.inr (by omega))
      clear hr fr
      go_wp2_with fail
      exact ⟨⟨j + 1, by omega, by go_num, hr', fr'⟩, by simp [intOf]; omega⟩
    · have i0 : (n : Int) ≤ j := by omega
      have hb : Byt wr (.slice (some ⟨w1.heap.size, 0, none⟩) n n) n (fun _ => c) := ⟨_, _, rfl, Nat.le_refl _, fun i hi => ⟨_, _, rfl, by
        have := hr.cell hi
        rw [if_pos (by omega)] at this
        rw [Nat.zero_add]
        exact this⟩⟩
      have q1 := sum_any _ n (fun _ => c) wr hb (by omega)
      have HB : Hid _ := hb
      clear hr hb hlt hj
      go_wp2_with fail
      refine q1.mono ?_
      rintro e w3 ⟨rfl, f3⟩
      have q2 := rsum_any _ n n (fun _ => c) w3 (Byt.fr HB.out f3) (fun e => by cases e) (by omega)
      rw [rsumB_eq n _ (by omega)] at q2
      have f03 := fr.then f3
      clear q1 fr f3
      go_wp2_with fail
      refine q2.mono ?_
      rintro e w4 ⟨rfl, f4⟩
      have f04 := f03.then f4
      clear f03 f4 q2
      have he := equal32
      have hg := Try.eqGuardType24
      have hsm := same_self 32 (sumB n fun _ => c)
      go_wp2
      go_ret
      exact ⟨rfl, f04⟩
end Go.Proofs.Ythohblpdibeokaa
