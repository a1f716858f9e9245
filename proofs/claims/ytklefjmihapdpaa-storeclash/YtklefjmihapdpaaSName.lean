/-
  What is proved here: what Name, Named and isDigit answer. Condition: the bytes lie in memory.
-/
import Derived.Test.YtklefjmihapdpaaSSum
import Derived.BigRegion
import Derived.Laws.IdiomStrings
namespace Go.Proofs.Ytklefjmihapdpaa.Sha
open Go.RowKit
set_option maxRecDepth 100000

def hexc (x : Int) : Int := if x < 10 then 48 + x else 87 + x

/-- The name's bytes. -/
def nameB (n : Nat) (m : Nat → Int) (i : Nat) : Int := hexc (if i % 2 = 0 then sumB n m (i / 2) / 16 else sumB n m (i / 2) % 16)

def okc (c : UInt8) : Bool := (48 ≤ c.toNat && c.toNat ≤ 57) || (97 ≤ c.toNat && c.toNat ≤ 102)

theorem isDigit_any (c : Int) (w : World) : Calls Try.prog 44 #[.int .u8 c] w fun e w' => e = .returned (.bool (decide ((48 ≤ c ∧ c ≤ 57) ∨ (97 ≤ c ∧ c ≤ 102)))) ∧ w = w' := by
  go_enter Try.func44, Try.ntmps44
  go_wp2
  all_goals
    go_ret
    refine ⟨?_, rfl⟩
    simp <;> first | omega | (rw [Bool.eq_iff_iff]; simp; omega)

theorem hexIdx0 (w : World) : (Instr.index 9 (.string ⟨#[48, 49, 50, 51, 52, 53, 54, 55, 56, 57, 97, 98, 99, 100, 101, 102]⟩) (.int .u8 0)).run Try.prog w = .ok (.int .u8 (hexc 0)) w := by kernel_rfl
theorem hexIdx1 (w : World) : (Instr.index 9 (.string ⟨#[48, 49, 50, 51, 52, 53, 54, 55, 56, 57, 97, 98, 99, 100, 101, 102]⟩) (.int .u8 1)).run Try.prog w = .ok (.int .u8 (hexc 1)) w := by kernel_rfl
theorem hexIdx2 (w : World) : (Instr.index 9 (.string ⟨#[48, 49, 50, 51, 52, 53, 54, 55, 56, 57, 97, 98, 99, 100, 101, 102]⟩) (.int .u8 2)).run Try.prog w = .ok (.int .u8 (hexc 2)) w := by kernel_rfl
theorem hexIdx3 (w : World) : (Instr.index 9 (.string ⟨#[48, 49, 50, 51, 52, 53, 54, 55, 56, 57, 97, 98, 99, 100, 101, 102]⟩) (.int .u8 3)).run Try.prog w = .ok (.int .u8 (hexc 3)) w := by kernel_rfl
theorem hexIdx4 (w : World) : (Instr.index 9 (.string ⟨#[48, 49, 50, 51, 52, 53, 54, 55, 56, 57, 97, 98, 99, 100, 101, 102]⟩) (.int .u8 4)).run Try.prog w = .ok (.int .u8 (hexc 4)) w := by kernel_rfl
theorem hexIdx5 (w : World) : (Instr.index 9 (.string ⟨#[48, 49, 50, 51, 52, 53, 54, 55, 56, 57, 97, 98, 99, 100, 101, 102]⟩) (.int .u8 5)).run Try.prog w = .ok (.int .u8 (hexc 5)) w := by kernel_rfl
theorem hexIdx6 (w : World) : (Instr.index 9 (.string ⟨#[48, 49, 50, 51, 52, 53, 54, 55, 56, 57, 97, 98, 99, 100, 101, 102]⟩) (.int .u8 6)).run Try.prog w = .ok (.int .u8 (hexc 6)) w := by kernel_rfl
theorem hexIdx7 (w : World) : (Instr.index 9 (.string ⟨#[48, 49, 50, 51, 52, 53, 54, 55, 56, 57, 97, 98, 99, 100, 101, 102]⟩) (.int .u8 7)).run Try.prog w = .ok (.int .u8 (hexc 7)) w := by kernel_rfl
theorem hexIdx8 (w : World) : (Instr.index 9 (.string ⟨#[48, 49, 50, 51, 52, 53, 54, 55, 56, 57, 97, 98, 99, 100, 101, 102]⟩) (.int .u8 8)).run Try.prog w = .ok (.int .u8 (hexc 8)) w := by kernel_rfl
theorem hexIdx9 (w : World) : (Instr.index 9 (.string ⟨#[48, 49, 50, 51, 52, 53, 54, 55, 56, 57, 97, 98, 99, 100, 101, 102]⟩) (.int .u8 9)).run Try.prog w = .ok (.int .u8 (hexc 9)) w := by kernel_rfl
theorem hexIdx10 (w : World) : (Instr.index 9 (.string ⟨#[48, 49, 50, 51, 52, 53, 54, 55, 56, 57, 97, 98, 99, 100, 101, 102]⟩) (.int .u8 10)).run Try.prog w = .ok (.int .u8 (hexc 10)) w := by kernel_rfl
theorem hexIdx11 (w : World) : (Instr.index 9 (.string ⟨#[48, 49, 50, 51, 52, 53, 54, 55, 56, 57, 97, 98, 99, 100, 101, 102]⟩) (.int .u8 11)).run Try.prog w = .ok (.int .u8 (hexc 11)) w := by kernel_rfl
theorem hexIdx12 (w : World) : (Instr.index 9 (.string ⟨#[48, 49, 50, 51, 52, 53, 54, 55, 56, 57, 97, 98, 99, 100, 101, 102]⟩) (.int .u8 12)).run Try.prog w = .ok (.int .u8 (hexc 12)) w := by kernel_rfl
theorem hexIdx13 (w : World) : (Instr.index 9 (.string ⟨#[48, 49, 50, 51, 52, 53, 54, 55, 56, 57, 97, 98, 99, 100, 101, 102]⟩) (.int .u8 13)).run Try.prog w = .ok (.int .u8 (hexc 13)) w := by kernel_rfl
theorem hexIdx14 (w : World) : (Instr.index 9 (.string ⟨#[48, 49, 50, 51, 52, 53, 54, 55, 56, 57, 97, 98, 99, 100, 101, 102]⟩) (.int .u8 14)).run Try.prog w = .ok (.int .u8 (hexc 14)) w := by kernel_rfl
theorem hexIdx15 (w : World) : (Instr.index 9 (.string ⟨#[48, 49, 50, 51, 52, 53, 54, 55, 56, 57, 97, 98, 99, 100, 101, 102]⟩) (.int .u8 15)).run Try.prog w = .ok (.int .u8 (hexc 15)) w := by kernel_rfl

theorem hexIdx (y : Int) (h0 : 0 ≤ y) (h1 : y < 16) (w : World) : (Instr.index 9 (.string ⟨#[48, 49, 50, 51, 52, 53, 54, 55, 56, 57, 97, 98, 99, 100, 101, 102]⟩) (.int .u8 y)).run Try.prog w = .ok (.int .u8 (hexc y)) w := by
  have : y = 0 ∨ y = 1 ∨ y = 2 ∨ y = 3 ∨ y = 4 ∨ y = 5 ∨ y = 6 ∨ y = 7 ∨ y = 8 ∨ y = 9 ∨ y = 10 ∨ y = 11 ∨ y = 12 ∨ y = 13 ∨ y = 14 ∨ y = 15 := by omega
  rcases this with h | h | h | h | h | h | h | h | h | h | h | h | h | h | h | h
  · rw [h]; exact hexIdx0 w
  · rw [h]; exact hexIdx1 w
  · rw [h]; exact hexIdx2 w
  · rw [h]; exact hexIdx3 w
  · rw [h]; exact hexIdx4 w
  · rw [h]; exact hexIdx5 w
  · rw [h]; exact hexIdx6 w
  · rw [h]; exact hexIdx7 w
  · rw [h]; exact hexIdx8 w
  · rw [h]; exact hexIdx9 w
  · rw [h]; exact hexIdx10 w
  · rw [h]; exact hexIdx11 w
  · rw [h]; exact hexIdx12 w
  · rw [h]; exact hexIdx13 w
  · rw [h]; exact hexIdx14 w
  · rw [h]; exact hexIdx15 w

theorem sumB_range (n : Nat) (m : Nat → Int) (i : Nat) : 0 ≤ sumB n m i ∧ sumB n m i ≤ 255 := by
  unfold sumB bt
  split <;> omega

theorem name_step (n : Nat) (m : Nat → Int) (j i : Nat) : (if i = 2 * j + 1 then Value.int .u8 (hexc (sumB n m j % 16)) else if i = 2 * j then Value.int .u8 (hexc (sumB n m j / 16)) else if i < 2 * j then Value.int .u8 (nameB n m i) else .int .u8 0) = if i < 2 * (j + 1) then Value.int .u8 (nameB n m i) else .int .u8 0 := by
  by_cases h1 : i = 2 * j + 1
  · rw [if_pos h1, if_pos (by omega)]
    unfold nameB
    rw [if_neg (by omega), show i / 2 = j by omega]
  · rw [if_neg h1]
    by_cases h2 : i = 2 * j
    · rw [if_pos h2, if_pos (by omega)]
      unfold nameB
      rw [if_pos (by omega), show i / 2 = j by omega]
    · rw [if_neg h2]
      by_cases h3 : i < 2 * j
      · rw [if_pos h3, if_pos (by omega)]
      · rw [if_neg h3, if_neg (by omega)]

/-- The name's text. -/
def nameS (n : Nat) (m : Nat → Int) : List UInt8 := (List.range 64).map (fun i => UInt8.ofNat (nameB n m i).toNat)

theorem nameS_length (n : Nat) (m : Nat → Int) : (nameS n m).length = 64 := by simp [nameS]

theorem nameB_range (n : Nat) (m : Nat → Int) (i : Nat) : 0 ≤ nameB n m i ∧ nameB n m i ≤ 255 := by
  unfold nameB hexc
  have := sumB_range n m (i / 2)
  split <;> split <;> omega

theorem nameS_at (n : Nat) (m : Nat → Int) (i : Nat) (h : i < (nameS n m).length) : (((nameS n m)[i]).toNat : Int) = nameB n m i := by
  have := nameB_range n m i
  simp only [nameS, List.getElem_map, List.getElem_range]
  rw [UInt8.toNat_ofNat']
  omega

set_option maxHeartbeats 4000000 in
theorem name_any (v : Value) (n : Nat) (m : Nat → Int) (w : World) (h : Byt w v n m) (hbig : n ≤ 1000000) :
   Calls Try.prog 21 #[v] w fun e w' => e = .returned (.string ⟨(nameS n m).toArray⟩) ∧ Fr None' w w' := by
  have hs := sum_any v n m w h hbig
  obtain ⟨va, cap, rfl, hcap, hc⟩ := h
  go_enter Try.func21, Try.ntmps21
  go_wp2_with fail
  refine hs.mono ?_
  rintro e w1 ⟨rfl, f1⟩
  clear hs hc
  go_wp2_with (first
    | (refine store_arr2 info32 _ _ rfl rfl rfl w1.heap.size rfl rfl (fun _ _ => rfl) (f0 := n8 fun _ => 0) (rowIs_of (heap_alloc_new w1 _)) ?_
       intro w3 r3 f3))
  have r4 : (w3.alloc (.cells (arr 64 (n8 fun _ => 0)) 70)).rowIs w3.heap.size 70 64 (n8 fun _ => 0) := rowIs_of (heap_alloc_new w3 _)
  have f4 : Fr None' w3 (w3.alloc (.cells (arr 64 (n8 fun _ => 0)) 70)) := Fr.alloc _ _ _
  generalize hw4 : w3.alloc _ = w4
  replace r4 : w4.rowIs w3.heap.size 70 64 (n8 fun _ => 0) := by rw [← hw4]; exact r4
  replace f4 : Fr None' w3 w4 := by rw [← hw4]; exact f4
  have s4 := f4.rowIs r3 id
  have f04 : Fr None' w w4 := ((f1.then (Fr.alloc _ _ _)).trans f3 (fun i e => Or.inr (by have := f1.size; omega))).then f4
  have l3 := r3.lt
  have l1 := f1.size
  have l2 : w.heap.size ≤ w3.heap.size := by omega
  clear hw4 f3 f1 r3 f4
  go_loopw [8] (fun i wr => ∃ j : Nat, j ≤ 32 ∧ i = .int .i64 j ∧ wr.rowIs w3.heap.size 70 64 (fun i => if i < 2 * j then .int .u8 (nameB n m i) else .int .u8 0) ∧ wr.rowIs w1.heap.size 60 32 (n8 (sumB n m)) ∧ Fr None' w wr) (fun i _ => 32 - (intOf i).toNat)
  case atStart => exact ⟨0, by omega, rfl, r4.congr (fun i _ => by simp [n8]), s4, f04⟩
  case round =>
    clear r4 s4 f04
    obtain ⟨j, hj, rfl, q1, q2, fr⟩ := hrel
    by_cases hlt : j < 32
    · have i0 : (j : Int) < 32 := by omega
      obtain ⟨s, hs⟩ : ∃ s, sumB n m j = s := ⟨_, rfl⟩
      have hb := sumB_range n m j
      rw [hs] at hb
      have cs : wr.cell? ⟨w1.heap.size, j, none⟩ = some (.int .u8 s) := by rw [← hs]; exact q2.cell hlt
      have a15 : bits .and .u8 s 15 = s % 16 := u8_and15 s hb.1 (by omega)
      have h1 := hexIdx (s / 16) (by omega) (by omega)
      have h2 := hexIdx (s % 16) (by omega) (by omega)
      have x1 := q1.cell (i := 2 * j) (by omega)
      have x2 := q1.cell (i := 2 * j + 1) (by omega)
      have z1 := q1.frozen (2 * j)
      have z2 := q1.frozen (2 * j + 1)
      have b1 : 2 * (j : Int) < 64 := by omega
      have b2 : 2 * (j : Int) + 1 < 64 := by omega
      have d1 : 0 ≤ 2 * (j : Int) := by omega
      have d2 : 0 ≤ 2 * (j : Int) + 1 := by omega
      have v1 : IntKind.i64.wrap (2 * (j : Int)) = 2 * j := by rw [IntKind.wrap_i64]; omega
      have v2 : IntKind.i64.wrap (2 * (j : Int) + 1) = 2 * j + 1 := by rw [IntKind.wrap_i64]; omega
      have t1 : (2 * (j : Int)).toNat = 2 * j := by omega
      have t2 : (2 * (j : Int) + 1).toNat = 2 * j + 1 := by omega
      have HS : Hid (sumB n m j = s) := hs
      clear hs hb
      go_wp2_with fail
      go_region
      have q2' := World.rowIs.drew q2
      have q1' := World.rowIs.drew q1
      have fr' := fr.then (Fr.drewN None' _ 1)
      clear q1 q2 fr h1 h2 cs
      go_wp2
      go_roundw
      case rel =>
        refine ⟨j + 1, by omega, by go_num, ((q1'.set (2 * j) _).set (2 * j + 1) _).congr (fun i _ => by rw [← HS.out]; exact name_step n m j i), (q2'.setOther (by simp; omega) _).setOther (by simp; omega) _, (fr'.trans (Fr.setCell (M := fun i => i = w3.heap.size) _ rfl _) (fun i e => Or.inr (by omega))).trans (Fr.setCell (M := fun i => i = w3.heap.size) _ rfl _) (fun i e => Or.inr (by omega))⟩
      case measure => simp [intOf]; omega
    · have i0 : (32 : Int) ≤ (j : Int) := by omega
      have q1' : wr.rowIs w3.heap.size 70 64 (n8 (nameB n m)) := q1.congr (fun i hi => by rw [if_pos (by omega)]; rfl)
      clear q1 q2 hlt hj
      have hcv := run_convert_bytes_back (P := Try.prog) wr 22 9 5 ⟨w3.heap.size, 0, none⟩ 64 (nameS n m) Try.underlying22 Try.underlying5 Try.underlying9 (fun i hi => by
        rw [nameS_at]
        have hadd : (⟨w3.heap.size, 0, none⟩ : Addr).add i = ⟨w3.heap.size, i, none⟩ := by unfold Addr.add; split <;> simp_all
        rw [hadd]
        exact q1'.cell (by rw [nameS_length] at hi; exact hi))
      rw [nameS_length] at hcv
      go_wp2
      go_ret
      exact ⟨rfl, fr⟩
end Go.Proofs.Ytklefjmihapdpaa.Sha
