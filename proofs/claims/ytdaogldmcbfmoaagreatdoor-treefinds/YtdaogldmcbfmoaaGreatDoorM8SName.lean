/-
  What is proved here: the contracts that the statement stands on: SName, SNamed. Conditions: as each theorem names them.
-/
import Derived.Test.YtdaogldmcbfmoaaGreatDoorMSSum
import Derived.BigRegion
import Derived.Laws.IdiomStrings
namespace Go.Proofs.YtdaogldmcbfmoaaGreatDoor.Sha
open Go.RowKit
set_option maxRecDepth 100000

def hexc (x : Int) : Int := if x < 10 then 48 + x else 87 + x

/-- The name's bytes. -/
def nameB (n : Nat) (m : Nat → Int) (i : Nat) : Int := hexc (if i % 2 = 0 then sumB n m (i / 2) / 16 else sumB n m (i / 2) % 16)

def okc (c : UInt8) : Bool := (48 ≤ c.toNat && c.toNat ≤ 57) || (97 ≤ c.toNat && c.toNat ≤ 102)

theorem isDigit_any (c : Int) (w : World) : Calls Tryz.prog 208 #[.int .u8 c] w fun e w' => e = .returned (.bool (decide ((48 ≤ c ∧ c ≤ 57) ∨ (97 ≤ c ∧ c ≤ 102)))) ∧ w = w' := by
  go_enter Tryz.func208, Tryz.ntmps208
  go_wp2
  all_goals
    go_ret
    refine ⟨?_, rfl⟩
    simp <;> first | omega | (rw [Bool.eq_iff_iff]; simp; omega)

theorem hexIdx0 (w : World) : (Instr.index 9 (.string ⟨#[48, 49, 50, 51, 52, 53, 54, 55, 56, 57, 97, 98, 99, 100, 101, 102]⟩) (.int .u8 0)).run Tryz.prog w = .ok (.int .u8 (hexc 0)) w := by kernel_rfl
theorem hexIdx1 (w : World) : (Instr.index 9 (.string ⟨#[48, 49, 50, 51, 52, 53, 54, 55, 56, 57, 97, 98, 99, 100, 101, 102]⟩) (.int .u8 1)).run Tryz.prog w = .ok (.int .u8 (hexc 1)) w := by kernel_rfl
theorem hexIdx2 (w : World) : (Instr.index 9 (.string ⟨#[48, 49, 50, 51, 52, 53, 54, 55, 56, 57, 97, 98, 99, 100, 101, 102]⟩) (.int .u8 2)).run Tryz.prog w = .ok (.int .u8 (hexc 2)) w := by kernel_rfl
theorem hexIdx3 (w : World) : (Instr.index 9 (.string ⟨#[48, 49, 50, 51, 52, 53, 54, 55, 56, 57, 97, 98, 99, 100, 101, 102]⟩) (.int .u8 3)).run Tryz.prog w = .ok (.int .u8 (hexc 3)) w := by kernel_rfl
theorem hexIdx4 (w : World) : (Instr.index 9 (.string ⟨#[48, 49, 50, 51, 52, 53, 54, 55, 56, 57, 97, 98, 99, 100, 101, 102]⟩) (.int .u8 4)).run Tryz.prog w = .ok (.int .u8 (hexc 4)) w := by kernel_rfl
theorem hexIdx5 (w : World) : (Instr.index 9 (.string ⟨#[48, 49, 50, 51, 52, 53, 54, 55, 56, 57, 97, 98, 99, 100, 101, 102]⟩) (.int .u8 5)).run Tryz.prog w = .ok (.int .u8 (hexc 5)) w := by kernel_rfl
theorem hexIdx6 (w : World) : (Instr.index 9 (.string ⟨#[48, 49, 50, 51, 52, 53, 54, 55, 56, 57, 97, 98, 99, 100, 101, 102]⟩) (.int .u8 6)).run Tryz.prog w = .ok (.int .u8 (hexc 6)) w := by kernel_rfl
theorem hexIdx7 (w : World) : (Instr.index 9 (.string ⟨#[48, 49, 50, 51, 52, 53, 54, 55, 56, 57, 97, 98, 99, 100, 101, 102]⟩) (.int .u8 7)).run Tryz.prog w = .ok (.int .u8 (hexc 7)) w := by kernel_rfl
theorem hexIdx8 (w : World) : (Instr.index 9 (.string ⟨#[48, 49, 50, 51, 52, 53, 54, 55, 56, 57, 97, 98, 99, 100, 101, 102]⟩) (.int .u8 8)).run Tryz.prog w = .ok (.int .u8 (hexc 8)) w := by kernel_rfl
theorem hexIdx9 (w : World) : (Instr.index 9 (.string ⟨#[48, 49, 50, 51, 52, 53, 54, 55, 56, 57, 97, 98, 99, 100, 101, 102]⟩) (.int .u8 9)).run Tryz.prog w = .ok (.int .u8 (hexc 9)) w := by kernel_rfl
theorem hexIdx10 (w : World) : (Instr.index 9 (.string ⟨#[48, 49, 50, 51, 52, 53, 54, 55, 56, 57, 97, 98, 99, 100, 101, 102]⟩) (.int .u8 10)).run Tryz.prog w = .ok (.int .u8 (hexc 10)) w := by kernel_rfl
theorem hexIdx11 (w : World) : (Instr.index 9 (.string ⟨#[48, 49, 50, 51, 52, 53, 54, 55, 56, 57, 97, 98, 99, 100, 101, 102]⟩) (.int .u8 11)).run Tryz.prog w = .ok (.int .u8 (hexc 11)) w := by kernel_rfl
theorem hexIdx12 (w : World) : (Instr.index 9 (.string ⟨#[48, 49, 50, 51, 52, 53, 54, 55, 56, 57, 97, 98, 99, 100, 101, 102]⟩) (.int .u8 12)).run Tryz.prog w = .ok (.int .u8 (hexc 12)) w := by kernel_rfl
theorem hexIdx13 (w : World) : (Instr.index 9 (.string ⟨#[48, 49, 50, 51, 52, 53, 54, 55, 56, 57, 97, 98, 99, 100, 101, 102]⟩) (.int .u8 13)).run Tryz.prog w = .ok (.int .u8 (hexc 13)) w := by kernel_rfl
theorem hexIdx14 (w : World) : (Instr.index 9 (.string ⟨#[48, 49, 50, 51, 52, 53, 54, 55, 56, 57, 97, 98, 99, 100, 101, 102]⟩) (.int .u8 14)).run Tryz.prog w = .ok (.int .u8 (hexc 14)) w := by kernel_rfl
theorem hexIdx15 (w : World) : (Instr.index 9 (.string ⟨#[48, 49, 50, 51, 52, 53, 54, 55, 56, 57, 97, 98, 99, 100, 101, 102]⟩) (.int .u8 15)).run Tryz.prog w = .ok (.int .u8 (hexc 15)) w := by kernel_rfl

theorem hexIdx (y : Int) (h0 : 0 ≤ y) (h1 : y < 16) (w : World) : (Instr.index 9 (.string ⟨#[48, 49, 50, 51, 52, 53, 54, 55, 56, 57, 97, 98, 99, 100, 101, 102]⟩) (.int .u8 y)).run Tryz.prog w = .ok (.int .u8 (hexc y)) w := by
  have : y = 0 ∨ y = 1 ∨ y = 2 ∨ y = 3 ∨ y = 4 ∨ y = 5 ∨ y = 6 ∨ y = 7 ∨ y = 8 ∨ y = 9 ∨ y = 10 ∨ y = 11 ∨ y = 12 ∨ y = 13 ∨ y = 14 ∨ y = 15 := by omega
  rcases this with h | h | h | h | h | h | h | h | h | h | h | h | h | h | h | h
  · rw [h]; exact hexIdx0 w
  · rw [h]; exact hexIdx1 w
  · rw [h]; exact hexIdx2 w
  · rw [h]; exact hexIdx3 w
  · rw [h]; exact hexIdx4 w
  · rw [h]; exact hexIdx5 w
  · rw [h]; exact hexIdx6 w
  · rw [h]; exact hexIdx7 w
  · rw [h]; exact hexIdx8 w
  · rw [h]; exact hexIdx9 w
  · rw [h]; exact hexIdx10 w
  · rw [h]; exact hexIdx11 w
  · rw [h]; exact hexIdx12 w
  · rw [h]; exact hexIdx13 w
  · rw [h]; exact hexIdx14 w
  · rw [h]; exact hexIdx15 w

theorem sumB_range (n : Nat) (m : Nat → Int) (i : Nat) : 0 ≤ sumB n m i ∧ sumB n m i ≤ 255 := by
  unfold sumB bt
  split <;> omega

theorem name_step (n : Nat) (m : Nat → Int) (j i : Nat) : (if i = 2 * j + 1 then Value.int .u8 (hexc (sumB n m j % 16)) else if i = 2 * j then Value.int .u8 (hexc (sumB n m j / 16)) else if i < 2 * j then Value.int .u8 (nameB n m i) else .int .u8 0) = if i < 2 * (j + 1) then Value.int .u8 (nameB n m i) else .int .u8 0 := by
  by_cases h1 : i = 2 * j + 1
  · rw [if_pos h1, if_pos (by omega)]
    unfold nameB
    rw [if_neg (by omega), show i / 2 = j by omega]
  · rw [if_neg h1]
    by_cases h2 : i = 2 * j
    · rw [if_pos h2, if_pos (by omega)]
      unfold nameB
      rw [if_pos (by omega), show i / 2 = j by omega]
    · rw [if_neg h2]
      by_cases h3 : i < 2 * j
      · rw [if_pos h3, if_pos (by omega)]
      · rw [if_neg h3, if_neg (by omega)]

/-- The name's text. -/
def nameS (n : Nat) (m : Nat → Int) : List UInt8 := (List.range 64).map (fun i => UInt8.ofNat (nameB n m i).toNat)

theorem nameS_length (n : Nat) (m : Nat → Int) : (nameS n m).length = 64 := by simp [nameS]

theorem nameB_range (n : Nat) (m : Nat → Int) (i : Nat) : 0 ≤ nameB n m i ∧ nameB n m i ≤ 255 := by
  unfold nameB hexc
  have := sumB_range n m (i / 2)
  split <;> split <;> omega

theorem nameS_at (n : Nat) (m : Nat → Int) (i : Nat) (h : i < (nameS n m).length) : (((nameS n m)[i]).toNat : Int) = nameB n m i := by
  have := nameB_range n m i
  simp only [nameS, List.getElem_map, List.getElem_range]
  rw [UInt8.toNat_ofNat']
  omega

set_option maxHeartbeats 4000000 in
theorem name_any (v : Value) (n : Nat) (m : Nat → Int) (w : World) (h : Byt w v n m) (hbig : n ≤ 1000000) :
   Calls Tryz.prog 38 #[v] w fun e w' => e = .returned (.string ⟨(nameS n m).toArray⟩) ∧ Fr None' w w' := by
  have hs := sum_any v n m w h hbig
  obtain ⟨va, cap, rfl, hcap, hc⟩ := h
  go_enter Tryz.func38, Tryz.ntmps38
  go_wp2_with fail
  refine hs.mono ?_
  rintro e w1 ⟨rfl, f1⟩
  clear hs hc
  go_wp2_with (first
    | (refine store_arr2 info32 _ _ rfl rfl rfl w1.heap.size rfl rfl (fun _ _ => rfl) (f0 := n8 fun _ => 0) (rowIs_of (heap_alloc_new w1 _)) ?_
       intro w3 r3 f3))
  have r4 : (w3.alloc (.cells (arr 64 (n8 fun _ => 0)) 108)).rowIs w3.heap.size 108 64 (n8 fun _ => 0) := rowIs_of (heap_alloc_new w3 _)
  have f4 : Fr None' w3 (w3.alloc (.cells (arr 64 (n8 fun _ => 0)) 108)) := Fr.alloc _ _ _
  generalize hw4 : w3.alloc _ = w4
  replace r4 : w4.rowIs w3.heap.size 108 64 (n8 fun _ => 0) := by rw [← hw4]; exact r4
  replace f4 : Fr None' w3 w4 := by rw [← hw4]; exact f4
  have s4 := f4.rowIs r3 id
  have f04 : Fr None' w w4 := ((f1.then (Fr.alloc _ _ _)).trans f3 (fun i e => Or.inr (by have := f1.size; omega))).then f4
  have l3 := r3.lt
  have l1 := f1.size
  have l2 : w.heap.size ≤ w3.heap.size := by omega
  clear hw4 f3 f1 r3 f4
  go_loopw [8] (fun i wr => ∃ j : Nat, j ≤ 32 ∧ i = .int .i64 j ∧ wr.rowIs w3.heap.size 108 64 (fun i => if i < 2 * j then .int .u8 (nameB n m i) else .int .u8 0) ∧ wr.rowIs w1.heap.size 96 32 (n8 (sumB n m)) ∧ Fr None' w wr) (fun i _ => 32 - (intOf i).toNat)
  case atStart => exact ⟨0, by omega, rfl, r4.congr (fun i _ => by simp [n8]), s4, f04⟩
  case round =>
    clear r4 s4 f04
    obtain ⟨j, hj, rfl, q1, q2, fr⟩ := hrel
    by_cases hlt : j < 32
    · have i0 : (j : Int) < 32 := by omega
      obtain ⟨s, hs⟩ : ∃ s, sumB n m j = s := ⟨_, rfl⟩
      have hb := sumB_range n m j
      rw [hs] at hb
      have cs : wr.cell? ⟨w1.heap.size, j, none⟩ = some (.int .u8 s) := by rw [← hs]; exact q2.cell hlt
      have a15 : bits .and .u8 s 15 = s % 16 := u8_and15 s hb.1 (by omega)
      have h1 := hexIdx (s / 16) (by omega) (by omega)
      have h2 := hexIdx (s % 16) (by omega) (by omega)
      have x1 := q1.cell (i := 2 * j) (by omega)
      have x2 := q1.cell (i := 2 * j + 1) (by omega)
      have z1 := q1.frozen (2 * j)
      have z2 := q1.frozen (2 * j + 1)
      have b1 : 2 * (j : Int) < 64 := by omega
      have b2 : 2 * (j : Int) + 1 < 64 := by omega
      have d1 : 0 ≤ 2 * (j : Int) := by omega
      have d2 : 0 ≤ 2 * (j : Int) + 1 := by omega
      have v1 : IntKind.i64.wrap (2 * (j : Int)) = 2 * j := by rw [IntKind.wrap_i64]; omega
      have v2 : IntKind.i64.wrap (2 * (j : Int) + 1) = 2 * j + 1 := by rw [IntKind.wrap_i64]; omega
      have t1 : (2 * (j : Int)).toNat = 2 * j := by omega
      have t2 : (2 * (j : Int) + 1).toNat = 2 * j + 1 := by omega
      have HS : Hid (sumB n m j = s) := hs
      clear hs hb
      go_wp2_with fail
      go_region
      have q2' := World.rowIs.drew q2
      have q1' := World.rowIs.drew q1
      have fr' := fr.then (Fr.drewN None' _ 1)
      clear q1 q2 fr h1 h2 cs
      go_wp2
      go_roundw
      case rel =>
        refine ⟨j + 1, by omega, by go_num, ((q1'.set (2 * j) _).set (2 * j + 1) _).congr (fun i _ => by rw [← HS.out]; exact name_step n m j i), (q2'.setOther (by simp; omega) _).setOther (by simp; omega) _, (fr'.trans (Fr.setCell (M := fun i => i = w3.heap.size) _ rfl _) (fun i e => Or.inr (by omega))).trans (Fr.setCell (M := fun i => i = w3.heap.size) _ rfl _) (fun i e => Or.inr (by omega))⟩
      case measure => simp [intOf]; omega
    · have i0 : (32 : Int) ≤ (j : Int) := by omega
      have q1' : wr.rowIs w3.heap.size 108 64 (n8 (nameB n m)) := q1.congr (fun i hi => by rw [if_pos (by omega)]; rfl)
      clear q1 q2 hlt hj
      have hcv := run_convert_bytes_back (P := Tryz.prog) wr 57 9 5 ⟨w3.heap.size, 0, none⟩ 64 (nameS n m) Tryz.underlying57 Tryz.underlying5 Tryz.underlying9 (fun i hi => by
        rw [nameS_at]
        have hadd : (⟨w3.heap.size, 0, none⟩ : Addr).add i = ⟨w3.heap.size, i, none⟩ := by unfold Addr.add; split <;> simp_all
        rw [hadd]
        exact q1'.cell (by rw [nameS_length] at hi; exact hi))
      rw [nameS_length] at hcv
      go_wp2
      go_ret
      exact ⟨rfl, fr⟩
end Go.Proofs.YtdaogldmcbfmoaaGreatDoor.Sha

namespace Go.Proofs.YtdaogldmcbfmoaaGreatDoor.Sha
open Go.RowKit
set_option maxRecDepth 100000

/-- Is a byte a digit of a name? Are these bytes a name? -/
def okd (c : UInt8) : Bool := decide ((48 ≤ (c.toNat : Int) ∧ (c.toNat : Int) ≤ 57) ∨ (97 ≤ (c.toNat : Int) ∧ (c.toNat : Int) ≤ 102))
def namedB (l : List UInt8) : Bool := decide (l.length = 64) && l.all okd

theorem isDigit_is (c : UInt8) (w : World) : Calls Tryz.prog 208 #[.int .u8 c.toNat] w fun e w' => e = .returned (.bool (okd c)) ∧ w = w' := isDigit_any c.toNat w

theorem take_snoc (s : ByteArray) (k : Nat) (h : k < s.size) : s.data.toList.take (k + 1) = s.data.toList.take k ++ [s[k]] := by
  rw [List.take_succ_eq_append_getElem (by simpa using h)]; rfl

theorem all_step {s : ByteArray} {k : Nat} (h : k < s.size) (ha : (s.data.toList.take k).all okd = true) (hc : okd s[k] = true) : (s.data.toList.take (k + 1)).all okd = true := by
  rw [take_snoc s k h, List.all_append, ha]
  simp [hc]

theorem all_no {s : ByteArray} {k : Nat} (h : k < s.size) (hc : okd s[k] = false) : s.data.toList.all okd = false := by
  rw [List.all_eq_false]
  exact ⟨s[k], List.getElem_mem (l := s.data.toList) (n := k) (by rw [show s.data.toList.length = s.size from by cases s; rfl]; exact h), by simp [hc]⟩

set_option maxHeartbeats 1000000 in
theorem named_any (s : ByteArray) (w : World) (hs : s.size ≤ maxLen) : Calls Tryz.prog 189 #[.string s] w fun e w' => e = .returned (.bool (namedB s.data.toList)) ∧ w = w' := by
  have e : s.data.toList.length = s.size := by cases s; rfl
  unfold maxLen at hs
  by_cases h1 : s.size = 64
  · have hR : Hid (namedB s.data.toList = s.data.toList.all okd) := by
      unfold Hid namedB; rw [e, h1]; simp
    have hsz : (s.size : Int) = 64 := by omega
    have HZ : Hid (s.size = 64) := h1
    clear e h1
    go_enter Tryz.func189, Tryz.ntmps189
    go_wp2_with fail
    go_loop [9] (fun i => ∃ k : Nat, k ≤ s.size ∧ i = .int .i64 k ∧ (s.data.toList.take k).all okd = true) (fun i => s.size - (intOf i).toNat)
    case atStart => exact ⟨0, Nat.zero_le _, rfl, rfl⟩
    case round =>
      obtain ⟨k, hk, rfl, hall⟩ := hrel
      have HA : Hid ((s.data.toList.take k).all okd = true) := hall
      clear hall
      by_cases hlt : k < s.size
      · cases hc : okd s[k]
        · go_wp2_with (go_at_call 208; refine (isDigit_is _ _).mono ?_; rintro e w' ⟨rfl, rfl⟩)
          go_ret
          refine ⟨?_, rfl⟩
          rw [hR.out, all_no hlt hc]
          rfl
        · go_wp2_with (go_at_call 208; refine (isDigit_is _ _).mono ?_; rintro e w' ⟨rfl, rfl⟩)
          go_round
          case rel => exact ⟨k + 1, by omega, by go_num, all_step hlt HA.out hc⟩
          case measure => simp [intOf]; omega
      · go_wp2
        go_ret
        refine ⟨?_, rfl⟩
        have ht := HA.out
        rw [List.take_of_length_le (by rw [show s.data.toList.length = s.size from by cases s; rfl]; omega)] at ht
        rw [hR.out, ht]
        rfl
  · have hR : namedB s.data.toList = false := by
      unfold namedB; rw [e]; simp [h1]
    have hsz : ¬ (s.size : Int) = 64 := by omega
    rw [hR]
    clear e hR
    go_enter Tryz.func189, Tryz.ntmps189
    go_wp2
    go_ret
    exact ⟨rfl, rfl⟩
end Go.Proofs.YtdaogldmcbfmoaaGreatDoor.Sha
