/-
  What is proved here: NamedLabels answers true. Condition: the table of powers of ten lies in memory.
-/
import Derived.Test.YtjjkclckgoohnaaGreatDoorM26Head13
import Derived.Laws.Cover1
namespace Go.Proofs.YtjjkclckgoohnaaGreatDoor
open Go.RowKit
set_option maxRecDepth 100000

theorem label_more (s : B13) (c : UInt8) (h : labelB s = true) : labelB (s ++ [c]) = (letB c && decide (s.length < 24)) ∧ 1 ≤ s.length ∧ s.length ≤ 24 := by
  unfold labelB at h
  simp only [Bool.and_eq_true, decide_eq_true_eq] at h
  refine ⟨?_, h.1.1, h.1.2⟩
  unfold labelB
  rw [List.length_append, List.all_append, h.2]
  simp only [List.length_singleton, List.all_cons, List.all_nil, Bool.and_true, Bool.true_and]
  rw [decide_eq_true (by omega : 0 < s.length + 1), Bool.true_and, Bool.and_comm]
  congr 1

theorem letB_nat (c : UInt8) : letB c = (decide (c.toNat = 46) || decide (c.toNat = 45) || (decide (97 ≤ c.toNat) && decide (c.toNat ≤ 122)) || (decide (48 ≤ c.toNat) && decide (c.toNat ≤ 57))) := by
  unfold letB
  have e : ∀ k : UInt8, (c == k) = decide (c.toNat = k.toNat) := fun k => by
    rw [Bool.eq_iff_iff]; simp [UInt8.toNat_inj]
  rw [e, e]
  rfl

set_option maxHeartbeats 16000000 in
theorem labels_walk (s : ByteArray) (C : Nat) (W : World) (hT : Lib.TabIs Tryz.prog W pow10 .u64 Lib.pow10Tab) (hC : C < 256) :
    Calls Tryz.prog 7 #[.string s, .int .u8 C] W fun e w' => e = .returned (.bool true) ∧ Fr None' W w' := by
  have q1 := head13_any W hT
  have HL := toHid8 (fun w' (h : s.size ≤ 1000) => label_any s w' (by omega))
  obtain ⟨c, hc⟩ : ∃ c : UInt8, c.toNat = C := ⟨UInt8.ofNat C, by rw [UInt8.toNat_ofNat']; omega⟩
  have HX := toHid8 (fun (h : labelB (unB s) = true) => label_more (unB s) c h)
  have HB := toHid8 (letB_nat c)
  rw [hc] at HB
  have HC := toHid8 hc
  by_cases hbig : s.size ≤ 1000
  case neg =>
    have i1 : (1000 : Int) < (s.size : Int) := by omega
    clear hT hbig hc
    go_enter Tryz.func7, Tryz.ntmps7
    go_wp2_with fail
    with_reducible refine q1.mono ?_
    rintro e w1 ⟨rfl, f1⟩
    have HF := toHid8 f1
    clear q1 f1
    go_wp2_with fail
    go_ret
    exact ⟨rfl, HF.out⟩
  case pos =>
    have i1 : ¬ (1000 : Int) < (s.size : Int) := by omega
    have HL2 := toHid8 (fun w' => HL.out w' hbig)
    have HSz := toHid8 hbig
    obtain ⟨R, hR⟩ : ∃ R, labelB (unB s) = R := ⟨_, rfl⟩
    rw [hR] at HL2 HX
    clear hT hc hR HL
    cases R with
    | false =>
      clear HX hbig
      go_enter Tryz.func7, Tryz.ntmps7
      go_wp2_with fail
      with_reducible refine q1.mono ?_
      rintro e w1 ⟨rfl, f1⟩
      have HF := toHid8 f1
      have q2 := HL2.out w1
      clear q1 f1
      go_wp2_with fail
      with_reducible refine q2.mono ?_
      rintro e w2 ⟨rfl, f2⟩
      have HF2 := toHid8 (HF.out.then7 f2)
      clear q2 f2
      go_wp2_with fail
      go_ret
      exact ⟨rfl, HF2.out⟩
    | true =>
      obtain ⟨hx, h1, h24⟩ := HX.out rfl
      rw [un_len] at h1 h24 hx
      have i2 : (1 : Int) ≤ (s.size : Int) := by omega
      have i3 : (s.size : Int) ≤ 24 := by omega
      obtain ⟨T, hTx⟩ : ∃ T, s ++ (⟨#[c]⟩ : ByteArray) = T := ⟨_, rfl⟩
      have eT : unB T = unB s ++ [c] := by rw [← hTx]; simp [unB, ByteArray.data_append]
      have sT : T.size ≤ 1000 := by rw [← hTx, ByteArray.size_append]; show _ + 1 ≤ _; omega
      have ha : ∀ v, (Op.stringOp .add s ⟨#[c]⟩).run Tryz.prog v = .ok (.string T) v := fun v => by rw [run_string_add_sum _ _ _ (by show _ + 1 ≤ _; omega), hTx]
      have HLT := toHid8 (fun w' => label_any T w' (by omega))
      rw [eT, hx] at HLT
      have hcv : ∀ w : World, (convert 26 9 (.slice (some ⟨w.heap.size, 0, none⟩) 1 1)).run Tryz.prog (w.alloc (.cells #[.int .u8 C] 5)) = .ok (.string ⟨#[c]⟩) (w.alloc (.cells #[.int .u8 C] 5)) := fun w => by
        refine conv_13 (w.alloc (.cells #[.int .u8 C] 5)) (some ⟨w.heap.size, 0, none⟩) 1 [c] (fun j x hj => ⟨_, _, rfl, ?_⟩) (fun e => by cases e)
        have h0 : j = 0 := by have := (List.getElem?_eq_some_iff.1 hj).1; simpa using this
        subst h0
        have hy : x = c := by simpa using hj.symm
        rw [hy, HC.out, World.cell?, heap_alloc_new]
        rfl
      obtain ⟨Z, hZ⟩ : ∃ Z : Int, (C : Int) = Z := ⟨_, rfl⟩
      rw [hZ] at hcv ⊢
      have j0 : (0 : Int) ≤ Z := by omega
      obtain ⟨F, hF⟩ : ∃ F, letB c = F := ⟨_, rfl⟩
      rw [hF] at HLT HB
      clear hx hF hTx eT sT hbig
      by_cases h46 : C = 46
      · obtain rfl : Z = 46 := by omega
        obtain rfl : F = true := by rw [HB.out]; simp; omega
        clear HB h1 h24 HX
        by_cases hlt : s.size < 24
        · have i4 : (s.size : Int) < 24 := by omega
          rw [decide_eq_true hlt] at HLT
          clear hlt
          go_enter Tryz.func7, Tryz.ntmps7
          go_wp2_with fail
          with_reducible refine q1.mono ?_
          rintro e w1 ⟨rfl, f1⟩
          have HF := toHid8 f1
          have q2 := HL2.out w1
          clear q1 f1
          go_wp2_with fail
          with_reducible refine q2.mono ?_
          rintro e w2 ⟨rfl, f2⟩
          obtain ⟨w3, hw3⟩ : ∃ x, w2.alloc (.cells #[.int .u8 46] 5) = x := ⟨_, rfl⟩
          have HF2 := toHid8 (HF.out.then7 (f2.then7 (hw3 ▸ Fr.alloc None' w2 _)))
          have q3 := HLT.out w3
          have cv := hcv w2
          rw [hw3] at cv
          clear q2 f2
          go_wp2_with fail
          with_reducible refine q3.mono ?_
          rintro e w4 ⟨rfl, f4⟩
          have HF4 := toHid8 (HF2.out.then7 f4)
          clear q3 f4
          go_wp2_with fail
          go_ret
          exact ⟨by first | rfl | exact ret_bool7 (by simp; omega), HF4.out⟩
        · have i4 : ¬ (s.size : Int) < 24 := by omega
          rw [decide_eq_false hlt] at HLT
          clear hlt
          go_enter Tryz.func7, Tryz.ntmps7
          go_wp2_with fail
          with_reducible refine q1.mono ?_
          rintro e w1 ⟨rfl, f1⟩
          have HF := toHid8 f1
          have q2 := HL2.out w1
          clear q1 f1
          go_wp2_with fail
          with_reducible refine q2.mono ?_
          rintro e w2 ⟨rfl, f2⟩
          obtain ⟨w3, hw3⟩ : ∃ x, w2.alloc (.cells #[.int .u8 46] 5) = x := ⟨_, rfl⟩
          have HF2 := toHid8 (HF.out.then7 (f2.then7 (hw3 ▸ Fr.alloc None' w2 _)))
          have q3 := HLT.out w3
          have cv := hcv w2
          rw [hw3] at cv
          clear q2 f2
          go_wp2_with fail
          with_reducible refine q3.mono ?_
          rintro e w4 ⟨rfl, f4⟩
          have HF4 := toHid8 (HF2.out.then7 f4)
          clear q3 f4
          go_wp2_with fail
          go_ret
          exact ⟨by first | rfl | exact ret_bool7 (by simp; omega), HF4.out⟩
      by_cases h45 : C = 45
      · obtain rfl : Z = 45 := by omega
        obtain rfl : F = true := by rw [HB.out]; simp; omega
        clear HB h1 h24 HX
        by_cases hlt : s.size < 24
        · have i4 : (s.size : Int) < 24 := by omega
          rw [decide_eq_true hlt] at HLT
          clear hlt
          go_enter Tryz.func7, Tryz.ntmps7
          go_wp2_with fail
          with_reducible refine q1.mono ?_
          rintro e w1 ⟨rfl, f1⟩
          have HF := toHid8 f1
          have q2 := HL2.out w1
          clear q1 f1
          go_wp2_with fail
          with_reducible refine q2.mono ?_
          rintro e w2 ⟨rfl, f2⟩
          obtain ⟨w3, hw3⟩ : ∃ x, w2.alloc (.cells #[.int .u8 45] 5) = x := ⟨_, rfl⟩
          have HF2 := toHid8 (HF.out.then7 (f2.then7 (hw3 ▸ Fr.alloc None' w2 _)))
          have q3 := HLT.out w3
          have cv := hcv w2
          rw [hw3] at cv
          clear q2 f2
          go_wp2_with fail
          with_reducible refine q3.mono ?_
          rintro e w4 ⟨rfl, f4⟩
          have HF4 := toHid8 (HF2.out.then7 f4)
          clear q3 f4
          go_wp2_with fail
          go_ret
          exact ⟨by first | rfl | exact ret_bool7 (by simp; omega), HF4.out⟩
        · have i4 : ¬ (s.size : Int) < 24 := by omega
          rw [decide_eq_false hlt] at HLT
          clear hlt
          go_enter Tryz.func7, Tryz.ntmps7
          go_wp2_with fail
          with_reducible refine q1.mono ?_
          rintro e w1 ⟨rfl, f1⟩
          have HF := toHid8 f1
          have q2 := HL2.out w1
          clear q1 f1
          go_wp2_with fail
          with_reducible refine q2.mono ?_
          rintro e w2 ⟨rfl, f2⟩
          obtain ⟨w3, hw3⟩ : ∃ x, w2.alloc (.cells #[.int .u8 45] 5) = x := ⟨_, rfl⟩
          have HF2 := toHid8 (HF.out.then7 (f2.then7 (hw3 ▸ Fr.alloc None' w2 _)))
          have q3 := HLT.out w3
          have cv := hcv w2
          rw [hw3] at cv
          clear q2 f2
          go_wp2_with fail
          with_reducible refine q3.mono ?_
          rintro e w4 ⟨rfl, f4⟩
          have HF4 := toHid8 (HF2.out.then7 f4)
          clear q3 f4
          go_wp2_with fail
          go_ret
          exact ⟨by first | rfl | exact ret_bool7 (by simp; omega), HF4.out⟩
      have a1 : ¬ Z = 46 := by omega
      have b1 : (Z == 46) = false := by simpa using a1
      have a2 : ¬ Z = 45 := by omega
      have b2 : (Z == 45) = false := by simpa using a2
      by_cases h97 : 97 ≤ C
      · by_cases h122 : C ≤ 122
        · have a3 : (97 : Int) ≤ Z := by omega
          have a4 : Z ≤ 122 := by omega
          obtain rfl : F = true := by rw [HB.out]; simp; omega
          clear HB h1 h24 HX hZ HC hC
          by_cases hlt : s.size < 24
          · have i4 : (s.size : Int) < 24 := by omega
            rw [decide_eq_true hlt] at HLT
            clear hlt
            go_enter Tryz.func7, Tryz.ntmps7
            go_wp2_with fail
            with_reducible refine q1.mono ?_
            rintro e w1 ⟨rfl, f1⟩
            have HF := toHid8 f1
            have q2 := HL2.out w1
            clear q1 f1
            go_wp2_with fail
            with_reducible refine q2.mono ?_
            rintro e w2 ⟨rfl, f2⟩
            obtain ⟨w3, hw3⟩ : ∃ x, w2.alloc (.cells #[.int .u8 Z] 5) = x := ⟨_, rfl⟩
            have HF2 := toHid8 (HF.out.then7 (f2.then7 (hw3 ▸ Fr.alloc None' w2 _)))
            have q3 := HLT.out w3
            have cv := hcv w2
            rw [hw3] at cv
            clear q2 f2
            go_wp2_with fail
            with_reducible refine q3.mono ?_
            rintro e w4 ⟨rfl, f4⟩
            have HF4 := toHid8 (HF2.out.then7 f4)
            clear q3 f4
            go_wp2_with fail
            go_ret
            exact ⟨by first | rfl | exact ret_bool7 (by simp; omega), HF4.out⟩
          · have i4 : ¬ (s.size : Int) < 24 := by omega
            rw [decide_eq_false hlt] at HLT
            clear hlt
            go_enter Tryz.func7, Tryz.ntmps7
            go_wp2_with fail
            with_reducible refine q1.mono ?_
            rintro e w1 ⟨rfl, f1⟩
            have HF := toHid8 f1
            have q2 := HL2.out w1
            clear q1 f1
            go_wp2_with fail
            with_reducible refine q2.mono ?_
            rintro e w2 ⟨rfl, f2⟩
            obtain ⟨w3, hw3⟩ : ∃ x, w2.alloc (.cells #[.int .u8 Z] 5) = x := ⟨_, rfl⟩
            have HF2 := toHid8 (HF.out.then7 (f2.then7 (hw3 ▸ Fr.alloc None' w2 _)))
            have q3 := HLT.out w3
            have cv := hcv w2
            rw [hw3] at cv
            clear q2 f2
            go_wp2_with fail
            with_reducible refine q3.mono ?_
            rintro e w4 ⟨rfl, f4⟩
            have HF4 := toHid8 (HF2.out.then7 f4)
            clear q3 f4
            go_wp2_with fail
            go_ret
            exact ⟨by first | rfl | exact ret_bool7 (by simp; omega), HF4.out⟩
        · have a3 : (97 : Int) ≤ Z := by omega
          have a4 : ¬ Z ≤ 122 := by omega
          have a5 : (48 : Int) ≤ Z := by omega
          have a6 : ¬ Z ≤ 57 := by omega
          obtain rfl : F = false := by rw [HB.out]; simp; omega
          clear HB h1 h24 HX hZ HC hC
          by_cases hlt : s.size < 24
          · have i4 : (s.size : Int) < 24 := by omega
            rw [decide_eq_true hlt] at HLT
            clear hlt
            go_enter Tryz.func7, Tryz.ntmps7
            go_wp2_with fail
            with_reducible refine q1.mono ?_
            rintro e w1 ⟨rfl, f1⟩
            have HF := toHid8 f1
            have q2 := HL2.out w1
            clear q1 f1
            go_wp2_with fail
            with_reducible refine q2.mono ?_
            rintro e w2 ⟨rfl, f2⟩
            obtain ⟨w3, hw3⟩ : ∃ x, w2.alloc (.cells #[.int .u8 Z] 5) = x := ⟨_, rfl⟩
            have HF2 := toHid8 (HF.out.then7 (f2.then7 (hw3 ▸ Fr.alloc None' w2 _)))
            have q3 := HLT.out w3
            have cv := hcv w2
            rw [hw3] at cv
            clear q2 f2
            go_wp2_with fail
            with_reducible refine q3.mono ?_
            rintro e w4 ⟨rfl, f4⟩
            have HF4 := toHid8 (HF2.out.then7 f4)
            clear q3 f4
            go_wp2_with fail
            go_ret
            exact ⟨by first | rfl | exact ret_bool7 (by simp; omega), HF4.out⟩
          · have i4 : ¬ (s.size : Int) < 24 := by omega
            rw [decide_eq_false hlt] at HLT
            clear hlt
            go_enter Tryz.func7, Tryz.ntmps7
            go_wp2_with fail
            with_reducible refine q1.mono ?_
            rintro e w1 ⟨rfl, f1⟩
            have HF := toHid8 f1
            have q2 := HL2.out w1
            clear q1 f1
            go_wp2_with fail
            with_reducible refine q2.mono ?_
            rintro e w2 ⟨rfl, f2⟩
            obtain ⟨w3, hw3⟩ : ∃ x, w2.alloc (.cells #[.int .u8 Z] 5) = x := ⟨_, rfl⟩
            have HF2 := toHid8 (HF.out.then7 (f2.then7 (hw3 ▸ Fr.alloc None' w2 _)))
            have q3 := HLT.out w3
            have cv := hcv w2
            rw [hw3] at cv
            clear q2 f2
            go_wp2_with fail
            with_reducible refine q3.mono ?_
            rintro e w4 ⟨rfl, f4⟩
            have HF4 := toHid8 (HF2.out.then7 f4)
            clear q3 f4
            go_wp2_with fail
            go_ret
            exact ⟨by first | rfl | exact ret_bool7 (by simp; omega), HF4.out⟩
      · by_cases h48 : 48 ≤ C
        · by_cases h57 : C ≤ 57
          · have a3 : ¬ (97 : Int) ≤ Z := by omega
            have a5 : (48 : Int) ≤ Z := by omega
            have a6 : Z ≤ 57 := by omega
            obtain rfl : F = true := by rw [HB.out]; simp; omega
            clear HB h1 h24 HX hZ HC hC
            by_cases hlt : s.size < 24
            · have i4 : (s.size : Int) < 24 := by omega
              rw [decide_eq_true hlt] at HLT
              clear hlt
              go_enter Tryz.func7, Tryz.ntmps7
              go_wp2_with fail
              with_reducible refine q1.mono ?_
              rintro e w1 ⟨rfl, f1⟩
              have HF := toHid8 f1
              have q2 := HL2.out w1
              clear q1 f1
              go_wp2_with fail
              with_reducible refine q2.mono ?_
              rintro e w2 ⟨rfl, f2⟩
              obtain ⟨w3, hw3⟩ : ∃ x, w2.alloc (.cells #[.int .u8 Z] 5) = x := ⟨_, rfl⟩
              have HF2 := toHid8 (HF.out.then7 (f2.then7 (hw3 ▸ Fr.alloc None' w2 _)))
              have q3 := HLT.out w3
              have cv := hcv w2
              rw [hw3] at cv
              clear q2 f2
              go_wp2_with fail
              with_reducible refine q3.mono ?_
              rintro e w4 ⟨rfl, f4⟩
              have HF4 := toHid8 (HF2.out.then7 f4)
              clear q3 f4
              go_wp2_with fail
              go_ret
              exact ⟨by first | rfl | exact ret_bool7 (by simp; omega), HF4.out⟩
            · have i4 : ¬ (s.size : Int) < 24 := by omega
              rw [decide_eq_false hlt] at HLT
              clear hlt
              go_enter Tryz.func7, Tryz.ntmps7
              go_wp2_with fail
              with_reducible refine q1.mono ?_
              rintro e w1 ⟨rfl, f1⟩
              have HF := toHid8 f1
              have q2 := HL2.out w1
              clear q1 f1
              go_wp2_with fail
              with_reducible refine q2.mono ?_
              rintro e w2 ⟨rfl, f2⟩
              obtain ⟨w3, hw3⟩ : ∃ x, w2.alloc (.cells #[.int .u8 Z] 5) = x := ⟨_, rfl⟩
              have HF2 := toHid8 (HF.out.then7 (f2.then7 (hw3 ▸ Fr.alloc None' w2 _)))
              have q3 := HLT.out w3
              have cv := hcv w2
              rw [hw3] at cv
              clear q2 f2
              go_wp2_with fail
              with_reducible refine q3.mono ?_
              rintro e w4 ⟨rfl, f4⟩
              have HF4 := toHid8 (HF2.out.then7 f4)
              clear q3 f4
              go_wp2_with fail
              go_ret
              exact ⟨by first | rfl | exact ret_bool7 (by simp; omega), HF4.out⟩
          · have a3 : ¬ (97 : Int) ≤ Z := by omega
            have a5 : (48 : Int) ≤ Z := by omega
            have a6 : ¬ Z ≤ 57 := by omega
            obtain rfl : F = false := by rw [HB.out]; simp; omega
            clear HB h1 h24 HX hZ HC hC
            by_cases hlt : s.size < 24
            · have i4 : (s.size : Int) < 24 := by omega
              rw [decide_eq_true hlt] at HLT
              clear hlt
              go_enter Tryz.func7, Tryz.ntmps7
              go_wp2_with fail
              with_reducible refine q1.mono ?_
              rintro e w1 ⟨rfl, f1⟩
              have HF := toHid8 f1
              have q2 := HL2.out w1
              clear q1 f1
              go_wp2_with fail
              with_reducible refine q2.mono ?_
              rintro e w2 ⟨rfl, f2⟩
              obtain ⟨w3, hw3⟩ : ∃ x, w2.alloc (.cells #[.int .u8 Z] 5) = x := ⟨_, rfl⟩
              have HF2 := toHid8 (HF.out.then7 (f2.then7 (hw3 ▸ Fr.alloc None' w2 _)))
              have q3 := HLT.out w3
              have cv := hcv w2
              rw [hw3] at cv
              clear q2 f2
              go_wp2_with fail
              with_reducible refine q3.mono ?_
              rintro e w4 ⟨rfl, f4⟩
              have HF4 := toHid8 (HF2.out.then7 f4)
              clear q3 f4
              go_wp2_with fail
              go_ret
              exact ⟨by first | rfl | exact ret_bool7 (by simp; omega), HF4.out⟩
            · have i4 : ¬ (s.size : Int) < 24 := by omega
              rw [decide_eq_false hlt] at HLT
              clear hlt
              go_enter Tryz.func7, Tryz.ntmps7
              go_wp2_with fail
              with_reducible refine q1.mono ?_
              rintro e w1 ⟨rfl, f1⟩
              have HF := toHid8 f1
              have q2 := HL2.out w1
              clear q1 f1
              go_wp2_with fail
              with_reducible refine q2.mono ?_
              rintro e w2 ⟨rfl, f2⟩
              obtain ⟨w3, hw3⟩ : ∃ x, w2.alloc (.cells #[.int .u8 Z] 5) = x := ⟨_, rfl⟩
              have HF2 := toHid8 (HF.out.then7 (f2.then7 (hw3 ▸ Fr.alloc None' w2 _)))
              have q3 := HLT.out w3
              have cv := hcv w2
              rw [hw3] at cv
              clear q2 f2
              go_wp2_with fail
              with_reducible refine q3.mono ?_
              rintro e w4 ⟨rfl, f4⟩
              have HF4 := toHid8 (HF2.out.then7 f4)
              clear q3 f4
              go_wp2_with fail
              go_ret
              exact ⟨by first | rfl | exact ret_bool7 (by simp; omega), HF4.out⟩
        · have a3 : ¬ (97 : Int) ≤ Z := by omega
          have a5 : ¬ (48 : Int) ≤ Z := by omega
          obtain rfl : F = false := by rw [HB.out]; simp; omega
          clear HB h1 h24 HX hZ HC hC
          by_cases hlt : s.size < 24
          · have i4 : (s.size : Int) < 24 := by omega
            rw [decide_eq_true hlt] at HLT
            clear hlt
            go_enter Tryz.func7, Tryz.ntmps7
            go_wp2_with fail
            with_reducible refine q1.mono ?_
            rintro e w1 ⟨rfl, f1⟩
            have HF := toHid8 f1
            have q2 := HL2.out w1
            clear q1 f1
            go_wp2_with fail
            with_reducible refine q2.mono ?_
            rintro e w2 ⟨rfl, f2⟩
            obtain ⟨w3, hw3⟩ : ∃ x, w2.alloc (.cells #[.int .u8 Z] 5) = x := ⟨_, rfl⟩
            have HF2 := toHid8 (HF.out.then7 (f2.then7 (hw3 ▸ Fr.alloc None' w2 _)))
            have q3 := HLT.out w3
            have cv := hcv w2
            rw [hw3] at cv
            clear q2 f2
            go_wp2_with fail
            with_reducible refine q3.mono ?_
            rintro e w4 ⟨rfl, f4⟩
            have HF4 := toHid8 (HF2.out.then7 f4)
            clear q3 f4
            go_wp2_with fail
            go_ret
            exact ⟨by first | rfl | exact ret_bool7 (by simp; omega), HF4.out⟩
          · have i4 : ¬ (s.size : Int) < 24 := by omega
            rw [decide_eq_false hlt] at HLT
            clear hlt
            go_enter Tryz.func7, Tryz.ntmps7
            go_wp2_with fail
            with_reducible refine q1.mono ?_
            rintro e w1 ⟨rfl, f1⟩
            have HF := toHid8 f1
            have q2 := HL2.out w1
            clear q1 f1
            go_wp2_with fail
            with_reducible refine q2.mono ?_
            rintro e w2 ⟨rfl, f2⟩
            obtain ⟨w3, hw3⟩ : ∃ x, w2.alloc (.cells #[.int .u8 Z] 5) = x := ⟨_, rfl⟩
            have HF2 := toHid8 (HF.out.then7 (f2.then7 (hw3 ▸ Fr.alloc None' w2 _)))
            have q3 := HLT.out w3
            have cv := hcv w2
            rw [hw3] at cv
            clear q2 f2
            go_wp2_with fail
            with_reducible refine q3.mono ?_
            rintro e w4 ⟨rfl, f4⟩
            have HF4 := toHid8 (HF2.out.then7 f4)
            clear q3 f4
            go_wp2_with fail
            go_ret
            exact ⟨by first | rfl | exact ret_bool7 (by simp; omega), HF4.out⟩

end Go.Proofs.YtjjkclckgoohnaaGreatDoor
