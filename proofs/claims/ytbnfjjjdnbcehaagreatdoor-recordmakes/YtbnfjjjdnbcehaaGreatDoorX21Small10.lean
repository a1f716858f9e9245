/- What is proved here: contracts for RecordMakes. Conditions: as named. -/
import Derived.Test.YtbnfjjjdnbcehaaGreatDoorX17Plain10
import Derived.Test.YtbnfjjjdnbcehaaGreatDoorX9Plain8
import Derived.Test.YtbnfjjjdnbcehaaGreatDoorX18PRunes
import Derived.Test.YtbnfjjjdnbcehaaGreatDoorX8Strs9
set_option maxHeartbeats 16000000
namespace Go.Proofs.YtbnfjjjdnbcehaaGreatDoor
open Go.RowKit
set_option maxRecDepth 100000
theorem Zx {p : Prop} (h : p) : Hid p := h
theorem alike_any (x y : Pr) (vo vn uo un : Value) (w : World) (ho : Zy w vo x.old) (hn : Zy w vn x.new) (go : Zy w uo y.old) (gn : Zy w un y.new) (lo : x.old.length ≤ 900000) (ln : x.new.length ≤ 900000) :
  Calls Tryz.prog 83 #[.agg #[.int .i64 x.kind, .string x.path, .string x.dst, .string x.src, .int .i64 x.pos, vo, vn], .agg #[.int .i64 y.kind, .string y.path, .string y.dst, .string y.src, .int .i64 y.pos, uo, un]] w fun e w' => e = .returned (.bool (alikeP x y)) ∧ Fr None' w w' := by
 obtain ⟨K, P, T, F, A, lO, lN⟩ := x
 obtain ⟨K', P', T', F', A', mO, mN⟩ := y
 simp only at ho hn go gn lo ln ⊢
 obtain ⟨pa, ca, rfl, _, _, r1⟩ := ho
 obtain ⟨pb, cb, rfl, _, _, r2⟩ := hn
 obtain ⟨qa, da, rfl, _, _, r3⟩ := go
 obtain ⟨qb, db, rfl, _, _, r4⟩ := gn
 have cO : ∀ w', Fr None' w w' → Calls Tryz.prog 84 #[.slice pa lO.length ca, .slice qa mO.length da] w' fun e w'' => e = .returned (.bool (decide (lO = mO))) ∧ Fr None' w' w'' := fun w' f => equalS_any pa qa ca da lO mO w' (r1.fr (toLN f)) (r3.fr (toLN f)) (by omega)
 have cN : ∀ w', Fr None' w w' → Calls Tryz.prog 84 #[.slice pb lN.length cb, .slice qb mN.length db] w' fun e w'' => e = .returned (.bool (decide (lN = mN))) ∧ Fr None' w' w'' := fun w' f => equalS_any pb qb cb db lN mN w' (r2.fr (toLN f)) (r4.fr (toLN f)) (by omega)
 obtain ⟨no, hno⟩ : ∃ n, lO.length = n := ⟨_, rfl⟩
 obtain ⟨nn, hnn⟩ : ∃ n, lN.length = n := ⟨_, rfl⟩
 obtain ⟨mo, hmo⟩ : ∃ n, mO.length = n := ⟨_, rfl⟩
 obtain ⟨mn, hmn⟩ : ∃ n, mN.length = n := ⟨_, rfl⟩
 rw [hno, hmo] at cO
 rw [hnn, hmn] at cN
 rw [hno, hnn, hmo, hmn]
 have HE := Zx (show alikeP ⟨K, P, T, F, A, lO, lN⟩ ⟨K', P', T', F', A', mO, mN⟩ = (decide (K = K') && decide (P = P') && decide (T = T') && decide (F = F') && decide (A = A') && decide (lO = mO) && decide (lN = mN)) from rfl)
 rw [HE.out]
 obtain ⟨RO, hRO⟩ : ∃ R, decide (lO = mO) = R := ⟨_, rfl⟩
 obtain ⟨RN, hRN⟩ : ∃ R, decide (lN = mN) = R := ⟨_, rfl⟩
 rw [hRO, hRN]
 rw [hRO] at cO
 rw [hRN] at cN
 have HO := Zx cO
 have HNn := Zx cN
 obtain ⟨w1, hw1⟩ : ∃ w1, w.alloc (.cells #[.int .i64 K, .string P, .string T, .string F, .int .i64 A, .slice pa no ca, .slice pb nn cb] 43) = w1 := ⟨_, rfl⟩
 obtain ⟨w2, hw2⟩ : ∃ w2, w1.alloc (.cells #[.int .i64 K', .string P', .string T', .string F', .int .i64 A', .slice qa mo da, .slice qb mn db] 43) = w2 := ⟨_, rfl⟩
 have F1 : Fr None' w w1 := hw1 ▸ Fr.alloc None' w _
 have F2 : Fr None' w1 w2 := hw2 ▸ Fr.alloc None' w1 _
 have HF := Zx (F1.then7 F2)
 have B1 : Box w2 w.heap.size (.int .i64 K) (.string P) (.string T) (.string F) (.int .i64 A) (.slice pa no ca) (.slice pb nn cb) := (hw1 ▸ Box.new w _ _ _ _ _ _ _ : Box w1 _ _ _ _ _ _ _ _).kept F2
 have B2 : Box w2 w1.heap.size (.int .i64 K') (.string P') (.string T') (.string F') (.int .i64 A') (.slice qa mo da) (.slice qb mn db) := hw2 ▸ Box.new w1 _ _ _ _ _ _ _
 have HK := Zx (show ∀ w', Fr None' w2 w' → w'.cell? ⟨w.heap.size, 6, none⟩ = some (.slice pb nn cb) ∧ w'.cell? ⟨w1.heap.size, 6, none⟩ = some (.slice qb mn db) from fun w' f => ⟨(B1.kept f).cells.2.2.2.2.2.2, (B2.kept f).cells.2.2.2.2.2.2⟩)
 obtain ⟨a0, a1, a2, a3, a4, a5, a6⟩ := B1.cells
 obtain ⟨b0, b1, b2, b3, b4, b5, b6⟩ := B2.cells
 clear hno hnn hmo hmn F1 F2 B1 B2 r1 r2 r3 r4 lo ln cO cN hRO hRN HE
 by_cases hK : K = K'
 case neg =>
  rw [decide_eq_false hK]
  simp only [Bool.false_and]
  have z1 : (K == K') = false := beq_eq_false_iff_ne.2 hK
  clear hK
  go_enter Tryz.func83, Tryz.ntmps83
  go_wp2_with fail
  go_ret
  exact ⟨rfl, HF.out⟩
 case pos =>
 subst hK
 by_cases hP : P = P'
 case neg =>
  rw [decide_eq_false hP]
  simp only [Bool.and_false, Bool.false_and]
  obtain ⟨z1, z2⟩ := Lines.str_no hP
  clear hP
  go_enter Tryz.func83, Tryz.ntmps83
  go_wp2_with fail
  go_ret
  exact ⟨rfl, HF.out⟩
 case pos =>
 subst hP
 by_cases hT : T = T'
 case neg =>
  rw [decide_eq_false hT]
  simp only [Bool.and_false, Bool.false_and]
  obtain ⟨z1, z2⟩ := Lines.str_no hT
  clear hT
  go_enter Tryz.func83, Tryz.ntmps83
  go_wp2_with fail
  go_ret
  exact ⟨rfl, HF.out⟩
 case pos =>
 subst hT
 by_cases hF : F = F'
 case neg =>
  rw [decide_eq_false hF]
  simp only [Bool.and_false, Bool.false_and]
  obtain ⟨z1, z2⟩ := Lines.str_no hF
  clear hF
  go_enter Tryz.func83, Tryz.ntmps83
  go_wp2_with fail
  go_ret
  exact ⟨rfl, HF.out⟩
 case pos =>
 subst hF
 by_cases hA : A = A'
 case neg =>
  rw [decide_eq_false hA]
  simp only [Bool.and_false, Bool.false_and]
  have z1 : (A == A') = false := beq_eq_false_iff_ne.2 hA
  clear hA
  go_enter Tryz.func83, Tryz.ntmps83
  go_wp2_with fail
  go_ret
  exact ⟨rfl, HF.out⟩
 case pos =>
 subst hA
 simp only [decide_true, Bool.true_and]
 have q1 := HO.out w2 HF.out
 go_enter Tryz.func83, Tryz.ntmps83
 go_wp2_with fail
 with_reducible refine q1.mono ?_
 rintro e w3 ⟨rfl, F3⟩
 have q2 := HNn.out w3 (HF.out.then7 F3)
 obtain ⟨k6, j6⟩ := HK.out w3 F3
 have HF3 := Zx (HF.out.then7 F3)
 clear q1 F3 a0 a1 a2 a3 a4 a5 a6 b0 b1 b2 b3 b4 b5 b6
 cases RO with
 | false =>
  go_wp2_with fail
  go_ret
  exact ⟨rfl, HF3.out⟩
 | true =>
  go_wp2_with fail
  with_reducible refine q2.mono ?_
  rintro e w4 ⟨rfl, F4⟩
  have HX := Zx (HF3.out.then7 F4)
  clear q2 F4 k6 j6
  cases RN <;> (go_wp2_with fail; go_ret; exact ⟨rfl, HX.out⟩)
end Go.Proofs.YtbnfjjjdnbcehaaGreatDoor
