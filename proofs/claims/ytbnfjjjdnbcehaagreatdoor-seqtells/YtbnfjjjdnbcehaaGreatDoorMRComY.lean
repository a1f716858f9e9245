/- What is proved here: contracts that SeqTells stands on. Conditions: as each theorem names them. -/
import Derived.Test.YtbnfjjjdnbcehaaGreatDoorM28CommD10
import Derived.Deep.Cut
import Derived.Deep.CutRange
set_option maxHeartbeats 16000000
namespace Go.Proofs.YtbnfjjjdnbcehaaGreatDoor
open Go.RowKit
set_option maxRecDepth 100000
theorem rcomm_11 (x y : Pr) (pa pb qa qb : Option Addr) (no nn ca cb mo mn da db : Nat) (w : World) (kx : Ys x = 1 ∧ 7 ≤ x.kind ∧ x.kind ≤ 9) (ky : Ys y = 1 ∧ 7 ≤ y.kind ∧ y.kind ≤ 9) (HLL : Hid (¬ (x.kind = 7 ∧ y.kind = 7 ∧ x.path = y.path))) (hno : x.old.length = no) (hnn : x.new.length = nn) (hmo : y.old.length = mo) (hmn : y.new.length = mn) (sx : Zs x) (sy : Zs y) (fx : Zw x = true) (fy : Zw y = true)
  (HR1 : Hid (∀ w', Fr None' w w' → Calls Tryz.prog 61 #[.agg #[.int .i64 x.kind, .string x.path, .string x.dst, .string x.src, .int .i64 x.pos, .slice pa no ca, .slice pb nn cb]] w' (fun e w'' => e = .returned (.bool true) ∧ Fr None' w' w'')))
  (HR2 : Hid (∀ w', Fr None' w w' → Calls Tryz.prog 61 #[.agg #[.int .i64 y.kind, .string y.path, .string y.dst, .string y.src, .int .i64 y.pos, .slice qa mo da, .slice qb mn db]] w' (fun e w'' => e = .returned (.bool true) ∧ Fr None' w' w'')))
  (HQ1 : Hid (∀ w', Fr None' w w' → Calls Tryz.prog 61 #[.agg #[.int .i64 (Zx x y).1.kind, .string (Zx x y).1.path, .string (Zx x y).1.dst, .string (Zx x y).1.src, .int .i64 (Zx x y).1.pos, .slice qa mo da, .slice qb mn db]] w' (fun e w'' => e = .returned (.bool (Zw (Zx x y).1)) ∧ Fr None' w' w'')))
  (HQ2 : Hid (∀ w', Fr None' w w' → Calls Tryz.prog 61 #[.agg #[.int .i64 (Zx x y).2.1.kind, .string (Zx x y).2.1.path, .string (Zx x y).2.1.dst, .string (Zx x y).2.1.src, .int .i64 (Zx x y).2.1.pos, .slice pa no ca, .slice pb nn cb]] w' (fun e w'' => e = .returned (.bool (Zw (Zx x y).2.1)) ∧ Fr None' w' w'')))
  (w0 : World) (HV : Hid (Yf w0 (.agg #[.int .i64 (Zx x y).1.kind, .string (Zx x y).1.path, .string (Zx x y).1.dst, .string (Zx x y).1.src, .int .i64 (Zx x y).1.pos, .slice qa mo da, .slice qb mn db]) (Zx x y).1 ∧ Yf w0 (.agg #[.int .i64 (Zx x y).2.1.kind, .string (Zx x y).2.1.path, .string (Zx x y).2.1.dst, .string (Zx x y).2.1.src, .int .i64 (Zx x y).2.1.pos, .slice pa no ca, .slice pb nn cb]) (Zx x y).2.1)) :
  Calls Tryz.prog 57 #[.agg #[.int .i64 x.kind, .string x.path, .string x.dst, .string x.src, .int .i64 x.pos, .slice pa no ca, .slice pb nn cb], .agg #[.int .i64 y.kind, .string y.path, .string y.dst, .string y.src, .int .i64 y.pos, .slice qa mo da, .slice qb mn db]] w fun e w' => Z9 x y w0 w e w' := by
 have HCk := Zz (show Zj x y = Zu (Zx x y) from by unfold Zj; rw [if_pos (by simp [fx, fy])])
 have HRu := Zz (show Zx x y = Zx x y from rfl)
 have HLn := Zz (fun (h7 : x.kind = 7) (h7' : y.kind = 7) w' => Yh x y pa pb qa qb no nn ca cb mo mn da db w' hno hnn hmo hmn (by have := sx.old; omega) (by have := sx.new; omega) (by have := sy.old; omega) (by have := sy.new; omega) (Yt fx h7) (Yt fy h7'))
 have HCx := Zz (fun w' => Z8 x pa pb no nn ca cb w')
 have HCy := Zz (fun w' => Z8 y qa qb mo mn da db w')
 have HAx := Zz (fun w' => Zf x pa pb no nn ca cb w')
 have HAy := Zz (fun w' => Zf y qa qb mo mn da db w')
 have HP1 := Zz (fun w' => Zn x y.path pa pb no nn ca cb w' sx.path sx.dst sy.path)
 have HP2 := Zz (fun w' => Zn x y.dst pa pb no nn ca cb w' sx.path sx.dst sy.dst)
 have HP3 := Zz (fun w' => Zn y x.path qa qb mo mn da db w' sy.path sy.dst sx.path)
 have HP4 := Zz (show ∀ w', Calls Tryz.prog 63 #[.string x.path, .string y.path] w' (fun e w'' => e = .returned (.bool (apP x.path y.path)) ∧ w' = w'') from fun w' => Path.rapart_any x.path y.path w' (by have := sx.path; omega) (by have := sy.path; omega))
 have HM1 := Zz (show ∀ w', Calls Tryz.prog 80 #[.string y.path, .string x.dst, .string x.path] w' (fun e w'' => e = .returned (.tuple #[.string (moP y.path x.dst x.path), .bool (wiP y.path x.dst)]) ∧ w' = w'') from fun w' => Path.rmoved_any y.path x.dst x.path w' (by have := sy.path; omega) (by have := sx.dst; omega) (by have := sx.path; omega))
 have HM2 := Zz (show ∀ w', Calls Tryz.prog 80 #[.string x.path, .string y.path, .string y.dst] w' (fun e w'' => e = .returned (.tuple #[.string (moP x.path y.path y.dst), .bool (wiP x.path y.path)]) ∧ w' = w'') from fun w' => Path.rmoved_any x.path y.path y.dst w' (by have := sx.path; omega) (by have := sy.path; omega) (by have := sy.dst; omega))
 have HW1 := Zz (show ∀ w', Calls Tryz.prog 81 #[.string y.path, .string x.path] w' (fun e w'' => e = .returned (.bool (wiP y.path x.path)) ∧ w' = w'') from fun w' => Path.rwithin_any y.path x.path w' (by have := sy.path; omega) (by have := sx.path; omega))
 have HW2 := Zz (show ∀ w', Calls Tryz.prog 81 #[.string x.path, .string y.dst] w' (fun e w'' => e = .returned (.bool (wiP x.path y.dst)) ∧ w' = w'') from fun w' => Path.rwithin_any x.path y.dst w' (by have := sx.path; omega) (by have := sy.dst; omega))
 generalize hr : Zx x y = r at HCk HQ1 HQ2 HV
 have HRr := Zz hr
 unfold Z9
 generalize Zj x y = cc at HCk ⊢
 obtain ⟨K, P, T, F, A, lO, lN⟩ := x
 obtain ⟨K', P', T', F', A', lO', lN'⟩ := y
 simp only at hno hnn hmo hmn HR1 HR2 HLn HCx HCy HAx HAy HP1 HP2 HP3 HP4 HM1 HM2 HW1 HW2 kx ky HLL ⊢
 clear hno hnn hmo hmn sx sy fx fy HRu
 obtain ⟨w1, hw1⟩ : ∃ w1, w.alloc (.cells #[.int .i64 K, .string P, .string T, .string F, .int .i64 A, .slice pa no ca, .slice pb nn cb] 43) = w1 := ⟨_, rfl⟩
 obtain ⟨w2, hw2⟩ : ∃ w2, w1.alloc (.cells #[.int .i64 K', .string P', .string T', .string F', .int .i64 A', .slice qa mo da, .slice qb mn db] 43) = w2 := ⟨_, rfl⟩
 obtain ⟨w3, hw3⟩ : ∃ w3, w2.alloc (.cells #[.int .i64 0, .string ⟨#[]⟩, .string ⟨#[]⟩, .string ⟨#[]⟩, .int .i64 0, .slice none 0 0, .slice none 0 0] 43) = w3 := ⟨_, rfl⟩
 obtain ⟨w4, hw4⟩ : ∃ w4, w3.alloc (.cells #[.int .i64 0, .string ⟨#[]⟩, .string ⟨#[]⟩, .string ⟨#[]⟩, .int .i64 0, .slice none 0 0, .slice none 0 0] 43) = w4 := ⟨_, rfl⟩
 have F1 : Fr None' w w1 := hw1 ▸ Fr.alloc None' w _
 have F2 : Fr None' w1 w2 := hw2 ▸ Fr.alloc None' w1 _
 have F3 : Fr None' w2 w3 := hw3 ▸ Fr.alloc None' w2 _
 have F4 : Fr None' w3 w4 := hw4 ▸ Fr.alloc None' w3 _
 have BX : Box w4 w.heap.size (.int .i64 K) (.string P) (.string T) (.string F) (.int .i64 A) (.slice pa no ca) (.slice pb nn cb) := (hw1 ▸ Box.new w _ _ _ _ _ _ _ : Box w1 _ _ _ _ _ _ _ _).kept ((F2.then7 F3).then7 F4)
 have BY : Box w4 w1.heap.size (.int .i64 K') (.string P') (.string T') (.string F') (.int .i64 A') (.slice qa mo da) (.slice qb mn db) := (hw2 ▸ Box.new w1 _ _ _ _ _ _ _ : Box w2 _ _ _ _ _ _ _ _).kept (F3.then7 F4)
 have BC : Box w4 w2.heap.size (.int .i64 0) (.string ⟨#[]⟩) (.string ⟨#[]⟩) (.string ⟨#[]⟩) (.int .i64 0) (.slice none 0 0) (.slice none 0 0) := (hw3 ▸ Box.new w2 _ _ _ _ _ _ _ : Box w3 _ _ _ _ _ _ _ _).kept F4
 have BD : Box w4 w3.heap.size (.int .i64 0) (.string ⟨#[]⟩) (.string ⟨#[]⟩) (.string ⟨#[]⟩) (.int .i64 0) (.slice none 0 0) (.slice none 0 0) := hw4 ▸ Box.new w3 _ _ _ _ _ _ _
 have s1 : w1.heap.size = w.heap.size + 1 := by rw [← hw1]; simp
 have s2 : w2.heap.size = w1.heap.size + 1 := by rw [← hw2]; simp
 have s3 : w3.heap.size = w2.heap.size + 1 := by rw [← hw3]; simp
 have HF : Hid (Fr None' w w4) := ((F1.then7 F2).then7 F3).then7 F4
 have HN : Hid (w.heap.size < w1.heap.size ∧ w1.heap.size < w2.heap.size ∧ w2.heap.size < w3.heap.size) := ⟨by omega, by omega, by omega⟩
 have n1 : ¬ w.heap.size = w1.heap.size := by omega
 have n2 : ¬ w.heap.size = w2.heap.size := by omega
 have n3 : ¬ w.heap.size = w3.heap.size := by omega
 have n4 : ¬ w1.heap.size = w2.heap.size := by omega
 have n5 : ¬ w1.heap.size = w3.heap.size := by omega
 have n6 : ¬ w2.heap.size = w3.heap.size := by omega
 have HBs : Hid (∀ w', Fr None' w4 w' → Box w' w.heap.size (.int .i64 K) (.string P) (.string T) (.string F) (.int .i64 A) (.slice pa no ca) (.slice pb nn cb) ∧ Box w' w1.heap.size (.int .i64 K') (.string P') (.string T') (.string F') (.int .i64 A') (.slice qa mo da) (.slice qb mn db) ∧ Box w' w2.heap.size (.int .i64 0) (.string ⟨#[]⟩) (.string ⟨#[]⟩) (.string ⟨#[]⟩) (.int .i64 0) (.slice none 0 0) (.slice none 0 0) ∧ Box w' w3.heap.size (.int .i64 0) (.string ⟨#[]⟩) (.string ⟨#[]⟩) (.string ⟨#[]⟩) (.int .i64 0) (.slice none 0 0) (.slice none 0 0)) := fun w' f => ⟨BX.kept f, BY.kept f, BC.kept f, BD.kept f⟩
 obtain ⟨x0, x1, x2, x3, x4, x5, x6⟩ := BX.cells
 clear F1 F2 F3 F4 BX BY BC BD s1 s2 s3
 clear n1 n2 n3 n4 n5 hr
 obtain ⟨xcl, xk1, xk2⟩ := kx
 obtain ⟨ycl, yk1, yk2⟩ := ky
 have q1 := HR1.out w4 HF.out
 go_enter Tryz.func57, Tryz.ntmps57
 go_wp2_with fail
 with_reducible refine q1.mono ?_
 rintro e w5 ⟨rfl, f5⟩
 have HF5 := Zz f5
 have q2 := HR2.out w5 (HF.out.then7 f5)
 clear q1 f5 x0 x1 x2 x3 x4 x5 x6
 obtain ⟨y0, y1, y2, y3, y4, y5, y6⟩ := (HBs.out w5 HF5.out).2.1.cells
 go_wp2_with fail
 with_reducible refine q2.mono ?_
 rintro e w6 ⟨rfl, f6⟩
 have HFc := Zz (HF5.out.then7 f6)
 clear q2 f6 HF5 y0 y1 y2 y3 y4 y5 y6 HR1 HR2
 obtain ⟨x0, x1, x2, x3, x4, x5, x6⟩ := Box.cells (HBs.out _ (Hid.out HFc)).1
 obtain ⟨y0, y1, y2, y3, y4, y5, y6⟩ := Box.cells (HBs.out _ (Hid.out HFc)).2.1
 obtain ⟨c0, c1, c2, c3, c4, c5, c6⟩ := Box.cells (HBs.out _ (Hid.out HFc)).2.2.1
 obtain ⟨d0, d1, d2, d3, d4, d5, d6⟩ := Box.cells (HBs.out _ (Hid.out HFc)).2.2.2
 have xz := Box.frozen (HBs.out _ (Hid.out HFc)).1
 have yz := Box.frozen (HBs.out _ (Hid.out HFc)).2.1
 have cz := Box.frozen (HBs.out _ (Hid.out HFc)).2.2.1
 have dz := Box.frozen (HBs.out _ (Hid.out HFc)).2.2.2
 have x10 : (K == 10) = false := beq_eq_false_iff_ne.2 (by omega)
 have xc : decide (7 ≤ K ∧ K ≤ 9) = true := by simp; omega
 have xa : decide (K ≤ 6) = false := by simp; omega
 have y10 : (K' == 10) = false := beq_eq_false_iff_ne.2 (by omega)
 have yc : decide (7 ≤ K' ∧ K' ≤ 9) = true := by simp; omega
 have ya : decide (K' ≤ 6) = false := by simp; omega
 rw [xc] at HCx
 rw [yc] at HCy
 rw [xa] at HAx
 rw [ya] at HAy
 have HCl := Zz (And.intro xcl ycl)
 have hE := (show Zx ⟨K, P, T, F, A, lO, lN⟩ ⟨K', P', T', F', A', lO', lN'⟩ = _ from rule_11 HCl.out.1 HCl.out.2).symm.trans HRr.out
 unfold Yo at hE
 simp only at hE
 clear xc yc xa ya xcl ycl xk1 xk2 yk1 yk2
 by_cases h7 : K = 7
 ·subst h7
  by_cases h7' : K' = 7
  ·subst h7'
   by_cases hP : P = P'
   ·exact absurd ⟨rfl, rfl, hP⟩ HLL.out
   ·skip
    obtain ⟨z1, z2⟩ := Lines.str_no hP
    rw [if_neg hP] at hE
    subst hE
    clear hP
    simp only at HQ1 HQ2 HV HCk
    go_wp2_with (first | (go_at_call 79; with_reducible (refine (HCx.out _).mono ?_); rintro e w' ⟨rfl, f⟩; replace HFc := Zz (Fr.then7 (Hid.out HFc) f); clear f x0 x1 x2 x3 x4 x5 x6 y0 y1 y2 y3 y4 y5 y6 c0 c1 c2 c3 c4 c5 c6 d0 d1 d2 d3 d4 d5 d6 xz yz cz dz; obtain ⟨x0, x1, x2, x3, x4, x5, x6⟩ := Box.cells (HBs.out _ (Hid.out HFc)).1; obtain ⟨y0, y1, y2, y3, y4, y5, y6⟩ := Box.cells (HBs.out _ (Hid.out HFc)).2.1; obtain ⟨c0, c1, c2, c3, c4, c5, c6⟩ := Box.cells (HBs.out _ (Hid.out HFc)).2.2.1; obtain ⟨d0, d1, d2, d3, d4, d5, d6⟩ := Box.cells (HBs.out _ (Hid.out HFc)).2.2.2; have xz := Box.frozen (HBs.out _ (Hid.out HFc)).1; have yz := Box.frozen (HBs.out _ (Hid.out HFc)).2.1; have cz := Box.frozen (HBs.out _ (Hid.out HFc)).2.2.1; have dz := Box.frozen (HBs.out _ (Hid.out HFc)).2.2.2) | (go_at_call 79; with_reducible (refine (HCy.out _).mono ?_); rintro e w' ⟨rfl, f⟩; replace HFc := Zz (Fr.then7 (Hid.out HFc) f); clear f x0 x1 x2 x3 x4 x5 x6 y0 y1 y2 y3 y4 y5 y6 c0 c1 c2 c3 c4 c5 c6 d0 d1 d2 d3 d4 d5 d6 xz yz cz dz; obtain ⟨x0, x1, x2, x3, x4, x5, x6⟩ := Box.cells (HBs.out _ (Hid.out HFc)).1; obtain ⟨y0, y1, y2, y3, y4, y5, y6⟩ := Box.cells (HBs.out _ (Hid.out HFc)).2.1; obtain ⟨c0, c1, c2, c3, c4, c5, c6⟩ := Box.cells (HBs.out _ (Hid.out HFc)).2.2.1; obtain ⟨d0, d1, d2, d3, d4, d5, d6⟩ := Box.cells (HBs.out _ (Hid.out HFc)).2.2.2; have xz := Box.frozen (HBs.out _ (Hid.out HFc)).1; have yz := Box.frozen (HBs.out _ (Hid.out HFc)).2.1; have cz := Box.frozen (HBs.out _ (Hid.out HFc)).2.2.1; have dz := Box.frozen (HBs.out _ (Hid.out HFc)).2.2.2) | (go_at_call 82; with_reducible (refine (HAx.out _).mono ?_); rintro e w' ⟨rfl, f⟩; replace HFc := Zz (Fr.then7 (Hid.out HFc) f); clear f x0 x1 x2 x3 x4 x5 x6 y0 y1 y2 y3 y4 y5 y6 c0 c1 c2 c3 c4 c5 c6 d0 d1 d2 d3 d4 d5 d6 xz yz cz dz; obtain ⟨x0, x1, x2, x3, x4, x5, x6⟩ := Box.cells (HBs.out _ (Hid.out HFc)).1; obtain ⟨y0, y1, y2, y3, y4, y5, y6⟩ := Box.cells (HBs.out _ (Hid.out HFc)).2.1; obtain ⟨c0, c1, c2, c3, c4, c5, c6⟩ := Box.cells (HBs.out _ (Hid.out HFc)).2.2.1; obtain ⟨d0, d1, d2, d3, d4, d5, d6⟩ := Box.cells (HBs.out _ (Hid.out HFc)).2.2.2; have xz := Box.frozen (HBs.out _ (Hid.out HFc)).1; have yz := Box.frozen (HBs.out _ (Hid.out HFc)).2.1; have cz := Box.frozen (HBs.out _ (Hid.out HFc)).2.2.1; have dz := Box.frozen (HBs.out _ (Hid.out HFc)).2.2.2) | (go_at_call 82; with_reducible (refine (HAy.out _).mono ?_); rintro e w' ⟨rfl, f⟩; replace HFc := Zz (Fr.then7 (Hid.out HFc) f); clear f x0 x1 x2 x3 x4 x5 x6 y0 y1 y2 y3 y4 y5 y6 c0 c1 c2 c3 c4 c5 c6 d0 d1 d2 d3 d4 d5 d6 xz yz cz dz; obtain ⟨x0, x1, x2, x3, x4, x5, x6⟩ := Box.cells (HBs.out _ (Hid.out HFc)).1; obtain ⟨y0, y1, y2, y3, y4, y5, y6⟩ := Box.cells (HBs.out _ (Hid.out HFc)).2.1; obtain ⟨c0, c1, c2, c3, c4, c5, c6⟩ := Box.cells (HBs.out _ (Hid.out HFc)).2.2.1; obtain ⟨d0, d1, d2, d3, d4, d5, d6⟩ := Box.cells (HBs.out _ (Hid.out HFc)).2.2.2; have xz := Box.frozen (HBs.out _ (Hid.out HFc)).1; have yz := Box.frozen (HBs.out _ (Hid.out HFc)).2.1; have cz := Box.frozen (HBs.out _ (Hid.out HFc)).2.2.1; have dz := Box.frozen (HBs.out _ (Hid.out HFc)).2.2.2) | fail)
    have HBx := Zz (HBs.out _ (Hid.out HFc))
    have HWx := Zz (HF.out.then7 (Hid.out HFc))
    obtain ⟨R7, hR7⟩ : ∃ R, Zw ⟨7, P, T, F, A, lO, lN⟩ = R := ⟨_, rfl⟩
    obtain ⟨R8, hR8⟩ : ∃ R, Zw ⟨7, P', T', F', A', lO', lN'⟩ = R := ⟨_, rfl⟩
    rw [hR7] at HQ2
    rw [hR8] at HQ1
    have HE7 := Zz hR7
    have HE8 := Zz hR8
    clear hR7 hR8
    with_reducible refine (HQ2.out _ HWx.out).mono ?_
    rintro e w7 ⟨rfl, f7⟩
    have HB7 := Zz (show Box w7 w.heap.size (.int .i64 7) (.string P) (.string T) (.string F) (.int .i64 A) (.slice pa no ca) (.slice pb nn cb) ∧ Box w7 w1.heap.size (.int .i64 7) (.string P') (.string T') (.string F') (.int .i64 A') (.slice qa mo da) (.slice qb mn db) ∧ Box w7 w2.heap.size (.int .i64 0) (.string ⟨#[]⟩) (.string ⟨#[]⟩) (.string ⟨#[]⟩) (.int .i64 0) (.slice none 0 0) (.slice none 0 0) ∧ Box w7 w3.heap.size (.int .i64 0) (.string ⟨#[]⟩) (.string ⟨#[]⟩) (.string ⟨#[]⟩) (.int .i64 0) (.slice none 0 0) (.slice none 0 0) from ⟨HBx.out.1.kept f7, HBx.out.2.1.kept f7, HBx.out.2.2.1.kept f7, HBx.out.2.2.2.kept f7⟩)
    replace HWx := Zz (HWx.out.then7 f7)
    replace HBx := HB7
    clear HB7 f7 x0 x1 x2 x3 x4 x5 x6 y0 y1 y2 y3 y4 y5 y6 c0 c1 c2 c3 c4 c5 c6 d0 d1 d2 d3 d4 d5 d6 xz yz cz dz
    cases R7 with
    | false =>
     have HC := Zz (HCk.out.trans (show Zu _ = Yz from by unfold Zu; rw [if_neg (by simp [HE7.out])]))
     have HBf := Zz (show Box w7 w2.heap.size (.int .i64 0) (.string ⟨#[]⟩) (.string ⟨#[]⟩) (.string ⟨#[]⟩) (.int .i64 0) (.slice none 0 0) (.slice none 0 0) ∧ Box w7 w3.heap.size (.int .i64 0) (.string ⟨#[]⟩) (.string ⟨#[]⟩) (.string ⟨#[]⟩) (.int .i64 0) (.slice none 0 0) (.slice none 0 0) from ⟨HBx.out.2.2.1, HBx.out.2.2.2⟩)
     obtain ⟨c0, c1, c2, c3, c4, c5, c6⟩ := HBf.out.1.cells
     obtain ⟨d0, d1, d2, d3, d4, d5, d6⟩ := HBf.out.2.cells
     have cz := HBf.out.1.frozen
     have dz := HBf.out.2.frozen
     go_wp2_with fail
     have hfin := Zt HWx.out HBf.out.1 HBf.out.2 n6 (by have := HN.out; omega) (by have := HN.out; omega) (.int .i64 0) (.string ⟨#[]⟩) (.string ⟨#[]⟩) (.string ⟨#[]⟩) (.int .i64 0) (.slice none 0 0) (.slice none 0 0) (.int .i64 0) (.string ⟨#[]⟩) (.string ⟨#[]⟩) (.string ⟨#[]⟩) (.int .i64 0) (.slice none 0 0) (.slice none 0 0)
     exact Zr (u := .bool false) rfl rfl rfl rfl rfl hfin.1 hfin.2.1 (Zq HC.out hfin.2.2.1)
    | true =>
     obtain ⟨y0, y1, y2, y3, y4, y5, y6⟩ := HBx.out.2.1.cells
     go_wp2_with fail
     with_reducible refine (HQ1.out _ HWx.out).mono ?_
     rintro e w8 ⟨rfl, f8⟩
     have HB8 := Zz (show Box w8 w.heap.size (.int .i64 7) (.string P) (.string T) (.string F) (.int .i64 A) (.slice pa no ca) (.slice pb nn cb) ∧ Box w8 w1.heap.size (.int .i64 7) (.string P') (.string T') (.string F') (.int .i64 A') (.slice qa mo da) (.slice qb mn db) ∧ Box w8 w2.heap.size (.int .i64 0) (.string ⟨#[]⟩) (.string ⟨#[]⟩) (.string ⟨#[]⟩) (.int .i64 0) (.slice none 0 0) (.slice none 0 0) ∧ Box w8 w3.heap.size (.int .i64 0) (.string ⟨#[]⟩) (.string ⟨#[]⟩) (.string ⟨#[]⟩) (.int .i64 0) (.slice none 0 0) (.slice none 0 0) from ⟨HBx.out.1.kept f8, HBx.out.2.1.kept f8, HBx.out.2.2.1.kept f8, HBx.out.2.2.2.kept f8⟩)
     replace HWx := Zz (HWx.out.then7 f8)
     replace HBx := HB8
     clear HB8 f8 y0 y1 y2 y3 y4 y5 y6
     cases R8 with
     | false =>
      have HC := Zz (HCk.out.trans (show Zu _ = Yz from by unfold Zu; rw [if_neg (by simp [HE8.out])]))
      have HBf := Zz (show Box w8 w2.heap.size (.int .i64 0) (.string ⟨#[]⟩) (.string ⟨#[]⟩) (.string ⟨#[]⟩) (.int .i64 0) (.slice none 0 0) (.slice none 0 0) ∧ Box w8 w3.heap.size (.int .i64 0) (.string ⟨#[]⟩) (.string ⟨#[]⟩) (.string ⟨#[]⟩) (.int .i64 0) (.slice none 0 0) (.slice none 0 0) from ⟨HBx.out.2.2.1, HBx.out.2.2.2⟩)
      obtain ⟨c0, c1, c2, c3, c4, c5, c6⟩ := HBf.out.1.cells
      obtain ⟨d0, d1, d2, d3, d4, d5, d6⟩ := HBf.out.2.cells
      have cz := HBf.out.1.frozen
      have dz := HBf.out.2.frozen
      go_wp2_with fail
      have hfin := Zt HWx.out HBf.out.1 HBf.out.2 n6 (by have := HN.out; omega) (by have := HN.out; omega) (.int .i64 0) (.string ⟨#[]⟩) (.string ⟨#[]⟩) (.string ⟨#[]⟩) (.int .i64 0) (.slice none 0 0) (.slice none 0 0) (.int .i64 0) (.string ⟨#[]⟩) (.string ⟨#[]⟩) (.string ⟨#[]⟩) (.int .i64 0) (.slice none 0 0) (.slice none 0 0)
      exact Zr (u := .bool false) rfl rfl rfl rfl rfl hfin.1 hfin.2.1 (Zq HC.out hfin.2.2.1)
     | true =>
      have HC := Zz (HCk.out.trans (show Zu (⟨7, P', T', F', A', lO', lN'⟩, ⟨7, P, T, F, A, lO, lN⟩, true) = (⟨7, P', T', F', A', lO', lN'⟩, ⟨7, P, T, F, A, lO, lN⟩, true) from by unfold Zu; rw [if_pos (by simp [HE7.out, HE8.out])]))
      have HS := Zz (show (∀ w', Fr (fun k => k = w2.heap.size ∨ k = w3.heap.size) w8 w' → Fr (fun k => k = w2.heap.size ∨ k = w3.heap.size) w8 w' ∧ w'.cell? ⟨w.heap.size, 0, none⟩ = some (.int .i64 7) ∧ w'.cell? ⟨w.heap.size, 1, none⟩ = some (.string P) ∧ w'.cell? ⟨w.heap.size, 2, none⟩ = some (.string T) ∧ w'.cell? ⟨w.heap.size, 3, none⟩ = some (.string F) ∧ w'.cell? ⟨w.heap.size, 4, none⟩ = some (.int .i64 A) ∧ w'.cell? ⟨w.heap.size, 5, none⟩ = some (.slice pa no ca) ∧ w'.cell? ⟨w.heap.size, 6, none⟩ = some (.slice pb nn cb) ∧ w'.cell? ⟨w1.heap.size, 0, none⟩ = some (.int .i64 7) ∧ w'.cell? ⟨w1.heap.size, 1, none⟩ = some (.string P') ∧ w'.cell? ⟨w1.heap.size, 2, none⟩ = some (.string T') ∧ w'.cell? ⟨w1.heap.size, 3, none⟩ = some (.string F') ∧ w'.cell? ⟨w1.heap.size, 4, none⟩ = some (.int .i64 A') ∧ w'.cell? ⟨w1.heap.size, 5, none⟩ = some (.slice qa mo da) ∧ w'.cell? ⟨w1.heap.size, 6, none⟩ = some (.slice qb mn db)) from fun w' f => by
       obtain ⟨x0, x1, x2, x3, x4, x5, x6⟩ := (HBx.out.1.fr f (by have := HN.out; omega)).cells
       obtain ⟨y0, y1, y2, y3, y4, y5, y6⟩ := (HBx.out.2.1.fr f (by have := HN.out; omega)).cells
       exact ⟨f, x0, x1, x2, x3, x4, x5, x6, y0, y1, y2, y3, y4, y5, y6⟩)
      have hS0 := HS.out w8.drew (Fr.drew _ w8)
      have hS6 := HS.out (setP w8 w2.heap.size (.int .i64 7) (.string P') (.string T') (.string F') (.int .i64 A') (.slice qa mo da) (.slice qb mn db)).drew (Fr.then (Fr.setP _ (Or.inl rfl) _ _ _ _ _ _ _) (Fr.drew _ _))
      have hS7 := HS.out (setP (setP w8 w2.heap.size (.int .i64 7) (.string P') (.string T') (.string F') (.int .i64 A') (.slice qa mo da) (.slice qb mn db)) w3.heap.size (.int .i64 7) (.string P) (.string T) (.string F) (.int .i64 A) (.slice pa no ca) (.slice pb nn cb)).drew (Fr.then (Fr.then (Fr.setP _ (Or.inl rfl) _ _ _ _ _ _ _) (Fr.setP _ (Or.inr rfl) _ _ _ _ _ _ _)) (Fr.drew _ _))
      obtain ⟨c0, c1, c2, c3, c4, c5, c6⟩ := HBx.out.2.2.1.cells
      obtain ⟨d0, d1, d2, d3, d4, d5, d6⟩ := HBx.out.2.2.2.cells
      have cz := HBx.out.2.2.1.frozen
      have dz := HBx.out.2.2.2.frozen
      go_wp2_with fail
      go_region_held3 (fun w' => Fr (fun k => k = w2.heap.size ∨ k = w3.heap.size) w8 w' ∧ w'.cell? ⟨w.heap.size, 0, none⟩ = some (.int .i64 7) ∧ w'.cell? ⟨w.heap.size, 1, none⟩ = some (.string P) ∧ w'.cell? ⟨w.heap.size, 2, none⟩ = some (.string T) ∧ w'.cell? ⟨w.heap.size, 3, none⟩ = some (.string F) ∧ w'.cell? ⟨w.heap.size, 4, none⟩ = some (.int .i64 A) ∧ w'.cell? ⟨w.heap.size, 5, none⟩ = some (.slice pa no ca) ∧ w'.cell? ⟨w.heap.size, 6, none⟩ = some (.slice pb nn cb) ∧ w'.cell? ⟨w1.heap.size, 0, none⟩ = some (.int .i64 7) ∧ w'.cell? ⟨w1.heap.size, 1, none⟩ = some (.string P') ∧ w'.cell? ⟨w1.heap.size, 2, none⟩ = some (.string T') ∧ w'.cell? ⟨w1.heap.size, 3, none⟩ = some (.string F') ∧ w'.cell? ⟨w1.heap.size, 4, none⟩ = some (.int .i64 A') ∧ w'.cell? ⟨w1.heap.size, 5, none⟩ = some (.slice qa mo da) ∧ w'.cell? ⟨w1.heap.size, 6, none⟩ = some (.slice qb mn db))
       (first | with_reducible exact hS0 | with_reducible exact hS6 | with_reducible exact hS7)
       (fail)
      clear hS0 hS6 hS7 cz dz c0 c1 c2 c3 c4 c5 c6 d0 d1 d2 d3 d4 d5 d6
      go_wp2_with fail
      have hfin := Zt HWx.out HBx.out.2.2.1 HBx.out.2.2.2 n6 (by have := HN.out; omega) (by have := HN.out; omega) (.int .i64 7) (.string P') (.string T') (.string F') (.int .i64 A') (.slice qa mo da) (.slice qb mn db) (.int .i64 7) (.string P) (.string T) (.string F) (.int .i64 A) (.slice pa no ca) (.slice pb nn cb)
      have hfr := hfin.2.2.1.then7 (Fr.drew None' _)
      exact Zr rfl rfl rfl rfl rfl hfin.1.drew hfin.2.1.drew (by rw [HC.out]; exact ⟨_, _, rfl, HV.out.1, HV.out.2, hfr⟩)
  ·have y7 : (K' == 7) = false := beq_eq_false_iff_ne.2 h7'
   by_cases hP : P = P'
   ·skip
    subst hP
    rw [if_pos rfl, if_neg (fun h => h7' h.2)] at hE
    subst hE
    simp only at HQ1 HQ2 HV HCk
    go_wp2_with (first | (go_at_call 79; with_reducible (refine (HCx.out _).mono ?_); rintro e w' ⟨rfl, f⟩; replace HFc := Zz (Fr.then7 (Hid.out HFc) f); clear f x0 x1 x2 x3 x4 x5 x6 y0 y1 y2 y3 y4 y5 y6 c0 c1 c2 c3 c4 c5 c6 d0 d1 d2 d3 d4 d5 d6 xz yz cz dz; obtain ⟨x0, x1, x2, x3, x4, x5, x6⟩ := Box.cells (HBs.out _ (Hid.out HFc)).1; obtain ⟨y0, y1, y2, y3, y4, y5, y6⟩ := Box.cells (HBs.out _ (Hid.out HFc)).2.1; obtain ⟨c0, c1, c2, c3, c4, c5, c6⟩ := Box.cells (HBs.out _ (Hid.out HFc)).2.2.1; obtain ⟨d0, d1, d2, d3, d4, d5, d6⟩ := Box.cells (HBs.out _ (Hid.out HFc)).2.2.2; have xz := Box.frozen (HBs.out _ (Hid.out HFc)).1; have yz := Box.frozen (HBs.out _ (Hid.out HFc)).2.1; have cz := Box.frozen (HBs.out _ (Hid.out HFc)).2.2.1; have dz := Box.frozen (HBs.out _ (Hid.out HFc)).2.2.2) | (go_at_call 79; with_reducible (refine (HCy.out _).mono ?_); rintro e w' ⟨rfl, f⟩; replace HFc := Zz (Fr.then7 (Hid.out HFc) f); clear f x0 x1 x2 x3 x4 x5 x6 y0 y1 y2 y3 y4 y5 y6 c0 c1 c2 c3 c4 c5 c6 d0 d1 d2 d3 d4 d5 d6 xz yz cz dz; obtain ⟨x0, x1, x2, x3, x4, x5, x6⟩ := Box.cells (HBs.out _ (Hid.out HFc)).1; obtain ⟨y0, y1, y2, y3, y4, y5, y6⟩ := Box.cells (HBs.out _ (Hid.out HFc)).2.1; obtain ⟨c0, c1, c2, c3, c4, c5, c6⟩ := Box.cells (HBs.out _ (Hid.out HFc)).2.2.1; obtain ⟨d0, d1, d2, d3, d4, d5, d6⟩ := Box.cells (HBs.out _ (Hid.out HFc)).2.2.2; have xz := Box.frozen (HBs.out _ (Hid.out HFc)).1; have yz := Box.frozen (HBs.out _ (Hid.out HFc)).2.1; have cz := Box.frozen (HBs.out _ (Hid.out HFc)).2.2.1; have dz := Box.frozen (HBs.out _ (Hid.out HFc)).2.2.2) | (go_at_call 82; with_reducible (refine (HAx.out _).mono ?_); rintro e w' ⟨rfl, f⟩; replace HFc := Zz (Fr.then7 (Hid.out HFc) f); clear f x0 x1 x2 x3 x4 x5 x6 y0 y1 y2 y3 y4 y5 y6 c0 c1 c2 c3 c4 c5 c6 d0 d1 d2 d3 d4 d5 d6 xz yz cz dz; obtain ⟨x0, x1, x2, x3, x4, x5, x6⟩ := Box.cells (HBs.out _ (Hid.out HFc)).1; obtain ⟨y0, y1, y2, y3, y4, y5, y6⟩ := Box.cells (HBs.out _ (Hid.out HFc)).2.1; obtain ⟨c0, c1, c2, c3, c4, c5, c6⟩ := Box.cells (HBs.out _ (Hid.out HFc)).2.2.1; obtain ⟨d0, d1, d2, d3, d4, d5, d6⟩ := Box.cells (HBs.out _ (Hid.out HFc)).2.2.2; have xz := Box.frozen (HBs.out _ (Hid.out HFc)).1; have yz := Box.frozen (HBs.out _ (Hid.out HFc)).2.1; have cz := Box.frozen (HBs.out _ (Hid.out HFc)).2.2.1; have dz := Box.frozen (HBs.out _ (Hid.out HFc)).2.2.2) | (go_at_call 82; with_reducible (refine (HAy.out _).mono ?_); rintro e w' ⟨rfl, f⟩; replace HFc := Zz (Fr.then7 (Hid.out HFc) f); clear f x0 x1 x2 x3 x4 x5 x6 y0 y1 y2 y3 y4 y5 y6 c0 c1 c2 c3 c4 c5 c6 d0 d1 d2 d3 d4 d5 d6 xz yz cz dz; obtain ⟨x0, x1, x2, x3, x4, x5, x6⟩ := Box.cells (HBs.out _ (Hid.out HFc)).1; obtain ⟨y0, y1, y2, y3, y4, y5, y6⟩ := Box.cells (HBs.out _ (Hid.out HFc)).2.1; obtain ⟨c0, c1, c2, c3, c4, c5, c6⟩ := Box.cells (HBs.out _ (Hid.out HFc)).2.2.1; obtain ⟨d0, d1, d2, d3, d4, d5, d6⟩ := Box.cells (HBs.out _ (Hid.out HFc)).2.2.2; have xz := Box.frozen (HBs.out _ (Hid.out HFc)).1; have yz := Box.frozen (HBs.out _ (Hid.out HFc)).2.1; have cz := Box.frozen (HBs.out _ (Hid.out HFc)).2.2.1; have dz := Box.frozen (HBs.out _ (Hid.out HFc)).2.2.2) | fail)
    have HBx := Zz (HBs.out _ (Hid.out HFc))
    have HWx := Zz (HF.out.then7 (Hid.out HFc))
    have HC := Zz (HCk.out.trans (show Zu _ = Yz from by unfold Zu; rw [if_neg (by simp)]))
    have hfin := Zt HWx.out HBx.out.2.2.1 HBx.out.2.2.2 n6 (by have := HN.out; omega) (by have := HN.out; omega) (.int .i64 0) (.string ⟨#[]⟩) (.string ⟨#[]⟩) (.string ⟨#[]⟩) (.int .i64 0) (.slice none 0 0) (.slice none 0 0) (.int .i64 0) (.string ⟨#[]⟩) (.string ⟨#[]⟩) (.string ⟨#[]⟩) (.int .i64 0) (.slice none 0 0) (.slice none 0 0)
    exact Zr (u := .bool false) rfl rfl rfl rfl rfl hfin.1 hfin.2.1 (Zq HC.out hfin.2.2.1)
   ·skip
    obtain ⟨z1, z2⟩ := Lines.str_no hP
    rw [if_neg hP] at hE
    subst hE
    clear hP
    simp only at HQ1 HQ2 HV HCk
    go_wp2_with (first | (go_at_call 79; with_reducible (refine (HCx.out _).mono ?_); rintro e w' ⟨rfl, f⟩; replace HFc := Zz (Fr.then7 (Hid.out HFc) f); clear f x0 x1 x2 x3 x4 x5 x6 y0 y1 y2 y3 y4 y5 y6 c0 c1 c2 c3 c4 c5 c6 d0 d1 d2 d3 d4 d5 d6 xz yz cz dz; obtain ⟨x0, x1, x2, x3, x4, x5, x6⟩ := Box.cells (HBs.out _ (Hid.out HFc)).1; obtain ⟨y0, y1, y2, y3, y4, y5, y6⟩ := Box.cells (HBs.out _ (Hid.out HFc)).2.1; obtain ⟨c0, c1, c2, c3, c4, c5, c6⟩ := Box.cells (HBs.out _ (Hid.out HFc)).2.2.1; obtain ⟨d0, d1, d2, d3, d4, d5, d6⟩ := Box.cells (HBs.out _ (Hid.out HFc)).2.2.2; have xz := Box.frozen (HBs.out _ (Hid.out HFc)).1; have yz := Box.frozen (HBs.out _ (Hid.out HFc)).2.1; have cz := Box.frozen (HBs.out _ (Hid.out HFc)).2.2.1; have dz := Box.frozen (HBs.out _ (Hid.out HFc)).2.2.2) | (go_at_call 79; with_reducible (refine (HCy.out _).mono ?_); rintro e w' ⟨rfl, f⟩; replace HFc := Zz (Fr.then7 (Hid.out HFc) f); clear f x0 x1 x2 x3 x4 x5 x6 y0 y1 y2 y3 y4 y5 y6 c0 c1 c2 c3 c4 c5 c6 d0 d1 d2 d3 d4 d5 d6 xz yz cz dz; obtain ⟨x0, x1, x2, x3, x4, x5, x6⟩ := Box.cells (HBs.out _ (Hid.out HFc)).1; obtain ⟨y0, y1, y2, y3, y4, y5, y6⟩ := Box.cells (HBs.out _ (Hid.out HFc)).2.1; obtain ⟨c0, c1, c2, c3, c4, c5, c6⟩ := Box.cells (HBs.out _ (Hid.out HFc)).2.2.1; obtain ⟨d0, d1, d2, d3, d4, d5, d6⟩ := Box.cells (HBs.out _ (Hid.out HFc)).2.2.2; have xz := Box.frozen (HBs.out _ (Hid.out HFc)).1; have yz := Box.frozen (HBs.out _ (Hid.out HFc)).2.1; have cz := Box.frozen (HBs.out _ (Hid.out HFc)).2.2.1; have dz := Box.frozen (HBs.out _ (Hid.out HFc)).2.2.2) | (go_at_call 82; with_reducible (refine (HAx.out _).mono ?_); rintro e w' ⟨rfl, f⟩; replace HFc := Zz (Fr.then7 (Hid.out HFc) f); clear f x0 x1 x2 x3 x4 x5 x6 y0 y1 y2 y3 y4 y5 y6 c0 c1 c2 c3 c4 c5 c6 d0 d1 d2 d3 d4 d5 d6 xz yz cz dz; obtain ⟨x0, x1, x2, x3, x4, x5, x6⟩ := Box.cells (HBs.out _ (Hid.out HFc)).1; obtain ⟨y0, y1, y2, y3, y4, y5, y6⟩ := Box.cells (HBs.out _ (Hid.out HFc)).2.1; obtain ⟨c0, c1, c2, c3, c4, c5, c6⟩ := Box.cells (HBs.out _ (Hid.out HFc)).2.2.1; obtain ⟨d0, d1, d2, d3, d4, d5, d6⟩ := Box.cells (HBs.out _ (Hid.out HFc)).2.2.2; have xz := Box.frozen (HBs.out _ (Hid.out HFc)).1; have yz := Box.frozen (HBs.out _ (Hid.out HFc)).2.1; have cz := Box.frozen (HBs.out _ (Hid.out HFc)).2.2.1; have dz := Box.frozen (HBs.out _ (Hid.out HFc)).2.2.2) | (go_at_call 82; with_reducible (refine (HAy.out _).mono ?_); rintro e w' ⟨rfl, f⟩; replace HFc := Zz (Fr.then7 (Hid.out HFc) f); clear f x0 x1 x2 x3 x4 x5 x6 y0 y1 y2 y3 y4 y5 y6 c0 c1 c2 c3 c4 c5 c6 d0 d1 d2 d3 d4 d5 d6 xz yz cz dz; obtain ⟨x0, x1, x2, x3, x4, x5, x6⟩ := Box.cells (HBs.out _ (Hid.out HFc)).1; obtain ⟨y0, y1, y2, y3, y4, y5, y6⟩ := Box.cells (HBs.out _ (Hid.out HFc)).2.1; obtain ⟨c0, c1, c2, c3, c4, c5, c6⟩ := Box.cells (HBs.out _ (Hid.out HFc)).2.2.1; obtain ⟨d0, d1, d2, d3, d4, d5, d6⟩ := Box.cells (HBs.out _ (Hid.out HFc)).2.2.2; have xz := Box.frozen (HBs.out _ (Hid.out HFc)).1; have yz := Box.frozen (HBs.out _ (Hid.out HFc)).2.1; have cz := Box.frozen (HBs.out _ (Hid.out HFc)).2.2.1; have dz := Box.frozen (HBs.out _ (Hid.out HFc)).2.2.2) | fail)
    have HBx := Zz (HBs.out _ (Hid.out HFc))
    have HWx := Zz (HF.out.then7 (Hid.out HFc))
    obtain ⟨R7, hR7⟩ : ∃ R, Zw ⟨7, P, T, F, A, lO, lN⟩ = R := ⟨_, rfl⟩
    obtain ⟨R8, hR8⟩ : ∃ R, Zw ⟨K', P', T', F', A', lO', lN'⟩ = R := ⟨_, rfl⟩
    rw [hR7] at HQ2
    rw [hR8] at HQ1
    have HE7 := Zz hR7
    have HE8 := Zz hR8
    clear hR7 hR8
    with_reducible refine (HQ2.out _ HWx.out).mono ?_
    rintro e w7 ⟨rfl, f7⟩
    have HB7 := Zz (show Box w7 w.heap.size (.int .i64 7) (.string P) (.string T) (.string F) (.int .i64 A) (.slice pa no ca) (.slice pb nn cb) ∧ Box w7 w1.heap.size (.int .i64 K') (.string P') (.string T') (.string F') (.int .i64 A') (.slice qa mo da) (.slice qb mn db) ∧ Box w7 w2.heap.size (.int .i64 0) (.string ⟨#[]⟩) (.string ⟨#[]⟩) (.string ⟨#[]⟩) (.int .i64 0) (.slice none 0 0) (.slice none 0 0) ∧ Box w7 w3.heap.size (.int .i64 0) (.string ⟨#[]⟩) (.string ⟨#[]⟩) (.string ⟨#[]⟩) (.int .i64 0) (.slice none 0 0) (.slice none 0 0) from ⟨HBx.out.1.kept f7, HBx.out.2.1.kept f7, HBx.out.2.2.1.kept f7, HBx.out.2.2.2.kept f7⟩)
    replace HWx := Zz (HWx.out.then7 f7)
    replace HBx := HB7
    clear HB7 f7 x0 x1 x2 x3 x4 x5 x6 y0 y1 y2 y3 y4 y5 y6 c0 c1 c2 c3 c4 c5 c6 d0 d1 d2 d3 d4 d5 d6 xz yz cz dz
    cases R7 with
    | false =>
     have HC := Zz (HCk.out.trans (show Zu _ = Yz from by unfold Zu; rw [if_neg (by simp [HE7.out])]))
     have HBf := Zz (show Box w7 w2.heap.size (.int .i64 0) (.string ⟨#[]⟩) (.string ⟨#[]⟩) (.string ⟨#[]⟩) (.int .i64 0) (.slice none 0 0) (.slice none 0 0) ∧ Box w7 w3.heap.size (.int .i64 0) (.string ⟨#[]⟩) (.string ⟨#[]⟩) (.string ⟨#[]⟩) (.int .i64 0) (.slice none 0 0) (.slice none 0 0) from ⟨HBx.out.2.2.1, HBx.out.2.2.2⟩)
     obtain ⟨c0, c1, c2, c3, c4, c5, c6⟩ := HBf.out.1.cells
     obtain ⟨d0, d1, d2, d3, d4, d5, d6⟩ := HBf.out.2.cells
     have cz := HBf.out.1.frozen
     have dz := HBf.out.2.frozen
     go_wp2_with fail
     have hfin := Zt HWx.out HBf.out.1 HBf.out.2 n6 (by have := HN.out; omega) (by have := HN.out; omega) (.int .i64 0) (.string ⟨#[]⟩) (.string ⟨#[]⟩) (.string ⟨#[]⟩) (.int .i64 0) (.slice none 0 0) (.slice none 0 0) (.int .i64 0) (.string ⟨#[]⟩) (.string ⟨#[]⟩) (.string ⟨#[]⟩) (.int .i64 0) (.slice none 0 0) (.slice none 0 0)
     exact Zr (u := .bool false) rfl rfl rfl rfl rfl hfin.1 hfin.2.1 (Zq HC.out hfin.2.2.1)
    | true =>
     obtain ⟨y0, y1, y2, y3, y4, y5, y6⟩ := HBx.out.2.1.cells
     go_wp2_with fail
     with_reducible refine (HQ1.out _ HWx.out).mono ?_
     rintro e w8 ⟨rfl, f8⟩
     have HB8 := Zz (show Box w8 w.heap.size (.int .i64 7) (.string P) (.string T) (.string F) (.int .i64 A) (.slice pa no ca) (.slice pb nn cb) ∧ Box w8 w1.heap.size (.int .i64 K') (.string P') (.string T') (.string F') (.int .i64 A') (.slice qa mo da) (.slice qb mn db) ∧ Box w8 w2.heap.size (.int .i64 0) (.string ⟨#[]⟩) (.string ⟨#[]⟩) (.string ⟨#[]⟩) (.int .i64 0) (.slice none 0 0) (.slice none 0 0) ∧ Box w8 w3.heap.size (.int .i64 0) (.string ⟨#[]⟩) (.string ⟨#[]⟩) (.string ⟨#[]⟩) (.int .i64 0) (.slice none 0 0) (.slice none 0 0) from ⟨HBx.out.1.kept f8, HBx.out.2.1.kept f8, HBx.out.2.2.1.kept f8, HBx.out.2.2.2.kept f8⟩)
     replace HWx := Zz (HWx.out.then7 f8)
     replace HBx := HB8
     clear HB8 f8 y0 y1 y2 y3 y4 y5 y6
     cases R8 with
     | false =>
      have HC := Zz (HCk.out.trans (show Zu _ = Yz from by unfold Zu; rw [if_neg (by simp [HE8.out])]))
      have HBf := Zz (show Box w8 w2.heap.size (.int .i64 0) (.string ⟨#[]⟩) (.string ⟨#[]⟩) (.string ⟨#[]⟩) (.int .i64 0) (.slice none 0 0) (.slice none 0 0) ∧ Box w8 w3.heap.size (.int .i64 0) (.string ⟨#[]⟩) (.string ⟨#[]⟩) (.string ⟨#[]⟩) (.int .i64 0) (.slice none 0 0) (.slice none 0 0) from ⟨HBx.out.2.2.1, HBx.out.2.2.2⟩)
      obtain ⟨c0, c1, c2, c3, c4, c5, c6⟩ := HBf.out.1.cells
      obtain ⟨d0, d1, d2, d3, d4, d5, d6⟩ := HBf.out.2.cells
      have cz := HBf.out.1.frozen
      have dz := HBf.out.2.frozen
      go_wp2_with fail
      have hfin := Zt HWx.out HBf.out.1 HBf.out.2 n6 (by have := HN.out; omega) (by have := HN.out; omega) (.int .i64 0) (.string ⟨#[]⟩) (.string ⟨#[]⟩) (.string ⟨#[]⟩) (.int .i64 0) (.slice none 0 0) (.slice none 0 0) (.int .i64 0) (.string ⟨#[]⟩) (.string ⟨#[]⟩) (.string ⟨#[]⟩) (.int .i64 0) (.slice none 0 0) (.slice none 0 0)
      exact Zr (u := .bool false) rfl rfl rfl rfl rfl hfin.1 hfin.2.1 (Zq HC.out hfin.2.2.1)
     | true =>
      have HC := Zz (HCk.out.trans (show Zu (⟨K', P', T', F', A', lO', lN'⟩, ⟨7, P, T, F, A, lO, lN⟩, true) = (⟨K', P', T', F', A', lO', lN'⟩, ⟨7, P, T, F, A, lO, lN⟩, true) from by unfold Zu; rw [if_pos (by simp [HE7.out, HE8.out])]))
      have HS := Zz (show (∀ w', Fr (fun k => k = w2.heap.size ∨ k = w3.heap.size) w8 w' → Fr (fun k => k = w2.heap.size ∨ k = w3.heap.size) w8 w' ∧ w'.cell? ⟨w.heap.size, 0, none⟩ = some (.int .i64 7) ∧ w'.cell? ⟨w.heap.size, 1, none⟩ = some (.string P) ∧ w'.cell? ⟨w.heap.size, 2, none⟩ = some (.string T) ∧ w'.cell? ⟨w.heap.size, 3, none⟩ = some (.string F) ∧ w'.cell? ⟨w.heap.size, 4, none⟩ = some (.int .i64 A) ∧ w'.cell? ⟨w.heap.size, 5, none⟩ = some (.slice pa no ca) ∧ w'.cell? ⟨w.heap.size, 6, none⟩ = some (.slice pb nn cb) ∧ w'.cell? ⟨w1.heap.size, 0, none⟩ = some (.int .i64 K') ∧ w'.cell? ⟨w1.heap.size, 1, none⟩ = some (.string P') ∧ w'.cell? ⟨w1.heap.size, 2, none⟩ = some (.string T') ∧ w'.cell? ⟨w1.heap.size, 3, none⟩ = some (.string F') ∧ w'.cell? ⟨w1.heap.size, 4, none⟩ = some (.int .i64 A') ∧ w'.cell? ⟨w1.heap.size, 5, none⟩ = some (.slice qa mo da) ∧ w'.cell? ⟨w1.heap.size, 6, none⟩ = some (.slice qb mn db)) from fun w' f => by
       obtain ⟨x0, x1, x2, x3, x4, x5, x6⟩ := (HBx.out.1.fr f (by have := HN.out; omega)).cells
       obtain ⟨y0, y1, y2, y3, y4, y5, y6⟩ := (HBx.out.2.1.fr f (by have := HN.out; omega)).cells
       exact ⟨f, x0, x1, x2, x3, x4, x5, x6, y0, y1, y2, y3, y4, y5, y6⟩)
      have hS0 := HS.out w8.drew (Fr.drew _ w8)
      have hS6 := HS.out (setP w8 w2.heap.size (.int .i64 K') (.string P') (.string T') (.string F') (.int .i64 A') (.slice qa mo da) (.slice qb mn db)).drew (Fr.then (Fr.setP _ (Or.inl rfl) _ _ _ _ _ _ _) (Fr.drew _ _))
      have hS7 := HS.out (setP (setP w8 w2.heap.size (.int .i64 K') (.string P') (.string T') (.string F') (.int .i64 A') (.slice qa mo da) (.slice qb mn db)) w3.heap.size (.int .i64 7) (.string P) (.string T) (.string F) (.int .i64 A) (.slice pa no ca) (.slice pb nn cb)).drew (Fr.then (Fr.then (Fr.setP _ (Or.inl rfl) _ _ _ _ _ _ _) (Fr.setP _ (Or.inr rfl) _ _ _ _ _ _ _)) (Fr.drew _ _))
      obtain ⟨c0, c1, c2, c3, c4, c5, c6⟩ := HBx.out.2.2.1.cells
      obtain ⟨d0, d1, d2, d3, d4, d5, d6⟩ := HBx.out.2.2.2.cells
      have cz := HBx.out.2.2.1.frozen
      have dz := HBx.out.2.2.2.frozen
      go_wp2_with fail
      go_region_held3 (fun w' => Fr (fun k => k = w2.heap.size ∨ k = w3.heap.size) w8 w' ∧ w'.cell? ⟨w.heap.size, 0, none⟩ = some (.int .i64 7) ∧ w'.cell? ⟨w.heap.size, 1, none⟩ = some (.string P) ∧ w'.cell? ⟨w.heap.size, 2, none⟩ = some (.string T) ∧ w'.cell? ⟨w.heap.size, 3, none⟩ = some (.string F) ∧ w'.cell? ⟨w.heap.size, 4, none⟩ = some (.int .i64 A) ∧ w'.cell? ⟨w.heap.size, 5, none⟩ = some (.slice pa no ca) ∧ w'.cell? ⟨w.heap.size, 6, none⟩ = some (.slice pb nn cb) ∧ w'.cell? ⟨w1.heap.size, 0, none⟩ = some (.int .i64 K') ∧ w'.cell? ⟨w1.heap.size, 1, none⟩ = some (.string P') ∧ w'.cell? ⟨w1.heap.size, 2, none⟩ = some (.string T') ∧ w'.cell? ⟨w1.heap.size, 3, none⟩ = some (.string F') ∧ w'.cell? ⟨w1.heap.size, 4, none⟩ = some (.int .i64 A') ∧ w'.cell? ⟨w1.heap.size, 5, none⟩ = some (.slice qa mo da) ∧ w'.cell? ⟨w1.heap.size, 6, none⟩ = some (.slice qb mn db))
       (first | with_reducible exact hS0 | with_reducible exact hS6 | with_reducible exact hS7)
       (fail)
      clear hS0 hS6 hS7 cz dz c0 c1 c2 c3 c4 c5 c6 d0 d1 d2 d3 d4 d5 d6
      go_wp2_with fail
      have hfin := Zt HWx.out HBx.out.2.2.1 HBx.out.2.2.2 n6 (by have := HN.out; omega) (by have := HN.out; omega) (.int .i64 K') (.string P') (.string T') (.string F') (.int .i64 A') (.slice qa mo da) (.slice qb mn db) (.int .i64 7) (.string P) (.string T) (.string F) (.int .i64 A) (.slice pa no ca) (.slice pb nn cb)
      have hfr := hfin.2.2.1.then7 (Fr.drew None' _)
      exact Zr rfl rfl rfl rfl rfl hfin.1.drew hfin.2.1.drew (by rw [HC.out]; exact ⟨_, _, rfl, HV.out.1, HV.out.2, hfr⟩)
 ·have x7 : (K == 7) = false := beq_eq_false_iff_ne.2 h7
  by_cases hP : P = P'
  ·skip
   subst hP
   rw [if_pos rfl, if_neg (fun h => h7 h.1)] at hE
   subst hE
   simp only at HQ1 HQ2 HV HCk
   go_wp2_with (first | (go_at_call 79; with_reducible (refine (HCx.out _).mono ?_); rintro e w' ⟨rfl, f⟩; replace HFc := Zz (Fr.then7 (Hid.out HFc) f); clear f x0 x1 x2 x3 x4 x5 x6 y0 y1 y2 y3 y4 y5 y6 c0 c1 c2 c3 c4 c5 c6 d0 d1 d2 d3 d4 d5 d6 xz yz cz dz; obtain ⟨x0, x1, x2, x3, x4, x5, x6⟩ := Box.cells (HBs.out _ (Hid.out HFc)).1; obtain ⟨y0, y1, y2, y3, y4, y5, y6⟩ := Box.cells (HBs.out _ (Hid.out HFc)).2.1; obtain ⟨c0, c1, c2, c3, c4, c5, c6⟩ := Box.cells (HBs.out _ (Hid.out HFc)).2.2.1; obtain ⟨d0, d1, d2, d3, d4, d5, d6⟩ := Box.cells (HBs.out _ (Hid.out HFc)).2.2.2; have xz := Box.frozen (HBs.out _ (Hid.out HFc)).1; have yz := Box.frozen (HBs.out _ (Hid.out HFc)).2.1; have cz := Box.frozen (HBs.out _ (Hid.out HFc)).2.2.1; have dz := Box.frozen (HBs.out _ (Hid.out HFc)).2.2.2) | (go_at_call 79; with_reducible (refine (HCy.out _).mono ?_); rintro e w' ⟨rfl, f⟩; replace HFc := Zz (Fr.then7 (Hid.out HFc) f); clear f x0 x1 x2 x3 x4 x5 x6 y0 y1 y2 y3 y4 y5 y6 c0 c1 c2 c3 c4 c5 c6 d0 d1 d2 d3 d4 d5 d6 xz yz cz dz; obtain ⟨x0, x1, x2, x3, x4, x5, x6⟩ := Box.cells (HBs.out _ (Hid.out HFc)).1; obtain ⟨y0, y1, y2, y3, y4, y5, y6⟩ := Box.cells (HBs.out _ (Hid.out HFc)).2.1; obtain ⟨c0, c1, c2, c3, c4, c5, c6⟩ := Box.cells (HBs.out _ (Hid.out HFc)).2.2.1; obtain ⟨d0, d1, d2, d3, d4, d5, d6⟩ := Box.cells (HBs.out _ (Hid.out HFc)).2.2.2; have xz := Box.frozen (HBs.out _ (Hid.out HFc)).1; have yz := Box.frozen (HBs.out _ (Hid.out HFc)).2.1; have cz := Box.frozen (HBs.out _ (Hid.out HFc)).2.2.1; have dz := Box.frozen (HBs.out _ (Hid.out HFc)).2.2.2) | (go_at_call 82; with_reducible (refine (HAx.out _).mono ?_); rintro e w' ⟨rfl, f⟩; replace HFc := Zz (Fr.then7 (Hid.out HFc) f); clear f x0 x1 x2 x3 x4 x5 x6 y0 y1 y2 y3 y4 y5 y6 c0 c1 c2 c3 c4 c5 c6 d0 d1 d2 d3 d4 d5 d6 xz yz cz dz; obtain ⟨x0, x1, x2, x3, x4, x5, x6⟩ := Box.cells (HBs.out _ (Hid.out HFc)).1; obtain ⟨y0, y1, y2, y3, y4, y5, y6⟩ := Box.cells (HBs.out _ (Hid.out HFc)).2.1; obtain ⟨c0, c1, c2, c3, c4, c5, c6⟩ := Box.cells (HBs.out _ (Hid.out HFc)).2.2.1; obtain ⟨d0, d1, d2, d3, d4, d5, d6⟩ := Box.cells (HBs.out _ (Hid.out HFc)).2.2.2; have xz := Box.frozen (HBs.out _ (Hid.out HFc)).1; have yz := Box.frozen (HBs.out _ (Hid.out HFc)).2.1; have cz := Box.frozen (HBs.out _ (Hid.out HFc)).2.2.1; have dz := Box.frozen (HBs.out _ (Hid.out HFc)).2.2.2) | (go_at_call 82; with_reducible (refine (HAy.out _).mono ?_); rintro e w' ⟨rfl, f⟩; replace HFc := Zz (Fr.then7 (Hid.out HFc) f); clear f x0 x1 x2 x3 x4 x5 x6 y0 y1 y2 y3 y4 y5 y6 c0 c1 c2 c3 c4 c5 c6 d0 d1 d2 d3 d4 d5 d6 xz yz cz dz; obtain ⟨x0, x1, x2, x3, x4, x5, x6⟩ := Box.cells (HBs.out _ (Hid.out HFc)).1; obtain ⟨y0, y1, y2, y3, y4, y5, y6⟩ := Box.cells (HBs.out _ (Hid.out HFc)).2.1; obtain ⟨c0, c1, c2, c3, c4, c5, c6⟩ := Box.cells (HBs.out _ (Hid.out HFc)).2.2.1; obtain ⟨d0, d1, d2, d3, d4, d5, d6⟩ := Box.cells (HBs.out _ (Hid.out HFc)).2.2.2; have xz := Box.frozen (HBs.out _ (Hid.out HFc)).1; have yz := Box.frozen (HBs.out _ (Hid.out HFc)).2.1; have cz := Box.frozen (HBs.out _ (Hid.out HFc)).2.2.1; have dz := Box.frozen (HBs.out _ (Hid.out HFc)).2.2.2) | fail)
   have HBx := Zz (HBs.out _ (Hid.out HFc))
   have HWx := Zz (HF.out.then7 (Hid.out HFc))
   have HC := Zz (HCk.out.trans (show Zu _ = Yz from by unfold Zu; rw [if_neg (by simp)]))
   have hfin := Zt HWx.out HBx.out.2.2.1 HBx.out.2.2.2 n6 (by have := HN.out; omega) (by have := HN.out; omega) (.int .i64 0) (.string ⟨#[]⟩) (.string ⟨#[]⟩) (.string ⟨#[]⟩) (.int .i64 0) (.slice none 0 0) (.slice none 0 0) (.int .i64 0) (.string ⟨#[]⟩) (.string ⟨#[]⟩) (.string ⟨#[]⟩) (.int .i64 0) (.slice none 0 0) (.slice none 0 0)
   exact Zr (u := .bool false) rfl rfl rfl rfl rfl hfin.1 hfin.2.1 (Zq HC.out hfin.2.2.1)
  ·skip
   obtain ⟨z1, z2⟩ := Lines.str_no hP
   rw [if_neg hP] at hE
   subst hE
   clear hP
   simp only at HQ1 HQ2 HV HCk
   go_wp2_with (first | (go_at_call 79; with_reducible (refine (HCx.out _).mono ?_); rintro e w' ⟨rfl, f⟩; replace HFc := Zz (Fr.then7 (Hid.out HFc) f); clear f x0 x1 x2 x3 x4 x5 x6 y0 y1 y2 y3 y4 y5 y6 c0 c1 c2 c3 c4 c5 c6 d0 d1 d2 d3 d4 d5 d6 xz yz cz dz; obtain ⟨x0, x1, x2, x3, x4, x5, x6⟩ := Box.cells (HBs.out _ (Hid.out HFc)).1; obtain ⟨y0, y1, y2, y3, y4, y5, y6⟩ := Box.cells (HBs.out _ (Hid.out HFc)).2.1; obtain ⟨c0, c1, c2, c3, c4, c5, c6⟩ := Box.cells (HBs.out _ (Hid.out HFc)).2.2.1; obtain ⟨d0, d1, d2, d3, d4, d5, d6⟩ := Box.cells (HBs.out _ (Hid.out HFc)).2.2.2; have xz := Box.frozen (HBs.out _ (Hid.out HFc)).1; have yz := Box.frozen (HBs.out _ (Hid.out HFc)).2.1; have cz := Box.frozen (HBs.out _ (Hid.out HFc)).2.2.1; have dz := Box.frozen (HBs.out _ (Hid.out HFc)).2.2.2) | (go_at_call 79; with_reducible (refine (HCy.out _).mono ?_); rintro e w' ⟨rfl, f⟩; replace HFc := Zz (Fr.then7 (Hid.out HFc) f); clear f x0 x1 x2 x3 x4 x5 x6 y0 y1 y2 y3 y4 y5 y6 c0 c1 c2 c3 c4 c5 c6 d0 d1 d2 d3 d4 d5 d6 xz yz cz dz; obtain ⟨x0, x1, x2, x3, x4, x5, x6⟩ := Box.cells (HBs.out _ (Hid.out HFc)).1; obtain ⟨y0, y1, y2, y3, y4, y5, y6⟩ := Box.cells (HBs.out _ (Hid.out HFc)).2.1; obtain ⟨c0, c1, c2, c3, c4, c5, c6⟩ := Box.cells (HBs.out _ (Hid.out HFc)).2.2.1; obtain ⟨d0, d1, d2, d3, d4, d5, d6⟩ := Box.cells (HBs.out _ (Hid.out HFc)).2.2.2; have xz := Box.frozen (HBs.out _ (Hid.out HFc)).1; have yz := Box.frozen (HBs.out _ (Hid.out HFc)).2.1; have cz := Box.frozen (HBs.out _ (Hid.out HFc)).2.2.1; have dz := Box.frozen (HBs.out _ (Hid.out HFc)).2.2.2) | (go_at_call 82; with_reducible (refine (HAx.out _).mono ?_); rintro e w' ⟨rfl, f⟩; replace HFc := Zz (Fr.then7 (Hid.out HFc) f); clear f x0 x1 x2 x3 x4 x5 x6 y0 y1 y2 y3 y4 y5 y6 c0 c1 c2 c3 c4 c5 c6 d0 d1 d2 d3 d4 d5 d6 xz yz cz dz; obtain ⟨x0, x1, x2, x3, x4, x5, x6⟩ := Box.cells (HBs.out _ (Hid.out HFc)).1; obtain ⟨y0, y1, y2, y3, y4, y5, y6⟩ := Box.cells (HBs.out _ (Hid.out HFc)).2.1; obtain ⟨c0, c1, c2, c3, c4, c5, c6⟩ := Box.cells (HBs.out _ (Hid.out HFc)).2.2.1; obtain ⟨d0, d1, d2, d3, d4, d5, d6⟩ := Box.cells (HBs.out _ (Hid.out HFc)).2.2.2; have xz := Box.frozen (HBs.out _ (Hid.out HFc)).1; have yz := Box.frozen (HBs.out _ (Hid.out HFc)).2.1; have cz := Box.frozen (HBs.out _ (Hid.out HFc)).2.2.1; have dz := Box.frozen (HBs.out _ (Hid.out HFc)).2.2.2) | (go_at_call 82; with_reducible (refine (HAy.out _).mono ?_); rintro e w' ⟨rfl, f⟩; replace HFc := Zz (Fr.then7 (Hid.out HFc) f); clear f x0 x1 x2 x3 x4 x5 x6 y0 y1 y2 y3 y4 y5 y6 c0 c1 c2 c3 c4 c5 c6 d0 d1 d2 d3 d4 d5 d6 xz yz cz dz; obtain ⟨x0, x1, x2, x3, x4, x5, x6⟩ := Box.cells (HBs.out _ (Hid.out HFc)).1; obtain ⟨y0, y1, y2, y3, y4, y5, y6⟩ := Box.cells (HBs.out _ (Hid.out HFc)).2.1; obtain ⟨c0, c1, c2, c3, c4, c5, c6⟩ := Box.cells (HBs.out _ (Hid.out HFc)).2.2.1; obtain ⟨d0, d1, d2, d3, d4, d5, d6⟩ := Box.cells (HBs.out _ (Hid.out HFc)).2.2.2; have xz := Box.frozen (HBs.out _ (Hid.out HFc)).1; have yz := Box.frozen (HBs.out _ (Hid.out HFc)).2.1; have cz := Box.frozen (HBs.out _ (Hid.out HFc)).2.2.1; have dz := Box.frozen (HBs.out _ (Hid.out HFc)).2.2.2) | fail)
   have HBx := Zz (HBs.out _ (Hid.out HFc))
   have HWx := Zz (HF.out.then7 (Hid.out HFc))
   obtain ⟨R7, hR7⟩ : ∃ R, Zw ⟨K, P, T, F, A, lO, lN⟩ = R := ⟨_, rfl⟩
   obtain ⟨R8, hR8⟩ : ∃ R, Zw ⟨K', P', T', F', A', lO', lN'⟩ = R := ⟨_, rfl⟩
   rw [hR7] at HQ2
   rw [hR8] at HQ1
   have HE7 := Zz hR7
   have HE8 := Zz hR8
   clear hR7 hR8
   with_reducible refine (HQ2.out _ HWx.out).mono ?_
   rintro e w7 ⟨rfl, f7⟩
   have HB7 := Zz (show Box w7 w.heap.size (.int .i64 K) (.string P) (.string T) (.string F) (.int .i64 A) (.slice pa no ca) (.slice pb nn cb) ∧ Box w7 w1.heap.size (.int .i64 K') (.string P') (.string T') (.string F') (.int .i64 A') (.slice qa mo da) (.slice qb mn db) ∧ Box w7 w2.heap.size (.int .i64 0) (.string ⟨#[]⟩) (.string ⟨#[]⟩) (.string ⟨#[]⟩) (.int .i64 0) (.slice none 0 0) (.slice none 0 0) ∧ Box w7 w3.heap.size (.int .i64 0) (.string ⟨#[]⟩) (.string ⟨#[]⟩) (.string ⟨#[]⟩) (.int .i64 0) (.slice none 0 0) (.slice none 0 0) from ⟨HBx.out.1.kept f7, HBx.out.2.1.kept f7, HBx.out.2.2.1.kept f7, HBx.out.2.2.2.kept f7⟩)
   replace HWx := Zz (HWx.out.then7 f7)
   replace HBx := HB7
   clear HB7 f7 x0 x1 x2 x3 x4 x5 x6 y0 y1 y2 y3 y4 y5 y6 c0 c1 c2 c3 c4 c5 c6 d0 d1 d2 d3 d4 d5 d6 xz yz cz dz
   cases R7 with
   | false =>
    have HC := Zz (HCk.out.trans (show Zu _ = Yz from by unfold Zu; rw [if_neg (by simp [HE7.out])]))
    have HBf := Zz (show Box w7 w2.heap.size (.int .i64 0) (.string ⟨#[]⟩) (.string ⟨#[]⟩) (.string ⟨#[]⟩) (.int .i64 0) (.slice none 0 0) (.slice none 0 0) ∧ Box w7 w3.heap.size (.int .i64 0) (.string ⟨#[]⟩) (.string ⟨#[]⟩) (.string ⟨#[]⟩) (.int .i64 0) (.slice none 0 0) (.slice none 0 0) from ⟨HBx.out.2.2.1, HBx.out.2.2.2⟩)
    obtain ⟨c0, c1, c2, c3, c4, c5, c6⟩ := HBf.out.1.cells
    obtain ⟨d0, d1, d2, d3, d4, d5, d6⟩ := HBf.out.2.cells
    have cz := HBf.out.1.frozen
    have dz := HBf.out.2.frozen
    go_wp2_with fail
    have hfin := Zt HWx.out HBf.out.1 HBf.out.2 n6 (by have := HN.out; omega) (by have := HN.out; omega) (.int .i64 0) (.string ⟨#[]⟩) (.string ⟨#[]⟩) (.string ⟨#[]⟩) (.int .i64 0) (.slice none 0 0) (.slice none 0 0) (.int .i64 0) (.string ⟨#[]⟩) (.string ⟨#[]⟩) (.string ⟨#[]⟩) (.int .i64 0) (.slice none 0 0) (.slice none 0 0)
    exact Zr (u := .bool false) rfl rfl rfl rfl rfl hfin.1 hfin.2.1 (Zq HC.out hfin.2.2.1)
   | true =>
    obtain ⟨y0, y1, y2, y3, y4, y5, y6⟩ := HBx.out.2.1.cells
    go_wp2_with fail
    with_reducible refine (HQ1.out _ HWx.out).mono ?_
    rintro e w8 ⟨rfl, f8⟩
    have HB8 := Zz (show Box w8 w.heap.size (.int .i64 K) (.string P) (.string T) (.string F) (.int .i64 A) (.slice pa no ca) (.slice pb nn cb) ∧ Box w8 w1.heap.size (.int .i64 K') (.string P') (.string T') (.string F') (.int .i64 A') (.slice qa mo da) (.slice qb mn db) ∧ Box w8 w2.heap.size (.int .i64 0) (.string ⟨#[]⟩) (.string ⟨#[]⟩) (.string ⟨#[]⟩) (.int .i64 0) (.slice none 0 0) (.slice none 0 0) ∧ Box w8 w3.heap.size (.int .i64 0) (.string ⟨#[]⟩) (.string ⟨#[]⟩) (.string ⟨#[]⟩) (.int .i64 0) (.slice none 0 0) (.slice none 0 0) from ⟨HBx.out.1.kept f8, HBx.out.2.1.kept f8, HBx.out.2.2.1.kept f8, HBx.out.2.2.2.kept f8⟩)
    replace HWx := Zz (HWx.out.then7 f8)
    replace HBx := HB8
    clear HB8 f8 y0 y1 y2 y3 y4 y5 y6
    cases R8 with
    | false =>
     have HC := Zz (HCk.out.trans (show Zu _ = Yz from by unfold Zu; rw [if_neg (by simp [HE8.out])]))
     have HBf := Zz (show Box w8 w2.heap.size (.int .i64 0) (.string ⟨#[]⟩) (.string ⟨#[]⟩) (.string ⟨#[]⟩) (.int .i64 0) (.slice none 0 0) (.slice none 0 0) ∧ Box w8 w3.heap.size (.int .i64 0) (.string ⟨#[]⟩) (.string ⟨#[]⟩) (.string ⟨#[]⟩) (.int .i64 0) (.slice none 0 0) (.slice none 0 0) from ⟨HBx.out.2.2.1, HBx.out.2.2.2⟩)
     obtain ⟨c0, c1, c2, c3, c4, c5, c6⟩ := HBf.out.1.cells
     obtain ⟨d0, d1, d2, d3, d4, d5, d6⟩ := HBf.out.2.cells
     have cz := HBf.out.1.frozen
     have dz := HBf.out.2.frozen
     go_wp2_with fail
     have hfin := Zt HWx.out HBf.out.1 HBf.out.2 n6 (by have := HN.out; omega) (by have := HN.out; omega) (.int .i64 0) (.string ⟨#[]⟩) (.string ⟨#[]⟩) (.string ⟨#[]⟩) (.int .i64 0) (.slice none 0 0) (.slice none 0 0) (.int .i64 0) (.string ⟨#[]⟩) (.string ⟨#[]⟩) (.string ⟨#[]⟩) (.int .i64 0) (.slice none 0 0) (.slice none 0 0)
     exact Zr (u := .bool false) rfl rfl rfl rfl rfl hfin.1 hfin.2.1 (Zq HC.out hfin.2.2.1)
    | true =>
     have HC := Zz (HCk.out.trans (show Zu (⟨K', P', T', F', A', lO', lN'⟩, ⟨K, P, T, F, A, lO, lN⟩, true) = (⟨K', P', T', F', A', lO', lN'⟩, ⟨K, P, T, F, A, lO, lN⟩, true) from by unfold Zu; rw [if_pos (by simp [HE7.out, HE8.out])]))
     have HS := Zz (show (∀ w', Fr (fun k => k = w2.heap.size ∨ k = w3.heap.size) w8 w' → Fr (fun k => k = w2.heap.size ∨ k = w3.heap.size) w8 w' ∧ w'.cell? ⟨w.heap.size, 0, none⟩ = some (.int .i64 K) ∧ w'.cell? ⟨w.heap.size, 1, none⟩ = some (.string P) ∧ w'.cell? ⟨w.heap.size, 2, none⟩ = some (.string T) ∧ w'.cell? ⟨w.heap.size, 3, none⟩ = some (.string F) ∧ w'.cell? ⟨w.heap.size, 4, none⟩ = some (.int .i64 A) ∧ w'.cell? ⟨w.heap.size, 5, none⟩ = some (.slice pa no ca) ∧ w'.cell? ⟨w.heap.size, 6, none⟩ = some (.slice pb nn cb) ∧ w'.cell? ⟨w1.heap.size, 0, none⟩ = some (.int .i64 K') ∧ w'.cell? ⟨w1.heap.size, 1, none⟩ = some (.string P') ∧ w'.cell? ⟨w1.heap.size, 2, none⟩ = some (.string T') ∧ w'.cell? ⟨w1.heap.size, 3, none⟩ = some (.string F') ∧ w'.cell? ⟨w1.heap.size, 4, none⟩ = some (.int .i64 A') ∧ w'.cell? ⟨w1.heap.size, 5, none⟩ = some (.slice qa mo da) ∧ w'.cell? ⟨w1.heap.size, 6, none⟩ = some (.slice qb mn db)) from fun w' f => by
      obtain ⟨x0, x1, x2, x3, x4, x5, x6⟩ := (HBx.out.1.fr f (by have := HN.out; omega)).cells
      obtain ⟨y0, y1, y2, y3, y4, y5, y6⟩ := (HBx.out.2.1.fr f (by have := HN.out; omega)).cells
      exact ⟨f, x0, x1, x2, x3, x4, x5, x6, y0, y1, y2, y3, y4, y5, y6⟩)
     have hS0 := HS.out w8.drew (Fr.drew _ w8)
     have hS6 := HS.out (setP w8 w2.heap.size (.int .i64 K') (.string P') (.string T') (.string F') (.int .i64 A') (.slice qa mo da) (.slice qb mn db)).drew (Fr.then (Fr.setP _ (Or.inl rfl) _ _ _ _ _ _ _) (Fr.drew _ _))
     have hS7 := HS.out (setP (setP w8 w2.heap.size (.int .i64 K') (.string P') (.string T') (.string F') (.int .i64 A') (.slice qa mo da) (.slice qb mn db)) w3.heap.size (.int .i64 K) (.string P) (.string T) (.string F) (.int .i64 A) (.slice pa no ca) (.slice pb nn cb)).drew (Fr.then (Fr.then (Fr.setP _ (Or.inl rfl) _ _ _ _ _ _ _) (Fr.setP _ (Or.inr rfl) _ _ _ _ _ _ _)) (Fr.drew _ _))
     obtain ⟨c0, c1, c2, c3, c4, c5, c6⟩ := HBx.out.2.2.1.cells
     obtain ⟨d0, d1, d2, d3, d4, d5, d6⟩ := HBx.out.2.2.2.cells
     have cz := HBx.out.2.2.1.frozen
     have dz := HBx.out.2.2.2.frozen
     go_wp2_with fail
     go_region_held3 (fun w' => Fr (fun k => k = w2.heap.size ∨ k = w3.heap.size) w8 w' ∧ w'.cell? ⟨w.heap.size, 0, none⟩ = some (.int .i64 K) ∧ w'.cell? ⟨w.heap.size, 1, none⟩ = some (.string P) ∧ w'.cell? ⟨w.heap.size, 2, none⟩ = some (.string T) ∧ w'.cell? ⟨w.heap.size, 3, none⟩ = some (.string F) ∧ w'.cell? ⟨w.heap.size, 4, none⟩ = some (.int .i64 A) ∧ w'.cell? ⟨w.heap.size, 5, none⟩ = some (.slice pa no ca) ∧ w'.cell? ⟨w.heap.size, 6, none⟩ = some (.slice pb nn cb) ∧ w'.cell? ⟨w1.heap.size, 0, none⟩ = some (.int .i64 K') ∧ w'.cell? ⟨w1.heap.size, 1, none⟩ = some (.string P') ∧ w'.cell? ⟨w1.heap.size, 2, none⟩ = some (.string T') ∧ w'.cell? ⟨w1.heap.size, 3, none⟩ = some (.string F') ∧ w'.cell? ⟨w1.heap.size, 4, none⟩ = some (.int .i64 A') ∧ w'.cell? ⟨w1.heap.size, 5, none⟩ = some (.slice qa mo da) ∧ w'.cell? ⟨w1.heap.size, 6, none⟩ = some (.slice qb mn db))
      (first | with_reducible exact hS0 | with_reducible exact hS6 | with_reducible exact hS7)
      (fail)
     clear hS0 hS6 hS7 cz dz c0 c1 c2 c3 c4 c5 c6 d0 d1 d2 d3 d4 d5 d6
     go_wp2_with fail
     have hfin := Zt HWx.out HBx.out.2.2.1 HBx.out.2.2.2 n6 (by have := HN.out; omega) (by have := HN.out; omega) (.int .i64 K') (.string P') (.string T') (.string F') (.int .i64 A') (.slice qa mo da) (.slice qb mn db) (.int .i64 K) (.string P) (.string T) (.string F) (.int .i64 A) (.slice pa no ca) (.slice pb nn cb)
     have hfr := hfin.2.2.1.then7 (Fr.drew None' _)
     exact Zr rfl rfl rfl rfl rfl hfin.1.drew hfin.2.1.drew (by rw [HC.out]; exact ⟨_, _, rfl, HV.out.1, HV.out.2, hfr⟩)
theorem rcomm_12 (x y : Pr) (pa pb qa qb : Option Addr) (no nn ca cb mo mn da db : Nat) (w : World) (kx : Ys x = 1 ∧ 7 ≤ x.kind ∧ x.kind ≤ 9) (ky : Ys y = 2 ∧ y.kind = 10) (hno : x.old.length = no) (hnn : x.new.length = nn) (hmo : y.old.length = mo) (hmn : y.new.length = mn) (sx : Zs x) (sy : Zs y) (fx : Zw x = true) (fy : Zw y = true)
  (HR1 : Hid (∀ w', Fr None' w w' → Calls Tryz.prog 61 #[.agg #[.int .i64 x.kind, .string x.path, .string x.dst, .string x.src, .int .i64 x.pos, .slice pa no ca, .slice pb nn cb]] w' (fun e w'' => e = .returned (.bool true) ∧ Fr None' w' w'')))
  (HR2 : Hid (∀ w', Fr None' w w' → Calls Tryz.prog 61 #[.agg #[.int .i64 y.kind, .string y.path, .string y.dst, .string y.src, .int .i64 y.pos, .slice qa mo da, .slice qb mn db]] w' (fun e w'' => e = .returned (.bool true) ∧ Fr None' w' w'')))
  (HQ1 : Hid (∀ w', Fr None' w w' → Calls Tryz.prog 61 #[.agg #[.int .i64 (Zx x y).1.kind, .string (Zx x y).1.path, .string (Zx x y).1.dst, .string (Zx x y).1.src, .int .i64 (Zx x y).1.pos, .slice qa mo da, .slice qb mn db]] w' (fun e w'' => e = .returned (.bool (Zw (Zx x y).1)) ∧ Fr None' w' w'')))
  (HQ2 : Hid (∀ w', Fr None' w w' → Calls Tryz.prog 61 #[.agg #[.int .i64 (Zx x y).2.1.kind, .string (Zx x y).2.1.path, .string (Zx x y).2.1.dst, .string (Zx x y).2.1.src, .int .i64 (Zx x y).2.1.pos, .slice pa no ca, .slice pb nn cb]] w' (fun e w'' => e = .returned (.bool (Zw (Zx x y).2.1)) ∧ Fr None' w' w'')))
  (w0 : World) (HV : Hid (Yf w0 (.agg #[.int .i64 (Zx x y).1.kind, .string (Zx x y).1.path, .string (Zx x y).1.dst, .string (Zx x y).1.src, .int .i64 (Zx x y).1.pos, .slice qa mo da, .slice qb mn db]) (Zx x y).1 ∧ Yf w0 (.agg #[.int .i64 (Zx x y).2.1.kind, .string (Zx x y).2.1.path, .string (Zx x y).2.1.dst, .string (Zx x y).2.1.src, .int .i64 (Zx x y).2.1.pos, .slice pa no ca, .slice pb nn cb]) (Zx x y).2.1)) :
  Calls Tryz.prog 57 #[.agg #[.int .i64 x.kind, .string x.path, .string x.dst, .string x.src, .int .i64 x.pos, .slice pa no ca, .slice pb nn cb], .agg #[.int .i64 y.kind, .string y.path, .string y.dst, .string y.src, .int .i64 y.pos, .slice qa mo da, .slice qb mn db]] w fun e w' => Z9 x y w0 w e w' := by
 have HCk := Zz (show Zj x y = Zu (Zx x y) from by unfold Zj; rw [if_pos (by simp [fx, fy])])
 have HRu := Zz (show Zx x y = Zx x y from rfl)
 have HLn := Zz (fun (h7 : x.kind = 7) (h7' : y.kind = 7) w' => Yh x y pa pb qa qb no nn ca cb mo mn da db w' hno hnn hmo hmn (by have := sx.old; omega) (by have := sx.new; omega) (by have := sy.old; omega) (by have := sy.new; omega) (Yt fx h7) (Yt fy h7'))
 have HCx := Zz (fun w' => Z8 x pa pb no nn ca cb w')
 have HCy := Zz (fun w' => Z8 y qa qb mo mn da db w')
 have HAx := Zz (fun w' => Zf x pa pb no nn ca cb w')
 have HAy := Zz (fun w' => Zf y qa qb mo mn da db w')
 have HP1 := Zz (fun w' => Zn x y.path pa pb no nn ca cb w' sx.path sx.dst sy.path)
 have HP2 := Zz (fun w' => Zn x y.dst pa pb no nn ca cb w' sx.path sx.dst sy.dst)
 have HP3 := Zz (fun w' => Zn y x.path qa qb mo mn da db w' sy.path sy.dst sx.path)
 have HP4 := Zz (show ∀ w', Calls Tryz.prog 63 #[.string x.path, .string y.path] w' (fun e w'' => e = .returned (.bool (apP x.path y.path)) ∧ w' = w'') from fun w' => Path.rapart_any x.path y.path w' (by have := sx.path; omega) (by have := sy.path; omega))
 have HM1 := Zz (show ∀ w', Calls Tryz.prog 80 #[.string y.path, .string x.dst, .string x.path] w' (fun e w'' => e = .returned (.tuple #[.string (moP y.path x.dst x.path), .bool (wiP y.path x.dst)]) ∧ w' = w'') from fun w' => Path.rmoved_any y.path x.dst x.path w' (by have := sy.path; omega) (by have := sx.dst; omega) (by have := sx.path; omega))
 have HM2 := Zz (show ∀ w', Calls Tryz.prog 80 #[.string x.path, .string y.path, .string y.dst] w' (fun e w'' => e = .returned (.tuple #[.string (moP x.path y.path y.dst), .bool (wiP x.path y.path)]) ∧ w' = w'') from fun w' => Path.rmoved_any x.path y.path y.dst w' (by have := sx.path; omega) (by have := sy.path; omega) (by have := sy.dst; omega))
 have HW1 := Zz (show ∀ w', Calls Tryz.prog 81 #[.string y.path, .string x.path] w' (fun e w'' => e = .returned (.bool (wiP y.path x.path)) ∧ w' = w'') from fun w' => Path.rwithin_any y.path x.path w' (by have := sy.path; omega) (by have := sx.path; omega))
 have HW2 := Zz (show ∀ w', Calls Tryz.prog 81 #[.string x.path, .string y.dst] w' (fun e w'' => e = .returned (.bool (wiP x.path y.dst)) ∧ w' = w'') from fun w' => Path.rwithin_any x.path y.dst w' (by have := sx.path; omega) (by have := sy.dst; omega))
 generalize hr : Zx x y = r at HCk HQ1 HQ2 HV
 have HRr := Zz hr
 unfold Z9
 generalize Zj x y = cc at HCk ⊢
 obtain ⟨K, P, T, F, A, lO, lN⟩ := x
 obtain ⟨K', P', T', F', A', lO', lN'⟩ := y
 simp only at hno hnn hmo hmn HR1 HR2 HLn HCx HCy HAx HAy HP1 HP2 HP3 HP4 HM1 HM2 HW1 HW2 kx ky ⊢
 clear hno hnn hmo hmn sx sy fx fy HRu
 obtain ⟨w1, hw1⟩ : ∃ w1, w.alloc (.cells #[.int .i64 K, .string P, .string T, .string F, .int .i64 A, .slice pa no ca, .slice pb nn cb] 43) = w1 := ⟨_, rfl⟩
 obtain ⟨w2, hw2⟩ : ∃ w2, w1.alloc (.cells #[.int .i64 K', .string P', .string T', .string F', .int .i64 A', .slice qa mo da, .slice qb mn db] 43) = w2 := ⟨_, rfl⟩
 obtain ⟨w3, hw3⟩ : ∃ w3, w2.alloc (.cells #[.int .i64 0, .string ⟨#[]⟩, .string ⟨#[]⟩, .string ⟨#[]⟩, .int .i64 0, .slice none 0 0, .slice none 0 0] 43) = w3 := ⟨_, rfl⟩
 obtain ⟨w4, hw4⟩ : ∃ w4, w3.alloc (.cells #[.int .i64 0, .string ⟨#[]⟩, .string ⟨#[]⟩, .string ⟨#[]⟩, .int .i64 0, .slice none 0 0, .slice none 0 0] 43) = w4 := ⟨_, rfl⟩
 have F1 : Fr None' w w1 := hw1 ▸ Fr.alloc None' w _
 have F2 : Fr None' w1 w2 := hw2 ▸ Fr.alloc None' w1 _
 have F3 : Fr None' w2 w3 := hw3 ▸ Fr.alloc None' w2 _
 have F4 : Fr None' w3 w4 := hw4 ▸ Fr.alloc None' w3 _
 have BX : Box w4 w.heap.size (.int .i64 K) (.string P) (.string T) (.string F) (.int .i64 A) (.slice pa no ca) (.slice pb nn cb) := (hw1 ▸ Box.new w _ _ _ _ _ _ _ : Box w1 _ _ _ _ _ _ _ _).kept ((F2.then7 F3).then7 F4)
 have BY : Box w4 w1.heap.size (.int .i64 K') (.string P') (.string T') (.string F') (.int .i64 A') (.slice qa mo da) (.slice qb mn db) := (hw2 ▸ Box.new w1 _ _ _ _ _ _ _ : Box w2 _ _ _ _ _ _ _ _).kept (F3.then7 F4)
 have BC : Box w4 w2.heap.size (.int .i64 0) (.string ⟨#[]⟩) (.string ⟨#[]⟩) (.string ⟨#[]⟩) (.int .i64 0) (.slice none 0 0) (.slice none 0 0) := (hw3 ▸ Box.new w2 _ _ _ _ _ _ _ : Box w3 _ _ _ _ _ _ _ _).kept F4
 have BD : Box w4 w3.heap.size (.int .i64 0) (.string ⟨#[]⟩) (.string ⟨#[]⟩) (.string ⟨#[]⟩) (.int .i64 0) (.slice none 0 0) (.slice none 0 0) := hw4 ▸ Box.new w3 _ _ _ _ _ _ _
 have s1 : w1.heap.size = w.heap.size + 1 := by rw [← hw1]; simp
 have s2 : w2.heap.size = w1.heap.size + 1 := by rw [← hw2]; simp
 have s3 : w3.heap.size = w2.heap.size + 1 := by rw [← hw3]; simp
 have HF : Hid (Fr None' w w4) := ((F1.then7 F2).then7 F3).then7 F4
 have HN : Hid (w.heap.size < w1.heap.size ∧ w1.heap.size < w2.heap.size ∧ w2.heap.size < w3.heap.size) := ⟨by omega, by omega, by omega⟩
 have n1 : ¬ w.heap.size = w1.heap.size := by omega
 have n2 : ¬ w.heap.size = w2.heap.size := by omega
 have n3 : ¬ w.heap.size = w3.heap.size := by omega
 have n4 : ¬ w1.heap.size = w2.heap.size := by omega
 have n5 : ¬ w1.heap.size = w3.heap.size := by omega
 have n6 : ¬ w2.heap.size = w3.heap.size := by omega
 have HBs : Hid (∀ w', Fr None' w4 w' → Box w' w.heap.size (.int .i64 K) (.string P) (.string T) (.string F) (.int .i64 A) (.slice pa no ca) (.slice pb nn cb) ∧ Box w' w1.heap.size (.int .i64 K') (.string P') (.string T') (.string F') (.int .i64 A') (.slice qa mo da) (.slice qb mn db) ∧ Box w' w2.heap.size (.int .i64 0) (.string ⟨#[]⟩) (.string ⟨#[]⟩) (.string ⟨#[]⟩) (.int .i64 0) (.slice none 0 0) (.slice none 0 0) ∧ Box w' w3.heap.size (.int .i64 0) (.string ⟨#[]⟩) (.string ⟨#[]⟩) (.string ⟨#[]⟩) (.int .i64 0) (.slice none 0 0) (.slice none 0 0)) := fun w' f => ⟨BX.kept f, BY.kept f, BC.kept f, BD.kept f⟩
 obtain ⟨x0, x1, x2, x3, x4, x5, x6⟩ := BX.cells
 clear F1 F2 F3 F4 BX BY BC BD s1 s2 s3
 clear n1 n2 n3 n4 n5 hr
 obtain ⟨xcl, xk1, xk2⟩ := kx
 obtain ⟨ycl, rfl⟩ := ky
 have q1 := HR1.out w4 HF.out
 go_enter Tryz.func57, Tryz.ntmps57
 go_wp2_with fail
 with_reducible refine q1.mono ?_
 rintro e w5 ⟨rfl, f5⟩
 have HF5 := Zz f5
 have q2 := HR2.out w5 (HF.out.then7 f5)
 clear q1 f5 x0 x1 x2 x3 x4 x5 x6
 obtain ⟨y0, y1, y2, y3, y4, y5, y6⟩ := (HBs.out w5 HF5.out).2.1.cells
 go_wp2_with fail
 with_reducible refine q2.mono ?_
 rintro e w6 ⟨rfl, f6⟩
 have HFc := Zz (HF5.out.then7 f6)
 clear q2 f6 HF5 y0 y1 y2 y3 y4 y5 y6 HR1 HR2
 obtain ⟨x0, x1, x2, x3, x4, x5, x6⟩ := Box.cells (HBs.out _ (Hid.out HFc)).1
 obtain ⟨y0, y1, y2, y3, y4, y5, y6⟩ := Box.cells (HBs.out _ (Hid.out HFc)).2.1
 obtain ⟨c0, c1, c2, c3, c4, c5, c6⟩ := Box.cells (HBs.out _ (Hid.out HFc)).2.2.1
 obtain ⟨d0, d1, d2, d3, d4, d5, d6⟩ := Box.cells (HBs.out _ (Hid.out HFc)).2.2.2
 have xz := Box.frozen (HBs.out _ (Hid.out HFc)).1
 have yz := Box.frozen (HBs.out _ (Hid.out HFc)).2.1
 have cz := Box.frozen (HBs.out _ (Hid.out HFc)).2.2.1
 have dz := Box.frozen (HBs.out _ (Hid.out HFc)).2.2.2
 have x10 : (K == 10) = false := beq_eq_false_iff_ne.2 (by omega)
 have xc : decide (7 ≤ K ∧ K ≤ 9) = true := by simp; omega
 have xa : decide (K ≤ 6) = false := by simp; omega
 have yc : decide (7 ≤ (10 : Int) ∧ (10 : Int) ≤ 9) = false := by decide
 have ya : decide ((10 : Int) ≤ 6) = false := by decide
 rw [xc] at HCx
 rw [yc] at HCy
 rw [xa] at HAx
 rw [ya] at HAy
 have HCl := Zz (And.intro xcl ycl)
 have hE := (show Zx ⟨K, P, T, F, A, lO, lN⟩ ⟨10, P', T', F', A', lO', lN'⟩ = _ from rule_12 HCl.out.1 HCl.out.2).symm.trans HRr.out
 unfold Yw carryP at hE
 simp only at hE
 clear xc yc xa ya xcl ycl xk1 xk2
 by_cases h7 : K = 7
 ·subst h7
  cases hw : wiP P P' with
  | true =>
   rw [hw, if_pos rfl] at hE
   rw [hw] at HM2
   generalize moP P P' T' = M at hE HM2
   subst hE
   clear hw
   simp only at HQ1 HQ2 HV HCk
   go_wp2_with (first | (go_at_call 79; with_reducible (refine (HCx.out _).mono ?_); rintro e w' ⟨rfl, f⟩; replace HFc := Zz (Fr.then7 (Hid.out HFc) f); clear f x0 x1 x2 x3 x4 x5 x6 y0 y1 y2 y3 y4 y5 y6 c0 c1 c2 c3 c4 c5 c6 d0 d1 d2 d3 d4 d5 d6 xz yz cz dz; obtain ⟨x0, x1, x2, x3, x4, x5, x6⟩ := Box.cells (HBs.out _ (Hid.out HFc)).1; obtain ⟨y0, y1, y2, y3, y4, y5, y6⟩ := Box.cells (HBs.out _ (Hid.out HFc)).2.1; obtain ⟨c0, c1, c2, c3, c4, c5, c6⟩ := Box.cells (HBs.out _ (Hid.out HFc)).2.2.1; obtain ⟨d0, d1, d2, d3, d4, d5, d6⟩ := Box.cells (HBs.out _ (Hid.out HFc)).2.2.2; have xz := Box.frozen (HBs.out _ (Hid.out HFc)).1; have yz := Box.frozen (HBs.out _ (Hid.out HFc)).2.1; have cz := Box.frozen (HBs.out _ (Hid.out HFc)).2.2.1; have dz := Box.frozen (HBs.out _ (Hid.out HFc)).2.2.2) | (go_at_call 79; with_reducible (refine (HCy.out _).mono ?_); rintro e w' ⟨rfl, f⟩; replace HFc := Zz (Fr.then7 (Hid.out HFc) f); clear f x0 x1 x2 x3 x4 x5 x6 y0 y1 y2 y3 y4 y5 y6 c0 c1 c2 c3 c4 c5 c6 d0 d1 d2 d3 d4 d5 d6 xz yz cz dz; obtain ⟨x0, x1, x2, x3, x4, x5, x6⟩ := Box.cells (HBs.out _ (Hid.out HFc)).1; obtain ⟨y0, y1, y2, y3, y4, y5, y6⟩ := Box.cells (HBs.out _ (Hid.out HFc)).2.1; obtain ⟨c0, c1, c2, c3, c4, c5, c6⟩ := Box.cells (HBs.out _ (Hid.out HFc)).2.2.1; obtain ⟨d0, d1, d2, d3, d4, d5, d6⟩ := Box.cells (HBs.out _ (Hid.out HFc)).2.2.2; have xz := Box.frozen (HBs.out _ (Hid.out HFc)).1; have yz := Box.frozen (HBs.out _ (Hid.out HFc)).2.1; have cz := Box.frozen (HBs.out _ (Hid.out HFc)).2.2.1; have dz := Box.frozen (HBs.out _ (Hid.out HFc)).2.2.2) | fail)
   with_reducible refine (HM2.out _).mono ?_
   rintro e wm ⟨rfl, rfl⟩
   obtain ⟨wS, hwS⟩ : ∃ y, World.setCell w' ⟨w.heap.size, 1, none⟩ (.string M) = y := ⟨_, rfl⟩
   have HBx := Zz (show Box wS w.heap.size (.int .i64 7) (.string M) (.string T) (.string F) (.int .i64 A) (.slice pa no ca) (.slice pb nn cb) ∧ Box wS w1.heap.size (.int .i64 10) (.string P') (.string T') (.string F') (.int .i64 A') (.slice qa mo da) (.slice qb mn db) ∧ Box wS w2.heap.size (.int .i64 0) (.string ⟨#[]⟩) (.string ⟨#[]⟩) (.string ⟨#[]⟩) (.int .i64 0) (.slice none 0 0) (.slice none 0 0) ∧ Box wS w3.heap.size (.int .i64 0) (.string ⟨#[]⟩) (.string ⟨#[]⟩) (.string ⟨#[]⟩) (.int .i64 0) (.slice none 0 0) (.slice none 0 0) from by
    obtain ⟨b1, b2, b3, b4⟩ := HBs.out _ (Hid.out HFc)
    have := HN.out
    have fS : Fr (fun k => k = w.heap.size) w' wS := hwS ▸ Fr.setQ _ _ _ _
    exact ⟨hwS ▸ b1.set1 _, b2.fr fS (by omega), b3.fr fS (by omega), b4.fr fS (by omega)⟩)
   have HWx := Zz (show Fr None' w wS from (HF.out.then7 (Hid.out HFc)).trans (show Fr (fun k => k = w.heap.size) w' wS from hwS ▸ Fr.setQ _ _ _ _) (fun _ e => Or.inr (by have := HN.out; omega)))
   clear c0 c1 c2 c3 c4 c5 c6 d0 d1 d2 d3 d4 d5 d6 cz dz
   obtain ⟨p0, p1, p2, p3, p4, p5, p6⟩ := HBx.out.1.cells
   obtain ⟨q0, q1, q2, q3, q4, q5, q6⟩ := HBx.out.2.1.cells
   go_wp2_with fail
   clear p0 p1 p2 p3 p4 p5 p6 q0 q1 q2 q3 q4 q5 q6 hwS
   obtain ⟨R7, hR7⟩ : ∃ R, Zw ⟨7, M, T, F, A, lO, lN⟩ = R := ⟨_, rfl⟩
   obtain ⟨R8, hR8⟩ : ∃ R, Zw ⟨10, P', T', F', A', lO', lN'⟩ = R := ⟨_, rfl⟩
   rw [hR7] at HQ2
   rw [hR8] at HQ1
   have HE7 := Zz hR7
   have HE8 := Zz hR8
   clear hR7 hR8
   with_reducible refine (HQ2.out _ HWx.out).mono ?_
   rintro e w7 ⟨rfl, f7⟩
   have HB7 := Zz (show Box w7 w.heap.size (.int .i64 7) (.string M) (.string T) (.string F) (.int .i64 A) (.slice pa no ca) (.slice pb nn cb) ∧ Box w7 w1.heap.size (.int .i64 10) (.string P') (.string T') (.string F') (.int .i64 A') (.slice qa mo da) (.slice qb mn db) ∧ Box w7 w2.heap.size (.int .i64 0) (.string ⟨#[]⟩) (.string ⟨#[]⟩) (.string ⟨#[]⟩) (.int .i64 0) (.slice none 0 0) (.slice none 0 0) ∧ Box w7 w3.heap.size (.int .i64 0) (.string ⟨#[]⟩) (.string ⟨#[]⟩) (.string ⟨#[]⟩) (.int .i64 0) (.slice none 0 0) (.slice none 0 0) from ⟨HBx.out.1.kept f7, HBx.out.2.1.kept f7, HBx.out.2.2.1.kept f7, HBx.out.2.2.2.kept f7⟩)
   replace HWx := Zz (HWx.out.then7 f7)
   replace HBx := HB7
   clear HB7 f7 x0 x1 x2 x3 x4 x5 x6 y0 y1 y2 y3 y4 y5 y6 xz yz
   cases R7 with
   | false =>
    have HC := Zz (HCk.out.trans (show Zu _ = Yz from by unfold Zu; rw [if_neg (by simp [HE7.out])]))
    have HBf := Zz (show Box w7 w2.heap.size (.int .i64 0) (.string ⟨#[]⟩) (.string ⟨#[]⟩) (.string ⟨#[]⟩) (.int .i64 0) (.slice none 0 0) (.slice none 0 0) ∧ Box w7 w3.heap.size (.int .i64 0) (.string ⟨#[]⟩) (.string ⟨#[]⟩) (.string ⟨#[]⟩) (.int .i64 0) (.slice none 0 0) (.slice none 0 0) from ⟨HBx.out.2.2.1, HBx.out.2.2.2⟩)
    obtain ⟨c0, c1, c2, c3, c4, c5, c6⟩ := HBf.out.1.cells
    obtain ⟨d0, d1, d2, d3, d4, d5, d6⟩ := HBf.out.2.cells
    have cz := HBf.out.1.frozen
    have dz := HBf.out.2.frozen
    go_wp2_with fail
    have hfin := Zt HWx.out HBf.out.1 HBf.out.2 n6 (by have := HN.out; omega) (by have := HN.out; omega) (.int .i64 0) (.string ⟨#[]⟩) (.string ⟨#[]⟩) (.string ⟨#[]⟩) (.int .i64 0) (.slice none 0 0) (.slice none 0 0) (.int .i64 0) (.string ⟨#[]⟩) (.string ⟨#[]⟩) (.string ⟨#[]⟩) (.int .i64 0) (.slice none 0 0) (.slice none 0 0)
    exact Zr (u := .bool false) rfl rfl rfl rfl rfl hfin.1 hfin.2.1 (Zq HC.out hfin.2.2.1)
   | true =>
    obtain ⟨y0, y1, y2, y3, y4, y5, y6⟩ := HBx.out.2.1.cells
    go_wp2_with fail
    with_reducible refine (HQ1.out _ HWx.out).mono ?_
    rintro e w8 ⟨rfl, f8⟩
    have HB8 := Zz (show Box w8 w.heap.size (.int .i64 7) (.string M) (.string T) (.string F) (.int .i64 A) (.slice pa no ca) (.slice pb nn cb) ∧ Box w8 w1.heap.size (.int .i64 10) (.string P') (.string T') (.string F') (.int .i64 A') (.slice qa mo da) (.slice qb mn db) ∧ Box w8 w2.heap.size (.int .i64 0) (.string ⟨#[]⟩) (.string ⟨#[]⟩) (.string ⟨#[]⟩) (.int .i64 0) (.slice none 0 0) (.slice none 0 0) ∧ Box w8 w3.heap.size (.int .i64 0) (.string ⟨#[]⟩) (.string ⟨#[]⟩) (.string ⟨#[]⟩) (.int .i64 0) (.slice none 0 0) (.slice none 0 0) from ⟨HBx.out.1.kept f8, HBx.out.2.1.kept f8, HBx.out.2.2.1.kept f8, HBx.out.2.2.2.kept f8⟩)
    replace HWx := Zz (HWx.out.then7 f8)
    replace HBx := HB8
    clear HB8 f8 y0 y1 y2 y3 y4 y5 y6
    cases R8 with
    | false =>
     have HC := Zz (HCk.out.trans (show Zu _ = Yz from by unfold Zu; rw [if_neg (by simp [HE8.out])]))
     have HBf := Zz (show Box w8 w2.heap.size (.int .i64 0) (.string ⟨#[]⟩) (.string ⟨#[]⟩) (.string ⟨#[]⟩) (.int .i64 0) (.slice none 0 0) (.slice none 0 0) ∧ Box w8 w3.heap.size (.int .i64 0) (.string ⟨#[]⟩) (.string ⟨#[]⟩) (.string ⟨#[]⟩) (.int .i64 0) (.slice none 0 0) (.slice none 0 0) from ⟨HBx.out.2.2.1, HBx.out.2.2.2⟩)
     obtain ⟨c0, c1, c2, c3, c4, c5, c6⟩ := HBf.out.1.cells
     obtain ⟨d0, d1, d2, d3, d4, d5, d6⟩ := HBf.out.2.cells
     have cz := HBf.out.1.frozen
     have dz := HBf.out.2.frozen
     go_wp2_with fail
     have hfin := Zt HWx.out HBf.out.1 HBf.out.2 n6 (by have := HN.out; omega) (by have := HN.out; omega) (.int .i64 0) (.string ⟨#[]⟩) (.string ⟨#[]⟩) (.string ⟨#[]⟩) (.int .i64 0) (.slice none 0 0) (.slice none 0 0) (.int .i64 0) (.string ⟨#[]⟩) (.string ⟨#[]⟩) (.string ⟨#[]⟩) (.int .i64 0) (.slice none 0 0) (.slice none 0 0)
     exact Zr (u := .bool false) rfl rfl rfl rfl rfl hfin.1 hfin.2.1 (Zq HC.out hfin.2.2.1)
    | true =>
     have HC := Zz (HCk.out.trans (show Zu (⟨10, P', T', F', A', lO', lN'⟩, ⟨7, M, T, F, A, lO, lN⟩, true) = (⟨10, P', T', F', A', lO', lN'⟩, ⟨7, M, T, F, A, lO, lN⟩, true) from by unfold Zu; rw [if_pos (by simp [HE7.out, HE8.out])]))
     have HS := Zz (show (∀ w', Fr (fun k => k = w2.heap.size ∨ k = w3.heap.size) w8 w' → Fr (fun k => k = w2.heap.size ∨ k = w3.heap.size) w8 w' ∧ w'.cell? ⟨w.heap.size, 0, none⟩ = some (.int .i64 7) ∧ w'.cell? ⟨w.heap.size, 1, none⟩ = some (.string M) ∧ w'.cell? ⟨w.heap.size, 2, none⟩ = some (.string T) ∧ w'.cell? ⟨w.heap.size, 3, none⟩ = some (.string F) ∧ w'.cell? ⟨w.heap.size, 4, none⟩ = some (.int .i64 A) ∧ w'.cell? ⟨w.heap.size, 5, none⟩ = some (.slice pa no ca) ∧ w'.cell? ⟨w.heap.size, 6, none⟩ = some (.slice pb nn cb) ∧ w'.cell? ⟨w1.heap.size, 0, none⟩ = some (.int .i64 10) ∧ w'.cell? ⟨w1.heap.size, 1, none⟩ = some (.string P') ∧ w'.cell? ⟨w1.heap.size, 2, none⟩ = some (.string T') ∧ w'.cell? ⟨w1.heap.size, 3, none⟩ = some (.string F') ∧ w'.cell? ⟨w1.heap.size, 4, none⟩ = some (.int .i64 A') ∧ w'.cell? ⟨w1.heap.size, 5, none⟩ = some (.slice qa mo da) ∧ w'.cell? ⟨w1.heap.size, 6, none⟩ = some (.slice qb mn db)) from fun w' f => by
      obtain ⟨x0, x1, x2, x3, x4, x5, x6⟩ := (HBx.out.1.fr f (by have := HN.out; omega)).cells
      obtain ⟨y0, y1, y2, y3, y4, y5, y6⟩ := (HBx.out.2.1.fr f (by have := HN.out; omega)).cells
      exact ⟨f, x0, x1, x2, x3, x4, x5, x6, y0, y1, y2, y3, y4, y5, y6⟩)
     have hS0 := HS.out w8.drew (Fr.drew _ w8)
     have hS6 := HS.out (setP w8 w2.heap.size (.int .i64 10) (.string P') (.string T') (.string F') (.int .i64 A') (.slice qa mo da) (.slice qb mn db)).drew (Fr.then (Fr.setP _ (Or.inl rfl) _ _ _ _ _ _ _) (Fr.drew _ _))
     have hS7 := HS.out (setP (setP w8 w2.heap.size (.int .i64 10) (.string P') (.string T') (.string F') (.int .i64 A') (.slice qa mo da) (.slice qb mn db)) w3.heap.size (.int .i64 7) (.string M) (.string T) (.string F) (.int .i64 A) (.slice pa no ca) (.slice pb nn cb)).drew (Fr.then (Fr.then (Fr.setP _ (Or.inl rfl) _ _ _ _ _ _ _) (Fr.setP _ (Or.inr rfl) _ _ _ _ _ _ _)) (Fr.drew _ _))
     obtain ⟨c0, c1, c2, c3, c4, c5, c6⟩ := HBx.out.2.2.1.cells
     obtain ⟨d0, d1, d2, d3, d4, d5, d6⟩ := HBx.out.2.2.2.cells
     have cz := HBx.out.2.2.1.frozen
     have dz := HBx.out.2.2.2.frozen
     go_wp2_with fail
     go_region_held3 (fun w' => Fr (fun k => k = w2.heap.size ∨ k = w3.heap.size) w8 w' ∧ w'.cell? ⟨w.heap.size, 0, none⟩ = some (.int .i64 7) ∧ w'.cell? ⟨w.heap.size, 1, none⟩ = some (.string M) ∧ w'.cell? ⟨w.heap.size, 2, none⟩ = some (.string T) ∧ w'.cell? ⟨w.heap.size, 3, none⟩ = some (.string F) ∧ w'.cell? ⟨w.heap.size, 4, none⟩ = some (.int .i64 A) ∧ w'.cell? ⟨w.heap.size, 5, none⟩ = some (.slice pa no ca) ∧ w'.cell? ⟨w.heap.size, 6, none⟩ = some (.slice pb nn cb) ∧ w'.cell? ⟨w1.heap.size, 0, none⟩ = some (.int .i64 10) ∧ w'.cell? ⟨w1.heap.size, 1, none⟩ = some (.string P') ∧ w'.cell? ⟨w1.heap.size, 2, none⟩ = some (.string T') ∧ w'.cell? ⟨w1.heap.size, 3, none⟩ = some (.string F') ∧ w'.cell? ⟨w1.heap.size, 4, none⟩ = some (.int .i64 A') ∧ w'.cell? ⟨w1.heap.size, 5, none⟩ = some (.slice qa mo da) ∧ w'.cell? ⟨w1.heap.size, 6, none⟩ = some (.slice qb mn db))
      (first | with_reducible exact hS0 | with_reducible exact hS6 | with_reducible exact hS7)
      (fail)
     clear hS0 hS6 hS7 cz dz c0 c1 c2 c3 c4 c5 c6 d0 d1 d2 d3 d4 d5 d6
     go_wp2_with fail
     have hfin := Zt HWx.out HBx.out.2.2.1 HBx.out.2.2.2 n6 (by have := HN.out; omega) (by have := HN.out; omega) (.int .i64 10) (.string P') (.string T') (.string F') (.int .i64 A') (.slice qa mo da) (.slice qb mn db) (.int .i64 7) (.string M) (.string T) (.string F) (.int .i64 A) (.slice pa no ca) (.slice pb nn cb)
     have hfr := hfin.2.2.1.then7 (Fr.drew None' _)
     exact Zr rfl rfl rfl rfl rfl hfin.1.drew hfin.2.1.drew (by rw [HC.out]; exact ⟨_, _, rfl, HV.out.1, HV.out.2, hfr⟩)
  | false =>
   rw [hw, if_neg (by simp)] at hE
   rw [hw] at HM2
   clear hw
   generalize wiP P T' = R at hE HW2
   subst hE
   cases R with
   | true =>
    simp only at HQ1 HQ2 HV HCk
    go_wp2_with (first | (go_at_call 79; with_reducible (refine (HCx.out _).mono ?_); rintro e w' ⟨rfl, f⟩; replace HFc := Zz (Fr.then7 (Hid.out HFc) f); clear f x0 x1 x2 x3 x4 x5 x6 y0 y1 y2 y3 y4 y5 y6 c0 c1 c2 c3 c4 c5 c6 d0 d1 d2 d3 d4 d5 d6 xz yz cz dz; obtain ⟨x0, x1, x2, x3, x4, x5, x6⟩ := Box.cells (HBs.out _ (Hid.out HFc)).1; obtain ⟨y0, y1, y2, y3, y4, y5, y6⟩ := Box.cells (HBs.out _ (Hid.out HFc)).2.1; obtain ⟨c0, c1, c2, c3, c4, c5, c6⟩ := Box.cells (HBs.out _ (Hid.out HFc)).2.2.1; obtain ⟨d0, d1, d2, d3, d4, d5, d6⟩ := Box.cells (HBs.out _ (Hid.out HFc)).2.2.2; have xz := Box.frozen (HBs.out _ (Hid.out HFc)).1; have yz := Box.frozen (HBs.out _ (Hid.out HFc)).2.1; have cz := Box.frozen (HBs.out _ (Hid.out HFc)).2.2.1; have dz := Box.frozen (HBs.out _ (Hid.out HFc)).2.2.2) | (go_at_call 79; with_reducible (refine (HCy.out _).mono ?_); rintro e w' ⟨rfl, f⟩; replace HFc := Zz (Fr.then7 (Hid.out HFc) f); clear f x0 x1 x2 x3 x4 x5 x6 y0 y1 y2 y3 y4 y5 y6 c0 c1 c2 c3 c4 c5 c6 d0 d1 d2 d3 d4 d5 d6 xz yz cz dz; obtain ⟨x0, x1, x2, x3, x4, x5, x6⟩ := Box.cells (HBs.out _ (Hid.out HFc)).1; obtain ⟨y0, y1, y2, y3, y4, y5, y6⟩ := Box.cells (HBs.out _ (Hid.out HFc)).2.1; obtain ⟨c0, c1, c2, c3, c4, c5, c6⟩ := Box.cells (HBs.out _ (Hid.out HFc)).2.2.1; obtain ⟨d0, d1, d2, d3, d4, d5, d6⟩ := Box.cells (HBs.out _ (Hid.out HFc)).2.2.2; have xz := Box.frozen (HBs.out _ (Hid.out HFc)).1; have yz := Box.frozen (HBs.out _ (Hid.out HFc)).2.1; have cz := Box.frozen (HBs.out _ (Hid.out HFc)).2.2.1; have dz := Box.frozen (HBs.out _ (Hid.out HFc)).2.2.2) | (go_at_call 80; with_reducible (refine (HM2.out _).mono ?_); rintro e w' ⟨rfl, rfl⟩) | (go_at_call 81; with_reducible (refine (HW2.out _).mono ?_); rintro e w' ⟨rfl, rfl⟩) | fail)
    have HBx := Zz (HBs.out _ (Hid.out HFc))
    have HWx := Zz (HF.out.then7 (Hid.out HFc))
    have HC := Zz (HCk.out.trans (show Zu _ = Yz from by unfold Zu; rw [if_neg (by simp)]))
    have hfin := Zt HWx.out HBx.out.2.2.1 HBx.out.2.2.2 n6 (by have := HN.out; omega) (by have := HN.out; omega) (.int .i64 0) (.string ⟨#[]⟩) (.string ⟨#[]⟩) (.string ⟨#[]⟩) (.int .i64 0) (.slice none 0 0) (.slice none 0 0) (.int .i64 0) (.string ⟨#[]⟩) (.string ⟨#[]⟩) (.string ⟨#[]⟩) (.int .i64 0) (.slice none 0 0) (.slice none 0 0)
    exact Zr (u := .bool false) rfl rfl rfl rfl rfl hfin.1 hfin.2.1 (Zq HC.out hfin.2.2.1)
   | false =>
    simp only at HQ1 HQ2 HV HCk
    go_wp2_with (first | (go_at_call 79; with_reducible (refine (HCx.out _).mono ?_); rintro e w' ⟨rfl, f⟩; replace HFc := Zz (Fr.then7 (Hid.out HFc) f); clear f x0 x1 x2 x3 x4 x5 x6 y0 y1 y2 y3 y4 y5 y6 c0 c1 c2 c3 c4 c5 c6 d0 d1 d2 d3 d4 d5 d6 xz yz cz dz; obtain ⟨x0, x1, x2, x3, x4, x5, x6⟩ := Box.cells (HBs.out _ (Hid.out HFc)).1; obtain ⟨y0, y1, y2, y3, y4, y5, y6⟩ := Box.cells (HBs.out _ (Hid.out HFc)).2.1; obtain ⟨c0, c1, c2, c3, c4, c5, c6⟩ := Box.cells (HBs.out _ (Hid.out HFc)).2.2.1; obtain ⟨d0, d1, d2, d3, d4, d5, d6⟩ := Box.cells (HBs.out _ (Hid.out HFc)).2.2.2; have xz := Box.frozen (HBs.out _ (Hid.out HFc)).1; have yz := Box.frozen (HBs.out _ (Hid.out HFc)).2.1; have cz := Box.frozen (HBs.out _ (Hid.out HFc)).2.2.1; have dz := Box.frozen (HBs.out _ (Hid.out HFc)).2.2.2) | (go_at_call 79; with_reducible (refine (HCy.out _).mono ?_); rintro e w' ⟨rfl, f⟩; replace HFc := Zz (Fr.then7 (Hid.out HFc) f); clear f x0 x1 x2 x3 x4 x5 x6 y0 y1 y2 y3 y4 y5 y6 c0 c1 c2 c3 c4 c5 c6 d0 d1 d2 d3 d4 d5 d6 xz yz cz dz; obtain ⟨x0, x1, x2, x3, x4, x5, x6⟩ := Box.cells (HBs.out _ (Hid.out HFc)).1; obtain ⟨y0, y1, y2, y3, y4, y5, y6⟩ := Box.cells (HBs.out _ (Hid.out HFc)).2.1; obtain ⟨c0, c1, c2, c3, c4, c5, c6⟩ := Box.cells (HBs.out _ (Hid.out HFc)).2.2.1; obtain ⟨d0, d1, d2, d3, d4, d5, d6⟩ := Box.cells (HBs.out _ (Hid.out HFc)).2.2.2; have xz := Box.frozen (HBs.out _ (Hid.out HFc)).1; have yz := Box.frozen (HBs.out _ (Hid.out HFc)).2.1; have cz := Box.frozen (HBs.out _ (Hid.out HFc)).2.2.1; have dz := Box.frozen (HBs.out _ (Hid.out HFc)).2.2.2) | (go_at_call 80; with_reducible (refine (HM2.out _).mono ?_); rintro e w' ⟨rfl, rfl⟩) | (go_at_call 81; with_reducible (refine (HW2.out _).mono ?_); rintro e w' ⟨rfl, rfl⟩) | fail)
    have HBx := Zz (HBs.out _ (Hid.out HFc))
    have HWx := Zz (HF.out.then7 (Hid.out HFc))
    obtain ⟨R7, hR7⟩ : ∃ R, Zw ⟨7, P, T, F, A, lO, lN⟩ = R := ⟨_, rfl⟩
    obtain ⟨R8, hR8⟩ : ∃ R, Zw ⟨10, P', T', F', A', lO', lN'⟩ = R := ⟨_, rfl⟩
    rw [hR7] at HQ2
    rw [hR8] at HQ1
    have HE7 := Zz hR7
    have HE8 := Zz hR8
    clear hR7 hR8
    with_reducible refine (HQ2.out _ HWx.out).mono ?_
    rintro e w7 ⟨rfl, f7⟩
    have HB7 := Zz (show Box w7 w.heap.size (.int .i64 7) (.string P) (.string T) (.string F) (.int .i64 A) (.slice pa no ca) (.slice pb nn cb) ∧ Box w7 w1.heap.size (.int .i64 10) (.string P') (.string T') (.string F') (.int .i64 A') (.slice qa mo da) (.slice qb mn db) ∧ Box w7 w2.heap.size (.int .i64 0) (.string ⟨#[]⟩) (.string ⟨#[]⟩) (.string ⟨#[]⟩) (.int .i64 0) (.slice none 0 0) (.slice none 0 0) ∧ Box w7 w3.heap.size (.int .i64 0) (.string ⟨#[]⟩) (.string ⟨#[]⟩) (.string ⟨#[]⟩) (.int .i64 0) (.slice none 0 0) (.slice none 0 0) from ⟨HBx.out.1.kept f7, HBx.out.2.1.kept f7, HBx.out.2.2.1.kept f7, HBx.out.2.2.2.kept f7⟩)
    replace HWx := Zz (HWx.out.then7 f7)
    replace HBx := HB7
    clear HB7 f7 x0 x1 x2 x3 x4 x5 x6 y0 y1 y2 y3 y4 y5 y6 c0 c1 c2 c3 c4 c5 c6 d0 d1 d2 d3 d4 d5 d6 xz yz cz dz
    cases R7 with
    | false =>
     have HC := Zz (HCk.out.trans (show Zu _ = Yz from by unfold Zu; rw [if_neg (by simp [HE7.out])]))
     have HBf := Zz (show Box w7 w2.heap.size (.int .i64 0) (.string ⟨#[]⟩) (.string ⟨#[]⟩) (.string ⟨#[]⟩) (.int .i64 0) (.slice none 0 0) (.slice none 0 0) ∧ Box w7 w3.heap.size (.int .i64 0) (.string ⟨#[]⟩) (.string ⟨#[]⟩) (.string ⟨#[]⟩) (.int .i64 0) (.slice none 0 0) (.slice none 0 0) from ⟨HBx.out.2.2.1, HBx.out.2.2.2⟩)
     obtain ⟨c0, c1, c2, c3, c4, c5, c6⟩ := HBf.out.1.cells
     obtain ⟨d0, d1, d2, d3, d4, d5, d6⟩ := HBf.out.2.cells
     have cz := HBf.out.1.frozen
     have dz := HBf.out.2.frozen
     go_wp2_with fail
     have hfin := Zt HWx.out HBf.out.1 HBf.out.2 n6 (by have := HN.out; omega) (by have := HN.out; omega) (.int .i64 0) (.string ⟨#[]⟩) (.string ⟨#[]⟩) (.string ⟨#[]⟩) (.int .i64 0) (.slice none 0 0) (.slice none 0 0) (.int .i64 0) (.string ⟨#[]⟩) (.string ⟨#[]⟩) (.string ⟨#[]⟩) (.int .i64 0) (.slice none 0 0) (.slice none 0 0)
     exact Zr (u := .bool false) rfl rfl rfl rfl rfl hfin.1 hfin.2.1 (Zq HC.out hfin.2.2.1)
    | true =>
     obtain ⟨y0, y1, y2, y3, y4, y5, y6⟩ := HBx.out.2.1.cells
     go_wp2_with fail
     with_reducible refine (HQ1.out _ HWx.out).mono ?_
     rintro e w8 ⟨rfl, f8⟩
     have HB8 := Zz (show Box w8 w.heap.size (.int .i64 7) (.string P) (.string T) (.string F) (.int .i64 A) (.slice pa no ca) (.slice pb nn cb) ∧ Box w8 w1.heap.size (.int .i64 10) (.string P') (.string T') (.string F') (.int .i64 A') (.slice qa mo da) (.slice qb mn db) ∧ Box w8 w2.heap.size (.int .i64 0) (.string ⟨#[]⟩) (.string ⟨#[]⟩) (.string ⟨#[]⟩) (.int .i64 0) (.slice none 0 0) (.slice none 0 0) ∧ Box w8 w3.heap.size (.int .i64 0) (.string ⟨#[]⟩) (.string ⟨#[]⟩) (.string ⟨#[]⟩) (.int .i64 0) (.slice none 0 0) (.slice none 0 0) from ⟨HBx.out.1.kept f8, HBx.out.2.1.kept f8, HBx.out.2.2.1.kept f8, HBx.out.2.2.2.kept f8⟩)
     replace HWx := Zz (HWx.out.then7 f8)
     replace HBx := HB8
     clear HB8 f8 y0 y1 y2 y3 y4 y5 y6
     cases R8 with
     | false =>
      have HC := Zz (HCk.out.trans (show Zu _ = Yz from by unfold Zu; rw [if_neg (by simp [HE8.out])]))
      have HBf := Zz (show Box w8 w2.heap.size (.int .i64 0) (.string ⟨#[]⟩) (.string ⟨#[]⟩) (.string ⟨#[]⟩) (.int .i64 0) (.slice none 0 0) (.slice none 0 0) ∧ Box w8 w3.heap.size (.int .i64 0) (.string ⟨#[]⟩) (.string ⟨#[]⟩) (.string ⟨#[]⟩) (.int .i64 0) (.slice none 0 0) (.slice none 0 0) from ⟨HBx.out.2.2.1, HBx.out.2.2.2⟩)
      obtain ⟨c0, c1, c2, c3, c4, c5, c6⟩ := HBf.out.1.cells
      obtain ⟨d0, d1, d2, d3, d4, d5, d6⟩ := HBf.out.2.cells
      have cz := HBf.out.1.frozen
      have dz := HBf.out.2.frozen
      go_wp2_with fail
      have hfin := Zt HWx.out HBf.out.1 HBf.out.2 n6 (by have := HN.out; omega) (by have := HN.out; omega) (.int .i64 0) (.string ⟨#[]⟩) (.string ⟨#[]⟩) (.string ⟨#[]⟩) (.int .i64 0) (.slice none 0 0) (.slice none 0 0) (.int .i64 0) (.string ⟨#[]⟩) (.string ⟨#[]⟩) (.string ⟨#[]⟩) (.int .i64 0) (.slice none 0 0) (.slice none 0 0)
      exact Zr (u := .bool false) rfl rfl rfl rfl rfl hfin.1 hfin.2.1 (Zq HC.out hfin.2.2.1)
     | true =>
      have HC := Zz (HCk.out.trans (show Zu (⟨10, P', T', F', A', lO', lN'⟩, ⟨7, P, T, F, A, lO, lN⟩, true) = (⟨10, P', T', F', A', lO', lN'⟩, ⟨7, P, T, F, A, lO, lN⟩, true) from by unfold Zu; rw [if_pos (by simp [HE7.out, HE8.out])]))
      have HS := Zz (show (∀ w', Fr (fun k => k = w2.heap.size ∨ k = w3.heap.size) w8 w' → Fr (fun k => k = w2.heap.size ∨ k = w3.heap.size) w8 w' ∧ w'.cell? ⟨w.heap.size, 0, none⟩ = some (.int .i64 7) ∧ w'.cell? ⟨w.heap.size, 1, none⟩ = some (.string P) ∧ w'.cell? ⟨w.heap.size, 2, none⟩ = some (.string T) ∧ w'.cell? ⟨w.heap.size, 3, none⟩ = some (.string F) ∧ w'.cell? ⟨w.heap.size, 4, none⟩ = some (.int .i64 A) ∧ w'.cell? ⟨w.heap.size, 5, none⟩ = some (.slice pa no ca) ∧ w'.cell? ⟨w.heap.size, 6, none⟩ = some (.slice pb nn cb) ∧ w'.cell? ⟨w1.heap.size, 0, none⟩ = some (.int .i64 10) ∧ w'.cell? ⟨w1.heap.size, 1, none⟩ = some (.string P') ∧ w'.cell? ⟨w1.heap.size, 2, none⟩ = some (.string T') ∧ w'.cell? ⟨w1.heap.size, 3, none⟩ = some (.string F') ∧ w'.cell? ⟨w1.heap.size, 4, none⟩ = some (.int .i64 A') ∧ w'.cell? ⟨w1.heap.size, 5, none⟩ = some (.slice qa mo da) ∧ w'.cell? ⟨w1.heap.size, 6, none⟩ = some (.slice qb mn db)) from fun w' f => by
       obtain ⟨x0, x1, x2, x3, x4, x5, x6⟩ := (HBx.out.1.fr f (by have := HN.out; omega)).cells
       obtain ⟨y0, y1, y2, y3, y4, y5, y6⟩ := (HBx.out.2.1.fr f (by have := HN.out; omega)).cells
       exact ⟨f, x0, x1, x2, x3, x4, x5, x6, y0, y1, y2, y3, y4, y5, y6⟩)
      have hS0 := HS.out w8.drew (Fr.drew _ w8)
      have hS6 := HS.out (setP w8 w2.heap.size (.int .i64 10) (.string P') (.string T') (.string F') (.int .i64 A') (.slice qa mo da) (.slice qb mn db)).drew (Fr.then (Fr.setP _ (Or.inl rfl) _ _ _ _ _ _ _) (Fr.drew _ _))
      have hS7 := HS.out (setP (setP w8 w2.heap.size (.int .i64 10) (.string P') (.string T') (.string F') (.int .i64 A') (.slice qa mo da) (.slice qb mn db)) w3.heap.size (.int .i64 7) (.string P) (.string T) (.string F) (.int .i64 A) (.slice pa no ca) (.slice pb nn cb)).drew (Fr.then (Fr.then (Fr.setP _ (Or.inl rfl) _ _ _ _ _ _ _) (Fr.setP _ (Or.inr rfl) _ _ _ _ _ _ _)) (Fr.drew _ _))
      obtain ⟨c0, c1, c2, c3, c4, c5, c6⟩ := HBx.out.2.2.1.cells
      obtain ⟨d0, d1, d2, d3, d4, d5, d6⟩ := HBx.out.2.2.2.cells
      have cz := HBx.out.2.2.1.frozen
      have dz := HBx.out.2.2.2.frozen
      go_wp2_with fail
      go_region_held3 (fun w' => Fr (fun k => k = w2.heap.size ∨ k = w3.heap.size) w8 w' ∧ w'.cell? ⟨w.heap.size, 0, none⟩ = some (.int .i64 7) ∧ w'.cell? ⟨w.heap.size, 1, none⟩ = some (.string P) ∧ w'.cell? ⟨w.heap.size, 2, none⟩ = some (.string T) ∧ w'.cell? ⟨w.heap.size, 3, none⟩ = some (.string F) ∧ w'.cell? ⟨w.heap.size, 4, none⟩ = some (.int .i64 A) ∧ w'.cell? ⟨w.heap.size, 5, none⟩ = some (.slice pa no ca) ∧ w'.cell? ⟨w.heap.size, 6, none⟩ = some (.slice pb nn cb) ∧ w'.cell? ⟨w1.heap.size, 0, none⟩ = some (.int .i64 10) ∧ w'.cell? ⟨w1.heap.size, 1, none⟩ = some (.string P') ∧ w'.cell? ⟨w1.heap.size, 2, none⟩ = some (.string T') ∧ w'.cell? ⟨w1.heap.size, 3, none⟩ = some (.string F') ∧ w'.cell? ⟨w1.heap.size, 4, none⟩ = some (.int .i64 A') ∧ w'.cell? ⟨w1.heap.size, 5, none⟩ = some (.slice qa mo da) ∧ w'.cell? ⟨w1.heap.size, 6, none⟩ = some (.slice qb mn db))
       (first | with_reducible exact hS0 | with_reducible exact hS6 | with_reducible exact hS7)
       (fail)
      clear hS0 hS6 hS7 cz dz c0 c1 c2 c3 c4 c5 c6 d0 d1 d2 d3 d4 d5 d6
      go_wp2_with fail
      have hfin := Zt HWx.out HBx.out.2.2.1 HBx.out.2.2.2 n6 (by have := HN.out; omega) (by have := HN.out; omega) (.int .i64 10) (.string P') (.string T') (.string F') (.int .i64 A') (.slice qa mo da) (.slice qb mn db) (.int .i64 7) (.string P) (.string T) (.string F) (.int .i64 A) (.slice pa no ca) (.slice pb nn cb)
      have hfr := hfin.2.2.1.then7 (Fr.drew None' _)
      exact Zr rfl rfl rfl rfl rfl hfin.1.drew hfin.2.1.drew (by rw [HC.out]; exact ⟨_, _, rfl, HV.out.1, HV.out.2, hfr⟩)
 ·have x7 : (K == 7) = false := beq_eq_false_iff_ne.2 h7
  clear h7
  cases hw : wiP P P' with
  | true =>
   rw [hw, if_pos rfl] at hE
   rw [hw] at HM2
   generalize moP P P' T' = M at hE HM2
   subst hE
   clear hw
   simp only at HQ1 HQ2 HV HCk
   go_wp2_with (first | (go_at_call 79; with_reducible (refine (HCx.out _).mono ?_); rintro e w' ⟨rfl, f⟩; replace HFc := Zz (Fr.then7 (Hid.out HFc) f); clear f x0 x1 x2 x3 x4 x5 x6 y0 y1 y2 y3 y4 y5 y6 c0 c1 c2 c3 c4 c5 c6 d0 d1 d2 d3 d4 d5 d6 xz yz cz dz; obtain ⟨x0, x1, x2, x3, x4, x5, x6⟩ := Box.cells (HBs.out _ (Hid.out HFc)).1; obtain ⟨y0, y1, y2, y3, y4, y5, y6⟩ := Box.cells (HBs.out _ (Hid.out HFc)).2.1; obtain ⟨c0, c1, c2, c3, c4, c5, c6⟩ := Box.cells (HBs.out _ (Hid.out HFc)).2.2.1; obtain ⟨d0, d1, d2, d3, d4, d5, d6⟩ := Box.cells (HBs.out _ (Hid.out HFc)).2.2.2; have xz := Box.frozen (HBs.out _ (Hid.out HFc)).1; have yz := Box.frozen (HBs.out _ (Hid.out HFc)).2.1; have cz := Box.frozen (HBs.out _ (Hid.out HFc)).2.2.1; have dz := Box.frozen (HBs.out _ (Hid.out HFc)).2.2.2) | (go_at_call 79; with_reducible (refine (HCy.out _).mono ?_); rintro e w' ⟨rfl, f⟩; replace HFc := Zz (Fr.then7 (Hid.out HFc) f); clear f x0 x1 x2 x3 x4 x5 x6 y0 y1 y2 y3 y4 y5 y6 c0 c1 c2 c3 c4 c5 c6 d0 d1 d2 d3 d4 d5 d6 xz yz cz dz; obtain ⟨x0, x1, x2, x3, x4, x5, x6⟩ := Box.cells (HBs.out _ (Hid.out HFc)).1; obtain ⟨y0, y1, y2, y3, y4, y5, y6⟩ := Box.cells (HBs.out _ (Hid.out HFc)).2.1; obtain ⟨c0, c1, c2, c3, c4, c5, c6⟩ := Box.cells (HBs.out _ (Hid.out HFc)).2.2.1; obtain ⟨d0, d1, d2, d3, d4, d5, d6⟩ := Box.cells (HBs.out _ (Hid.out HFc)).2.2.2; have xz := Box.frozen (HBs.out _ (Hid.out HFc)).1; have yz := Box.frozen (HBs.out _ (Hid.out HFc)).2.1; have cz := Box.frozen (HBs.out _ (Hid.out HFc)).2.2.1; have dz := Box.frozen (HBs.out _ (Hid.out HFc)).2.2.2) | fail)
   with_reducible refine (HM2.out _).mono ?_
   rintro e wm ⟨rfl, rfl⟩
   obtain ⟨wS, hwS⟩ : ∃ y, World.setCell w' ⟨w.heap.size, 1, none⟩ (.string M) = y := ⟨_, rfl⟩
   have HBx := Zz (show Box wS w.heap.size (.int .i64 K) (.string M) (.string T) (.string F) (.int .i64 A) (.slice pa no ca) (.slice pb nn cb) ∧ Box wS w1.heap.size (.int .i64 10) (.string P') (.string T') (.string F') (.int .i64 A') (.slice qa mo da) (.slice qb mn db) ∧ Box wS w2.heap.size (.int .i64 0) (.string ⟨#[]⟩) (.string ⟨#[]⟩) (.string ⟨#[]⟩) (.int .i64 0) (.slice none 0 0) (.slice none 0 0) ∧ Box wS w3.heap.size (.int .i64 0) (.string ⟨#[]⟩) (.string ⟨#[]⟩) (.string ⟨#[]⟩) (.int .i64 0) (.slice none 0 0) (.slice none 0 0) from by
    obtain ⟨b1, b2, b3, b4⟩ := HBs.out _ (Hid.out HFc)
    have := HN.out
    have fS : Fr (fun k => k = w.heap.size) w' wS := hwS ▸ Fr.setQ _ _ _ _
    exact ⟨hwS ▸ b1.set1 _, b2.fr fS (by omega), b3.fr fS (by omega), b4.fr fS (by omega)⟩)
   have HWx := Zz (show Fr None' w wS from (HF.out.then7 (Hid.out HFc)).trans (show Fr (fun k => k = w.heap.size) w' wS from hwS ▸ Fr.setQ _ _ _ _) (fun _ e => Or.inr (by have := HN.out; omega)))
   clear c0 c1 c2 c3 c4 c5 c6 d0 d1 d2 d3 d4 d5 d6 cz dz
   obtain ⟨p0, p1, p2, p3, p4, p5, p6⟩ := HBx.out.1.cells
   obtain ⟨q0, q1, q2, q3, q4, q5, q6⟩ := HBx.out.2.1.cells
   go_wp2_with fail
   clear p0 p1 p2 p3 p4 p5 p6 q0 q1 q2 q3 q4 q5 q6 hwS
   obtain ⟨R7, hR7⟩ : ∃ R, Zw ⟨K, M, T, F, A, lO, lN⟩ = R := ⟨_, rfl⟩
   obtain ⟨R8, hR8⟩ : ∃ R, Zw ⟨10, P', T', F', A', lO', lN'⟩ = R := ⟨_, rfl⟩
   rw [hR7] at HQ2
   rw [hR8] at HQ1
   have HE7 := Zz hR7
   have HE8 := Zz hR8
   clear hR7 hR8
   with_reducible refine (HQ2.out _ HWx.out).mono ?_
   rintro e w7 ⟨rfl, f7⟩
   have HB7 := Zz (show Box w7 w.heap.size (.int .i64 K) (.string M) (.string T) (.string F) (.int .i64 A) (.slice pa no ca) (.slice pb nn cb) ∧ Box w7 w1.heap.size (.int .i64 10) (.string P') (.string T') (.string F') (.int .i64 A') (.slice qa mo da) (.slice qb mn db) ∧ Box w7 w2.heap.size (.int .i64 0) (.string ⟨#[]⟩) (.string ⟨#[]⟩) (.string ⟨#[]⟩) (.int .i64 0) (.slice none 0 0) (.slice none 0 0) ∧ Box w7 w3.heap.size (.int .i64 0) (.string ⟨#[]⟩) (.string ⟨#[]⟩) (.string ⟨#[]⟩) (.int .i64 0) (.slice none 0 0) (.slice none 0 0) from ⟨HBx.out.1.kept f7, HBx.out.2.1.kept f7, HBx.out.2.2.1.kept f7, HBx.out.2.2.2.kept f7⟩)
   replace HWx := Zz (HWx.out.then7 f7)
   replace HBx := HB7
   clear HB7 f7 x0 x1 x2 x3 x4 x5 x6 y0 y1 y2 y3 y4 y5 y6 xz yz
   cases R7 with
   | false =>
    have HC := Zz (HCk.out.trans (show Zu _ = Yz from by unfold Zu; rw [if_neg (by simp [HE7.out])]))
    have HBf := Zz (show Box w7 w2.heap.size (.int .i64 0) (.string ⟨#[]⟩) (.string ⟨#[]⟩) (.string ⟨#[]⟩) (.int .i64 0) (.slice none 0 0) (.slice none 0 0) ∧ Box w7 w3.heap.size (.int .i64 0) (.string ⟨#[]⟩) (.string ⟨#[]⟩) (.string ⟨#[]⟩) (.int .i64 0) (.slice none 0 0) (.slice none 0 0) from ⟨HBx.out.2.2.1, HBx.out.2.2.2⟩)
    obtain ⟨c0, c1, c2, c3, c4, c5, c6⟩ := HBf.out.1.cells
    obtain ⟨d0, d1, d2, d3, d4, d5, d6⟩ := HBf.out.2.cells
    have cz := HBf.out.1.frozen
    have dz := HBf.out.2.frozen
    go_wp2_with fail
    have hfin := Zt HWx.out HBf.out.1 HBf.out.2 n6 (by have := HN.out; omega) (by have := HN.out; omega) (.int .i64 0) (.string ⟨#[]⟩) (.string ⟨#[]⟩) (.string ⟨#[]⟩) (.int .i64 0) (.slice none 0 0) (.slice none 0 0) (.int .i64 0) (.string ⟨#[]⟩) (.string ⟨#[]⟩) (.string ⟨#[]⟩) (.int .i64 0) (.slice none 0 0) (.slice none 0 0)
    exact Zr (u := .bool false) rfl rfl rfl rfl rfl hfin.1 hfin.2.1 (Zq HC.out hfin.2.2.1)
   | true =>
    obtain ⟨y0, y1, y2, y3, y4, y5, y6⟩ := HBx.out.2.1.cells
    go_wp2_with fail
    with_reducible refine (HQ1.out _ HWx.out).mono ?_
    rintro e w8 ⟨rfl, f8⟩
    have HB8 := Zz (show Box w8 w.heap.size (.int .i64 K) (.string M) (.string T) (.string F) (.int .i64 A) (.slice pa no ca) (.slice pb nn cb) ∧ Box w8 w1.heap.size (.int .i64 10) (.string P') (.string T') (.string F') (.int .i64 A') (.slice qa mo da) (.slice qb mn db) ∧ Box w8 w2.heap.size (.int .i64 0) (.string ⟨#[]⟩) (.string ⟨#[]⟩) (.string ⟨#[]⟩) (.int .i64 0) (.slice none 0 0) (.slice none 0 0) ∧ Box w8 w3.heap.size (.int .i64 0) (.string ⟨#[]⟩) (.string ⟨#[]⟩) (.string ⟨#[]⟩) (.int .i64 0) (.slice none 0 0) (.slice none 0 0) from ⟨HBx.out.1.kept f8, HBx.out.2.1.kept f8, HBx.out.2.2.1.kept f8, HBx.out.2.2.2.kept f8⟩)
    replace HWx := Zz (HWx.out.then7 f8)
    replace HBx := HB8
    clear HB8 f8 y0 y1 y2 y3 y4 y5 y6
    cases R8 with
    | false =>
     have HC := Zz (HCk.out.trans (show Zu _ = Yz from by unfold Zu; rw [if_neg (by simp [HE8.out])]))
     have HBf := Zz (show Box w8 w2.heap.size (.int .i64 0) (.string ⟨#[]⟩) (.string ⟨#[]⟩) (.string ⟨#[]⟩) (.int .i64 0) (.slice none 0 0) (.slice none 0 0) ∧ Box w8 w3.heap.size (.int .i64 0) (.string ⟨#[]⟩) (.string ⟨#[]⟩) (.string ⟨#[]⟩) (.int .i64 0) (.slice none 0 0) (.slice none 0 0) from ⟨HBx.out.2.2.1, HBx.out.2.2.2⟩)
     obtain ⟨c0, c1, c2, c3, c4, c5, c6⟩ := HBf.out.1.cells
     obtain ⟨d0, d1, d2, d3, d4, d5, d6⟩ := HBf.out.2.cells
     have cz := HBf.out.1.frozen
     have dz := HBf.out.2.frozen
     go_wp2_with fail
     have hfin := Zt HWx.out HBf.out.1 HBf.out.2 n6 (by have := HN.out; omega) (by have := HN.out; omega) (.int .i64 0) (.string ⟨#[]⟩) (.string ⟨#[]⟩) (.string ⟨#[]⟩) (.int .i64 0) (.slice none 0 0) (.slice none 0 0) (.int .i64 0) (.string ⟨#[]⟩) (.string ⟨#[]⟩) (.string ⟨#[]⟩) (.int .i64 0) (.slice none 0 0) (.slice none 0 0)
     exact Zr (u := .bool false) rfl rfl rfl rfl rfl hfin.1 hfin.2.1 (Zq HC.out hfin.2.2.1)
    | true =>
     have HC := Zz (HCk.out.trans (show Zu (⟨10, P', T', F', A', lO', lN'⟩, ⟨K, M, T, F, A, lO, lN⟩, true) = (⟨10, P', T', F', A', lO', lN'⟩, ⟨K, M, T, F, A, lO, lN⟩, true) from by unfold Zu; rw [if_pos (by simp [HE7.out, HE8.out])]))
     have HS := Zz (show (∀ w', Fr (fun k => k = w2.heap.size ∨ k = w3.heap.size) w8 w' → Fr (fun k => k = w2.heap.size ∨ k = w3.heap.size) w8 w' ∧ w'.cell? ⟨w.heap.size, 0, none⟩ = some (.int .i64 K) ∧ w'.cell? ⟨w.heap.size, 1, none⟩ = some (.string M) ∧ w'.cell? ⟨w.heap.size, 2, none⟩ = some (.string T) ∧ w'.cell? ⟨w.heap.size, 3, none⟩ = some (.string F) ∧ w'.cell? ⟨w.heap.size, 4, none⟩ = some (.int .i64 A) ∧ w'.cell? ⟨w.heap.size, 5, none⟩ = some (.slice pa no ca) ∧ w'.cell? ⟨w.heap.size, 6, none⟩ = some (.slice pb nn cb) ∧ w'.cell? ⟨w1.heap.size, 0, none⟩ = some (.int .i64 10) ∧ w'.cell? ⟨w1.heap.size, 1, none⟩ = some (.string P') ∧ w'.cell? ⟨w1.heap.size, 2, none⟩ = some (.string T') ∧ w'.cell? ⟨w1.heap.size, 3, none⟩ = some (.string F') ∧ w'.cell? ⟨w1.heap.size, 4, none⟩ = some (.int .i64 A') ∧ w'.cell? ⟨w1.heap.size, 5, none⟩ = some (.slice qa mo da) ∧ w'.cell? ⟨w1.heap.size, 6, none⟩ = some (.slice qb mn db)) from fun w' f => by
      obtain ⟨x0, x1, x2, x3, x4, x5, x6⟩ := (HBx.out.1.fr f (by have := HN.out; omega)).cells
      obtain ⟨y0, y1, y2, y3, y4, y5, y6⟩ := (HBx.out.2.1.fr f (by have := HN.out; omega)).cells
      exact ⟨f, x0, x1, x2, x3, x4, x5, x6, y0, y1, y2, y3, y4, y5, y6⟩)
     have hS0 := HS.out w8.drew (Fr.drew _ w8)
     have hS6 := HS.out (setP w8 w2.heap.size (.int .i64 10) (.string P') (.string T') (.string F') (.int .i64 A') (.slice qa mo da) (.slice qb mn db)).drew (Fr.then (Fr.setP _ (Or.inl rfl) _ _ _ _ _ _ _) (Fr.drew _ _))
     have hS7 := HS.out (setP (setP w8 w2.heap.size (.int .i64 10) (.string P') (.string T') (.string F') (.int .i64 A') (.slice qa mo da) (.slice qb mn db)) w3.heap.size (.int .i64 K) (.string M) (.string T) (.string F) (.int .i64 A) (.slice pa no ca) (.slice pb nn cb)).drew (Fr.then (Fr.then (Fr.setP _ (Or.inl rfl) _ _ _ _ _ _ _) (Fr.setP _ (Or.inr rfl) _ _ _ _ _ _ _)) (Fr.drew _ _))
     obtain ⟨c0, c1, c2, c3, c4, c5, c6⟩ := HBx.out.2.2.1.cells
     obtain ⟨d0, d1, d2, d3, d4, d5, d6⟩ := HBx.out.2.2.2.cells
     have cz := HBx.out.2.2.1.frozen
     have dz := HBx.out.2.2.2.frozen
     go_wp2_with fail
     go_region_held3 (fun w' => Fr (fun k => k = w2.heap.size ∨ k = w3.heap.size) w8 w' ∧ w'.cell? ⟨w.heap.size, 0, none⟩ = some (.int .i64 K) ∧ w'.cell? ⟨w.heap.size, 1, none⟩ = some (.string M) ∧ w'.cell? ⟨w.heap.size, 2, none⟩ = some (.string T) ∧ w'.cell? ⟨w.heap.size, 3, none⟩ = some (.string F) ∧ w'.cell? ⟨w.heap.size, 4, none⟩ = some (.int .i64 A) ∧ w'.cell? ⟨w.heap.size, 5, none⟩ = some (.slice pa no ca) ∧ w'.cell? ⟨w.heap.size, 6, none⟩ = some (.slice pb nn cb) ∧ w'.cell? ⟨w1.heap.size, 0, none⟩ = some (.int .i64 10) ∧ w'.cell? ⟨w1.heap.size, 1, none⟩ = some (.string P') ∧ w'.cell? ⟨w1.heap.size, 2, none⟩ = some (.string T') ∧ w'.cell? ⟨w1.heap.size, 3, none⟩ = some (.string F') ∧ w'.cell? ⟨w1.heap.size, 4, none⟩ = some (.int .i64 A') ∧ w'.cell? ⟨w1.heap.size, 5, none⟩ = some (.slice qa mo da) ∧ w'.cell? ⟨w1.heap.size, 6, none⟩ = some (.slice qb mn db))
      (first | with_reducible exact hS0 | with_reducible exact hS6 | with_reducible exact hS7)
      (fail)
     clear hS0 hS6 hS7 cz dz c0 c1 c2 c3 c4 c5 c6 d0 d1 d2 d3 d4 d5 d6
     go_wp2_with fail
     have hfin := Zt HWx.out HBx.out.2.2.1 HBx.out.2.2.2 n6 (by have := HN.out; omega) (by have := HN.out; omega) (.int .i64 10) (.string P') (.string T') (.string F') (.int .i64 A') (.slice qa mo da) (.slice qb mn db) (.int .i64 K) (.string M) (.string T) (.string F) (.int .i64 A) (.slice pa no ca) (.slice pb nn cb)
     have hfr := hfin.2.2.1.then7 (Fr.drew None' _)
     exact Zr rfl rfl rfl rfl rfl hfin.1.drew hfin.2.1.drew (by rw [HC.out]; exact ⟨_, _, rfl, HV.out.1, HV.out.2, hfr⟩)
  | false =>
   rw [hw, if_neg (by simp)] at hE
   rw [hw] at HM2
   clear hw
   generalize wiP P T' = R at hE HW2
   subst hE
   cases R with
   | true =>
    simp only at HQ1 HQ2 HV HCk
    go_wp2_with (first | (go_at_call 79; with_reducible (refine (HCx.out _).mono ?_); rintro e w' ⟨rfl, f⟩; replace HFc := Zz (Fr.then7 (Hid.out HFc) f); clear f x0 x1 x2 x3 x4 x5 x6 y0 y1 y2 y3 y4 y5 y6 c0 c1 c2 c3 c4 c5 c6 d0 d1 d2 d3 d4 d5 d6 xz yz cz dz; obtain ⟨x0, x1, x2, x3, x4, x5, x6⟩ := Box.cells (HBs.out _ (Hid.out HFc)).1; obtain ⟨y0, y1, y2, y3, y4, y5, y6⟩ := Box.cells (HBs.out _ (Hid.out HFc)).2.1; obtain ⟨c0, c1, c2, c3, c4, c5, c6⟩ := Box.cells (HBs.out _ (Hid.out HFc)).2.2.1; obtain ⟨d0, d1, d2, d3, d4, d5, d6⟩ := Box.cells (HBs.out _ (Hid.out HFc)).2.2.2; have xz := Box.frozen (HBs.out _ (Hid.out HFc)).1; have yz := Box.frozen (HBs.out _ (Hid.out HFc)).2.1; have cz := Box.frozen (HBs.out _ (Hid.out HFc)).2.2.1; have dz := Box.frozen (HBs.out _ (Hid.out HFc)).2.2.2) | (go_at_call 79; with_reducible (refine (HCy.out _).mono ?_); rintro e w' ⟨rfl, f⟩; replace HFc := Zz (Fr.then7 (Hid.out HFc) f); clear f x0 x1 x2 x3 x4 x5 x6 y0 y1 y2 y3 y4 y5 y6 c0 c1 c2 c3 c4 c5 c6 d0 d1 d2 d3 d4 d5 d6 xz yz cz dz; obtain ⟨x0, x1, x2, x3, x4, x5, x6⟩ := Box.cells (HBs.out _ (Hid.out HFc)).1; obtain ⟨y0, y1, y2, y3, y4, y5, y6⟩ := Box.cells (HBs.out _ (Hid.out HFc)).2.1; obtain ⟨c0, c1, c2, c3, c4, c5, c6⟩ := Box.cells (HBs.out _ (Hid.out HFc)).2.2.1; obtain ⟨d0, d1, d2, d3, d4, d5, d6⟩ := Box.cells (HBs.out _ (Hid.out HFc)).2.2.2; have xz := Box.frozen (HBs.out _ (Hid.out HFc)).1; have yz := Box.frozen (HBs.out _ (Hid.out HFc)).2.1; have cz := Box.frozen (HBs.out _ (Hid.out HFc)).2.2.1; have dz := Box.frozen (HBs.out _ (Hid.out HFc)).2.2.2) | (go_at_call 80; with_reducible (refine (HM2.out _).mono ?_); rintro e w' ⟨rfl, rfl⟩) | (go_at_call 81; with_reducible (refine (HW2.out _).mono ?_); rintro e w' ⟨rfl, rfl⟩) | fail)
    have HBx := Zz (HBs.out _ (Hid.out HFc))
    have HWx := Zz (HF.out.then7 (Hid.out HFc))
    have HC := Zz (HCk.out.trans (show Zu _ = Yz from by unfold Zu; rw [if_neg (by simp)]))
    have hfin := Zt HWx.out HBx.out.2.2.1 HBx.out.2.2.2 n6 (by have := HN.out; omega) (by have := HN.out; omega) (.int .i64 0) (.string ⟨#[]⟩) (.string ⟨#[]⟩) (.string ⟨#[]⟩) (.int .i64 0) (.slice none 0 0) (.slice none 0 0) (.int .i64 0) (.string ⟨#[]⟩) (.string ⟨#[]⟩) (.string ⟨#[]⟩) (.int .i64 0) (.slice none 0 0) (.slice none 0 0)
    exact Zr (u := .bool false) rfl rfl rfl rfl rfl hfin.1 hfin.2.1 (Zq HC.out hfin.2.2.1)
   | false =>
    simp only at HQ1 HQ2 HV HCk
    go_wp2_with (first | (go_at_call 79; with_reducible (refine (HCx.out _).mono ?_); rintro e w' ⟨rfl, f⟩; replace HFc := Zz (Fr.then7 (Hid.out HFc) f); clear f x0 x1 x2 x3 x4 x5 x6 y0 y1 y2 y3 y4 y5 y6 c0 c1 c2 c3 c4 c5 c6 d0 d1 d2 d3 d4 d5 d6 xz yz cz dz; obtain ⟨x0, x1, x2, x3, x4, x5, x6⟩ := Box.cells (HBs.out _ (Hid.out HFc)).1; obtain ⟨y0, y1, y2, y3, y4, y5, y6⟩ := Box.cells (HBs.out _ (Hid.out HFc)).2.1; obtain ⟨c0, c1, c2, c3, c4, c5, c6⟩ := Box.cells (HBs.out _ (Hid.out HFc)).2.2.1; obtain ⟨d0, d1, d2, d3, d4, d5, d6⟩ := Box.cells (HBs.out _ (Hid.out HFc)).2.2.2; have xz := Box.frozen (HBs.out _ (Hid.out HFc)).1; have yz := Box.frozen (HBs.out _ (Hid.out HFc)).2.1; have cz := Box.frozen (HBs.out _ (Hid.out HFc)).2.2.1; have dz := Box.frozen (HBs.out _ (Hid.out HFc)).2.2.2) | (go_at_call 79; with_reducible (refine (HCy.out _).mono ?_); rintro e w' ⟨rfl, f⟩; replace HFc := Zz (Fr.then7 (Hid.out HFc) f); clear f x0 x1 x2 x3 x4 x5 x6 y0 y1 y2 y3 y4 y5 y6 c0 c1 c2 c3 c4 c5 c6 d0 d1 d2 d3 d4 d5 d6 xz yz cz dz; obtain ⟨x0, x1, x2, x3, x4, x5, x6⟩ := Box.cells (HBs.out _ (Hid.out HFc)).1; obtain ⟨y0, y1, y2, y3, y4, y5, y6⟩ := Box.cells (HBs.out _ (Hid.out HFc)).2.1; obtain ⟨c0, c1, c2, c3, c4, c5, c6⟩ := Box.cells (HBs.out _ (Hid.out HFc)).2.2.1; obtain ⟨d0, d1, d2, d3, d4, d5, d6⟩ := Box.cells (HBs.out _ (Hid.out HFc)).2.2.2; have xz := Box.frozen (HBs.out _ (Hid.out HFc)).1; have yz := Box.frozen (HBs.out _ (Hid.out HFc)).2.1; have cz := Box.frozen (HBs.out _ (Hid.out HFc)).2.2.1; have dz := Box.frozen (HBs.out _ (Hid.out HFc)).2.2.2) | (go_at_call 80; with_reducible (refine (HM2.out _).mono ?_); rintro e w' ⟨rfl, rfl⟩) | (go_at_call 81; with_reducible (refine (HW2.out _).mono ?_); rintro e w' ⟨rfl, rfl⟩) | fail)
    have HBx := Zz (HBs.out _ (Hid.out HFc))
    have HWx := Zz (HF.out.then7 (Hid.out HFc))
    obtain ⟨R7, hR7⟩ : ∃ R, Zw ⟨K, P, T, F, A, lO, lN⟩ = R := ⟨_, rfl⟩
    obtain ⟨R8, hR8⟩ : ∃ R, Zw ⟨10, P', T', F', A', lO', lN'⟩ = R := ⟨_, rfl⟩
    rw [hR7] at HQ2
    rw [hR8] at HQ1
    have HE7 := Zz hR7
    have HE8 := Zz hR8
    clear hR7 hR8
    with_reducible refine (HQ2.out _ HWx.out).mono ?_
    rintro e w7 ⟨rfl, f7⟩
    have HB7 := Zz (show Box w7 w.heap.size (.int .i64 K) (.string P) (.string T) (.string F) (.int .i64 A) (.slice pa no ca) (.slice pb nn cb) ∧ Box w7 w1.heap.size (.int .i64 10) (.string P') (.string T') (.string F') (.int .i64 A') (.slice qa mo da) (.slice qb mn db) ∧ Box w7 w2.heap.size (.int .i64 0) (.string ⟨#[]⟩) (.string ⟨#[]⟩) (.string ⟨#[]⟩) (.int .i64 0) (.slice none 0 0) (.slice none 0 0) ∧ Box w7 w3.heap.size (.int .i64 0) (.string ⟨#[]⟩) (.string ⟨#[]⟩) (.string ⟨#[]⟩) (.int .i64 0) (.slice none 0 0) (.slice none 0 0) from ⟨HBx.out.1.kept f7, HBx.out.2.1.kept f7, HBx.out.2.2.1.kept f7, HBx.out.2.2.2.kept f7⟩)
    replace HWx := Zz (HWx.out.then7 f7)
    replace HBx := HB7
    clear HB7 f7 x0 x1 x2 x3 x4 x5 x6 y0 y1 y2 y3 y4 y5 y6 c0 c1 c2 c3 c4 c5 c6 d0 d1 d2 d3 d4 d5 d6 xz yz cz dz
    cases R7 with
    | false =>
     have HC := Zz (HCk.out.trans (show Zu _ = Yz from by unfold Zu; rw [if_neg (by simp [HE7.out])]))
     have HBf := Zz (show Box w7 w2.heap.size (.int .i64 0) (.string ⟨#[]⟩) (.string ⟨#[]⟩) (.string ⟨#[]⟩) (.int .i64 0) (.slice none 0 0) (.slice none 0 0) ∧ Box w7 w3.heap.size (.int .i64 0) (.string ⟨#[]⟩) (.string ⟨#[]⟩) (.string ⟨#[]⟩) (.int .i64 0) (.slice none 0 0) (.slice none 0 0) from ⟨HBx.out.2.2.1, HBx.out.2.2.2⟩)
     obtain ⟨c0, c1, c2, c3, c4, c5, c6⟩ := HBf.out.1.cells
     obtain ⟨d0, d1, d2, d3, d4, d5, d6⟩ := HBf.out.2.cells
     have cz := HBf.out.1.frozen
     have dz := HBf.out.2.frozen
     go_wp2_with fail
     have hfin := Zt HWx.out HBf.out.1 HBf.out.2 n6 (by have := HN.out; omega) (by have := HN.out; omega) (.int .i64 0) (.string ⟨#[]⟩) (.string ⟨#[]⟩) (.string ⟨#[]⟩) (.int .i64 0) (.slice none 0 0) (.slice none 0 0) (.int .i64 0) (.string ⟨#[]⟩) (.string ⟨#[]⟩) (.string ⟨#[]⟩) (.int .i64 0) (.slice none 0 0) (.slice none 0 0)
     exact Zr (u := .bool false) rfl rfl rfl rfl rfl hfin.1 hfin.2.1 (Zq HC.out hfin.2.2.1)
    | true =>
     obtain ⟨y0, y1, y2, y3, y4, y5, y6⟩ := HBx.out.2.1.cells
     go_wp2_with fail
     with_reducible refine (HQ1.out _ HWx.out).mono ?_
     rintro e w8 ⟨rfl, f8⟩
     have HB8 := Zz (show Box w8 w.heap.size (.int .i64 K) (.string P) (.string T) (.string F) (.int .i64 A) (.slice pa no ca) (.slice pb nn cb) ∧ Box w8 w1.heap.size (.int .i64 10) (.string P') (.string T') (.string F') (.int .i64 A') (.slice qa mo da) (.slice qb mn db) ∧ Box w8 w2.heap.size (.int .i64 0) (.string ⟨#[]⟩) (.string ⟨#[]⟩) (.string ⟨#[]⟩) (.int .i64 0) (.slice none 0 0) (.slice none 0 0) ∧ Box w8 w3.heap.size (.int .i64 0) (.string ⟨#[]⟩) (.string ⟨#[]⟩) (.string ⟨#[]⟩) (.int .i64 0) (.slice none 0 0) (.slice none 0 0) from ⟨HBx.out.1.kept f8, HBx.out.2.1.kept f8, HBx.out.2.2.1.kept f8, HBx.out.2.2.2.kept f8⟩)
     replace HWx := Zz (HWx.out.then7 f8)
     replace HBx := HB8
     clear HB8 f8 y0 y1 y2 y3 y4 y5 y6
     cases R8 with
     | false =>
      have HC := Zz (HCk.out.trans (show Zu _ = Yz from by unfold Zu; rw [if_neg (by simp [HE8.out])]))
      have HBf := Zz (show Box w8 w2.heap.size (.int .i64 0) (.string ⟨#[]⟩) (.string ⟨#[]⟩) (.string ⟨#[]⟩) (.int .i64 0) (.slice none 0 0) (.slice none 0 0) ∧ Box w8 w3.heap.size (.int .i64 0) (.string ⟨#[]⟩) (.string ⟨#[]⟩) (.string ⟨#[]⟩) (.int .i64 0) (.slice none 0 0) (.slice none 0 0) from ⟨HBx.out.2.2.1, HBx.out.2.2.2⟩)
      obtain ⟨c0, c1, c2, c3, c4, c5, c6⟩ := HBf.out.1.cells
      obtain ⟨d0, d1, d2, d3, d4, d5, d6⟩ := HBf.out.2.cells
      have cz := HBf.out.1.frozen
      have dz := HBf.out.2.frozen
      go_wp2_with fail
      have hfin := Zt HWx.out HBf.out.1 HBf.out.2 n6 (by have := HN.out; omega) (by have := HN.out; omega) (.int .i64 0) (.string ⟨#[]⟩) (.string ⟨#[]⟩) (.string ⟨#[]⟩) (.int .i64 0) (.slice none 0 0) (.slice none 0 0) (.int .i64 0) (.string ⟨#[]⟩) (.string ⟨#[]⟩) (.string ⟨#[]⟩) (.int .i64 0) (.slice none 0 0) (.slice none 0 0)
      exact Zr (u := .bool false) rfl rfl rfl rfl rfl hfin.1 hfin.2.1 (Zq HC.out hfin.2.2.1)
     | true =>
      have HC := Zz (HCk.out.trans (show Zu (⟨10, P', T', F', A', lO', lN'⟩, ⟨K, P, T, F, A, lO, lN⟩, true) = (⟨10, P', T', F', A', lO', lN'⟩, ⟨K, P, T, F, A, lO, lN⟩, true) from by unfold Zu; rw [if_pos (by simp [HE7.out, HE8.out])]))
      have HS := Zz (show (∀ w', Fr (fun k => k = w2.heap.size ∨ k = w3.heap.size) w8 w' → Fr (fun k => k = w2.heap.size ∨ k = w3.heap.size) w8 w' ∧ w'.cell? ⟨w.heap.size, 0, none⟩ = some (.int .i64 K) ∧ w'.cell? ⟨w.heap.size, 1, none⟩ = some (.string P) ∧ w'.cell? ⟨w.heap.size, 2, none⟩ = some (.string T) ∧ w'.cell? ⟨w.heap.size, 3, none⟩ = some (.string F) ∧ w'.cell? ⟨w.heap.size, 4, none⟩ = some (.int .i64 A) ∧ w'.cell? ⟨w.heap.size, 5, none⟩ = some (.slice pa no ca) ∧ w'.cell? ⟨w.heap.size, 6, none⟩ = some (.slice pb nn cb) ∧ w'.cell? ⟨w1.heap.size, 0, none⟩ = some (.int .i64 10) ∧ w'.cell? ⟨w1.heap.size, 1, none⟩ = some (.string P') ∧ w'.cell? ⟨w1.heap.size, 2, none⟩ = some (.string T') ∧ w'.cell? ⟨w1.heap.size, 3, none⟩ = some (.string F') ∧ w'.cell? ⟨w1.heap.size, 4, none⟩ = some (.int .i64 A') ∧ w'.cell? ⟨w1.heap.size, 5, none⟩ = some (.slice qa mo da) ∧ w'.cell? ⟨w1.heap.size, 6, none⟩ = some (.slice qb mn db)) from fun w' f => by
       obtain ⟨x0, x1, x2, x3, x4, x5, x6⟩ := (HBx.out.1.fr f (by have := HN.out; omega)).cells
       obtain ⟨y0, y1, y2, y3, y4, y5, y6⟩ := (HBx.out.2.1.fr f (by have := HN.out; omega)).cells
       exact ⟨f, x0, x1, x2, x3, x4, x5, x6, y0, y1, y2, y3, y4, y5, y6⟩)
      have hS0 := HS.out w8.drew (Fr.drew _ w8)
      have hS6 := HS.out (setP w8 w2.heap.size (.int .i64 10) (.string P') (.string T') (.string F') (.int .i64 A') (.slice qa mo da) (.slice qb mn db)).drew (Fr.then (Fr.setP _ (Or.inl rfl) _ _ _ _ _ _ _) (Fr.drew _ _))
      have hS7 := HS.out (setP (setP w8 w2.heap.size (.int .i64 10) (.string P') (.string T') (.string F') (.int .i64 A') (.slice qa mo da) (.slice qb mn db)) w3.heap.size (.int .i64 K) (.string P) (.string T) (.string F) (.int .i64 A) (.slice pa no ca) (.slice pb nn cb)).drew (Fr.then (Fr.then (Fr.setP _ (Or.inl rfl) _ _ _ _ _ _ _) (Fr.setP _ (Or.inr rfl) _ _ _ _ _ _ _)) (Fr.drew _ _))
      obtain ⟨c0, c1, c2, c3, c4, c5, c6⟩ := HBx.out.2.2.1.cells
      obtain ⟨d0, d1, d2, d3, d4, d5, d6⟩ := HBx.out.2.2.2.cells
      have cz := HBx.out.2.2.1.frozen
      have dz := HBx.out.2.2.2.frozen
      go_wp2_with fail
      go_region_held3 (fun w' => Fr (fun k => k = w2.heap.size ∨ k = w3.heap.size) w8 w' ∧ w'.cell? ⟨w.heap.size, 0, none⟩ = some (.int .i64 K) ∧ w'.cell? ⟨w.heap.size, 1, none⟩ = some (.string P) ∧ w'.cell? ⟨w.heap.size, 2, none⟩ = some (.string T) ∧ w'.cell? ⟨w.heap.size, 3, none⟩ = some (.string F) ∧ w'.cell? ⟨w.heap.size, 4, none⟩ = some (.int .i64 A) ∧ w'.cell? ⟨w.heap.size, 5, none⟩ = some (.slice pa no ca) ∧ w'.cell? ⟨w.heap.size, 6, none⟩ = some (.slice pb nn cb) ∧ w'.cell? ⟨w1.heap.size, 0, none⟩ = some (.int .i64 10) ∧ w'.cell? ⟨w1.heap.size, 1, none⟩ = some (.string P') ∧ w'.cell? ⟨w1.heap.size, 2, none⟩ = some (.string T') ∧ w'.cell? ⟨w1.heap.size, 3, none⟩ = some (.string F') ∧ w'.cell? ⟨w1.heap.size, 4, none⟩ = some (.int .i64 A') ∧ w'.cell? ⟨w1.heap.size, 5, none⟩ = some (.slice qa mo da) ∧ w'.cell? ⟨w1.heap.size, 6, none⟩ = some (.slice qb mn db))
       (first | with_reducible exact hS0 | with_reducible exact hS6 | with_reducible exact hS7)
       (fail)
      clear hS0 hS6 hS7 cz dz c0 c1 c2 c3 c4 c5 c6 d0 d1 d2 d3 d4 d5 d6
      go_wp2_with fail
      have hfin := Zt HWx.out HBx.out.2.2.1 HBx.out.2.2.2 n6 (by have := HN.out; omega) (by have := HN.out; omega) (.int .i64 10) (.string P') (.string T') (.string F') (.int .i64 A') (.slice qa mo da) (.slice qb mn db) (.int .i64 K) (.string P) (.string T) (.string F) (.int .i64 A) (.slice pa no ca) (.slice pb nn cb)
      have hfr := hfin.2.2.1.then7 (Fr.drew None' _)
      exact Zr rfl rfl rfl rfl rfl hfin.1.drew hfin.2.1.drew (by rw [HC.out]; exact ⟨_, _, rfl, HV.out.1, HV.out.2, hfr⟩)
theorem rcomm_21 (x y : Pr) (pa pb qa qb : Option Addr) (no nn ca cb mo mn da db : Nat) (w : World) (kx : Ys x = 2 ∧ x.kind = 10) (ky : Ys y = 1 ∧ 7 ≤ y.kind ∧ y.kind ≤ 9) (hno : x.old.length = no) (hnn : x.new.length = nn) (hmo : y.old.length = mo) (hmn : y.new.length = mn) (sx : Zs x) (sy : Zs y) (fx : Zw x = true) (fy : Zw y = true)
  (HR1 : Hid (∀ w', Fr None' w w' → Calls Tryz.prog 61 #[.agg #[.int .i64 x.kind, .string x.path, .string x.dst, .string x.src, .int .i64 x.pos, .slice pa no ca, .slice pb nn cb]] w' (fun e w'' => e = .returned (.bool true) ∧ Fr None' w' w'')))
  (HR2 : Hid (∀ w', Fr None' w w' → Calls Tryz.prog 61 #[.agg #[.int .i64 y.kind, .string y.path, .string y.dst, .string y.src, .int .i64 y.pos, .slice qa mo da, .slice qb mn db]] w' (fun e w'' => e = .returned (.bool true) ∧ Fr None' w' w'')))
  (HQ1 : Hid (∀ w', Fr None' w w' → Calls Tryz.prog 61 #[.agg #[.int .i64 (Zx x y).1.kind, .string (Zx x y).1.path, .string (Zx x y).1.dst, .string (Zx x y).1.src, .int .i64 (Zx x y).1.pos, .slice qa mo da, .slice qb mn db]] w' (fun e w'' => e = .returned (.bool (Zw (Zx x y).1)) ∧ Fr None' w' w'')))
  (HQ2 : Hid (∀ w', Fr None' w w' → Calls Tryz.prog 61 #[.agg #[.int .i64 (Zx x y).2.1.kind, .string (Zx x y).2.1.path, .string (Zx x y).2.1.dst, .string (Zx x y).2.1.src, .int .i64 (Zx x y).2.1.pos, .slice pa no ca, .slice pb nn cb]] w' (fun e w'' => e = .returned (.bool (Zw (Zx x y).2.1)) ∧ Fr None' w' w'')))
  (w0 : World) (HV : Hid (Yf w0 (.agg #[.int .i64 (Zx x y).1.kind, .string (Zx x y).1.path, .string (Zx x y).1.dst, .string (Zx x y).1.src, .int .i64 (Zx x y).1.pos, .slice qa mo da, .slice qb mn db]) (Zx x y).1 ∧ Yf w0 (.agg #[.int .i64 (Zx x y).2.1.kind, .string (Zx x y).2.1.path, .string (Zx x y).2.1.dst, .string (Zx x y).2.1.src, .int .i64 (Zx x y).2.1.pos, .slice pa no ca, .slice pb nn cb]) (Zx x y).2.1)) :
  Calls Tryz.prog 57 #[.agg #[.int .i64 x.kind, .string x.path, .string x.dst, .string x.src, .int .i64 x.pos, .slice pa no ca, .slice pb nn cb], .agg #[.int .i64 y.kind, .string y.path, .string y.dst, .string y.src, .int .i64 y.pos, .slice qa mo da, .slice qb mn db]] w fun e w' => Z9 x y w0 w e w' := by
 have HCk := Zz (show Zj x y = Zu (Zx x y) from by unfold Zj; rw [if_pos (by simp [fx, fy])])
 have HRu := Zz (show Zx x y = Zx x y from rfl)
 have HLn := Zz (fun (h7 : x.kind = 7) (h7' : y.kind = 7) w' => Yh x y pa pb qa qb no nn ca cb mo mn da db w' hno hnn hmo hmn (by have := sx.old; omega) (by have := sx.new; omega) (by have := sy.old; omega) (by have := sy.new; omega) (Yt fx h7) (Yt fy h7'))
 have HCx := Zz (fun w' => Z8 x pa pb no nn ca cb w')
 have HCy := Zz (fun w' => Z8 y qa qb mo mn da db w')
 have HAx := Zz (fun w' => Zf x pa pb no nn ca cb w')
 have HAy := Zz (fun w' => Zf y qa qb mo mn da db w')
 have HP1 := Zz (fun w' => Zn x y.path pa pb no nn ca cb w' sx.path sx.dst sy.path)
 have HP2 := Zz (fun w' => Zn x y.dst pa pb no nn ca cb w' sx.path sx.dst sy.dst)
 have HP3 := Zz (fun w' => Zn y x.path qa qb mo mn da db w' sy.path sy.dst sx.path)
 have HP4 := Zz (show ∀ w', Calls Tryz.prog 63 #[.string x.path, .string y.path] w' (fun e w'' => e = .returned (.bool (apP x.path y.path)) ∧ w' = w'') from fun w' => Path.rapart_any x.path y.path w' (by have := sx.path; omega) (by have := sy.path; omega))
 have HM1 := Zz (show ∀ w', Calls Tryz.prog 80 #[.string y.path, .string x.dst, .string x.path] w' (fun e w'' => e = .returned (.tuple #[.string (moP y.path x.dst x.path), .bool (wiP y.path x.dst)]) ∧ w' = w'') from fun w' => Path.rmoved_any y.path x.dst x.path w' (by have := sy.path; omega) (by have := sx.dst; omega) (by have := sx.path; omega))
 have HM2 := Zz (show ∀ w', Calls Tryz.prog 80 #[.string x.path, .string y.path, .string y.dst] w' (fun e w'' => e = .returned (.tuple #[.string (moP x.path y.path y.dst), .bool (wiP x.path y.path)]) ∧ w' = w'') from fun w' => Path.rmoved_any x.path y.path y.dst w' (by have := sx.path; omega) (by have := sy.path; omega) (by have := sy.dst; omega))
 have HW1 := Zz (show ∀ w', Calls Tryz.prog 81 #[.string y.path, .string x.path] w' (fun e w'' => e = .returned (.bool (wiP y.path x.path)) ∧ w' = w'') from fun w' => Path.rwithin_any y.path x.path w' (by have := sy.path; omega) (by have := sx.path; omega))
 have HW2 := Zz (show ∀ w', Calls Tryz.prog 81 #[.string x.path, .string y.dst] w' (fun e w'' => e = .returned (.bool (wiP x.path y.dst)) ∧ w' = w'') from fun w' => Path.rwithin_any x.path y.dst w' (by have := sx.path; omega) (by have := sy.dst; omega))
 generalize hr : Zx x y = r at HCk HQ1 HQ2 HV
 have HRr := Zz hr
 unfold Z9
 generalize Zj x y = cc at HCk ⊢
 obtain ⟨K, P, T, F, A, lO, lN⟩ := x
 obtain ⟨K', P', T', F', A', lO', lN'⟩ := y
 simp only at hno hnn hmo hmn HR1 HR2 HLn HCx HCy HAx HAy HP1 HP2 HP3 HP4 HM1 HM2 HW1 HW2 kx ky ⊢
 clear hno hnn hmo hmn sx sy fx fy HRu
 obtain ⟨w1, hw1⟩ : ∃ w1, w.alloc (.cells #[.int .i64 K, .string P, .string T, .string F, .int .i64 A, .slice pa no ca, .slice pb nn cb] 43) = w1 := ⟨_, rfl⟩
 obtain ⟨w2, hw2⟩ : ∃ w2, w1.alloc (.cells #[.int .i64 K', .string P', .string T', .string F', .int .i64 A', .slice qa mo da, .slice qb mn db] 43) = w2 := ⟨_, rfl⟩
 obtain ⟨w3, hw3⟩ : ∃ w3, w2.alloc (.cells #[.int .i64 0, .string ⟨#[]⟩, .string ⟨#[]⟩, .string ⟨#[]⟩, .int .i64 0, .slice none 0 0, .slice none 0 0] 43) = w3 := ⟨_, rfl⟩
 obtain ⟨w4, hw4⟩ : ∃ w4, w3.alloc (.cells #[.int .i64 0, .string ⟨#[]⟩, .string ⟨#[]⟩, .string ⟨#[]⟩, .int .i64 0, .slice none 0 0, .slice none 0 0] 43) = w4 := ⟨_, rfl⟩
 have F1 : Fr None' w w1 := hw1 ▸ Fr.alloc None' w _
 have F2 : Fr None' w1 w2 := hw2 ▸ Fr.alloc None' w1 _
 have F3 : Fr None' w2 w3 := hw3 ▸ Fr.alloc None' w2 _
 have F4 : Fr None' w3 w4 := hw4 ▸ Fr.alloc None' w3 _
 have BX : Box w4 w.heap.size (.int .i64 K) (.string P) (.string T) (.string F) (.int .i64 A) (.slice pa no ca) (.slice pb nn cb) := (hw1 ▸ Box.new w _ _ _ _ _ _ _ : Box w1 _ _ _ _ _ _ _ _).kept ((F2.then7 F3).then7 F4)
 have BY : Box w4 w1.heap.size (.int .i64 K') (.string P') (.string T') (.string F') (.int .i64 A') (.slice qa mo da) (.slice qb mn db) := (hw2 ▸ Box.new w1 _ _ _ _ _ _ _ : Box w2 _ _ _ _ _ _ _ _).kept (F3.then7 F4)
 have BC : Box w4 w2.heap.size (.int .i64 0) (.string ⟨#[]⟩) (.string ⟨#[]⟩) (.string ⟨#[]⟩) (.int .i64 0) (.slice none 0 0) (.slice none 0 0) := (hw3 ▸ Box.new w2 _ _ _ _ _ _ _ : Box w3 _ _ _ _ _ _ _ _).kept F4
 have BD : Box w4 w3.heap.size (.int .i64 0) (.string ⟨#[]⟩) (.string ⟨#[]⟩) (.string ⟨#[]⟩) (.int .i64 0) (.slice none 0 0) (.slice none 0 0) := hw4 ▸ Box.new w3 _ _ _ _ _ _ _
 have s1 : w1.heap.size = w.heap.size + 1 := by rw [← hw1]; simp
 have s2 : w2.heap.size = w1.heap.size + 1 := by rw [← hw2]; simp
 have s3 : w3.heap.size = w2.heap.size + 1 := by rw [← hw3]; simp
 have HF : Hid (Fr None' w w4) := ((F1.then7 F2).then7 F3).then7 F4
 have HN : Hid (w.heap.size < w1.heap.size ∧ w1.heap.size < w2.heap.size ∧ w2.heap.size < w3.heap.size) := ⟨by omega, by omega, by omega⟩
 have n1 : ¬ w.heap.size = w1.heap.size := by omega
 have n2 : ¬ w.heap.size = w2.heap.size := by omega
 have n3 : ¬ w.heap.size = w3.heap.size := by omega
 have n4 : ¬ w1.heap.size = w2.heap.size := by omega
 have n5 : ¬ w1.heap.size = w3.heap.size := by omega
 have n6 : ¬ w2.heap.size = w3.heap.size := by omega
 have HBs : Hid (∀ w', Fr None' w4 w' → Box w' w.heap.size (.int .i64 K) (.string P) (.string T) (.string F) (.int .i64 A) (.slice pa no ca) (.slice pb nn cb) ∧ Box w' w1.heap.size (.int .i64 K') (.string P') (.string T') (.string F') (.int .i64 A') (.slice qa mo da) (.slice qb mn db) ∧ Box w' w2.heap.size (.int .i64 0) (.string ⟨#[]⟩) (.string ⟨#[]⟩) (.string ⟨#[]⟩) (.int .i64 0) (.slice none 0 0) (.slice none 0 0) ∧ Box w' w3.heap.size (.int .i64 0) (.string ⟨#[]⟩) (.string ⟨#[]⟩) (.string ⟨#[]⟩) (.int .i64 0) (.slice none 0 0) (.slice none 0 0)) := fun w' f => ⟨BX.kept f, BY.kept f, BC.kept f, BD.kept f⟩
 obtain ⟨x0, x1, x2, x3, x4, x5, x6⟩ := BX.cells
 clear F1 F2 F3 F4 BX BY BC BD s1 s2 s3
 clear n1 n2 n3 n4 n5 hr
 obtain ⟨xcl, rfl⟩ := kx
 obtain ⟨ycl, yk1, yk2⟩ := ky
 have q1 := HR1.out w4 HF.out
 go_enter Tryz.func57, Tryz.ntmps57
 go_wp2_with fail
 with_reducible refine q1.mono ?_
 rintro e w5 ⟨rfl, f5⟩
 have HF5 := Zz f5
 have q2 := HR2.out w5 (HF.out.then7 f5)
 clear q1 f5 x0 x1 x2 x3 x4 x5 x6
 obtain ⟨y0, y1, y2, y3, y4, y5, y6⟩ := (HBs.out w5 HF5.out).2.1.cells
 go_wp2_with fail
 with_reducible refine q2.mono ?_
 rintro e w6 ⟨rfl, f6⟩
 have HFc := Zz (HF5.out.then7 f6)
 clear q2 f6 HF5 y0 y1 y2 y3 y4 y5 y6 HR1 HR2
 obtain ⟨x0, x1, x2, x3, x4, x5, x6⟩ := Box.cells (HBs.out _ (Hid.out HFc)).1
 obtain ⟨y0, y1, y2, y3, y4, y5, y6⟩ := Box.cells (HBs.out _ (Hid.out HFc)).2.1
 obtain ⟨c0, c1, c2, c3, c4, c5, c6⟩ := Box.cells (HBs.out _ (Hid.out HFc)).2.2.1
 obtain ⟨d0, d1, d2, d3, d4, d5, d6⟩ := Box.cells (HBs.out _ (Hid.out HFc)).2.2.2
 have xz := Box.frozen (HBs.out _ (Hid.out HFc)).1
 have yz := Box.frozen (HBs.out _ (Hid.out HFc)).2.1
 have cz := Box.frozen (HBs.out _ (Hid.out HFc)).2.2.1
 have dz := Box.frozen (HBs.out _ (Hid.out HFc)).2.2.2
 have xc : decide (7 ≤ (10 : Int) ∧ (10 : Int) ≤ 9) = false := by decide
 have xa : decide ((10 : Int) ≤ 6) = false := by decide
 have y10 : (K' == 10) = false := beq_eq_false_iff_ne.2 (by omega)
 have yc : decide (7 ≤ K' ∧ K' ≤ 9) = true := by simp; omega
 have ya : decide (K' ≤ 6) = false := by simp; omega
 rw [xc] at HCx
 rw [yc] at HCy
 rw [xa] at HAx
 rw [ya] at HAy
 have HCl := Zz (And.intro xcl ycl)
 have hE := (show Zx ⟨10, P, T, F, A, lO, lN⟩ ⟨K', P', T', F', A', lO', lN'⟩ = _ from rule_21 HCl.out.1 HCl.out.2).symm.trans HRr.out
 unfold Yx carryP at hE
 simp only at hE
 clear xc yc xa ya xcl ycl yk1 yk2
 cases hw : wiP P' T with
 | true =>
  rw [hw, if_pos rfl] at hE
  rw [hw] at HM1
  generalize moP P' T P = M at hE HM1
  subst hE
  clear hw
  simp only at HQ1 HQ2 HV HCk
  go_wp2_with (first | (go_at_call 79; with_reducible (refine (HCx.out _).mono ?_); rintro e w' ⟨rfl, f⟩; replace HFc := Zz (Fr.then7 (Hid.out HFc) f); clear f x0 x1 x2 x3 x4 x5 x6 y0 y1 y2 y3 y4 y5 y6 c0 c1 c2 c3 c4 c5 c6 d0 d1 d2 d3 d4 d5 d6 xz yz cz dz; obtain ⟨x0, x1, x2, x3, x4, x5, x6⟩ := Box.cells (HBs.out _ (Hid.out HFc)).1; obtain ⟨y0, y1, y2, y3, y4, y5, y6⟩ := Box.cells (HBs.out _ (Hid.out HFc)).2.1; obtain ⟨c0, c1, c2, c3, c4, c5, c6⟩ := Box.cells (HBs.out _ (Hid.out HFc)).2.2.1; obtain ⟨d0, d1, d2, d3, d4, d5, d6⟩ := Box.cells (HBs.out _ (Hid.out HFc)).2.2.2; have xz := Box.frozen (HBs.out _ (Hid.out HFc)).1; have yz := Box.frozen (HBs.out _ (Hid.out HFc)).2.1; have cz := Box.frozen (HBs.out _ (Hid.out HFc)).2.2.1; have dz := Box.frozen (HBs.out _ (Hid.out HFc)).2.2.2) | (go_at_call 79; with_reducible (refine (HCy.out _).mono ?_); rintro e w' ⟨rfl, f⟩; replace HFc := Zz (Fr.then7 (Hid.out HFc) f); clear f x0 x1 x2 x3 x4 x5 x6 y0 y1 y2 y3 y4 y5 y6 c0 c1 c2 c3 c4 c5 c6 d0 d1 d2 d3 d4 d5 d6 xz yz cz dz; obtain ⟨x0, x1, x2, x3, x4, x5, x6⟩ := Box.cells (HBs.out _ (Hid.out HFc)).1; obtain ⟨y0, y1, y2, y3, y4, y5, y6⟩ := Box.cells (HBs.out _ (Hid.out HFc)).2.1; obtain ⟨c0, c1, c2, c3, c4, c5, c6⟩ := Box.cells (HBs.out _ (Hid.out HFc)).2.2.1; obtain ⟨d0, d1, d2, d3, d4, d5, d6⟩ := Box.cells (HBs.out _ (Hid.out HFc)).2.2.2; have xz := Box.frozen (HBs.out _ (Hid.out HFc)).1; have yz := Box.frozen (HBs.out _ (Hid.out HFc)).2.1; have cz := Box.frozen (HBs.out _ (Hid.out HFc)).2.2.1; have dz := Box.frozen (HBs.out _ (Hid.out HFc)).2.2.2) | fail)
  with_reducible refine (HM1.out _).mono ?_
  rintro e wm ⟨rfl, rfl⟩
  obtain ⟨wS, hwS⟩ : ∃ y, World.setCell w' ⟨w1.heap.size, 1, none⟩ (.string M) = y := ⟨_, rfl⟩
  have HBx := Zz (show Box wS w.heap.size (.int .i64 10) (.string P) (.string T) (.string F) (.int .i64 A) (.slice pa no ca) (.slice pb nn cb) ∧ Box wS w1.heap.size (.int .i64 K') (.string M) (.string T') (.string F') (.int .i64 A') (.slice qa mo da) (.slice qb mn db) ∧ Box wS w2.heap.size (.int .i64 0) (.string ⟨#[]⟩) (.string ⟨#[]⟩) (.string ⟨#[]⟩) (.int .i64 0) (.slice none 0 0) (.slice none 0 0) ∧ Box wS w3.heap.size (.int .i64 0) (.string ⟨#[]⟩) (.string ⟨#[]⟩) (.string ⟨#[]⟩) (.int .i64 0) (.slice none 0 0) (.slice none 0 0) from by
   obtain ⟨b1, b2, b3, b4⟩ := HBs.out _ (Hid.out HFc)
   have := HN.out
   have fS : Fr (fun k => k = w1.heap.size) w' wS := hwS ▸ Fr.setQ _ _ _ _
   exact ⟨b1.fr fS (by omega), hwS ▸ b2.set1 _, b3.fr fS (by omega), b4.fr fS (by omega)⟩)
  have HWx := Zz (show Fr None' w wS from (HF.out.then7 (Hid.out HFc)).trans (show Fr (fun k => k = w1.heap.size) w' wS from hwS ▸ Fr.setQ _ _ _ _) (fun _ e => Or.inr (by have := HN.out; omega)))
  clear c0 c1 c2 c3 c4 c5 c6 d0 d1 d2 d3 d4 d5 d6 cz dz
  obtain ⟨p0, p1, p2, p3, p4, p5, p6⟩ := HBx.out.1.cells
  obtain ⟨q0, q1, q2, q3, q4, q5, q6⟩ := HBx.out.2.1.cells
  go_wp2_with fail
  clear p0 p1 p2 p3 p4 p5 p6 q0 q1 q2 q3 q4 q5 q6 hwS
  obtain ⟨R7, hR7⟩ : ∃ R, Zw ⟨10, P, T, F, A, lO, lN⟩ = R := ⟨_, rfl⟩
  obtain ⟨R8, hR8⟩ : ∃ R, Zw ⟨K', M, T', F', A', lO', lN'⟩ = R := ⟨_, rfl⟩
  rw [hR7] at HQ2
  rw [hR8] at HQ1
  have HE7 := Zz hR7
  have HE8 := Zz hR8
  clear hR7 hR8
  with_reducible refine (HQ2.out _ HWx.out).mono ?_
  rintro e w7 ⟨rfl, f7⟩
  have HB7 := Zz (show Box w7 w.heap.size (.int .i64 10) (.string P) (.string T) (.string F) (.int .i64 A) (.slice pa no ca) (.slice pb nn cb) ∧ Box w7 w1.heap.size (.int .i64 K') (.string M) (.string T') (.string F') (.int .i64 A') (.slice qa mo da) (.slice qb mn db) ∧ Box w7 w2.heap.size (.int .i64 0) (.string ⟨#[]⟩) (.string ⟨#[]⟩) (.string ⟨#[]⟩) (.int .i64 0) (.slice none 0 0) (.slice none 0 0) ∧ Box w7 w3.heap.size (.int .i64 0) (.string ⟨#[]⟩) (.string ⟨#[]⟩) (.string ⟨#[]⟩) (.int .i64 0) (.slice none 0 0) (.slice none 0 0) from ⟨HBx.out.1.kept f7, HBx.out.2.1.kept f7, HBx.out.2.2.1.kept f7, HBx.out.2.2.2.kept f7⟩)
  replace HWx := Zz (HWx.out.then7 f7)
  replace HBx := HB7
  clear HB7 f7 x0 x1 x2 x3 x4 x5 x6 y0 y1 y2 y3 y4 y5 y6 xz yz
  cases R7 with
  | false =>
   have HC := Zz (HCk.out.trans (show Zu _ = Yz from by unfold Zu; rw [if_neg (by simp [HE7.out])]))
   have HBf := Zz (show Box w7 w2.heap.size (.int .i64 0) (.string ⟨#[]⟩) (.string ⟨#[]⟩) (.string ⟨#[]⟩) (.int .i64 0) (.slice none 0 0) (.slice none 0 0) ∧ Box w7 w3.heap.size (.int .i64 0) (.string ⟨#[]⟩) (.string ⟨#[]⟩) (.string ⟨#[]⟩) (.int .i64 0) (.slice none 0 0) (.slice none 0 0) from ⟨HBx.out.2.2.1, HBx.out.2.2.2⟩)
   obtain ⟨c0, c1, c2, c3, c4, c5, c6⟩ := HBf.out.1.cells
   obtain ⟨d0, d1, d2, d3, d4, d5, d6⟩ := HBf.out.2.cells
   have cz := HBf.out.1.frozen
   have dz := HBf.out.2.frozen
   go_wp2_with fail
   have hfin := Zt HWx.out HBf.out.1 HBf.out.2 n6 (by have := HN.out; omega) (by have := HN.out; omega) (.int .i64 0) (.string ⟨#[]⟩) (.string ⟨#[]⟩) (.string ⟨#[]⟩) (.int .i64 0) (.slice none 0 0) (.slice none 0 0) (.int .i64 0) (.string ⟨#[]⟩) (.string ⟨#[]⟩) (.string ⟨#[]⟩) (.int .i64 0) (.slice none 0 0) (.slice none 0 0)
   exact Zr (u := .bool false) rfl rfl rfl rfl rfl hfin.1 hfin.2.1 (Zq HC.out hfin.2.2.1)
  | true =>
   obtain ⟨y0, y1, y2, y3, y4, y5, y6⟩ := HBx.out.2.1.cells
   go_wp2_with fail
   with_reducible refine (HQ1.out _ HWx.out).mono ?_
   rintro e w8 ⟨rfl, f8⟩
   have HB8 := Zz (show Box w8 w.heap.size (.int .i64 10) (.string P) (.string T) (.string F) (.int .i64 A) (.slice pa no ca) (.slice pb nn cb) ∧ Box w8 w1.heap.size (.int .i64 K') (.string M) (.string T') (.string F') (.int .i64 A') (.slice qa mo da) (.slice qb mn db) ∧ Box w8 w2.heap.size (.int .i64 0) (.string ⟨#[]⟩) (.string ⟨#[]⟩) (.string ⟨#[]⟩) (.int .i64 0) (.slice none 0 0) (.slice none 0 0) ∧ Box w8 w3.heap.size (.int .i64 0) (.string ⟨#[]⟩) (.string ⟨#[]⟩) (.string ⟨#[]⟩) (.int .i64 0) (.slice none 0 0) (.slice none 0 0) from ⟨HBx.out.1.kept f8, HBx.out.2.1.kept f8, HBx.out.2.2.1.kept f8, HBx.out.2.2.2.kept f8⟩)
   replace HWx := Zz (HWx.out.then7 f8)
   replace HBx := HB8
   clear HB8 f8 y0 y1 y2 y3 y4 y5 y6
   cases R8 with
   | false =>
    have HC := Zz (HCk.out.trans (show Zu _ = Yz from by unfold Zu; rw [if_neg (by simp [HE8.out])]))
    have HBf := Zz (show Box w8 w2.heap.size (.int .i64 0) (.string ⟨#[]⟩) (.string ⟨#[]⟩) (.string ⟨#[]⟩) (.int .i64 0) (.slice none 0 0) (.slice none 0 0) ∧ Box w8 w3.heap.size (.int .i64 0) (.string ⟨#[]⟩) (.string ⟨#[]⟩) (.string ⟨#[]⟩) (.int .i64 0) (.slice none 0 0) (.slice none 0 0) from ⟨HBx.out.2.2.1, HBx.out.2.2.2⟩)
    obtain ⟨c0, c1, c2, c3, c4, c5, c6⟩ := HBf.out.1.cells
    obtain ⟨d0, d1, d2, d3, d4, d5, d6⟩ := HBf.out.2.cells
    have cz := HBf.out.1.frozen
    have dz := HBf.out.2.frozen
    go_wp2_with fail
    have hfin := Zt HWx.out HBf.out.1 HBf.out.2 n6 (by have := HN.out; omega) (by have := HN.out; omega) (.int .i64 0) (.string ⟨#[]⟩) (.string ⟨#[]⟩) (.string ⟨#[]⟩) (.int .i64 0) (.slice none 0 0) (.slice none 0 0) (.int .i64 0) (.string ⟨#[]⟩) (.string ⟨#[]⟩) (.string ⟨#[]⟩) (.int .i64 0) (.slice none 0 0) (.slice none 0 0)
    exact Zr (u := .bool false) rfl rfl rfl rfl rfl hfin.1 hfin.2.1 (Zq HC.out hfin.2.2.1)
   | true =>
    have HC := Zz (HCk.out.trans (show Zu (⟨K', M, T', F', A', lO', lN'⟩, ⟨10, P, T, F, A, lO, lN⟩, true) = (⟨K', M, T', F', A', lO', lN'⟩, ⟨10, P, T, F, A, lO, lN⟩, true) from by unfold Zu; rw [if_pos (by simp [HE7.out, HE8.out])]))
    have HS := Zz (show (∀ w', Fr (fun k => k = w2.heap.size ∨ k = w3.heap.size) w8 w' → Fr (fun k => k = w2.heap.size ∨ k = w3.heap.size) w8 w' ∧ w'.cell? ⟨w.heap.size, 0, none⟩ = some (.int .i64 10) ∧ w'.cell? ⟨w.heap.size, 1, none⟩ = some (.string P) ∧ w'.cell? ⟨w.heap.size, 2, none⟩ = some (.string T) ∧ w'.cell? ⟨w.heap.size, 3, none⟩ = some (.string F) ∧ w'.cell? ⟨w.heap.size, 4, none⟩ = some (.int .i64 A) ∧ w'.cell? ⟨w.heap.size, 5, none⟩ = some (.slice pa no ca) ∧ w'.cell? ⟨w.heap.size, 6, none⟩ = some (.slice pb nn cb) ∧ w'.cell? ⟨w1.heap.size, 0, none⟩ = some (.int .i64 K') ∧ w'.cell? ⟨w1.heap.size, 1, none⟩ = some (.string M) ∧ w'.cell? ⟨w1.heap.size, 2, none⟩ = some (.string T') ∧ w'.cell? ⟨w1.heap.size, 3, none⟩ = some (.string F') ∧ w'.cell? ⟨w1.heap.size, 4, none⟩ = some (.int .i64 A') ∧ w'.cell? ⟨w1.heap.size, 5, none⟩ = some (.slice qa mo da) ∧ w'.cell? ⟨w1.heap.size, 6, none⟩ = some (.slice qb mn db)) from fun w' f => by
     obtain ⟨x0, x1, x2, x3, x4, x5, x6⟩ := (HBx.out.1.fr f (by have := HN.out; omega)).cells
     obtain ⟨y0, y1, y2, y3, y4, y5, y6⟩ := (HBx.out.2.1.fr f (by have := HN.out; omega)).cells
     exact ⟨f, x0, x1, x2, x3, x4, x5, x6, y0, y1, y2, y3, y4, y5, y6⟩)
    have hS0 := HS.out w8.drew (Fr.drew _ w8)
    have hS6 := HS.out (setP w8 w2.heap.size (.int .i64 K') (.string M) (.string T') (.string F') (.int .i64 A') (.slice qa mo da) (.slice qb mn db)).drew (Fr.then (Fr.setP _ (Or.inl rfl) _ _ _ _ _ _ _) (Fr.drew _ _))
    have hS7 := HS.out (setP (setP w8 w2.heap.size (.int .i64 K') (.string M) (.string T') (.string F') (.int .i64 A') (.slice qa mo da) (.slice qb mn db)) w3.heap.size (.int .i64 10) (.string P) (.string T) (.string F) (.int .i64 A) (.slice pa no ca) (.slice pb nn cb)).drew (Fr.then (Fr.then (Fr.setP _ (Or.inl rfl) _ _ _ _ _ _ _) (Fr.setP _ (Or.inr rfl) _ _ _ _ _ _ _)) (Fr.drew _ _))
    obtain ⟨c0, c1, c2, c3, c4, c5, c6⟩ := HBx.out.2.2.1.cells
    obtain ⟨d0, d1, d2, d3, d4, d5, d6⟩ := HBx.out.2.2.2.cells
    have cz := HBx.out.2.2.1.frozen
    have dz := HBx.out.2.2.2.frozen
    go_wp2_with fail
    go_region_held3 (fun w' => Fr (fun k => k = w2.heap.size ∨ k = w3.heap.size) w8 w' ∧ w'.cell? ⟨w.heap.size, 0, none⟩ = some (.int .i64 10) ∧ w'.cell? ⟨w.heap.size, 1, none⟩ = some (.string P) ∧ w'.cell? ⟨w.heap.size, 2, none⟩ = some (.string T) ∧ w'.cell? ⟨w.heap.size, 3, none⟩ = some (.string F) ∧ w'.cell? ⟨w.heap.size, 4, none⟩ = some (.int .i64 A) ∧ w'.cell? ⟨w.heap.size, 5, none⟩ = some (.slice pa no ca) ∧ w'.cell? ⟨w.heap.size, 6, none⟩ = some (.slice pb nn cb) ∧ w'.cell? ⟨w1.heap.size, 0, none⟩ = some (.int .i64 K') ∧ w'.cell? ⟨w1.heap.size, 1, none⟩ = some (.string M) ∧ w'.cell? ⟨w1.heap.size, 2, none⟩ = some (.string T') ∧ w'.cell? ⟨w1.heap.size, 3, none⟩ = some (.string F') ∧ w'.cell? ⟨w1.heap.size, 4, none⟩ = some (.int .i64 A') ∧ w'.cell? ⟨w1.heap.size, 5, none⟩ = some (.slice qa mo da) ∧ w'.cell? ⟨w1.heap.size, 6, none⟩ = some (.slice qb mn db))
     (first | with_reducible exact hS0 | with_reducible exact hS6 | with_reducible exact hS7)
     (fail)
    clear hS0 hS6 hS7 cz dz c0 c1 c2 c3 c4 c5 c6 d0 d1 d2 d3 d4 d5 d6
    go_wp2_with fail
    have hfin := Zt HWx.out HBx.out.2.2.1 HBx.out.2.2.2 n6 (by have := HN.out; omega) (by have := HN.out; omega) (.int .i64 K') (.string M) (.string T') (.string F') (.int .i64 A') (.slice qa mo da) (.slice qb mn db) (.int .i64 10) (.string P) (.string T) (.string F) (.int .i64 A) (.slice pa no ca) (.slice pb nn cb)
    have hfr := hfin.2.2.1.then7 (Fr.drew None' _)
    exact Zr rfl rfl rfl rfl rfl hfin.1.drew hfin.2.1.drew (by rw [HC.out]; exact ⟨_, _, rfl, HV.out.1, HV.out.2, hfr⟩)
 | false =>
  rw [hw, if_neg (by simp)] at hE
  rw [hw] at HM1
  clear hw
  generalize wiP P' P = R at hE HW1
  subst hE
  cases R with
  | true =>
   simp only at HQ1 HQ2 HV HCk
   go_wp2_with (first | (go_at_call 79; with_reducible (refine (HCx.out _).mono ?_); rintro e w' ⟨rfl, f⟩; replace HFc := Zz (Fr.then7 (Hid.out HFc) f); clear f x0 x1 x2 x3 x4 x5 x6 y0 y1 y2 y3 y4 y5 y6 c0 c1 c2 c3 c4 c5 c6 d0 d1 d2 d3 d4 d5 d6 xz yz cz dz; obtain ⟨x0, x1, x2, x3, x4, x5, x6⟩ := Box.cells (HBs.out _ (Hid.out HFc)).1; obtain ⟨y0, y1, y2, y3, y4, y5, y6⟩ := Box.cells (HBs.out _ (Hid.out HFc)).2.1; obtain ⟨c0, c1, c2, c3, c4, c5, c6⟩ := Box.cells (HBs.out _ (Hid.out HFc)).2.2.1; obtain ⟨d0, d1, d2, d3, d4, d5, d6⟩ := Box.cells (HBs.out _ (Hid.out HFc)).2.2.2; have xz := Box.frozen (HBs.out _ (Hid.out HFc)).1; have yz := Box.frozen (HBs.out _ (Hid.out HFc)).2.1; have cz := Box.frozen (HBs.out _ (Hid.out HFc)).2.2.1; have dz := Box.frozen (HBs.out _ (Hid.out HFc)).2.2.2) | (go_at_call 79; with_reducible (refine (HCy.out _).mono ?_); rintro e w' ⟨rfl, f⟩; replace HFc := Zz (Fr.then7 (Hid.out HFc) f); clear f x0 x1 x2 x3 x4 x5 x6 y0 y1 y2 y3 y4 y5 y6 c0 c1 c2 c3 c4 c5 c6 d0 d1 d2 d3 d4 d5 d6 xz yz cz dz; obtain ⟨x0, x1, x2, x3, x4, x5, x6⟩ := Box.cells (HBs.out _ (Hid.out HFc)).1; obtain ⟨y0, y1, y2, y3, y4, y5, y6⟩ := Box.cells (HBs.out _ (Hid.out HFc)).2.1; obtain ⟨c0, c1, c2, c3, c4, c5, c6⟩ := Box.cells (HBs.out _ (Hid.out HFc)).2.2.1; obtain ⟨d0, d1, d2, d3, d4, d5, d6⟩ := Box.cells (HBs.out _ (Hid.out HFc)).2.2.2; have xz := Box.frozen (HBs.out _ (Hid.out HFc)).1; have yz := Box.frozen (HBs.out _ (Hid.out HFc)).2.1; have cz := Box.frozen (HBs.out _ (Hid.out HFc)).2.2.1; have dz := Box.frozen (HBs.out _ (Hid.out HFc)).2.2.2) | (go_at_call 80; with_reducible (refine (HM1.out _).mono ?_); rintro e w' ⟨rfl, rfl⟩) | (go_at_call 81; with_reducible (refine (HW1.out _).mono ?_); rintro e w' ⟨rfl, rfl⟩) | fail)
   have HBx := Zz (HBs.out _ (Hid.out HFc))
   have HWx := Zz (HF.out.then7 (Hid.out HFc))
   have HC := Zz (HCk.out.trans (show Zu _ = Yz from by unfold Zu; rw [if_neg (by simp)]))
   have hfin := Zt HWx.out HBx.out.2.2.1 HBx.out.2.2.2 n6 (by have := HN.out; omega) (by have := HN.out; omega) (.int .i64 0) (.string ⟨#[]⟩) (.string ⟨#[]⟩) (.string ⟨#[]⟩) (.int .i64 0) (.slice none 0 0) (.slice none 0 0) (.int .i64 0) (.string ⟨#[]⟩) (.string ⟨#[]⟩) (.string ⟨#[]⟩) (.int .i64 0) (.slice none 0 0) (.slice none 0 0)
   exact Zr (u := .bool false) rfl rfl rfl rfl rfl hfin.1 hfin.2.1 (Zq HC.out hfin.2.2.1)
  | false =>
   simp only at HQ1 HQ2 HV HCk
   go_wp2_with (first | (go_at_call 79; with_reducible (refine (HCx.out _).mono ?_); rintro e w' ⟨rfl, f⟩; replace HFc := Zz (Fr.then7 (Hid.out HFc) f); clear f x0 x1 x2 x3 x4 x5 x6 y0 y1 y2 y3 y4 y5 y6 c0 c1 c2 c3 c4 c5 c6 d0 d1 d2 d3 d4 d5 d6 xz yz cz dz; obtain ⟨x0, x1, x2, x3, x4, x5, x6⟩ := Box.cells (HBs.out _ (Hid.out HFc)).1; obtain ⟨y0, y1, y2, y3, y4, y5, y6⟩ := Box.cells (HBs.out _ (Hid.out HFc)).2.1; obtain ⟨c0, c1, c2, c3, c4, c5, c6⟩ := Box.cells (HBs.out _ (Hid.out HFc)).2.2.1; obtain ⟨d0, d1, d2, d3, d4, d5, d6⟩ := Box.cells (HBs.out _ (Hid.out HFc)).2.2.2; have xz := Box.frozen (HBs.out _ (Hid.out HFc)).1; have yz := Box.frozen (HBs.out _ (Hid.out HFc)).2.1; have cz := Box.frozen (HBs.out _ (Hid.out HFc)).2.2.1; have dz := Box.frozen (HBs.out _ (Hid.out HFc)).2.2.2) | (go_at_call 79; with_reducible (refine (HCy.out _).mono ?_); rintro e w' ⟨rfl, f⟩; replace HFc := Zz (Fr.then7 (Hid.out HFc) f); clear f x0 x1 x2 x3 x4 x5 x6 y0 y1 y2 y3 y4 y5 y6 c0 c1 c2 c3 c4 c5 c6 d0 d1 d2 d3 d4 d5 d6 xz yz cz dz; obtain ⟨x0, x1, x2, x3, x4, x5, x6⟩ := Box.cells (HBs.out _ (Hid.out HFc)).1; obtain ⟨y0, y1, y2, y3, y4, y5, y6⟩ := Box.cells (HBs.out _ (Hid.out HFc)).2.1; obtain ⟨c0, c1, c2, c3, c4, c5, c6⟩ := Box.cells (HBs.out _ (Hid.out HFc)).2.2.1; obtain ⟨d0, d1, d2, d3, d4, d5, d6⟩ := Box.cells (HBs.out _ (Hid.out HFc)).2.2.2; have xz := Box.frozen (HBs.out _ (Hid.out HFc)).1; have yz := Box.frozen (HBs.out _ (Hid.out HFc)).2.1; have cz := Box.frozen (HBs.out _ (Hid.out HFc)).2.2.1; have dz := Box.frozen (HBs.out _ (Hid.out HFc)).2.2.2) | (go_at_call 80; with_reducible (refine (HM1.out _).mono ?_); rintro e w' ⟨rfl, rfl⟩) | (go_at_call 81; with_reducible (refine (HW1.out _).mono ?_); rintro e w' ⟨rfl, rfl⟩) | fail)
   have HBx := Zz (HBs.out _ (Hid.out HFc))
   have HWx := Zz (HF.out.then7 (Hid.out HFc))
   obtain ⟨R7, hR7⟩ : ∃ R, Zw ⟨10, P, T, F, A, lO, lN⟩ = R := ⟨_, rfl⟩
   obtain ⟨R8, hR8⟩ : ∃ R, Zw ⟨K', P', T', F', A', lO', lN'⟩ = R := ⟨_, rfl⟩
   rw [hR7] at HQ2
   rw [hR8] at HQ1
   have HE7 := Zz hR7
   have HE8 := Zz hR8
   clear hR7 hR8
   with_reducible refine (HQ2.out _ HWx.out).mono ?_
   rintro e w7 ⟨rfl, f7⟩
   have HB7 := Zz (show Box w7 w.heap.size (.int .i64 10) (.string P) (.string T) (.string F) (.int .i64 A) (.slice pa no ca) (.slice pb nn cb) ∧ Box w7 w1.heap.size (.int .i64 K') (.string P') (.string T') (.string F') (.int .i64 A') (.slice qa mo da) (.slice qb mn db) ∧ Box w7 w2.heap.size (.int .i64 0) (.string ⟨#[]⟩) (.string ⟨#[]⟩) (.string ⟨#[]⟩) (.int .i64 0) (.slice none 0 0) (.slice none 0 0) ∧ Box w7 w3.heap.size (.int .i64 0) (.string ⟨#[]⟩) (.string ⟨#[]⟩) (.string ⟨#[]⟩) (.int .i64 0) (.slice none 0 0) (.slice none 0 0) from ⟨HBx.out.1.kept f7, HBx.out.2.1.kept f7, HBx.out.2.2.1.kept f7, HBx.out.2.2.2.kept f7⟩)
   replace HWx := Zz (HWx.out.then7 f7)
   replace HBx := HB7
   clear HB7 f7 x0 x1 x2 x3 x4 x5 x6 y0 y1 y2 y3 y4 y5 y6 c0 c1 c2 c3 c4 c5 c6 d0 d1 d2 d3 d4 d5 d6 xz yz cz dz
   cases R7 with
   | false =>
    have HC := Zz (HCk.out.trans (show Zu _ = Yz from by unfold Zu; rw [if_neg (by simp [HE7.out])]))
    have HBf := Zz (show Box w7 w2.heap.size (.int .i64 0) (.string ⟨#[]⟩) (.string ⟨#[]⟩) (.string ⟨#[]⟩) (.int .i64 0) (.slice none 0 0) (.slice none 0 0) ∧ Box w7 w3.heap.size (.int .i64 0) (.string ⟨#[]⟩) (.string ⟨#[]⟩) (.string ⟨#[]⟩) (.int .i64 0) (.slice none 0 0) (.slice none 0 0) from ⟨HBx.out.2.2.1, HBx.out.2.2.2⟩)
    obtain ⟨c0, c1, c2, c3, c4, c5, c6⟩ := HBf.out.1.cells
    obtain ⟨d0, d1, d2, d3, d4, d5, d6⟩ := HBf.out.2.cells
    have cz := HBf.out.1.frozen
    have dz := HBf.out.2.frozen
    go_wp2_with fail
    have hfin := Zt HWx.out HBf.out.1 HBf.out.2 n6 (by have := HN.out; omega) (by have := HN.out; omega) (.int .i64 0) (.string ⟨#[]⟩) (.string ⟨#[]⟩) (.string ⟨#[]⟩) (.int .i64 0) (.slice none 0 0) (.slice none 0 0) (.int .i64 0) (.string ⟨#[]⟩) (.string ⟨#[]⟩) (.string ⟨#[]⟩) (.int .i64 0) (.slice none 0 0) (.slice none 0 0)
    exact Zr (u := .bool false) rfl rfl rfl rfl rfl hfin.1 hfin.2.1 (Zq HC.out hfin.2.2.1)
   | true =>
    obtain ⟨y0, y1, y2, y3, y4, y5, y6⟩ := HBx.out.2.1.cells
    go_wp2_with fail
    with_reducible refine (HQ1.out _ HWx.out).mono ?_
    rintro e w8 ⟨rfl, f8⟩
    have HB8 := Zz (show Box w8 w.heap.size (.int .i64 10) (.string P) (.string T) (.string F) (.int .i64 A) (.slice pa no ca) (.slice pb nn cb) ∧ Box w8 w1.heap.size (.int .i64 K') (.string P') (.string T') (.string F') (.int .i64 A') (.slice qa mo da) (.slice qb mn db) ∧ Box w8 w2.heap.size (.int .i64 0) (.string ⟨#[]⟩) (.string ⟨#[]⟩) (.string ⟨#[]⟩) (.int .i64 0) (.slice none 0 0) (.slice none 0 0) ∧ Box w8 w3.heap.size (.int .i64 0) (.string ⟨#[]⟩) (.string ⟨#[]⟩) (.string ⟨#[]⟩) (.int .i64 0) (.slice none 0 0) (.slice none 0 0) from ⟨HBx.out.1.kept f8, HBx.out.2.1.kept f8, HBx.out.2.2.1.kept f8, HBx.out.2.2.2.kept f8⟩)
    replace HWx := Zz (HWx.out.then7 f8)
    replace HBx := HB8
    clear HB8 f8 y0 y1 y2 y3 y4 y5 y6
    cases R8 with
    | false =>
     have HC := Zz (HCk.out.trans (show Zu _ = Yz from by unfold Zu; rw [if_neg (by simp [HE8.out])]))
     have HBf := Zz (show Box w8 w2.heap.size (.int .i64 0) (.string ⟨#[]⟩) (.string ⟨#[]⟩) (.string ⟨#[]⟩) (.int .i64 0) (.slice none 0 0) (.slice none 0 0) ∧ Box w8 w3.heap.size (.int .i64 0) (.string ⟨#[]⟩) (.string ⟨#[]⟩) (.string ⟨#[]⟩) (.int .i64 0) (.slice none 0 0) (.slice none 0 0) from ⟨HBx.out.2.2.1, HBx.out.2.2.2⟩)
     obtain ⟨c0, c1, c2, c3, c4, c5, c6⟩ := HBf.out.1.cells
     obtain ⟨d0, d1, d2, d3, d4, d5, d6⟩ := HBf.out.2.cells
     have cz := HBf.out.1.frozen
     have dz := HBf.out.2.frozen
     go_wp2_with fail
     have hfin := Zt HWx.out HBf.out.1 HBf.out.2 n6 (by have := HN.out; omega) (by have := HN.out; omega) (.int .i64 0) (.string ⟨#[]⟩) (.string ⟨#[]⟩) (.string ⟨#[]⟩) (.int .i64 0) (.slice none 0 0) (.slice none 0 0) (.int .i64 0) (.string ⟨#[]⟩) (.string ⟨#[]⟩) (.string ⟨#[]⟩) (.int .i64 0) (.slice none 0 0) (.slice none 0 0)
     exact Zr (u := .bool false) rfl rfl rfl rfl rfl hfin.1 hfin.2.1 (Zq HC.out hfin.2.2.1)
    | true =>
     have HC := Zz (HCk.out.trans (show Zu (⟨K', P', T', F', A', lO', lN'⟩, ⟨10, P, T, F, A, lO, lN⟩, true) = (⟨K', P', T', F', A', lO', lN'⟩, ⟨10, P, T, F, A, lO, lN⟩, true) from by unfold Zu; rw [if_pos (by simp [HE7.out, HE8.out])]))
     have HS := Zz (show (∀ w', Fr (fun k => k = w2.heap.size ∨ k = w3.heap.size) w8 w' → Fr (fun k => k = w2.heap.size ∨ k = w3.heap.size) w8 w' ∧ w'.cell? ⟨w.heap.size, 0, none⟩ = some (.int .i64 10) ∧ w'.cell? ⟨w.heap.size, 1, none⟩ = some (.string P) ∧ w'.cell? ⟨w.heap.size, 2, none⟩ = some (.string T) ∧ w'.cell? ⟨w.heap.size, 3, none⟩ = some (.string F) ∧ w'.cell? ⟨w.heap.size, 4, none⟩ = some (.int .i64 A) ∧ w'.cell? ⟨w.heap.size, 5, none⟩ = some (.slice pa no ca) ∧ w'.cell? ⟨w.heap.size, 6, none⟩ = some (.slice pb nn cb) ∧ w'.cell? ⟨w1.heap.size, 0, none⟩ = some (.int .i64 K') ∧ w'.cell? ⟨w1.heap.size, 1, none⟩ = some (.string P') ∧ w'.cell? ⟨w1.heap.size, 2, none⟩ = some (.string T') ∧ w'.cell? ⟨w1.heap.size, 3, none⟩ = some (.string F') ∧ w'.cell? ⟨w1.heap.size, 4, none⟩ = some (.int .i64 A') ∧ w'.cell? ⟨w1.heap.size, 5, none⟩ = some (.slice qa mo da) ∧ w'.cell? ⟨w1.heap.size, 6, none⟩ = some (.slice qb mn db)) from fun w' f => by
      obtain ⟨x0, x1, x2, x3, x4, x5, x6⟩ := (HBx.out.1.fr f (by have := HN.out; omega)).cells
      obtain ⟨y0, y1, y2, y3, y4, y5, y6⟩ := (HBx.out.2.1.fr f (by have := HN.out; omega)).cells
      exact ⟨f, x0, x1, x2, x3, x4, x5, x6, y0, y1, y2, y3, y4, y5, y6⟩)
     have hS0 := HS.out w8.drew (Fr.drew _ w8)
     have hS6 := HS.out (setP w8 w2.heap.size (.int .i64 K') (.string P') (.string T') (.string F') (.int .i64 A') (.slice qa mo da) (.slice qb mn db)).drew (Fr.then (Fr.setP _ (Or.inl rfl) _ _ _ _ _ _ _) (Fr.drew _ _))
     have hS7 := HS.out (setP (setP w8 w2.heap.size (.int .i64 K') (.string P') (.string T') (.string F') (.int .i64 A') (.slice qa mo da) (.slice qb mn db)) w3.heap.size (.int .i64 10) (.string P) (.string T) (.string F) (.int .i64 A) (.slice pa no ca) (.slice pb nn cb)).drew (Fr.then (Fr.then (Fr.setP _ (Or.inl rfl) _ _ _ _ _ _ _) (Fr.setP _ (Or.inr rfl) _ _ _ _ _ _ _)) (Fr.drew _ _))
     obtain ⟨c0, c1, c2, c3, c4, c5, c6⟩ := HBx.out.2.2.1.cells
     obtain ⟨d0, d1, d2, d3, d4, d5, d6⟩ := HBx.out.2.2.2.cells
     have cz := HBx.out.2.2.1.frozen
     have dz := HBx.out.2.2.2.frozen
     go_wp2_with fail
     go_region_held3 (fun w' => Fr (fun k => k = w2.heap.size ∨ k = w3.heap.size) w8 w' ∧ w'.cell? ⟨w.heap.size, 0, none⟩ = some (.int .i64 10) ∧ w'.cell? ⟨w.heap.size, 1, none⟩ = some (.string P) ∧ w'.cell? ⟨w.heap.size, 2, none⟩ = some (.string T) ∧ w'.cell? ⟨w.heap.size, 3, none⟩ = some (.string F) ∧ w'.cell? ⟨w.heap.size, 4, none⟩ = some (.int .i64 A) ∧ w'.cell? ⟨w.heap.size, 5, none⟩ = some (.slice pa no ca) ∧ w'.cell? ⟨w.heap.size, 6, none⟩ = some (.slice pb nn cb) ∧ w'.cell? ⟨w1.heap.size, 0, none⟩ = some (.int .i64 K') ∧ w'.cell? ⟨w1.heap.size, 1, none⟩ = some (.string P') ∧ w'.cell? ⟨w1.heap.size, 2, none⟩ = some (.string T') ∧ w'.cell? ⟨w1.heap.size, 3, none⟩ = some (.string F') ∧ w'.cell? ⟨w1.heap.size, 4, none⟩ = some (.int .i64 A') ∧ w'.cell? ⟨w1.heap.size, 5, none⟩ = some (.slice qa mo da) ∧ w'.cell? ⟨w1.heap.size, 6, none⟩ = some (.slice qb mn db))
      (first | with_reducible exact hS0 | with_reducible exact hS6 | with_reducible exact hS7)
      (fail)
     clear hS0 hS6 hS7 cz dz c0 c1 c2 c3 c4 c5 c6 d0 d1 d2 d3 d4 d5 d6
     go_wp2_with fail
     have hfin := Zt HWx.out HBx.out.2.2.1 HBx.out.2.2.2 n6 (by have := HN.out; omega) (by have := HN.out; omega) (.int .i64 K') (.string P') (.string T') (.string F') (.int .i64 A') (.slice qa mo da) (.slice qb mn db) (.int .i64 10) (.string P) (.string T) (.string F) (.int .i64 A) (.slice pa no ca) (.slice pb nn cb)
     have hfr := hfin.2.2.1.then7 (Fr.drew None' _)
     exact Zr rfl rfl rfl rfl rfl hfin.1.drew hfin.2.1.drew (by rw [HC.out]; exact ⟨_, _, rfl, HV.out.1, HV.out.2, hfr⟩)
theorem rcomm_LL (x y : Pr) (pa pb qa qb : Option Addr) (no nn ca cb mo mn da db : Nat) (w : World) (kx : Ys x = 1 ∧ 7 ≤ x.kind ∧ x.kind ≤ 9) (ky : Ys y = 1 ∧ 7 ≤ y.kind ∧ y.kind ≤ 9) (HLL : Hid (x.kind = 7 ∧ y.kind = 7 ∧ x.path = y.path)) (hno : x.old.length = no) (hnn : x.new.length = nn) (hmo : y.old.length = mo) (hmn : y.new.length = mn) (sx : Zs x) (sy : Zs y) (fx : Zw x = true) (fy : Zw y = true)
  (HR1 : Hid (∀ w', Fr None' w w' → Calls Tryz.prog 61 #[.agg #[.int .i64 x.kind, .string x.path, .string x.dst, .string x.src, .int .i64 x.pos, .slice pa no ca, .slice pb nn cb]] w' (fun e w'' => e = .returned (.bool true) ∧ Fr None' w' w'')))
  (HR2 : Hid (∀ w', Fr None' w w' → Calls Tryz.prog 61 #[.agg #[.int .i64 y.kind, .string y.path, .string y.dst, .string y.src, .int .i64 y.pos, .slice qa mo da, .slice qb mn db]] w' (fun e w'' => e = .returned (.bool true) ∧ Fr None' w' w'')))
  (HQ1 : Hid (∀ w', Fr None' w w' → Calls Tryz.prog 61 #[.agg #[.int .i64 (Zx x y).1.kind, .string (Zx x y).1.path, .string (Zx x y).1.dst, .string (Zx x y).1.src, .int .i64 (Zx x y).1.pos, .slice qa mo da, .slice qb mn db]] w' (fun e w'' => e = .returned (.bool (Zw (Zx x y).1)) ∧ Fr None' w' w'')))
  (HQ2 : Hid (∀ w', Fr None' w w' → Calls Tryz.prog 61 #[.agg #[.int .i64 (Zx x y).2.1.kind, .string (Zx x y).2.1.path, .string (Zx x y).2.1.dst, .string (Zx x y).2.1.src, .int .i64 (Zx x y).2.1.pos, .slice pa no ca, .slice pb nn cb]] w' (fun e w'' => e = .returned (.bool (Zw (Zx x y).2.1)) ∧ Fr None' w' w'')))
  (w0 : World) (HV : Hid (Yf w0 (.agg #[.int .i64 (Zx x y).1.kind, .string (Zx x y).1.path, .string (Zx x y).1.dst, .string (Zx x y).1.src, .int .i64 (Zx x y).1.pos, .slice qa mo da, .slice qb mn db]) (Zx x y).1 ∧ Yf w0 (.agg #[.int .i64 (Zx x y).2.1.kind, .string (Zx x y).2.1.path, .string (Zx x y).2.1.dst, .string (Zx x y).2.1.src, .int .i64 (Zx x y).2.1.pos, .slice pa no ca, .slice pb nn cb]) (Zx x y).2.1)) :
  Calls Tryz.prog 57 #[.agg #[.int .i64 x.kind, .string x.path, .string x.dst, .string x.src, .int .i64 x.pos, .slice pa no ca, .slice pb nn cb], .agg #[.int .i64 y.kind, .string y.path, .string y.dst, .string y.src, .int .i64 y.pos, .slice qa mo da, .slice qb mn db]] w fun e w' => Z9 x y w0 w e w' := by
 have HCk := Zz (show Zj x y = Zu (Zx x y) from by unfold Zj; rw [if_pos (by simp [fx, fy])])
 have HRu := Zz (show Zx x y = Zx x y from rfl)
 have HLn := Zz (fun (h7 : x.kind = 7) (h7' : y.kind = 7) w' => Yh x y pa pb qa qb no nn ca cb mo mn da db w' hno hnn hmo hmn (by have := sx.old; omega) (by have := sx.new; omega) (by have := sy.old; omega) (by have := sy.new; omega) (Yt fx h7) (Yt fy h7'))
 have HCx := Zz (fun w' => Z8 x pa pb no nn ca cb w')
 have HCy := Zz (fun w' => Z8 y qa qb mo mn da db w')
 have HAx := Zz (fun w' => Zf x pa pb no nn ca cb w')
 have HAy := Zz (fun w' => Zf y qa qb mo mn da db w')
 have HP1 := Zz (fun w' => Zn x y.path pa pb no nn ca cb w' sx.path sx.dst sy.path)
 have HP2 := Zz (fun w' => Zn x y.dst pa pb no nn ca cb w' sx.path sx.dst sy.dst)
 have HP3 := Zz (fun w' => Zn y x.path qa qb mo mn da db w' sy.path sy.dst sx.path)
 have HP4 := Zz (show ∀ w', Calls Tryz.prog 63 #[.string x.path, .string y.path] w' (fun e w'' => e = .returned (.bool (apP x.path y.path)) ∧ w' = w'') from fun w' => Path.rapart_any x.path y.path w' (by have := sx.path; omega) (by have := sy.path; omega))
 have HM1 := Zz (show ∀ w', Calls Tryz.prog 80 #[.string y.path, .string x.dst, .string x.path] w' (fun e w'' => e = .returned (.tuple #[.string (moP y.path x.dst x.path), .bool (wiP y.path x.dst)]) ∧ w' = w'') from fun w' => Path.rmoved_any y.path x.dst x.path w' (by have := sy.path; omega) (by have := sx.dst; omega) (by have := sx.path; omega))
 have HM2 := Zz (show ∀ w', Calls Tryz.prog 80 #[.string x.path, .string y.path, .string y.dst] w' (fun e w'' => e = .returned (.tuple #[.string (moP x.path y.path y.dst), .bool (wiP x.path y.path)]) ∧ w' = w'') from fun w' => Path.rmoved_any x.path y.path y.dst w' (by have := sx.path; omega) (by have := sy.path; omega) (by have := sy.dst; omega))
 have HW1 := Zz (show ∀ w', Calls Tryz.prog 81 #[.string y.path, .string x.path] w' (fun e w'' => e = .returned (.bool (wiP y.path x.path)) ∧ w' = w'') from fun w' => Path.rwithin_any y.path x.path w' (by have := sy.path; omega) (by have := sx.path; omega))
 have HW2 := Zz (show ∀ w', Calls Tryz.prog 81 #[.string x.path, .string y.dst] w' (fun e w'' => e = .returned (.bool (wiP x.path y.dst)) ∧ w' = w'') from fun w' => Path.rwithin_any x.path y.dst w' (by have := sx.path; omega) (by have := sy.dst; omega))
 generalize hr : Zx x y = r at HCk HQ1 HQ2 HV
 have HRr := Zz hr
 unfold Z9
 generalize Zj x y = cc at HCk ⊢
 obtain ⟨K, P, T, F, A, lO, lN⟩ := x
 obtain ⟨K', P', T', F', A', lO', lN'⟩ := y
 simp only at hno hnn hmo hmn HR1 HR2 HLn HCx HCy HAx HAy HP1 HP2 HP3 HP4 HM1 HM2 HW1 HW2 kx ky HLL ⊢
 clear hno hnn hmo hmn sx sy fx fy HRu
 obtain ⟨w1, hw1⟩ : ∃ w1, w.alloc (.cells #[.int .i64 K, .string P, .string T, .string F, .int .i64 A, .slice pa no ca, .slice pb nn cb] 43) = w1 := ⟨_, rfl⟩
 obtain ⟨w2, hw2⟩ : ∃ w2, w1.alloc (.cells #[.int .i64 K', .string P', .string T', .string F', .int .i64 A', .slice qa mo da, .slice qb mn db] 43) = w2 := ⟨_, rfl⟩
 obtain ⟨w3, hw3⟩ : ∃ w3, w2.alloc (.cells #[.int .i64 0, .string ⟨#[]⟩, .string ⟨#[]⟩, .string ⟨#[]⟩, .int .i64 0, .slice none 0 0, .slice none 0 0] 43) = w3 := ⟨_, rfl⟩
 obtain ⟨w4, hw4⟩ : ∃ w4, w3.alloc (.cells #[.int .i64 0, .string ⟨#[]⟩, .string ⟨#[]⟩, .string ⟨#[]⟩, .int .i64 0, .slice none 0 0, .slice none 0 0] 43) = w4 := ⟨_, rfl⟩
 have F1 : Fr None' w w1 := hw1 ▸ Fr.alloc None' w _
 have F2 : Fr None' w1 w2 := hw2 ▸ Fr.alloc None' w1 _
 have F3 : Fr None' w2 w3 := hw3 ▸ Fr.alloc None' w2 _
 have F4 : Fr None' w3 w4 := hw4 ▸ Fr.alloc None' w3 _
 have BX : Box w4 w.heap.size (.int .i64 K) (.string P) (.string T) (.string F) (.int .i64 A) (.slice pa no ca) (.slice pb nn cb) := (hw1 ▸ Box.new w _ _ _ _ _ _ _ : Box w1 _ _ _ _ _ _ _ _).kept ((F2.then7 F3).then7 F4)
 have BY : Box w4 w1.heap.size (.int .i64 K') (.string P') (.string T') (.string F') (.int .i64 A') (.slice qa mo da) (.slice qb mn db) := (hw2 ▸ Box.new w1 _ _ _ _ _ _ _ : Box w2 _ _ _ _ _ _ _ _).kept (F3.then7 F4)
 have BC : Box w4 w2.heap.size (.int .i64 0) (.string ⟨#[]⟩) (.string ⟨#[]⟩) (.string ⟨#[]⟩) (.int .i64 0) (.slice none 0 0) (.slice none 0 0) := (hw3 ▸ Box.new w2 _ _ _ _ _ _ _ : Box w3 _ _ _ _ _ _ _ _).kept F4
 have BD : Box w4 w3.heap.size (.int .i64 0) (.string ⟨#[]⟩) (.string ⟨#[]⟩) (.string ⟨#[]⟩) (.int .i64 0) (.slice none 0 0) (.slice none 0 0) := hw4 ▸ Box.new w3 _ _ _ _ _ _ _
 have s1 : w1.heap.size = w.heap.size + 1 := by rw [← hw1]; simp
 have s2 : w2.heap.size = w1.heap.size + 1 := by rw [← hw2]; simp
 have s3 : w3.heap.size = w2.heap.size + 1 := by rw [← hw3]; simp
 have HF : Hid (Fr None' w w4) := ((F1.then7 F2).then7 F3).then7 F4
 have HN : Hid (w.heap.size < w1.heap.size ∧ w1.heap.size < w2.heap.size ∧ w2.heap.size < w3.heap.size) := ⟨by omega, by omega, by omega⟩
 have n1 : ¬ w.heap.size = w1.heap.size := by omega
 have n2 : ¬ w.heap.size = w2.heap.size := by omega
 have n3 : ¬ w.heap.size = w3.heap.size := by omega
 have n4 : ¬ w1.heap.size = w2.heap.size := by omega
 have n5 : ¬ w1.heap.size = w3.heap.size := by omega
 have n6 : ¬ w2.heap.size = w3.heap.size := by omega
 have HBs : Hid (∀ w', Fr None' w4 w' → Box w' w.heap.size (.int .i64 K) (.string P) (.string T) (.string F) (.int .i64 A) (.slice pa no ca) (.slice pb nn cb) ∧ Box w' w1.heap.size (.int .i64 K') (.string P') (.string T') (.string F') (.int .i64 A') (.slice qa mo da) (.slice qb mn db) ∧ Box w' w2.heap.size (.int .i64 0) (.string ⟨#[]⟩) (.string ⟨#[]⟩) (.string ⟨#[]⟩) (.int .i64 0) (.slice none 0 0) (.slice none 0 0) ∧ Box w' w3.heap.size (.int .i64 0) (.string ⟨#[]⟩) (.string ⟨#[]⟩) (.string ⟨#[]⟩) (.int .i64 0) (.slice none 0 0) (.slice none 0 0)) := fun w' f => ⟨BX.kept f, BY.kept f, BC.kept f, BD.kept f⟩
 obtain ⟨x0, x1, x2, x3, x4, x5, x6⟩ := BX.cells
 clear F1 F2 F3 F4 BX BY BC BD s1 s2 s3
 clear n1 n2 n3 n4 n5 hr
 obtain ⟨xcl, xk1, xk2⟩ := kx
 obtain ⟨ycl, yk1, yk2⟩ := ky
 have q1 := HR1.out w4 HF.out
 go_enter Tryz.func57, Tryz.ntmps57
 go_wp2_with fail
 with_reducible refine q1.mono ?_
 rintro e w5 ⟨rfl, f5⟩
 have HF5 := Zz f5
 have q2 := HR2.out w5 (HF.out.then7 f5)
 clear q1 f5 x0 x1 x2 x3 x4 x5 x6
 obtain ⟨y0, y1, y2, y3, y4, y5, y6⟩ := (HBs.out w5 HF5.out).2.1.cells
 go_wp2_with fail
 with_reducible refine q2.mono ?_
 rintro e w6 ⟨rfl, f6⟩
 have HFc := Zz (HF5.out.then7 f6)
 clear q2 f6 HF5 y0 y1 y2 y3 y4 y5 y6 HR1 HR2
 obtain ⟨x0, x1, x2, x3, x4, x5, x6⟩ := Box.cells (HBs.out _ (Hid.out HFc)).1
 obtain ⟨y0, y1, y2, y3, y4, y5, y6⟩ := Box.cells (HBs.out _ (Hid.out HFc)).2.1
 obtain ⟨c0, c1, c2, c3, c4, c5, c6⟩ := Box.cells (HBs.out _ (Hid.out HFc)).2.2.1
 obtain ⟨d0, d1, d2, d3, d4, d5, d6⟩ := Box.cells (HBs.out _ (Hid.out HFc)).2.2.2
 have xz := Box.frozen (HBs.out _ (Hid.out HFc)).1
 have yz := Box.frozen (HBs.out _ (Hid.out HFc)).2.1
 have cz := Box.frozen (HBs.out _ (Hid.out HFc)).2.2.1
 have dz := Box.frozen (HBs.out _ (Hid.out HFc)).2.2.2
 have x10 : (K == 10) = false := beq_eq_false_iff_ne.2 (by omega)
 have xc : decide (7 ≤ K ∧ K ≤ 9) = true := by simp; omega
 have xa : decide (K ≤ 6) = false := by simp; omega
 have y10 : (K' == 10) = false := beq_eq_false_iff_ne.2 (by omega)
 have yc : decide (7 ≤ K' ∧ K' ≤ 9) = true := by simp; omega
 have ya : decide (K' ≤ 6) = false := by simp; omega
 rw [xc] at HCx
 rw [yc] at HCy
 rw [xa] at HAx
 rw [ya] at HAy
 have HCl := Zz (And.intro xcl ycl)
 have hE := (show Zx ⟨K, P, T, F, A, lO, lN⟩ ⟨K', P', T', F', A', lO', lN'⟩ = _ from rule_11 HCl.out.1 HCl.out.2).symm.trans HRr.out
 unfold Yo at hE
 simp only at hE
 clear xc yc xa ya xcl ycl xk1 xk2 yk1 yk2
 obtain ⟨h7, h7', hP⟩ := HLL.out
 subst h7 h7' hP
 rw [if_pos rfl, if_pos ⟨rfl, rfl⟩] at hE
 replace HLn := Zz (HLn.out rfl rfl)
 rw [hE] at HLn
 clear hE
 obtain ⟨⟨k1, p1, t1, f1, a1, o1, m1⟩, ⟨k2, p2, t2, f2, a2, o2, m2⟩, tt⟩ := r
 simp only at HLn HQ1 HQ2 HV HCk
 go_wp2_with fail
 with_reducible refine (HLn.out _).mono ?_
 rintro e wl ⟨rfl, fl⟩
 replace HFc := Zz (Fr.then7 (Hid.out HFc) fl)
 clear fl x0 x1 x2 x3 x4 x5 x6 y0 y1 y2 y3 y4 y5 y6 c0 c1 c2 c3 c4 c5 c6 d0 d1 d2 d3 d4 d5 d6 xz yz cz dz
 obtain ⟨w8, hw8⟩ : ∃ w8, (wl.alloc (.cells #[.int .i64 k1, .string p1, .string t1, .string f1, .int .i64 a1, .slice qa mo da, .slice qb mn db] 43)).alloc (.cells #[.int .i64 k2, .string p2, .string t2, .string f2, .int .i64 a2, .slice pa no ca, .slice pb nn cb] 43) = w8 := ⟨_, rfl⟩
 have T8 := two_newD hw8
 have HFl := HFc
 replace HFc := Zz (Fr.then7 (Hid.out HFc) T8.2.2)
 have HT := Zz T8
 obtain ⟨x0, x1, x2, x3, x4, x5, x6⟩ := Box.cells (HBs.out _ (Hid.out HFc)).1
 obtain ⟨y0, y1, y2, y3, y4, y5, y6⟩ := Box.cells (HBs.out _ (Hid.out HFc)).2.1
 obtain ⟨c0, c1, c2, c3, c4, c5, c6⟩ := Box.cells (HBs.out _ (Hid.out HFc)).2.2.1
 obtain ⟨d0, d1, d2, d3, d4, d5, d6⟩ := Box.cells (HBs.out _ (Hid.out HFc)).2.2.2
 have xz := Box.frozen (HBs.out _ (Hid.out HFc)).1
 have yz := Box.frozen (HBs.out _ (Hid.out HFc)).2.1
 have cz := Box.frozen (HBs.out _ (Hid.out HFc)).2.2.1
 have dz := Box.frozen (HBs.out _ (Hid.out HFc)).2.2.2
 obtain ⟨g0, g1, g2, g3, g4, g5, g6⟩ := T8.1.cells
 have hlt := (HBs.out _ (Fr.refl None' _)).2.2.2.lt
 have hsz := (Hid.out HFl).size
 have hnn := HN.out
 have HBT := Zz (show Box (setP w8 w1.heap.size (.int .i64 k1) (.string p1) (.string t1) (.string f1) (.int .i64 a1) (.slice qa mo da) (.slice qb mn db)) w.heap.size (.int .i64 7) (.string P) (.string T) (.string F) (.int .i64 A) (.slice pa no ca) (.slice pb nn cb) ∧ Box (setP w8 w1.heap.size (.int .i64 k1) (.string p1) (.string t1) (.string f1) (.int .i64 a1) (.slice qa mo da) (.slice qb mn db)) w1.heap.size (.int .i64 k1) (.string p1) (.string t1) (.string f1) (.int .i64 a1) (.slice qa mo da) (.slice qb mn db) ∧ Box (setP w8 w1.heap.size (.int .i64 k1) (.string p1) (.string t1) (.string f1) (.int .i64 a1) (.slice qa mo da) (.slice qb mn db)) w2.heap.size (.int .i64 0) (.string ⟨#[]⟩) (.string ⟨#[]⟩) (.string ⟨#[]⟩) (.int .i64 0) (.slice none 0 0) (.slice none 0 0) ∧ Box (setP w8 w1.heap.size (.int .i64 k1) (.string p1) (.string t1) (.string f1) (.int .i64 a1) (.slice qa mo da) (.slice qb mn db)) w3.heap.size (.int .i64 0) (.string ⟨#[]⟩) (.string ⟨#[]⟩) (.string ⟨#[]⟩) (.int .i64 0) (.slice none 0 0) (.slice none 0 0) ∧ Box (setP w8 w1.heap.size (.int .i64 k1) (.string p1) (.string t1) (.string f1) (.int .i64 a1) (.slice qa mo da) (.slice qb mn db)) (wl.heap.size + 1) (.int .i64 k2) (.string p2) (.string t2) (.string f2) (.int .i64 a2) (.slice pa no ca) (.slice pb nn cb) from by
  obtain ⟨b1, b2, b3, b4⟩ := HBs.out _ (Hid.out HFc)
  exact ⟨far10 b1 (by omega) _ _ _ _ _ _ _, b2.all _ _ _ _ _ _ _, far10 b3 (by omega) _ _ _ _ _ _ _, far10 b4 (by omega) _ _ _ _ _ _ _, far10 T8.2.1 (by omega) _ _ _ _ _ _ _⟩)
 obtain ⟨h0, h1, h2, h3, h4, h5, h6⟩ := HBT.out.2.2.2.2.cells
 obtain ⟨j0, j1, j2, j3, j4, j5, j6⟩ := HBT.out.1.cells
 have jz := HBT.out.1.frozen
 have HBx := Zz (show Box (setP (setP w8 w1.heap.size (.int .i64 k1) (.string p1) (.string t1) (.string f1) (.int .i64 a1) (.slice qa mo da) (.slice qb mn db)) w.heap.size (.int .i64 k2) (.string p2) (.string t2) (.string f2) (.int .i64 a2) (.slice pa no ca) (.slice pb nn cb)) w.heap.size (.int .i64 k2) (.string p2) (.string t2) (.string f2) (.int .i64 a2) (.slice pa no ca) (.slice pb nn cb) ∧ Box (setP (setP w8 w1.heap.size (.int .i64 k1) (.string p1) (.string t1) (.string f1) (.int .i64 a1) (.slice qa mo da) (.slice qb mn db)) w.heap.size (.int .i64 k2) (.string p2) (.string t2) (.string f2) (.int .i64 a2) (.slice pa no ca) (.slice pb nn cb)) w1.heap.size (.int .i64 k1) (.string p1) (.string t1) (.string f1) (.int .i64 a1) (.slice qa mo da) (.slice qb mn db) ∧ Box (setP (setP w8 w1.heap.size (.int .i64 k1) (.string p1) (.string t1) (.string f1) (.int .i64 a1) (.slice qa mo da) (.slice qb mn db)) w.heap.size (.int .i64 k2) (.string p2) (.string t2) (.string f2) (.int .i64 a2) (.slice pa no ca) (.slice pb nn cb)) w2.heap.size (.int .i64 0) (.string ⟨#[]⟩) (.string ⟨#[]⟩) (.string ⟨#[]⟩) (.int .i64 0) (.slice none 0 0) (.slice none 0 0) ∧ Box (setP (setP w8 w1.heap.size (.int .i64 k1) (.string p1) (.string t1) (.string f1) (.int .i64 a1) (.slice qa mo da) (.slice qb mn db)) w.heap.size (.int .i64 k2) (.string p2) (.string t2) (.string f2) (.int .i64 a2) (.slice pa no ca) (.slice pb nn cb)) w3.heap.size (.int .i64 0) (.string ⟨#[]⟩) (.string ⟨#[]⟩) (.string ⟨#[]⟩) (.int .i64 0) (.slice none 0 0) (.slice none 0 0) from ⟨HBT.out.1.all _ _ _ _ _ _ _, far10 HBT.out.2.1 (by omega) _ _ _ _ _ _ _, far10 HBT.out.2.2.1 (by omega) _ _ _ _ _ _ _, far10 HBT.out.2.2.2.1 (by omega) _ _ _ _ _ _ _⟩)
 have HWx := Zz (show Fr None' w (setP (setP w8 w1.heap.size (.int .i64 k1) (.string p1) (.string t1) (.string f1) (.int .i64 a1) (.slice qa mo da) (.slice qb mn db)) w.heap.size (.int .i64 k2) (.string p2) (.string t2) (.string f2) (.int .i64 a2) (.slice pa no ca) (.slice pb nn cb)) from set10 (set10 (HF.out.then7 (Hid.out HFc)) (by omega) _ _ _ _ _ _ _) (by omega) _ _ _ _ _ _ _)
 obtain ⟨p0, q1, q2, q3, q4, q5, q6⟩ := HBx.out.1.cells
 clear T8 hlt hsz hnn x0 x1 x2 x3 x4 x5 x6 xz c0 c1 c2 c3 c4 c5 c6 d0 d1 d2 d3 d4 d5 d6 cz dz
 go_upto_region 8 with fail
 obtain ⟨wS, hwS⟩ : ∃ y, (setP (setP w8 w1.heap.size (.int .i64 k1) (.string p1) (.string t1) (.string f1) (.int .i64 a1) (.slice qa mo da) (.slice qb mn db)) w.heap.size (.int .i64 k2) (.string p2) (.string t2) (.string f2) (.int .i64 a2) (.slice pa no ca) (.slice pb nn cb)) = y := ⟨_, rfl⟩
 rw [hwS] at HBx HWx
 dsimp only [setP] at hwS
 rw [hwS]
 clear hwS h0 h1 h2 h3 h4 h5 h6 j0 j1 j2 j3 j4 j5 j6 jz g0 g1 g2 g3 g4 g5 g6 p0 q1 q2 q3 q4 q5 q6 y0 y1 y2 y3 y4 y5 y6 yz HBT HT hw8
 cases tt with
 | false =>
  have HC := Zz (HCk.out.trans (show Zu _ = Yz from by unfold Zu; rw [if_neg (by simp)]))
  have HBf := Zz (show Box wS w2.heap.size (.int .i64 0) (.string ⟨#[]⟩) (.string ⟨#[]⟩) (.string ⟨#[]⟩) (.int .i64 0) (.slice none 0 0) (.slice none 0 0) ∧ Box wS w3.heap.size (.int .i64 0) (.string ⟨#[]⟩) (.string ⟨#[]⟩) (.string ⟨#[]⟩) (.int .i64 0) (.slice none 0 0) (.slice none 0 0) from ⟨HBx.out.2.2.1, HBx.out.2.2.2⟩)
  obtain ⟨c0, c1, c2, c3, c4, c5, c6⟩ := HBf.out.1.cells
  obtain ⟨d0, d1, d2, d3, d4, d5, d6⟩ := HBf.out.2.cells
  have cz := HBf.out.1.frozen
  have dz := HBf.out.2.frozen
  go_wp2_with fail
  have hfin := Zt HWx.out HBf.out.1 HBf.out.2 n6 (by have := HN.out; omega) (by have := HN.out; omega) (.int .i64 0) (.string ⟨#[]⟩) (.string ⟨#[]⟩) (.string ⟨#[]⟩) (.int .i64 0) (.slice none 0 0) (.slice none 0 0) (.int .i64 0) (.string ⟨#[]⟩) (.string ⟨#[]⟩) (.string ⟨#[]⟩) (.int .i64 0) (.slice none 0 0) (.slice none 0 0)
  exact Zr (u := .bool false) rfl rfl rfl rfl rfl hfin.1 hfin.2.1 (Zq HC.out hfin.2.2.1)
 | true =>
  obtain ⟨x0, x1, x2, x3, x4, x5, x6⟩ := HBx.out.1.cells
  go_wp2_with fail
  obtain ⟨R7, hR7⟩ : ∃ R, Zw ⟨k2, p2, t2, f2, a2, o2, m2⟩ = R := ⟨_, rfl⟩
  obtain ⟨R8, hR8⟩ : ∃ R, Zw ⟨k1, p1, t1, f1, a1, o1, m1⟩ = R := ⟨_, rfl⟩
  rw [hR7] at HQ2
  rw [hR8] at HQ1
  have HE7 := Zz hR7
  have HE8 := Zz hR8
  clear hR7 hR8
  with_reducible refine (HQ2.out _ HWx.out).mono ?_
  rintro e w7 ⟨rfl, f7⟩
  have HB7 := Zz (show Box w7 w.heap.size (.int .i64 k2) (.string p2) (.string t2) (.string f2) (.int .i64 a2) (.slice pa no ca) (.slice pb nn cb) ∧ Box w7 w1.heap.size (.int .i64 k1) (.string p1) (.string t1) (.string f1) (.int .i64 a1) (.slice qa mo da) (.slice qb mn db) ∧ Box w7 w2.heap.size (.int .i64 0) (.string ⟨#[]⟩) (.string ⟨#[]⟩) (.string ⟨#[]⟩) (.int .i64 0) (.slice none 0 0) (.slice none 0 0) ∧ Box w7 w3.heap.size (.int .i64 0) (.string ⟨#[]⟩) (.string ⟨#[]⟩) (.string ⟨#[]⟩) (.int .i64 0) (.slice none 0 0) (.slice none 0 0) from ⟨HBx.out.1.kept f7, HBx.out.2.1.kept f7, HBx.out.2.2.1.kept f7, HBx.out.2.2.2.kept f7⟩)
  replace HWx := Zz (HWx.out.then7 f7)
  replace HBx := HB7
  clear HB7 f7 x0 x1 x2 x3 x4 x5 x6
  cases R7 with
  | false =>
   have HC := Zz (HCk.out.trans (show Zu _ = Yz from by unfold Zu; rw [if_neg (by simp [HE7.out])]))
   have HBf := Zz (show Box w7 w2.heap.size (.int .i64 0) (.string ⟨#[]⟩) (.string ⟨#[]⟩) (.string ⟨#[]⟩) (.int .i64 0) (.slice none 0 0) (.slice none 0 0) ∧ Box w7 w3.heap.size (.int .i64 0) (.string ⟨#[]⟩) (.string ⟨#[]⟩) (.string ⟨#[]⟩) (.int .i64 0) (.slice none 0 0) (.slice none 0 0) from ⟨HBx.out.2.2.1, HBx.out.2.2.2⟩)
   obtain ⟨c0, c1, c2, c3, c4, c5, c6⟩ := HBf.out.1.cells
   obtain ⟨d0, d1, d2, d3, d4, d5, d6⟩ := HBf.out.2.cells
   have cz := HBf.out.1.frozen
   have dz := HBf.out.2.frozen
   go_wp2_with fail
   have hfin := Zt HWx.out HBf.out.1 HBf.out.2 n6 (by have := HN.out; omega) (by have := HN.out; omega) (.int .i64 0) (.string ⟨#[]⟩) (.string ⟨#[]⟩) (.string ⟨#[]⟩) (.int .i64 0) (.slice none 0 0) (.slice none 0 0) (.int .i64 0) (.string ⟨#[]⟩) (.string ⟨#[]⟩) (.string ⟨#[]⟩) (.int .i64 0) (.slice none 0 0) (.slice none 0 0)
   exact Zr (u := .bool false) rfl rfl rfl rfl rfl hfin.1 hfin.2.1 (Zq HC.out hfin.2.2.1)
  | true =>
   obtain ⟨y0, y1, y2, y3, y4, y5, y6⟩ := HBx.out.2.1.cells
   go_wp2_with fail
   with_reducible refine (HQ1.out _ HWx.out).mono ?_
   rintro e w8 ⟨rfl, f8⟩
   have HB8 := Zz (show Box w8 w.heap.size (.int .i64 k2) (.string p2) (.string t2) (.string f2) (.int .i64 a2) (.slice pa no ca) (.slice pb nn cb) ∧ Box w8 w1.heap.size (.int .i64 k1) (.string p1) (.string t1) (.string f1) (.int .i64 a1) (.slice qa mo da) (.slice qb mn db) ∧ Box w8 w2.heap.size (.int .i64 0) (.string ⟨#[]⟩) (.string ⟨#[]⟩) (.string ⟨#[]⟩) (.int .i64 0) (.slice none 0 0) (.slice none 0 0) ∧ Box w8 w3.heap.size (.int .i64 0) (.string ⟨#[]⟩) (.string ⟨#[]⟩) (.string ⟨#[]⟩) (.int .i64 0) (.slice none 0 0) (.slice none 0 0) from ⟨HBx.out.1.kept f8, HBx.out.2.1.kept f8, HBx.out.2.2.1.kept f8, HBx.out.2.2.2.kept f8⟩)
   replace HWx := Zz (HWx.out.then7 f8)
   replace HBx := HB8
   clear HB8 f8 y0 y1 y2 y3 y4 y5 y6
   cases R8 with
   | false =>
    have HC := Zz (HCk.out.trans (show Zu _ = Yz from by unfold Zu; rw [if_neg (by simp [HE8.out])]))
    have HBf := Zz (show Box w8 w2.heap.size (.int .i64 0) (.string ⟨#[]⟩) (.string ⟨#[]⟩) (.string ⟨#[]⟩) (.int .i64 0) (.slice none 0 0) (.slice none 0 0) ∧ Box w8 w3.heap.size (.int .i64 0) (.string ⟨#[]⟩) (.string ⟨#[]⟩) (.string ⟨#[]⟩) (.int .i64 0) (.slice none 0 0) (.slice none 0 0) from ⟨HBx.out.2.2.1, HBx.out.2.2.2⟩)
    obtain ⟨c0, c1, c2, c3, c4, c5, c6⟩ := HBf.out.1.cells
    obtain ⟨d0, d1, d2, d3, d4, d5, d6⟩ := HBf.out.2.cells
    have cz := HBf.out.1.frozen
    have dz := HBf.out.2.frozen
    go_wp2_with fail
    have hfin := Zt HWx.out HBf.out.1 HBf.out.2 n6 (by have := HN.out; omega) (by have := HN.out; omega) (.int .i64 0) (.string ⟨#[]⟩) (.string ⟨#[]⟩) (.string ⟨#[]⟩) (.int .i64 0) (.slice none 0 0) (.slice none 0 0) (.int .i64 0) (.string ⟨#[]⟩) (.string ⟨#[]⟩) (.string ⟨#[]⟩) (.int .i64 0) (.slice none 0 0) (.slice none 0 0)
    exact Zr (u := .bool false) rfl rfl rfl rfl rfl hfin.1 hfin.2.1 (Zq HC.out hfin.2.2.1)
   | true =>
    have HC := Zz (HCk.out.trans (show Zu (⟨k1, p1, t1, f1, a1, o1, m1⟩, ⟨k2, p2, t2, f2, a2, o2, m2⟩, true) = (⟨k1, p1, t1, f1, a1, o1, m1⟩, ⟨k2, p2, t2, f2, a2, o2, m2⟩, true) from by unfold Zu; rw [if_pos (by simp [HE7.out, HE8.out])]))
    have HS := Zz (show (∀ w', Fr (fun k => k = w2.heap.size ∨ k = w3.heap.size) w8 w' → Fr (fun k => k = w2.heap.size ∨ k = w3.heap.size) w8 w' ∧ w'.cell? ⟨w.heap.size, 0, none⟩ = some (.int .i64 k2) ∧ w'.cell? ⟨w.heap.size, 1, none⟩ = some (.string p2) ∧ w'.cell? ⟨w.heap.size, 2, none⟩ = some (.string t2) ∧ w'.cell? ⟨w.heap.size, 3, none⟩ = some (.string f2) ∧ w'.cell? ⟨w.heap.size, 4, none⟩ = some (.int .i64 a2) ∧ w'.cell? ⟨w.heap.size, 5, none⟩ = some (.slice pa no ca) ∧ w'.cell? ⟨w.heap.size, 6, none⟩ = some (.slice pb nn cb) ∧ w'.cell? ⟨w1.heap.size, 0, none⟩ = some (.int .i64 k1) ∧ w'.cell? ⟨w1.heap.size, 1, none⟩ = some (.string p1) ∧ w'.cell? ⟨w1.heap.size, 2, none⟩ = some (.string t1) ∧ w'.cell? ⟨w1.heap.size, 3, none⟩ = some (.string f1) ∧ w'.cell? ⟨w1.heap.size, 4, none⟩ = some (.int .i64 a1) ∧ w'.cell? ⟨w1.heap.size, 5, none⟩ = some (.slice qa mo da) ∧ w'.cell? ⟨w1.heap.size, 6, none⟩ = some (.slice qb mn db)) from fun w' f => by
     obtain ⟨x0, x1, x2, x3, x4, x5, x6⟩ := (HBx.out.1.fr f (by have := HN.out; omega)).cells
     obtain ⟨y0, y1, y2, y3, y4, y5, y6⟩ := (HBx.out.2.1.fr f (by have := HN.out; omega)).cells
     exact ⟨f, x0, x1, x2, x3, x4, x5, x6, y0, y1, y2, y3, y4, y5, y6⟩)
    have hS0 := HS.out w8.drew (Fr.drew _ w8)
    have hS6 := HS.out (setP w8 w2.heap.size (.int .i64 k1) (.string p1) (.string t1) (.string f1) (.int .i64 a1) (.slice qa mo da) (.slice qb mn db)).drew (Fr.then (Fr.setP _ (Or.inl rfl) _ _ _ _ _ _ _) (Fr.drew _ _))
    have hS7 := HS.out (setP (setP w8 w2.heap.size (.int .i64 k1) (.string p1) (.string t1) (.string f1) (.int .i64 a1) (.slice qa mo da) (.slice qb mn db)) w3.heap.size (.int .i64 k2) (.string p2) (.string t2) (.string f2) (.int .i64 a2) (.slice pa no ca) (.slice pb nn cb)).drew (Fr.then (Fr.then (Fr.setP _ (Or.inl rfl) _ _ _ _ _ _ _) (Fr.setP _ (Or.inr rfl) _ _ _ _ _ _ _)) (Fr.drew _ _))
    obtain ⟨c0, c1, c2, c3, c4, c5, c6⟩ := HBx.out.2.2.1.cells
    obtain ⟨d0, d1, d2, d3, d4, d5, d6⟩ := HBx.out.2.2.2.cells
    have cz := HBx.out.2.2.1.frozen
    have dz := HBx.out.2.2.2.frozen
    go_wp2_with fail
    go_region_held3 (fun w' => Fr (fun k => k = w2.heap.size ∨ k = w3.heap.size) w8 w' ∧ w'.cell? ⟨w.heap.size, 0, none⟩ = some (.int .i64 k2) ∧ w'.cell? ⟨w.heap.size, 1, none⟩ = some (.string p2) ∧ w'.cell? ⟨w.heap.size, 2, none⟩ = some (.string t2) ∧ w'.cell? ⟨w.heap.size, 3, none⟩ = some (.string f2) ∧ w'.cell? ⟨w.heap.size, 4, none⟩ = some (.int .i64 a2) ∧ w'.cell? ⟨w.heap.size, 5, none⟩ = some (.slice pa no ca) ∧ w'.cell? ⟨w.heap.size, 6, none⟩ = some (.slice pb nn cb) ∧ w'.cell? ⟨w1.heap.size, 0, none⟩ = some (.int .i64 k1) ∧ w'.cell? ⟨w1.heap.size, 1, none⟩ = some (.string p1) ∧ w'.cell? ⟨w1.heap.size, 2, none⟩ = some (.string t1) ∧ w'.cell? ⟨w1.heap.size, 3, none⟩ = some (.string f1) ∧ w'.cell? ⟨w1.heap.size, 4, none⟩ = some (.int .i64 a1) ∧ w'.cell? ⟨w1.heap.size, 5, none⟩ = some (.slice qa mo da) ∧ w'.cell? ⟨w1.heap.size, 6, none⟩ = some (.slice qb mn db))
     (first | with_reducible exact hS0 | with_reducible exact hS6 | with_reducible exact hS7)
     (fail)
    clear hS0 hS6 hS7 cz dz c0 c1 c2 c3 c4 c5 c6 d0 d1 d2 d3 d4 d5 d6
    go_wp2_with fail
    have hfin := Zt HWx.out HBx.out.2.2.1 HBx.out.2.2.2 n6 (by have := HN.out; omega) (by have := HN.out; omega) (.int .i64 k1) (.string p1) (.string t1) (.string f1) (.int .i64 a1) (.slice qa mo da) (.slice qb mn db) (.int .i64 k2) (.string p2) (.string t2) (.string f2) (.int .i64 a2) (.slice pa no ca) (.slice pb nn cb)
    have hfr := hfin.2.2.1.then7 (Fr.drew None' _)
    exact Zr rfl rfl rfl rfl rfl hfin.1.drew hfin.2.1.drew (by rw [HC.out]; exact ⟨_, _, rfl, HV.out.1, HV.out.2, hfr⟩)
end Go.Proofs.YtbnfjjjdnbcehaaGreatDoor
