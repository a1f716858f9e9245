/- What is proved here: contracts that SeqTells stands on. Conditions: as each theorem names them. -/
import Derived.Test.YtbnfjjjdnbcehaaGreatDoorM6Strs9
import Derived.Test.YtbnfjjjdnbcehaaGreatDoorM19PSplit
import Derived.Test.YtbnfjjjdnbcehaaGreatDoorM18PRunes
import Derived.Test.YtbnfjjjdnbcehaaGreatDoorMLRightP
import Derived.Test.YtbnfjjjdnbcehaaGreatDoorM14Plain10
set_option maxHeartbeats 16000000
namespace Go.Proofs.YtbnfjjjdnbcehaaGreatDoor
open Go.RowKit
set_option maxRecDepth 100000
theorem Zv.sl {w : World} {v : Value} {l : List ByteArray} (h : Zv w v l) : ∃ pa ca, v = .slice pa l.length ca ∧ Lines.Row w pa l := by
 obtain ⟨pa, ca, e, _, _, h⟩ := h
 exact ⟨pa, ca, e, h⟩
theorem ofPath {w w' : World} (h : Below w.heap.size w w') : Fr None' w w' := ofBelow h
structure Zs (x : Pr) : Prop where
 path : x.path.size < 900000
 dst : x.dst.size < 900000
 src : x.src.size < 900000
 old : x.old.length < 900000
 new : x.new.length < 900000
theorem noLines_any (x : Pr) (vo vn : Value) (w : World) (ho : Zv w vo x.old) (hn : Zv w vn x.new) (hs : Zs x) :
  Calls Tryz.prog 135 #[.agg #[.int .i64 x.kind, .string x.path, .string x.dst, .string x.src, .int .i64 x.pos, vo, vn]] w fun e w' => e = .returned (.bool (Zp x)) ∧ Fr None' w w' := by
 obtain ⟨K, P, T, F, A, lO, lN⟩ := x
 obtain ⟨zP, zT, zF, zO, zN⟩ := hs
 simp only at ho hn zP zT zF zO zN ⊢
 obtain ⟨pa, ca, rfl, r1⟩ := ho.sl
 obtain ⟨pb, cb, rfl, r2⟩ := hn.sl
 obtain ⟨no, hno⟩ : ∃ n, lO.length = n := ⟨_, rfl⟩
 obtain ⟨nn, hnn⟩ : ∃ n, lN.length = n := ⟨_, rfl⟩
 obtain ⟨w1, hw1⟩ : ∃ w1, w.alloc (.cells #[.int .i64 K, .string P, .string T, .string F, .int .i64 A, .slice pa no ca, .slice pb nn cb] 43) = w1 := ⟨_, rfl⟩
 have F1 : Fr None' w w1 := hw1 ▸ Fr.alloc None' w _
 have B1 : Box w1 w.heap.size (.int .i64 K) (.string P) (.string T) (.string F) (.int .i64 A) (.slice pa no ca) (.slice pb nn cb) := hw1 ▸ Box.new w _ _ _ _ _ _ _
 have HB : Hid (∀ w', Fr None' w1 w' → Box w' w.heap.size (.int .i64 K) (.string P) (.string T) (.string F) (.int .i64 A) (.slice pa no ca) (.slice pb nn cb)) := fun w' f => B1.kept f
 have HF : Hid (Fr None' w w1) := F1
 obtain ⟨a0, a1, a2, a3, a4, a5, a6⟩ := B1.cells
 rw [hno, hnn]
 have i1 : (no : Int) < 900000 := by omega
 have i2 : (nn : Int) < 900000 := by omega
 by_cases hA : A = 0
 ·by_cases hO : no = 0
  ·have hR : Zp ⟨K, P, T, F, A, lO, lN⟩ = decide (nn = 0) := by simp [Zp, hA, hno, hO, hnn]
   rw [hR]
   by_cases hN : nn = 0
   ·rw [decide_eq_true hN]
    subst hA hO hN
    clear ho hn r1 r2 zP zT zF zO zN F1 B1 hR hno hnn
    go_enter Tryz.func135, Tryz.ntmps135
    go_wp2_with fail
    go_ret
    exact ⟨rfl, HF.out⟩
   ·rw [decide_eq_false hN]
    subst hA hO
    have j1 : ¬ (nn : Int) = 0 := by omega
    clear ho hn r1 r2 zP zT zF zO zN F1 B1 hR hno hnn
    go_enter Tryz.func135, Tryz.ntmps135
    go_wp2_with fail
    go_ret
    exact ⟨by first | rfl | exact Yl (by simp; omega), HF.out⟩
  ·have hR : Zp ⟨K, P, T, F, A, lO, lN⟩ = false := by simp [Zp, hA, hno, hO]
   rw [hR]
   subst hA
   have j1 : ¬ (no : Int) = 0 := by omega
   clear ho hn r1 r2 zP zT zF zO zN F1 B1 hR hno hnn
   go_enter Tryz.func135, Tryz.ntmps135
   go_wp2_with fail
   go_ret
   exact ⟨rfl, HF.out⟩
 ·have hR : Zp ⟨K, P, T, F, A, lO, lN⟩ = false := by simp [Zp, hA]
  rw [hR]
  clear ho hn r1 r2 zP zT zF zO zN F1 B1 hR hno hnn
  go_enter Tryz.func135, Tryz.ntmps135
  go_wp2_with fail
  go_ret
  exact ⟨rfl, HF.out⟩
theorem bare_any (x : Pr) (vo vn : Value) (w : World) (ho : Zv w vo x.old) (hn : Zv w vn x.new) (hs : Zs x) :
  Calls Tryz.prog 104 #[.agg #[.int .i64 x.kind, .string x.path, .string x.dst, .string x.src, .int .i64 x.pos, vo, vn]] w fun e w' => e = .returned (.bool (Zd x)) ∧ Fr None' w w' := by
 have cW : ∀ w', Fr None' w w' → Calls Tryz.prog 135 #[.agg #[.int .i64 x.kind, .string x.path, .string x.dst, .string x.src, .int .i64 x.pos, vo, vn]] w' fun e w'' => e = .returned (.bool (Zp x)) ∧ Fr None' w' w'' := fun w' f => noLines_any x vo vn w' (ho.kept f) (hn.kept f) hs
 obtain ⟨K, P, T, F, A, lO, lN⟩ := x
 obtain ⟨zP, zT, zF, zO, zN⟩ := hs
 simp only at ho hn zP zT zF zO zN cW ⊢
 obtain ⟨pa, ca, rfl, r1⟩ := ho.sl
 obtain ⟨pb, cb, rfl, r2⟩ := hn.sl
 obtain ⟨no, hno⟩ : ∃ n, lO.length = n := ⟨_, rfl⟩
 obtain ⟨nn, hnn⟩ : ∃ n, lN.length = n := ⟨_, rfl⟩
 obtain ⟨w1, hw1⟩ : ∃ w1, w.alloc (.cells #[.int .i64 K, .string P, .string T, .string F, .int .i64 A, .slice pa no ca, .slice pb nn cb] 43) = w1 := ⟨_, rfl⟩
 have F1 : Fr None' w w1 := hw1 ▸ Fr.alloc None' w _
 have B1 : Box w1 w.heap.size (.int .i64 K) (.string P) (.string T) (.string F) (.int .i64 A) (.slice pa no ca) (.slice pb nn cb) := hw1 ▸ Box.new w _ _ _ _ _ _ _
 have HB : Hid (∀ w', Fr None' w1 w' → Box w' w.heap.size (.int .i64 K) (.string P) (.string T) (.string F) (.int .i64 A) (.slice pa no ca) (.slice pb nn cb)) := fun w' f => B1.kept f
 have HF : Hid (Fr None' w w1) := F1
 obtain ⟨a0, a1, a2, a3, a4, a5, a6⟩ := B1.cells
 rw [hno, hnn]
 rw [hno, hnn] at cW
 by_cases hT : T.data.toList = []
 ·obtain ⟨t1, t2⟩ := Lines.asks_yes hT
  by_cases hF : F.data.toList = []
  ·obtain ⟨t3, t4⟩ := Lines.asks_yes hF
   have hR : Zd ⟨K, P, T, F, A, lO, lN⟩ = Zp ⟨K, P, T, F, A, lO, lN⟩ := by simp [Zd, hT, hF]
   rw [hR]
   generalize Zp ⟨K, P, T, F, A, lO, lN⟩ = R at cW
   have q1 := cW w1 F1
   clear ho hn r1 r2 zP zT zF zO zN F1 B1 hR hT hF cW hno hnn
   go_enter Tryz.func104, Tryz.ntmps104
   go_wp2_with fail
   with_reducible refine q1.mono ?_
   rintro e w2 ⟨rfl, f2⟩
   have HF2 : Hid (Fr None' w w2) := HF.out.then7 f2
   clear q1 f2
   cases R <;> (go_wp2_with fail; go_ret; exact ⟨rfl, HF2.out⟩)
  ·obtain ⟨t3, t4⟩ := Lines.asks_no hF
   have hR : Zd ⟨K, P, T, F, A, lO, lN⟩ = false := by simp [Zd, hT, hF]
   rw [hR]
   clear ho hn r1 r2 zP zT zF zO zN F1 B1 hR hT hF cW hno hnn
   go_enter Tryz.func104, Tryz.ntmps104
   go_wp2_with fail
   go_ret
   exact ⟨rfl, HF.out⟩
 ·obtain ⟨t1, t2⟩ := Lines.asks_no hT
  have hR : Zd ⟨K, P, T, F, A, lO, lN⟩ = false := by simp [Zd, hT]
  rw [hR]
  clear ho hn r1 r2 zP zT zF zO zN F1 B1 hR hT cW hno hnn
  go_enter Tryz.func104, Tryz.ntmps104
  go_wp2_with fail
  go_ret
  exact ⟨rfl, HF.out⟩
theorem bytes_any (x : Pr) (vo vn : Value) (w : World) (ho : Zv w vo x.old) (hn : Zv w vn x.new) (hs : Zs x) :
  Calls Tryz.prog 112 #[.agg #[.int .i64 x.kind, .string x.path, .string x.dst, .string x.src, .int .i64 x.pos, vo, vn]] w fun e w' => e = .returned (.bool (Zi x)) ∧ Fr None' w w' := by
 have cW : ∀ w', Fr None' w w' → Calls Tryz.prog 135 #[.agg #[.int .i64 x.kind, .string x.path, .string x.dst, .string x.src, .int .i64 x.pos, vo, vn]] w' fun e w'' => e = .returned (.bool (Zp x)) ∧ Fr None' w' w'' := fun w' f => noLines_any x vo vn w' (ho.kept f) (hn.kept f) hs
 obtain ⟨K, P, T, F, A, lO, lN⟩ := x
 obtain ⟨zP, zT, zF, zO, zN⟩ := hs
 simp only at ho hn zP zT zF zO zN cW ⊢
 obtain ⟨pa, ca, rfl, r1⟩ := ho.sl
 obtain ⟨pb, cb, rfl, r2⟩ := hn.sl
 obtain ⟨no, hno⟩ : ∃ n, lO.length = n := ⟨_, rfl⟩
 obtain ⟨nn, hnn⟩ : ∃ n, lN.length = n := ⟨_, rfl⟩
 obtain ⟨w1, hw1⟩ : ∃ w1, w.alloc (.cells #[.int .i64 K, .string P, .string T, .string F, .int .i64 A, .slice pa no ca, .slice pb nn cb] 43) = w1 := ⟨_, rfl⟩
 have F1 : Fr None' w w1 := hw1 ▸ Fr.alloc None' w _
 have B1 : Box w1 w.heap.size (.int .i64 K) (.string P) (.string T) (.string F) (.int .i64 A) (.slice pa no ca) (.slice pb nn cb) := hw1 ▸ Box.new w _ _ _ _ _ _ _
 have HB : Hid (∀ w', Fr None' w1 w' → Box w' w.heap.size (.int .i64 K) (.string P) (.string T) (.string F) (.int .i64 A) (.slice pa no ca) (.slice pb nn cb)) := fun w' f => B1.kept f
 have HF : Hid (Fr None' w w1) := F1
 obtain ⟨a0, a1, a2, a3, a4, a5, a6⟩ := B1.cells
 rw [hno, hnn]
 rw [hno, hnn] at cW
 obtain ⟨R, hRR⟩ : ∃ R, Zp ⟨K, P, T, F, A, lO, lN⟩ = R := ⟨_, rfl⟩
 rw [hRR] at cW
 have q1 := cW w1 F1
 cases R with
 | false =>
  have hR : Zi ⟨K, P, T, F, A, lO, lN⟩ = false := by simp [Zi, hRR]
  rw [hR]
  clear ho hn r1 r2 zP zT zF zO zN F1 B1 hR hRR cW hno hnn
  go_enter Tryz.func112, Tryz.ntmps112
  go_wp2_with fail
  with_reducible refine q1.mono ?_
  rintro e w2 ⟨rfl, f2⟩
  have HF2 : Hid (Fr None' w w2) := HF.out.then7 f2
  clear q1 f2
  go_wp2_with fail
  go_ret
  exact ⟨rfl, HF2.out⟩
 | true =>
  have HC : Hid (∀ w', Fr None' w1 w' → w'.cell? ⟨w.heap.size, 2, none⟩ = some (.string T) ∧ w'.cell? ⟨w.heap.size, 3, none⟩ = some (.string F)) := fun w' f => ⟨(HB.out w' f).cells.2.2.1, (HB.out w' f).cells.2.2.2.1⟩
  by_cases he : F = T
  ·have hR : Zi ⟨K, P, T, F, A, lO, lN⟩ = false := by simp [Zi, he]
   rw [hR]
   subst he
   clear ho hn r1 r2 zP zT zF zO zN F1 B1 hR hRR cW hno hnn
   go_enter Tryz.func112, Tryz.ntmps112
   go_wp2_with fail
   with_reducible refine q1.mono ?_
   rintro e w2 ⟨rfl, f2⟩
   have HF2 : Hid (Fr None' w w2) := HF.out.then7 f2
   obtain ⟨k2, k3⟩ := HC.out w2 f2
   clear q1 f2 a0 a1 a2 a3 a4 a5 a6
   go_wp2_with fail
   go_ret
   exact ⟨rfl, HF2.out⟩
  ·have hR : Zi ⟨K, P, T, F, A, lO, lN⟩ = true := by simp [Zi, hRR, he]
   rw [hR]
   obtain ⟨t1, t2⟩ := Lines.str_no he
   clear ho hn r1 r2 zP zT zF zO zN F1 B1 hR hRR cW hno hnn he
   go_enter Tryz.func112, Tryz.ntmps112
   go_wp2_with fail
   with_reducible refine q1.mono ?_
   rintro e w2 ⟨rfl, f2⟩
   have HF2 : Hid (Fr None' w w2) := HF.out.then7 f2
   obtain ⟨k2, k3⟩ := HC.out w2 f2
   clear q1 f2 a0 a1 a2 a3 a4 a5 a6
   go_wp2_with fail
   go_ret
   exact ⟨rfl, HF2.out⟩
theorem token9_any (x : Pr) (vo vn : Value) (w : World) (ho : Zv w vo x.old) (hn : Zv w vn x.new) (hs : Zs x) :
  Calls Tryz.prog 110 #[.agg #[.int .i64 x.kind, .string x.path, .string x.dst, .string x.src, .int .i64 x.pos, vo, vn]] w fun e w' => e = .returned (.bool (Zg x)) ∧ Fr None' w w' := by
 have cW : ∀ w', Fr None' w w' → Calls Tryz.prog 135 #[.agg #[.int .i64 x.kind, .string x.path, .string x.dst, .string x.src, .int .i64 x.pos, vo, vn]] w' fun e w'' => e = .returned (.bool (Zp x)) ∧ Fr None' w' w'' := fun w' f => noLines_any x vo vn w' (ho.kept f) (hn.kept f) hs
 obtain ⟨K, P, T, F, A, lO, lN⟩ := x
 obtain ⟨zP, zT, zF, zO, zN⟩ := hs
 simp only at ho hn zP zT zF zO zN cW ⊢
 obtain ⟨pa, ca, rfl, r1⟩ := ho.sl
 obtain ⟨pb, cb, rfl, r2⟩ := hn.sl
 obtain ⟨no, hno⟩ : ∃ n, lO.length = n := ⟨_, rfl⟩
 obtain ⟨nn, hnn⟩ : ∃ n, lN.length = n := ⟨_, rfl⟩
 obtain ⟨w1, hw1⟩ : ∃ w1, w.alloc (.cells #[.int .i64 K, .string P, .string T, .string F, .int .i64 A, .slice pa no ca, .slice pb nn cb] 43) = w1 := ⟨_, rfl⟩
 have F1 : Fr None' w w1 := hw1 ▸ Fr.alloc None' w _
 have B1 : Box w1 w.heap.size (.int .i64 K) (.string P) (.string T) (.string F) (.int .i64 A) (.slice pa no ca) (.slice pb nn cb) := hw1 ▸ Box.new w _ _ _ _ _ _ _
 have HB : Hid (∀ w', Fr None' w1 w' → Box w' w.heap.size (.int .i64 K) (.string P) (.string T) (.string F) (.int .i64 A) (.slice pa no ca) (.slice pb nn cb)) := fun w' f => B1.kept f
 have HF : Hid (Fr None' w w1) := F1
 obtain ⟨a0, a1, a2, a3, a4, a5, a6⟩ := B1.cells
 rw [hno, hnn]
 rw [hno, hnn] at cW
 have HC : Hid (∀ w', Fr None' w1 w' → w'.cell? ⟨w.heap.size, 1, none⟩ = some (.string P) ∧ w'.cell? ⟨w.heap.size, 2, none⟩ = some (.string T) ∧ w'.cell? ⟨w.heap.size, 3, none⟩ = some (.string F)) := fun w' f => ⟨(HB.out w' f).cells.2.1, (HB.out w' f).cells.2.2.1, (HB.out w' f).cells.2.2.2.1⟩
 have HTF : Hid (∀ w', Calls Tryz.prog 143 #[.string F] w' fun e w'' => e = .returned (.bool (Lines.tok F.data.toList)) ∧ Fr None' w' w'') := fun w' => (Lines.token_any F w' (by omega)).mono fun _ _ ⟨h1, h2⟩ => ⟨h1, ofLN h2⟩
 have HTT : Hid (∀ w', Calls Tryz.prog 143 #[.string T] w' fun e w'' => e = .returned (.bool (Lines.tok T.data.toList)) ∧ Fr None' w' w'') := fun w' => (Lines.token_any T w' (by omega)).mono fun _ _ ⟨h1, h2⟩ => ⟨h1, ofLN h2⟩
 obtain ⟨R, hRR⟩ : ∃ R, Zp ⟨K, P, T, F, A, lO, lN⟩ = R := ⟨_, rfl⟩
 obtain ⟨RF, hRF⟩ : ∃ R, Lines.tok F.data.toList = R := ⟨_, rfl⟩
 obtain ⟨RT, hRT⟩ : ∃ R, Lines.tok T.data.toList = R := ⟨_, rfl⟩
 rw [hRR] at cW
 rw [hRF] at HTF
 rw [hRT] at HTT
 have q1 := cW w1 F1
 have HV : Hid (Zg ⟨K, P, T, F, A, lO, lN⟩ = (R && RF && RT && decide (¬ F = T))) := by show _ = _; simp [Zg, hRR, hRF, hRT]
 rw [HV.out]
 clear ho hn r1 r2 zP zT zF zO zN F1 B1 cW hno hnn hRR hRF hRT HV
 cases R with
 | false =>
  rw [Bool.false_and, Bool.false_and, Bool.false_and]
  go_enter Tryz.func110, Tryz.ntmps110
  go_wp2_with fail
  with_reducible refine q1.mono ?_
  rintro e w2 ⟨rfl, f2⟩
  have HF2 : Hid (Fr None' w w2) := HF.out.then7 f2
  clear q1 f2
  go_wp2_with fail
  go_ret
  exact ⟨rfl, HF2.out⟩
 | true =>
  rw [Bool.true_and]
  cases RF with
  | false =>
   rw [Bool.false_and, Bool.false_and]
   go_enter Tryz.func110, Tryz.ntmps110
   go_wp2_with fail
   with_reducible refine q1.mono ?_
   rintro e w2 ⟨rfl, f2⟩
   have HF2 : Hid (Fr None' w w2) := HF.out.then7 f2
   obtain ⟨k1, k2, k3⟩ := HC.out w2 f2
   have q2 := HTF.out w2
   clear q1 f2 a0 a1 a2 a3 a4 a5 a6
   go_wp2_with fail
   with_reducible refine q2.mono ?_
   rintro e w3 ⟨rfl, f3⟩
   have HF3 : Hid (Fr None' w w3) := HF2.out.then7 f3
   clear q2 f3 k1 k2 k3
   go_wp2_with fail
   go_ret
   exact ⟨rfl, HF3.out⟩
  | true =>
   rw [Bool.true_and]
   have HS : Hid ((RT = true ∧ ¬ F = T) ∨ (RT && decide (¬ F = T)) = false) := by
    show _ ∨ _
    by_cases he : F = T <;> cases RT <;> simp [he]
   go_enter Tryz.func110, Tryz.ntmps110
   go_wp2_with fail
   with_reducible refine q1.mono ?_
   rintro e w2 ⟨rfl, f2⟩
   have HF2 : Hid (Fr None' w w2 ∧ Fr None' w1 w2) := ⟨HF.out.then7 f2, f2⟩
   obtain ⟨k1, k2, k3⟩ := HC.out w2 f2
   have q2 := HTF.out w2
   clear q1 f2 a0 a1 a2 a3 a4 a5 a6
   go_wp2_with fail
   with_reducible refine q2.mono ?_
   rintro e w3 ⟨rfl, f3⟩
   have HF3 : Hid (Fr None' w w3 ∧ Fr None' w1 w3) := ⟨HF2.out.1.then7 f3, HF2.out.2.then7 f3⟩
   obtain ⟨j1, j2, j3⟩ := HC.out w3 HF3.out.2
   have q3 := HTT.out w3
   clear q2 f3 k1 k2 k3
   go_wp2_with fail
   with_reducible refine q3.mono ?_
   rintro e w4 ⟨rfl, f4⟩
   have HF4 : Hid (Fr None' w w4) := HF3.out.1.then7 f4
   obtain ⟨l1, l2, l3⟩ := HC.out w4 (HF3.out.2.then7 f4)
   clear q3 f4 j1 j2 j3
   cases RT with
   | false =>
    go_wp2_with fail
    go_ret
    exact ⟨rfl, HF4.out⟩
   | true =>
    by_cases he : F = T
    ·subst he
     go_wp2_with fail
     go_ret
     exact ⟨by first | rfl | exact Yl (by simp), HF4.out⟩
    ·obtain ⟨t1, t2⟩ := Lines.str_no he
     have HE : Hid (¬ F = T) := he
     clear he
     go_wp2_with fail
     go_ret
     exact ⟨by first | rfl | exact Yl (by simp [HE.out]), HF4.out⟩
theorem move9_any (x : Pr) (vo vn : Value) (w : World) (ho : Zv w vo x.old) (hn : Zv w vn x.new) (hs : Zs x) :
  Calls Tryz.prog 114 #[.agg #[.int .i64 x.kind, .string x.path, .string x.dst, .string x.src, .int .i64 x.pos, vo, vn]] w fun e w' => e = .returned (.bool (Zb x)) ∧ Fr None' w w' := by
 have cW : ∀ w', Fr None' w w' → Calls Tryz.prog 135 #[.agg #[.int .i64 x.kind, .string x.path, .string x.dst, .string x.src, .int .i64 x.pos, vo, vn]] w' fun e w'' => e = .returned (.bool (Zp x)) ∧ Fr None' w' w'' := fun w' f => noLines_any x vo vn w' (ho.kept f) (hn.kept f) hs
 obtain ⟨K, P, T, F, A, lO, lN⟩ := x
 obtain ⟨zP, zT, zF, zO, zN⟩ := hs
 simp only at ho hn zP zT zF zO zN cW ⊢
 obtain ⟨pa, ca, rfl, r1⟩ := ho.sl
 obtain ⟨pb, cb, rfl, r2⟩ := hn.sl
 obtain ⟨no, hno⟩ : ∃ n, lO.length = n := ⟨_, rfl⟩
 obtain ⟨nn, hnn⟩ : ∃ n, lN.length = n := ⟨_, rfl⟩
 obtain ⟨w1, hw1⟩ : ∃ w1, w.alloc (.cells #[.int .i64 K, .string P, .string T, .string F, .int .i64 A, .slice pa no ca, .slice pb nn cb] 43) = w1 := ⟨_, rfl⟩
 have F1 : Fr None' w w1 := hw1 ▸ Fr.alloc None' w _
 have B1 : Box w1 w.heap.size (.int .i64 K) (.string P) (.string T) (.string F) (.int .i64 A) (.slice pa no ca) (.slice pb nn cb) := hw1 ▸ Box.new w _ _ _ _ _ _ _
 have HB : Hid (∀ w', Fr None' w1 w' → Box w' w.heap.size (.int .i64 K) (.string P) (.string T) (.string F) (.int .i64 A) (.slice pa no ca) (.slice pb nn cb)) := fun w' f => B1.kept f
 have HF : Hid (Fr None' w w1) := F1
 obtain ⟨a0, a1, a2, a3, a4, a5, a6⟩ := B1.cells
 rw [hno, hnn]
 rw [hno, hnn] at cW
 have HC : Hid (∀ w', Fr None' w1 w' → w'.cell? ⟨w.heap.size, 1, none⟩ = some (.string P) ∧ w'.cell? ⟨w.heap.size, 2, none⟩ = some (.string T) ∧ w'.cell? ⟨w.heap.size, 3, none⟩ = some (.string F)) := fun w' f => ⟨(HB.out w' f).cells.2.1, (HB.out w' f).cells.2.2.1, (HB.out w' f).cells.2.2.2.1⟩
 have HPR : Hid (∀ w', Calls Tryz.prog 64 #[.string T] w' fun e w'' => e = .returned (.bool (Path.right T.data.toList)) ∧ Fr None' w' w'') := fun w' => (Path.right_any T w' (by omega)).mono fun _ _ ⟨h1, h2⟩ => ⟨h1, ofPath h2⟩
 have HPA : Hid (∀ w', Calls Tryz.prog 85 #[.string T, .string P] w' fun e w'' => e = .returned (.bool (Path.apart T.data.toList P.data.toList)) ∧ Fr None' w' w'') := fun w' => (Path.apart_any T P w').mono fun _ _ ⟨h1, h2⟩ => ⟨h1, h2 ▸ Fr.refl _ _⟩
 obtain ⟨R, hRR⟩ : ∃ R, Zp ⟨K, P, T, F, A, lO, lN⟩ = R := ⟨_, rfl⟩
 obtain ⟨R1, hR1⟩ : ∃ R, Path.right T.data.toList = R := ⟨_, rfl⟩
 obtain ⟨R2, hR2⟩ : ∃ R, Path.apart T.data.toList P.data.toList = R := ⟨_, rfl⟩
 rw [hRR] at cW
 rw [hR1] at HPR
 rw [hR2] at HPA
 have q1 := cW w1 F1
 cases R with
 | false =>
  have hR : Zb ⟨K, P, T, F, A, lO, lN⟩ = false := by simp [Zb, hRR]
  rw [hR]
  clear ho hn r1 r2 zP zT zF zO zN F1 B1 cW hno hnn hRR hR1 hR2 hR
  go_enter Tryz.func114, Tryz.ntmps114
  go_wp2_with fail
  with_reducible refine q1.mono ?_
  rintro e w2 ⟨rfl, f2⟩
  have HF2 : Hid (Fr None' w w2) := HF.out.then7 f2
  clear q1 f2
  go_wp2_with fail
  go_ret
  exact ⟨rfl, HF2.out⟩
 | true =>
  by_cases hF : F.data.toList = []
  ·have hR : Zb ⟨K, P, T, F, A, lO, lN⟩ = (R1 && R2) := by simp [Zb, hRR, hF, hR1, hR2]
   rw [hR]
   obtain ⟨t1, t2⟩ := Lines.asks_yes hF
   clear ho hn r1 r2 zP zT zF zO zN F1 B1 cW hno hnn hRR hR1 hR2 hR hF
   go_enter Tryz.func114, Tryz.ntmps114
   go_wp2_with fail
   with_reducible refine q1.mono ?_
   rintro e w2 ⟨rfl, f2⟩
   have HF2 : Hid (Fr None' w w2 ∧ Fr None' w1 w2) := ⟨HF.out.then7 f2, f2⟩
   obtain ⟨k1, k2, k3⟩ := HC.out w2 f2
   have q2 := HPR.out w2
   clear q1 f2 a0 a1 a2 a3 a4 a5 a6
   go_wp2_with fail
   with_reducible refine q2.mono ?_
   rintro e w3 ⟨rfl, f3⟩
   have HF3 : Hid (Fr None' w w3 ∧ Fr None' w1 w3) := ⟨HF2.out.1.then7 f3, HF2.out.2.then7 f3⟩
   obtain ⟨j1, j2, j3⟩ := HC.out w3 HF3.out.2
   have q3 := HPA.out w3
   clear q2 f3 k1 k2 k3 t1 t2
   cases R1 with
   | false =>
    go_wp2_with fail
    go_ret
    exact ⟨rfl, HF3.out.1⟩
   | true =>
    go_wp2_with fail
    with_reducible refine q3.mono ?_
    rintro e w4 ⟨rfl, f4⟩
    have HF4 : Hid (Fr None' w w4) := HF3.out.1.then7 f4
    clear q3 f4 j1 j2 j3
    cases R2 <;> (go_wp2_with fail; go_ret; exact ⟨rfl, HF4.out⟩)
  ·have hR : Zb ⟨K, P, T, F, A, lO, lN⟩ = false := by simp [Zb, hRR, hF]
   rw [hR]
   obtain ⟨t1, t2⟩ := Lines.asks_no hF
   clear ho hn r1 r2 zP zT zF zO zN F1 B1 cW hno hnn hRR hR1 hR2 hR hF
   go_enter Tryz.func114, Tryz.ntmps114
   go_wp2_with fail
   with_reducible refine q1.mono ?_
   rintro e w2 ⟨rfl, f2⟩
   have HF2 : Hid (Fr None' w w2) := HF.out.then7 f2
   obtain ⟨k1, k2, k3⟩ := HC.out w2 f2
   clear q1 f2 a0 a1 a2 a3 a4 a5 a6
   go_wp2_with fail
   go_ret
   exact ⟨rfl, HF2.out⟩
theorem lines9_any (x : Pr) (vo vn : Value) (w : World) (ho : Zv w vo x.old) (hn : Zv w vn x.new) (hs : Zs x) :
  Calls Tryz.prog 107 #[.agg #[.int .i64 x.kind, .string x.path, .string x.dst, .string x.src, .int .i64 x.pos, vo, vn]] w fun e w' => e = .returned (.bool (Zm x)) ∧ Fr None' w w' := by
 obtain ⟨K, P, T, F, A, lO, lN⟩ := x
 obtain ⟨zP, zT, zF, zO, zN⟩ := hs
 simp only at ho hn zP zT zF zO zN ⊢
 obtain ⟨pa, ca, rfl, r1⟩ := ho.sl
 obtain ⟨pb, cb, rfl, r2⟩ := hn.sl
 obtain ⟨no, hno⟩ : ∃ n, lO.length = n := ⟨_, rfl⟩
 obtain ⟨nn, hnn⟩ : ∃ n, lN.length = n := ⟨_, rfl⟩
 obtain ⟨w1, hw1⟩ : ∃ w1, w.alloc (.cells #[.int .i64 K, .string P, .string T, .string F, .int .i64 A, .slice pa no ca, .slice pb nn cb] 43) = w1 := ⟨_, rfl⟩
 have F1 : Fr None' w w1 := hw1 ▸ Fr.alloc None' w _
 have B1 : Box w1 w.heap.size (.int .i64 K) (.string P) (.string T) (.string F) (.int .i64 A) (.slice pa no ca) (.slice pb nn cb) := hw1 ▸ Box.new w _ _ _ _ _ _ _
 have HB : Hid (∀ w', Fr None' w1 w' → Box w' w.heap.size (.int .i64 K) (.string P) (.string T) (.string F) (.int .i64 A) (.slice pa no ca) (.slice pb nn cb)) := fun w' f => B1.kept f
 have HF : Hid (Fr None' w w1) := F1
 obtain ⟨a0, a1, a2, a3, a4, a5, a6⟩ := B1.cells
 rw [hno, hnn]
 have HRO : Hid (∀ w', Fr None' w1 w' → Calls Tryz.prog 93 #[.slice pa no ca] w' fun e w'' => e = .returned (.bool (Lines.right (Lines.bs lO))) ∧ w' = w'') := fun w' f => by
  have h := Lines.right_any pa ca lO w' (r1.fr (toLN (F1.then7 f))) (by omega)
  rw [hno] at h
  exact h
 have HRN : Hid (∀ w', Fr None' w1 w' → Calls Tryz.prog 93 #[.slice pb nn cb] w' fun e w'' => e = .returned (.bool (Lines.right (Lines.bs lN))) ∧ w' = w'') := fun w' f => by
  have h := Lines.right_any pb cb lN w' (r2.fr (toLN (F1.then7 f))) (by omega)
  rw [hnn] at h
  exact h
 have i1 : (no : Int) < 900000 := by omega
 have i2 : (nn : Int) < 900000 := by omega
 by_cases hT : T.data.toList = []
 ·by_cases hF : F.data.toList = []
  ·by_cases hA : 0 ≤ A
   ·by_cases hM : A ≤ 1073741824
    ·obtain ⟨RO, hRO⟩ : ∃ R, Lines.right (Lines.bs lO) = R := ⟨_, rfl⟩
     obtain ⟨RN, hRN⟩ : ∃ R, Lines.right (Lines.bs lN) = R := ⟨_, rfl⟩
     rw [hRO] at HRO
     rw [hRN] at HRN
     have hR : Zm ⟨K, P, T, F, A, lO, lN⟩ = (RO && RN && decide (0 < no + nn)) := by simp [Zm, hT, hF, hA, hM, hRO, hRN, hno, hnn]
     rw [hR]
     obtain ⟨t1, t2⟩ := Lines.asks_yes hT
     obtain ⟨t3, t4⟩ := Lines.asks_yes hF
     have u1 : IntKind.i64.wrap ((no : Int) + (nn : Int)) = (no : Int) + (nn : Int) := by rw [IntKind.wrap_i64]; omega
     have q1 := HRO.out w1 (Fr.refl _ _)
     have q2 := HRN.out w1 (Fr.refl _ _)
     clear ho hn r1 r2 zP zT zF zO zN F1 B1 hno hnn hR hT hF hRO hRN HRO HRN
     go_enter Tryz.func107, Tryz.ntmps107
     go_wp2_with fail
     with_reducible refine q1.mono ?_
     rintro e w2 ⟨rfl, h2⟩
     subst h2
     clear q1
     cases RO with
     | false =>
      go_wp2_with fail
      go_ret
      exact ⟨rfl, HF.out⟩
     | true =>
      go_wp2_with fail
      with_reducible refine q2.mono ?_
      rintro e w2 ⟨rfl, h2⟩
      subst h2
      clear q2
      cases RN with
      | false =>
       go_wp2_with fail
       go_ret
       exact ⟨rfl, HF.out⟩
      | true =>
       go_wp2_with fail
       go_ret
       exact ⟨by first | rfl | exact Yl (by simp; omega), HF.out⟩
    ·have hR : Zm ⟨K, P, T, F, A, lO, lN⟩ = false := by simp [Zm, hM]
     rw [hR]
     obtain ⟨t1, t2⟩ := Lines.asks_yes hT
     obtain ⟨t3, t4⟩ := Lines.asks_yes hF
     clear ho hn r1 r2 zP zT zF zO zN F1 B1 hno hnn hR hT hF HRO HRN
     go_enter Tryz.func107, Tryz.ntmps107
     go_wp2_with fail
     go_ret
     exact ⟨by first | rfl | exact Yl (by simp; omega), HF.out⟩
   ·have hR : Zm ⟨K, P, T, F, A, lO, lN⟩ = false := by simp [Zm, hA]
    rw [hR]
    obtain ⟨t1, t2⟩ := Lines.asks_yes hT
    obtain ⟨t3, t4⟩ := Lines.asks_yes hF
    clear ho hn r1 r2 zP zT zF zO zN F1 B1 hno hnn hR hT hF HRO HRN
    go_enter Tryz.func107, Tryz.ntmps107
    go_wp2_with fail
    go_ret
    exact ⟨by first | rfl | exact Yl (by simp; omega), HF.out⟩
  ·have hR : Zm ⟨K, P, T, F, A, lO, lN⟩ = false := by simp [Zm, hF]
   rw [hR]
   obtain ⟨t1, t2⟩ := Lines.asks_yes hT
   obtain ⟨t3, t4⟩ := Lines.asks_no hF
   clear ho hn r1 r2 zP zT zF zO zN F1 B1 hno hnn hR hT hF HRO HRN
   go_enter Tryz.func107, Tryz.ntmps107
   go_wp2_with fail
   go_ret
   exact ⟨by first | rfl | exact Yl (by simp; omega), HF.out⟩
 ·have hR : Zm ⟨K, P, T, F, A, lO, lN⟩ = false := by simp [Zm, hT]
  rw [hR]
  obtain ⟨t1, t2⟩ := Lines.asks_no hT
  clear ho hn r1 r2 zP zT zF zO zN F1 B1 hno hnn hR hT HRO HRN
  go_enter Tryz.func107, Tryz.ntmps107
  go_wp2_with fail
  go_ret
  exact ⟨by first | rfl | exact Yl (by simp; omega), HF.out⟩
end Go.Proofs.YtbnfjjjdnbcehaaGreatDoor
namespace Go.Proofs.YtbnfjjjdnbcehaaGreatDoor
open Go.RowKit
set_option maxRecDepth 100000
theorem Yp (x : Pr) (pa pb : Option Addr) (no nn ca cb : Nat) (w : World) :
  Calls Tryz.prog 117 #[.agg #[.int .i64 x.kind, .string x.path, .string x.dst, .string x.src, .int .i64 x.pos, .slice pa no ca, .slice pb nn cb]] w fun e w' => e = .returned (.int .i64 (Ys x)) ∧ Fr None' w w' := by
 obtain ⟨K, P, T, F, A, lO, lN⟩ := x
 simp only
 by_cases h6 : K ≤ 6
 ·have hR : Ys ⟨K, P, T, F, A, lO, lN⟩ = 0 := by simp [Ys, h6]
  rw [hR]
  go_enter Tryz.func117, Tryz.ntmps117
  go_wp2_with fail
  go_ret
  exact ⟨rfl, Fr.alloc _ _ _⟩
 ·by_cases h10 : K = 10
  ·have hR : Ys ⟨K, P, T, F, A, lO, lN⟩ = 2 := by simp [Ys, h10]
   rw [hR]
   subst h10
   go_enter Tryz.func117, Tryz.ntmps117
   go_wp2_with fail
   go_ret
   exact ⟨rfl, Fr.alloc _ _ _⟩
  ·have hR : Ys ⟨K, P, T, F, A, lO, lN⟩ = 1 := by simp [Ys, h6, h10]
   rw [hR]
   go_enter Tryz.func117, Tryz.ntmps117
   go_wp2_with fail
   go_ret
   exact ⟨rfl, Fr.alloc _ _ _⟩
theorem unlike_any (x y : Pr) (pa pb qa qb : Option Addr) (no nn ca cb mo mn da db : Nat) (w : World) :
  Calls Tryz.prog 151 #[.agg #[.int .i64 x.kind, .string x.path, .string x.dst, .string x.src, .int .i64 x.pos, .slice pa no ca, .slice pb nn cb], .agg #[.int .i64 y.kind, .string y.path, .string y.dst, .string y.src, .int .i64 y.pos, .slice qa mo da, .slice qb mn db]] w fun e w' => e = .returned (.bool (decide (¬ x.path = y.path))) ∧ Fr None' w w' := by
 obtain ⟨K, P, T, F, A, lO, lN⟩ := x
 obtain ⟨K', P', T', F', A', lO', lN'⟩ := y
 simp only
 have HF : Hid (∀ o o', Fr None' w ((w.alloc o).alloc o')) := fun o o' => (Fr.alloc None' w _).then7 (Fr.alloc None' _ _)
 by_cases h : P = P'
 ·subst h
  have hR : decide (¬ P = P) = false := by simp
  rw [hR]
  go_enter Tryz.func151, Tryz.ntmps151
  go_wp2_with fail
  go_ret
  exact ⟨rfl, HF.out _ _⟩
 ·rw [decide_eq_true h]
  obtain ⟨t1, t2⟩ := Lines.str_no h
  clear h
  go_enter Tryz.func151, Tryz.ntmps151
  go_wp2_with fail
  go_ret
  exact ⟨rfl, HF.out _ _⟩
theorem carried_any (a f t : ByteArray) (w : World) (ha : a.size < 100000000) (ht : t.size < 100000000) :
  Calls Tryz.prog 190 #[.string a, .string f, .string t] w fun e w' => e = .returned (.tuple #[.string (carryP a f t).1, .bool (carryP a f t).2]) ∧ w = w' := by
 have c1 := Path.moved_any a f t w ha ht
 have c2 := Path.within_any a t w
 unfold carryP wiP moP
 generalize Path.within a.data.toList t.data.toList = R2 at c2
 unfold Path.movedS at c1
 cases hR : Path.within a.data.toList f.data.toList with
 | true =>
  rw [hR] at c1
  simp only [if_true] at c1 ⊢
  generalize (⟨(Path.moved a.data.toList f.data.toList t.data.toList).toArray⟩ : ByteArray) = M at c1
  clear hR ha ht
  go_enter Tryz.func190, Tryz.ntmps190
  go_wp2_with (first
   | (go_at_call 148; with_reducible refine c1.mono ?_; rintro e w1 ⟨rfl, rfl⟩)
   | (go_at_call 118; with_reducible refine c2.mono ?_; rintro e w1 ⟨rfl, rfl⟩))
  exact bodyPost_ret (results_tmp2 rfl _ _ _) rfl ⟨rfl, rfl⟩
 | false =>
  rw [hR] at c1
  clear hR ha ht
  cases R2 <;>
  (go_enter Tryz.func190, Tryz.ntmps190
   go_wp2_with (first
   | (go_at_call 148; with_reducible refine c1.mono ?_; rintro e w1 ⟨rfl, rfl⟩)
   | (go_at_call 118; with_reducible refine c2.mono ?_; rintro e w1 ⟨rfl, rfl⟩))
   exact bodyPost_ret (results_tmp2 rfl _ _ _) rfl ⟨rfl, rfl⟩)
theorem asThey_any (f : FuncId) (w : World) : Calls Tryz.prog 149 #[.func (.func f) #[] #[]] w fun e w' => e = .returned (.func (.func 188) #[] #[.pointer (some ⟨w.heap.size, 0, none⟩)]) ∧ w'.cell? ⟨w.heap.size, 0, none⟩ = some (.func (.func f) #[] #[]) ∧ Fr None' w w' := by
 go_enter Tryz.func149, Tryz.ntmps149
 go_wp2_with fail
 go_ret
 exact ⟨rfl, by rw [World.cell?, heap_alloc_new]; rfl, Fr.alloc _ _ _⟩
theorem row_one (w : World) (x : ByteArray) {b : Nat} (hb : w.heap.size = b) : Lines.Row (w.alloc (.cells #[.string x] 9)) (some ⟨b, 0, none⟩) [x] := fun j y hj => by
 subst hb
 have h0 : j = 0 := by have := (List.getElem?_eq_some_iff.1 hj).1; simp at this; omega
 subst h0
 have : x = y := by simpa using hj
 subst this
 exact ⟨_, 0, rfl, by rw [World.cell?, heap_alloc_new]; rfl⟩
theorem row_two (w : World) (x z : ByteArray) {b : Nat} (hb : w.heap.size = b) : Lines.Row (w.alloc (.cells #[.string x, .string z] 9)) (some ⟨b, 0, none⟩) [x, z] := fun j y hj => by
 subst hb
 have h0 : j < 2 := by have := (List.getElem?_eq_some_iff.1 hj).1; simpa using this
 have h1 : j = 0 ∨ j = 1 := by omega
 rcases h1 with rfl | rfl
 ·have : x = y := by simpa using hj
  subst this
  exact ⟨_, 0, rfl, by rw [World.cell?, heap_alloc_new]; rfl⟩
 ·have : z = y := by simpa using hj
  subst this
  exact ⟨_, 0, rfl, by rw [World.cell?, heap_alloc_new]; rfl⟩
theorem places_any (x : Pr) (pa pb : Option Addr) (no nn ca cb : Nat) (w : World) :
  Calls Tryz.prog 189 #[.agg #[.int .i64 x.kind, .string x.path, .string x.dst, .string x.src, .int .i64 x.pos, .slice pa no ca, .slice pb nn cb]] w fun e w' => ∃ g, e = .returned (.slice (some ⟨g, 0, none⟩) (Yn x).length (Yn x).length) ∧ Lines.Row w' (some ⟨g, 0, none⟩) (Yn x) ∧ Fr None' w w' := by
 obtain ⟨K, P, T, F, A, lO, lN⟩ := x
 simp only
 have HF : Hid (∀ o o', Fr None' w ((w.alloc o).alloc o')) := fun o o' => (Fr.alloc None' w _).then7 (Fr.alloc None' _ _)
 by_cases h10 : K = 10
 ·have hR : Yn ⟨K, P, T, F, A, lO, lN⟩ = [P, T] := by simp [Yn, h10]
  rw [hR]
  subst h10
  go_enter Tryz.func189, Tryz.ntmps189
  go_wp2_with fail
  go_ret
  exact ⟨_, rfl, row_two _ _ _ (by simp), HF.out _ _⟩
 ·have hR : Yn ⟨K, P, T, F, A, lO, lN⟩ = [P] := by simp [Yn, h10]
  rw [hR]
  go_enter Tryz.func189, Tryz.ntmps189
  go_wp2_with fail
  go_ret
  exact ⟨_, rfl, row_one _ _ (by simp), HF.out _ _⟩
theorem all_take {α : Type} {f : α → Bool} {l : List α} {k : Nat} (hk : k < l.length) (h : (l.take k).all f = true) (hf : f l[k] = true) : (l.take (k + 1)).all f = true := by
 rw [List.take_succ_eq_append_getElem hk, List.all_append, h]
 simp [hf]
theorem all_not {α : Type} {f : α → Bool} {l : List α} {k : Nat} (hk : k < l.length) (hf : f l[k] = false) : l.all f = false := by
 rw [List.all_eq_false]
 exact ⟨l[k], List.getElem_mem hk, by simp [hf]⟩
theorem places_len (x : Pr) : (Yn x).length ≤ 2 := by
 unfold Yn
 split <;> simp
theorem apart10_any (x y : Pr) (pa pb qa qb : Option Addr) (no nn ca cb mo mn da db : Nat) (w : World) :
  Calls Tryz.prog 150 #[.agg #[.int .i64 x.kind, .string x.path, .string x.dst, .string x.src, .int .i64 x.pos, .slice pa no ca, .slice pb nn cb], .agg #[.int .i64 y.kind, .string y.path, .string y.dst, .string y.src, .int .i64 y.pos, .slice qa mo da, .slice qb mn db]] w fun e w' => e = .returned (.bool (Yg x y)) ∧ Fr None' w w' := by
 have HP1 : Hid (∀ w', Calls Tryz.prog 189 #[.agg #[.int .i64 x.kind, .string x.path, .string x.dst, .string x.src, .int .i64 x.pos, .slice pa no ca, .slice pb nn cb]] w' fun e w'' => ∃ g, e = .returned (.slice (some ⟨g, 0, none⟩) (Yn x).length (Yn x).length) ∧ Lines.Row w'' (some ⟨g, 0, none⟩) (Yn x) ∧ Fr None' w' w'') := fun w' => places_any x pa pb no nn ca cb w'
 have HP2 : Hid (∀ w', Calls Tryz.prog 189 #[.agg #[.int .i64 y.kind, .string y.path, .string y.dst, .string y.src, .int .i64 y.pos, .slice qa mo da, .slice qb mn db]] w' fun e w'' => ∃ g, e = .returned (.slice (some ⟨g, 0, none⟩) (Yn y).length (Yn y).length) ∧ Lines.Row w'' (some ⟨g, 0, none⟩) (Yn y) ∧ Fr None' w' w'') := fun w' => places_any y qa qb mo mn da db w'
 have HR : Hid (Yg x y = (Yn x).all fun a => (Yn y).all fun b => apP a b) := rfl
 have l1 := places_len x
 have l2 := places_len y
 generalize Yg x y = R at HR ⊢
 generalize Yn x = X at HP1 HR l1
 generalize Yn y = Y at HP2 HR l2
 obtain ⟨K, P, T, F, A, lO, lN⟩ := x
 obtain ⟨K', P', T', F', A', lO', lN'⟩ := y
 simp only at HP1 HP2 ⊢
 obtain ⟨w1, hw1⟩ : ∃ w1, w.alloc (.cells #[.int .i64 K, .string P, .string T, .string F, .int .i64 A, .slice pa no ca, .slice pb nn cb] 43) = w1 := ⟨_, rfl⟩
 obtain ⟨w2, hw2⟩ : ∃ w2, w1.alloc (.cells #[.int .i64 K', .string P', .string T', .string F', .int .i64 A', .slice qa mo da, .slice qb mn db] 43) = w2 := ⟨_, rfl⟩
 have F1 : Fr None' w w1 := hw1 ▸ Fr.alloc None' w _
 have F2 : Fr None' w1 w2 := hw2 ▸ Fr.alloc None' w1 _
 have B1 : Box w2 w.heap.size (.int .i64 K) (.string P) (.string T) (.string F) (.int .i64 A) (.slice pa no ca) (.slice pb nn cb) := (hw1 ▸ Box.new w _ _ _ _ _ _ _ : Box w1 _ _ _ _ _ _ _ _).kept F2
 have B2 : Box w2 w1.heap.size (.int .i64 K') (.string P') (.string T') (.string F') (.int .i64 A') (.slice qa mo da) (.slice qb mn db) := hw2 ▸ Box.new w1 _ _ _ _ _ _ _
 have HF : Hid (Fr None' w w2) := F1.then7 F2
 have HB2 : Hid (∀ w', Fr None' w2 w' → Box w' w1.heap.size (.int .i64 K') (.string P') (.string T') (.string F') (.int .i64 A') (.slice qa mo da) (.slice qb mn db)) := fun w' f => B2.kept f
 obtain ⟨a0, a1, a2, a3, a4, a5, a6⟩ := B1.cells
 have q1 := HP1.out w2
 obtain ⟨n, hn⟩ : ∃ n, X.length = n := ⟨_, rfl⟩
 obtain ⟨m, hm⟩ : ∃ m, Y.length = m := ⟨_, rfl⟩
 rw [hn] at q1 l1
 rw [hm] at HP2 l2
 have HL : Hid (X.length = n ∧ Y.length = m ∧ n ≤ 2 ∧ m ≤ 2) := ⟨hn, hm, l1, l2⟩
 clear F1 F2 B1 B2 HP1 hn hm l1 l2
 go_enter Tryz.func150, Tryz.ntmps150
 go_wp2_with fail
 with_reducible refine q1.mono ?_
 rintro e w3 ⟨g, rfl, r3, f3⟩
 have HX : Hid (∀ w', Fr None' w3 w' → Lines.Row w' (some ⟨g, 0, none⟩) X) := fun w' f => r3.fr (toLN f)
 have HF3 : Hid (Fr None' w2 w3) := f3
 clear q1 r3 f3 a0 a1 a2 a3 a4 a5 a6
 go_wp2_with fail
 go_loopw [12] (fun vi wr => ∃ k : Nat, k ≤ n ∧ vi = .int .i64 k ∧ Hid ((X.take k).all (fun a => Y.all fun b => apP a b) = true) ∧ Hid (Fr None' w3 wr)) (fun vi _ => n - (intOf vi).toNat)
 case atStart => exact ⟨0, Nat.zero_le _, rfl, rfl, Fr.refl _ _⟩
 case round =>
  obtain ⟨k, hk, rfl, HT, HFr⟩ := hrel
  by_cases hlt : k < n
  ·have hkX : k < X.length := by rw [HL.out.1]; exact hlt
   obtain ⟨g2, o2, e2, c2⟩ := (HX.out wr HFr.out).get hkX
   cases e2
   rw [Nat.zero_add] at c2
   have HA : Hid ((Y.all fun b => apP X[k] b) = true → (X.take (k + 1)).all (fun a => Y.all fun b => apP a b) = true) := fun h => all_take hkX HT.out h
   have HN : Hid ((Y.all fun b => apP X[k] b) = false → R = false) := fun h => by rw [HR.out]; exact all_not hkX h
   generalize X[k] = xk at c2 HA HN
   have q2 := HP2.out wr
   obtain ⟨b0, b1, b2, b3, b4, b5, b6⟩ := (HB2.out wr (HF3.out.then7 HFr.out)).cells
   have i2 : (k : Int) < (n : Int) := by omega
   have i3 : (0 : Int) ≤ (k : Int) := by omega
   have i4 : (n : Int) ≤ 2 := by have := HL.out.2.2.1; omega
   clear hlt
   go_wp2_with fail
   with_reducible refine q2.mono ?_
   rintro e w4 ⟨g4, rfl, r4, f4⟩
   have HY : Hid (∀ w', Fr None' w4 w' → Lines.Row w' (some ⟨g4, 0, none⟩) Y) := fun w' f => r4.fr (toLN f)
   have HF4 : Hid (Fr None' w3 w4) := HFr.out.then7 f4
   clear q2 r4 f4 c2 b0 b1 b2 b3 b4 b5 b6
   go_wp2_with fail
   go_loopw [19] (fun vi wr => ∃ j : Nat, j ≤ m ∧ vi = .int .i64 j ∧ Hid ((Y.take j).all (fun b => apP xk b) = true) ∧ Hid (Fr None' w4 wr)) (fun vi _ => m - (intOf vi).toNat)
   case atStart => exact ⟨0, Nat.zero_le _, rfl, rfl, Fr.refl _ _⟩
   case round =>
    obtain ⟨j, hj, rfl, HTj, HFj⟩ := hrel
    by_cases hltj : j < m
    ·have hjY : j < Y.length := by rw [HL.out.2.1]; exact hltj
     obtain ⟨g5, o5, e5, c5⟩ := (HY.out wr HFj.out).get hjY
     cases e5
     rw [Nat.zero_add] at c5
     have HA5 : Hid (apP xk Y[j] = true → (Y.take (j + 1)).all (fun b => apP xk b) = true) := fun h => all_take hjY HTj.out h
     have HN5 : Hid (apP xk Y[j] = false → (Y.all fun b => apP xk b) = false) := fun h => all_not hjY h
     have q5 := Path.apart_any xk Y[j] wr
     generalize Y[j] = yj at c5 HA5 HN5 q5
     change Calls _ _ _ _ (fun e w' => e = .returned (.bool (apP xk yj)) ∧ wr = w') at q5
     generalize apP xk yj = Z at HA5 HN5 q5
     have i5 : (j : Int) < (m : Int) := by omega
     have i6 : (0 : Int) ≤ (j : Int) := by omega
     have i7 : (m : Int) ≤ 2 := by have := HL.out.2.2.2; omega
     clear hltj
     cases Z with
     | true =>
      go_wp2_with fail
      with_reducible refine q5.mono ?_
      rintro e w6 ⟨rfl, rfl⟩
      clear q5
      go_wp2_with fail
      exact ⟨⟨j + 1, by omega, by go_num, HA5.out (by first | rfl | trivial), HFj.out⟩, by simp [intOf]; omega⟩
     | false =>
      have HR0 : Hid (R = false) := HN.out (HN5.out rfl)
      have HFl : Hid (Fr None' w wr) := ((HF.out.then7 HF3.out).then7 HF4.out).then7 HFj.out
      go_wp2_with fail
      with_reducible refine q5.mono ?_
      rintro e w6 ⟨rfl, rfl⟩
      clear q5
      go_wp2_with fail
      go_ret
      exact ⟨by rw [HR0.out]; rfl, HFl.out⟩
    ·have e : j = m := by omega
     subst e
     have HY2 : Hid ((Y.all fun b => apP xk b) = true) := by
      have h := HTj.out
      rw [List.take_of_length_le (by rw [HL.out.2.1]; exact Nat.le_refl _)] at h
      exact h
     have HFl : Hid (Fr None' w3 wr) := HF4.out.then7 HFj.out
     clear hltj
     go_wp2_with fail
     exact ⟨⟨k + 1, by omega, by go_num, HA.out HY2.out, HFl.out⟩, by simp [intOf]; omega⟩
  ·have e : k = n := by omega
   subst e
   have HR1 : Hid (R = true) := by
    have h := HT.out
    rw [List.take_of_length_le (by rw [HL.out.1]; exact Nat.le_refl _)] at h
    show R = true
    rw [HR.out]
    exact h
   have HFl : Hid (Fr None' w wr) := (HF.out.then7 HF3.out).then7 HFr.out
   clear hlt
   go_wp2_with fail
   go_ret
   exact ⟨by rw [HR1.out]; rfl, HFl.out⟩
end Go.Proofs.YtbnfjjjdnbcehaaGreatDoor
namespace Go.Proofs.YtbnfjjjdnbcehaaGreatDoor
open Go.RowKit
set_option maxRecDepth 100000
theorem parts_sum : ∀ p : List UInt8, ((Path.parts p).map (fun l => l.length + 1)).sum = p.length + 1
 | [] => rfl
 | c :: p => by
  have ih := parts_sum p
  by_cases hc : c = 47
  ·subst hc
   rw [Path.parts_slash]
   simp only [List.map_cons, List.sum_cons, List.length_nil, List.length_cons] at ih ⊢
   omega
  ·obtain ⟨h, t, e⟩ := Path.parts_cons (p := p)
   rw [Path.parts_other hc e]
   rw [e] at ih
   simp only [List.map_cons, List.sum_cons, List.length_cons] at ih ⊢
   omega
theorem sum_le {l : List (List UInt8)} (h : ∀ x ∈ l, x.length ≤ 16) : (l.map (fun x => x.length + 1)).sum ≤ l.length * 17 := by
 induction l with
 | nil => simp
 | cons x l ih =>
  have h1 := h x (List.mem_cons_self)
  have h2 := ih (fun y hy => h y (List.mem_cons_of_mem _ hy))
  simp only [List.map_cons, List.sum_cons, List.length_cons]
  omega
theorem right_len {p : List UInt8} (h : Path.right p = true) : p.length ≤ 135 := by
 obtain ⟨h1, h2⟩ := (Path.right_iff p).1 h
 have h3 := parts_sum p
 have h4 := sum_le (l := Path.parts p) (fun x hx => by
  have := h2 x hx
  unfold Path.goodPart at this
  simp only [Bool.and_eq_true, decide_eq_true_eq] at this
  omega)
 have h5 := (show (p.length + 1) ≤ (Path.parts p).length * 17 from h3 ▸ h4)
 omega
theorem right_path {x : Pr} (h : Zw x = true) : x.path.size ≤ 135 := by
 unfold Zw at h
 simp only [Bool.and_eq_true] at h
 have := right_len h.1.2
 rw [Path.len_eq] at this
 exact this
theorem move_dst {x : Pr} (h : Zw x = true) (hk : x.kind = 10) : x.dst.size ≤ 135 := by
 unfold Zw Ze Zb at h
 rw [hk] at h
 simp at h
 have := right_len h.2.1.2
 rw [Path.len_eq] at this
 exact this
theorem carry_size (a f t : ByteArray) : (carryP a f t).1.size ≤ a.size + t.size := by
 unfold carryP
 split
 ·unfold moP
  have e : (⟨(Path.moved a.data.toList f.data.toList t.data.toList).toArray⟩ : ByteArray).size = (Path.moved a.data.toList f.data.toList t.data.toList).length := by
   rw [← Path.len_eq]
  rw [e]
  unfold Path.moved
  split
  ·rw [List.length_append, List.length_drop]
   rw [Path.len_eq, Path.len_eq, Path.len_eq]
   omega
  ·simp
 ·simp
theorem Yj (x y : Pr) : (Zx x y).1.old = y.old ∧ (Zx x y).1.new = y.new ∧ (Zx x y).2.1.old = x.old ∧ (Zx x y).2.1.new = x.new := by
 unfold Zx Yo linesC Yw Yx
 (repeat' split) <;> exact ⟨rfl, rfl, rfl, rfl⟩
theorem rule_small {x y : Pr} (hx : Zw x = true) (hy : Zw y = true) (sx : Zs x) (sy : Zs y) : Zs (Zx x y).1 ∧ Zs (Zx x y).2.1 := by
 have p1 := right_path hx
 have p2 := right_path hy
 unfold Zx
 split
 ·unfold Yo linesC
  (repeat' split) <;> exact ⟨⟨sy.path, sy.dst, sy.src, sy.old, sy.new⟩, ⟨sx.path, sx.dst, sx.src, sx.old, sx.new⟩⟩
 split
 ·rename_i h
  have hk : y.kind = 10 := by rcases cls_cases hy with ⟨e, _⟩ | ⟨e, _⟩ | ⟨_, e⟩ <;> omega
  have d := move_dst hy hk
  have c := carry_size x.path y.path y.dst
  exact ⟨sy, ⟨by show (carryP _ _ _).1.size < _; omega, sx.dst, sx.src, sx.old, sx.new⟩⟩
 split
 ·rename_i h
  have hk : x.kind = 10 := by rcases cls_cases hx with ⟨e, _⟩ | ⟨e, _⟩ | ⟨_, e⟩ <;> omega
  have c := carry_size y.path x.dst x.path
  exact ⟨⟨by show (carryP _ _ _).1.size < _; omega, sy.dst, sy.src, sy.old, sy.new⟩, sx⟩
 split
 ·exact ⟨sy, sx⟩
 ·exact ⟨sy, sx⟩
end Go.Proofs.YtbnfjjjdnbcehaaGreatDoor
