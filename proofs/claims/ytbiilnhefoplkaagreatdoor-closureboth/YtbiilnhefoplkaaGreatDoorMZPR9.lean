/-
  What is proved here: what the rules of the kinds answer of a patch. Conditions: it lies in memory, and is of bounded size.
-/
import Derived.Test.YtbiilnhefoplkaaGreatDoorM6ZStrs9
import Derived.Test.YtbiilnhefoplkaaGreatDoorM14ZPSplit
import Derived.Test.YtbiilnhefoplkaaGreatDoorM13PRunes
import Derived.Test.YtbiilnhefoplkaaGreatDoorMZLRightP
namespace Go.Proofs.YtbiilnhefoplkaaGreatDoor
open Go.RowKit
set_option maxRecDepth 100000

theorem StrsAt.sl {w : World} {v : Value} {l : List ByteArray} (h : StrsAt w v l) : ∃ pa ca, v = .slice pa l.length ca ∧ Lines.Row w pa l := by
  obtain ⟨pa, ca, e, _, _, h⟩ := h
  exact ⟨pa, ca, e, h⟩

theorem ofPath {w w' : World} (h : Below w.heap.size w w') : Fr None' w w' := ofBelow h

/-- A patch of bounded size. -/
structure BigP (x : Pr) : Prop where
  path : x.path.size < 140737488355329
  dst : x.dst.size < 140737488355329
  src : x.src.size < 140737488355329
  old : x.old.length < 140737488355329
  new : x.new.length < 140737488355329

/-- A change of bounded size. -/
structure SmallP (x : Pr) : Prop where
  path : x.path.size < 900000
  dst : x.dst.size < 900000
  src : x.src.size < 900000
  old : x.old.length < 900000
  new : x.new.length < 900000

theorem SmallP.big {x : Pr} (h : SmallP x) : BigP x := ⟨by have := h.path; omega, by have := h.dst; omega, by have := h.src; omega, by have := h.old; omega, by have := h.new; omega⟩

set_option maxHeartbeats 4000000 in
theorem noLines_any (x : Pr) (vo vn : Value) (w : World) (ho : StrsAt w vo x.old) (hn : StrsAt w vn x.new) (hs : BigP x) :
    Calls Tryz.prog 124 #[.agg #[.int .i64 x.kind, .string x.path, .string x.dst, .string x.src, .int .i64 x.pos, vo, vn]] w fun e w' => e = .returned (.bool (noLines x)) ∧ Fr None' w w' := by
  obtain ⟨K, P, T, F, A, lO, lN⟩ := x
  obtain ⟨zP, zT, zF, zO, zN⟩ := hs
  simp only at ho hn zP zT zF zO zN ⊢
  obtain ⟨pa, ca, rfl, r1⟩ := ho.sl
  obtain ⟨pb, cb, rfl, r2⟩ := hn.sl
  obtain ⟨no, hno⟩ : ∃ n, lO.length = n := ⟨_, rfl⟩
  obtain ⟨nn, hnn⟩ : ∃ n, lN.length = n := ⟨_, rfl⟩
  obtain ⟨w1, hw1⟩ : ∃ w1, w.alloc (.cells #[.int .i64 K, .string P, .string T, .string F, .int .i64 A, .slice pa no ca, .slice pb nn cb] 67) = w1 := ⟨_, rfl⟩
  have F1 : Fr None' w w1 := hw1 ▸ Fr.alloc None' w _
  have B1 : Box w1 w.heap.size (.int .i64 K) (.string P) (.string T) (.string F) (.int .i64 A) (.slice pa no ca) (.slice pb nn cb) := hw1 ▸ Box.new w _ _ _ _ _ _ _
  have HB : Hid (∀ w', Fr None' w1 w' → Box w' w.heap.size (.int .i64 K) (.string P) (.string T) (.string F) (.int .i64 A) (.slice pa no ca) (.slice pb nn cb)) := fun w' f => B1.kept f
  have HF : Hid (Fr None' w w1) := F1
  obtain ⟨a0, a1, a2, a3, a4, a5, a6⟩ := B1.cells
  rw [hno, hnn]
  have i1 : (no : Int) < 140737488355329 := by omega
  have i2 : (nn : Int) < 140737488355329 := by omega
  by_cases hA : A = 0
  · by_cases hO : no = 0
    · have hR : noLines ⟨K, P, T, F, A, lO, lN⟩ = decide (nn = 0) := by simp [noLines, hA, hno, hO, hnn]
      rw [hR]
      by_cases hN : nn = 0
      · rw [decide_eq_true hN]
        subst hA hO hN
        clear ho hn r1 r2 zP zT zF zO zN F1 B1 hR hno hnn
        go_enter Tryz.func124, Tryz.ntmps124
        go_wp2_with fail
        go_ret
        exact ⟨rfl, HF.out⟩
      · rw [decide_eq_false hN]
        subst hA hO
        have j1 : ¬ (nn : Int) = 0 := by omega
        clear ho hn r1 r2 zP zT zF zO zN F1 B1 hR hno hnn
        go_enter Tryz.func124, Tryz.ntmps124
        go_wp2_with fail
        go_ret
        exact ⟨by first | rfl | exact ret_bool7 (by simp; omega), HF.out⟩
    · have hR : noLines ⟨K, P, T, F, A, lO, lN⟩ = false := by simp [noLines, hA, hno, hO]
      rw [hR]
      subst hA
      have j1 : ¬ (no : Int) = 0 := by omega
      clear ho hn r1 r2 zP zT zF zO zN F1 B1 hR hno hnn
      go_enter Tryz.func124, Tryz.ntmps124
      go_wp2_with fail
      go_ret
      exact ⟨rfl, HF.out⟩
  · have hR : noLines ⟨K, P, T, F, A, lO, lN⟩ = false := by simp [noLines, hA]
    rw [hR]
    clear ho hn r1 r2 zP zT zF zO zN F1 B1 hR hno hnn
    go_enter Tryz.func124, Tryz.ntmps124
    go_wp2_with fail
    go_ret
    exact ⟨rfl, HF.out⟩

set_option maxHeartbeats 4000000 in
theorem bare_any (x : Pr) (vo vn : Value) (w : World) (ho : StrsAt w vo x.old) (hn : StrsAt w vn x.new) (hs : BigP x) :
    Calls Tryz.prog 105 #[.agg #[.int .i64 x.kind, .string x.path, .string x.dst, .string x.src, .int .i64 x.pos, vo, vn]] w fun e w' => e = .returned (.bool (bareP x)) ∧ Fr None' w w' := by
  have cW : ∀ w', Fr None' w w' → Calls Tryz.prog 124 #[.agg #[.int .i64 x.kind, .string x.path, .string x.dst, .string x.src, .int .i64 x.pos, vo, vn]] w' fun e w'' => e = .returned (.bool (noLines x)) ∧ Fr None' w' w'' := fun w' f => noLines_any x vo vn w' (ho.kept f) (hn.kept f) hs
  obtain ⟨K, P, T, F, A, lO, lN⟩ := x
  obtain ⟨zP, zT, zF, zO, zN⟩ := hs
  simp only at ho hn zP zT zF zO zN cW ⊢
  obtain ⟨pa, ca, rfl, r1⟩ := ho.sl
  obtain ⟨pb, cb, rfl, r2⟩ := hn.sl
  obtain ⟨no, hno⟩ : ∃ n, lO.length = n := ⟨_, rfl⟩
  obtain ⟨nn, hnn⟩ : ∃ n, lN.length = n := ⟨_, rfl⟩
  obtain ⟨w1, hw1⟩ : ∃ w1, w.alloc (.cells #[.int .i64 K, .string P, .string T, .string F, .int .i64 A, .slice pa no ca, .slice pb nn cb] 67) = w1 := ⟨_, rfl⟩
  have F1 : Fr None' w w1 := hw1 ▸ Fr.alloc None' w _
  have B1 : Box w1 w.heap.size (.int .i64 K) (.string P) (.string T) (.string F) (.int .i64 A) (.slice pa no ca) (.slice pb nn cb) := hw1 ▸ Box.new w _ _ _ _ _ _ _
  have HB : Hid (∀ w', Fr None' w1 w' → Box w' w.heap.size (.int .i64 K) (.string P) (.string T) (.string F) (.int .i64 A) (.slice pa no ca) (.slice pb nn cb)) := fun w' f => B1.kept f
  have HF : Hid (Fr None' w w1) := F1
  obtain ⟨a0, a1, a2, a3, a4, a5, a6⟩ := B1.cells
  rw [hno, hnn]
  rw [hno, hnn] at cW
  by_cases hT : T.data.toList = []
  · obtain ⟨t1, t2⟩ := Lines.asks_yes hT
    by_cases hF : F.data.toList = []
    · obtain ⟨t3, t4⟩ := Lines.asks_yes hF
      have hR : bareP ⟨K, P, T, F, A, lO, lN⟩ = noLines ⟨K, P, T, F, A, lO, lN⟩ := by simp [bareP, hT, hF]
      rw [hR]
      generalize noLines ⟨K, P, T, F, A, lO, lN⟩ = R at cW
      have q1 := cW w1 F1
      clear ho hn r1 r2 zP zT zF zO zN F1 B1 hR hT hF cW hno hnn
      go_enter Tryz.func105, Tryz.ntmps105
      go_wp2_with fail
      with_reducible refine q1.mono ?_
      rintro e w2 ⟨rfl, f2⟩
      have HF2 : Hid (Fr None' w w2) := HF.out.then7 f2
      clear q1 f2
      cases R <;> (go_wp2_with fail; go_ret; exact ⟨rfl, HF2.out⟩)
    · obtain ⟨t3, t4⟩ := Lines.asks_no hF
      have hR : bareP ⟨K, P, T, F, A, lO, lN⟩ = false := by simp [bareP, hT, hF]
      rw [hR]
      clear ho hn r1 r2 zP zT zF zO zN F1 B1 hR hT hF cW hno hnn
      go_enter Tryz.func105, Tryz.ntmps105
      go_wp2_with fail
      go_ret
      exact ⟨rfl, HF.out⟩
  · obtain ⟨t1, t2⟩ := Lines.asks_no hT
    have hR : bareP ⟨K, P, T, F, A, lO, lN⟩ = false := by simp [bareP, hT]
    rw [hR]
    clear ho hn r1 r2 zP zT zF zO zN F1 B1 hR hT cW hno hnn
    go_enter Tryz.func105, Tryz.ntmps105
    go_wp2_with fail
    go_ret
    exact ⟨rfl, HF.out⟩

set_option maxHeartbeats 4000000 in
theorem bytes_any (x : Pr) (vo vn : Value) (w : World) (ho : StrsAt w vo x.old) (hn : StrsAt w vn x.new) (hs : BigP x) :
    Calls Tryz.prog 113 #[.agg #[.int .i64 x.kind, .string x.path, .string x.dst, .string x.src, .int .i64 x.pos, vo, vn]] w fun e w' => e = .returned (.bool (bytesP x)) ∧ Fr None' w w' := by
  have cW : ∀ w', Fr None' w w' → Calls Tryz.prog 124 #[.agg #[.int .i64 x.kind, .string x.path, .string x.dst, .string x.src, .int .i64 x.pos, vo, vn]] w' fun e w'' => e = .returned (.bool (noLines x)) ∧ Fr None' w' w'' := fun w' f => noLines_any x vo vn w' (ho.kept f) (hn.kept f) hs
  obtain ⟨K, P, T, F, A, lO, lN⟩ := x
  obtain ⟨zP, zT, zF, zO, zN⟩ := hs
  simp only at ho hn zP zT zF zO zN cW ⊢
  obtain ⟨pa, ca, rfl, r1⟩ := ho.sl
  obtain ⟨pb, cb, rfl, r2⟩ := hn.sl
  obtain ⟨no, hno⟩ : ∃ n, lO.length = n := ⟨_, rfl⟩
  obtain ⟨nn, hnn⟩ : ∃ n, lN.length = n := ⟨_, rfl⟩
  obtain ⟨w1, hw1⟩ : ∃ w1, w.alloc (.cells #[.int .i64 K, .string P, .string T, .string F, .int .i64 A, .slice pa no ca, .slice pb nn cb] 67) = w1 := ⟨_, rfl⟩
  have F1 : Fr None' w w1 := hw1 ▸ Fr.alloc None' w _
  have B1 : Box w1 w.heap.size (.int .i64 K) (.string P) (.string T) (.string F) (.int .i64 A) (.slice pa no ca) (.slice pb nn cb) := hw1 ▸ Box.new w _ _ _ _ _ _ _
  have HB : Hid (∀ w', Fr None' w1 w' → Box w' w.heap.size (.int .i64 K) (.string P) (.string T) (.string F) (.int .i64 A) (.slice pa no ca) (.slice pb nn cb)) := fun w' f => B1.kept f
  have HF : Hid (Fr None' w w1) := F1
  obtain ⟨a0, a1, a2, a3, a4, a5, a6⟩ := B1.cells
  rw [hno, hnn]
  rw [hno, hnn] at cW
  obtain ⟨R, hRR⟩ : ∃ R, noLines ⟨K, P, T, F, A, lO, lN⟩ = R := ⟨_, rfl⟩
  rw [hRR] at cW
  have q1 := cW w1 F1
  cases R with
  | false =>
    have hR : bytesP ⟨K, P, T, F, A, lO, lN⟩ = false := by simp [bytesP, hRR]
    rw [hR]
    clear ho hn r1 r2 zP zT zF zO zN F1 B1 hR hRR cW hno hnn
    go_enter Tryz.func113, Tryz.ntmps113
    go_wp2_with fail
    with_reducible refine q1.mono ?_
    rintro e w2 ⟨rfl, f2⟩
    have HF2 : Hid (Fr None' w w2) := HF.out.then7 f2
    clear q1 f2
    go_wp2_with fail
    go_ret
    exact ⟨rfl, HF2.out⟩
  | true =>
    have HC : Hid (∀ w', Fr None' w1 w' → w'.cell? ⟨w.heap.size, 2, none⟩ = some (.string T) ∧ w'.cell? ⟨w.heap.size, 3, none⟩ = some (.string F)) := fun w' f => ⟨(HB.out w' f).cells.2.2.1, (HB.out w' f).cells.2.2.2.1⟩
    by_cases he : F = T
    · have hR : bytesP ⟨K, P, T, F, A, lO, lN⟩ = false := by simp [bytesP, he]
      rw [hR]
      subst he
      clear ho hn r1 r2 zP zT zF zO zN F1 B1 hR hRR cW hno hnn
      go_enter Tryz.func113, Tryz.ntmps113
      go_wp2_with fail
      with_reducible refine q1.mono ?_
      rintro e w2 ⟨rfl, f2⟩
      have HF2 : Hid (Fr None' w w2) := HF.out.then7 f2
      obtain ⟨k2, k3⟩ := HC.out w2 f2
      clear q1 f2 a0 a1 a2 a3 a4 a5 a6
      go_wp2_with fail
      go_ret
      exact ⟨rfl, HF2.out⟩
    · have hR : bytesP ⟨K, P, T, F, A, lO, lN⟩ = true := by simp [bytesP, hRR, he]
      rw [hR]
      obtain ⟨t1, t2⟩ := Lines.str_no he
      clear ho hn r1 r2 zP zT zF zO zN F1 B1 hR hRR cW hno hnn he
      go_enter Tryz.func113, Tryz.ntmps113
      go_wp2_with fail
      with_reducible refine q1.mono ?_
      rintro e w2 ⟨rfl, f2⟩
      have HF2 : Hid (Fr None' w w2) := HF.out.then7 f2
      obtain ⟨k2, k3⟩ := HC.out w2 f2
      clear q1 f2 a0 a1 a2 a3 a4 a5 a6
      go_wp2_with fail
      go_ret
      exact ⟨rfl, HF2.out⟩

set_option maxHeartbeats 4000000 in
theorem token9_any (x : Pr) (vo vn : Value) (w : World) (ho : StrsAt w vo x.old) (hn : StrsAt w vn x.new) (hs : BigP x) :
    Calls Tryz.prog 111 #[.agg #[.int .i64 x.kind, .string x.path, .string x.dst, .string x.src, .int .i64 x.pos, vo, vn]] w fun e w' => e = .returned (.bool (tokenP x)) ∧ Fr None' w w' := by
  have cW : ∀ w', Fr None' w w' → Calls Tryz.prog 124 #[.agg #[.int .i64 x.kind, .string x.path, .string x.dst, .string x.src, .int .i64 x.pos, vo, vn]] w' fun e w'' => e = .returned (.bool (noLines x)) ∧ Fr None' w' w'' := fun w' f => noLines_any x vo vn w' (ho.kept f) (hn.kept f) hs
  obtain ⟨K, P, T, F, A, lO, lN⟩ := x
  obtain ⟨zP, zT, zF, zO, zN⟩ := hs
  simp only at ho hn zP zT zF zO zN cW ⊢
  obtain ⟨pa, ca, rfl, r1⟩ := ho.sl
  obtain ⟨pb, cb, rfl, r2⟩ := hn.sl
  obtain ⟨no, hno⟩ : ∃ n, lO.length = n := ⟨_, rfl⟩
  obtain ⟨nn, hnn⟩ : ∃ n, lN.length = n := ⟨_, rfl⟩
  obtain ⟨w1, hw1⟩ : ∃ w1, w.alloc (.cells #[.int .i64 K, .string P, .string T, .string F, .int .i64 A, .slice pa no ca, .slice pb nn cb] 67) = w1 := ⟨_, rfl⟩
  have F1 : Fr None' w w1 := hw1 ▸ Fr.alloc None' w _
  have B1 : Box w1 w.heap.size (.int .i64 K) (.string P) (.string T) (.string F) (.int .i64 A) (.slice pa no ca) (.slice pb nn cb) := hw1 ▸ Box.new w _ _ _ _ _ _ _
  have HB : Hid (∀ w', Fr None' w1 w' → Box w' w.heap.size (.int .i64 K) (.string P) (.string T) (.string F) (.int .i64 A) (.slice pa no ca) (.slice pb nn cb)) := fun w' f => B1.kept f
  have HF : Hid (Fr None' w w1) := F1
  obtain ⟨a0, a1, a2, a3, a4, a5, a6⟩ := B1.cells
  rw [hno, hnn]
  rw [hno, hnn] at cW
  have HC : Hid (∀ w', Fr None' w1 w' → w'.cell? ⟨w.heap.size, 1, none⟩ = some (.string P) ∧ w'.cell? ⟨w.heap.size, 2, none⟩ = some (.string T) ∧ w'.cell? ⟨w.heap.size, 3, none⟩ = some (.string F)) := fun w' f => ⟨(HB.out w' f).cells.2.1, (HB.out w' f).cells.2.2.1, (HB.out w' f).cells.2.2.2.1⟩
  have HTF : Hid (∀ w', Calls Tryz.prog 133 #[.string F] w' fun e w'' => e = .returned (.bool (Lines.tok F.data.toList)) ∧ Fr None' w' w'') := fun w' => (Lines.token_any F w' (by omega)).mono fun _ _ ⟨h1, h2⟩ => ⟨h1, ofLN h2⟩
  have HTT : Hid (∀ w', Calls Tryz.prog 133 #[.string T] w' fun e w'' => e = .returned (.bool (Lines.tok T.data.toList)) ∧ Fr None' w' w'') := fun w' => (Lines.token_any T w' (by omega)).mono fun _ _ ⟨h1, h2⟩ => ⟨h1, ofLN h2⟩
  obtain ⟨R, hRR⟩ : ∃ R, noLines ⟨K, P, T, F, A, lO, lN⟩ = R := ⟨_, rfl⟩
  obtain ⟨RF, hRF⟩ : ∃ R, Lines.tok F.data.toList = R := ⟨_, rfl⟩
  obtain ⟨RT, hRT⟩ : ∃ R, Lines.tok T.data.toList = R := ⟨_, rfl⟩
  rw [hRR] at cW
  rw [hRF] at HTF
  rw [hRT] at HTT
  have q1 := cW w1 F1
  have HV : Hid (tokenP ⟨K, P, T, F, A, lO, lN⟩ = (R && RF && RT && decide (¬ F = T))) := by show _ = _; simp [tokenP, hRR, hRF, hRT]
  rw [HV.out]
  clear ho hn r1 r2 zP zT zF zO zN F1 B1 cW hno hnn hRR hRF hRT HV
  cases R with
  | false =>
    rw [Bool.false_and, Bool.false_and, Bool.false_and]
    go_enter Tryz.func111, Tryz.ntmps111
    go_wp2_with fail
    with_reducible refine q1.mono ?_
    rintro e w2 ⟨rfl, f2⟩
    have HF2 : Hid (Fr None' w w2) := HF.out.then7 f2
    clear q1 f2
    go_wp2_with fail
    go_ret
    exact ⟨rfl, HF2.out⟩
  | true =>
    rw [Bool.true_and]
    cases RF with
    | false =>
      rw [Bool.false_and, Bool.false_and]
      go_enter Tryz.func111, Tryz.ntmps111
      go_wp2_with fail
      with_reducible refine q1.mono ?_
      rintro e w2 ⟨rfl, f2⟩
      have HF2 : Hid (Fr None' w w2) := HF.out.then7 f2
      obtain ⟨k1, k2, k3⟩ := HC.out w2 f2
      have q2 := HTF.out w2
      clear q1 f2 a0 a1 a2 a3 a4 a5 a6
      go_wp2_with fail
      with_reducible refine q2.mono ?_
      rintro e w3 ⟨rfl, f3⟩
      have HF3 : Hid (Fr None' w w3) := HF2.out.then7 f3
      clear q2 f3 k1 k2 k3
      go_wp2_with fail
      go_ret
      exact ⟨rfl, HF3.out⟩
    | true =>
      rw [Bool.true_and]
      have HS : Hid ((RT = true ∧ ¬ F = T) ∨ (RT && decide (¬ F = T)) = false) := by
        show _ ∨ _
        by_cases he : F = T <;> cases RT <;> simp [he]
      go_enter Tryz.func111, Tryz.ntmps111
      go_wp2_with fail
      with_reducible refine q1.mono ?_
      rintro e w2 ⟨rfl, f2⟩
      have HF2 : Hid (Fr None' w w2 ∧ Fr None' w1 w2) := ⟨HF.out.then7 f2, f2⟩
      obtain ⟨k1, k2, k3⟩ := HC.out w2 f2
      have q2 := HTF.out w2
      clear q1 f2 a0 a1 a2 a3 a4 a5 a6
      go_wp2_with fail
      with_reducible refine q2.mono ?_
      rintro e w3 ⟨rfl, f3⟩
      have HF3 : Hid (Fr None' w w3 ∧ Fr None' w1 w3) := ⟨HF2.out.1.then7 f3, HF2.out.2.then7 f3⟩
      obtain ⟨j1, j2, j3⟩ := HC.out w3 HF3.out.2
      have q3 := HTT.out w3
      clear q2 f3 k1 k2 k3
      go_wp2_with fail
      with_reducible refine q3.mono ?_
      rintro e w4 ⟨rfl, f4⟩
      have HF4 : Hid (Fr None' w w4) := HF3.out.1.then7 f4
      obtain ⟨l1, l2, l3⟩ := HC.out w4 (HF3.out.2.then7 f4)
      clear q3 f4 j1 j2 j3
      cases RT with
      | false =>
        go_wp2_with fail
        go_ret
        exact ⟨rfl, HF4.out⟩
      | true =>
        by_cases he : F = T
        · subst he
          go_wp2_with fail
          go_ret
          exact ⟨by first | rfl | exact ret_bool7 (by simp), HF4.out⟩
        · obtain ⟨t1, t2⟩ := Lines.str_no he
          have HE : Hid (¬ F = T) := he
          clear he
          go_wp2_with fail
          go_ret
          exact ⟨by first | rfl | exact ret_bool7 (by simp [HE.out]), HF4.out⟩

set_option maxHeartbeats 4000000 in
theorem move9_any (x : Pr) (vo vn : Value) (w : World) (ho : StrsAt w vo x.old) (hn : StrsAt w vn x.new) (hs : BigP x) :
    Calls Tryz.prog 115 #[.agg #[.int .i64 x.kind, .string x.path, .string x.dst, .string x.src, .int .i64 x.pos, vo, vn]] w fun e w' => e = .returned (.bool (moveP x)) ∧ Fr None' w w' := by
  have cW : ∀ w', Fr None' w w' → Calls Tryz.prog 124 #[.agg #[.int .i64 x.kind, .string x.path, .string x.dst, .string x.src, .int .i64 x.pos, vo, vn]] w' fun e w'' => e = .returned (.bool (noLines x)) ∧ Fr None' w' w'' := fun w' f => noLines_any x vo vn w' (ho.kept f) (hn.kept f) hs
  obtain ⟨K, P, T, F, A, lO, lN⟩ := x
  obtain ⟨zP, zT, zF, zO, zN⟩ := hs
  simp only at ho hn zP zT zF zO zN cW ⊢
  obtain ⟨pa, ca, rfl, r1⟩ := ho.sl
  obtain ⟨pb, cb, rfl, r2⟩ := hn.sl
  obtain ⟨no, hno⟩ : ∃ n, lO.length = n := ⟨_, rfl⟩
  obtain ⟨nn, hnn⟩ : ∃ n, lN.length = n := ⟨_, rfl⟩
  obtain ⟨w1, hw1⟩ : ∃ w1, w.alloc (.cells #[.int .i64 K, .string P, .string T, .string F, .int .i64 A, .slice pa no ca, .slice pb nn cb] 67) = w1 := ⟨_, rfl⟩
  have F1 : Fr None' w w1 := hw1 ▸ Fr.alloc None' w _
  have B1 : Box w1 w.heap.size (.int .i64 K) (.string P) (.string T) (.string F) (.int .i64 A) (.slice pa no ca) (.slice pb nn cb) := hw1 ▸ Box.new w _ _ _ _ _ _ _
  have HB : Hid (∀ w', Fr None' w1 w' → Box w' w.heap.size (.int .i64 K) (.string P) (.string T) (.string F) (.int .i64 A) (.slice pa no ca) (.slice pb nn cb)) := fun w' f => B1.kept f
  have HF : Hid (Fr None' w w1) := F1
  obtain ⟨a0, a1, a2, a3, a4, a5, a6⟩ := B1.cells
  rw [hno, hnn]
  rw [hno, hnn] at cW
  have HC : Hid (∀ w', Fr None' w1 w' → w'.cell? ⟨w.heap.size, 1, none⟩ = some (.string P) ∧ w'.cell? ⟨w.heap.size, 2, none⟩ = some (.string T) ∧ w'.cell? ⟨w.heap.size, 3, none⟩ = some (.string F)) := fun w' f => ⟨(HB.out w' f).cells.2.1, (HB.out w' f).cells.2.2.1, (HB.out w' f).cells.2.2.2.1⟩
  have HPR : Hid (∀ w', Calls Tryz.prog 95 #[.string T] w' fun e w'' => e = .returned (.bool (Path.right T.data.toList)) ∧ Fr None' w' w'') := fun w' => (Path.right_any T w' (by omega)).mono fun _ _ ⟨h1, h2⟩ => ⟨h1, ofPath h2⟩
  have HPA : Hid (∀ w', Calls Tryz.prog 137 #[.string T, .string P] w' fun e w'' => e = .returned (.bool (Path.apart T.data.toList P.data.toList)) ∧ Fr None' w' w'') := fun w' => (Path.apart_any T P w').mono fun _ _ ⟨h1, h2⟩ => ⟨h1, h2 ▸ Fr.refl _ _⟩
  obtain ⟨R, hRR⟩ : ∃ R, noLines ⟨K, P, T, F, A, lO, lN⟩ = R := ⟨_, rfl⟩
  obtain ⟨R1, hR1⟩ : ∃ R, Path.right T.data.toList = R := ⟨_, rfl⟩
  obtain ⟨R2, hR2⟩ : ∃ R, Path.apart T.data.toList P.data.toList = R := ⟨_, rfl⟩
  rw [hRR] at cW
  rw [hR1] at HPR
  rw [hR2] at HPA
  have q1 := cW w1 F1
  cases R with
  | false =>
    have hR : moveP ⟨K, P, T, F, A, lO, lN⟩ = false := by simp [moveP, hRR]
    rw [hR]
    clear ho hn r1 r2 zP zT zF zO zN F1 B1 cW hno hnn hRR hR1 hR2 hR
    go_enter Tryz.func115, Tryz.ntmps115
    go_wp2_with fail
    with_reducible refine q1.mono ?_
    rintro e w2 ⟨rfl, f2⟩
    have HF2 : Hid (Fr None' w w2) := HF.out.then7 f2
    clear q1 f2
    go_wp2_with fail
    go_ret
    exact ⟨rfl, HF2.out⟩
  | true =>
    by_cases hF : F.data.toList = []
    · have hR : moveP ⟨K, P, T, F, A, lO, lN⟩ = (R1 && R2) := by simp [moveP, hRR, hF, hR1, hR2]
      rw [hR]
      obtain ⟨t1, t2⟩ := Lines.asks_yes hF
      clear ho hn r1 r2 zP zT zF zO zN F1 B1 cW hno hnn hRR hR1 hR2 hR hF
      go_enter Tryz.func115, Tryz.ntmps115
      go_wp2_with fail
      with_reducible refine q1.mono ?_
      rintro e w2 ⟨rfl, f2⟩
      have HF2 : Hid (Fr None' w w2 ∧ Fr None' w1 w2) := ⟨HF.out.then7 f2, f2⟩
      obtain ⟨k1, k2, k3⟩ := HC.out w2 f2
      have q2 := HPR.out w2
      clear q1 f2 a0 a1 a2 a3 a4 a5 a6
      go_wp2_with fail
      with_reducible refine q2.mono ?_
      rintro e w3 ⟨rfl, f3⟩
      have HF3 : Hid (Fr None' w w3 ∧ Fr None' w1 w3) := ⟨HF2.out.1.then7 f3, HF2.out.2.then7 f3⟩
      obtain ⟨j1, j2, j3⟩ := HC.out w3 HF3.out.2
      have q3 := HPA.out w3
      clear q2 f3 k1 k2 k3 t1 t2
      cases R1 with
      | false =>
        go_wp2_with fail
        go_ret
        exact ⟨rfl, HF3.out.1⟩
      | true =>
        go_wp2_with fail
        with_reducible refine q3.mono ?_
        rintro e w4 ⟨rfl, f4⟩
        have HF4 : Hid (Fr None' w w4) := HF3.out.1.then7 f4
        clear q3 f4 j1 j2 j3
        cases R2 <;> (go_wp2_with fail; go_ret; exact ⟨rfl, HF4.out⟩)
    · have hR : moveP ⟨K, P, T, F, A, lO, lN⟩ = false := by simp [moveP, hRR, hF]
      rw [hR]
      obtain ⟨t1, t2⟩ := Lines.asks_no hF
      clear ho hn r1 r2 zP zT zF zO zN F1 B1 cW hno hnn hRR hR1 hR2 hR hF
      go_enter Tryz.func115, Tryz.ntmps115
      go_wp2_with fail
      with_reducible refine q1.mono ?_
      rintro e w2 ⟨rfl, f2⟩
      have HF2 : Hid (Fr None' w w2) := HF.out.then7 f2
      obtain ⟨k1, k2, k3⟩ := HC.out w2 f2
      clear q1 f2 a0 a1 a2 a3 a4 a5 a6
      go_wp2_with fail
      go_ret
      exact ⟨rfl, HF2.out⟩

set_option maxHeartbeats 4000000 in
theorem lines9_any (x : Pr) (vo vn : Value) (w : World) (ho : StrsAt w vo x.old) (hn : StrsAt w vn x.new) (hs : BigP x) :
    Calls Tryz.prog 108 #[.agg #[.int .i64 x.kind, .string x.path, .string x.dst, .string x.src, .int .i64 x.pos, vo, vn]] w fun e w' => e = .returned (.bool (linesP x)) ∧ Fr None' w w' := by
  obtain ⟨K, P, T, F, A, lO, lN⟩ := x
  obtain ⟨zP, zT, zF, zO, zN⟩ := hs
  simp only at ho hn zP zT zF zO zN ⊢
  obtain ⟨pa, ca, rfl, r1⟩ := ho.sl
  obtain ⟨pb, cb, rfl, r2⟩ := hn.sl
  obtain ⟨no, hno⟩ : ∃ n, lO.length = n := ⟨_, rfl⟩
  obtain ⟨nn, hnn⟩ : ∃ n, lN.length = n := ⟨_, rfl⟩
  obtain ⟨w1, hw1⟩ : ∃ w1, w.alloc (.cells #[.int .i64 K, .string P, .string T, .string F, .int .i64 A, .slice pa no ca, .slice pb nn cb] 67) = w1 := ⟨_, rfl⟩
  have F1 : Fr None' w w1 := hw1 ▸ Fr.alloc None' w _
  have B1 : Box w1 w.heap.size (.int .i64 K) (.string P) (.string T) (.string F) (.int .i64 A) (.slice pa no ca) (.slice pb nn cb) := hw1 ▸ Box.new w _ _ _ _ _ _ _
  have HB : Hid (∀ w', Fr None' w1 w' → Box w' w.heap.size (.int .i64 K) (.string P) (.string T) (.string F) (.int .i64 A) (.slice pa no ca) (.slice pb nn cb)) := fun w' f => B1.kept f
  have HF : Hid (Fr None' w w1) := F1
  obtain ⟨a0, a1, a2, a3, a4, a5, a6⟩ := B1.cells
  rw [hno, hnn]
  have HRO : Hid (∀ w', Fr None' w1 w' → Calls Tryz.prog 130 #[.slice pa no ca] w' fun e w'' => e = .returned (.bool (Lines.right (Lines.bs lO))) ∧ w' = w'') := fun w' f => by
    have h := Lines.right_any pa ca lO w' (r1.fr (toLN (F1.then7 f))) (by omega)
    rw [hno] at h
    exact h
  have HRN : Hid (∀ w', Fr None' w1 w' → Calls Tryz.prog 130 #[.slice pb nn cb] w' fun e w'' => e = .returned (.bool (Lines.right (Lines.bs lN))) ∧ w' = w'') := fun w' f => by
    have h := Lines.right_any pb cb lN w' (r2.fr (toLN (F1.then7 f))) (by omega)
    rw [hnn] at h
    exact h
  have i1 : (no : Int) < 140737488355329 := by omega
  have i2 : (nn : Int) < 140737488355329 := by omega
  by_cases hT : T.data.toList = []
  · by_cases hF : F.data.toList = []
    · by_cases hA : 0 ≤ A
      · by_cases hM : A ≤ 1073741824
        · obtain ⟨RO, hRO⟩ : ∃ R, Lines.right (Lines.bs lO) = R := ⟨_, rfl⟩
          obtain ⟨RN, hRN⟩ : ∃ R, Lines.right (Lines.bs lN) = R := ⟨_, rfl⟩
          rw [hRO] at HRO
          rw [hRN] at HRN
          have hR : linesP ⟨K, P, T, F, A, lO, lN⟩ = (RO && RN && decide (0 < no + nn)) := by simp [linesP, hT, hF, hA, hM, hRO, hRN, hno, hnn]
          rw [hR]
          obtain ⟨t1, t2⟩ := Lines.asks_yes hT
          obtain ⟨t3, t4⟩ := Lines.asks_yes hF
          have u1 : IntKind.i64.wrap ((no : Int) + (nn : Int)) = (no : Int) + (nn : Int) := by rw [IntKind.wrap_i64]; omega
          have q1 := HRO.out w1 (Fr.refl _ _)
          have q2 := HRN.out w1 (Fr.refl _ _)
          clear ho hn r1 r2 zP zT zF zO zN F1 B1 hno hnn hR hT hF hRO hRN HRO HRN
          go_enter Tryz.func108, Tryz.ntmps108
          go_wp2_with fail
          with_reducible refine q1.mono ?_
          rintro e w2 ⟨rfl, h2⟩
          subst h2
          clear q1
          cases RO with
          | false =>
            go_wp2_with fail
            go_ret
            exact ⟨rfl, HF.out⟩
          | true =>
            go_wp2_with fail
            with_reducible refine q2.mono ?_
            rintro e w2 ⟨rfl, h2⟩
            subst h2
            clear q2
            cases RN with
            | false =>
              go_wp2_with fail
              go_ret
              exact ⟨rfl, HF.out⟩
            | true =>
              go_wp2_with fail
              go_ret
              exact ⟨by first | rfl | exact ret_bool7 (by simp; omega), HF.out⟩
        · have hR : linesP ⟨K, P, T, F, A, lO, lN⟩ = false := by simp [linesP, hM]
          rw [hR]
          obtain ⟨t1, t2⟩ := Lines.asks_yes hT
          obtain ⟨t3, t4⟩ := Lines.asks_yes hF
          clear ho hn r1 r2 zP zT zF zO zN F1 B1 hno hnn hR hT hF HRO HRN
          go_enter Tryz.func108, Tryz.ntmps108
          go_wp2_with fail
          go_ret
          exact ⟨by first | rfl | exact ret_bool7 (by simp; omega), HF.out⟩
      · have hR : linesP ⟨K, P, T, F, A, lO, lN⟩ = false := by simp [linesP, hA]
        rw [hR]
        obtain ⟨t1, t2⟩ := Lines.asks_yes hT
        obtain ⟨t3, t4⟩ := Lines.asks_yes hF
        clear ho hn r1 r2 zP zT zF zO zN F1 B1 hno hnn hR hT hF HRO HRN
        go_enter Tryz.func108, Tryz.ntmps108
        go_wp2_with fail
        go_ret
        exact ⟨by first | rfl | exact ret_bool7 (by simp; omega), HF.out⟩
    · have hR : linesP ⟨K, P, T, F, A, lO, lN⟩ = false := by simp [linesP, hF]
      rw [hR]
      obtain ⟨t1, t2⟩ := Lines.asks_yes hT
      obtain ⟨t3, t4⟩ := Lines.asks_no hF
      clear ho hn r1 r2 zP zT zF zO zN F1 B1 hno hnn hR hT hF HRO HRN
      go_enter Tryz.func108, Tryz.ntmps108
      go_wp2_with fail
      go_ret
      exact ⟨by first | rfl | exact ret_bool7 (by simp; omega), HF.out⟩
  · have hR : linesP ⟨K, P, T, F, A, lO, lN⟩ = false := by simp [linesP, hT]
    rw [hR]
    obtain ⟨t1, t2⟩ := Lines.asks_no hT
    clear ho hn r1 r2 zP zT zF zO zN F1 B1 hno hnn hR hT HRO HRN
    go_enter Tryz.func108, Tryz.ntmps108
    go_wp2_with fail
    go_ret
    exact ⟨by first | rfl | exact ret_bool7 (by simp; omega), HF.out⟩

end Go.Proofs.YtbiilnhefoplkaaGreatDoor
