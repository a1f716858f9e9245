/-
  What is proved here: what the document's Right answers of a patch. Conditions: it lies in memory, and is of bounded size.
-/
import Derived.Test.YtbiilnhefoplkaaGreatDoorMRule9
import Derived.Test.YtbiilnhefoplkaaGreatDoorM6Strs9
import Derived.Test.YtbiilnhefoplkaaGreatDoorM12PRRest
import Derived.Test.YtbiilnhefoplkaaGreatDoorM28LRDoc
import Derived.Test.YtbiilnhefoplkaaGreatDoorMPR9
namespace Go.Proofs.YtbiilnhefoplkaaGreatDoor
open Go.RowKit
set_option maxRecDepth 100000

set_option maxHeartbeats 4000000 in
theorem dright_1 (P T F : ByteArray) (A : Int) (lO lN : List ByteArray) (pa pb : Option Addr) (no nn ca cb : Nat) (w : World) (hno : lO.length = no) (hnn : lN.length = nn) (zP : P.size < 900000) (_zT : T.size < 900000) (zo : no < 900000) (zn : nn < 900000) :
    Calls Tryz.prog 44 #[.agg #[.int .i64 1, .string P, .string T, .string F, .int .i64 A, .slice pa no ca, .slice pb nn cb]] w fun e w' => e = .returned (.bool (rightP ⟨1, P, T, F, A, lO, lN⟩)) ∧ Fr None' w w' := by
  have cP : ∀ w', Calls Tryz.prog 55 #[.string P] w' fun e w'' => e = .returned (.bool (Path.right P.data.toList)) ∧ w' = w'' := fun w' => Path.rright_any P w' (by omega)
  obtain ⟨w1, hw1⟩ : ∃ w1, w.alloc (.cells #[.int .i64 1, .string P, .string T, .string F, .int .i64 A, .slice pa no ca, .slice pb nn cb] 67) = w1 := ⟨_, rfl⟩
  have HF := toHid8 (show Fr None' w w1 from hw1 ▸ Fr.alloc None' w _)
  obtain ⟨a0, a1, a2, a3, a4, a5, a6⟩ := (hw1 ▸ Box.new w _ _ _ _ _ _ _ : Box w1 w.heap.size (.int .i64 1) (.string P) (.string T) (.string F) (.int .i64 A) (.slice pa no ca) (.slice pb nn cb)).cells
  have i1 : (no : Int) < 900000 := by omega
  have i2 : (nn : Int) < 900000 := by omega
  clear zP _zT zo zn
  cases hP : Path.right P.data.toList with
  | false =>
    rw [hP] at cP
    have hR : rightP ⟨1, P, T, F, A, lO, lN⟩ = false := by unfold rightP ruleP bareP linesP tokenP bytesP moveP noLines; simp [*]
    rw [hR]
    clear hR hno hnn 
    go_enter Tryz.func44, Tryz.ntmps44
    go_wp2_with ((go_at_call 55; with_reducible (refine (cP _).mono ?_); rintro e w2 ⟨rfl, rfl⟩))
    go_ret
    exact ⟨rfl, HF.out⟩
  | true =>
    rw [hP] at cP
    by_cases hO : no = 0
    · by_cases hN : nn = 0
      · by_cases hA : A = 0
        · by_cases hF : F.data.toList = []
          · by_cases hT : T.data.toList = []
            · have hR : rightP ⟨1, P, T, F, A, lO, lN⟩ = true := by unfold rightP ruleP bareP linesP tokenP bytesP moveP noLines; simp [*]
              rw [hR]
              subst hO
              subst hN
              subst hA
              obtain ⟨t3, t4⟩ := Lines.asks_yes hF
              obtain ⟨t1, t2⟩ := Lines.asks_yes hT
              clear hR hno hnn hF hT
              go_enter Tryz.func44, Tryz.ntmps44
              go_wp2_with ((go_at_call 55; with_reducible (refine (cP _).mono ?_); rintro e w2 ⟨rfl, rfl⟩))
              go_ret
              exact ⟨rfl, HF.out⟩
            · have hR : rightP ⟨1, P, T, F, A, lO, lN⟩ = false := by unfold rightP ruleP bareP linesP tokenP bytesP moveP noLines; simp [*]
              rw [hR]
              subst hO
              subst hN
              subst hA
              obtain ⟨t3, t4⟩ := Lines.asks_yes hF
              obtain ⟨t1, t2⟩ := Lines.asks_no hT
              clear hR hno hnn hF hT
              go_enter Tryz.func44, Tryz.ntmps44
              go_wp2_with ((go_at_call 55; with_reducible (refine (cP _).mono ?_); rintro e w2 ⟨rfl, rfl⟩))
              go_ret
              exact ⟨rfl, HF.out⟩
          · have hR : rightP ⟨1, P, T, F, A, lO, lN⟩ = false := by unfold rightP ruleP bareP linesP tokenP bytesP moveP noLines; simp [*]
            rw [hR]
            subst hO
            subst hN
            subst hA
            obtain ⟨t3, t4⟩ := Lines.asks_no hF
            clear hR hno hnn hF
            go_enter Tryz.func44, Tryz.ntmps44
            go_wp2_with ((go_at_call 55; with_reducible (refine (cP _).mono ?_); rintro e w2 ⟨rfl, rfl⟩))
            go_ret
            exact ⟨rfl, HF.out⟩
        · have hR : rightP ⟨1, P, T, F, A, lO, lN⟩ = false := by unfold rightP ruleP bareP linesP tokenP bytesP moveP noLines; simp [*]
          rw [hR]
          subst hO
          subst hN
          clear hR hno hnn 
          go_enter Tryz.func44, Tryz.ntmps44
          go_wp2_with ((go_at_call 55; with_reducible (refine (cP _).mono ?_); rintro e w2 ⟨rfl, rfl⟩))
          go_ret
          exact ⟨rfl, HF.out⟩
      · have hR : rightP ⟨1, P, T, F, A, lO, lN⟩ = false := by unfold rightP ruleP bareP linesP tokenP bytesP moveP noLines; simp [*]
        rw [hR]
        subst hO
        have j2 : ¬ (nn : Int) = 0 := by omega
        clear hR hno hnn 
        go_enter Tryz.func44, Tryz.ntmps44
        go_wp2_with ((go_at_call 55; with_reducible (refine (cP _).mono ?_); rintro e w2 ⟨rfl, rfl⟩))
        go_ret
        exact ⟨rfl, HF.out⟩
    · have hR : rightP ⟨1, P, T, F, A, lO, lN⟩ = false := by unfold rightP ruleP bareP linesP tokenP bytesP moveP noLines; simp [*]
      rw [hR]
      have j1 : ¬ (no : Int) = 0 := by omega
      clear hR hno hnn 
      go_enter Tryz.func44, Tryz.ntmps44
      go_wp2_with ((go_at_call 55; with_reducible (refine (cP _).mono ?_); rintro e w2 ⟨rfl, rfl⟩))
      go_ret
      exact ⟨rfl, HF.out⟩

set_option maxHeartbeats 4000000 in
theorem dright_2 (P T F : ByteArray) (A : Int) (lO lN : List ByteArray) (pa pb : Option Addr) (no nn ca cb : Nat) (w : World) (hno : lO.length = no) (hnn : lN.length = nn) (zP : P.size < 900000) (_zT : T.size < 900000) (zo : no < 900000) (zn : nn < 900000) :
    Calls Tryz.prog 44 #[.agg #[.int .i64 2, .string P, .string T, .string F, .int .i64 A, .slice pa no ca, .slice pb nn cb]] w fun e w' => e = .returned (.bool (rightP ⟨2, P, T, F, A, lO, lN⟩)) ∧ Fr None' w w' := by
  have cP : ∀ w', Calls Tryz.prog 55 #[.string P] w' fun e w'' => e = .returned (.bool (Path.right P.data.toList)) ∧ w' = w'' := fun w' => Path.rright_any P w' (by omega)
  obtain ⟨w1, hw1⟩ : ∃ w1, w.alloc (.cells #[.int .i64 2, .string P, .string T, .string F, .int .i64 A, .slice pa no ca, .slice pb nn cb] 67) = w1 := ⟨_, rfl⟩
  have HF := toHid8 (show Fr None' w w1 from hw1 ▸ Fr.alloc None' w _)
  obtain ⟨a0, a1, a2, a3, a4, a5, a6⟩ := (hw1 ▸ Box.new w _ _ _ _ _ _ _ : Box w1 w.heap.size (.int .i64 2) (.string P) (.string T) (.string F) (.int .i64 A) (.slice pa no ca) (.slice pb nn cb)).cells
  have i1 : (no : Int) < 900000 := by omega
  have i2 : (nn : Int) < 900000 := by omega
  clear zP _zT zo zn
  cases hP : Path.right P.data.toList with
  | false =>
    rw [hP] at cP
    have hR : rightP ⟨2, P, T, F, A, lO, lN⟩ = false := by unfold rightP ruleP bareP linesP tokenP bytesP moveP noLines; simp [*]
    rw [hR]
    clear hR hno hnn 
    go_enter Tryz.func44, Tryz.ntmps44
    go_wp2_with ((go_at_call 55; with_reducible (refine (cP _).mono ?_); rintro e w2 ⟨rfl, rfl⟩))
    go_ret
    exact ⟨rfl, HF.out⟩
  | true =>
    rw [hP] at cP
    by_cases hO : no = 0
    · by_cases hN : nn = 0
      · by_cases hA : A = 0
        · by_cases hF : F.data.toList = []
          · by_cases hT : T.data.toList = []
            · have hR : rightP ⟨2, P, T, F, A, lO, lN⟩ = true := by unfold rightP ruleP bareP linesP tokenP bytesP moveP noLines; simp [*]
              rw [hR]
              subst hO
              subst hN
              subst hA
              obtain ⟨t3, t4⟩ := Lines.asks_yes hF
              obtain ⟨t1, t2⟩ := Lines.asks_yes hT
              clear hR hno hnn hF hT
              go_enter Tryz.func44, Tryz.ntmps44
              go_wp2_with ((go_at_call 55; with_reducible (refine (cP _).mono ?_); rintro e w2 ⟨rfl, rfl⟩))
              go_ret
              exact ⟨rfl, HF.out⟩
            · have hR : rightP ⟨2, P, T, F, A, lO, lN⟩ = false := by unfold rightP ruleP bareP linesP tokenP bytesP moveP noLines; simp [*]
              rw [hR]
              subst hO
              subst hN
              subst hA
              obtain ⟨t3, t4⟩ := Lines.asks_yes hF
              obtain ⟨t1, t2⟩ := Lines.asks_no hT
              clear hR hno hnn hF hT
              go_enter Tryz.func44, Tryz.ntmps44
              go_wp2_with ((go_at_call 55; with_reducible (refine (cP _).mono ?_); rintro e w2 ⟨rfl, rfl⟩))
              go_ret
              exact ⟨rfl, HF.out⟩
          · have hR : rightP ⟨2, P, T, F, A, lO, lN⟩ = false := by unfold rightP ruleP bareP linesP tokenP bytesP moveP noLines; simp [*]
            rw [hR]
            subst hO
            subst hN
            subst hA
            obtain ⟨t3, t4⟩ := Lines.asks_no hF
            clear hR hno hnn hF
            go_enter Tryz.func44, Tryz.ntmps44
            go_wp2_with ((go_at_call 55; with_reducible (refine (cP _).mono ?_); rintro e w2 ⟨rfl, rfl⟩))
            go_ret
            exact ⟨rfl, HF.out⟩
        · have hR : rightP ⟨2, P, T, F, A, lO, lN⟩ = false := by unfold rightP ruleP bareP linesP tokenP bytesP moveP noLines; simp [*]
          rw [hR]
          subst hO
          subst hN
          clear hR hno hnn 
          go_enter Tryz.func44, Tryz.ntmps44
          go_wp2_with ((go_at_call 55; with_reducible (refine (cP _).mono ?_); rintro e w2 ⟨rfl, rfl⟩))
          go_ret
          exact ⟨rfl, HF.out⟩
      · have hR : rightP ⟨2, P, T, F, A, lO, lN⟩ = false := by unfold rightP ruleP bareP linesP tokenP bytesP moveP noLines; simp [*]
        rw [hR]
        subst hO
        have j2 : ¬ (nn : Int) = 0 := by omega
        clear hR hno hnn 
        go_enter Tryz.func44, Tryz.ntmps44
        go_wp2_with ((go_at_call 55; with_reducible (refine (cP _).mono ?_); rintro e w2 ⟨rfl, rfl⟩))
        go_ret
        exact ⟨rfl, HF.out⟩
    · have hR : rightP ⟨2, P, T, F, A, lO, lN⟩ = false := by unfold rightP ruleP bareP linesP tokenP bytesP moveP noLines; simp [*]
      rw [hR]
      have j1 : ¬ (no : Int) = 0 := by omega
      clear hR hno hnn 
      go_enter Tryz.func44, Tryz.ntmps44
      go_wp2_with ((go_at_call 55; with_reducible (refine (cP _).mono ?_); rintro e w2 ⟨rfl, rfl⟩))
      go_ret
      exact ⟨rfl, HF.out⟩

set_option maxHeartbeats 4000000 in
theorem dright_3 (P T F : ByteArray) (A : Int) (lO lN : List ByteArray) (pa pb : Option Addr) (no nn ca cb : Nat) (w : World) (hno : lO.length = no) (hnn : lN.length = nn) (zP : P.size < 900000) (_zT : T.size < 900000) (zo : no < 900000) (zn : nn < 900000) :
    Calls Tryz.prog 44 #[.agg #[.int .i64 3, .string P, .string T, .string F, .int .i64 A, .slice pa no ca, .slice pb nn cb]] w fun e w' => e = .returned (.bool (rightP ⟨3, P, T, F, A, lO, lN⟩)) ∧ Fr None' w w' := by
  have cP : ∀ w', Calls Tryz.prog 55 #[.string P] w' fun e w'' => e = .returned (.bool (Path.right P.data.toList)) ∧ w' = w'' := fun w' => Path.rright_any P w' (by omega)
  obtain ⟨w1, hw1⟩ : ∃ w1, w.alloc (.cells #[.int .i64 3, .string P, .string T, .string F, .int .i64 A, .slice pa no ca, .slice pb nn cb] 67) = w1 := ⟨_, rfl⟩
  have HF := toHid8 (show Fr None' w w1 from hw1 ▸ Fr.alloc None' w _)
  obtain ⟨a0, a1, a2, a3, a4, a5, a6⟩ := (hw1 ▸ Box.new w _ _ _ _ _ _ _ : Box w1 w.heap.size (.int .i64 3) (.string P) (.string T) (.string F) (.int .i64 A) (.slice pa no ca) (.slice pb nn cb)).cells
  have i1 : (no : Int) < 900000 := by omega
  have i2 : (nn : Int) < 900000 := by omega
  clear zP _zT zo zn
  cases hP : Path.right P.data.toList with
  | false =>
    rw [hP] at cP
    have hR : rightP ⟨3, P, T, F, A, lO, lN⟩ = false := by unfold rightP ruleP bareP linesP tokenP bytesP moveP noLines; simp [*]
    rw [hR]
    clear hR hno hnn 
    go_enter Tryz.func44, Tryz.ntmps44
    go_wp2_with ((go_at_call 55; with_reducible (refine (cP _).mono ?_); rintro e w2 ⟨rfl, rfl⟩))
    go_ret
    exact ⟨rfl, HF.out⟩
  | true =>
    rw [hP] at cP
    by_cases hO : no = 0
    · by_cases hN : nn = 0
      · by_cases hA : A = 0
        · by_cases hF : F.data.toList = []
          · by_cases hT : T.data.toList = []
            · have hR : rightP ⟨3, P, T, F, A, lO, lN⟩ = true := by unfold rightP ruleP bareP linesP tokenP bytesP moveP noLines; simp [*]
              rw [hR]
              subst hO
              subst hN
              subst hA
              obtain ⟨t3, t4⟩ := Lines.asks_yes hF
              obtain ⟨t1, t2⟩ := Lines.asks_yes hT
              clear hR hno hnn hF hT
              go_enter Tryz.func44, Tryz.ntmps44
              go_wp2_with ((go_at_call 55; with_reducible (refine (cP _).mono ?_); rintro e w2 ⟨rfl, rfl⟩))
              go_ret
              exact ⟨rfl, HF.out⟩
            · have hR : rightP ⟨3, P, T, F, A, lO, lN⟩ = false := by unfold rightP ruleP bareP linesP tokenP bytesP moveP noLines; simp [*]
              rw [hR]
              subst hO
              subst hN
              subst hA
              obtain ⟨t3, t4⟩ := Lines.asks_yes hF
              obtain ⟨t1, t2⟩ := Lines.asks_no hT
              clear hR hno hnn hF hT
              go_enter Tryz.func44, Tryz.ntmps44
              go_wp2_with ((go_at_call 55; with_reducible (refine (cP _).mono ?_); rintro e w2 ⟨rfl, rfl⟩))
              go_ret
              exact ⟨rfl, HF.out⟩
          · have hR : rightP ⟨3, P, T, F, A, lO, lN⟩ = false := by unfold rightP ruleP bareP linesP tokenP bytesP moveP noLines; simp [*]
            rw [hR]
            subst hO
            subst hN
            subst hA
            obtain ⟨t3, t4⟩ := Lines.asks_no hF
            clear hR hno hnn hF
            go_enter Tryz.func44, Tryz.ntmps44
            go_wp2_with ((go_at_call 55; with_reducible (refine (cP _).mono ?_); rintro e w2 ⟨rfl, rfl⟩))
            go_ret
            exact ⟨rfl, HF.out⟩
        · have hR : rightP ⟨3, P, T, F, A, lO, lN⟩ = false := by unfold rightP ruleP bareP linesP tokenP bytesP moveP noLines; simp [*]
          rw [hR]
          subst hO
          subst hN
          clear hR hno hnn 
          go_enter Tryz.func44, Tryz.ntmps44
          go_wp2_with ((go_at_call 55; with_reducible (refine (cP _).mono ?_); rintro e w2 ⟨rfl, rfl⟩))
          go_ret
          exact ⟨rfl, HF.out⟩
      · have hR : rightP ⟨3, P, T, F, A, lO, lN⟩ = false := by unfold rightP ruleP bareP linesP tokenP bytesP moveP noLines; simp [*]
        rw [hR]
        subst hO
        have j2 : ¬ (nn : Int) = 0 := by omega
        clear hR hno hnn 
        go_enter Tryz.func44, Tryz.ntmps44
        go_wp2_with ((go_at_call 55; with_reducible (refine (cP _).mono ?_); rintro e w2 ⟨rfl, rfl⟩))
        go_ret
        exact ⟨rfl, HF.out⟩
    · have hR : rightP ⟨3, P, T, F, A, lO, lN⟩ = false := by unfold rightP ruleP bareP linesP tokenP bytesP moveP noLines; simp [*]
      rw [hR]
      have j1 : ¬ (no : Int) = 0 := by omega
      clear hR hno hnn 
      go_enter Tryz.func44, Tryz.ntmps44
      go_wp2_with ((go_at_call 55; with_reducible (refine (cP _).mono ?_); rintro e w2 ⟨rfl, rfl⟩))
      go_ret
      exact ⟨rfl, HF.out⟩

set_option maxHeartbeats 4000000 in
theorem dright_4 (P T F : ByteArray) (A : Int) (lO lN : List ByteArray) (pa pb : Option Addr) (no nn ca cb : Nat) (w : World) (hno : lO.length = no) (hnn : lN.length = nn) (zP : P.size < 900000) (_zT : T.size < 900000) (zo : no < 900000) (zn : nn < 900000) :
    Calls Tryz.prog 44 #[.agg #[.int .i64 4, .string P, .string T, .string F, .int .i64 A, .slice pa no ca, .slice pb nn cb]] w fun e w' => e = .returned (.bool (rightP ⟨4, P, T, F, A, lO, lN⟩)) ∧ Fr None' w w' := by
  have cP : ∀ w', Calls Tryz.prog 55 #[.string P] w' fun e w'' => e = .returned (.bool (Path.right P.data.toList)) ∧ w' = w'' := fun w' => Path.rright_any P w' (by omega)
  obtain ⟨w1, hw1⟩ : ∃ w1, w.alloc (.cells #[.int .i64 4, .string P, .string T, .string F, .int .i64 A, .slice pa no ca, .slice pb nn cb] 67) = w1 := ⟨_, rfl⟩
  have HF := toHid8 (show Fr None' w w1 from hw1 ▸ Fr.alloc None' w _)
  obtain ⟨a0, a1, a2, a3, a4, a5, a6⟩ := (hw1 ▸ Box.new w _ _ _ _ _ _ _ : Box w1 w.heap.size (.int .i64 4) (.string P) (.string T) (.string F) (.int .i64 A) (.slice pa no ca) (.slice pb nn cb)).cells
  have i1 : (no : Int) < 900000 := by omega
  have i2 : (nn : Int) < 900000 := by omega
  clear zP _zT zo zn
  cases hP : Path.right P.data.toList with
  | false =>
    rw [hP] at cP
    have hR : rightP ⟨4, P, T, F, A, lO, lN⟩ = false := by unfold rightP ruleP bareP linesP tokenP bytesP moveP noLines; simp [*]
    rw [hR]
    clear hR hno hnn 
    go_enter Tryz.func44, Tryz.ntmps44
    go_wp2_with ((go_at_call 55; with_reducible (refine (cP _).mono ?_); rintro e w2 ⟨rfl, rfl⟩))
    go_ret
    exact ⟨rfl, HF.out⟩
  | true =>
    rw [hP] at cP
    by_cases hO : no = 0
    · by_cases hN : nn = 0
      · by_cases hA : A = 0
        · by_cases hF : F.data.toList = []
          · by_cases hT : T.data.toList = []
            · have hR : rightP ⟨4, P, T, F, A, lO, lN⟩ = true := by unfold rightP ruleP bareP linesP tokenP bytesP moveP noLines; simp [*]
              rw [hR]
              subst hO
              subst hN
              subst hA
              obtain ⟨t3, t4⟩ := Lines.asks_yes hF
              obtain ⟨t1, t2⟩ := Lines.asks_yes hT
              clear hR hno hnn hF hT
              go_enter Tryz.func44, Tryz.ntmps44
              go_wp2_with ((go_at_call 55; with_reducible (refine (cP _).mono ?_); rintro e w2 ⟨rfl, rfl⟩))
              go_ret
              exact ⟨rfl, HF.out⟩
            · have hR : rightP ⟨4, P, T, F, A, lO, lN⟩ = false := by unfold rightP ruleP bareP linesP tokenP bytesP moveP noLines; simp [*]
              rw [hR]
              subst hO
              subst hN
              subst hA
              obtain ⟨t3, t4⟩ := Lines.asks_yes hF
              obtain ⟨t1, t2⟩ := Lines.asks_no hT
              clear hR hno hnn hF hT
              go_enter Tryz.func44, Tryz.ntmps44
              go_wp2_with ((go_at_call 55; with_reducible (refine (cP _).mono ?_); rintro e w2 ⟨rfl, rfl⟩))
              go_ret
              exact ⟨rfl, HF.out⟩
          · have hR : rightP ⟨4, P, T, F, A, lO, lN⟩ = false := by unfold rightP ruleP bareP linesP tokenP bytesP moveP noLines; simp [*]
            rw [hR]
            subst hO
            subst hN
            subst hA
            obtain ⟨t3, t4⟩ := Lines.asks_no hF
            clear hR hno hnn hF
            go_enter Tryz.func44, Tryz.ntmps44
            go_wp2_with ((go_at_call 55; with_reducible (refine (cP _).mono ?_); rintro e w2 ⟨rfl, rfl⟩))
            go_ret
            exact ⟨rfl, HF.out⟩
        · have hR : rightP ⟨4, P, T, F, A, lO, lN⟩ = false := by unfold rightP ruleP bareP linesP tokenP bytesP moveP noLines; simp [*]
          rw [hR]
          subst hO
          subst hN
          clear hR hno hnn 
          go_enter Tryz.func44, Tryz.ntmps44
          go_wp2_with ((go_at_call 55; with_reducible (refine (cP _).mono ?_); rintro e w2 ⟨rfl, rfl⟩))
          go_ret
          exact ⟨rfl, HF.out⟩
      · have hR : rightP ⟨4, P, T, F, A, lO, lN⟩ = false := by unfold rightP ruleP bareP linesP tokenP bytesP moveP noLines; simp [*]
        rw [hR]
        subst hO
        have j2 : ¬ (nn : Int) = 0 := by omega
        clear hR hno hnn 
        go_enter Tryz.func44, Tryz.ntmps44
        go_wp2_with ((go_at_call 55; with_reducible (refine (cP _).mono ?_); rintro e w2 ⟨rfl, rfl⟩))
        go_ret
        exact ⟨rfl, HF.out⟩
    · have hR : rightP ⟨4, P, T, F, A, lO, lN⟩ = false := by unfold rightP ruleP bareP linesP tokenP bytesP moveP noLines; simp [*]
      rw [hR]
      have j1 : ¬ (no : Int) = 0 := by omega
      clear hR hno hnn 
      go_enter Tryz.func44, Tryz.ntmps44
      go_wp2_with ((go_at_call 55; with_reducible (refine (cP _).mono ?_); rintro e w2 ⟨rfl, rfl⟩))
      go_ret
      exact ⟨rfl, HF.out⟩

set_option maxHeartbeats 4000000 in
theorem dright_5 (P T F : ByteArray) (A : Int) (lO lN : List ByteArray) (pa pb : Option Addr) (no nn ca cb : Nat) (w : World) (hno : lO.length = no) (hnn : lN.length = nn) (zP : P.size < 900000) (_zT : T.size < 900000) (zo : no < 900000) (zn : nn < 900000) :
    Calls Tryz.prog 44 #[.agg #[.int .i64 5, .string P, .string T, .string F, .int .i64 A, .slice pa no ca, .slice pb nn cb]] w fun e w' => e = .returned (.bool (rightP ⟨5, P, T, F, A, lO, lN⟩)) ∧ Fr None' w w' := by
  have cP : ∀ w', Calls Tryz.prog 55 #[.string P] w' fun e w'' => e = .returned (.bool (Path.right P.data.toList)) ∧ w' = w'' := fun w' => Path.rright_any P w' (by omega)
  obtain ⟨w1, hw1⟩ : ∃ w1, w.alloc (.cells #[.int .i64 5, .string P, .string T, .string F, .int .i64 A, .slice pa no ca, .slice pb nn cb] 67) = w1 := ⟨_, rfl⟩
  have HF := toHid8 (show Fr None' w w1 from hw1 ▸ Fr.alloc None' w _)
  obtain ⟨a0, a1, a2, a3, a4, a5, a6⟩ := (hw1 ▸ Box.new w _ _ _ _ _ _ _ : Box w1 w.heap.size (.int .i64 5) (.string P) (.string T) (.string F) (.int .i64 A) (.slice pa no ca) (.slice pb nn cb)).cells
  have i1 : (no : Int) < 900000 := by omega
  have i2 : (nn : Int) < 900000 := by omega
  clear zP _zT zo zn
  cases hP : Path.right P.data.toList with
  | false =>
    rw [hP] at cP
    have hR : rightP ⟨5, P, T, F, A, lO, lN⟩ = false := by unfold rightP ruleP bareP linesP tokenP bytesP moveP noLines; simp [*]
    rw [hR]
    clear hR hno hnn 
    go_enter Tryz.func44, Tryz.ntmps44
    go_wp2_with ((go_at_call 55; with_reducible (refine (cP _).mono ?_); rintro e w2 ⟨rfl, rfl⟩))
    go_ret
    exact ⟨rfl, HF.out⟩
  | true =>
    rw [hP] at cP
    by_cases hO : no = 0
    · by_cases hN : nn = 0
      · by_cases hA : A = 0
        · by_cases hF : F.data.toList = []
          · by_cases hT : T.data.toList = []
            · have hR : rightP ⟨5, P, T, F, A, lO, lN⟩ = true := by unfold rightP ruleP bareP linesP tokenP bytesP moveP noLines; simp [*]
              rw [hR]
              subst hO
              subst hN
              subst hA
              obtain ⟨t3, t4⟩ := Lines.asks_yes hF
              obtain ⟨t1, t2⟩ := Lines.asks_yes hT
              clear hR hno hnn hF hT
              go_enter Tryz.func44, Tryz.ntmps44
              go_wp2_with ((go_at_call 55; with_reducible (refine (cP _).mono ?_); rintro e w2 ⟨rfl, rfl⟩))
              go_ret
              exact ⟨rfl, HF.out⟩
            · have hR : rightP ⟨5, P, T, F, A, lO, lN⟩ = false := by unfold rightP ruleP bareP linesP tokenP bytesP moveP noLines; simp [*]
              rw [hR]
              subst hO
              subst hN
              subst hA
              obtain ⟨t3, t4⟩ := Lines.asks_yes hF
              obtain ⟨t1, t2⟩ := Lines.asks_no hT
              clear hR hno hnn hF hT
              go_enter Tryz.func44, Tryz.ntmps44
              go_wp2_with ((go_at_call 55; with_reducible (refine (cP _).mono ?_); rintro e w2 ⟨rfl, rfl⟩))
              go_ret
              exact ⟨rfl, HF.out⟩
          · have hR : rightP ⟨5, P, T, F, A, lO, lN⟩ = false := by unfold rightP ruleP bareP linesP tokenP bytesP moveP noLines; simp [*]
            rw [hR]
            subst hO
            subst hN
            subst hA
            obtain ⟨t3, t4⟩ := Lines.asks_no hF
            clear hR hno hnn hF
            go_enter Tryz.func44, Tryz.ntmps44
            go_wp2_with ((go_at_call 55; with_reducible (refine (cP _).mono ?_); rintro e w2 ⟨rfl, rfl⟩))
            go_ret
            exact ⟨rfl, HF.out⟩
        · have hR : rightP ⟨5, P, T, F, A, lO, lN⟩ = false := by unfold rightP ruleP bareP linesP tokenP bytesP moveP noLines; simp [*]
          rw [hR]
          subst hO
          subst hN
          clear hR hno hnn 
          go_enter Tryz.func44, Tryz.ntmps44
          go_wp2_with ((go_at_call 55; with_reducible (refine (cP _).mono ?_); rintro e w2 ⟨rfl, rfl⟩))
          go_ret
          exact ⟨rfl, HF.out⟩
      · have hR : rightP ⟨5, P, T, F, A, lO, lN⟩ = false := by unfold rightP ruleP bareP linesP tokenP bytesP moveP noLines; simp [*]
        rw [hR]
        subst hO
        have j2 : ¬ (nn : Int) = 0 := by omega
        clear hR hno hnn 
        go_enter Tryz.func44, Tryz.ntmps44
        go_wp2_with ((go_at_call 55; with_reducible (refine (cP _).mono ?_); rintro e w2 ⟨rfl, rfl⟩))
        go_ret
        exact ⟨rfl, HF.out⟩
    · have hR : rightP ⟨5, P, T, F, A, lO, lN⟩ = false := by unfold rightP ruleP bareP linesP tokenP bytesP moveP noLines; simp [*]
      rw [hR]
      have j1 : ¬ (no : Int) = 0 := by omega
      clear hR hno hnn 
      go_enter Tryz.func44, Tryz.ntmps44
      go_wp2_with ((go_at_call 55; with_reducible (refine (cP _).mono ?_); rintro e w2 ⟨rfl, rfl⟩))
      go_ret
      exact ⟨rfl, HF.out⟩

set_option maxHeartbeats 4000000 in
theorem dright_6 (P T F : ByteArray) (A : Int) (lO lN : List ByteArray) (pa pb : Option Addr) (no nn ca cb : Nat) (w : World) (hno : lO.length = no) (hnn : lN.length = nn) (zP : P.size < 900000) (_zT : T.size < 900000) (zo : no < 900000) (zn : nn < 900000) :
    Calls Tryz.prog 44 #[.agg #[.int .i64 6, .string P, .string T, .string F, .int .i64 A, .slice pa no ca, .slice pb nn cb]] w fun e w' => e = .returned (.bool (rightP ⟨6, P, T, F, A, lO, lN⟩)) ∧ Fr None' w w' := by
  have cP : ∀ w', Calls Tryz.prog 55 #[.string P] w' fun e w'' => e = .returned (.bool (Path.right P.data.toList)) ∧ w' = w'' := fun w' => Path.rright_any P w' (by omega)
  obtain ⟨w1, hw1⟩ : ∃ w1, w.alloc (.cells #[.int .i64 6, .string P, .string T, .string F, .int .i64 A, .slice pa no ca, .slice pb nn cb] 67) = w1 := ⟨_, rfl⟩
  have HF := toHid8 (show Fr None' w w1 from hw1 ▸ Fr.alloc None' w _)
  obtain ⟨a0, a1, a2, a3, a4, a5, a6⟩ := (hw1 ▸ Box.new w _ _ _ _ _ _ _ : Box w1 w.heap.size (.int .i64 6) (.string P) (.string T) (.string F) (.int .i64 A) (.slice pa no ca) (.slice pb nn cb)).cells
  have i1 : (no : Int) < 900000 := by omega
  have i2 : (nn : Int) < 900000 := by omega
  clear zP _zT zo zn
  cases hP : Path.right P.data.toList with
  | false =>
    rw [hP] at cP
    have hR : rightP ⟨6, P, T, F, A, lO, lN⟩ = false := by unfold rightP ruleP bareP linesP tokenP bytesP moveP noLines; simp [*]
    rw [hR]
    clear hR hno hnn 
    go_enter Tryz.func44, Tryz.ntmps44
    go_wp2_with ((go_at_call 55; with_reducible (refine (cP _).mono ?_); rintro e w2 ⟨rfl, rfl⟩))
    go_ret
    exact ⟨rfl, HF.out⟩
  | true =>
    rw [hP] at cP
    by_cases hO : no = 0
    · by_cases hN : nn = 0
      · by_cases hA : A = 0
        · by_cases hF : F.data.toList = []
          · by_cases hT : T.data.toList = []
            · have hR : rightP ⟨6, P, T, F, A, lO, lN⟩ = true := by unfold rightP ruleP bareP linesP tokenP bytesP moveP noLines; simp [*]
              rw [hR]
              subst hO
              subst hN
              subst hA
              obtain ⟨t3, t4⟩ := Lines.asks_yes hF
              obtain ⟨t1, t2⟩ := Lines.asks_yes hT
              clear hR hno hnn hF hT
              go_enter Tryz.func44, Tryz.ntmps44
              go_wp2_with ((go_at_call 55; with_reducible (refine (cP _).mono ?_); rintro e w2 ⟨rfl, rfl⟩))
              go_ret
              exact ⟨rfl, HF.out⟩
            · have hR : rightP ⟨6, P, T, F, A, lO, lN⟩ = false := by unfold rightP ruleP bareP linesP tokenP bytesP moveP noLines; simp [*]
              rw [hR]
              subst hO
              subst hN
              subst hA
              obtain ⟨t3, t4⟩ := Lines.asks_yes hF
              obtain ⟨t1, t2⟩ := Lines.asks_no hT
              clear hR hno hnn hF hT
              go_enter Tryz.func44, Tryz.ntmps44
              go_wp2_with ((go_at_call 55; with_reducible (refine (cP _).mono ?_); rintro e w2 ⟨rfl, rfl⟩))
              go_ret
              exact ⟨rfl, HF.out⟩
          · have hR : rightP ⟨6, P, T, F, A, lO, lN⟩ = false := by unfold rightP ruleP bareP linesP tokenP bytesP moveP noLines; simp [*]
            rw [hR]
            subst hO
            subst hN
            subst hA
            obtain ⟨t3, t4⟩ := Lines.asks_no hF
            clear hR hno hnn hF
            go_enter Tryz.func44, Tryz.ntmps44
            go_wp2_with ((go_at_call 55; with_reducible (refine (cP _).mono ?_); rintro e w2 ⟨rfl, rfl⟩))
            go_ret
            exact ⟨rfl, HF.out⟩
        · have hR : rightP ⟨6, P, T, F, A, lO, lN⟩ = false := by unfold rightP ruleP bareP linesP tokenP bytesP moveP noLines; simp [*]
          rw [hR]
          subst hO
          subst hN
          clear hR hno hnn 
          go_enter Tryz.func44, Tryz.ntmps44
          go_wp2_with ((go_at_call 55; with_reducible (refine (cP _).mono ?_); rintro e w2 ⟨rfl, rfl⟩))
          go_ret
          exact ⟨rfl, HF.out⟩
      · have hR : rightP ⟨6, P, T, F, A, lO, lN⟩ = false := by unfold rightP ruleP bareP linesP tokenP bytesP moveP noLines; simp [*]
        rw [hR]
        subst hO
        have j2 : ¬ (nn : Int) = 0 := by omega
        clear hR hno hnn 
        go_enter Tryz.func44, Tryz.ntmps44
        go_wp2_with ((go_at_call 55; with_reducible (refine (cP _).mono ?_); rintro e w2 ⟨rfl, rfl⟩))
        go_ret
        exact ⟨rfl, HF.out⟩
    · have hR : rightP ⟨6, P, T, F, A, lO, lN⟩ = false := by unfold rightP ruleP bareP linesP tokenP bytesP moveP noLines; simp [*]
      rw [hR]
      have j1 : ¬ (no : Int) = 0 := by omega
      clear hR hno hnn 
      go_enter Tryz.func44, Tryz.ntmps44
      go_wp2_with ((go_at_call 55; with_reducible (refine (cP _).mono ?_); rintro e w2 ⟨rfl, rfl⟩))
      go_ret
      exact ⟨rfl, HF.out⟩

set_option maxHeartbeats 4000000 in
theorem dright_9 (P T F : ByteArray) (A : Int) (lO lN : List ByteArray) (pa pb : Option Addr) (no nn ca cb : Nat) (w : World) (hno : lO.length = no) (hnn : lN.length = nn) (zP : P.size < 900000) (_zT : T.size < 900000) (zo : no < 900000) (zn : nn < 900000) :
    Calls Tryz.prog 44 #[.agg #[.int .i64 9, .string P, .string T, .string F, .int .i64 A, .slice pa no ca, .slice pb nn cb]] w fun e w' => e = .returned (.bool (rightP ⟨9, P, T, F, A, lO, lN⟩)) ∧ Fr None' w w' := by
  have cP : ∀ w', Calls Tryz.prog 55 #[.string P] w' fun e w'' => e = .returned (.bool (Path.right P.data.toList)) ∧ w' = w'' := fun w' => Path.rright_any P w' (by omega)
  obtain ⟨w1, hw1⟩ : ∃ w1, w.alloc (.cells #[.int .i64 9, .string P, .string T, .string F, .int .i64 A, .slice pa no ca, .slice pb nn cb] 67) = w1 := ⟨_, rfl⟩
  have HF := toHid8 (show Fr None' w w1 from hw1 ▸ Fr.alloc None' w _)
  obtain ⟨a0, a1, a2, a3, a4, a5, a6⟩ := (hw1 ▸ Box.new w _ _ _ _ _ _ _ : Box w1 w.heap.size (.int .i64 9) (.string P) (.string T) (.string F) (.int .i64 A) (.slice pa no ca) (.slice pb nn cb)).cells
  have i1 : (no : Int) < 900000 := by omega
  have i2 : (nn : Int) < 900000 := by omega
  clear zP _zT zo zn
  cases hP : Path.right P.data.toList with
  | false =>
    rw [hP] at cP
    have hR : rightP ⟨9, P, T, F, A, lO, lN⟩ = false := by unfold rightP ruleP bareP linesP tokenP bytesP moveP noLines; simp [*]
    rw [hR]
    clear hR hno hnn 
    go_enter Tryz.func44, Tryz.ntmps44
    go_wp2_with ((go_at_call 55; with_reducible (refine (cP _).mono ?_); rintro e w2 ⟨rfl, rfl⟩))
    go_ret
    exact ⟨rfl, HF.out⟩
  | true =>
    rw [hP] at cP
    by_cases hO : no = 0
    · by_cases hN : nn = 0
      · by_cases hA : A = 0
        · by_cases hFT : ¬ F = T
          · have hR : rightP ⟨9, P, T, F, A, lO, lN⟩ = true := by unfold rightP ruleP bareP linesP tokenP bytesP moveP noLines; simp [*]
            rw [hR]
            subst hO
            subst hN
            subst hA
            obtain ⟨t5, t6⟩ := Lines.str_no hFT
            clear hR hno hnn hFT
            go_enter Tryz.func44, Tryz.ntmps44
            go_wp2_with ((go_at_call 55; with_reducible (refine (cP _).mono ?_); rintro e w2 ⟨rfl, rfl⟩))
            go_ret
            exact ⟨rfl, HF.out⟩
          · have hR : rightP ⟨9, P, T, F, A, lO, lN⟩ = false := by unfold rightP ruleP bareP linesP tokenP bytesP moveP noLines; simp [*]
            rw [hR]
            subst hO
            subst hN
            subst hA
            have hFT2 : F = T := Classical.not_not.1 hFT
            subst hFT2
            clear hR hno hnn hFT
            go_enter Tryz.func44, Tryz.ntmps44
            go_wp2_with ((go_at_call 55; with_reducible (refine (cP _).mono ?_); rintro e w2 ⟨rfl, rfl⟩))
            go_ret
            exact ⟨rfl, HF.out⟩
        · have hR : rightP ⟨9, P, T, F, A, lO, lN⟩ = false := by unfold rightP ruleP bareP linesP tokenP bytesP moveP noLines; simp [*]
          rw [hR]
          subst hO
          subst hN
          clear hR hno hnn 
          go_enter Tryz.func44, Tryz.ntmps44
          go_wp2_with ((go_at_call 55; with_reducible (refine (cP _).mono ?_); rintro e w2 ⟨rfl, rfl⟩))
          go_ret
          exact ⟨rfl, HF.out⟩
      · have hR : rightP ⟨9, P, T, F, A, lO, lN⟩ = false := by unfold rightP ruleP bareP linesP tokenP bytesP moveP noLines; simp [*]
        rw [hR]
        subst hO
        have j2 : ¬ (nn : Int) = 0 := by omega
        clear hR hno hnn 
        go_enter Tryz.func44, Tryz.ntmps44
        go_wp2_with ((go_at_call 55; with_reducible (refine (cP _).mono ?_); rintro e w2 ⟨rfl, rfl⟩))
        go_ret
        exact ⟨rfl, HF.out⟩
    · have hR : rightP ⟨9, P, T, F, A, lO, lN⟩ = false := by unfold rightP ruleP bareP linesP tokenP bytesP moveP noLines; simp [*]
      rw [hR]
      have j1 : ¬ (no : Int) = 0 := by omega
      clear hR hno hnn 
      go_enter Tryz.func44, Tryz.ntmps44
      go_wp2_with ((go_at_call 55; with_reducible (refine (cP _).mono ?_); rintro e w2 ⟨rfl, rfl⟩))
      go_ret
      exact ⟨rfl, HF.out⟩

set_option maxHeartbeats 4000000 in
theorem dright_10 (P T F : ByteArray) (A : Int) (lO lN : List ByteArray) (pa pb : Option Addr) (no nn ca cb : Nat) (w : World) (hno : lO.length = no) (hnn : lN.length = nn) (zP : P.size < 900000) (zT : T.size < 900000) (zo : no < 900000) (zn : nn < 900000) :
    Calls Tryz.prog 44 #[.agg #[.int .i64 10, .string P, .string T, .string F, .int .i64 A, .slice pa no ca, .slice pb nn cb]] w fun e w' => e = .returned (.bool (rightP ⟨10, P, T, F, A, lO, lN⟩)) ∧ Fr None' w w' := by
  have cP : ∀ w', Calls Tryz.prog 55 #[.string P] w' fun e w'' => e = .returned (.bool (Path.right P.data.toList)) ∧ w' = w'' := fun w' => Path.rright_any P w' (by omega)
  have cD : ∀ w', Calls Tryz.prog 55 #[.string T] w' fun e w'' => e = .returned (.bool (Path.right T.data.toList)) ∧ w' = w'' := fun w' => Path.rright_any T w' (by omega)
  have cA : ∀ w', Calls Tryz.prog 58 #[.string P, .string T] w' fun e w'' => e = .returned (.bool (Path.apart P.data.toList T.data.toList)) ∧ w' = w'' := fun w' => Path.rapart_any P T w' (by omega) (by omega)
  obtain ⟨w1, hw1⟩ : ∃ w1, w.alloc (.cells #[.int .i64 10, .string P, .string T, .string F, .int .i64 A, .slice pa no ca, .slice pb nn cb] 67) = w1 := ⟨_, rfl⟩
  have HF := toHid8 (show Fr None' w w1 from hw1 ▸ Fr.alloc None' w _)
  obtain ⟨a0, a1, a2, a3, a4, a5, a6⟩ := (hw1 ▸ Box.new w _ _ _ _ _ _ _ : Box w1 w.heap.size (.int .i64 10) (.string P) (.string T) (.string F) (.int .i64 A) (.slice pa no ca) (.slice pb nn cb)).cells
  have i1 : (no : Int) < 900000 := by omega
  have i2 : (nn : Int) < 900000 := by omega
  clear zP zT zo zn
  cases hP : Path.right P.data.toList with
  | false =>
    rw [hP] at cP
    have hR : rightP ⟨10, P, T, F, A, lO, lN⟩ = false := by unfold rightP ruleP bareP linesP tokenP bytesP moveP noLines; simp [*]
    rw [hR]
    clear hR hno hnn 
    go_enter Tryz.func44, Tryz.ntmps44
    go_wp2_with ((first | (go_at_call 55; with_reducible (refine (cP _).mono ?_); rintro e w2 ⟨rfl, rfl⟩) | (go_at_call 55; with_reducible (refine (cD _).mono ?_); rintro e w2 ⟨rfl, rfl⟩) | (go_at_call 58; with_reducible (refine (cA _).mono ?_); rintro e w2 ⟨rfl, rfl⟩) | fail))
    go_ret
    exact ⟨rfl, HF.out⟩
  | true =>
    rw [hP] at cP
    by_cases hO : no = 0
    · by_cases hN : nn = 0
      · by_cases hA : A = 0
        · by_cases hF : F.data.toList = []
          · cases hD : Path.right T.data.toList with
            | false =>
              rw [hD] at cD
              have hR : rightP ⟨10, P, T, F, A, lO, lN⟩ = false := by unfold rightP ruleP bareP linesP tokenP bytesP moveP noLines; simp [*]
              rw [hR]
              subst hO
              subst hN
              subst hA
              obtain ⟨t3, t4⟩ := Lines.asks_yes hF
              clear hR hno hnn hF hD
              go_enter Tryz.func44, Tryz.ntmps44
              go_wp2_with ((first | (go_at_call 55; with_reducible (refine (cP _).mono ?_); rintro e w2 ⟨rfl, rfl⟩) | (go_at_call 55; with_reducible (refine (cD _).mono ?_); rintro e w2 ⟨rfl, rfl⟩) | (go_at_call 58; with_reducible (refine (cA _).mono ?_); rintro e w2 ⟨rfl, rfl⟩) | fail))
              go_ret
              exact ⟨rfl, HF.out⟩
            | true =>
              rw [hD] at cD
              cases hX : Path.apart P.data.toList T.data.toList with
              | false =>
                rw [hX] at cA
                have hR : rightP ⟨10, P, T, F, A, lO, lN⟩ = false := by unfold rightP ruleP bareP linesP tokenP bytesP moveP noLines; simp [*, Path.apart_comm T.data.toList]
                rw [hR]
                subst hO
                subst hN
                subst hA
                obtain ⟨t3, t4⟩ := Lines.asks_yes hF
                clear hR hno hnn hF hD hX
                go_enter Tryz.func44, Tryz.ntmps44
                go_wp2_with ((first | (go_at_call 55; with_reducible (refine (cP _).mono ?_); rintro e w2 ⟨rfl, rfl⟩) | (go_at_call 55; with_reducible (refine (cD _).mono ?_); rintro e w2 ⟨rfl, rfl⟩) | (go_at_call 58; with_reducible (refine (cA _).mono ?_); rintro e w2 ⟨rfl, rfl⟩) | fail))
                go_ret
                exact ⟨rfl, HF.out⟩
              | true =>
                rw [hX] at cA
                have hR : rightP ⟨10, P, T, F, A, lO, lN⟩ = true := by unfold rightP ruleP bareP linesP tokenP bytesP moveP noLines; simp [*, Path.apart_comm T.data.toList]
                rw [hR]
                subst hO
                subst hN
                subst hA
                obtain ⟨t3, t4⟩ := Lines.asks_yes hF
                clear hR hno hnn hF hD hX
                go_enter Tryz.func44, Tryz.ntmps44
                go_wp2_with ((first | (go_at_call 55; with_reducible (refine (cP _).mono ?_); rintro e w2 ⟨rfl, rfl⟩) | (go_at_call 55; with_reducible (refine (cD _).mono ?_); rintro e w2 ⟨rfl, rfl⟩) | (go_at_call 58; with_reducible (refine (cA _).mono ?_); rintro e w2 ⟨rfl, rfl⟩) | fail))
                go_ret
                exact ⟨rfl, HF.out⟩
          · have hR : rightP ⟨10, P, T, F, A, lO, lN⟩ = false := by unfold rightP ruleP bareP linesP tokenP bytesP moveP noLines; simp [*]
            rw [hR]
            subst hO
            subst hN
            subst hA
            obtain ⟨t3, t4⟩ := Lines.asks_no hF
            clear hR hno hnn hF
            go_enter Tryz.func44, Tryz.ntmps44
            go_wp2_with ((first | (go_at_call 55; with_reducible (refine (cP _).mono ?_); rintro e w2 ⟨rfl, rfl⟩) | (go_at_call 55; with_reducible (refine (cD _).mono ?_); rintro e w2 ⟨rfl, rfl⟩) | (go_at_call 58; with_reducible (refine (cA _).mono ?_); rintro e w2 ⟨rfl, rfl⟩) | fail))
            go_ret
            exact ⟨rfl, HF.out⟩
        · have hR : rightP ⟨10, P, T, F, A, lO, lN⟩ = false := by unfold rightP ruleP bareP linesP tokenP bytesP moveP noLines; simp [*]
          rw [hR]
          subst hO
          subst hN
          clear hR hno hnn 
          go_enter Tryz.func44, Tryz.ntmps44
          go_wp2_with ((first | (go_at_call 55; with_reducible (refine (cP _).mono ?_); rintro e w2 ⟨rfl, rfl⟩) | (go_at_call 55; with_reducible (refine (cD _).mono ?_); rintro e w2 ⟨rfl, rfl⟩) | (go_at_call 58; with_reducible (refine (cA _).mono ?_); rintro e w2 ⟨rfl, rfl⟩) | fail))
          go_ret
          exact ⟨rfl, HF.out⟩
      · have hR : rightP ⟨10, P, T, F, A, lO, lN⟩ = false := by unfold rightP ruleP bareP linesP tokenP bytesP moveP noLines; simp [*]
        rw [hR]
        subst hO
        have j2 : ¬ (nn : Int) = 0 := by omega
        clear hR hno hnn 
        go_enter Tryz.func44, Tryz.ntmps44
        go_wp2_with ((first | (go_at_call 55; with_reducible (refine (cP _).mono ?_); rintro e w2 ⟨rfl, rfl⟩) | (go_at_call 55; with_reducible (refine (cD _).mono ?_); rintro e w2 ⟨rfl, rfl⟩) | (go_at_call 58; with_reducible (refine (cA _).mono ?_); rintro e w2 ⟨rfl, rfl⟩) | fail))
        go_ret
        exact ⟨rfl, HF.out⟩
    · have hR : rightP ⟨10, P, T, F, A, lO, lN⟩ = false := by unfold rightP ruleP bareP linesP tokenP bytesP moveP noLines; simp [*]
      rw [hR]
      have j1 : ¬ (no : Int) = 0 := by omega
      clear hR hno hnn 
      go_enter Tryz.func44, Tryz.ntmps44
      go_wp2_with ((first | (go_at_call 55; with_reducible (refine (cP _).mono ?_); rintro e w2 ⟨rfl, rfl⟩) | (go_at_call 55; with_reducible (refine (cD _).mono ?_); rintro e w2 ⟨rfl, rfl⟩) | (go_at_call 58; with_reducible (refine (cA _).mono ?_); rintro e w2 ⟨rfl, rfl⟩) | fail))
      go_ret
      exact ⟨rfl, HF.out⟩

set_option maxHeartbeats 8000000 in
theorem dright_no (K : Int) (hK : ¬ (1 ≤ K ∧ K ≤ 10)) (P T F : ByteArray) (A : Int) (lO lN : List ByteArray) (pa pb : Option Addr) (no nn ca cb : Nat) (w : World) (hno : lO.length = no) (hnn : lN.length = nn) (zP : P.size < 900000) (_zT : T.size < 900000) (_zF : F.size < 900000) (zo : no < 900000) (zn : nn < 900000) :
    Calls Tryz.prog 44 #[.agg #[.int .i64 K, .string P, .string T, .string F, .int .i64 A, .slice pa no ca, .slice pb nn cb]] w fun e w' => e = .returned (.bool (rightP ⟨K, P, T, F, A, lO, lN⟩)) ∧ Fr None' w w' := by
  have cP : ∀ w', Calls Tryz.prog 55 #[.string P] w' fun e w'' => e = .returned (.bool (Path.right P.data.toList)) ∧ w' = w'' := fun w' => Path.rright_any P w' (by omega)
  obtain ⟨w1, hw1⟩ : ∃ w1, w.alloc (.cells #[.int .i64 K, .string P, .string T, .string F, .int .i64 A, .slice pa no ca, .slice pb nn cb] 67) = w1 := ⟨_, rfl⟩
  have HF := toHid8 (show Fr None' w w1 from hw1 ▸ Fr.alloc None' w _)
  have HBx := toHid8 (show ∀ w', Fr None' w1 w' → Box w' w.heap.size (.int .i64 K) (.string P) (.string T) (.string F) (.int .i64 A) (.slice pa no ca) (.slice pb nn cb) from fun w' f => (hw1 ▸ Box.new w _ _ _ _ _ _ _ : Box w1 w.heap.size (.int .i64 K) (.string P) (.string T) (.string F) (.int .i64 A) (.slice pa no ca) (.slice pb nn cb)).kept f)
  obtain ⟨a0, a1, a2, a3, a4, a5, a6⟩ := (HBx.out w1 (Fr.refl _ _)).cells
  have i1 : (no : Int) < 900000 := by omega
  have i2 : (nn : Int) < 900000 := by omega
  have hR : rightP ⟨K, P, T, F, A, lO, lN⟩ = false := by unfold rightP; simp only; rw [decide_eq_false hK]; rfl
  rw [hR]
  have k1 : ¬ K = 1 := by omega
  have k2 : ¬ K = 2 := by omega
  have k3 : ¬ K = 3 := by omega
  have k4 : ¬ K = 4 := by omega
  have k5 : ¬ K = 5 := by omega
  have k6 : ¬ K = 6 := by omega
  have k7 : ¬ K = 7 := by omega
  have k8 : ¬ K = 8 := by omega
  have k9 : ¬ K = 9 := by omega
  have k10 : ¬ K = 10 := by omega
  clear zP _zT _zF zo zn hR hK hno hnn
  cases hP : Path.right P.data.toList with
  | false =>
    rw [hP] at cP
    clear hP
    go_enter Tryz.func44, Tryz.ntmps44
    go_wp2_with ((go_at_call 55; with_reducible (refine (cP _).mono ?_); rintro e w2 ⟨rfl, rfl⟩))
    go_ret
    exact ⟨rfl, HF.out⟩
  | true =>
    rw [hP] at cP
    clear hP
    by_cases hO : no = 0
    · by_cases hN : nn = 0
      · by_cases hA : A = 0
        · subst hO hN hA
          go_enter Tryz.func44, Tryz.ntmps44
          go_wp2_with ((go_at_call 55; with_reducible (refine (cP _).mono ?_); rintro e w2 ⟨rfl, rfl⟩))
          go_ret
          exact ⟨rfl, HF.out⟩
        · subst hO hN
          go_enter Tryz.func44, Tryz.ntmps44
          go_wp2_with ((go_at_call 55; with_reducible (refine (cP _).mono ?_); rintro e w2 ⟨rfl, rfl⟩))
          go_ret
          exact ⟨rfl, HF.out⟩
      · subst hO
        have j2 : ((nn : Int) == 0) = false := by simp; omega
        have j3 : ¬ nn = 0 := hN
        clear i1 i2 hN
        go_enter Tryz.func44, Tryz.ntmps44
        go_wp2_with ((go_at_call 55; with_reducible (refine (cP _).mono ?_); rintro e w2 ⟨rfl, rfl⟩))
        go_ret
        exact ⟨rfl, HF.out⟩
    · have j1 : ((no : Int) == 0) = false := by simp; omega
      have j3 : ¬ no = 0 := hO
      clear i1 i2 hO
      go_enter Tryz.func44, Tryz.ntmps44
      go_wp2_with ((go_at_call 55; with_reducible (refine (cP _).mono ?_); rintro e w2 ⟨rfl, rfl⟩))
      go_ret
      exact ⟨rfl, HF.out⟩

set_option maxHeartbeats 8000000 in
theorem dright_8 (P T F : ByteArray) (A : Int) (lO lN : List ByteArray) (pa pb : Option Addr) (no nn ca cb : Nat) (w : World) (hno : lO.length = no) (hnn : lN.length = nn) (zP : P.size < 900000) (zT : T.size < 900000) (zF : F.size < 900000) (zo : no < 900000) (zn : nn < 900000) :
    Calls Tryz.prog 44 #[.agg #[.int .i64 8, .string P, .string T, .string F, .int .i64 A, .slice pa no ca, .slice pb nn cb]] w fun e w' => e = .returned (.bool (rightP ⟨8, P, T, F, A, lO, lN⟩)) ∧ Fr None' w w' := by
  have cP : ∀ w', Calls Tryz.prog 55 #[.string P] w' fun e w'' => e = .returned (.bool (Path.right P.data.toList)) ∧ w' = w'' := fun w' => Path.rright_any P w' (by omega)
  obtain ⟨w1, hw1⟩ : ∃ w1, w.alloc (.cells #[.int .i64 8, .string P, .string T, .string F, .int .i64 A, .slice pa no ca, .slice pb nn cb] 67) = w1 := ⟨_, rfl⟩
  have HF := toHid8 (show Fr None' w w1 from hw1 ▸ Fr.alloc None' w _)
  have HBx := toHid8 (show ∀ w', Fr None' w1 w' → Box w' w.heap.size (.int .i64 8) (.string P) (.string T) (.string F) (.int .i64 A) (.slice pa no ca) (.slice pb nn cb) from fun w' f => (hw1 ▸ Box.new w _ _ _ _ _ _ _ : Box w1 w.heap.size (.int .i64 8) (.string P) (.string T) (.string F) (.int .i64 A) (.slice pa no ca) (.slice pb nn cb)).kept f)
  obtain ⟨a0, a1, a2, a3, a4, a5, a6⟩ := (HBx.out w1 (Fr.refl _ _)).cells
  have i1 : (no : Int) < 900000 := by omega
  have i2 : (nn : Int) < 900000 := by omega
  have cF : Calls Tryz.prog 57 #[.string F] w1 fun e w'' => e = .returned (.bool (Lines.tok F.data.toList)) ∧ Fr None' w1 w'' := (Lines.rToken_any F w1 (by omega)).mono fun _ _ h => ⟨h.1, ofLN h.2⟩
  have HcT := toHid8 (show ∀ w', Fr None' w1 w' → Calls Tryz.prog 57 #[.string T] w' (fun e w'' => e = .returned (.bool (Lines.tok T.data.toList)) ∧ Fr None' w' w'') from fun w' _ => (Lines.rToken_any T w' (by omega)).mono fun _ _ h => ⟨h.1, ofLN h.2⟩)
  clear zP zT zF zo zn
  cases hP : Path.right P.data.toList with
  | false =>
    rw [hP] at cP
    have hR : rightP ⟨8, P, T, F, A, lO, lN⟩ = false := by unfold rightP ruleP bareP linesP tokenP bytesP moveP noLines; simp [*]
    rw [hR]
    clear hP
    clear hR hno hnn
    go_enter Tryz.func44, Tryz.ntmps44
    go_wp2_with ((first | (go_at_call 55; with_reducible (refine (cP _).mono ?_); rintro e w2 ⟨rfl, rfl⟩) | fail))
    go_ret
    exact ⟨rfl, HF.out⟩
  | true =>
    rw [hP] at cP
    by_cases hO : no = 0
    · by_cases hN : nn = 0
      · by_cases hA : A = 0
        · cases hF : Lines.tok F.data.toList with
          | false =>
            rw [hF] at cF
            have hR : rightP ⟨8, P, T, F, A, lO, lN⟩ = false := by unfold rightP ruleP bareP linesP tokenP bytesP moveP noLines; simp [*]
            rw [hR]
            subst hO hN hA
            clear hP hF
            clear hR hno hnn
            go_enter Tryz.func44, Tryz.ntmps44
            go_wp2_with ((first | (go_at_call 55; with_reducible (refine (cP _).mono ?_); rintro e w2 ⟨rfl, rfl⟩) | (go_at_call 57; with_reducible (refine cF.mono ?_); rintro e w3 ⟨rfl, f3⟩; have HF3 := toHid8 f3; obtain ⟨b0, b1, b2, b3, b4, b5, b6⟩ := Box.cells (HBx.out w3 f3); clear f3 a0 a1 a2 a3 a4 a5 a6) | fail))
            go_ret
            exact ⟨rfl, HF.out.then7 HF3.out⟩
          | true =>
            rw [hF] at cF
            cases hT : Lines.tok T.data.toList with
            | false =>
              rw [hT] at HcT
              have hR : rightP ⟨8, P, T, F, A, lO, lN⟩ = false := by unfold rightP ruleP bareP linesP tokenP bytesP moveP noLines; simp [*]
              rw [hR]
              subst hO hN hA
              clear hP hF hT
              clear hR hno hnn
              go_enter Tryz.func44, Tryz.ntmps44
              go_wp2_with ((first | (go_at_call 55; with_reducible (refine (cP _).mono ?_); rintro e w2 ⟨rfl, rfl⟩) | (go_at_call 57; with_reducible (refine cF.mono ?_); rintro e w3 ⟨rfl, f3⟩; have HF3 := toHid8 f3; obtain ⟨b0, b1, b2, b3, b4, b5, b6⟩ := Box.cells (HBx.out w3 f3); clear f3 a0 a1 a2 a3 a4 a5 a6) | (go_at_call 57; with_reducible (refine (HcT.out w3 (Hid.out HF3)).mono ?_); rintro e w4 ⟨rfl, f4⟩; have HF4 := toHid8 (Fr.then7 (Hid.out HF3) f4); obtain ⟨e0, e1, e2, e3, e4, e5, e6⟩ := Box.cells (HBx.out w4 (Hid.out HF4)); clear f4 b0 b1 b2 b3 b4 b5 b6) | fail))
              go_ret
              exact ⟨rfl, HF.out.then7 HF4.out⟩
            | true =>
              rw [hT] at HcT
              by_cases hFT : F = T
              · have hR : rightP ⟨8, P, T, F, A, lO, lN⟩ = false := by unfold rightP ruleP bareP linesP tokenP bytesP moveP noLines; simp [*]
                rw [hR]
                subst hO hN hA hFT
                clear hP hF hT
                clear hR hno hnn
                go_enter Tryz.func44, Tryz.ntmps44
                go_wp2_with ((first | (go_at_call 55; with_reducible (refine (cP _).mono ?_); rintro e w2 ⟨rfl, rfl⟩) | (go_at_call 57; with_reducible (refine cF.mono ?_); rintro e w3 ⟨rfl, f3⟩; have HF3 := toHid8 f3; obtain ⟨b0, b1, b2, b3, b4, b5, b6⟩ := Box.cells (HBx.out w3 f3); clear f3 a0 a1 a2 a3 a4 a5 a6) | (go_at_call 57; with_reducible (refine (HcT.out w3 (Hid.out HF3)).mono ?_); rintro e w4 ⟨rfl, f4⟩; have HF4 := toHid8 (Fr.then7 (Hid.out HF3) f4); obtain ⟨e0, e1, e2, e3, e4, e5, e6⟩ := Box.cells (HBx.out w4 (Hid.out HF4)); clear f4 b0 b1 b2 b3 b4 b5 b6) | fail))
                go_ret
                exact ⟨rfl, HF.out.then7 HF4.out⟩
              · have hR : rightP ⟨8, P, T, F, A, lO, lN⟩ = true := by unfold rightP ruleP bareP linesP tokenP bytesP moveP noLines; simp [*]
                rw [hR]
                subst hO hN hA
                obtain ⟨t5, t6⟩ := Lines.str_no hFT
                clear hP hF hT hFT
                clear hR hno hnn
                go_enter Tryz.func44, Tryz.ntmps44
                go_wp2_with ((first | (go_at_call 55; with_reducible (refine (cP _).mono ?_); rintro e w2 ⟨rfl, rfl⟩) | (go_at_call 57; with_reducible (refine cF.mono ?_); rintro e w3 ⟨rfl, f3⟩; have HF3 := toHid8 f3; obtain ⟨b0, b1, b2, b3, b4, b5, b6⟩ := Box.cells (HBx.out w3 f3); clear f3 a0 a1 a2 a3 a4 a5 a6) | (go_at_call 57; with_reducible (refine (HcT.out w3 (Hid.out HF3)).mono ?_); rintro e w4 ⟨rfl, f4⟩; have HF4 := toHid8 (Fr.then7 (Hid.out HF3) f4); obtain ⟨e0, e1, e2, e3, e4, e5, e6⟩ := Box.cells (HBx.out w4 (Hid.out HF4)); clear f4 b0 b1 b2 b3 b4 b5 b6) | fail))
                go_ret
                exact ⟨rfl, HF.out.then7 HF4.out⟩
        · have hR : rightP ⟨8, P, T, F, A, lO, lN⟩ = false := by unfold rightP ruleP bareP linesP tokenP bytesP moveP noLines; simp [*]
          rw [hR]
          subst hO hN
          clear hP
          clear hR hno hnn
          go_enter Tryz.func44, Tryz.ntmps44
          go_wp2_with ((first | (go_at_call 55; with_reducible (refine (cP _).mono ?_); rintro e w2 ⟨rfl, rfl⟩) | fail))
          go_ret
          exact ⟨rfl, HF.out⟩
      · have hR : rightP ⟨8, P, T, F, A, lO, lN⟩ = false := by unfold rightP ruleP bareP linesP tokenP bytesP moveP noLines; simp [*]
        rw [hR]
        subst hO
        have j2 : ¬ (nn : Int) = 0 := by omega
        clear hP
        clear hR hno hnn
        go_enter Tryz.func44, Tryz.ntmps44
        go_wp2_with ((first | (go_at_call 55; with_reducible (refine (cP _).mono ?_); rintro e w2 ⟨rfl, rfl⟩) | fail))
        go_ret
        exact ⟨rfl, HF.out⟩
    · have hR : rightP ⟨8, P, T, F, A, lO, lN⟩ = false := by unfold rightP ruleP bareP linesP tokenP bytesP moveP noLines; simp [*]
      rw [hR]
      have j1 : ¬ (no : Int) = 0 := by omega
      clear hP
      clear hR hno hnn
      go_enter Tryz.func44, Tryz.ntmps44
      go_wp2_with ((first | (go_at_call 55; with_reducible (refine (cP _).mono ?_); rintro e w2 ⟨rfl, rfl⟩) | fail))
      go_ret
      exact ⟨rfl, HF.out⟩

set_option maxHeartbeats 8000000 in
theorem dright_7 (P T F : ByteArray) (A : Int) (lO lN : List ByteArray) (pa pb : Option Addr) (no nn ca cb : Nat) (w : World) (hno : lO.length = no) (hnn : lN.length = nn) (zP : P.size < 900000) (_zT : T.size < 900000) (_zF : F.size < 900000) (zo : no < 900000) (zn : nn < 900000) (ho : StrsAt w (.slice pa no ca) lO) (hn : StrsAt w (.slice pb nn cb) lN) (bo : ∀ z ∈ lO, z.size < 900000) (bn : ∀ z ∈ lN, z.size < 900000) :
    Calls Tryz.prog 44 #[.agg #[.int .i64 7, .string P, .string T, .string F, .int .i64 A, .slice pa no ca, .slice pb nn cb]] w fun e w' => e = .returned (.bool (rightP ⟨7, P, T, F, A, lO, lN⟩)) ∧ Fr None' w w' := by
  have cP : ∀ w', Calls Tryz.prog 55 #[.string P] w' fun e w'' => e = .returned (.bool (Path.right P.data.toList)) ∧ w' = w'' := fun w' => Path.rright_any P w' (by omega)
  obtain ⟨w1, hw1⟩ : ∃ w1, w.alloc (.cells #[.int .i64 7, .string P, .string T, .string F, .int .i64 A, .slice pa no ca, .slice pb nn cb] 67) = w1 := ⟨_, rfl⟩
  have HF := toHid8 (show Fr None' w w1 from hw1 ▸ Fr.alloc None' w _)
  have HBx := toHid8 (show ∀ w', Fr None' w1 w' → Box w' w.heap.size (.int .i64 7) (.string P) (.string T) (.string F) (.int .i64 A) (.slice pa no ca) (.slice pb nn cb) from fun w' f => (hw1 ▸ Box.new w _ _ _ _ _ _ _ : Box w1 w.heap.size (.int .i64 7) (.string P) (.string T) (.string F) (.int .i64 A) (.slice pa no ca) (.slice pb nn cb)).kept f)
  obtain ⟨a0, a1, a2, a3, a4, a5, a6⟩ := (HBx.out w1 (Fr.refl _ _)).cells
  have i1 : (no : Int) < 900000 := by omega
  have i2 : (nn : Int) < 900000 := by omega
  have cO : Calls Tryz.prog 56 #[.slice pa no ca] w1 fun e w'' => e = .returned (.bool (Lines.right (Lines.bs lO))) ∧ Fr None' w1 w'' := by
    obtain ⟨va, c, e, _, _, hr⟩ := ho.kept HF.out
    injection e with e1 e2 e3
    subst e1 e3
    have h := Lines.rRight_any pa ca lO w1 hr (by omega) (fun z hz => Nat.lt_trans (bo z hz) (by decide))
    rw [hno] at h
    exact h.mono fun _ _ h => ⟨h.1, ofLN h.2⟩
  have HcN := toHid8 (show ∀ w', Fr None' w1 w' → Calls Tryz.prog 56 #[.slice pb nn cb] w' (fun e w'' => e = .returned (.bool (Lines.right (Lines.bs lN))) ∧ Fr None' w' w'') from fun w' f => by
    obtain ⟨va, c, e, _, _, hr⟩ := (hn.kept HF.out).kept f
    injection e with e1 e2 e3
    subst e1 e3
    have h := Lines.rRight_any pb cb lN w' hr (by omega) (fun z hz => Nat.lt_trans (bn z hz) (by decide))
    rw [hnn] at h
    exact h.mono fun _ _ h => ⟨h.1, ofLN h.2⟩)
  clear zP _zT _zF zo zn ho hn bo bn
  cases hP : Path.right P.data.toList with
  | false =>
    rw [hP] at cP
    have hR : rightP ⟨7, P, T, F, A, lO, lN⟩ = false := by unfold rightP ruleP bareP linesP tokenP bytesP moveP noLines; simp [*]
    rw [hR]
    clear hP
    clear hR hno hnn
    go_enter Tryz.func44, Tryz.ntmps44
    go_wp2_with ((first | (go_at_call 55; with_reducible (refine (cP _).mono ?_); rintro e w2 ⟨rfl, rfl⟩) | fail))
    go_ret
    exact ⟨rfl, HF.out⟩
  | true =>
    rw [hP] at cP
    by_cases hO : no = 0
    · by_cases hN : nn = 0
      · by_cases hA : A = 0
        · by_cases hF : F.data.toList = []
          · by_cases hT : T.data.toList = []
            · cases hOr : Lines.right (Lines.bs lO) with
              | false =>
                rw [hOr] at cO
                have hR : rightP ⟨7, P, T, F, A, lO, lN⟩ = false := by unfold rightP ruleP bareP linesP tokenP bytesP moveP noLines; simp [*]
                rw [hR]
                subst hO hN hA
                obtain ⟨t3, t4⟩ := Lines.asks_yes hF
                obtain ⟨t1, t2⟩ := Lines.asks_yes hT
                clear hP hF hT hOr
                clear hR hno hnn
                go_enter Tryz.func44, Tryz.ntmps44
                go_wp2_with ((first | (go_at_call 55; with_reducible (refine (cP _).mono ?_); rintro e w2 ⟨rfl, rfl⟩) | (go_at_call 56; with_reducible (refine cO.mono ?_); rintro e w3 ⟨rfl, f3⟩; have HF3 := toHid8 f3; obtain ⟨b0, b1, b2, b3, b4, b5, b6⟩ := Box.cells (HBx.out w3 f3); clear f3 a0 a1 a2 a3 a4 a5 a6) | fail))
                go_ret
                exact ⟨rfl, HF.out.then7 HF3.out⟩
              | true =>
                rw [hOr] at cO
                cases hNr : Lines.right (Lines.bs lN) with
                | false =>
                  rw [hNr] at HcN
                  have hR : rightP ⟨7, P, T, F, A, lO, lN⟩ = false := by unfold rightP ruleP bareP linesP tokenP bytesP moveP noLines; simp [*]
                  rw [hR]
                  subst hO hN hA
                  obtain ⟨t3, t4⟩ := Lines.asks_yes hF
                  obtain ⟨t1, t2⟩ := Lines.asks_yes hT
                  clear hP hF hT hOr hNr
                  clear hR hno hnn
                  go_enter Tryz.func44, Tryz.ntmps44
                  go_wp2_with ((first | (go_at_call 55; with_reducible (refine (cP _).mono ?_); rintro e w2 ⟨rfl, rfl⟩) | (go_at_call 56; with_reducible (refine cO.mono ?_); rintro e w3 ⟨rfl, f3⟩; have HF3 := toHid8 f3; obtain ⟨b0, b1, b2, b3, b4, b5, b6⟩ := Box.cells (HBx.out w3 f3); clear f3 a0 a1 a2 a3 a4 a5 a6) | (go_at_call 56; with_reducible (refine (HcN.out w3 (Hid.out HF3)).mono ?_); rintro e w4 ⟨rfl, f4⟩; have HF4 := toHid8 (Fr.then7 (Hid.out HF3) f4); obtain ⟨e0, e1, e2, e3, e4, e5, e6⟩ := Box.cells (HBx.out w4 (Hid.out HF4)); clear f4 b0 b1 b2 b3 b4 b5 b6) | fail))
                  go_ret
                  exact ⟨rfl, HF.out.then7 HF4.out⟩
                | true =>
                  rw [hNr] at HcN
                  have hR : rightP ⟨7, P, T, F, A, lO, lN⟩ = false := by unfold rightP ruleP bareP linesP tokenP bytesP moveP noLines; simp [*]
                  rw [hR]
                  subst hO hN hA
                  obtain ⟨t3, t4⟩ := Lines.asks_yes hF
                  obtain ⟨t1, t2⟩ := Lines.asks_yes hT
                  clear hP hF hT hOr hNr
                  clear hR hno hnn
                  go_enter Tryz.func44, Tryz.ntmps44
                  go_wp2_with ((first | (go_at_call 55; with_reducible (refine (cP _).mono ?_); rintro e w2 ⟨rfl, rfl⟩) | (go_at_call 56; with_reducible (refine cO.mono ?_); rintro e w3 ⟨rfl, f3⟩; have HF3 := toHid8 f3; obtain ⟨b0, b1, b2, b3, b4, b5, b6⟩ := Box.cells (HBx.out w3 f3); clear f3 a0 a1 a2 a3 a4 a5 a6) | (go_at_call 56; with_reducible (refine (HcN.out w3 (Hid.out HF3)).mono ?_); rintro e w4 ⟨rfl, f4⟩; have HF4 := toHid8 (Fr.then7 (Hid.out HF3) f4); obtain ⟨e0, e1, e2, e3, e4, e5, e6⟩ := Box.cells (HBx.out w4 (Hid.out HF4)); clear f4 b0 b1 b2 b3 b4 b5 b6) | fail))
                  go_ret
                  exact ⟨rfl, HF.out.then7 HF4.out⟩
            · have hR : rightP ⟨7, P, T, F, A, lO, lN⟩ = false := by unfold rightP ruleP bareP linesP tokenP bytesP moveP noLines; simp [*]
              rw [hR]
              subst hO hN hA
              obtain ⟨t3, t4⟩ := Lines.asks_yes hF
              obtain ⟨t1, t2⟩ := Lines.asks_no hT
              clear hP hF hT
              clear hR hno hnn
              go_enter Tryz.func44, Tryz.ntmps44
              go_wp2_with ((first | (go_at_call 55; with_reducible (refine (cP _).mono ?_); rintro e w2 ⟨rfl, rfl⟩) | fail))
              go_ret
              exact ⟨rfl, HF.out⟩
          · have hR : rightP ⟨7, P, T, F, A, lO, lN⟩ = false := by unfold rightP ruleP bareP linesP tokenP bytesP moveP noLines; simp [*]
            rw [hR]
            subst hO hN hA
            obtain ⟨t3, t4⟩ := Lines.asks_no hF
            clear hP hF
            clear hR hno hnn
            go_enter Tryz.func44, Tryz.ntmps44
            go_wp2_with ((first | (go_at_call 55; with_reducible (refine (cP _).mono ?_); rintro e w2 ⟨rfl, rfl⟩) | fail))
            go_ret
            exact ⟨rfl, HF.out⟩
        · by_cases hF : F.data.toList = []
          · by_cases hT : T.data.toList = []
            · by_cases h0 : 0 ≤ A
              · by_cases hm : A ≤ 1073741824
                · cases hOr : Lines.right (Lines.bs lO) with
                  | false =>
                    rw [hOr] at cO
                    have hR : rightP ⟨7, P, T, F, A, lO, lN⟩ = false := by unfold rightP ruleP bareP linesP tokenP bytesP moveP noLines; simp [*]
                    rw [hR]
                    subst hO hN
                    obtain ⟨t3, t4⟩ := Lines.asks_yes hF
                    obtain ⟨t1, t2⟩ := Lines.asks_yes hT
                    clear hP hF hT hOr
                    clear hR hno hnn
                    go_enter Tryz.func44, Tryz.ntmps44
                    go_wp2_with ((first | (go_at_call 55; with_reducible (refine (cP _).mono ?_); rintro e w2 ⟨rfl, rfl⟩) | (go_at_call 56; with_reducible (refine cO.mono ?_); rintro e w3 ⟨rfl, f3⟩; have HF3 := toHid8 f3; obtain ⟨b0, b1, b2, b3, b4, b5, b6⟩ := Box.cells (HBx.out w3 f3); clear f3 a0 a1 a2 a3 a4 a5 a6) | fail))
                    go_ret
                    exact ⟨rfl, HF.out.then7 HF3.out⟩
                  | true =>
                    rw [hOr] at cO
                    cases hNr : Lines.right (Lines.bs lN) with
                    | false =>
                      rw [hNr] at HcN
                      have hR : rightP ⟨7, P, T, F, A, lO, lN⟩ = false := by unfold rightP ruleP bareP linesP tokenP bytesP moveP noLines; simp [*]
                      rw [hR]
                      subst hO hN
                      obtain ⟨t3, t4⟩ := Lines.asks_yes hF
                      obtain ⟨t1, t2⟩ := Lines.asks_yes hT
                      clear hP hF hT hOr hNr
                      clear hR hno hnn
                      go_enter Tryz.func44, Tryz.ntmps44
                      go_wp2_with ((first | (go_at_call 55; with_reducible (refine (cP _).mono ?_); rintro e w2 ⟨rfl, rfl⟩) | (go_at_call 56; with_reducible (refine cO.mono ?_); rintro e w3 ⟨rfl, f3⟩; have HF3 := toHid8 f3; obtain ⟨b0, b1, b2, b3, b4, b5, b6⟩ := Box.cells (HBx.out w3 f3); clear f3 a0 a1 a2 a3 a4 a5 a6) | (go_at_call 56; with_reducible (refine (HcN.out w3 (Hid.out HF3)).mono ?_); rintro e w4 ⟨rfl, f4⟩; have HF4 := toHid8 (Fr.then7 (Hid.out HF3) f4); obtain ⟨e0, e1, e2, e3, e4, e5, e6⟩ := Box.cells (HBx.out w4 (Hid.out HF4)); clear f4 b0 b1 b2 b3 b4 b5 b6) | fail))
                      go_ret
                      exact ⟨rfl, HF.out.then7 HF4.out⟩
                    | true =>
                      rw [hNr] at HcN
                      have hR : rightP ⟨7, P, T, F, A, lO, lN⟩ = false := by unfold rightP ruleP bareP linesP tokenP bytesP moveP noLines; simp [*]
                      rw [hR]
                      subst hO hN
                      obtain ⟨t3, t4⟩ := Lines.asks_yes hF
                      obtain ⟨t1, t2⟩ := Lines.asks_yes hT
                      clear hP hF hT hOr hNr
                      clear hR hno hnn
                      go_enter Tryz.func44, Tryz.ntmps44
                      go_wp2_with ((first | (go_at_call 55; with_reducible (refine (cP _).mono ?_); rintro e w2 ⟨rfl, rfl⟩) | (go_at_call 56; with_reducible (refine cO.mono ?_); rintro e w3 ⟨rfl, f3⟩; have HF3 := toHid8 f3; obtain ⟨b0, b1, b2, b3, b4, b5, b6⟩ := Box.cells (HBx.out w3 f3); clear f3 a0 a1 a2 a3 a4 a5 a6) | (go_at_call 56; with_reducible (refine (HcN.out w3 (Hid.out HF3)).mono ?_); rintro e w4 ⟨rfl, f4⟩; have HF4 := toHid8 (Fr.then7 (Hid.out HF3) f4); obtain ⟨e0, e1, e2, e3, e4, e5, e6⟩ := Box.cells (HBx.out w4 (Hid.out HF4)); clear f4 b0 b1 b2 b3 b4 b5 b6) | fail))
                      go_ret
                      exact ⟨rfl, HF.out.then7 HF4.out⟩
                · have hR : rightP ⟨7, P, T, F, A, lO, lN⟩ = false := by unfold rightP ruleP bareP linesP tokenP bytesP moveP noLines; simp [*]
                  rw [hR]
                  subst hO hN
                  obtain ⟨t3, t4⟩ := Lines.asks_yes hF
                  obtain ⟨t1, t2⟩ := Lines.asks_yes hT
                  clear hP hF hT
                  clear hR hno hnn
                  go_enter Tryz.func44, Tryz.ntmps44
                  go_wp2_with ((first | (go_at_call 55; with_reducible (refine (cP _).mono ?_); rintro e w2 ⟨rfl, rfl⟩) | fail))
                  go_ret
                  exact ⟨rfl, HF.out⟩
              · have hR : rightP ⟨7, P, T, F, A, lO, lN⟩ = false := by unfold rightP ruleP bareP linesP tokenP bytesP moveP noLines; simp [*]
                rw [hR]
                subst hO hN
                obtain ⟨t3, t4⟩ := Lines.asks_yes hF
                obtain ⟨t1, t2⟩ := Lines.asks_yes hT
                clear hP hF hT
                clear hR hno hnn
                go_enter Tryz.func44, Tryz.ntmps44
                go_wp2_with ((first | (go_at_call 55; with_reducible (refine (cP _).mono ?_); rintro e w2 ⟨rfl, rfl⟩) | fail))
                go_ret
                exact ⟨rfl, HF.out⟩
            · have hR : rightP ⟨7, P, T, F, A, lO, lN⟩ = false := by unfold rightP ruleP bareP linesP tokenP bytesP moveP noLines; simp [*]
              rw [hR]
              subst hO hN
              obtain ⟨t3, t4⟩ := Lines.asks_yes hF
              obtain ⟨t1, t2⟩ := Lines.asks_no hT
              clear hP hF hT
              clear hR hno hnn
              go_enter Tryz.func44, Tryz.ntmps44
              go_wp2_with ((first | (go_at_call 55; with_reducible (refine (cP _).mono ?_); rintro e w2 ⟨rfl, rfl⟩) | fail))
              go_ret
              exact ⟨rfl, HF.out⟩
          · have hR : rightP ⟨7, P, T, F, A, lO, lN⟩ = false := by unfold rightP ruleP bareP linesP tokenP bytesP moveP noLines; simp [*]
            rw [hR]
            subst hO hN
            obtain ⟨t3, t4⟩ := Lines.asks_no hF
            clear hP hF
            clear hR hno hnn
            go_enter Tryz.func44, Tryz.ntmps44
            go_wp2_with ((first | (go_at_call 55; with_reducible (refine (cP _).mono ?_); rintro e w2 ⟨rfl, rfl⟩) | fail))
            go_ret
            exact ⟨rfl, HF.out⟩
      · by_cases hF : F.data.toList = []
        · by_cases hT : T.data.toList = []
          · by_cases h0 : 0 ≤ A
            · by_cases hm : A ≤ 1073741824
              · cases hOr : Lines.right (Lines.bs lO) with
                | false =>
                  rw [hOr] at cO
                  have hR : rightP ⟨7, P, T, F, A, lO, lN⟩ = false := by unfold rightP ruleP bareP linesP tokenP bytesP moveP noLines; simp [*]
                  rw [hR]
                  have j2 : ¬ (nn : Int) = 0 := by omega
                  have j7 : (0 : Int) < (nn : Int) := by omega
                  subst hO
                  obtain ⟨t3, t4⟩ := Lines.asks_yes hF
                  obtain ⟨t1, t2⟩ := Lines.asks_yes hT
                  clear hP hF hT hOr
                  clear hR hno hnn
                  go_enter Tryz.func44, Tryz.ntmps44
                  go_wp2_with ((first | (go_at_call 55; with_reducible (refine (cP _).mono ?_); rintro e w2 ⟨rfl, rfl⟩) | (go_at_call 56; with_reducible (refine cO.mono ?_); rintro e w3 ⟨rfl, f3⟩; have HF3 := toHid8 f3; obtain ⟨b0, b1, b2, b3, b4, b5, b6⟩ := Box.cells (HBx.out w3 f3); clear f3 a0 a1 a2 a3 a4 a5 a6) | fail))
                  go_ret
                  exact ⟨rfl, HF.out.then7 HF3.out⟩
                | true =>
                  rw [hOr] at cO
                  cases hNr : Lines.right (Lines.bs lN) with
                  | false =>
                    rw [hNr] at HcN
                    have hR : rightP ⟨7, P, T, F, A, lO, lN⟩ = false := by unfold rightP ruleP bareP linesP tokenP bytesP moveP noLines; simp [*]
                    rw [hR]
                    have j2 : ¬ (nn : Int) = 0 := by omega
                    have j7 : (0 : Int) < (nn : Int) := by omega
                    subst hO
                    obtain ⟨t3, t4⟩ := Lines.asks_yes hF
                    obtain ⟨t1, t2⟩ := Lines.asks_yes hT
                    clear hP hF hT hOr hNr
                    clear hR hno hnn
                    go_enter Tryz.func44, Tryz.ntmps44
                    go_wp2_with ((first | (go_at_call 55; with_reducible (refine (cP _).mono ?_); rintro e w2 ⟨rfl, rfl⟩) | (go_at_call 56; with_reducible (refine cO.mono ?_); rintro e w3 ⟨rfl, f3⟩; have HF3 := toHid8 f3; obtain ⟨b0, b1, b2, b3, b4, b5, b6⟩ := Box.cells (HBx.out w3 f3); clear f3 a0 a1 a2 a3 a4 a5 a6) | (go_at_call 56; with_reducible (refine (HcN.out w3 (Hid.out HF3)).mono ?_); rintro e w4 ⟨rfl, f4⟩; have HF4 := toHid8 (Fr.then7 (Hid.out HF3) f4); obtain ⟨e0, e1, e2, e3, e4, e5, e6⟩ := Box.cells (HBx.out w4 (Hid.out HF4)); clear f4 b0 b1 b2 b3 b4 b5 b6) | fail))
                    go_ret
                    exact ⟨rfl, HF.out.then7 HF4.out⟩
                  | true =>
                    rw [hNr] at HcN
                    have hR : rightP ⟨7, P, T, F, A, lO, lN⟩ = true := by unfold rightP ruleP bareP linesP tokenP bytesP moveP noLines; simp [*] <;> omega
                    rw [hR]
                    have j2 : ¬ (nn : Int) = 0 := by omega
                    have j7 : (0 : Int) < (nn : Int) := by omega
                    subst hO
                    obtain ⟨t3, t4⟩ := Lines.asks_yes hF
                    obtain ⟨t1, t2⟩ := Lines.asks_yes hT
                    clear hP hF hT hOr hNr
                    clear hR hno hnn
                    go_enter Tryz.func44, Tryz.ntmps44
                    go_wp2_with ((first | (go_at_call 55; with_reducible (refine (cP _).mono ?_); rintro e w2 ⟨rfl, rfl⟩) | (go_at_call 56; with_reducible (refine cO.mono ?_); rintro e w3 ⟨rfl, f3⟩; have HF3 := toHid8 f3; obtain ⟨b0, b1, b2, b3, b4, b5, b6⟩ := Box.cells (HBx.out w3 f3); clear f3 a0 a1 a2 a3 a4 a5 a6) | (go_at_call 56; with_reducible (refine (HcN.out w3 (Hid.out HF3)).mono ?_); rintro e w4 ⟨rfl, f4⟩; have HF4 := toHid8 (Fr.then7 (Hid.out HF3) f4); obtain ⟨e0, e1, e2, e3, e4, e5, e6⟩ := Box.cells (HBx.out w4 (Hid.out HF4)); clear f4 b0 b1 b2 b3 b4 b5 b6) | fail))
                    go_ret
                    exact ⟨by first | rfl | exact ret_bool7 (by simp; omega), HF.out.then7 HF4.out⟩
              · have hR : rightP ⟨7, P, T, F, A, lO, lN⟩ = false := by unfold rightP ruleP bareP linesP tokenP bytesP moveP noLines; simp [*]
                rw [hR]
                have j2 : ((nn : Int) == 0) = false := by simp; omega
                have j3 : ¬ nn = 0 := hN
                subst hO
                clear i1 i2 hN
                obtain ⟨t3, t4⟩ := Lines.asks_yes hF
                obtain ⟨t1, t2⟩ := Lines.asks_yes hT
                clear hP hF hT
                clear hR hno hnn
                go_enter Tryz.func44, Tryz.ntmps44
                go_wp2_with ((first | (go_at_call 55; with_reducible (refine (cP _).mono ?_); rintro e w2 ⟨rfl, rfl⟩) | fail))
                go_ret
                exact ⟨rfl, HF.out⟩
            · have hR : rightP ⟨7, P, T, F, A, lO, lN⟩ = false := by unfold rightP ruleP bareP linesP tokenP bytesP moveP noLines; simp [*]
              rw [hR]
              have j2 : ((nn : Int) == 0) = false := by simp; omega
              have j3 : ¬ nn = 0 := hN
              subst hO
              clear i1 i2 hN
              obtain ⟨t3, t4⟩ := Lines.asks_yes hF
              obtain ⟨t1, t2⟩ := Lines.asks_yes hT
              clear hP hF hT
              clear hR hno hnn
              go_enter Tryz.func44, Tryz.ntmps44
              go_wp2_with ((first | (go_at_call 55; with_reducible (refine (cP _).mono ?_); rintro e w2 ⟨rfl, rfl⟩) | fail))
              go_ret
              exact ⟨rfl, HF.out⟩
          · have hR : rightP ⟨7, P, T, F, A, lO, lN⟩ = false := by unfold rightP ruleP bareP linesP tokenP bytesP moveP noLines; simp [*]
            rw [hR]
            have j2 : ¬ (nn : Int) = 0 := by omega
            have j7 : (0 : Int) < (nn : Int) := by omega
            subst hO
            obtain ⟨t3, t4⟩ := Lines.asks_yes hF
            obtain ⟨t1, t2⟩ := Lines.asks_no hT
            clear hP hF hT
            clear hR hno hnn
            go_enter Tryz.func44, Tryz.ntmps44
            go_wp2_with ((first | (go_at_call 55; with_reducible (refine (cP _).mono ?_); rintro e w2 ⟨rfl, rfl⟩) | fail))
            go_ret
            exact ⟨rfl, HF.out⟩
        · have hR : rightP ⟨7, P, T, F, A, lO, lN⟩ = false := by unfold rightP ruleP bareP linesP tokenP bytesP moveP noLines; simp [*]
          rw [hR]
          have j2 : ¬ (nn : Int) = 0 := by omega
          have j7 : (0 : Int) < (nn : Int) := by omega
          subst hO
          obtain ⟨t3, t4⟩ := Lines.asks_no hF
          clear hP hF
          clear hR hno hnn
          go_enter Tryz.func44, Tryz.ntmps44
          go_wp2_with ((first | (go_at_call 55; with_reducible (refine (cP _).mono ?_); rintro e w2 ⟨rfl, rfl⟩) | fail))
          go_ret
          exact ⟨rfl, HF.out⟩
    · by_cases hF : F.data.toList = []
      · by_cases hT : T.data.toList = []
        · by_cases h0 : 0 ≤ A
          · by_cases hm : A ≤ 1073741824
            · cases hOr : Lines.right (Lines.bs lO) with
              | false =>
                rw [hOr] at cO
                have hR : rightP ⟨7, P, T, F, A, lO, lN⟩ = false := by unfold rightP ruleP bareP linesP tokenP bytesP moveP noLines; simp [*]
                rw [hR]
                have j1 : ¬ (no : Int) = 0 := by omega
                have j7 : (0 : Int) < (no : Int) + (nn : Int) := by omega
                obtain ⟨t3, t4⟩ := Lines.asks_yes hF
                obtain ⟨t1, t2⟩ := Lines.asks_yes hT
                clear hP hF hT hOr
                clear hR hno hnn
                go_enter Tryz.func44, Tryz.ntmps44
                go_wp2_with ((first | (go_at_call 55; with_reducible (refine (cP _).mono ?_); rintro e w2 ⟨rfl, rfl⟩) | (go_at_call 56; with_reducible (refine cO.mono ?_); rintro e w3 ⟨rfl, f3⟩; have HF3 := toHid8 f3; obtain ⟨b0, b1, b2, b3, b4, b5, b6⟩ := Box.cells (HBx.out w3 f3); clear f3 a0 a1 a2 a3 a4 a5 a6) | fail))
                go_ret
                exact ⟨rfl, HF.out.then7 HF3.out⟩
              | true =>
                rw [hOr] at cO
                cases hNr : Lines.right (Lines.bs lN) with
                | false =>
                  rw [hNr] at HcN
                  have hR : rightP ⟨7, P, T, F, A, lO, lN⟩ = false := by unfold rightP ruleP bareP linesP tokenP bytesP moveP noLines; simp [*]
                  rw [hR]
                  have j1 : ¬ (no : Int) = 0 := by omega
                  have j7 : (0 : Int) < (no : Int) + (nn : Int) := by omega
                  obtain ⟨t3, t4⟩ := Lines.asks_yes hF
                  obtain ⟨t1, t2⟩ := Lines.asks_yes hT
                  clear hP hF hT hOr hNr
                  clear hR hno hnn
                  go_enter Tryz.func44, Tryz.ntmps44
                  go_wp2_with ((first | (go_at_call 55; with_reducible (refine (cP _).mono ?_); rintro e w2 ⟨rfl, rfl⟩) | (go_at_call 56; with_reducible (refine cO.mono ?_); rintro e w3 ⟨rfl, f3⟩; have HF3 := toHid8 f3; obtain ⟨b0, b1, b2, b3, b4, b5, b6⟩ := Box.cells (HBx.out w3 f3); clear f3 a0 a1 a2 a3 a4 a5 a6) | (go_at_call 56; with_reducible (refine (HcN.out w3 (Hid.out HF3)).mono ?_); rintro e w4 ⟨rfl, f4⟩; have HF4 := toHid8 (Fr.then7 (Hid.out HF3) f4); obtain ⟨e0, e1, e2, e3, e4, e5, e6⟩ := Box.cells (HBx.out w4 (Hid.out HF4)); clear f4 b0 b1 b2 b3 b4 b5 b6) | fail))
                  go_ret
                  exact ⟨rfl, HF.out.then7 HF4.out⟩
                | true =>
                  rw [hNr] at HcN
                  have hR : rightP ⟨7, P, T, F, A, lO, lN⟩ = true := by unfold rightP ruleP bareP linesP tokenP bytesP moveP noLines; simp [*] <;> omega
                  rw [hR]
                  have j1 : ¬ (no : Int) = 0 := by omega
                  have j7 : (0 : Int) < (no : Int) + (nn : Int) := by omega
                  obtain ⟨t3, t4⟩ := Lines.asks_yes hF
                  obtain ⟨t1, t2⟩ := Lines.asks_yes hT
                  clear hP hF hT hOr hNr
                  clear hR hno hnn
                  go_enter Tryz.func44, Tryz.ntmps44
                  go_wp2_with ((first | (go_at_call 55; with_reducible (refine (cP _).mono ?_); rintro e w2 ⟨rfl, rfl⟩) | (go_at_call 56; with_reducible (refine cO.mono ?_); rintro e w3 ⟨rfl, f3⟩; have HF3 := toHid8 f3; obtain ⟨b0, b1, b2, b3, b4, b5, b6⟩ := Box.cells (HBx.out w3 f3); clear f3 a0 a1 a2 a3 a4 a5 a6) | (go_at_call 56; with_reducible (refine (HcN.out w3 (Hid.out HF3)).mono ?_); rintro e w4 ⟨rfl, f4⟩; have HF4 := toHid8 (Fr.then7 (Hid.out HF3) f4); obtain ⟨e0, e1, e2, e3, e4, e5, e6⟩ := Box.cells (HBx.out w4 (Hid.out HF4)); clear f4 b0 b1 b2 b3 b4 b5 b6) | fail))
                  go_ret
                  exact ⟨by first | rfl | exact ret_bool7 (by simp; omega), HF.out.then7 HF4.out⟩
            · have hR : rightP ⟨7, P, T, F, A, lO, lN⟩ = false := by unfold rightP ruleP bareP linesP tokenP bytesP moveP noLines; simp [*]
              rw [hR]
              have j1 : ((no : Int) == 0) = false := by simp; omega
              have j3 : ¬ no = 0 := hO
              clear i1 i2 hO
              obtain ⟨t3, t4⟩ := Lines.asks_yes hF
              obtain ⟨t1, t2⟩ := Lines.asks_yes hT
              clear hP hF hT
              clear hR hno hnn
              go_enter Tryz.func44, Tryz.ntmps44
              go_wp2_with ((first | (go_at_call 55; with_reducible (refine (cP _).mono ?_); rintro e w2 ⟨rfl, rfl⟩) | fail))
              go_ret
              exact ⟨rfl, HF.out⟩
          · have hR : rightP ⟨7, P, T, F, A, lO, lN⟩ = false := by unfold rightP ruleP bareP linesP tokenP bytesP moveP noLines; simp [*]
            rw [hR]
            have j1 : ((no : Int) == 0) = false := by simp; omega
            have j3 : ¬ no = 0 := hO
            clear i1 i2 hO
            obtain ⟨t3, t4⟩ := Lines.asks_yes hF
            obtain ⟨t1, t2⟩ := Lines.asks_yes hT
            clear hP hF hT
            clear hR hno hnn
            go_enter Tryz.func44, Tryz.ntmps44
            go_wp2_with ((first | (go_at_call 55; with_reducible (refine (cP _).mono ?_); rintro e w2 ⟨rfl, rfl⟩) | fail))
            go_ret
            exact ⟨rfl, HF.out⟩
        · have hR : rightP ⟨7, P, T, F, A, lO, lN⟩ = false := by unfold rightP ruleP bareP linesP tokenP bytesP moveP noLines; simp [*]
          rw [hR]
          have j1 : ¬ (no : Int) = 0 := by omega
          have j7 : (0 : Int) < (no : Int) + (nn : Int) := by omega
          obtain ⟨t3, t4⟩ := Lines.asks_yes hF
          obtain ⟨t1, t2⟩ := Lines.asks_no hT
          clear hP hF hT
          clear hR hno hnn
          go_enter Tryz.func44, Tryz.ntmps44
          go_wp2_with ((first | (go_at_call 55; with_reducible (refine (cP _).mono ?_); rintro e w2 ⟨rfl, rfl⟩) | fail))
          go_ret
          exact ⟨rfl, HF.out⟩
      · have hR : rightP ⟨7, P, T, F, A, lO, lN⟩ = false := by unfold rightP ruleP bareP linesP tokenP bytesP moveP noLines; simp [*]
        rw [hR]
        have j1 : ¬ (no : Int) = 0 := by omega
        have j7 : (0 : Int) < (no : Int) + (nn : Int) := by omega
        obtain ⟨t3, t4⟩ := Lines.asks_no hF
        clear hP hF
        clear hR hno hnn
        go_enter Tryz.func44, Tryz.ntmps44
        go_wp2_with ((first | (go_at_call 55; with_reducible (refine (cP _).mono ?_); rintro e w2 ⟨rfl, rfl⟩) | fail))
        go_ret
        exact ⟨rfl, HF.out⟩

/-- Lines of bounded size. -/
def LinesSmall (x : Pr) : Prop := (∀ z ∈ x.old, z.size < 900000) ∧ ∀ z ∈ x.new, z.size < 900000

theorem dright_any (x : Pr) (vo vn : Value) (w : World) (ho : StrsAt w vo x.old) (hn : StrsAt w vn x.new) (hs : SmallP x) (hl : LinesSmall x) :
    Calls Tryz.prog 44 #[.agg #[.int .i64 x.kind, .string x.path, .string x.dst, .string x.src, .int .i64 x.pos, vo, vn]] w fun e w' => e = .returned (.bool (rightP x)) ∧ Fr None' w w' := by
  obtain ⟨K, P, T, F, A, lO, lN⟩ := x
  obtain ⟨zP, zT, zF, zO, zN⟩ := hs
  obtain ⟨b1, b2⟩ := hl
  simp only at ho hn zP zT zF zO zN b1 b2 ⊢
  obtain ⟨pa, ca, r1⟩ : ∃ pa ca, vo = .slice pa lO.length ca := by obtain ⟨a, c, e, _⟩ := ho; exact ⟨a, c, e⟩
  obtain ⟨pb, cb, r2⟩ : ∃ pb cb, vn = .slice pb lN.length cb := by obtain ⟨a, c, e, _⟩ := hn; exact ⟨a, c, e⟩
  subst r1 r2
  by_cases hK : 1 ≤ K ∧ K ≤ 10
  · rcases kinds10 hK with rfl | rfl | rfl | rfl | rfl | rfl | rfl | rfl | rfl | rfl
    · exact dright_1 P T F A lO lN pa pb lO.length lN.length ca cb w rfl rfl zP zT zO zN
    · exact dright_2 P T F A lO lN pa pb lO.length lN.length ca cb w rfl rfl zP zT zO zN
    · exact dright_3 P T F A lO lN pa pb lO.length lN.length ca cb w rfl rfl zP zT zO zN
    · exact dright_4 P T F A lO lN pa pb lO.length lN.length ca cb w rfl rfl zP zT zO zN
    · exact dright_5 P T F A lO lN pa pb lO.length lN.length ca cb w rfl rfl zP zT zO zN
    · exact dright_6 P T F A lO lN pa pb lO.length lN.length ca cb w rfl rfl zP zT zO zN
    · exact dright_7 P T F A lO lN pa pb lO.length lN.length ca cb w rfl rfl zP zT zF zO zN ho hn b1 b2
    · exact dright_8 P T F A lO lN pa pb lO.length lN.length ca cb w rfl rfl zP zT zF zO zN
    · exact dright_9 P T F A lO lN pa pb lO.length lN.length ca cb w rfl rfl zP zT zO zN
    · exact dright_10 P T F A lO lN pa pb lO.length lN.length ca cb w rfl rfl zP zT zO zN
  · exact dright_no K hK P T F A lO lN pa pb lO.length lN.length ca cb w rfl rfl zP zT zF zO zN

end Go.Proofs.YtbiilnhefoplkaaGreatDoor
