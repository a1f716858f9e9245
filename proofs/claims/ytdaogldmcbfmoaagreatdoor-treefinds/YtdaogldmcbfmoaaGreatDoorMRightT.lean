/-
  What is proved here: what rightThing and Right answer. Conditions: the things lie in memory, and are of bounded size.
-/
import Derived.Test.YtdaogldmcbfmoaaGreatDoorMPlain7
import Derived.Maps.OwnSet
import Derived.BigQuiet
import Derived.WalkLawsBesides
namespace Go.Proofs.YtdaogldmcbfmoaaGreatDoor
open Go.RowKit Go.Maps
set_option maxRecDepth 100000

theorem empty_of {D : ByteArray} (h : D.size = 0) : D = ⟨#[]⟩ := by
  cases D with | mk a => cases a with | mk l => cases l with
    | nil => rfl
    | cons c l => simp [ByteArray.size] at h

theorem not_empty {D : ByteArray} (h : ¬ D.size = 0) : ¬ D = ⟨#[]⟩ := fun e => h (by rw [e]; rfl)

theorem str_no7 {x y : ByteArray} (h : ¬ x = y) : (¬ x.toList = y.toList) ∧ (x.toList == y.toList) = false := by
  rw [ByteArray.toList_eq, ByteArray.toList_eq]
  have : ¬ x.data.toList = y.data.toList := fun e => h (by cases x with | mk a => cases y with | mk b => cases a; cases b; simp at e; subst e; rfl)
  exact ⟨this, by simpa using this⟩

theorem isEmpty_no {D : ByteArray} (h : ¬ D.size = 0) : D.toList.isEmpty = false := by
  rw [ByteArray.toList_eq]
  cases D with | mk a => cases a with | mk l => cases l with
    | nil => exact absurd rfl h
    | cons c l => rfl

theorem ret_bool' {a b : Bool} (h : a = b) : Ending.returned (.bool a) = .returned (.bool b) := by rw [h]

theorem thing_dir (P D : ByteArray) (l : List ByteArray) : thing ⟨P, 1, l, D⟩ = (decide (l.length = 0) && decide (D.size = 0)) := by
  unfold thing
  rw [if_pos rfl]
  congr 1
  exact decide_eq_decide.2 List.length_eq_zero_iff.symm

theorem thing_text (P D : ByteArray) (l : List ByteArray) : thing ⟨P, 2, l, D⟩ = (Lines.right (Lines.bs l) && decide (D.size = 0)) := by
  unfold thing
  rw [if_neg (show ¬ (2 : Int) = 1 by decide), if_pos rfl]

theorem thing_data (P D : ByteArray) (l : List ByteArray) : thing ⟨P, 3, l, D⟩ = decide (l.length = 0) := by
  unfold thing
  rw [if_neg (show ¬ (3 : Int) = 1 by decide), if_neg (show ¬ (3 : Int) = 2 by decide), if_pos rfl]
  exact decide_eq_decide.2 List.length_eq_zero_iff.symm

theorem thing_other (P D : ByteArray) (K : Int) (l : List ByteArray) (h1 : ¬ K = 1) (h2 : ¬ K = 2) (h3 : ¬ K = 3) : thing ⟨P, K, l, D⟩ = false := by
  unfold thing
  rw [if_neg h1, if_neg h2, if_neg h3]

set_option maxHeartbeats 2000000 in
theorem rightThing_any (P D : ByteArray) (K : Int) (l : List ByteArray) (va : Option Addr) (n c : Nat) (w : World) (hn : l.length = n) (hr : Lines.Row w va l) (hl : (n : Int) < 1000000) :
    Calls Tryz.prog 47 #[.agg #[.string P, .int .i64 K, .slice va n c, .string D]] w fun e w' => e = .returned (.bool (thing ⟨P, K, l, D⟩)) ∧ Fr None' w w' := by
  have HR : Hid (Calls Tryz.prog 82 #[.slice va n c] (w.alloc (.cells #[.string P, .int .i64 K, .slice va n c, .string D] 38)) fun e w' => e = .returned (.bool (Lines.right (Lines.bs l))) ∧ (w.alloc (.cells #[.string P, .int .i64 K, .slice va n c, .string D] 38)) = w') := by
    have h := Lines.right_any va c l (w.alloc (.cells #[.string P, .int .i64 K, .slice va n c, .string D] 38)) (hr.fr (toLN (Fr.alloc None' w _))) (by rw [hn]; exact hl)
    rw [hn] at h
    exact h
  have HN : Hid (l.length = n) := hn
  obtain ⟨B, hB⟩ : ∃ B, thing ⟨P, K, l, D⟩ = B := ⟨_, rfl⟩
  have HB : Hid (thing ⟨P, K, l, D⟩ = B) := hB
  rw [hB]
  clear hB hr hn
  by_cases h1 : K = 1
  · subst h1
    by_cases h0 : n = 0
    · have q : ((n : Int) == 0) = true := by simp; omega
      have q2 : (n : Int) = 0 := by omega
      by_cases hD : D.size = 0
      · have e : B = true := by rw [← HB.out, thing_dir, HN.out]; simp [h0, hD]
        subst e
        obtain rfl := empty_of hD
        go_enter Tryz.func47, Tryz.ntmps47
        go_wp2_with fail
        go_ret
        exact ⟨by first | rfl | exact ret_bool' y3, Fr.alloc None' w _⟩
      · have e : B = false := by rw [← HB.out, thing_dir, HN.out]; simp [h0, hD]
        subst e
        have y3 := isEmpty_no hD
        go_enter Tryz.func47, Tryz.ntmps47
        go_wp2_with fail
        go_ret
        exact ⟨by first | rfl | exact ret_bool' y3, Fr.alloc None' w _⟩
    · have e : B = false := by rw [← HB.out, thing_dir, HN.out]; simp [h0]
      subst e
      have q : ((n : Int) == 0) = false := by simp; omega
      have q2 : ¬ (n : Int) = 0 := by omega
      go_enter Tryz.func47, Tryz.ntmps47
      go_wp2_with fail
      go_ret
      exact ⟨by first | rfl | exact ret_bool' y3, Fr.alloc None' w _⟩
  · have z1 : (K == 1) = false := by simpa using h1
    by_cases h2 : K = 2
    · subst h2
      cases hR : Lines.right (Lines.bs l) with
      | true =>
        rw [hR] at HR
        by_cases hD : D.size = 0
        · have e : B = true := by rw [← HB.out, thing_text, hR]; simp [hD]
          subst e
          obtain rfl := empty_of hD
          go_enter Tryz.func47, Tryz.ntmps47
          go_wp2_with (go_at_call 82; refine HR.out.mono ?_; rintro e w1 ⟨rfl, rfl⟩)
          go_ret
          exact ⟨by first | rfl | exact ret_bool' y3, Fr.alloc None' w _⟩
        · have e : B = false := by rw [← HB.out, thing_text, hR]; simp [hD]
          subst e
          have y3 := isEmpty_no hD
          go_enter Tryz.func47, Tryz.ntmps47
          go_wp2_with (go_at_call 82; refine HR.out.mono ?_; rintro e w1 ⟨rfl, rfl⟩)
          go_ret
          exact ⟨by first | rfl | exact ret_bool' y3, Fr.alloc None' w _⟩
      | false =>
        rw [hR] at HR
        have e : B = false := by rw [← HB.out, thing_text, hR]; rfl
        subst e
        go_enter Tryz.func47, Tryz.ntmps47
        go_wp2_with (go_at_call 82; refine HR.out.mono ?_; rintro e w1 ⟨rfl, rfl⟩)
        go_ret
        exact ⟨by first | rfl | exact ret_bool' y3, Fr.alloc None' w _⟩
    · have z2 : (K == 2) = false := by simpa using h2
      by_cases h3 : K = 3
      · subst h3
        by_cases h0 : n = 0
        · have e : B = true := by rw [← HB.out, thing_data, HN.out]; simp [h0]
          subst e
          have q : ((n : Int) == 0) = true := by simp; omega
          have q2 : (n : Int) = 0 := by omega
          go_enter Tryz.func47, Tryz.ntmps47
          go_wp2_with fail
          go_ret
          exact ⟨by first | rfl | exact ret_bool' y3, Fr.alloc None' w _⟩
        · have e : B = false := by rw [← HB.out, thing_data, HN.out]; simp [h0]
          subst e
          have q : ((n : Int) == 0) = false := by simp; omega
          have q2 : ¬ (n : Int) = 0 := by omega
          go_enter Tryz.func47, Tryz.ntmps47
          go_wp2_with fail
          go_ret
          exact ⟨by first | rfl | exact ret_bool' y3, Fr.alloc None' w _⟩
      · have z3 : (K == 3) = false := by simpa using h3
        have e : B = false := by rw [← HB.out]; exact thing_other P D K l h1 h2 h3
        subst e
        go_enter Tryz.func47, Tryz.ntmps47
        go_wp2_with fail
        go_ret
        exact ⟨by first | rfl | exact ret_bool' y3, Fr.alloc None' w _⟩

end Go.Proofs.YtdaogldmcbfmoaaGreatDoor
