/-
  What is proved here: PathChain answers true. No condition.
-/
import Derived.Test.YtalmkjlhiieafaaDoorMovedL
namespace Go.Proofs.YtalmkjlhiieafaaDoor
open Go.RowKit Go.Shelf
set_option maxRecDepth 100000

theorem apart_is (p q : ByteArray) (b : Bool) (h : apart p.data.toList q.data.toList = b) (v : World) : Calls Tryd.prog 18 #[.string p, .string q] v fun e w' => e = .returned (.bool b) ∧ v = w' := by
  rw [← h]; exact apart_any p q v

set_option maxHeartbeats 4000000 in
theorem chainL_walk (p a b : ByteArray) (w : World) : Calls Tryd.prog 7 #[.string p, .string a, .string b] w fun e w' => e = .returned (.bool true) ∧ Below w.heap.size w w' := by
  go_enter Tryd.func7, Tryd.ntmps7
  go_wp2_with (go_at_call 8; refine (head_any _).mono ?_; rintro e v ⟨rfl, hB⟩)
  refine (great_any p a v).mono ?_
  rintro e v' ⟨rfl, rfl⟩
  cases hg : greatB p a
  case true =>
    go_wp2_with fail
    go_ret
    exact ⟨rfl, hB⟩
  case false =>
  obtain ⟨hp, ha⟩ := great_no hg
  by_cases hb : b.size ≤ 3000
  case neg =>
    have hb' : (3000 : Int) < b.size := by omega
    go_wp2_with fail
    go_ret
    exact ⟨rfl, hB⟩
  case pos =>
  have hb' : ¬ (3000 : Int) < b.size := by omega
  have ha1 : a.size < 100000 := by omega
  have hb1 : b.size < 100000 := by omega
  obtain ⟨F, hF⟩ : ∃ F, p ++ (⟨#[47]⟩ : ByteArray) = F := ⟨_, rfl⟩
  obtain ⟨X, hX⟩ : ∃ X, F ++ a = X := ⟨_, rfl⟩
  obtain ⟨Y, hY⟩ : ∃ Y, F ++ b = Y := ⟨_, rfl⟩
  have s1 : F.size = p.size + 1 := by rw [← hF, ByteArray.size_append]; rfl
  have lX : X.data.toList = p.data.toList ++ 47 :: a.data.toList := by rw [← hX, ← hF]; exact join_list p a
  have lY : Y.data.toList = p.data.toList ++ 47 :: b.data.toList := by rw [← hY, ← hF]; exact join_list p b
  have a1 : ∀ v, (Op.stringOp .add p ⟨#[47]⟩).run Tryd.prog v = .ok (.string F) v := fun v => by rw [run_string_add_sum _ _ _ (by show p.size + 1 ≤ _; omega), hF]
  have a2 : ∀ v, (Op.stringOp .add F a).run Tryd.prog v = .ok (.string X) v := fun v => by rw [run_string_add_sum _ _ _ (by omega), hX]
  have a3 : ∀ v, (Op.stringOp .add F b).run Tryd.prog v = .ok (.string Y) v := fun v => by rw [run_string_add_sum _ _ _ (by omega), hY]
  have c1 := within_is X p true (by rw [lX]; exact within_join _ _)
  have c2 := within_is Y p true (by rw [lY]; exact within_join _ _)
  have c3 := within_is p X false (by rw [lX]; exact not_within_join _ _)
  have c4 := within_is X Y (within a.data.toList b.data.toList) (by rw [lX, lY]; exact within_same _ _ _)
  have c5 := within_is a b _ rfl
  have c6 := apart_is X Y (apart a.data.toList b.data.toList) (by rw [lX, lY]; exact apart_same _ _ _)
  have c7 := apart_is a b _ rfl
  have c8 := fun v => right_any a v ha1
  have c9 := fun v => right_any b v hb1
  generalize within a.data.toList b.data.toList = E at c4 c5
  generalize apart a.data.toList b.data.toList = G at c6 c7
  generalize right a.data.toList = R at c8
  generalize right b.data.toList = T at c9
  clear lX lY hp ha hb hX hY hF s1
  go_wp2_with first
    | (go_at_call 16; with_reducible refine (c1 _).mono ?_; rintro e v' ⟨rfl, rfl⟩)
    | (go_at_call 16; with_reducible refine (c2 _).mono ?_; rintro e v' ⟨rfl, rfl⟩)
    | (go_at_call 16; with_reducible refine (c3 _).mono ?_; rintro e v' ⟨rfl, rfl⟩)
    | (go_at_call 16; with_reducible refine (c4 _).mono ?_; rintro e v' ⟨rfl, rfl⟩)
    | (go_at_call 16; with_reducible refine (c5 _).mono ?_; rintro e v' ⟨rfl, rfl⟩)
    | (go_at_call 18; with_reducible refine (c6 _).mono ?_; rintro e v' ⟨rfl, rfl⟩)
    | (go_at_call 18; with_reducible refine (c7 _).mono ?_; rintro e v' ⟨rfl, rfl⟩)
    | (go_at_call 14; with_reducible refine (c8 _).mono ?_; rintro e v2 ⟨rfl, hB2⟩; replace hB := hB.trans (hB2.mono hB.size); clear hB2)
    | (go_at_call 14; with_reducible refine (c9 _).mono ?_; rintro e v2 ⟨rfl, hB2⟩; replace hB := hB.trans (hB2.mono hB.size); clear hB2)
  all_goals (go_ret; exact ⟨rfl, hB⟩)

end Go.Proofs.YtalmkjlhiieafaaDoor
