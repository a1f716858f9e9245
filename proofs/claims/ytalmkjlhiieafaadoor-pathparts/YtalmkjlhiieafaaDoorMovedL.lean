/-
  What is proved here: PathMoved answers true. No condition.
-/
import Derived.Test.YtalmkjlhiieafaaDoorHead
namespace Go.Proofs.YtalmkjlhiieafaaDoor
open Go.RowKit Go.Shelf
set_option maxRecDepth 100000

theorem join_list (a b : ByteArray) : (a ++ ⟨#[47]⟩ ++ b).data.toList = a.data.toList ++ 47 :: b.data.toList := by
  rw [ByteArray.data_append, ByteArray.data_append, Array.toList_append, Array.toList_append, List.append_assoc]; rfl

theorem join_size (a b : ByteArray) : (a ++ ⟨#[47]⟩ ++ b).size = a.size + 1 + b.size := by
  rw [ByteArray.size_append, ByteArray.size_append]; rfl

/-- Moved, where it is known what it makes. -/
theorem moved_at (p q t a : ByteArray) (hp : p.size < 100000) (ht : t.size < 100000) (hw : within p.data.toList q.data.toList = true) (he : moved p.data.toList q.data.toList t.data.toList = a.data.toList) (v : World) :
    Calls Tryd.prog 12 #[.string p, .string q, .string t] v fun e w' => e = .returned (.tuple #[.string a, .bool true]) ∧ v = w' := by
  have c := moved_any p q t v hp ht
  rw [movedS, hw, he] at c
  rwa [← str_of (s := a) rfl] at c

theorem within_is (p q : ByteArray) (b : Bool) (h : within p.data.toList q.data.toList = b) (v : World) : Calls Tryd.prog 16 #[.string p, .string q] v fun e w' => e = .returned (.bool b) ∧ v = w' := by
  rw [← h]; exact within_any p q v

set_option maxHeartbeats 4000000 in
theorem movedL_walk (f t r m : ByteArray) (w : World) : Calls Tryd.prog 5 #[.string f, .string t, .string r, .string m] w fun e w' => e = .returned (.bool true) ∧ Below w.heap.size w w' := by
  go_enter Tryd.func5, Tryd.ntmps5
  go_wp2_with (go_at_call 8; refine (head_any _).mono ?_; rintro e v ⟨rfl, hB⟩)
  refine (great_any f t v).mono ?_
  rintro e v' ⟨rfl, rfl⟩
  cases hg : greatB f t
  case true =>
    go_wp2_with fail
    go_ret
    exact ⟨rfl, hB⟩
  case false =>
  obtain ⟨hf, ht⟩ := great_no hg
  by_cases hr : r.size ≤ 3000
  case neg =>
    have hr' : (3000 : Int) < r.size := by omega
    go_wp2_with fail
    go_ret
    exact ⟨rfl, hB⟩
  case pos =>
  have hr' : ¬ (3000 : Int) < r.size := by omega
  by_cases hm : m.size ≤ 3000
  case neg =>
    have hm' : (3000 : Int) < m.size := by omega
    go_wp2_with fail
    go_ret
    exact ⟨rfl, hB⟩
  case pos =>
  have hm' : ¬ (3000 : Int) < m.size := by omega
  obtain ⟨X, hX⟩ : ∃ X, f ++ (⟨#[47]⟩ : ByteArray) ++ r = X := ⟨_, rfl⟩
  obtain ⟨Y, hY⟩ : ∃ Y, X ++ (⟨#[47]⟩ : ByteArray) ++ m = Y := ⟨_, rfl⟩
  obtain ⟨A, hA⟩ : ∃ A, t ++ (⟨#[47]⟩ : ByteArray) ++ r = A := ⟨_, rfl⟩
  obtain ⟨C, hC⟩ : ∃ C, A ++ (⟨#[47]⟩ : ByteArray) ++ m = C := ⟨_, rfl⟩
  have lX := join_list f r
  have lY := join_list X m
  have lA := join_list t r
  have lC := join_list A m
  have sX := join_size f r
  have sY := join_size X m
  have sA := join_size t r
  have s1 : (f ++ (⟨#[47]⟩ : ByteArray)).size = f.size + 1 := by rw [ByteArray.size_append]; rfl
  have s2 : (X ++ (⟨#[47]⟩ : ByteArray)).size = X.size + 1 := by rw [ByteArray.size_append]; rfl
  rw [hX] at lX sX
  rw [hY] at lY sY
  rw [hA] at lA sA
  rw [hC] at lC
  have cM1 := moved_at X f t A (by omega) (by omega) (by rw [lX]; exact within_join _ _) (by rw [lX, lA, moved_join])
  have cM2 := moved_at A t f X (by omega) (by omega) (by rw [lA]; exact within_join _ _) (by rw [lX, lA, moved_join])
  have lY' : Y.data.toList = f.data.toList ++ 47 :: (r.data.toList ++ 47 :: m.data.toList) := by rw [lY, lX, List.append_assoc]; rfl
  have lC' : C.data.toList = t.data.toList ++ 47 :: (r.data.toList ++ 47 :: m.data.toList) := by rw [lC, lA, List.append_assoc]; rfl
  have cM3 := moved_at Y f t C (by omega) (by omega) (by rw [lY']; exact within_join _ _) (by rw [lY', lC', moved_join])
  have cM4 := moved_at f f t t (by omega) (by omega) (within_refl _) (moved_self _ _)
  have cW := within_is C A true (by rw [lC]; exact within_join _ _)
  obtain ⟨F, hF⟩ : ∃ F, f ++ (⟨#[47]⟩ : ByteArray) = F := ⟨_, rfl⟩
  obtain ⟨G, hG⟩ : ∃ G, X ++ (⟨#[47]⟩ : ByteArray) = G := ⟨_, rfl⟩
  rw [hF] at hX s1
  rw [hG] at hY s2
  have a1 : ∀ v, (Op.stringOp .add f ⟨#[47]⟩).run Tryd.prog v = .ok (.string F) v := fun v => by rw [run_string_add_sum _ _ _ (by show f.size + 1 ≤ _; omega), hF]
  have a2 : ∀ v, (Op.stringOp .add F r).run Tryd.prog v = .ok (.string X) v := fun v => by rw [run_string_add_sum _ _ _ (by omega), hX]
  have a3 : ∀ v, (Op.stringOp .add X ⟨#[47]⟩).run Tryd.prog v = .ok (.string G) v := fun v => by rw [run_string_add_sum _ _ _ (by show X.size + 1 ≤ _; omega), hG]
  have a4 : ∀ v, (Op.stringOp .add G m).run Tryd.prog v = .ok (.string Y) v := fun v => by rw [run_string_add_sum _ _ _ (by omega), hY]
  clear lX lY lA lC lY' lC' hA hC sA hf ht hr hm hX hY hF hG s1 s2 sX sY
  go_wp2_with first
    | (go_at_call 12; with_reducible refine (cM1 _).mono ?_; rintro e v' ⟨rfl, rfl⟩)
    | (go_at_call 12; with_reducible refine (cM2 _).mono ?_; rintro e v' ⟨rfl, rfl⟩)
    | (go_at_call 12; with_reducible refine (cM3 _).mono ?_; rintro e v' ⟨rfl, rfl⟩)
    | (go_at_call 12; with_reducible refine (cM4 _).mono ?_; rintro e v' ⟨rfl, rfl⟩)
    | (go_at_call 16; with_reducible refine (cW _).mono ?_; rintro e v' ⟨rfl, rfl⟩)
  go_ret
  exact ⟨rfl, hB⟩

end Go.Proofs.YtalmkjlhiieafaaDoor
