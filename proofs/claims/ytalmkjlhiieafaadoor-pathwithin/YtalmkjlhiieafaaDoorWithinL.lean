/-
  What is proved here: PathWithin answers true. No condition.
-/
import Derived.Test.YtalmkjlhiieafaaDoorHead
namespace Go.Proofs.YtalmkjlhiieafaaDoor
open Go.RowKit Go.Shelf
set_option maxRecDepth 100000

theorem parentS_some {p a : Bs} (h : parent p = some a) : parentS p = .tuple #[.string ⟨a.toArray⟩, .bool true] := by rw [parentS, h]; rfl

theorem parentS_none {p : Bs} (h : parent p = none) : parentS p = .tuple #[.string ⟨#[]⟩, .bool false] := by rw [parentS, h]; rfl

set_option maxHeartbeats 4000000 in
theorem withinL_walk (p q s : ByteArray) (w : World) : Calls Tryd.prog 4 #[.string p, .string q, .string s] w fun e w' => e = .returned (.bool true) ∧ Below w.heap.size w w' := by
  go_enter Tryd.func4, Tryd.ntmps4
  go_wp2_with (go_at_call 8; refine (head_any _).mono ?_; rintro e v ⟨rfl, hB⟩)
  refine (great_any p q v).mono ?_
  rintro e v' ⟨rfl, rfl⟩
  cases hg : greatB p q
  case true =>
    go_wp2_with fail
    go_ret
    exact ⟨rfl, hB⟩
  case false =>
  obtain ⟨hp, hq⟩ := great_no hg
  by_cases ht : s.size ≤ 3000
  case neg =>
    have ht' : (3000 : Int) < s.size := by omega
    go_wp2_with fail
    go_ret
    exact ⟨rfl, hB⟩
  case pos =>
  have ht' : ¬ (3000 : Int) < s.size := by omega
  have hp1 : p.size < 100000 := by omega
  have H1 : Hid (within p.data.toList q.data.toList = true → within q.data.toList s.data.toList = true → within p.data.toList s.data.toList = true) := within_trans
  have H2 : Hid (within p.data.toList q.data.toList = true → within q.data.toList p.data.toList = true → p = q) := fun a b => bytes_eq.2 (within_both a b)
  obtain ⟨A, B, hAB, hA, H3⟩ : ∃ (A : ByteArray) (B : Bool), parentS p.data.toList = .tuple #[.string A, .bool B] ∧ A.size < 100000 ∧ Hid (right p.data.toList = true → B = true → right A.data.toList = true ∧ within p.data.toList A.data.toList = true ∧ within A.data.toList p.data.toList = false) := by
    cases h : parent p.data.toList with
    | none => exact ⟨⟨#[]⟩, false, parentS_none h, by decide, fun _ e => by cases e⟩
    | some a =>
      refine ⟨⟨a.toArray⟩, true, parentS_some h, ?_, fun hr _ => right_parent hr h⟩
      obtain ⟨b, e, _⟩ := parent_some h
      have := congrArg List.length e
      rw [len_eq, List.length_append] at this
      rw [← len_eq]
      show a.length < 100000
      omega
  have cP := fun v => parent_any p v hp1
  rw [hAB] at cP
  have cA := fun v => apart_any p q v
  have cA' := fun v => apart_any q p v
  have cA0 := fun v => apart_any p p v
  rw [apart_comm] at cA'
  rw [apart_self] at cA0
  have cW0 := fun v => within_any p p v
  rw [within_refl] at cW0
  generalize apart p.data.toList q.data.toList = F at cA cA'
  clear hp hq ht hAB
  go_wp2_with first
    | (go_at_call 10; refine (cP _).mono ?_; rintro e v' ⟨rfl, rfl⟩)
    | (go_at_call 18; with_reducible refine (cA0 _).mono ?_; rintro e v' ⟨rfl, rfl⟩)
    | (go_at_call 18; with_reducible refine (cA _).mono ?_; rintro e v' ⟨rfl, rfl⟩)
    | (go_at_call 18; with_reducible refine (cA' _).mono ?_; rintro e v' ⟨rfl, rfl⟩)
    | (go_at_call 14; refine (right_any _ _ (by assumption)).mono ?_; rintro e v2 ⟨rfl, hB2⟩; replace hB := hB.trans (hB2.mono hB.size); clear hB2)
    | (go_at_call 16; with_reducible refine (cW0 _).mono ?_; rintro e v' ⟨rfl, rfl⟩)
    | (go_at_call 16; refine (within_any _ _ _).mono ?_; rintro e v' ⟨rfl, rfl⟩)
  all_goals first
    | (go_ret; exact ⟨rfl, hB⟩)
    | (exfalso; have a := H1.out; have b := H2.out; have c := H3.out; simp_all; done)
  done

end Go.Proofs.YtalmkjlhiieafaaDoor
