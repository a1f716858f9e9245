/-
  What is proved here: PathTells answers true. No condition.
-/
import Derived.Test.YtalmkjlhiieafaaDoorHead
import Derived.Test.YtalmkjlhiieafaaDoorRRight
namespace Go.Proofs.YtalmkjlhiieafaaDoor
open Go.RowKit Go.Shelf
set_option maxRecDepth 100000

set_option maxHeartbeats 4000000 in
theorem tells_walk (p q t : ByteArray) (w : World) : Calls Tryd.prog 3 #[.string p, .string q, .string t] w fun e w' => e = .returned (.bool true) ∧ Below w.heap.size w w' := by
  go_enter Tryd.func3, Tryd.ntmps3
  go_wp2_with (go_at_call 8; refine (head_any _).mono ?_; rintro e v ⟨rfl, hB⟩)
  refine (great_any p q v).mono ?_
  rintro e v' ⟨rfl, rfl⟩
  cases hg : greatB p q
  case true =>
    go_wp2_with fail
    go_ret
    exact ⟨rfl, hB⟩
  case false =>
  obtain ⟨hp, hq⟩ := great_no hg
  by_cases ht : t.size ≤ 3000
  case neg =>
    have ht' : (3000 : Int) < t.size := by omega
    go_wp2_with fail
    go_ret
    exact ⟨rfl, hB⟩
  case pos =>
  have ht' : ¬ (3000 : Int) < t.size := by omega
  have hp1 : p.size < 100000 := by omega
  have hq1 : q.size < 100000 := by omega
  have ht1 : t.size < 100000 := by omega
  clear hp hq ht
  have cP := fun v => parent_any p v hp1
  have cQ := fun v => rparent_any p v hp1
  have cM := fun v => moved_any p q t v hp1 ht1
  have cN := fun v => rmoved_any p q t v hp1 hq1 ht1
  unfold parentS at cP cQ
  unfold movedS at cM
  generalize (⟨((parent p.data.toList).getD []).toArray⟩ : ByteArray) = A at cP cQ
  generalize (parent p.data.toList).isSome = B at cP cQ
  generalize (⟨(moved p.data.toList q.data.toList t.data.toList).toArray⟩ : ByteArray) = C at cM cN
  have cR := fun v => right_any p v hp1
  have cS := fun v => rright_any p v hp1
  have cW := fun v => within_any p q v
  have cX := fun v => rwithin_any p q v hp1 hq1
  have cA := fun v => apart_any p q v
  have cB := fun v => rapart_any p q v hp1 hq1
  generalize right p.data.toList = R at cR cS
  generalize within p.data.toList q.data.toList = E at cW cX cM cN
  generalize apart p.data.toList q.data.toList = F at cA cB
  go_wp2_with first
    | (go_at_call 10; refine (cP _).mono ?_; rintro e v' ⟨rfl, rfl⟩)
    | (go_at_call 11; refine (cQ _).mono ?_; rintro e v' ⟨rfl, rfl⟩)
    | (go_at_call 12; refine (cM _).mono ?_; rintro e v' ⟨rfl, rfl⟩)
    | (go_at_call 13; refine (cN _).mono ?_; rintro e v' ⟨rfl, rfl⟩)
    | (go_at_call 14; refine (cR _).mono ?_; rintro e v2 ⟨rfl, hB2⟩)
    | (go_at_call 15; refine (cS _).mono ?_; rintro e v' ⟨rfl, rfl⟩)
    | (go_at_call 16; refine (cW _).mono ?_; rintro e v' ⟨rfl, rfl⟩)
    | (go_at_call 17; refine (cX _).mono ?_; rintro e v' ⟨rfl, rfl⟩)
    | (go_at_call 18; refine (cA _).mono ?_; rintro e v' ⟨rfl, rfl⟩)
    | (go_at_call 19; refine (cB _).mono ?_; rintro e v' ⟨rfl, rfl⟩)
  go_ret
  exact ⟨rfl, hB.trans (hB2.mono hB.size)⟩

end Go.Proofs.YtalmkjlhiieafaaDoor
