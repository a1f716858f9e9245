/-
  What is proved here: the contracts that the statement stands on: LIter, LTok. Conditions: as each theorem names them.
-/
import Derived.Test.YtdaogldmcbfmoaaGreatDoorMLRange
import Derived.Test.YtdaogldmcbfmoaaGreatDoorM25LRightP
import Derived.Test.YtdaogldmcbfmoaaGreatDoorMLLay
import Derived.Shelf.Abstract
import Derived.Shelf.RegionOpen
import Derived.WalkKit
import Derived.OwnWalkIn
import Derived.TacticsInMore
import Derived.LoopNIn
import Derived.LoopIn
namespace Go.Proofs.YtdaogldmcbfmoaaGreatDoor.Lines
open Go.RowKit Go.Shelf
set_option maxRecDepth 100000
attribute [local go_sem] Oper.semAt_some

def sizeV (v : Value) : Nat := match v with | .string s => s.size | _ => 0

theorem cut_pieces {r : ByteArray} (h0 : 0 < r.size) {pre : List ByteArray} {p : Bs} (e : bs pre ++ pieces r.data.toList = pieces p) :
    0 < firstLen r.data.toList ∧ firstLen r.data.toList ≤ r.size ∧ bs (pre ++ [r.extract 0 (firstLen r.data.toList)]) ++ pieces (r.extract (firstLen r.data.toList) r.size).data.toList = pieces p := by
  have hne : r.data.toList ≠ [] := fun e => by have := len_eq r; rw [e] at this; simp at this; omega
  have h1 := firstLen_le r.data.toList
  rw [len_eq] at h1
  refine ⟨firstLen_pos hne, h1, ?_⟩
  rw [← e, pieces_cut hne, bs_append, List.append_assoc, show bs [r.extract 0 (firstLen r.data.toList)] = [(r.extract 0 (firstLen r.data.toList)).data.toList] from rfl, seg_list, seg_list]
  rw [List.drop_zero, Nat.sub_zero, List.take_of_length_le (l := r.data.toList.drop (firstLen r.data.toList)) (by rw [List.length_drop, len_eq]; omega)]
  rfl

end Go.Proofs.YtdaogldmcbfmoaaGreatDoor.Lines

namespace Go.Proofs.YtdaogldmcbfmoaaGreatDoor.Lines
open Go.RowKit Go.Shelf
set_option maxRecDepth 100000
attribute [local go_sem] Oper.semAt_some

theorem enc_is (x : ByteArray) : encStr x.data.toList = .string x := by show Value.string _ = _; rw [← str_of (s := x) rfl]

end Go.Proofs.YtdaogldmcbfmoaaGreatDoor.Lines
