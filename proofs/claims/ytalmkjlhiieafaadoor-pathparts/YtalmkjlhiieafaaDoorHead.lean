/-
  What is proved here: what head and great of the statements answer. No condition.
-/
import Derived.Test.YtalmkjlhiieafaaDoorRight
import Derived.Test.YtalmkjlhiieafaaDoorSmall
namespace Go.Proofs.YtalmkjlhiieafaaDoor
open Go.RowKit Go.Shelf
set_option maxRecDepth 100000

theorem right_at (l : List UInt8) (b : Bool) (h : right l = b) (hl : l.length < 100000) (w : World) : Calls Tryd.prog 14 #[.string ⟨l.toArray⟩] w fun e w' => e = .returned (.bool b) ∧ Below w.heap.size w w' := by
  rw [← h]; exact right_any ⟨l.toArray⟩ w (by rw [← len_eq]; exact hl)

theorem within_at (p q : List UInt8) (b : Bool) (h : within p q = b) (w : World) : Calls Tryd.prog 16 #[.string ⟨p.toArray⟩, .string ⟨q.toArray⟩] w fun e w' => e = .returned (.bool b) ∧ w = w' := by
  rw [← h]; exact within_any ⟨p.toArray⟩ ⟨q.toArray⟩ w

set_option maxHeartbeats 2000000 in
theorem head_any (w : World) : Calls Tryd.prog 8 #[] w fun e w' => e = .returned (.bool true) ∧ Below w.heap.size w w' := by
  have cP : Calls Tryd.prog 10 #[.string ⟨#[97, 47, 98, 47, 99]⟩] w fun e w' => e = .returned (.tuple #[.string ⟨#[97, 47, 98]⟩, .bool true]) ∧ w = w' := parent_any ⟨#[97, 47, 98, 47, 99]⟩ w (by decide)
  have cM : Calls Tryd.prog 12 #[.string ⟨#[97, 47, 98, 47, 99]⟩, .string ⟨#[97, 47, 98]⟩, .string ⟨#[120]⟩] w fun e w' => e = .returned (.tuple #[.string ⟨#[120, 47, 99]⟩, .bool true]) ∧ w = w' := moved_any ⟨#[97, 47, 98, 47, 99]⟩ ⟨#[97, 47, 98]⟩ ⟨#[120]⟩ w (by decide) (by decide)
  have r1 := right_at [97, 47, 98, 46, 99] true (by decide) (by decide) w
  have r2 := right_at [97, 47, 47, 98] false (by decide) (by decide)
  have w1 := within_at [97, 47, 98] [97] true (by decide)
  have w2 := within_at [97, 98] [97] false (by decide)
  have a1 : ∀ v, Calls Tryd.prog 18 #[.string ⟨#[97, 98]⟩, .string ⟨#[97]⟩] v fun e w' => e = .returned (.bool true) ∧ v = w' := apart_any ⟨#[97, 98]⟩ ⟨#[97]⟩
  go_enter Tryd.func8, Tryd.ntmps8
  go_wp2_with first
    | (go_at_call 10; refine cP.mono ?_; rintro e w' ⟨rfl, rfl⟩)
    | (go_at_call 12; refine cM.mono ?_; rintro e w' ⟨rfl, rfl⟩)
  refine r1.mono ?_
  rintro e v1 ⟨rfl, b1⟩
  go_wp2_with fail
  refine (r2 _).mono ?_
  rintro e v2 ⟨rfl, b2⟩
  go_wp2_with fail
  refine (w1 _).mono ?_
  rintro e v3 ⟨rfl, rfl⟩
  go_wp2_with fail
  refine (w2 _).mono ?_
  rintro e v4 ⟨rfl, rfl⟩
  go_wp2_with fail
  refine (a1 _).mono ?_
  rintro e v5 ⟨rfl, rfl⟩
  go_wp2_with fail
  go_ret
  exact ⟨rfl, b1.trans (b2.mono b1.size)⟩

def greatB (p q : ByteArray) : Bool := decide ((3000 : Int) < p.size) || decide ((3000 : Int) < q.size)

set_option maxHeartbeats 1000000 in
theorem great_any (p q : ByteArray) (w : World) : Calls Tryd.prog 9 #[.string p, .string q] w fun e w' => e = .returned (.bool (greatB p q)) ∧ w = w' := by
  unfold greatB
  go_enter Tryd.func9, Tryd.ntmps9
  go_wp2_with fail
  all_goals go_ret
  · exact ⟨rfl, rfl⟩
  · exact ⟨rfl, rfl⟩

theorem great_no {p q : ByteArray} (h : greatB p q = false) : p.size ≤ 3000 ∧ q.size ≤ 3000 := by
  simp [greatB] at h
  omega

end Go.Proofs.YtalmkjlhiieafaaDoor
