/-
  What is proved here: head of the statements answers true. No condition.
-/
import Derived.Test.YtoophkpmbinmlaaApply
import Derived.Test.YtoophkpmbinmlaaCost
namespace Go.Proofs.Ytoophkpmbinmlaa
open Go.RowKit Go.Shelf
set_option maxRecDepth 100000

theorem row_new (w : World) (e : TypeId) (xs : List ByteArray) : Row (w.alloc (.cells (xs.map Value.string).toArray e)) (some ⟨w.heap.size, 0, none⟩) xs := fun j x hj => by
  refine ⟨_, _, rfl, ?_⟩
  rw [Nat.zero_add]
  have h : (w.alloc (.cells (xs.map Value.string).toArray e)).heap[w.heap.size]? = some (.cells (xs.map Value.string).toArray e (0, 0)) := Array.getElem?_push_size
  unfold World.cell?
  simp only [h]
  simp [hj]

def tX : ByteArray := ⟨#[120]⟩
def tY : ByteArray := ⟨#[121]⟩
def tZ : ByteArray := ⟨#[122]⟩
def tW : ByteArray := ⟨#[119]⟩
def tA : ByteArray := ⟨#[97]⟩
def tB : ByteArray := ⟨#[98]⟩

theorem head_diffs : diffs [tX, tY, tZ] [tX, tW, tZ] = [⟨1, [tY], [tW]⟩] := by
  have n1 : ¬ tY = tW := by decide
  have n2 : ¬ tZ = tW := by decide
  have n3 : ¬ tY = tZ := by decide
  unfold diffs
  rw [hunks_same, hunks_goes _ _ _ _ _ n1 (by rw [lcs_ne n3, lcs_nil', lcs_same, lcs_ne n2, lcs_same]; simp [lcs_nil, lcs_nil']), hunks_comes _ _ _ _ _ n2 (by rw [lcs_same, lcs_nil]; simp [lcs_nil]), hunks_same, hunks_nn]
  simp [flush]

set_option maxHeartbeats 1000000 in
theorem head_any (w : World) : Calls Try.prog 9 #[] w fun e w' => e = .returned (.bool true) ∧ Fr None' w w' := by
  obtain ⟨w1, hw1⟩ : ∃ w1, (w.alloc (.cells #[.string tX, .string tY, .string tZ] 9)).alloc (.cells #[.string tX, .string tW, .string tZ] 9) = w1 := ⟨_, rfl⟩
  have F1 : Fr None' w w1 := hw1 ▸ (Fr.alloc None' w _).then (Fr.alloc None' _ _)
  have hs1 : w1.heap.size = w.heap.size + 2 := by rw [← hw1]; simp
  have r1 : Row w1 (some ⟨w.heap.size, 0, none⟩) [tX, tY, tZ] := hw1 ▸ (row_new w 9 [tX, tY, tZ]).fr (Fr.alloc None' _ _)
  have r2 : Row w1 (some ⟨w.heap.size + 1, 0, none⟩) [tX, tW, tZ] := by
    have := row_new (w.alloc (.cells #[.string tX, .string tY, .string tZ] 9)) 9 [tX, tW, tZ]
    simp only [World.size_alloc] at this
    exact hw1 ▸ this
  have c1 := diff_any (some ⟨w.heap.size, 0, none⟩) (some ⟨w.heap.size + 1, 0, none⟩) 3 3 3 3 [tX, tY, tZ] [tX, tW, tZ] w1 rfl rfl r1 r2 (by omega) (by omega) (by omega) (by omega) (fun e => by cases e) (fun e => by cases e) (by decide) (by decide) (fun x e => by cases e; show w.heap.size < _; omega) (fun x e => by cases e; show w.heap.size + 1 < _; omega)
  rw [head_diffs] at c1
  clear r1 r2
  unfold tX tY tZ tW at hw1
  go_enter Try.func9, Try.ntmps9
  go_wp2_with fail
  refine c1.mono ?_
  rintro e w2 ⟨v, rfl, hH, F2⟩
  have HH : Hid (HunksAt w2 v [⟨1, [tY], [tW]⟩]) := hH
  obtain ⟨va, c, rfl, _, hk⟩ := hH
  obtain ⟨g, o, vo, vn, rfl, d1, d2, d3, s1, s2⟩ := hk 0 _ rfl
  obtain ⟨po, co, rfl, _⟩ := s1
  obtain ⟨pn, cn, rfl, _, _, rn⟩ := s2
  obtain ⟨gn, on, rfl, d4⟩ := rn.get (k := 0) (by simp)
  have HF2 : Hid (Fr None' w w2) := F1.then F2
  have d4' : w2.cell? ⟨gn, on + 0, none⟩ = some (.string ⟨#[119]⟩) := d4
  clear hk rn hw1 hs1 F1 F2 c1 d4
  obtain ⟨w3, hw3⟩ : ∃ w3, ((w2.alloc (.cells #[.string tX, .string tY] 9)).alloc (.cells #[.string tY] 9)).alloc (.cells #[.string tA, .string tB] 9) = w3 := ⟨_, rfl⟩
  have F3 : Fr None' w2 w3 := hw3 ▸ ((Fr.alloc None' w2 _).then (Fr.alloc None' _ _)).then (Fr.alloc None' _ _)
  have q1 : Row w3 (some ⟨w2.heap.size, 0, none⟩) [tX, tY] := hw3 ▸ (row_new w2 9 [tX, tY]).fr ((Fr.alloc None' _ _).then (Fr.alloc None' _ _))
  have q2 : Row w3 (some ⟨w2.heap.size + 1, 0, none⟩) [tY] := by
    have := row_new (w2.alloc (.cells #[.string tX, .string tY] 9)) 9 [tY]
    simp only [World.size_alloc] at this
    exact hw3 ▸ this.fr (Fr.alloc None' _ _)
  have q3 : Row w3 (some ⟨w2.heap.size + 1 + 1, 0, none⟩) [tA, tB] := by
    have := row_new ((w2.alloc (.cells #[.string tX, .string tY] 9)).alloc (.cells #[.string tY] 9)) 9 [tA, tB]
    simp only [World.size_alloc] at this
    exact hw3 ▸ this
  have c2 := apply_any (some ⟨w2.heap.size, 0, none⟩) (some ⟨w2.heap.size + 1, 0, none⟩) (some ⟨w2.heap.size + 1 + 1, 0, none⟩) 2 2 1 1 2 2 [tX, tY] [tY] [tA, tB] 1 w3 rfl rfl rfl q1 q2 q3 (by omega) (fun e => by cases e) (by omega) (fun e => by cases e) (by omega) (fun e => by cases e) (by omega) (by omega) (by omega) (by omega)
  rw [show applyI [tX, tY] 1 [tY] [tA, tB] = some [tX, tA, tB] by decide] at c2
  unfold tX tY tA tB at hw3
  clear q1 q2 q3
  go_wp2_with fail
  refine c2.mono ?_
  rintro e w4 ⟨F4, v4, rfl, o4⟩
  obtain ⟨g4, k4, rfl, _, _, r4⟩ := own_some (m := 2) o4 rfl
  obtain ⟨g4', o4', e4, d5⟩ := r4.get (k := 2) (by simp)
  cases e4
  have d5' : w4.cell? ⟨g4, 0 + 2, none⟩ = some (.string ⟨#[98]⟩) := d5
  have F24 := F3.then F4
  have HF4 : Hid (Fr None' w2 w4) := F24
  have m1 := F24.cell d1 (fun e => e)
  have m2 := F24.cell d2 (fun e => e)
  have m3 := F24.cell d3 (fun e => e)
  have m4 := F24.cell d4' (fun e => e)
  clear d1 d2 d3 d4' d5 r4 o4 F3 F4 F24 c2 hw3
  obtain ⟨w5, hw5⟩ : ∃ w5, (w4.alloc (.cells #[.string tX] 9)).alloc (.cells #[.string tY] 9) = w5 := ⟨_, rfl⟩
  have F5 : Fr None' w4 w5 := hw5 ▸ (Fr.alloc None' w4 _).then (Fr.alloc None' _ _)
  have q1 : Row w5 (some ⟨w4.heap.size, 0, none⟩) [tX] := hw5 ▸ (row_new w4 9 [tX]).fr (Fr.alloc None' _ _)
  have q2 : Row w5 (some ⟨w4.heap.size + 1, 0, none⟩) [tY] := by
    have := row_new (w4.alloc (.cells #[.string tX] 9)) 9 [tY]
    simp only [World.size_alloc] at this
    exact hw5 ▸ this
  have c3 := apply_any (some ⟨w4.heap.size, 0, none⟩) (some ⟨w4.heap.size + 1, 0, none⟩) none 1 1 1 1 0 0 [tX] [tY] [] 1 w5 rfl rfl rfl q1 q2 (Row.nil _ _) (by omega) (fun e => by cases e) (by omega) (fun e => by cases e) (by omega) (fun _ => rfl) (by omega) (by omega) (by omega) (by omega)
  rw [show applyI [tX] 1 [tY] [] = none by decide] at c3
  unfold tX tY at hw5
  clear q1 q2
  go_wp2_with fail
  refine c3.mono ?_
  rintro e w6 ⟨F6, rfl⟩
  have F46 := F5.then F6
  have HF6 : Hid (Fr None' w2 w6) := HF4.out.then F46
  have a1 : w6.cell? ⟨g, o, none⟩ = some (.int .i64 1) := by simpa using F46.cell m1 (fun e => e)
  have a2 : w6.cell? ⟨g, o + 1, none⟩ = some (.slice po 1 co) := by simpa using F46.cell m2 (fun e => e)
  have a3 : w6.cell? ⟨g, o + 2, none⟩ = some (.slice (some ⟨gn, on, none⟩) 1 cn) := by simpa using F46.cell m3 (fun e => e)
  have a4 : w6.cell? ⟨gn, on, none⟩ = some (.string ⟨#[119]⟩) := by simpa using F46.cell m4 (fun e => e)
  have a5 : w6.cell? ⟨g4, 2, none⟩ = some (.string ⟨#[98]⟩) := by simpa using F46.cell d5' (fun e => e)
  clear m1 m2 m3 m4 d5' F5 F6 F46 HF4 c3 hw5
  have c4 := cost_any _ _ w6 (HH.out.kept HF6.out) (by decide) (by decide)
  clear HH
  go_wp2_with fail
  refine c4.mono ?_
  rintro e w7 ⟨rfl, F7⟩
  have hc2 : ((cost [(⟨1, [tY], [tW]⟩ : Hk ByteArray)] : Nat) : Int) = 2 := by decide
  rw [hc2]
  have HF7 : Hid (Fr None' w w7) := HF2.out.then (HF6.out.then F7)
  clear a1 a2 a3 a4 a5 c4 F7 hc2
  go_wp2_with fail
  go_ret
  exact ⟨rfl, HF7.out⟩

end Go.Proofs.Ytoophkpmbinmlaa
