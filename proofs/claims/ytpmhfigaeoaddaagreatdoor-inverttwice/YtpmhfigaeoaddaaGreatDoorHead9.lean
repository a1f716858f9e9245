/-
  What is proved here: head answers true. No condition.
-/
import Derived.Test.YtpmhfigaeoaddaaGreatDoorAll9
namespace Go.Proofs.YtpmhfigaeoaddaaGreatDoor
open Go.RowKit
set_option maxRecDepth 100000

theorem nilS (w : World) : StrsAt w (.slice none 0 0) [] := ⟨none, 0, rfl, fun _ => rfl, Nat.le_refl _, Lines.Row.nil _ _⟩

theorem inv_plain (x y : Pr) (h : inv x = y) (hx : x.old = [] ∧ x.new = []) (hy : y.old = [] ∧ y.new = []) (w : World) : Calls Tryz.prog 7 #[.agg #[.int .i64 x.kind, .string x.path, .string x.dst, .string x.src, .int .i64 x.pos, .slice none 0 0, .slice none 0 0]] w fun e w' => ∃ po co pn cn, e = .returned (.agg #[.int .i64 y.kind, .string y.path, .string y.dst, .string y.src, .int .i64 y.pos, .slice po 0 co, .slice pn 0 cn]) ∧ Fr None' w w' := by
  refine (invert_any x _ _ w (by rw [hx.1]; exact nilS w) (by rw [hx.2]; exact nilS w) (by rw [hx.1]; exact Nat.zero_le _) (by rw [hx.2]; exact Nat.zero_le _)).mono ?_
  rintro e w' ⟨v, rfl, ⟨vo, vn, rfl, t1, t2, _, _⟩, f⟩
  rw [h] at t1 t2 ⊢
  rw [hy.1] at t1
  rw [hy.2] at t2
  obtain ⟨po, co, rfl⟩ := t1.as
  obtain ⟨pn, cn, rfl⟩ := t2.as
  exact ⟨po, co, pn, cn, rfl, f⟩

def hA : Pr := ⟨3, ⟨#[120]⟩, ⟨#[]⟩, ⟨#[]⟩, 0, [], []⟩
def hB : Pr := ⟨9, ⟨#[121]⟩, ⟨#[122]⟩, ⟨#[]⟩, 0, [], []⟩

theorem inv_hA : inv hA = ⟨4, ⟨#[120]⟩, ⟨#[]⟩, ⟨#[]⟩, 0, [], []⟩ := by simp [inv, hA]
theorem inv_hB : inv hB = ⟨9, ⟨#[121]⟩, ⟨#[]⟩, ⟨#[122]⟩, 0, [], []⟩ := by simp [inv, hB]

set_option maxHeartbeats 4000000 in
theorem head_any (w : World) : Calls Tryz.prog 4 #[] w fun e w' => e = .returned (.bool true) ∧ Fr None' w w' := by
  have q1 := inv_plain ⟨1, ⟨#[97]⟩, ⟨#[]⟩, ⟨#[]⟩, 0, [], []⟩ ⟨2, ⟨#[97]⟩, ⟨#[]⟩, ⟨#[]⟩, 0, [], []⟩ (by simp [inv]) ⟨rfl, rfl⟩ ⟨rfl, rfl⟩ w
  have q2 : ∀ w', Calls Tryz.prog _ _ w' _ := fun w' => inv_plain ⟨10, ⟨#[97]⟩, ⟨#[98]⟩, ⟨#[]⟩, 0, [], []⟩ ⟨10, ⟨#[98]⟩, ⟨#[97]⟩, ⟨#[]⟩, 0, [], []⟩ (by simp [inv]) ⟨rfl, rfl⟩ ⟨rfl, rfl⟩ w'
  have q4 : ∀ w', Calls Tryz.prog _ _ w' _ := fun w' => inv_plain ⟨11, ⟨#[113]⟩, ⟨#[]⟩, ⟨#[]⟩, 0, [], []⟩ zeroP (by simp [inv]) ⟨rfl, rfl⟩ ⟨rfl, rfl⟩ w'
  simp only [zeroP] at q1 q2 q4
  have HQ2 : Hid _ := q2
  have HQ4 : Hid _ := q4
  clear q2 q4
  go_enter Tryz.func4, Tryz.ntmps4
  go_wp2_with fail
  with_reducible refine q1.mono ?_
  rintro e w1 ⟨po, co, pn, cn, rfl, F1⟩
  obtain ⟨w2, hw2⟩ : ∃ w2, w1.alloc (.cells #[.int .i64 2, .string ⟨#[97]⟩, .string ⟨#[]⟩, .string ⟨#[]⟩, .int .i64 0, .slice po 0 co, .slice pn 0 cn] 24) = w2 := ⟨_, rfl⟩
  have F2 : Fr None' w1 w2 := hw2 ▸ Fr.alloc None' w1 _
  have B2 : Box w2 w1.heap.size (.int .i64 2) (.string ⟨#[97]⟩) (.string ⟨#[]⟩) (.string ⟨#[]⟩) (.int .i64 0) (.slice po 0 co) (.slice pn 0 cn) := hw2 ▸ Box.new w1 _ _ _ _ _ _ _
  have HB2 : Hid (Box w2 w1.heap.size (.int .i64 2) (.string ⟨#[97]⟩) (.string ⟨#[]⟩) (.string ⟨#[]⟩) (.int .i64 0) (.slice po 0 co) (.slice pn 0 cn)) := B2
  have HF2 : Hid (Fr None' w w2) := F1.then7 F2
  have q2 := HQ2.out w2
  clear q1 F1 F2 B2 HQ2
  go_wp2_with fail
  with_reducible refine q2.mono ?_
  rintro e w3 ⟨po2, co2, pn2, cn2, rfl, F3⟩
  obtain ⟨w4, hw4⟩ : ∃ w4, w3.alloc (.cells #[.int .i64 10, .string ⟨#[98]⟩, .string ⟨#[97]⟩, .string ⟨#[]⟩, .int .i64 0, .slice po2 0 co2, .slice pn2 0 cn2] 24) = w4 := ⟨_, rfl⟩
  have F4 : Fr None' w3 w4 := hw4 ▸ Fr.alloc None' w3 _
  have B4 : Box w4 w3.heap.size (.int .i64 10) (.string ⟨#[98]⟩) (.string ⟨#[97]⟩) (.string ⟨#[]⟩) (.int .i64 0) (.slice po2 0 co2) (.slice pn2 0 cn2) := hw4 ▸ Box.new w3 _ _ _ _ _ _ _
  obtain ⟨w5, hw5⟩ : ∃ w5, w4.alloc (.cells #[.int .i64 3, .string ⟨#[120]⟩, .string ⟨#[]⟩, .string ⟨#[]⟩, .int .i64 0, .slice none 0 0, .slice none 0 0, .int .i64 9, .string ⟨#[121]⟩, .string ⟨#[122]⟩, .string ⟨#[]⟩, .int .i64 0, .slice none 0 0, .slice none 0 0] 24) = w5 := ⟨_, rfl⟩
  have F5 : Fr None' w4 w5 := hw5 ▸ Fr.alloc None' w4 _
  have P5 : PrsAt w5 (some ⟨w4.heap.size, 0, none⟩) [hA, hB] := fun k x hk => by
    have hk2 : k < 2 := (List.getElem?_eq_some_iff.1 hk).1
    have hk3 : k = 0 ∨ k = 1 := by omega
    have hc : ∀ j u, (#[Value.int .i64 3, .string ⟨#[120]⟩, .string ⟨#[]⟩, .string ⟨#[]⟩, .int .i64 0, .slice none 0 0, .slice none 0 0, .int .i64 9, .string ⟨#[121]⟩, .string ⟨#[122]⟩, .string ⟨#[]⟩, .int .i64 0, .slice none 0 0, .slice none 0 0])[j]? = some u → w5.cell? ⟨w4.heap.size, j, none⟩ = some u := fun j u hj => by
      rw [← hw5, World.cell?, heap_alloc_new]
      simpa using hj
    rcases hk3 with rfl | rfl
    · have : x = hA := by simpa using hk.symm
      subst this
      exact ⟨_, 0, rfl, _, _, hc 0 _ rfl, hc 1 _ rfl, hc 2 _ rfl, hc 3 _ rfl, hc 4 _ rfl, hc 5 _ rfl, hc 6 _ rfl, nilS _, nilS _⟩
    · have : x = hB := by simpa using hk.symm
      subst this
      exact ⟨_, 0, rfl, _, _, hc 7 _ rfl, hc 8 _ rfl, hc 9 _ rfl, hc 10 _ rfl, hc 11 _ rfl, hc 12 _ rfl, hc 13 _ rfl, nilS _, nilS _⟩
  have q3 := all_any (some ⟨w4.heap.size, 0, none⟩) 2 2 [hA, hB] w5 rfl P5 (by omega) (fun x hx => by
    rcases List.mem_cons.1 hx with rfl | hx
    · exact ⟨Nat.zero_le _, Nat.zero_le _⟩
    · rw [List.mem_singleton.1 hx]; exact ⟨Nat.zero_le _, Nat.zero_le _⟩)
  have HB5 : Hid (∀ w', Fr None' w5 w' → Box w' w1.heap.size (.int .i64 2) (.string ⟨#[97]⟩) (.string ⟨#[]⟩) (.string ⟨#[]⟩) (.int .i64 0) (.slice po 0 co) (.slice pn 0 cn) ∧ Box w' w3.heap.size (.int .i64 10) (.string ⟨#[98]⟩) (.string ⟨#[97]⟩) (.string ⟨#[]⟩) (.int .i64 0) (.slice po2 0 co2) (.slice pn2 0 cn2)) := fun w' f => ⟨(HB2.out.kept ((F3.then7 F4).then7 F5)).kept f, (B4.kept F5).kept f⟩
  have HF5 : Hid (Fr None' w w5) := ((HF2.out.then7 F3).then7 F4).then7 F5
  clear q2 F3 F4 F5 B4 P5 HB2 HF2
  go_wp2_with fail
  with_reducible refine q3.mono ?_
  rintro e w6 ⟨v, V, rfl, hO, F6⟩
  obtain ⟨va, c, hv, _, _, hP⟩ := hO.slice
  have hv2 : v = .slice va 2 c := hv
  subst hv2
  obtain ⟨g, o, rfl, _, _, l0, l1, l2, l3, l4, l5, l6, _⟩ := hP 0 (inv hB) rfl
  obtain ⟨g', o', e', _, _, m0, m1, m2, m3, m4, m5, m6, _⟩ := hP 1 (inv hA) rfl
  cases e'
  rw [inv_hB] at l0 l1 l2 l3 l4
  rw [inv_hA] at m0 m1 m2 m3 m4
  simp only [Nat.zero_mul, Nat.one_mul, Nat.add_zero] at l0 l1 l2 l3 l4 m0 m1 m2 m3 m4
  obtain ⟨A6, B6⟩ := HB5.out w6 F6
  obtain ⟨a0, a1, a2, a3, a4, a5, a6⟩ := A6.cells
  obtain ⟨b0, b1, b2, b3, b4, b5, b6⟩ := B6.cells
  have q4 := HQ4.out w6
  have HF6 : Hid (Fr None' w w6) := HF5.out.then7 F6
  clear q3 F6 hO hP hv A6 B6 HQ4 HB5 HF5 a2 a3 a4 a5 a6 b0 b3 b4 b5 b6 l0 l1 l2 l4 l5 l6 m1 m2 m3 m4 m5 m6
  go_wp2_with fail
  with_reducible refine q4.mono ?_
  rintro e w7 ⟨po4, co4, pn4, cn4, rfl, F7⟩
  have HF7 : Hid (Fr None' w w7) := HF6.out.then7 F7
  have hfd : ∀ w', (Instr.field 24 (.agg #[.int .i64 0, .string ⟨#[]⟩, .string ⟨#[]⟩, .string ⟨#[]⟩, .int .i64 0, .slice po4 0 co4, .slice pn4 0 cn4]) 1).run Tryz.prog w' = .ok (.string ⟨#[]⟩) w' := fun w' => by kernel_rfl
  clear q4 F7 l3 m0 a0 a1 b1 b2
  go_wp2_with fail
  go_ret
  exact ⟨rfl, HF7.out⟩

end Go.Proofs.YtpmhfigaeoaddaaGreatDoor
