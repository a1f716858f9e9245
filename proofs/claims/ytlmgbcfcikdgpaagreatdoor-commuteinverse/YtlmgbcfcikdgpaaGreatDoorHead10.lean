/-
  What is proved here: head answers true. Condition: Commute answers as it does.
-/
import Derived.Test.YtlmgbcfcikdgpaaGreatDoorPast10
namespace Go.Proofs.YtlmgbcfcikdgpaaGreatDoor
open Go.RowKit
set_option maxRecDepth 100000

theorem nilS10 (w : World) : StrsAt w (.slice none 0 0) [] := ⟨none, 0, rfl, fun _ => rfl, Nat.le_refl _, Lines.Row.nil _ _⟩

/-- What Commute answers, its rows named. -/
def CommC (a b : Pr) (r : Bool) (w : World) (e : Ending) (w' : World) : Prop := ∃ (po1 pn1 po2 pn2 : Option Addr) (co1 cn1 co2 cn2 : Nat), e = .returned (.tuple #[.agg #[.int .i64 a.kind, .string a.path, .string a.dst, .string a.src, .int .i64 a.pos, .slice po1 a.old.length co1, .slice pn1 a.new.length cn1], .agg #[.int .i64 b.kind, .string b.path, .string b.dst, .string b.src, .int .i64 b.pos, .slice po2 b.old.length co2, .slice pn2 b.new.length cn2], .bool r]) ∧ Hid ((StrsAt w' (.slice po1 a.old.length co1) a.old ∧ StrsAt w' (.slice pn1 a.new.length cn1) a.new) ∧ StrsAt w' (.slice po2 b.old.length co2) b.old ∧ StrsAt w' (.slice pn2 b.new.length cn2) b.new) ∧ Fr None' w w'

theorem CommPost.at {x y a b : Pr} {r : Bool} {w w' : World} {e : Ending} (hc : commP x y = (a, b, r)) (h : CommPost x y w e w') : CommC a b r w e w' := by
  obtain ⟨va, vb, he, ⟨vo1, vn1, rfl, s1, s2, _, _⟩, ⟨vo2, vn2, rfl, s3, s4, _, _⟩, f⟩ := h
  rw [hc] at he s1 s2 s3 s4
  simp only at he s1 s2 s3 s4
  obtain ⟨po1, co1, rfl⟩ := s1.as2
  obtain ⟨pn1, cn1, rfl⟩ := s2.as2
  obtain ⟨po2, co2, rfl⟩ := s3.as2
  obtain ⟨pn2, cn2, rfl⟩ := s4.as2
  exact ⟨po1, pn1, po2, pn2, co1, cn1, co2, cn2, he, ⟨⟨s1, s2⟩, s3, s4⟩, f⟩

theorem two_new {w W : World} {x0 x1 x2 x3 x4 x5 x6 y0 y1 y2 y3 y4 y5 y6 : Value} (h : (w.alloc (.cells #[x0, x1, x2, x3, x4, x5, x6] 24)).alloc (.cells #[y0, y1, y2, y3, y4, y5, y6] 24) = W) : Box W w.heap.size x0 x1 x2 x3 x4 x5 x6 ∧ Box W (w.heap.size + 1) y0 y1 y2 y3 y4 y5 y6 ∧ Fr None' w W := by
  subst h
  exact ⟨(Box.new w _ _ _ _ _ _ _).alloc10 _, Box.new10 (by simp) _ _ _ _ _ _ _, alloc10 (Fr.alloc None' _ _) _⟩

def hdP : Pr := ⟨7, ⟨#[97]⟩, ⟨#[]⟩, ⟨#[]⟩, 0, [⟨#[120]⟩], [⟨#[121]⟩, ⟨#[122]⟩]⟩
def hdQ : Pr := ⟨7, ⟨#[97]⟩, ⟨#[]⟩, ⟨#[]⟩, 5, [⟨#[119]⟩], []⟩
def hdM : Pr := ⟨10, ⟨#[109]⟩, ⟨#[110]⟩, ⟨#[]⟩, 0, [], []⟩
def hdB : Pr := ⟨9, ⟨#[110, 47, 120]⟩, ⟨#[49]⟩, ⟨#[]⟩, 0, [], []⟩

theorem hd1 : commP hdP hdQ = (⟨7, ⟨#[97]⟩, ⟨#[]⟩, ⟨#[]⟩, 4, [⟨#[119]⟩], []⟩, hdP, true) := by kernel_rfl
theorem hd2 : commP hdM hdB = (⟨9, ⟨#[109, 47, 120]⟩, ⟨#[49]⟩, ⟨#[]⟩, 0, [], []⟩, hdM, true) := by kernel_rfl
theorem hd3 : commP hdP hdP = (zeroP, zeroP, false) := by kernel_rfl
theorem hd4 : pastP hdP [hdQ] = ([⟨7, ⟨#[97]⟩, ⟨#[]⟩, ⟨#[]⟩, 4, [⟨#[119]⟩], []⟩], hdP, true) := by kernel_rfl

theorem smallA : SmallP hdP := ⟨by decide, by decide, by decide, by decide, by decide⟩
theorem smallQ : SmallP hdQ := ⟨by decide, by decide, by decide, by decide, by decide⟩
theorem smallM : SmallP hdM := ⟨by decide, by decide, by decide, by decide, by decide⟩
theorem smallB : SmallP hdB := ⟨by decide, by decide, by decide, by decide, by decide⟩

set_option maxHeartbeats 8000000 in
theorem head_any (hC : CommuteAll) (w : World) : Calls Tryz.prog 8 #[] w fun e w' => e = .returned (.bool true) ∧ Fr None' w w' := by
  obtain ⟨w1, hw1⟩ : ∃ w1, w.alloc (.cells #[.string ⟨#[120]⟩] 9) = w1 := ⟨_, rfl⟩
  obtain ⟨w2, hw2⟩ : ∃ w2, w1.alloc (.cells #[.string ⟨#[121]⟩, .string ⟨#[122]⟩] 9) = w2 := ⟨_, rfl⟩
  obtain ⟨w3, hw3⟩ : ∃ w3, w2.alloc (.cells #[.int .i64 7, .string ⟨#[97]⟩, .string ⟨#[]⟩, .string ⟨#[]⟩, .int .i64 0, .slice (some ⟨w.heap.size, 0, none⟩) 1 1, .slice (some ⟨w1.heap.size, 0, none⟩) 2 2] 24) = w3 := ⟨_, rfl⟩
  obtain ⟨w4, hw4⟩ : ∃ w4, w3.alloc (.cells #[.string ⟨#[119]⟩] 9) = w4 := ⟨_, rfl⟩
  obtain ⟨w5, hw5⟩ : ∃ w5, w4.alloc (.cells #[.int .i64 7, .string ⟨#[97]⟩, .string ⟨#[]⟩, .string ⟨#[]⟩, .int .i64 5, .slice (some ⟨w3.heap.size, 0, none⟩) 1 1, .slice none 0 0] 24) = w5 := ⟨_, rfl⟩
  have F1 : Fr None' w w1 := hw1 ▸ Fr.alloc None' _ _
  have F2 : Fr None' w1 w2 := hw2 ▸ Fr.alloc None' _ _
  have F3 : Fr None' w2 w3 := hw3 ▸ Fr.alloc None' _ _
  have F4 : Fr None' w3 w4 := hw4 ▸ Fr.alloc None' _ _
  have F5 : Fr None' w4 w5 := hw5 ▸ Fr.alloc None' _ _
  have BP : Box w5 w2.heap.size (.int .i64 7) (.string ⟨#[97]⟩) (.string ⟨#[]⟩) (.string ⟨#[]⟩) (.int .i64 0) (.slice (some ⟨w.heap.size, 0, none⟩) 1 1) (.slice (some ⟨w1.heap.size, 0, none⟩) 2 2) := ((hw3 ▸ Box.new w2 _ _ _ _ _ _ _ : Box w3 _ _ _ _ _ _ _ _).kept F4).kept F5
  have BQ : Box w5 w4.heap.size (.int .i64 7) (.string ⟨#[97]⟩) (.string ⟨#[]⟩) (.string ⟨#[]⟩) (.int .i64 5) (.slice (some ⟨w3.heap.size, 0, none⟩) 1 1) (.slice none 0 0) := hw5 ▸ Box.new w4 _ _ _ _ _ _ _
  have so : StrsAt w5 (.slice (some ⟨w.heap.size, 0, none⟩) 1 1) hdP.old := ⟨_, 1, rfl, (fun e => by cases e), Nat.le_refl _, (hw1 ▸ row_one w _ rfl : Lines.Row w1 _ [⟨#[120]⟩]).fr (toLN ((((F2.then7 F3).then7 F4).then7 F5)))⟩
  have sn : StrsAt w5 (.slice (some ⟨w1.heap.size, 0, none⟩) 2 2) hdP.new := ⟨_, 2, rfl, (fun e => by cases e), Nat.le_refl _, (hw2 ▸ row_two w1 _ _ rfl : Lines.Row w2 _ [⟨#[121]⟩, ⟨#[122]⟩]).fr (toLN (((F3.then7 F4).then7 F5)))⟩
  have ro : StrsAt w5 (.slice (some ⟨w3.heap.size, 0, none⟩) 1 1) hdQ.old := ⟨_, 1, rfl, (fun e => by cases e), Nat.le_refl _, (hw4 ▸ row_one w3 _ rfl : Lines.Row w4 _ [⟨#[119]⟩]).fr (toLN F5)⟩
  have HF5 := toHid10 (show Fr None' w w5 from (((F1.then7 F2).then7 F3).then7 F4).then7 F5)
  have HBs := toHid10 (And.intro BP BQ)
  have q1 := (hC hdP hdQ _ _ _ _ w5 so sn ro (nilS10 _) smallA smallQ).mono (fun e w' h => CommPost.at hd1 h)
  have HC2 := toHid10 (fun w' => (hC hdM hdB _ _ _ _ w' (nilS10 _) (nilS10 _) (nilS10 _) (nilS10 _) smallM smallB).mono (fun e w'' h => CommPost.at hd2 h))
  have HC3 := toHid10 (fun w' (f : Fr None' w5 w') => (hC hdP hdP _ _ _ _ w' (so.kept f) (sn.kept f) (so.kept f) (sn.kept f) smallA smallA).mono (fun e w'' h => CommPost.at hd3 h))
  have HC4 := toHid10 (fun w' (f : Fr None' w5 w') (g : Nat) (B : Box w' g (.int .i64 7) (.string ⟨#[97]⟩) (.string ⟨#[]⟩) (.string ⟨#[]⟩) (.int .i64 5) (.slice (some ⟨w3.heap.size, 0, none⟩) 1 1) (.slice none 0 0)) => past_any hC hdP _ _ (some ⟨g, 0, none⟩) 1 1 [hdQ] w' (so.kept f) (sn.kept f) smallA rfl (by decide) (fun k y hk => by
    have hk0 : k = 0 := by have := (List.getElem?_eq_some_iff.1 hk).1; simpa using this
    subst hk0
    have : hdQ = y := by simpa using hk
    subst this
    obtain ⟨c0, c1, c2, c3, c4, c5, c6⟩ := B.cells
    exact ⟨g, 0, rfl, _, _, c0, c1, c2, c3, c4, c5, c6, ro.kept f, nilS10 _⟩) (fun y hy => by rw [List.mem_singleton.1 hy]; exact smallQ))
  unfold CommC at q1 HC2 HC3
  simp only [hdP, hdQ, hdM, hdB, zeroP, List.length_cons, List.length_nil, Nat.zero_add, Nat.reduceAdd] at q1 HC2 HC3 HC4
  have BPu : Box (w4.alloc (.cells #[.int .i64 7, .string ⟨#[97]⟩, .string ⟨#[]⟩, .string ⟨#[]⟩, .int .i64 5, .slice (some ⟨w3.heap.size, 0, none⟩) 1 1, .slice none 0 0] 24)) w2.heap.size (.int .i64 7) (.string ⟨#[97]⟩) (.string ⟨#[]⟩) (.string ⟨#[]⟩) (.int .i64 0) (.slice (some ⟨w.heap.size, 0, none⟩) 1 1) (.slice (some ⟨w1.heap.size, 0, none⟩) 2 2) := by rw [hw5]; exact BP
  obtain ⟨p0, p1, p2, p3, p4, p5, p6⟩ := BPu.cells
  have HW5 := toHid10 hw5
  clear F1 F2 F3 F4 F5 BP BQ BPu so sn ro hC hw5
  go_enter Tryz.func8, Tryz.ntmps8
  go_wp2_with fail
  rw [HW5.out]
  with_reducible refine q1.mono ?_
  rintro e w6 ⟨po1, pn1, po2, pn2, co1, cn1, co2, cn2, rfl, _, f6⟩
  clear q1 p0 p1 p2 p3 p4 p5 p6
  obtain ⟨w8, hw8⟩ : ∃ w8, (w6.alloc (.cells #[.int .i64 7, .string ⟨#[97]⟩, .string ⟨#[]⟩, .string ⟨#[]⟩, .int .i64 4, .slice po1 1 co1, .slice pn1 0 cn1] 24)).alloc (.cells #[.int .i64 7, .string ⟨#[97]⟩, .string ⟨#[]⟩, .string ⟨#[]⟩, .int .i64 0, .slice po2 1 co2, .slice pn2 2 cn2] 24) = w8 := ⟨_, rfl⟩
  have Tw8 := two_new hw8
  have HB8 := toHid10 (And.intro Tw8.1 Tw8.2.1)
  have HF8 := toHid10 (show Fr None' w5 w8 from f6.then7 Tw8.2.2)
  have r2 := HC2.out w8
  clear f6 Tw8
  go_wp2_with fail
  with_reducible refine r2.mono ?_
  rintro e w9 ⟨qo1, qn1, qo2, qn2, do1, dn1, do2, dn2, rfl, _, f9⟩
  clear r2
  obtain ⟨w11, hw11⟩ : ∃ w11, (w9.alloc (.cells #[.int .i64 9, .string ⟨#[109, 47, 120]⟩, .string ⟨#[49]⟩, .string ⟨#[]⟩, .int .i64 0, .slice qo1 0 do1, .slice qn1 0 dn1] 24)).alloc (.cells #[.int .i64 10, .string ⟨#[109]⟩, .string ⟨#[110]⟩, .string ⟨#[]⟩, .int .i64 0, .slice qo2 0 do2, .slice qn2 0 dn2] 24) = w11 := ⟨_, rfl⟩
  have Tw11 := two_new hw11
  have HB11 := toHid10 (And.intro Tw11.1 Tw11.2.1)
  have HF11 := toHid10 (show Fr None' w8 w11 from f9.then7 Tw11.2.2)
  have r3 := HC3.out w11 (HF8.out.then7 HF11.out)
  obtain ⟨p0, p1, p2, p3, p4, p5, p6⟩ := (HBs.out.1.kept (HF8.out.then7 HF11.out)).cells
  clear f9 Tw11
  go_wp2_with fail
  with_reducible refine r3.mono ?_
  rintro e w12 ⟨ro1, rn1, ro2, rn2, eo1, en1, eo2, en2, rfl, _, f12⟩
  clear r3 p0 p1 p2 p3 p4 p5 p6
  obtain ⟨w14, hw14⟩ : ∃ w14, (w12.alloc (.cells #[.int .i64 0, .string ⟨#[]⟩, .string ⟨#[]⟩, .string ⟨#[]⟩, .int .i64 0, .slice ro1 0 eo1, .slice rn1 0 en1] 24)).alloc (.cells #[.int .i64 0, .string ⟨#[]⟩, .string ⟨#[]⟩, .string ⟨#[]⟩, .int .i64 0, .slice ro2 0 eo2, .slice rn2 0 en2] 24) = w14 := ⟨_, rfl⟩
  have Tw14 := two_new hw14
  have HF14 := toHid10 (show Fr None' w11 w14 from f12.then7 Tw14.2.2)
  have fr14 := (HF8.out.then7 HF11.out).then7 HF14.out
  obtain ⟨p0, p1, p2, p3, p4, p5, p6⟩ := (HBs.out.1.kept fr14).cells
  obtain ⟨q0, q1, q2, q3, q4, q5, q6⟩ := (HBs.out.2.kept fr14).cells
  obtain ⟨w15, hw15⟩ : ∃ w15, w14.alloc (.cells #[.int .i64 7, .string ⟨#[97]⟩, .string ⟨#[]⟩, .string ⟨#[]⟩, .int .i64 5, .slice (some ⟨w3.heap.size, 0, none⟩) 1 1, .slice none 0 0] 24) = w15 := ⟨_, rfl⟩
  have F15 : Fr None' w14 w15 := hw15 ▸ Fr.alloc None' _ _
  have r4 := HC4.out w15 (fr14.then7 F15) w14.heap.size (hw15 ▸ Box.new w14 _ _ _ _ _ _ _)
  have HF15 := toHid10 (show Fr None' w14 w15 from F15)
  clear f12 Tw14 F15 fr14
  go_wp2_with fail
  with_reducible refine r4.mono ?_
  rintro e w16 ⟨va, vb, V, he, hO, ⟨so2, sn2, rfl, t1, t2, _, _⟩, f16⟩
  have hd4' := hd4
  simp only [hdP, hdQ] at hd4'
  rw [hd4'] at he hO t1 t2
  simp only at he t1 t2
  obtain ⟨vg, vc, hv, _⟩ := hO.slice
  have hv' : va = .slice vg 1 vc := hv
  subst hv' he
  obtain ⟨so2, fo2, rfl⟩ := t1.as2
  obtain ⟨sn2, fn2, rfl⟩ := t2.as2
  simp only [List.length_cons, List.length_nil, Nat.zero_add, Nat.reduceAdd]
  clear r4 p0 p1 p2 p3 p4 p5 p6 q0 q1 q2 q3 q4 q5 q6 hO t1 t2 hv hd4'
  obtain ⟨w17, hw17⟩ : ∃ w17, w16.alloc (.cells #[.int .i64 7, .string ⟨#[97]⟩, .string ⟨#[]⟩, .string ⟨#[]⟩, .int .i64 0, .slice so2 1 fo2, .slice sn2 2 fn2] 24) = w17 := ⟨_, rfl⟩
  have F17 : Fr None' w16 w17 := hw17 ▸ Fr.alloc None' _ _
  have f817 : Fr None' w8 w17 := ((HF11.out.then7 HF14.out).then7 HF15.out).then7 (f16.then7 F17)
  have f1117 : Fr None' w11 w17 := (HF14.out.then7 HF15.out).then7 (f16.then7 F17)
  have z1 := (HB8.out.1.kept f817).cells.2.2.2.2.1
  have z2 := (HB8.out.2.kept f817).cells.2.2.2.2.1
  have z3 := (HB11.out.1.kept f1117).cells.2.1
  have z4 := (HB11.out.2.kept f1117).cells.2.2.1
  have z5 := (hw17 ▸ Box.new w16 _ _ _ _ _ _ _ : Box w17 w16.heap.size (.int .i64 7) (.string ⟨#[97]⟩) (.string ⟨#[]⟩) (.string ⟨#[]⟩) (.int .i64 0) (.slice so2 1 fo2) (.slice sn2 2 fn2)).cells.2.2.2.2.1
  have HFF := toHid10 (show Fr None' w w17 from (HF5.out.then7 HF8.out).then7 f817)
  clear f16 F17 f817 f1117
  go_wp2_with fail
  go_ret
  exact ⟨rfl, HFF.out⟩

end Go.Proofs.YtlmgbcfcikdgpaaGreatDoor
