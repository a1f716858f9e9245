/-
  What is proved here: CommuteBack answers true. Conditions: its arguments lie in memory, and are no longer than the reach; Commute answers as it does.
-/
import Derived.Test.YtdkhccdclahbaaaGreatDoorHead10
import Derived.Test.YtdkhccdclahbaaaGreatDoorSame9
import Derived.Test.YtdkhccdclahbaaaGreatDoorGreat9
namespace Go.Proofs.YtdkhccdclahbaaaGreatDoor
open Go.RowKit
set_option maxRecDepth 100000

theorem weight_small10 {x : Pr} (h : x.weight < 4000) : SmallP x := by
  unfold Pr.weight at h
  exact ⟨by omega, by omega, by omega, by omega, by omega⟩

theorem comm_small {x y : Pr} (sx : SmallP x) (sy : SmallP y) (h : (commP x y).2.2 = true) : SmallP (commP x y).1 ∧ SmallP (commP x y).2.1 := by
  obtain ⟨h1, h2, h3, _⟩ := commP_yes h
  rw [h3]
  exact rule_small h1 h2 sx sy

set_option maxHeartbeats 8000000 in
theorem back_walk (hC : CommuteAll) (x y : Pr) (vo vn uo un : Value) (W : World) (ho : StrsAt W vo x.old) (hn : StrsAt W vn x.new) (go : StrsAt W uo y.old) (gn : StrsAt W un y.new) (lo : x.old.length ≤ 140737488355328) (ln : x.new.length ≤ 140737488355328) (mo' : y.old.length ≤ 140737488355328) (mn' : y.new.length ≤ 140737488355328) :
    Calls Tryz.prog 4 #[.agg #[.int .i64 x.kind, .string x.path, .string x.dst, .string x.src, .int .i64 x.pos, vo, vn], .agg #[.int .i64 y.kind, .string y.path, .string y.dst, .string y.src, .int .i64 y.pos, uo, un]] W fun e w' => e = .returned (.bool true) ∧ Fr None' W w' := by
  obtain ⟨pa, ca, hva⟩ := ho.as2
  obtain ⟨pb, cb, hvb⟩ := hn.as2
  obtain ⟨qa, da, hua⟩ := go.as2
  obtain ⟨qb, db, hub⟩ := gn.as2
  have HG1 := toHid10 (fun w' (f : Fr None' W w') => pgreat_any x vo vn w' (ho.kept f) (hn.kept f) lo ln)
  have HG2 := toHid10 (fun w' (f : Fr None' W w') => pgreat_any y uo un w' (go.kept f) (gn.kept f) mo' mn')
  have HCm := toHid10 (fun (hx : x.weight < 4000) (hy : y.weight < 4000) w' (f : Fr None' W w') => (hC x y vo vn uo un w' (ho.kept f) (hn.kept f) (go.kept f) (gn.kept f) (weight_small10 hx) (weight_small10 hy)).mono (fun e w'' h => CommPost.at (a := (commP x y).1) (b := (commP x y).2.1) (r := (commP x y).2.2) rfl h))
  have HRt := toHid10 (fun (z : Pr) (sz : SmallP z) (h : rightP z = true) w' po pn co cn (s1 : StrsAt w' (.slice po z.old.length co) z.old) (s2 : StrsAt w' (.slice pn z.new.length cn) z.new) => (h ▸ qright_any z _ _ w' s1 s2 sz : Calls Tryz.prog 18 #[.agg #[.int .i64 z.kind, .string z.path, .string z.dst, .string z.src, .int .i64 z.pos, .slice po z.old.length co, .slice pn z.new.length cn]] w' (fun e w'' => e = .returned (.bool true) ∧ Fr None' w' w'')))
  have HCb := toHid10 (fun (z u : Pr) (sz : SmallP z) (su : SmallP u) (h : commP z u = (x, y, true)) w' po pn co cn ro rn do' dn (s1 : StrsAt w' (.slice po z.old.length co) z.old) (s2 : StrsAt w' (.slice pn z.new.length cn) z.new) (s3 : StrsAt w' (.slice ro u.old.length do') u.old) (s4 : StrsAt w' (.slice rn u.new.length dn) u.new) => (hC z u _ _ _ _ w' s1 s2 s3 s4 sz su).mono (fun e w'' k => CommPost.at h k))
  have HSx := toHid10 (fun (hx : x.weight < 4000) w' ro eo rn en (f : Fr None' W w') (s1 : StrsAt w' (.slice ro x.old.length eo) x.old) (s2 : StrsAt w' (.slice rn x.new.length en) x.new) => psame_any x _ _ vo vn w' s1 s2 (ho.kept f) (hn.kept f) (by have := (weight_small10 hx).old; omega) (by have := (weight_small10 hx).new; omega))
  have HSy := toHid10 (fun (hy : y.weight < 4000) w' ro eo rn en (f : Fr None' W w') (s1 : StrsAt w' (.slice ro y.old.length eo) y.old) (s2 : StrsAt w' (.slice rn y.new.length en) y.new) => psame_any y _ _ uo un w' s1 s2 (go.kept f) (gn.kept f) (by have := (weight_small10 hy).old; omega) (by have := (weight_small10 hy).new; omega))
  subst hva hvb hua hub
  obtain ⟨no, hno⟩ : ∃ m, x.old.length = m := ⟨_, rfl⟩
  obtain ⟨nn, hnn⟩ : ∃ m, x.new.length = m := ⟨_, rfl⟩
  obtain ⟨mo, hmo⟩ : ∃ m, y.old.length = m := ⟨_, rfl⟩
  obtain ⟨mn, hmn⟩ : ∃ m, y.new.length = m := ⟨_, rfl⟩
  unfold CommC at HCm HCb
  rw [hno] at HG1 HCm HCb HSx
  rw [hnn] at HG1 HCm HCb HSx
  rw [hmo] at HG2 HCm HCb HSy
  rw [hmn] at HG2 HCm HCb HSy
  rw [hno, hnn, hmo, hmn]
  obtain ⟨w1, hw1⟩ : ∃ w1, W.alloc (.cells #[.int .i64 x.kind, .string x.path, .string x.dst, .string x.src, .int .i64 x.pos, .slice pa no ca, .slice pb nn cb] 24) = w1 := ⟨_, rfl⟩
  obtain ⟨w2, hw2⟩ : ∃ w2, w1.alloc (.cells #[.int .i64 y.kind, .string y.path, .string y.dst, .string y.src, .int .i64 y.pos, .slice qa mo da, .slice qb mn db] 24) = w2 := ⟨_, rfl⟩
  have F1 : Fr None' W w1 := hw1 ▸ Fr.alloc None' _ _
  have F2 : Fr None' w1 w2 := hw2 ▸ Fr.alloc None' _ _
  have HBX := toHid10 (show ∀ w', Fr None' w2 w' → Box w' W.heap.size (.int .i64 x.kind) (.string x.path) (.string x.dst) (.string x.src) (.int .i64 x.pos) (.slice pa no ca) (.slice pb nn cb) from fun w' f => ((hw1 ▸ Box.new W _ _ _ _ _ _ _ : Box w1 _ _ _ _ _ _ _ _).kept F2).kept f)
  have HBY := toHid10 (show ∀ w', Fr None' w2 w' → Box w' w1.heap.size (.int .i64 y.kind) (.string y.path) (.string y.dst) (.string y.src) (.int .i64 y.pos) (.slice qa mo da) (.slice qb mn db) from fun w' f => (hw2 ▸ Box.new w1 _ _ _ _ _ _ _ : Box w2 _ _ _ _ _ _ _ _).kept f)
  have HF2 := toHid10 (F1.then7 F2)
  have q1 := head_any hC w2
  clear ho hn go gn lo ln mo' mn' F1 F2 hno hnn hmo hmn hC
  go_enter Tryz.func4, Tryz.ntmps4
  go_wp2_with fail
  with_reducible refine q1.mono ?_
  rintro e w3 ⟨rfl, f3⟩
  have HF3 := toHid10 f3
  obtain ⟨x0, x1, x2, x3, x4, x5, x6⟩ := (HBX.out w3 f3).cells
  have q2 := HG1.out w3 (HF2.out.then7 f3)
  clear q1 f3
  go_wp2_with fail
  with_reducible refine q2.mono ?_
  rintro e w4 ⟨g, rfl, hg, f4⟩
  have HF4 := toHid10 (HF3.out.then7 f4)
  clear q2 f4 x0 x1 x2 x3 x4 x5 x6
  cases g with
  | true =>
    have HFW := toHid10 (HF2.out.then7 HF4.out)
    go_wp2_with fail
    go_ret
    exact ⟨rfl, HFW.out⟩
  | false =>
  have HW1 := toHid10 (hg rfl)
  clear hg
  obtain ⟨y0, y1, y2, y3, y4, y5, y6⟩ := (HBY.out w4 HF4.out).cells
  have q3 := HG2.out w4 (HF2.out.then7 HF4.out)
  go_wp2_with fail
  with_reducible refine q3.mono ?_
  rintro e w5 ⟨g, rfl, hg, f5⟩
  have HF5 := toHid10 (HF4.out.then7 f5)
  clear q3 f5 y0 y1 y2 y3 y4 y5 y6
  cases g with
  | true =>
    have HFW := toHid10 (HF2.out.then7 HF5.out)
    go_wp2_with fail
    go_ret
    exact ⟨rfl, HFW.out⟩
  | false =>
  have HW2 := toHid10 (hg rfl)
  clear hg
  have q4 := HCm.out HW1.out HW2.out w5 (HF2.out.then7 HF5.out)
  obtain ⟨x0, x1, x2, x3, x4, x5, x6⟩ := (HBX.out w5 HF5.out).cells
  obtain ⟨y0, y1, y2, y3, y4, y5, y6⟩ := (HBY.out w5 HF5.out).cells
  go_wp2_with fail
  with_reducible refine q4.mono ?_
  clear q4 x0 x1 x2 x3 x4 x5 x6 y0 y1 y2 y3 y4 y5 y6
  have HBk := toHid10 (fun h => @comm_back x y h)
  have HNo := toHid10 (fun h => @commP_no x y h)
  have HSm := toHid10 (fun h => comm_small (weight_small10 HW1.out) (weight_small10 HW2.out) (x := x) (y := y) h)
  generalize commP x y = cc at HBk HNo HSm
  obtain ⟨a, b, r⟩ := cc
  simp only at HBk HNo HSm
  rintro e w6 ⟨po1, pn1, po2, pn2, co1, cn1, co2, cn2, rfl, HS6, f6⟩
  obtain ⟨w8, hw8⟩ : ∃ w8, (w6.alloc (.cells #[.int .i64 a.kind, .string a.path, .string a.dst, .string a.src, .int .i64 a.pos, .slice po1 a.old.length co1, .slice pn1 a.new.length cn1] 24)).alloc (.cells #[.int .i64 b.kind, .string b.path, .string b.dst, .string b.src, .int .i64 b.pos, .slice po2 b.old.length co2, .slice pn2 b.new.length cn2] 24) = w8 := ⟨_, rfl⟩
  obtain ⟨B8a, B8b, F8⟩ := two_new hw8
  have HF8 := toHid10 (HF5.out.then7 (f6.then7 F8))
  have HB8 := toHid10 (And.intro B8a B8b)
  have HS8 := toHid10 (show ∀ w', Fr None' w8 w' → (StrsAt w' (.slice po1 a.old.length co1) a.old ∧ StrsAt w' (.slice pn1 a.new.length cn1) a.new) ∧ StrsAt w' (.slice po2 b.old.length co2) b.old ∧ StrsAt w' (.slice pn2 b.new.length cn2) b.new from fun w' f => ⟨⟨HS6.out.1.1.kept (F8.then7 f), HS6.out.1.2.kept (F8.then7 f)⟩, HS6.out.2.1.kept (F8.then7 f), HS6.out.2.2.kept (F8.then7 f)⟩)
  clear f6 F8 HS6
  cases r with
  | false =>
    have hz := HNo.out rfl
    have ha : a = zeroP := congrArg Prod.fst hz
    have hb : b = zeroP := congrArg (fun z => z.2.1) hz
    have z1 : w8.cell? ⟨w6.heap.size, 0, none⟩ = some (.int .i64 0) := by have h := B8a.cells.1; rw [ha] at h; exact h
    have z2 : w8.cell? ⟨w6.heap.size + 1, 0, none⟩ = some (.int .i64 0) := by have h := B8b.cells.1; rw [hb] at h; exact h
    have HFW := toHid10 (HF2.out.then7 HF8.out)
    clear hz ha hb B8a B8b HBk HNo HSm
    go_wp2_with fail
    go_ret
    exact ⟨rfl, HFW.out⟩
  | true =>
    obtain ⟨k1, k2, k3⟩ := HBk.out rfl
    obtain ⟨m1, m2⟩ := HSm.out rfl
    have HM := toHid10 (And.intro m1 m2)
    have HK3 := toHid10 k3
    have HK2 := toHid10 k2
    have q5 := HRt.out a m1 k1 w8 po1 pn1 co1 cn1 (HS8.out w8 (Fr.refl _ _)).1.1 (HS8.out w8 (Fr.refl _ _)).1.2
    obtain ⟨e0, e1, e2, e3, e4, e5, e6⟩ := B8a.cells
    clear B8a B8b HBk HNo HSm k1 k2 k3 m1 m2
    go_wp2_with fail
    with_reducible refine q5.mono ?_
    rintro e w9 ⟨rfl, f9⟩
    have HF9 := toHid10 f9
    have q6 := HRt.out b HM.out.2 HK2.out w9 po2 pn2 co2 cn2 (HS8.out w9 f9).2.1 (HS8.out w9 f9).2.2
    clear q5 e0 e1 e2 e3 e4 e5 e6
    obtain ⟨e0, e1, e2, e3, e4, e5, e6⟩ := (HB8.out.2.kept f9).cells
    clear f9
    go_wp2_with fail
    with_reducible refine q6.mono ?_
    rintro e w10 ⟨rfl, f10⟩
    have HF10 := toHid10 (HF9.out.then7 f10)
    clear q6 f10 e0 e1 e2 e3 e4 e5 e6
    obtain ⟨d0, d1, d2, d3, d4, d5, d6⟩ := (HB8.out.1.kept HF10.out).cells
    obtain ⟨e0, e1, e2, e3, e4, e5, e6⟩ := (HB8.out.2.kept HF10.out).cells
    have q7 := HCb.out a b HM.out.1 HM.out.2 HK3.out w10 po1 pn1 co1 cn1 po2 pn2 co2 cn2 (HS8.out w10 HF10.out).1.1 (HS8.out w10 HF10.out).1.2 (HS8.out w10 HF10.out).2.1 (HS8.out w10 HF10.out).2.2
    go_wp2_with fail
    with_reducible refine q7.mono ?_
    rintro e w11 ⟨ro1, rn1, ro2, rn2, eo1, en1, eo2, en2, rfl, HS11, f11⟩
    obtain ⟨w12, hw12⟩ : ∃ w12, (w11.alloc (.cells #[.int .i64 x.kind, .string x.path, .string x.dst, .string x.src, .int .i64 x.pos, .slice ro1 no eo1, .slice rn1 nn en1] 24)).alloc (.cells #[.int .i64 y.kind, .string y.path, .string y.dst, .string y.src, .int .i64 y.pos, .slice ro2 mo eo2, .slice rn2 mn en2] 24) = w12 := ⟨_, rfl⟩
    obtain ⟨B12a, B12b, F12⟩ := two_new hw12
    have HF12 := toHid10 (HF8.out.then7 (HF10.out.then7 (f11.then7 F12)))
    have q8 := HSx.out HW1.out w12 ro1 eo1 rn1 en1 (HF2.out.then7 HF12.out) (HS11.out.1.1.kept F12) (HS11.out.1.2.kept F12)
    have HS12 := toHid10 (And.intro (HS11.out.2.1.kept F12) (HS11.out.2.2.kept F12))
    have HB12 := toHid10 B12b
    clear q7 d0 d1 d2 d3 d4 d5 d6 e0 e1 e2 e3 e4 e5 e6 f11 F12
    obtain ⟨d0, d1, d2, d3, d4, d5, d6⟩ := B12a.cells
    obtain ⟨e0, e1, e2, e3, e4, e5, e6⟩ := (HBX.out w12 HF12.out).cells
    clear B12a B12b
    go_wp2_with fail
    with_reducible refine q8.mono ?_
    rintro e w13 ⟨rfl, f13⟩
    have q9 := HSy.out HW2.out w13 ro2 eo2 rn2 en2 ((HF2.out.then7 HF12.out).then7 f13) (HS12.out.1.kept f13) (HS12.out.2.kept f13)
    clear q8 d0 d1 d2 d3 d4 d5 d6 e0 e1 e2 e3 e4 e5 e6
    obtain ⟨d0, d1, d2, d3, d4, d5, d6⟩ := (HB12.out.kept f13).cells
    obtain ⟨e0, e1, e2, e3, e4, e5, e6⟩ := (HBY.out w13 (HF12.out.then7 f13)).cells
    have HF13 := toHid10 (HF12.out.then7 f13)
    clear f13
    go_wp2_with fail
    with_reducible refine q9.mono ?_
    rintro e w14 ⟨rfl, f14⟩
    have HFW := toHid10 ((HF2.out.then7 HF13.out).then7 f14)
    clear q9 f14 d0 d1 d2 d3 d4 d5 d6 e0 e1 e2 e3 e4 e5 e6
    go_wp2_with fail
    go_ret
    exact ⟨rfl, HFW.out⟩

end Go.Proofs.YtdkhccdclahbaaaGreatDoor
