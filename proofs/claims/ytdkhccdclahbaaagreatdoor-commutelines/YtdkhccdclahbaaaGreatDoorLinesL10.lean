/-
  What is proved here: CommuteLines answers true. Conditions: its arguments lie in memory, and are no longer than the reach; Commute answers as it does.
-/
import Derived.Test.YtdkhccdclahbaaaGreatDoorBack10
namespace Go.Proofs.YtdkhccdclahbaaaGreatDoor
open Go.RowKit
set_option maxRecDepth 100000

theorem right_pos {y : Pr} (hk : y.kind = 7) (hr : rightP y = true) (p : Int) (h0 : 0 ≤ p) (h1 : p ≤ 1073741824) : rightP { y with pos := p } = true := by
  unfold rightP ruleP linesP at hr ⊢
  simp only [hk, Bool.and_eq_true, decide_eq_true_eq] at hr ⊢
  simp at hr ⊢
  exact ⟨hr.1, ⟨⟨⟨⟨⟨hr.2.1.1.1.1.1.1, hr.2.1.1.1.1.1.2⟩, h0⟩, h1⟩, hr.2.1.1.2⟩, hr.2.1.2⟩, hr.2.2⟩

theorem lines_comm {x y : Pr} (hx : x.kind = 7) (hy : y.kind = 7) (hp : x.path = y.path) (rx : rightP x = true) (ry : rightP y = true) (bx : 0 ≤ x.pos ∧ x.pos ≤ 65535) (bY : 0 ≤ y.pos ∧ y.pos ≤ 65535) (lx : x.old.length < 4000 ∧ x.new.length < 4000) (ly : y.old.length < 4000 ∧ y.new.length < 4000) :
    commP x y = if x.pos + x.new.length < y.pos then ({ y with pos := y.pos + (x.old.length - x.new.length) }, x, true) else if y.pos + y.old.length < x.pos then (y, { x with pos := x.pos + (y.new.length - y.old.length) }, true) else noneC := by
  have c1 : clsP x = 1 := by unfold clsP; rw [hx]; simp
  have c2 : clsP y = 1 := by unfold clsP; rw [hy]; simp
  have e : ruleC x y = linesC x y := by rw [rule_11 c1 c2]; unfold changesC; rw [if_pos hp, if_pos ⟨hx, hy⟩]
  unfold linesC at e
  split
  · rename_i h
    rw [if_pos h] at e
    rw [commP_of rx ry (by rw [e]) (by rw [e]; exact right_pos hy ry _ (by omega) (by omega)) (by rw [e]; exact rx), e]
  · rename_i h
    rw [if_neg h] at e
    split
    · rename_i h2
      rw [if_pos h2] at e
      rw [commP_of rx ry (by rw [e]) (by rw [e]; exact ry) (by rw [e]; exact right_pos hx rx _ (by omega) (by omega)), e]
    · rename_i h2
      rw [if_neg h2] at e
      exact commP_no (by unfold commP; rw [if_pos (by simp [rx, ry]), e]; simp [checkC, noneC])

theorem weight_lt {x : Pr} (h : x.weight < 4000) : x.old.length < 4000 ∧ x.new.length < 4000 := by
  unfold Pr.weight at h
  exact ⟨by omega, by omega⟩

set_option maxHeartbeats 8000000 in
theorem lines_walk (hC : CommuteAll) (s t : Nat) (hs : s ≤ 65535) (ht : t ≤ 65535) (lo ln go gn : List ByteArray) (vo vn uo un : Value) (W : World) (h1 : StrsAt W vo lo) (h2 : StrsAt W vn ln) (h3 : StrsAt W uo go) (h4 : StrsAt W un gn) (l1 : lo.length ≤ 140737488355328) (l2 : ln.length ≤ 140737488355328) (l3 : go.length ≤ 140737488355328) (l4 : gn.length ≤ 140737488355328) :
    Calls Tryz.prog 7 #[.int .u16 s, vo, vn, .int .u16 t, uo, un] W fun e w' => e = .returned (.bool true) ∧ Fr None' W w' := by
  obtain ⟨x, hx⟩ : ∃ x : Pr, x = ⟨7, ⟨#[97]⟩, ⟨#[]⟩, ⟨#[]⟩, (s : Int), lo, ln⟩ := ⟨_, rfl⟩
  obtain ⟨y, hy⟩ : ∃ y : Pr, y = ⟨7, ⟨#[97]⟩, ⟨#[]⟩, ⟨#[]⟩, (t : Int), go, gn⟩ := ⟨_, rfl⟩
  have HG1 := toHid10 (fun w' (f : Fr None' W w') => pgreat_any x vo vn w' (by rw [hx]; exact h1.kept f) (by rw [hx]; exact h2.kept f) (by rw [hx]; exact l1) (by rw [hx]; exact l2))
  have HG2 := toHid10 (fun w' (f : Fr None' W w') => pgreat_any y uo un w' (by rw [hy]; exact h3.kept f) (by rw [hy]; exact h4.kept f) (by rw [hy]; exact l3) (by rw [hy]; exact l4))
  have HR1 := toHid10 (fun (k : x.weight < 4000) w' (f : Fr None' W w') => qright_any x vo vn w' (by rw [hx]; exact h1.kept f) (by rw [hx]; exact h2.kept f) (weight_small10 k))
  have HR2 := toHid10 (fun (k : y.weight < 4000) w' (f : Fr None' W w') => qright_any y uo un w' (by rw [hy]; exact h3.kept f) (by rw [hy]; exact h4.kept f) (weight_small10 k))
  have HCm := toHid10 (fun (k1 : x.weight < 4000) (k2 : y.weight < 4000) (a b : Pr) (r : Bool) (he : commP x y = (a, b, r)) w' (f : Fr None' W w') => (hC x y vo vn uo un w' (by rw [hx]; exact h1.kept f) (by rw [hx]; exact h2.kept f) (by rw [hy]; exact h3.kept f) (by rw [hy]; exact h4.kept f) (weight_small10 k1) (weight_small10 k2)).mono (fun e w'' h => CommPost.at he h))
  have HLc := toHid10 (fun (k1 : x.weight < 4000) (k2 : y.weight < 4000) (rx : rightP x = true) (ry : rightP y = true) => lines_comm (x := x) (y := y) (by rw [hx]) (by rw [hy]) (by rw [hx, hy]) rx ry (by rw [hx]; exact ⟨by simp only; omega, by simp only; omega⟩) (by rw [hy]; exact ⟨by simp only; omega, by simp only; omega⟩) (weight_lt k1) (weight_lt k2))
  unfold CommC at HCm
  have HXY := toHid10 (And.intro hx hy)
  have HWl := toHid10 (show (x.weight < 4000 → lo.length < 4000 ∧ ln.length < 4000) ∧ (y.weight < 4000 → go.length < 4000 ∧ gn.length < 4000) from ⟨fun k => by have h := weight_lt k; rw [hx] at h; exact h, fun k => by have h := weight_lt k; rw [hy] at h; exact h⟩)
  have hxk : x.kind = 7 ∧ x.path = ⟨#[97]⟩ ∧ x.dst = ⟨#[]⟩ ∧ x.src = ⟨#[]⟩ ∧ x.pos = (s : Int) ∧ x.old = lo ∧ x.new = ln := by rw [hx]; exact ⟨rfl, rfl, rfl, rfl, rfl, rfl, rfl⟩
  have hyk : y.kind = 7 ∧ y.path = ⟨#[97]⟩ ∧ y.dst = ⟨#[]⟩ ∧ y.src = ⟨#[]⟩ ∧ y.pos = (t : Int) ∧ y.old = go ∧ y.new = gn := by rw [hy]; exact ⟨rfl, rfl, rfl, rfl, rfl, rfl, rfl⟩
  obtain ⟨xk, xp, xd, xs, xq, xo, xn⟩ := hxk
  obtain ⟨yk, yp, yd, ys, yq, yo, yn⟩ := hyk
  rw [xk, xp, xd, xs, xq] at HG1 HR1 HCm
  rw [yk, yp, yd, ys, yq] at HG2 HR2 HCm
  rw [xq, yq, xo, xn, yo] at HLc
  rw [yn] at HLc
  obtain ⟨pa, ca, rfl⟩ := h1.as2
  obtain ⟨pb, cb, rfl⟩ := h2.as2
  obtain ⟨qa, da, rfl⟩ := h3.as2
  obtain ⟨qb, db, rfl⟩ := h4.as2
  obtain ⟨no, hno⟩ : ∃ m, lo.length = m := ⟨_, rfl⟩
  obtain ⟨nn, hnn⟩ : ∃ m, ln.length = m := ⟨_, rfl⟩
  obtain ⟨mo, hmo⟩ : ∃ m, go.length = m := ⟨_, rfl⟩
  obtain ⟨mn, hmn⟩ : ∃ m, gn.length = m := ⟨_, rfl⟩
  rw [hno] at HG1 HR1 HCm HLc HWl
  rw [hnn] at HG1 HR1 HCm HLc HWl
  rw [hmo] at HG2 HR2 HCm HLc HWl
  rw [hmn] at HG2 HR2 HCm HLc HWl
  rw [hno, hnn, hmo, hmn]
  have i1 : (s : Int) ≤ 65535 := by omega
  have i2 : (t : Int) ≤ 65535 := by omega
  have i3 : (0 : Int) ≤ (s : Int) := by omega
  have i4 : (0 : Int) ≤ (t : Int) := by omega
  have q1 := head_any hC W
  clear h1 h2 h3 h4 l1 l2 l3 l4 hs ht hno hnn hmo hmn hC hx hy xk xp xd xs xq xo xn yk yp yd ys yq yo yn
  go_enter Tryz.func7, Tryz.ntmps7
  go_wp2_with fail
  with_reducible refine q1.mono ?_
  rintro e w1 ⟨rfl, f1⟩
  obtain ⟨w2, hw2⟩ : ∃ z, w1.alloc (.cells #[.int .i64 7, .string ⟨#[97]⟩, .string ⟨#[]⟩, .string ⟨#[]⟩, .int .i64 (s : Int), .slice pa no ca, .slice pb nn cb] 24) = z := ⟨_, rfl⟩
  obtain ⟨w3, hw3⟩ : ∃ z, w2.alloc (.cells #[.int .i64 7, .string ⟨#[97]⟩, .string ⟨#[]⟩, .string ⟨#[]⟩, .int .i64 (t : Int), .slice qa mo da, .slice qb mn db] 24) = z := ⟨_, rfl⟩
  have F2 : Fr None' w1 w2 := hw2 ▸ Fr.alloc None' _ _
  have F3 : Fr None' w2 w3 := hw3 ▸ Fr.alloc None' _ _
  have HBX := toHid10 (show ∀ w', Fr None' w3 w' → Box w' w1.heap.size (.int .i64 7) (.string ⟨#[97]⟩) (.string ⟨#[]⟩) (.string ⟨#[]⟩) (.int .i64 (s : Int)) (.slice pa no ca) (.slice pb nn cb) from fun w' f => ((hw2 ▸ Box.new w1 _ _ _ _ _ _ _ : Box w2 _ _ _ _ _ _ _ _).kept F3).kept f)
  have HBY := toHid10 (show ∀ w', Fr None' w3 w' → Box w' w2.heap.size (.int .i64 7) (.string ⟨#[97]⟩) (.string ⟨#[]⟩) (.string ⟨#[]⟩) (.int .i64 (t : Int)) (.slice qa mo da) (.slice qb mn db) from fun w' f => (hw3 ▸ Box.new w2 _ _ _ _ _ _ _ : Box w3 _ _ _ _ _ _ _ _).kept f)
  have HF3 := toHid10 (f1.then7 (F2.then7 F3))
  obtain ⟨x0, x1, x2, x3, x4, x5, x6⟩ := (HBX.out w3 (Fr.refl _ _)).cells
  have q2 := HG1.out w3 HF3.out
  clear q1 f1 F2 F3
  go_wp2_with fail
  with_reducible refine q2.mono ?_
  rintro e w4 ⟨g, rfl, hg, f4⟩
  have HF4 := toHid10 f4
  clear q2 f4 x0 x1 x2 x3 x4 x5 x6
  cases g with
  | true =>
    have HFW := toHid10 (HF3.out.then7 HF4.out)
    go_wp2_with fail
    go_ret
    exact ⟨rfl, HFW.out⟩
  | false =>
  have HW1 := toHid10 (hg rfl)
  clear hg
  obtain ⟨y0, y1, y2, y3, y4, y5, y6⟩ := (HBY.out w4 HF4.out).cells
  have q3 := HG2.out w4 (HF3.out.then7 HF4.out)
  go_wp2_with fail
  with_reducible refine q3.mono ?_
  rintro e w5 ⟨g, rfl, hg, f5⟩
  have HF5 := toHid10 (HF4.out.then7 f5)
  clear q3 f5 y0 y1 y2 y3 y4 y5 y6
  cases g with
  | true =>
    have HFW := toHid10 (HF3.out.then7 HF5.out)
    go_wp2_with fail
    go_ret
    exact ⟨rfl, HFW.out⟩
  | false =>
  have HW2 := toHid10 (hg rfl)
  clear hg
  obtain ⟨R1, hR1⟩ : ∃ R, rightP x = R := ⟨_, rfl⟩
  obtain ⟨R2, hR2⟩ : ∃ R, rightP y = R := ⟨_, rfl⟩
  have q4 := HR1.out HW1.out w5 (HF3.out.then7 HF5.out)
  rw [hR1] at q4
  rw [hR2] at HR2
  have HE1 := toHid10 hR1
  have HE2 := toHid10 hR2
  obtain ⟨x0, x1, x2, x3, x4, x5, x6⟩ := (HBX.out w5 HF5.out).cells
  clear hR1 hR2
  go_wp2_with fail
  with_reducible refine q4.mono ?_
  rintro e w6 ⟨rfl, f6⟩
  have HF6 := toHid10 (HF5.out.then7 f6)
  clear q4 f6 x0 x1 x2 x3 x4 x5 x6
  cases R1 with
  | false =>
    have HFW := toHid10 (HF3.out.then7 HF6.out)
    go_wp2_with fail
    go_ret
    exact ⟨rfl, HFW.out⟩
  | true =>
  have q5 := HR2.out HW2.out w6 (HF3.out.then7 HF6.out)
  obtain ⟨y0, y1, y2, y3, y4, y5, y6⟩ := (HBY.out w6 HF6.out).cells
  go_wp2_with fail
  with_reducible refine q5.mono ?_
  rintro e w7 ⟨rfl, f7⟩
  have HF7 := toHid10 (HF6.out.then7 f7)
  clear q5 f7 y0 y1 y2 y3 y4 y5 y6
  cases R2 with
  | false =>
    have HFW := toHid10 (HF3.out.then7 HF7.out)
    go_wp2_with fail
    go_ret
    exact ⟨rfl, HFW.out⟩
  | true =>
  have hcm := HLc.out HW1.out HW2.out HE1.out HE2.out
  obtain ⟨v1, v2⟩ := HWl.out.1 HW1.out
  obtain ⟨v3, v4⟩ := HWl.out.2 HW2.out
  have j1 : (no : Int) < 4000 := by omega
  have j2 : (nn : Int) < 4000 := by omega
  have j3 : (mo : Int) < 4000 := by omega
  have j4 : (mn : Int) < 4000 := by omega
  have HXk := toHid10 (show x.pos = (s : Int) ∧ y.pos = (t : Int) from by rw [HXY.out.1, HXY.out.2]; exact ⟨rfl, rfl⟩)
  clear v1 v2 v3 v4
  obtain ⟨a, b, r, hcc, hk⟩ : ∃ (a b : Pr) (r : Bool), commP x y = (a, b, r) ∧ (((s : Int) + nn < t ∧ a.pos = (t : Int) - nn + no ∧ b.pos = (s : Int) ∧ r = true) ∨ (¬ (s : Int) + nn < t ∧ (t : Int) + mo < s ∧ a.pos = (t : Int) ∧ b.pos = (s : Int) - mo + mn ∧ r = true) ∨ (¬ (s : Int) + nn < t ∧ ¬ (t : Int) + mo < s ∧ r = false)) := by
    by_cases k1 : (s : Int) + nn < t
    · rw [if_pos k1] at hcm
      exact ⟨_, _, _, hcm, Or.inl ⟨k1, by simp only; omega, HXk.out.1, rfl⟩⟩
    · rw [if_neg k1] at hcm
      by_cases k2 : (t : Int) + mo < s
      · rw [if_pos k2] at hcm
        exact ⟨_, _, _, hcm, Or.inr (Or.inl ⟨k1, k2, HXk.out.2, by simp only; omega, rfl⟩)⟩
      · rw [if_neg k2] at hcm
        exact ⟨_, _, _, hcm, Or.inr (Or.inr ⟨k1, k2, rfl⟩)⟩
  have q6 := HCm.out HW1.out HW2.out a b r hcc w7 (HF3.out.then7 HF7.out)
  obtain ⟨x0, x1, x2, x3, x4, x5, x6⟩ := (HBX.out w7 HF7.out).cells
  obtain ⟨y0, y1, y2, y3, y4, y5, y6⟩ := (HBY.out w7 HF7.out).cells
  have HK := toHid10 hk
  clear hcm hcc hk
  go_wp2_with fail
  with_reducible refine q6.mono ?_
  rintro e w8 ⟨po1, pn1, po2, pn2, co1, cn1, co2, cn2, rfl, _, f8⟩
  clear q6 x0 x1 x2 x3 x4 x5 x6 y0 y1 y2 y3 y4 y5 y6
  obtain ⟨w10, hw10⟩ : ∃ z, (w8.alloc (.cells #[.int .i64 a.kind, .string a.path, .string a.dst, .string a.src, .int .i64 a.pos, .slice po1 a.old.length co1, .slice pn1 a.new.length cn1] 24)).alloc (.cells #[.int .i64 b.kind, .string b.path, .string b.dst, .string b.src, .int .i64 b.pos, .slice po2 b.old.length co2, .slice pn2 b.new.length cn2] 24) = z := ⟨_, rfl⟩
  obtain ⟨Ba, Bb, F10⟩ := two_new hw10
  have z1 := Ba.cells.2.2.2.2.1
  have z2 := Bb.cells.2.2.2.2.1
  have HFW := toHid10 ((HF3.out.then7 HF7.out).then7 (f8.then7 F10))
  clear Ba Bb F10 f8
  rcases HK.out with ⟨k1, k2, k3, rfl⟩ | ⟨k1, k2, k3, k4, rfl⟩ | ⟨k1, k2, rfl⟩
  · rw [k2] at z1
    rw [k3] at z2
    clear HK k2 k3
    go_wp2_with fail
    go_ret
    exact ⟨rfl, HFW.out⟩
  · rw [k3] at z1
    rw [k4] at z2
    clear HK k3 k4
    go_wp2_with fail
    go_ret
    exact ⟨rfl, HFW.out⟩
  · clear HK
    go_wp2_with fail
    go_ret
    exact ⟨rfl, HFW.out⟩

end Go.Proofs.YtdkhccdclahbaaaGreatDoor
