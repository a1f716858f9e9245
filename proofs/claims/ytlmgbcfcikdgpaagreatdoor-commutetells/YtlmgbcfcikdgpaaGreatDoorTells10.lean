/-
  What is proved here: CommuteTells answers true. Conditions: its arguments lie in memory, and are no longer than the reach; Commute answers as it does.
-/
import Derived.Test.YtlmgbcfcikdgpaaGreatDoorHead10
import Derived.Test.YtlmgbcfcikdgpaaGreatDoorSame9
import Derived.Test.YtlmgbcfcikdgpaaGreatDoorGreat9
import Derived.Test.YtlmgbcfcikdgpaaGreatDoorRPA10
namespace Go.Proofs.YtlmgbcfcikdgpaaGreatDoor
open Go.RowKit
set_option maxRecDepth 100000

theorem weight_small10 {x : Pr} (h : x.weight < 4000) : SmallP x := by
  unfold Pr.weight at h
  exact ⟨by omega, by omega, by omega, by omega, by omega⟩

theorem comm_small {x y : Pr} (sx : SmallP x) (sy : SmallP y) (h : (commP x y).2.2 = true) : SmallP (commP x y).1 ∧ SmallP (commP x y).2.1 := by
  obtain ⟨h1, h2, h3, _⟩ := commP_yes h
  rw [h3]
  exact rule_small h1 h2 sx sy

theorem weight_lines {x : Pr} (h : x.weight < 4000) : LinesSmall x := by
  unfold Pr.weight at h
  exact ⟨fun z hz => by have := size_mem hz; omega, fun z hz => by have := size_mem hz; omega⟩

theorem past_factsT : ∀ (L : List Pr) (p : Pr), SmallP p → (∀ y ∈ L, SmallP y) → (pastP p L).2.2 = true → (pastP p L).1.length = L.length ∧ SmallP (pastP p L).2.1 ∧ ∀ y ∈ (pastP p L).1, SmallP y
  | [], p, sp, _, _ => ⟨rfl, sp, fun y hy => by simp [pastP] at hy⟩
  | q :: L, p, sp, sL, h => by
    simp only [pastP] at h ⊢
    by_cases hc : (commP p q).2.2 = true
    · rw [if_pos hc] at h ⊢
      obtain ⟨s1, s2⟩ := comm_small sp (sL q (List.mem_cons_self ..)) hc
      by_cases ht : (pastP (commP p q).2.1 L).2.2 = true
      · obtain ⟨i1, i2, i3⟩ := past_factsT L (commP p q).2.1 s2 (fun y hy => sL y (List.mem_cons_of_mem _ hy)) ht
        rw [if_pos ht]
        refine ⟨by simp [i1], i2, fun y hy => ?_⟩
        rcases List.mem_cons.1 hy with e | hy
        · rw [e]; exact s1
        · exact i3 y hy
      · rw [if_neg ht] at h
        simp at h
    · rw [if_neg hc] at h
      simp at h

theorem zero_small : SmallP zeroP := ⟨by decide, by decide, by decide, by decide, by decide⟩

/-- What Past answers, its rows named. -/
def PastT (A : List Pr) (b : Pr) (t : Bool) (w : World) (e : Ending) (w' : World) : Prop := ∃ (pg po pn : Option Addr) (pc co cn : Nat), e = .returned (.tuple #[.slice pg A.length pc, .agg #[.int .i64 b.kind, .string b.path, .string b.dst, .string b.src, .int .i64 b.pos, .slice po b.old.length co, .slice pn b.new.length cn], .bool t]) ∧ Hid (PrsAt w' pg A ∧ StrsAt w' (.slice po b.old.length co) b.old ∧ StrsAt w' (.slice pn b.new.length cn) b.new) ∧ Fr None' w w'

theorem PastPost.atT {x b : Pr} {L A : List Pr} {t : Bool} {w w' : World} {e : Ending} (hc : pastP x L = (A, b, t)) (h : PastPost x L w e w') : PastT A b t w e w' := by
  obtain ⟨va, vb, V, he, hO, ⟨vo, vn, rfl, s1, s2, _, _⟩, f⟩ := h
  rw [hc] at he hO s1 s2
  simp only at he hO s1 s2
  obtain ⟨pg, pc, rfl, _, hz, hP⟩ := hO.slice
  obtain ⟨po, co, rfl⟩ := s1.as2
  obtain ⟨pn, cn, rfl⟩ := s2.as2
  exact ⟨pg, po, pn, pc, co, cn, he, ⟨hP, s1, s2⟩, f⟩

theorem RPastPost.atT {x b : Pr} {L A : List Pr} {t : Bool} {w w' : World} {e : Ending} (hc : pastP x L = (A, b, t)) (h : RPastPost x L w e w') : PastT A b t w e w' := by
  obtain ⟨va, vb, V, he, hO, ⟨vo, vn, rfl, s1, s2⟩, f⟩ := h
  rw [hc] at he hO s1 s2
  simp only at he hO s1 s2
  obtain ⟨pg, pc, rfl, _, hz, hP⟩ := hO.slice
  obtain ⟨po, co, rfl⟩ := s1.as2
  obtain ⟨pn, cn, rfl⟩ := s2.as2
  exact ⟨pg, po, pn, pc, co, cn, he, ⟨hP, s1.kept f, s2.kept f⟩, f⟩

set_option maxHeartbeats 16000000 in
theorem tells_walk (hC : CommuteAll) (x y : Pr) (vo vn uo un : Value) (va : Option Addr) (n c : Nat) (L : List Pr) (W : World) (ho : StrsAt W vo x.old) (hn : StrsAt W vn x.new) (go : StrsAt W uo y.old) (gn : StrsAt W un y.new) (lo : x.old.length ≤ 140737488355328) (ln : x.new.length ≤ 140737488355328) (mo' : y.old.length ≤ 140737488355328) (mn' : y.new.length ≤ 140737488355328)
    (hl : L.length = n) (ha : PrsAt W va L) (_hc : va = none → c = 0) (hs : ∀ x ∈ L, x.old.length ≤ 140737488355328 ∧ x.new.length ≤ 140737488355328) :
    Calls Tryz.prog 3 #[.agg #[.int .i64 x.kind, .string x.path, .string x.dst, .string x.src, .int .i64 x.pos, vo, vn], .agg #[.int .i64 y.kind, .string y.path, .string y.dst, .string y.src, .int .i64 y.pos, uo, un], .slice va n c] W fun e w' => e = .returned (.bool true) ∧ Fr None' W w' := by
  obtain ⟨pa, ca, hva⟩ := ho.as2
  obtain ⟨pb, cb, hvb⟩ := hn.as2
  obtain ⟨qa, da, hua⟩ := go.as2
  obtain ⟨qb, db, hub⟩ := gn.as2
  have HG1 := toHid10 (fun w' (f : Fr None' W w') => pgreat_any x vo vn w' (ho.kept f) (hn.kept f) lo ln)
  have HG2 := toHid10 (fun w' (f : Fr None' W w') => pgreat_any y uo un w' (go.kept f) (gn.kept f) mo' mn')
  have HCm := toHid10 (fun (hx : x.weight < 4000) (hy : y.weight < 4000) w' (f : Fr None' W w') => (hC x y vo vn uo un w' (ho.kept f) (hn.kept f) (go.kept f) (gn.kept f) (weight_small10 hx) (weight_small10 hy)).mono (fun e w'' h => CommPost.at (a := (commP x y).1) (b := (commP x y).2.1) (r := (commP x y).2.2) rfl h))
  have HG3 := toHid10 (fun w' (f : Fr None' W w') => pgreats_any va n c L w' hl (ha.kept f) hs)
  have HRc := toHid10 (fun (hx : x.weight < 4000) (hy : y.weight < 4000) w' (f : Fr None' W w') => (rcommute_any x y vo vn uo un w' w' (ho.kept f) (hn.kept f) (go.kept f) (gn.kept f) (Fr.refl _ _) (weight_small10 hx) (weight_small10 hy) (weight_lines hx) (weight_lines hy)).mono (fun e w'' h => RCommPost.at (c1 := (commP x y).1) (c2 := (commP x y).2.1) (t := (commP x y).2.2) rfl h))
  have HPa := toHid10 (fun (hx : x.weight < 4000) (hL : n ≤ 60 ∧ ∀ y ∈ L, y.weight < 4000) w' (f : Fr None' W w') => (past_any hC x vo vn va n c L w' (ho.kept f) (hn.kept f) (weight_small10 hx) hl (by omega) (ha.kept f) (fun y hy => weight_small10 (hL.2 y hy))).mono (fun e w'' h => PastPost.atT (A := (pastP x L).1) (b := (pastP x L).2.1) (t := (pastP x L).2.2) rfl h))
  have HRp := toHid10 (fun (hx : x.weight < 4000) (hL : n ≤ 60 ∧ ∀ y ∈ L, y.weight < 4000) w' (f : Fr None' W w') => (rpast_any x vo vn va n c L w' (ho.kept f) (hn.kept f) (weight_small10 hx) (weight_lines hx) hl (by omega) (ha.kept f) (fun y hy => ⟨weight_small10 (hL.2 y hy), weight_lines (hL.2 y hy)⟩)).mono (fun e w'' h => RPastPost.atT (A := (pastP x L).1) (b := (pastP x L).2.1) (t := (pastP x L).2.2) rfl h))
  subst hva hvb hua hub
  obtain ⟨no, hno⟩ : ∃ m, x.old.length = m := ⟨_, rfl⟩
  obtain ⟨nn, hnn⟩ : ∃ m, x.new.length = m := ⟨_, rfl⟩
  obtain ⟨mo, hmo⟩ : ∃ m, y.old.length = m := ⟨_, rfl⟩
  obtain ⟨mn, hmn⟩ : ∃ m, y.new.length = m := ⟨_, rfl⟩
  unfold CommC at HCm
  unfold RCommC at HRc
  unfold PastT at HPa HRp
  rw [hno] at HG1 HCm HRc HPa HRp
  rw [hnn] at HG1 HCm HRc HPa HRp
  rw [hmo] at HG2 HCm HRc
  rw [hmn] at HG2 HCm HRc
  rw [hno, hnn, hmo, hmn]
  obtain ⟨w1, hw1⟩ : ∃ w1, W.alloc (.cells #[.int .i64 x.kind, .string x.path, .string x.dst, .string x.src, .int .i64 x.pos, .slice pa no ca, .slice pb nn cb] 24) = w1 := ⟨_, rfl⟩
  obtain ⟨w2, hw2⟩ : ∃ w2, w1.alloc (.cells #[.int .i64 y.kind, .string y.path, .string y.dst, .string y.src, .int .i64 y.pos, .slice qa mo da, .slice qb mn db] 24) = w2 := ⟨_, rfl⟩
  have F1 : Fr None' W w1 := hw1 ▸ Fr.alloc None' _ _
  have F2 : Fr None' w1 w2 := hw2 ▸ Fr.alloc None' _ _
  have HBX := toHid10 (show ∀ w', Fr None' w2 w' → Box w' W.heap.size (.int .i64 x.kind) (.string x.path) (.string x.dst) (.string x.src) (.int .i64 x.pos) (.slice pa no ca) (.slice pb nn cb) from fun w' f => ((hw1 ▸ Box.new W _ _ _ _ _ _ _ : Box w1 _ _ _ _ _ _ _ _).kept F2).kept f)
  have HBY := toHid10 (show ∀ w', Fr None' w2 w' → Box w' w1.heap.size (.int .i64 y.kind) (.string y.path) (.string y.dst) (.string y.src) (.int .i64 y.pos) (.slice qa mo da) (.slice qb mn db) from fun w' f => (hw2 ▸ Box.new w1 _ _ _ _ _ _ _ : Box w2 _ _ _ _ _ _ _ _).kept f)
  have HF2 := toHid10 (F1.then7 F2)
  have q1 := head_any hC w2
  have HLn := toHid10 hl
  clear ho hn go gn lo ln mo' mn' F1 F2 hno hnn hmo hmn hC hl ha hs
  go_enter Tryz.func3, Tryz.ntmps3
  go_wp2_with fail
  with_reducible refine q1.mono ?_
  rintro e w3 ⟨rfl, f3⟩
  have HF3 := toHid10 f3
  obtain ⟨x0, x1, x2, x3, x4, x5, x6⟩ := (HBX.out w3 f3).cells
  have q2 := HG1.out w3 (HF2.out.then7 f3)
  clear q1 f3
  go_wp2_with fail
  with_reducible refine q2.mono ?_
  rintro e w4 ⟨g, rfl, hg, f4⟩
  have HF4 := toHid10 (HF3.out.then7 f4)
  clear q2 f4 x0 x1 x2 x3 x4 x5 x6
  cases g with
  | true =>
    have HFW := toHid10 (HF2.out.then7 HF4.out)
    go_wp2_with fail
    go_ret
    exact ⟨rfl, HFW.out⟩
  | false =>
  have HW1 := toHid10 (hg rfl)
  clear hg
  obtain ⟨y0, y1, y2, y3, y4, y5, y6⟩ := (HBY.out w4 HF4.out).cells
  have q3 := HG2.out w4 (HF2.out.then7 HF4.out)
  go_wp2_with fail
  with_reducible refine q3.mono ?_
  rintro e w5 ⟨g, rfl, hg, f5⟩
  have HF5 := toHid10 (HF4.out.then7 f5)
  clear q3 f5 y0 y1 y2 y3 y4 y5 y6
  cases g with
  | true =>
    have HFW := toHid10 (HF2.out.then7 HF5.out)
    go_wp2_with fail
    go_ret
    exact ⟨rfl, HFW.out⟩
  | false =>
  have HW2 := toHid10 (hg rfl)
  clear hg
  have q6 := HG3.out w5 (HF2.out.then7 HF5.out)
  go_wp2_with fail
  with_reducible refine q6.mono ?_
  rintro e w6 ⟨g, rfl, hg, f6⟩
  have HF6 := toHid10 (HF5.out.then7 f6)
  clear q6 f6
  cases g with
  | true =>
    have HFW := toHid10 (HF2.out.then7 HF6.out)
    go_wp2_with fail
    go_ret
    exact ⟨rfl, HFW.out⟩
  | false =>
  have HW3 := toHid10 (hg rfl)
  clear hg HG1 HG2 HG3
  have HSm := toHid10 (show (SmallP (commP x y).1 ∧ SmallP (commP x y).2.1) ∧ SmallP (pastP x L).2.1 ∧ (∀ z ∈ (pastP x L).1, SmallP z) ∧ (pastP x L).1.length ≤ 60 from by
    refine ⟨?_, ?_⟩
    · cases h : (commP x y).2.2 with
      | true => exact comm_small (weight_small10 HW1.out) (weight_small10 HW2.out) h
      | false => rw [commP_no h]; exact ⟨zero_small, zero_small⟩
    · cases h : (pastP x L).2.2 with
      | true =>
        obtain ⟨k1, k2, k3⟩ := past_factsT L x (weight_small10 HW1.out) (fun z hz => weight_small10 (HW3.out.2 z hz)) h
        exact ⟨k2, k3, by rw [k1, HLn.out]; exact HW3.out.1⟩
      | false => rw [past_no h]; exact ⟨zero_small, fun z hz => (by cases hz), by simp⟩)
  have q7 := HCm.out HW1.out HW2.out w6 (HF2.out.then7 HF6.out)
  replace HRc := toHid10 (HRc.out HW1.out HW2.out)
  replace HPa := toHid10 (HPa.out HW1.out HW3.out)
  replace HRp := toHid10 (HRp.out HW1.out HW3.out)
  generalize commP x y = cc at q7 HRc HSm
  obtain ⟨a, b, r⟩ := cc
  generalize pastP x L = pp at HPa HRp HSm
  obtain ⟨M, e, s⟩ := pp
  simp only at q7 HRc HPa HRp HSm
  obtain ⟨x0, x1, x2, x3, x4, x5, x6⟩ := (HBX.out w6 HF6.out).cells
  obtain ⟨y0, y1, y2, y3, y4, y5, y6⟩ := (HBY.out w6 HF6.out).cells
  clear HCm
  go_wp2_with fail
  with_reducible refine q7.mono ?_
  rintro e' w7 ⟨po1, pn1, po2, pn2, co1, cn1, co2, cn2, rfl, HS7, f7⟩
  obtain ⟨w8, hw8⟩ : ∃ w8, (w7.alloc (.cells #[.int .i64 a.kind, .string a.path, .string a.dst, .string a.src, .int .i64 a.pos, .slice po1 a.old.length co1, .slice pn1 a.new.length cn1] 24)).alloc (.cells #[.int .i64 b.kind, .string b.path, .string b.dst, .string b.src, .int .i64 b.pos, .slice po2 b.old.length co2, .slice pn2 b.new.length cn2] 24) = w8 := ⟨_, rfl⟩
  obtain ⟨B8a, B8b, F8⟩ := two_new hw8
  have HF8 := toHid10 (HF6.out.then7 (f7.then7 F8))
  have HK8 := toHid10 (show ∀ w', Fr None' w8 w' → (Box w' w7.heap.size (.int .i64 a.kind) (.string a.path) (.string a.dst) (.string a.src) (.int .i64 a.pos) (.slice po1 a.old.length co1) (.slice pn1 a.new.length cn1) ∧ Box w' (w7.heap.size + 1) (.int .i64 b.kind) (.string b.path) (.string b.dst) (.string b.src) (.int .i64 b.pos) (.slice po2 b.old.length co2) (.slice pn2 b.new.length cn2)) ∧ (StrsAt w' (.slice po1 a.old.length co1) a.old ∧ StrsAt w' (.slice pn1 a.new.length cn1) a.new) ∧ StrsAt w' (.slice po2 b.old.length co2) b.old ∧ StrsAt w' (.slice pn2 b.new.length cn2) b.new from fun w' f => ⟨⟨B8a.kept f, B8b.kept f⟩, ⟨HS7.out.1.1.kept (F8.then7 f), HS7.out.1.2.kept (F8.then7 f)⟩, HS7.out.2.1.kept (F8.then7 f), HS7.out.2.2.kept (F8.then7 f)⟩)
  clear q7 f7 F8 B8a B8b HS7 x0 x1 x2 x3 x4 x5 x6 y0 y1 y2 y3 y4 y5 y6
  have q8 := HRc.out w8 (HF2.out.then7 HF8.out)
  obtain ⟨x0, x1, x2, x3, x4, x5, x6⟩ := (HBX.out w8 HF8.out).cells
  obtain ⟨y0, y1, y2, y3, y4, y5, y6⟩ := (HBY.out w8 HF8.out).cells
  go_wp2_with fail
  with_reducible refine q8.mono ?_
  rintro e' w9 ⟨po3, pn3, po4, pn4, co3, cn3, co4, cn4, rfl, HS9, f9⟩
  obtain ⟨w10, hw10⟩ : ∃ w10, (w9.alloc (.cells #[.int .i64 a.kind, .string a.path, .string a.dst, .string a.src, .int .i64 a.pos, .slice po3 a.old.length co3, .slice pn3 a.new.length cn3] 24)).alloc (.cells #[.int .i64 b.kind, .string b.path, .string b.dst, .string b.src, .int .i64 b.pos, .slice po4 b.old.length co4, .slice pn4 b.new.length cn4] 24) = w10 := ⟨_, rfl⟩
  obtain ⟨B10a, B10b, F10⟩ := two_new hw10
  have HF10 := toHid10 (show Fr None' w8 w10 from f9.then7 F10)
  have HK10 := toHid10 (show ∀ w', Fr None' w10 w' → (Box w' w9.heap.size (.int .i64 a.kind) (.string a.path) (.string a.dst) (.string a.src) (.int .i64 a.pos) (.slice po3 a.old.length co3) (.slice pn3 a.new.length cn3) ∧ Box w' (w9.heap.size + 1) (.int .i64 b.kind) (.string b.path) (.string b.dst) (.string b.src) (.int .i64 b.pos) (.slice po4 b.old.length co4) (.slice pn4 b.new.length cn4)) ∧ (StrsAt w' (.slice po3 a.old.length co3) a.old ∧ StrsAt w' (.slice pn3 a.new.length cn3) a.new) ∧ StrsAt w' (.slice po4 b.old.length co4) b.old ∧ StrsAt w' (.slice pn4 b.new.length cn4) b.new from fun w' f => by
    have f' := (f9.then7 F10).then7 f
    exact ⟨⟨B10a.kept f, B10b.kept f⟩, ⟨HS9.out.1.1.kept f', HS9.out.1.2.kept f'⟩, HS9.out.2.1.kept f', HS9.out.2.2.kept f'⟩)
  clear q8 f9 F10 B10a B10b HS9 x0 x1 x2 x3 x4 x5 x6 y0 y1 y2 y3 y4 y5 y6
  have q9 := HPa.out w10 (HF2.out.then7 (HF8.out.then7 HF10.out))
  obtain ⟨x0, x1, x2, x3, x4, x5, x6⟩ := (HBX.out w10 (HF8.out.then7 HF10.out)).cells
  go_wp2_with fail
  with_reducible refine q9.mono ?_
  rintro e' w11 ⟨pg1, po5, pn5, pc1, co5, cn5, rfl, HS11, f11⟩
  obtain ⟨w12, hw12⟩ : ∃ w12, w11.alloc (.cells #[.int .i64 e.kind, .string e.path, .string e.dst, .string e.src, .int .i64 e.pos, .slice po5 e.old.length co5, .slice pn5 e.new.length cn5] 24) = w12 := ⟨_, rfl⟩
  have F12 : Fr None' w11 w12 := hw12 ▸ Fr.alloc None' _ _
  have HF12 := toHid10 (show Fr None' w10 w12 from f11.then7 F12)
  have HK12 := toHid10 (show ∀ w', Fr None' w12 w' → Box w' w11.heap.size (.int .i64 e.kind) (.string e.path) (.string e.dst) (.string e.src) (.int .i64 e.pos) (.slice po5 e.old.length co5) (.slice pn5 e.new.length cn5) ∧ PrsAt w' pg1 M ∧ StrsAt w' (.slice po5 e.old.length co5) e.old ∧ StrsAt w' (.slice pn5 e.new.length cn5) e.new from fun w' f => ⟨(hw12 ▸ Box.new w11 _ _ _ _ _ _ _ : Box w12 _ _ _ _ _ _ _ _).kept f, HS11.out.1.kept (F12.then7 f), HS11.out.2.1.kept (F12.then7 f), HS11.out.2.2.kept (F12.then7 f)⟩)
  clear q9 f11 F12 HS11 x0 x1 x2 x3 x4 x5 x6
  have q10 := HRp.out w12 (HF2.out.then7 (HF8.out.then7 (HF10.out.then7 HF12.out)))
  obtain ⟨x0, x1, x2, x3, x4, x5, x6⟩ := (HBX.out w12 (HF8.out.then7 (HF10.out.then7 HF12.out))).cells
  go_wp2_with fail
  with_reducible refine q10.mono ?_
  rintro e' w13 ⟨pg2, po6, pn6, pc2, co6, cn6, rfl, HS13, f13⟩
  obtain ⟨w14, hw14⟩ : ∃ w14, w13.alloc (.cells #[.int .i64 e.kind, .string e.path, .string e.dst, .string e.src, .int .i64 e.pos, .slice po6 e.old.length co6, .slice pn6 e.new.length cn6] 24) = w14 := ⟨_, rfl⟩
  have F14 : Fr None' w13 w14 := hw14 ▸ Fr.alloc None' _ _
  have HF14 := toHid10 (show Fr None' w12 w14 from f13.then7 F14)
  have HK14 := toHid10 (show ∀ w', Fr None' w14 w' → Box w' w13.heap.size (.int .i64 e.kind) (.string e.path) (.string e.dst) (.string e.src) (.int .i64 e.pos) (.slice po6 e.old.length co6) (.slice pn6 e.new.length cn6) ∧ PrsAt w' pg2 M ∧ StrsAt w' (.slice po6 e.old.length co6) e.old ∧ StrsAt w' (.slice pn6 e.new.length cn6) e.new from fun w' f => ⟨(hw14 ▸ Box.new w13 _ _ _ _ _ _ _ : Box w14 _ _ _ _ _ _ _ _).kept f, HS13.out.1.kept (F14.then7 f), HS13.out.2.1.kept (F14.then7 f), HS13.out.2.2.kept (F14.then7 f)⟩)
  have HL14 := toHid10 (show ∀ w', Fr None' w14 w' → Fr None' w8 w' ∧ Fr None' w10 w' ∧ Fr None' w12 w' from fun w' f => ⟨(HF10.out.then7 (HF12.out.then7 HF14.out)).then7 f, (HF12.out.then7 HF14.out).then7 f, HF14.out.then7 f⟩)
  have HWW := toHid10 (HF2.out.then7 (HF8.out.then7 (HF10.out.then7 (HF12.out.then7 HF14.out))))
  clear q10 f13 F14 HS13 x0 x1 x2 x3 x4 x5 x6 HRc HPa HRp
  have HQ1 := toHid10 (fun w' (f : Fr None' w14 w') => psame_any a _ _ _ _ w' (HK8.out w' (HL14.out w' f).1).2.1.1 (HK8.out w' (HL14.out w' f).1).2.1.2 (HK10.out w' (HL14.out w' f).2.1).2.1.1 (HK10.out w' (HL14.out w' f).2.1).2.1.2 (by have := HSm.out.1.1.old; omega) (by have := HSm.out.1.1.new; omega))
  have HQ2 := toHid10 (fun w' (f : Fr None' w14 w') => psame_any b _ _ _ _ w' (HK8.out w' (HL14.out w' f).1).2.2.1 (HK8.out w' (HL14.out w' f).1).2.2.2 (HK10.out w' (HL14.out w' f).2.1).2.2.1 (HK10.out w' (HL14.out w' f).2.1).2.2.2 (by have := HSm.out.1.2.old; omega) (by have := HSm.out.1.2.new; omega))
  have HQ3 := toHid10 (fun w' (f : Fr None' w14 w') => psames_any pg1 pg2 M.length pc1 pc2 M w' rfl (HK12.out w' (HL14.out w' f).2.2).2.1 (HK14.out w' f).2.1 (by have := HSm.out.2.2.2; omega) (fun z hz => by have h1 := (HSm.out.2.2.1 z hz).old; have h2 := (HSm.out.2.2.1 z hz).new; omega))
  have HQ4 := toHid10 (fun w' (f : Fr None' w14 w') => psame_any e _ _ _ _ w' (HK12.out w' (HL14.out w' f).2.2).2.2.1 (HK12.out w' (HL14.out w' f).2.2).2.2.2 (HK14.out w' f).2.2.1 (HK14.out w' f).2.2.2 (by have := HSm.out.2.1.old; omega) (by have := HSm.out.2.1.new; omega))
  have fr := Fr.refl None' w14
  have q11 := HQ1.out w14 fr
  obtain ⟨d0, d1, d2, d3, d4, d5, d6⟩ := (HK8.out w14 (HL14.out w14 fr).1).1.1.cells
  obtain ⟨e0, e1, e2, e3, e4, e5, e6⟩ := (HK10.out w14 (HL14.out w14 fr).2.1).1.1.cells
  clear fr
  go_wp2_with fail
  with_reducible refine q11.mono ?_
  rintro e' w15 ⟨rfl, f15⟩
  have HG := toHid10 f15
  clear q11 f15 d0 d1 d2 d3 d4 d5 d6 e0 e1 e2 e3 e4 e5 e6
  have q12 := HQ2.out w15 HG.out
  obtain ⟨d0, d1, d2, d3, d4, d5, d6⟩ := (HK8.out w15 (HL14.out w15 HG.out).1).1.2.cells
  obtain ⟨e0, e1, e2, e3, e4, e5, e6⟩ := (HK10.out w15 (HL14.out w15 HG.out).2.1).1.2.cells
  go_wp2_with fail
  with_reducible refine q12.mono ?_
  rintro e' w16 ⟨rfl, f16⟩
  replace HG := toHid10 (HG.out.then7 f16)
  clear q12 f16 d0 d1 d2 d3 d4 d5 d6 e0 e1 e2 e3 e4 e5 e6
  have q13 := HQ3.out w16 HG.out
  go_wp2_with fail
  with_reducible refine q13.mono ?_
  rintro e' w17 ⟨rfl, f17⟩
  replace HG := toHid10 (HG.out.then7 f17)
  clear q13 f17
  have q14 := HQ4.out w17 HG.out
  obtain ⟨d0, d1, d2, d3, d4, d5, d6⟩ := (HK12.out w17 (HL14.out w17 HG.out).2.2).1.cells
  obtain ⟨e0, e1, e2, e3, e4, e5, e6⟩ := (HK14.out w17 HG.out).1.cells
  go_wp2_with fail
  with_reducible refine q14.mono ?_
  rintro e' w18 ⟨rfl, f18⟩
  have HFW := toHid10 ((HWW.out.then7 HG.out).then7 f18)
  clear q14 f18 d0 d1 d2 d3 d4 d5 d6 e0 e1 e2 e3 e4 e5 e6
  go_wp2_with fail
  go_ret
  exact ⟨rfl, HFW.out⟩

end Go.Proofs.YtlmgbcfcikdgpaaGreatDoor
