/-
  What is proved here: the contracts that the statement stands on: Chg8, Do8, All8. Conditions: as each theorem names them.
-/
import Derived.Test.YtcpjneejlfgkeaaGreatDoorM26With8
import Derived.Test.YtcpjneejlfgkeaaGreatDoorM32WithL8
import Derived.Test.YtcpjneejlfgkeaaGreatDoorM35Tok8
import Derived.Test.YtcpjneejlfgkeaaGreatDoorM7Strs9
import Derived.Test.YtcpjneejlfgkeaaGreatDoorMRule8
import Derived.Test.YtcpjneejlfgkeaaGreatDoorM8Runs8
import Derived.Test.YtcpjneejlfgkeaaGreatDoorM25Empty8
import Derived.Test.YtcpjneejlfgkeaaGreatDoorM21RightT
import Derived.Test.YtcpjneejlfgkeaaGreatDoorM22RFindE
namespace Go.Proofs.YtcpjneejlfgkeaaGreatDoor
open Go.RowKit Go.Maps Go.WideMaps
set_option maxRecDepth 100000

def chgE (L : List En) (p : Pr) (k : Int) : List En × Int := if hasE L (bl p.path) k ≠ 0 then (L, hasE L (bl p.path) k) else match findE L (bl p.path) with
  | none => (L, 72)
  | some x => match withE x p with
    | none => (L, 81)
    | some y => (putE L y, 0)

theorem chgE_no {L : List En} {p : Pr} {k : Int} (h : hasE L (bl p.path) k ≠ 0) : chgE L p k = (L, hasE L (bl p.path) k) := by
  unfold chgE; rw [if_pos h]

theorem chgE_none {L : List En} {p : Pr} {k : Int} (h : hasE L (bl p.path) k = 0) {x : En} (hx : findE L (bl p.path) = some x) (hw : withE x p = none) : chgE L p k = (L, 81) := by
  unfold chgE; rw [if_neg (by simpa using h), hx]; simp only [hw]

theorem chgE_some {L : List En} {p : Pr} {k : Int} (h : hasE L (bl p.path) k = 0) {x y : En} (hx : findE L (bl p.path) = some x) (hw : withE x p = some y) : chgE L p k = (putE L y, 0) := by
  unfold chgE; rw [if_neg (by simpa using h), hx]; simp only [hw]

set_option maxHeartbeats 8000000 in
theorem change7_any (b : Nat) (T : List Th) (p : Pr) (vo vn : Value) (k : Int) (g c : Nat) (w : World) (h : ThAt w b T.length T) (hn : T.length ≤ 90000) (ho : StrsAt w vo p.old) (hw : StrsAt w vn p.new) (hp : p.path.size ≤ 1000000) (hg : w.cell? ⟨g, 0, none⟩ = some (.int .i64 k)) (hc : w.cell? ⟨c, 0, none⟩ = some (.func (.func 60) #[] #[]))
    (hf : ∀ t ∈ T, ∀ w', Fr None' w w' → Calls Tryz.prog 60 #[.agg #[.string t.x.path, .int .i64 t.x.kind, .slice t.u.1 t.u.2.1 t.u.2.2, .string t.x.data], .agg #[.int .i64 p.kind, .string p.path, .string p.dst, .string p.src, .int .i64 p.pos, vo, vn]] w' fun e w'' => WithPost (withE t.x p) w' e w'') :
    Calls Tryz.prog 80 #[.map (some b), .agg #[.int .i64 p.kind, .string p.path, .string p.dst, .string p.src, .int .i64 p.pos, vo, vn], .pointer (some ⟨g, 0, none⟩), .pointer (some ⟨c, 0, none⟩)] w fun e w' => DoPost (chgE (ens T) p k) b w e w' := by
  obtain ⟨pa, ca, rfl, _⟩ := ho
  obtain ⟨pb, cb, rfl, _⟩ := hw
  have HG := toHid8 hg
  have HC := toHid8 hc
  have HT := toHid8 h
  have HFn := toHid8 hf
  obtain ⟨w1, hw1⟩ : ∃ w1, w.alloc (.cells #[.int .i64 p.kind, .string p.path, .string p.dst, .string p.src, .int .i64 p.pos, .slice pa p.old.length ca, .slice pb p.new.length cb] 25) = w1 := ⟨_, rfl⟩
  have F1 : Fr None' w w1 := hw1 ▸ Fr.alloc None' w _
  have BP : Box w1 w.heap.size (.int .i64 p.kind) (.string p.path) (.string p.dst) (.string p.src) (.int .i64 p.pos) (.slice pa p.old.length ca) (.slice pb p.new.length cb) := hw1 ▸ Box.new w _ _ _ _ _ _ _
  obtain ⟨p0, p1, p2, p3, p4, p5, p6⟩ := BP.cells
  have g1 := F1.keepCell hg (fun e => e)
  have cF := has8_any b T.length T p.path k w1 (h.kept F1) hp
  have HB := toHid8 BP
  have HF1 := toHid8 F1
  have hkS := keyS p.path (by unfold maxLen; omega)
  clear F1 BP hg hc h hf
  by_cases hr : hasE (ens T) (bl p.path) k = 0
  · obtain ⟨x, hx, hxk⟩ := hasE_zero.1 hr
    clear hxk
    have hx' := hx
    rw [← ens_get] at hx'
    obtain ⟨t, ht, rfl⟩ := Option.map_eq_some_iff.1 hx'
    obtain ⟨htm, htk⟩ := get8_mem ht
    have HNo := toHid8 (fun (hz : withE t.x p = none) => chgE_none hr hx hz)
    have HYes := toHid8 (fun y (hz : withE t.x p = some y) => chgE_some hr hx hz)
    have HKey := toHid8 (show ∀ y, withE t.x p = some y → bl y.path = bl p.path from fun y hy => by rw [(with_facts hy).1]; exact htk)
    rw [hr] at cF
    have HW := toHid8 (HFn.out t htm)
    have HLk := toHid8 (fun w' (f : Fr None' w w') => show (Instr.lookup 68 (.map (some b)) (.string p.path) false).run Tryz.prog w' = .ok (.agg #[.string t.x.path, .int .i64 t.x.kind, .slice t.u.1 t.u.2.1 t.u.2.2, .string t.x.data]) w' from by
      have := (HT.out.kept f).look p.path (by unfold maxLen; omega)
      rw [ht] at this
      exact this)
    clear hr hx hx' ht htm htk HFn
    generalize hR : withE t.x p = R at HNo HYes HKey HW
    clear hR
    obtain ⟨⟨P, K, l, D⟩, a, m, u⟩ := t
    simp only at HW HLk
    go_enter Tryz.func80, Tryz.ntmps80
    go_wp2_with fail
    with_reducible refine cF.mono ?_
    rintro e w2 ⟨rfl, f2⟩
    clear cF p0 p1 p2 p3 p4 p5 p6 g1
    have HF2 := toHid8 (HF1.out.then7 f2)
    have HB2 := toHid8 (HB.out.kept f2)
    obtain ⟨p0, p1, p2, p3, p4, p5, p6⟩ := HB2.out.cells
    have g2 := HF2.out.keepCell HC.out (fun e => e)
    have hlk := HLk.out w2 HF2.out
    have cW := HW.out w2 HF2.out
    clear f2 HB
    go_wp2_with fail
    with_reducible refine cW.mono ?_
    rintro e w3 ⟨P', K', ua, um, uc, D', b', rfl, Hb, HN, f3⟩
    clear cW hlk p0 p1 p2 p3 p4 p5 p6 g2
    obtain ⟨p0, p1, p2, p3, p4, p5, p6⟩ := (HB2.out.kept f3).cells
    have HF3 := toHid8 (HF2.out.then7 f3)
    clear f3
    cases b' with
    | false =>
      have HR := toHid8 (show R = none from by
        have := Hb.out
        cases R with
        | none => rfl
        | some y => cases this)
      have HM := toHid8 (HT.out.kept (HF3.out.then7 (Fr.alloc None' w3 (.cells #[.string P', .int .i64 K', .slice ua um uc, .string D'] 41))))
      clear p0 p1 p2 p3 p4 p5 p6
      go_wp2_with fail
      go_ret
      rw [HNo.out HR.out]
      exact ⟨T, rfl, HM.out, rfl, (HF3.out.then7 (Fr.alloc None' _ _)).any⟩
    | true =>
      obtain ⟨y, hy⟩ : ∃ y, R = some y := by
        have := Hb.out
        cases R with
        | none => cases this
        | some y => exact ⟨y, rfl⟩
      obtain ⟨rfl, rfl, rfl, hst⟩ := HN.out y hy
      have HY := toHid8 hy
      obtain ⟨w4, hw4⟩ : ∃ w4, w3.alloc (.cells #[.string y.path, .int .i64 y.kind, .slice ua um uc, .string y.data] 41) = w4 := ⟨_, rfl⟩
      have F4 : Fr None' w3 w4 := hw4 ▸ Fr.alloc None' w3 _
      obtain ⟨e0, e1, e2, e3⟩ := (hw4 ▸ EBox.new w3 _ _ _ _ : EBox w4 w3.heap.size (.string y.path) (.int .i64 y.kind) (.slice ua um uc) (.string y.data)).cells
      replace p1 := F4.keepCell p1 (fun e => e)
      have T4 := HT.out.kept (HF3.out.then7 F4)
      have HM := toHid8 T4
      have hown := T4.map
      have HS4 := toHid8 (hst.kept F4)
      have HF4 := toHid8 (HF3.out.then7 F4)
      clear hst F4 T4 hy p0 p2 p3 p4 p5 p6 HN Hb
      go_wp2_with (first
        | (at_mapUpdate; refine wpList_mapUpdate_in _ rfl _ _ _ 68 rfl 9 41 lawS Tryz.underlying68 heldE b T.length _ rfl hown (by unfold maxLen; omega) _ _ _ rfl rfl hkS _ [] (heldE_th ⟨y, ua, um, uc⟩) ?_; intro w5 hown5 hturn5)
        | go_in)
      go_ret
      rw [HYes.out y HY.out]
      rw [← HKey.out y HY.out] at hown5
      have hP := HM.out.put (t := ⟨y, ua, um, uc⟩) HS4.out hown5 hturn5
      exact ⟨_, rfl, hP.tight, ens_put _ _, (HF4.out.any).then (Fr.turned hturn5 rfl)⟩
  · have HA := toHid8 (chgE_no (p := p) hr)
    rw [HA.out]
    generalize hasE (ens T) (bl p.path) k = r at cF hr
    have hr2 : (r == 0) = false := by simpa using hr
    clear HFn HA
    go_enter Tryz.func80, Tryz.ntmps80
    go_wp2_with fail
    with_reducible refine cF.mono ?_
    rintro e w2 ⟨rfl, f2⟩
    clear cF p0 p1 p2 p3 p4 p5 p6 g1
    have HF2 := toHid8 (HF1.out.then7 f2)
    have HM := toHid8 (HT.out.kept HF2.out)
    clear f2
    go_wp2_with fail
    go_ret
    exact ⟨T, rfl, HM.out, rfl, HF2.out.any⟩

set_option maxHeartbeats 8000000 in
theorem change8_any (b : Nat) (T : List Th) (p : Pr) (vo vn : Value) (k : Int) (g c : Nat) (w : World) (h : ThAt w b T.length T) (hn : T.length ≤ 90000) (ho : StrsAt w vo p.old) (hw : StrsAt w vn p.new) (hp : p.path.size ≤ 1000000) (hg : w.cell? ⟨g, 0, none⟩ = some (.int .i64 k)) (hc : w.cell? ⟨c, 0, none⟩ = some (.func (.func 62) #[] #[]))
    (hf : ∀ t ∈ T, ∀ w', Fr None' w w' → Calls Tryz.prog 62 #[.agg #[.string t.x.path, .int .i64 t.x.kind, .slice t.u.1 t.u.2.1 t.u.2.2, .string t.x.data], .agg #[.int .i64 p.kind, .string p.path, .string p.dst, .string p.src, .int .i64 p.pos, vo, vn]] w' fun e w'' => WithPost (withE t.x p) w' e w'') :
    Calls Tryz.prog 80 #[.map (some b), .agg #[.int .i64 p.kind, .string p.path, .string p.dst, .string p.src, .int .i64 p.pos, vo, vn], .pointer (some ⟨g, 0, none⟩), .pointer (some ⟨c, 0, none⟩)] w fun e w' => DoPost (chgE (ens T) p k) b w e w' := by
  obtain ⟨pa, ca, rfl, _⟩ := ho
  obtain ⟨pb, cb, rfl, _⟩ := hw
  have HG := toHid8 hg
  have HC := toHid8 hc
  have HT := toHid8 h
  have HFn := toHid8 hf
  obtain ⟨w1, hw1⟩ : ∃ w1, w.alloc (.cells #[.int .i64 p.kind, .string p.path, .string p.dst, .string p.src, .int .i64 p.pos, .slice pa p.old.length ca, .slice pb p.new.length cb] 25) = w1 := ⟨_, rfl⟩
  have F1 : Fr None' w w1 := hw1 ▸ Fr.alloc None' w _
  have BP : Box w1 w.heap.size (.int .i64 p.kind) (.string p.path) (.string p.dst) (.string p.src) (.int .i64 p.pos) (.slice pa p.old.length ca) (.slice pb p.new.length cb) := hw1 ▸ Box.new w _ _ _ _ _ _ _
  obtain ⟨p0, p1, p2, p3, p4, p5, p6⟩ := BP.cells
  have g1 := F1.keepCell hg (fun e => e)
  have cF := has8_any b T.length T p.path k w1 (h.kept F1) hp
  have HB := toHid8 BP
  have HF1 := toHid8 F1
  have hkS := keyS p.path (by unfold maxLen; omega)
  clear F1 BP hg hc h hf
  by_cases hr : hasE (ens T) (bl p.path) k = 0
  · obtain ⟨x, hx, hxk⟩ := hasE_zero.1 hr
    clear hxk
    have hx' := hx
    rw [← ens_get] at hx'
    obtain ⟨t, ht, rfl⟩ := Option.map_eq_some_iff.1 hx'
    obtain ⟨htm, htk⟩ := get8_mem ht
    have HNo := toHid8 (fun (hz : withE t.x p = none) => chgE_none hr hx hz)
    have HYes := toHid8 (fun y (hz : withE t.x p = some y) => chgE_some hr hx hz)
    have HKey := toHid8 (show ∀ y, withE t.x p = some y → bl y.path = bl p.path from fun y hy => by rw [(with_facts hy).1]; exact htk)
    rw [hr] at cF
    have HW := toHid8 (HFn.out t htm)
    have HLk := toHid8 (fun w' (f : Fr None' w w') => show (Instr.lookup 68 (.map (some b)) (.string p.path) false).run Tryz.prog w' = .ok (.agg #[.string t.x.path, .int .i64 t.x.kind, .slice t.u.1 t.u.2.1 t.u.2.2, .string t.x.data]) w' from by
      have := (HT.out.kept f).look p.path (by unfold maxLen; omega)
      rw [ht] at this
      exact this)
    clear hr hx hx' ht htm htk HFn
    generalize hR : withE t.x p = R at HNo HYes HKey HW
    clear hR
    obtain ⟨⟨P, K, l, D⟩, a, m, u⟩ := t
    simp only at HW HLk
    go_enter Tryz.func80, Tryz.ntmps80
    go_wp2_with fail
    with_reducible refine cF.mono ?_
    rintro e w2 ⟨rfl, f2⟩
    clear cF p0 p1 p2 p3 p4 p5 p6 g1
    have HF2 := toHid8 (HF1.out.then7 f2)
    have HB2 := toHid8 (HB.out.kept f2)
    obtain ⟨p0, p1, p2, p3, p4, p5, p6⟩ := HB2.out.cells
    have g2 := HF2.out.keepCell HC.out (fun e => e)
    have hlk := HLk.out w2 HF2.out
    have cW := HW.out w2 HF2.out
    clear f2 HB
    go_wp2_with fail
    with_reducible refine cW.mono ?_
    rintro e w3 ⟨P', K', ua, um, uc, D', b', rfl, Hb, HN, f3⟩
    clear cW hlk p0 p1 p2 p3 p4 p5 p6 g2
    obtain ⟨p0, p1, p2, p3, p4, p5, p6⟩ := (HB2.out.kept f3).cells
    have HF3 := toHid8 (HF2.out.then7 f3)
    clear f3
    cases b' with
    | false =>
      have HR := toHid8 (show R = none from by
        have := Hb.out
        cases R with
        | none => rfl
        | some y => cases this)
      have HM := toHid8 (HT.out.kept (HF3.out.then7 (Fr.alloc None' w3 (.cells #[.string P', .int .i64 K', .slice ua um uc, .string D'] 41))))
      clear p0 p1 p2 p3 p4 p5 p6
      go_wp2_with fail
      go_ret
      rw [HNo.out HR.out]
      exact ⟨T, rfl, HM.out, rfl, (HF3.out.then7 (Fr.alloc None' _ _)).any⟩
    | true =>
      obtain ⟨y, hy⟩ : ∃ y, R = some y := by
        have := Hb.out
        cases R with
        | none => cases this
        | some y => exact ⟨y, rfl⟩
      obtain ⟨rfl, rfl, rfl, hst⟩ := HN.out y hy
      have HY := toHid8 hy
      obtain ⟨w4, hw4⟩ : ∃ w4, w3.alloc (.cells #[.string y.path, .int .i64 y.kind, .slice ua um uc, .string y.data] 41) = w4 := ⟨_, rfl⟩
      have F4 : Fr None' w3 w4 := hw4 ▸ Fr.alloc None' w3 _
      obtain ⟨e0, e1, e2, e3⟩ := (hw4 ▸ EBox.new w3 _ _ _ _ : EBox w4 w3.heap.size (.string y.path) (.int .i64 y.kind) (.slice ua um uc) (.string y.data)).cells
      replace p1 := F4.keepCell p1 (fun e => e)
      have T4 := HT.out.kept (HF3.out.then7 F4)
      have HM := toHid8 T4
      have hown := T4.map
      have HS4 := toHid8 (hst.kept F4)
      have HF4 := toHid8 (HF3.out.then7 F4)
      clear hst F4 T4 hy p0 p2 p3 p4 p5 p6 HN Hb
      go_wp2_with (first
        | (at_mapUpdate; refine wpList_mapUpdate_in _ rfl _ _ _ 68 rfl 9 41 lawS Tryz.underlying68 heldE b T.length _ rfl hown (by unfold maxLen; omega) _ _ _ rfl rfl hkS _ [] (heldE_th ⟨y, ua, um, uc⟩) ?_; intro w5 hown5 hturn5)
        | go_in)
      go_ret
      rw [HYes.out y HY.out]
      rw [← HKey.out y HY.out] at hown5
      have hP := HM.out.put (t := ⟨y, ua, um, uc⟩) HS4.out hown5 hturn5
      exact ⟨_, rfl, hP.tight, ens_put _ _, (HF4.out.any).then (Fr.turned hturn5 rfl)⟩
  · have HA := toHid8 (chgE_no (p := p) hr)
    rw [HA.out]
    generalize hasE (ens T) (bl p.path) k = r at cF hr
    have hr2 : (r == 0) = false := by simpa using hr
    clear HFn HA
    go_enter Tryz.func80, Tryz.ntmps80
    go_wp2_with fail
    with_reducible refine cF.mono ?_
    rintro e w2 ⟨rfl, f2⟩
    clear cF p0 p1 p2 p3 p4 p5 p6 g1
    have HF2 := toHid8 (HF1.out.then7 f2)
    have HM := toHid8 (HT.out.kept HF2.out)
    clear f2
    go_wp2_with fail
    go_ret
    exact ⟨T, rfl, HM.out, rfl, HF2.out.any⟩

set_option maxHeartbeats 8000000 in
theorem change9_any (b : Nat) (T : List Th) (p : Pr) (vo vn : Value) (k : Int) (g c : Nat) (w : World) (h : ThAt w b T.length T) (hn : T.length ≤ 90000) (ho : StrsAt w vo p.old) (hw : StrsAt w vn p.new) (hp : p.path.size ≤ 1000000) (hg : w.cell? ⟨g, 0, none⟩ = some (.int .i64 k)) (hc : w.cell? ⟨c, 0, none⟩ = some (.func (.func 64) #[] #[]))
    (hf : ∀ t ∈ T, ∀ w', Fr None' w w' → Calls Tryz.prog 64 #[.agg #[.string t.x.path, .int .i64 t.x.kind, .slice t.u.1 t.u.2.1 t.u.2.2, .string t.x.data], .agg #[.int .i64 p.kind, .string p.path, .string p.dst, .string p.src, .int .i64 p.pos, vo, vn]] w' fun e w'' => WithPost (withE t.x p) w' e w'') :
    Calls Tryz.prog 80 #[.map (some b), .agg #[.int .i64 p.kind, .string p.path, .string p.dst, .string p.src, .int .i64 p.pos, vo, vn], .pointer (some ⟨g, 0, none⟩), .pointer (some ⟨c, 0, none⟩)] w fun e w' => DoPost (chgE (ens T) p k) b w e w' := by
  obtain ⟨pa, ca, rfl, _⟩ := ho
  obtain ⟨pb, cb, rfl, _⟩ := hw
  have HG := toHid8 hg
  have HC := toHid8 hc
  have HT := toHid8 h
  have HFn := toHid8 hf
  obtain ⟨w1, hw1⟩ : ∃ w1, w.alloc (.cells #[.int .i64 p.kind, .string p.path, .string p.dst, .string p.src, .int .i64 p.pos, .slice pa p.old.length ca, .slice pb p.new.length cb] 25) = w1 := ⟨_, rfl⟩
  have F1 : Fr None' w w1 := hw1 ▸ Fr.alloc None' w _
  have BP : Box w1 w.heap.size (.int .i64 p.kind) (.string p.path) (.string p.dst) (.string p.src) (.int .i64 p.pos) (.slice pa p.old.length ca) (.slice pb p.new.length cb) := hw1 ▸ Box.new w _ _ _ _ _ _ _
  obtain ⟨p0, p1, p2, p3, p4, p5, p6⟩ := BP.cells
  have g1 := F1.keepCell hg (fun e => e)
  have cF := has8_any b T.length T p.path k w1 (h.kept F1) hp
  have HB := toHid8 BP
  have HF1 := toHid8 F1
  have hkS := keyS p.path (by unfold maxLen; omega)
  clear F1 BP hg hc h hf
  by_cases hr : hasE (ens T) (bl p.path) k = 0
  · obtain ⟨x, hx, hxk⟩ := hasE_zero.1 hr
    clear hxk
    have hx' := hx
    rw [← ens_get] at hx'
    obtain ⟨t, ht, rfl⟩ := Option.map_eq_some_iff.1 hx'
    obtain ⟨htm, htk⟩ := get8_mem ht
    have HNo := toHid8 (fun (hz : withE t.x p = none) => chgE_none hr hx hz)
    have HYes := toHid8 (fun y (hz : withE t.x p = some y) => chgE_some hr hx hz)
    have HKey := toHid8 (show ∀ y, withE t.x p = some y → bl y.path = bl p.path from fun y hy => by rw [(with_facts hy).1]; exact htk)
    rw [hr] at cF
    have HW := toHid8 (HFn.out t htm)
    have HLk := toHid8 (fun w' (f : Fr None' w w') => show (Instr.lookup 68 (.map (some b)) (.string p.path) false).run Tryz.prog w' = .ok (.agg #[.string t.x.path, .int .i64 t.x.kind, .slice t.u.1 t.u.2.1 t.u.2.2, .string t.x.data]) w' from by
      have := (HT.out.kept f).look p.path (by unfold maxLen; omega)
      rw [ht] at this
      exact this)
    clear hr hx hx' ht htm htk HFn
    generalize hR : withE t.x p = R at HNo HYes HKey HW
    clear hR
    obtain ⟨⟨P, K, l, D⟩, a, m, u⟩ := t
    simp only at HW HLk
    go_enter Tryz.func80, Tryz.ntmps80
    go_wp2_with fail
    with_reducible refine cF.mono ?_
    rintro e w2 ⟨rfl, f2⟩
    clear cF p0 p1 p2 p3 p4 p5 p6 g1
    have HF2 := toHid8 (HF1.out.then7 f2)
    have HB2 := toHid8 (HB.out.kept f2)
    obtain ⟨p0, p1, p2, p3, p4, p5, p6⟩ := HB2.out.cells
    have g2 := HF2.out.keepCell HC.out (fun e => e)
    have hlk := HLk.out w2 HF2.out
    have cW := HW.out w2 HF2.out
    clear f2 HB
    go_wp2_with fail
    with_reducible refine cW.mono ?_
    rintro e w3 ⟨P', K', ua, um, uc, D', b', rfl, Hb, HN, f3⟩
    clear cW hlk p0 p1 p2 p3 p4 p5 p6 g2
    obtain ⟨p0, p1, p2, p3, p4, p5, p6⟩ := (HB2.out.kept f3).cells
    have HF3 := toHid8 (HF2.out.then7 f3)
    clear f3
    cases b' with
    | false =>
      have HR := toHid8 (show R = none from by
        have := Hb.out
        cases R with
        | none => rfl
        | some y => cases this)
      have HM := toHid8 (HT.out.kept (HF3.out.then7 (Fr.alloc None' w3 (.cells #[.string P', .int .i64 K', .slice ua um uc, .string D'] 41))))
      clear p0 p1 p2 p3 p4 p5 p6
      go_wp2_with fail
      go_ret
      rw [HNo.out HR.out]
      exact ⟨T, rfl, HM.out, rfl, (HF3.out.then7 (Fr.alloc None' _ _)).any⟩
    | true =>
      obtain ⟨y, hy⟩ : ∃ y, R = some y := by
        have := Hb.out
        cases R with
        | none => cases this
        | some y => exact ⟨y, rfl⟩
      obtain ⟨rfl, rfl, rfl, hst⟩ := HN.out y hy
      have HY := toHid8 hy
      obtain ⟨w4, hw4⟩ : ∃ w4, w3.alloc (.cells #[.string y.path, .int .i64 y.kind, .slice ua um uc, .string y.data] 41) = w4 := ⟨_, rfl⟩
      have F4 : Fr None' w3 w4 := hw4 ▸ Fr.alloc None' w3 _
      obtain ⟨e0, e1, e2, e3⟩ := (hw4 ▸ EBox.new w3 _ _ _ _ : EBox w4 w3.heap.size (.string y.path) (.int .i64 y.kind) (.slice ua um uc) (.string y.data)).cells
      replace p1 := F4.keepCell p1 (fun e => e)
      have T4 := HT.out.kept (HF3.out.then7 F4)
      have HM := toHid8 T4
      have hown := T4.map
      have HS4 := toHid8 (hst.kept F4)
      have HF4 := toHid8 (HF3.out.then7 F4)
      clear hst F4 T4 hy p0 p2 p3 p4 p5 p6 HN Hb
      go_wp2_with (first
        | (at_mapUpdate; refine wpList_mapUpdate_in _ rfl _ _ _ 68 rfl 9 41 lawS Tryz.underlying68 heldE b T.length _ rfl hown (by unfold maxLen; omega) _ _ _ rfl rfl hkS _ [] (heldE_th ⟨y, ua, um, uc⟩) ?_; intro w5 hown5 hturn5)
        | go_in)
      go_ret
      rw [HYes.out y HY.out]
      rw [← HKey.out y HY.out] at hown5
      have hP := HM.out.put (t := ⟨y, ua, um, uc⟩) HS4.out hown5 hturn5
      exact ⟨_, rfl, hP.tight, ens_put _ _, (HF4.out.any).then (Fr.turned hturn5 rfl)⟩
  · have HA := toHid8 (chgE_no (p := p) hr)
    rw [HA.out]
    generalize hasE (ens T) (bl p.path) k = r at cF hr
    have hr2 : (r == 0) = false := by simpa using hr
    clear HFn HA
    go_enter Tryz.func80, Tryz.ntmps80
    go_wp2_with fail
    with_reducible refine cF.mono ?_
    rintro e w2 ⟨rfl, f2⟩
    clear cF p0 p1 p2 p3 p4 p5 p6 g1
    have HF2 := toHid8 (HF1.out.then7 f2)
    have HM := toHid8 (HT.out.kept HF2.out)
    clear f2
    go_wp2_with fail
    go_ret
    exact ⟨T, rfl, HM.out, rfl, HF2.out.any⟩

end Go.Proofs.YtcpjneejlfgkeaaGreatDoor

namespace Go.Proofs.YtcpjneejlfgkeaaGreatDoor
open Go.RowKit Go.Maps Go.WideMaps
set_option maxRecDepth 100000

theorem act_addE {L : List En} {p : Pr} (hk : p.kind = 1 ∨ p.kind = 3 ∨ p.kind = 5) : actE L p = addE L p.path ((p.kind + 1) / 2) := by
  unfold actE; rw [if_pos hk]; rfl
theorem act_rmE {L : List En} {p : Pr} (hk : p.kind = 2 ∨ p.kind = 4 ∨ p.kind = 6) : actE L p = rmE L (bl p.path) (p.kind / 2) := by
  unfold actE; rw [if_neg (by omega), if_pos hk]; rfl
theorem act_moveE {L : List En} {p : Pr} (hk : p.kind = 10) : actE L p = moveE L (bl p.path) (bl p.dst) := by
  unfold actE; rw [if_neg (by omega), if_neg (by omega), if_pos hk]
theorem act_chgE {L : List En} {p : Pr} (hk : p.kind = 7 ∨ p.kind = 8 ∨ p.kind = 9) : actE L p = chgE L p (if p.kind = 9 then 3 else 2) := by
  unfold actE; rw [if_neg (by omega), if_neg (by omega), if_neg (by omega)]; rfl

theorem SmPr.small {p : Pr} (h : SmPr p) : SmallP p := ⟨by have := h.path; omega, by have := h.dst; omega, by have := h.src; omega, by have := h.old; omega, by have := h.new; omega⟩

theorem lines_pos {p : Pr} (hr : rightP p = true) (hk : p.kind = 7) : -9223372036854775808 ≤ p.pos ∧ p.pos < 9223372036854775808 := by
  have hrule := (rule_of hr).2.2
  unfold ruleP linesP at hrule
  rw [if_neg (by omega), if_pos hk] at hrule
  simp only [Bool.and_eq_true, decide_eq_true_eq] at hrule
  have h1 := hrule.1.1.1.1.2
  have h2 := hrule.1.1.1.2
  omega

set_option maxHeartbeats 8000000 in
theorem do8_any (b : Nat) (T : List Th) (p : Pr) (vo vn : Value) (B : Nat) (w : World) (h : ThAt w b T.length T) (hn : T.length ≤ 40000) (hT : ∀ t ∈ T, t.x.path.size ≤ 1000000) (hB : SmLn B (ens T)) (hB2 : B ≤ 900000) (hs : SmPr p) (ho : StrsAt w vo p.old) (hw : StrsAt w vn p.new) :
    Calls Tryz.prog 40 #[.map (some b), .agg #[.int .i64 p.kind, .string p.path, .string p.dst, .string p.src, .int .i64 p.pos, vo, vn]] w fun e w' => DoPost (doE (ens T) p) b w e w' := by
  obtain ⟨pa, ca, rfl, ho'⟩ := ho
  obtain ⟨pb, cb, rfl, hw'⟩ := hw
  have HO := toHid8 (show ∀ w', Fr None' w w' → StrsAt w' (.slice pa p.old.length ca) p.old from fun w' f => StrsAt.kept ⟨pa, ca, rfl, ho'⟩ f)
  have HN := toHid8 (show ∀ w', Fr None' w w' → StrsAt w' (.slice pb p.new.length cb) p.new from fun w' f => StrsAt.kept ⟨pb, cb, rfl, hw'⟩ f)
  obtain ⟨w1, hw1⟩ : ∃ w1, w.alloc (.cells #[.int .i64 p.kind, .string p.path, .string p.dst, .string p.src, .int .i64 p.pos, .slice pa p.old.length ca, .slice pb p.new.length cb] 25) = w1 := ⟨_, rfl⟩
  have F1 : Fr None' w w1 := hw1 ▸ Fr.alloc None' w _
  have BP : Box w1 w.heap.size (.int .i64 p.kind) (.string p.path) (.string p.dst) (.string p.src) (.int .i64 p.pos) (.slice pa p.old.length ca) (.slice pb p.new.length cb) := hw1 ▸ Box.new w _ _ _ _ _ _ _
  obtain ⟨p0, p1, p2, p3, p4, p5, p6⟩ := BP.cells
  have cR := ruleOf_any p (.slice pa p.old.length ca) (.slice pb p.new.length cb) w1 (HO.out w1 F1) (HN.out w1 F1) hs.small
  have HB := toHid8 BP
  have HF1 := toHid8 F1
  have HT := toHid8 h
  have HLn := toHid8 (show ∀ t ∈ T, t.x.lines.length ≤ 900000 ∧ ∀ y ∈ t.x.lines, SmLine y from fun t ht => by
    have := hB t.x (List.mem_map.2 ⟨t, ht, rfl⟩)
    exact ⟨by have := this.1.1; omega, this.2⟩)
  have HTs := toHid8 hT
  have HSp := toHid8 hs
  have hbw := h.map.lt
  clear ho' hw' F1 BP h hT hB
  cases hr : rightP p with
  | false =>
    have HE := toHid8 (show doE (ens T) p = (ens T, 1) from by unfold doE; rw [hr]; rfl)
    rw [HE.out]
    rw [hr] at cR
    clear hr HE
    go_enter Tryz.func40, Tryz.ntmps40
    go_wp2_with fail
    with_reducible refine cR.mono ?_
    rintro e w2 ⟨r0, r1, rfl, ⟨h0, h1⟩, _, f2⟩
    have HF2 := toHid8 (HF1.out.then7 f2)
    have H01 := toHid8 (And.intro h0 h1)
    clear cR f2 h0 h1 p0 p1 p2 p3 p4 p5 p6
    go_wp2_with (refine wpList_store_row rfl _ _ _ rfl w2.heap.size _ rfl rfl 62 _ (heap_alloc_new w2 _) infoRule (by simp) (by simp [H01.out.1, H01.out.2]) ?_)
    go_ret
    have key : ∀ c, Fr None' w ((w2.alloc (.cells #[.nilFunc, .nilFunc] 62)).setRow w2.heap.size c) := fun c => HF2.out.then7 ((Fr.alloc None' w2 _).trans (Fr.setRow (M := fun i => i = w2.heap.size) _ rfl _) (fun i e => Or.inr (by omega)))
    exact ⟨T, rfl, HT.out.kept (key _), rfl, (key _).any⟩
  | true =>
    have HE := toHid8 (show doE (ens T) p = actE (ens T) p from by unfold doE; rw [hr]; rfl)
    rw [HE.out]
    rw [hr] at cR
    have HRt := toHid8 hr
    clear hr HE
    go_enter Tryz.func40, Tryz.ntmps40
    go_wp2_with fail
    with_reducible refine cR.mono ?_
    rintro e w2 ⟨r0, r1, rfl, ⟨h0, h1⟩, HI, f2⟩
    have hI := HI.out rfl
    have HF2 := toHid8 (HF1.out.then7 f2)
    have HB2 := toHid8 (HB.out.kept f2)
    have H01 := toHid8 (And.intro h0 h1)
    clear cR f2 h0 h1 p0 p1 p2 p3 p4 p5 p6 HI HB
    obtain ⟨w3, hw3⟩ : ∃ w3, (w2.alloc (.cells #[.nilFunc, .nilFunc] 62)).setRow w2.heap.size #[r0, r1] = w3 := ⟨_, rfl⟩
    have F3 : Fr None' w2 w3 := hw3 ▸ (Fr.alloc None' w2 _).trans (Fr.setRow (M := fun i => i = w2.heap.size) _ rfl _) (fun i e => Or.inr (by omega))
    have B3 : w3.heap[w2.heap.size]? = some (.cells #[r0, r1] 62 (0, 0)) := hw3 ▸ setRow_at (heap_alloc_new w2 _)
    have k1 : w3.cell? ⟨w2.heap.size, 1, none⟩ = some r1 := by rw [World.cell?, B3]; rfl
    obtain ⟨p0, p1, p2, p3, p4, p5, p6⟩ := (HB2.out.kept F3).cells
    have HF3 := toHid8 (HF2.out.then7 F3)
    have HT3 := toHid8 (HT.out.kept HF3.out)
    have HO3 := toHid8 (HO.out w3 HF3.out)
    have HN3 := toHid8 (HN.out w3 HF3.out)
    have HEnd := toHid8 (show ∀ r e W, DoPost r b w3 e W → DoPost r b w e W from fun r e W ⟨T', h1, h2, h3, h4⟩ => ⟨T', h1, h2, h3, (HF3.out.any).then h4⟩)
    have hpz : p.path.size ≤ 1000000 := by have := hs.path; omega
    rcases hI with ⟨hk, g, rfl, hg⟩ | ⟨hk, g, rfl, hg⟩ | ⟨hk, g, c, fn, rfl, hg, hc, hfn⟩ | ⟨hk, rfl⟩
    · have HA := toHid8 (act_addE (L := ens T) hk)
      have cA := add1_any b T p _ _ ((p.kind + 1) / 2) g w3 HT3.out (by omega) HO3.out HN3.out hpz (F3.keepCell hg (fun e => e))
      clear F3 B3 hg hk
      go_wp2_with (refine wpList_store_row rfl _ _ _ rfl w2.heap.size _ rfl rfl 62 _ (heap_alloc_new w2 _) infoRule (by simp) (by simp [H01.out.1, H01.out.2]) ?_)
      with_reducible refine cA.mono ?_
      rintro e w4 ⟨T', rfl, hT', hE', f4⟩
      clear cA
      have HP := toHid8 (HEnd.out _ _ _ ⟨T', rfl, hT', hE', f4⟩)
      clear hT' hE' f4
      go_wp2_with fail
      go_ret
      rw [HA.out]
      exact HP.out
    · have HA := toHid8 (act_rmE (L := ens T) hk)
      have cA := remove1_any b T p _ _ (p.kind / 2) g w3 HT3.out (by omega) HO3.out HN3.out hpz (F3.keepCell hg (fun e => e))
      clear F3 B3 hg hk
      go_wp2_with (refine wpList_store_row rfl _ _ _ rfl w2.heap.size _ rfl rfl 62 _ (heap_alloc_new w2 _) infoRule (by simp) (by simp [H01.out.1, H01.out.2]) ?_)
      with_reducible refine cA.mono ?_
      rintro e w4 ⟨T', rfl, hT', hE', f4⟩
      clear cA
      have HP := toHid8 (HEnd.out _ _ _ ⟨T', rfl, hT', hE', f4⟩)
      clear hT' hE' f4
      go_wp2_with fail
      go_ret
      rw [HA.out]
      exact HP.out
    · have HA := toHid8 (act_chgE (L := ens T) hk)
      have hg3 := F3.keepCell hg (fun e => e)
      have hc3 := F3.keepCell hc (fun e => e)
      have cA : Calls Tryz.prog 80 #[.map (some b), .agg #[.int .i64 p.kind, .string p.path, .string p.dst, .string p.src, .int .i64 p.pos, .slice pa p.old.length ca, .slice pb p.new.length cb], .pointer (some ⟨g, 0, none⟩), .pointer (some ⟨c, 0, none⟩)] w3 fun e w' => DoPost (chgE (ens T) p (if p.kind = 9 then 3 else 2)) b w3 e w' := by
        rcases hk with hk | hk | hk
        · rw [if_pos hk] at hfn
          subst hfn
          exact change7_any b T p _ _ _ g c w3 HT3.out (by omega) HO3.out HN3.out hpz hg3 hc3 (fun t ht w' f => withLines_any t.x p t.u.1 t.u.2.1 t.u.2.2 _ _ w' ((HT3.out.str t ht).kept f) (HO3.out.kept f) (HN3.out.kept f) hk (by have := (HLn.out t ht).1; omega) (by have := hs.old; omega) (by have := hs.new; omega) (lines_pos HRt.out hk))
        · rw [if_neg (by omega), if_pos hk] at hfn
          subst hfn
          exact change8_any b T p _ _ _ g c w3 HT3.out (by omega) HO3.out HN3.out hpz hg3 hc3 (fun t ht w' f => withToken_any t.x p t.u.1 t.u.2.1 t.u.2.2 _ _ w' ((HT3.out.str t ht).kept f) (HO3.out.kept f) (HN3.out.kept f) hk (by have := (HLn.out t ht).1; omega) (fun y hy => ((HLn.out t ht).2 y hy).fits hs.dst) (by have := hs.src; omega))
        · rw [if_neg (by omega), if_neg (by omega)] at hfn
          subst hfn
          exact change9_any b T p _ _ _ g c w3 HT3.out (by omega) HO3.out HN3.out hpz hg3 hc3 (fun t ht w' f => withBytes_any t.x p t.u.1 t.u.2.1 t.u.2.2 _ _ w' ((HT3.out.str t ht).kept f) (HO3.out.kept f) (HN3.out.kept f) hk)
      clear F3 B3 hg hk hc hg3 hc3 hfn
      generalize (if p.kind = 9 then (3 : Int) else 2) = kk at cA HA
      go_wp2_with (refine wpList_store_row rfl _ _ _ rfl w2.heap.size _ rfl rfl 62 _ (heap_alloc_new w2 _) infoRule (by simp) (by simp [H01.out.1, H01.out.2]) ?_)
      with_reducible refine cA.mono ?_
      rintro e w4 ⟨T', rfl, hT', hE', f4⟩
      clear cA
      have HP := toHid8 (HEnd.out _ _ _ ⟨T', rfl, hT', hE', f4⟩)
      clear hT' hE' f4
      go_wp2_with fail
      go_ret
      rw [HA.out]
      exact HP.out
    · have HA := toHid8 (act_moveE (L := ens T) hk)
      have cA := move8_any b T p _ _ w3 HT3.out hn HO3.out HN3.out hpz (by have := hs.dst; omega) HTs.out
      clear F3 B3 hk
      go_wp2_with (refine wpList_store_row rfl _ _ _ rfl w2.heap.size _ rfl rfl 62 _ (heap_alloc_new w2 _) infoRule (by simp) (by simp [H01.out.1, H01.out.2]) ?_)
      with_reducible refine cA.mono ?_
      rintro e w4 ⟨T', rfl, hT', hE', f4⟩
      clear cA
      have HP := toHid8 (HEnd.out _ _ _ ⟨T', rfl, hT', hE', f4⟩)
      clear hT' hE' f4
      go_wp2_with fail
      go_ret
      rw [HA.out]
      exact HP.out

end Go.Proofs.YtcpjneejlfgkeaaGreatDoor

namespace Go.Proofs.YtcpjneejlfgkeaaGreatDoor
open Go.RowKit Go.Maps Go.WideMaps
set_option maxRecDepth 100000

/-- What All answers: a row of things, new, an error, a place. -/
def AllPost (r : List En × Int × Nat) (w : World) (e : Ending) (w' : World) : Prop := ∃ (va : Option Addr) (c : Nat), e = .returned (.tuple #[.slice va r.1.length c, .int .i64 r.2.1, .int .i64 r.2.2]) ∧ Hid (EntsAt w' va r.1) ∧ Hid (va = none → c = 0) ∧ Fr None' w w'

theorem path_size {x : En} (h : Path.right (bl x.path) = true) : x.path.size ≤ 135 := by
  have := right_len h
  have h3 : (bl x.path).length = x.path.size := Array.length_toList
  omega

theorem runE_bad {L : List En} {ps : List Pr} (h : treeRight L = false) : allE L ps = ([], 1, 0) := by unfold allE; rw [h]; rfl
theorem runE_good {L : List En} {ps : List Pr} (h : treeRight L = true) : allE L ps = runE L ps 0 := by unfold allE; rw [h]; rfl

set_option maxHeartbeats 16000000 in
theorem all8_any (va : Option Addr) (n c : Nat) (L : List En) (vb : Option Addr) (m d : Nat) (ps : List Pr) (B : Nat) (w : World) (hl : L.length = n) (h : EntsAt w va L) (hn : n ≤ 90000) (hs : SmallE L) (hm : ps.length = m) (hb : PrsAt w vb ps) (hm2 : m ≤ 90000) (hB : SmLn B L) (hB2 : B + newTo ps ps.length ≤ 900000) (hp : ∀ p ∈ ps, SmPr p) :
    Calls Tryz.prog 18 #[.slice va n c, .slice vb m d] w fun e w' => AllPost (allE L ps) w e w' := by
  have cT := tright_any va n c L w hl h (by omega) hs
  have cO := fun w' (f : Fr None' w w') => of8_any va n c L w' hl (h.kept f) hn hs
  have HM := toHid8 hm
  have HB := toHid8 hb
  have HSB := toHid8 hB
  have HB2 := toHid8 hB2
  have HPs := toHid8 hp
  have i1 : (m : Int) ≤ 90000 := by omega
  cases ht : treeRight L with
  | false =>
    rw [ht] at cT
    rw [runE_bad ht]
    clear cO ht hl h hs hb hB hB2 hp hm
    go_enter Tryz.func18, Tryz.ntmps18
    go_wp2_with fail
    with_reducible refine cT.mono ?_
    rintro e w2 ⟨rfl, f2⟩
    clear cT
    go_wp2_with fail
    go_ret3
    exact ⟨none, 0, rfl, (fun k x hk => by simp at hk), (fun _ => rfl), f2⟩
  | true =>
    rw [ht] at cT
    rw [runE_good ht]
    have HTr := toHid8 ((treeR L).1 ht)
    have HPT := toHid8 (show putsE L = L from by
      have := puts_self [] L (by simpa using ((treeR L).1 ht).strict)
      simpa [putsE] using this)
    have HLn := toHid8 hl
    clear ht hl h hs hb hB hB2 hp hm
    go_enter Tryz.func18, Tryz.ntmps18
    go_wp2_with fail
    with_reducible refine cT.mono ?_
    rintro e w2 ⟨rfl, f2⟩
    clear cT
    have cO2 := cO w2 f2
    have HF2 := toHid8 f2
    clear cO f2
    go_wp2_with fail
    with_reducible refine cO2.mono ?_
    rintro e w3 ⟨b, T, rfl, hT, hE, f3, hbw⟩
    clear cO2
    have HF3 := toHid8 (HF2.out.then7 f3)
    have HT0 := toHid8 hT.tight
    have HE0 := toHid8 (show ens T = L from hE.trans HPT.out)
    have HBw := toHid8 (show w.heap.size ≤ b from by have := HF2.out.size; omega)
    clear hT hE f3 hbw
    go_wp2_with fail
    go_loopw [18] (fun vi wr => ∃ (k : Nat) (T' : List Th), k ≤ m ∧ vi = .int .i64 k ∧ Hid (ThAt wr b T'.length T') ∧ Hid (ens T' = stE L ps k) ∧ Hid (OkTo L ps k) ∧ Hid (Fr None' w wr)) (fun vi _ => m - (intOf vi).toNat)
    case atStart => exact ⟨0, T, Nat.zero_le _, rfl, HT0.out, HE0.out, OkTo.zero _ _, HF3.out⟩
    case round =>
      obtain ⟨k, T', hk, rfl, HT, HE, HOk, HF⟩ := hrel
      clear HT0 HE0
      by_cases hlt : k < m
      · have hkL : k < ps.length := by rw [HM.out]; exact hlt
        obtain ⟨g, o, rfl, uo, un, d0, d1, d2, d3, d4, d5, d6, t1, t2⟩ := (HB.out.kept HF.out).get hkL
        obtain ⟨st1, st2⟩ := st_ok HTr.out HSB.out HPs.out k (by omega) HOk.out
        have HStop := toHid8 (fun he => run_stop hkL HOk.out he)
        have HNext := toHid8 (fun he => HOk.out.succ hkL he)
        have HSt := toHid8 (stE_succ (L := L) hkL)
        have hsp := HPs.out _ (List.getElem_mem hkL)
        have hnt := newTo_le ps k
        have hB9 := HB2.out
        obtain ⟨pa, ca, rfl, q1⟩ := t1
        obtain ⟨pb, cb, rfl, q2⟩ := t2
        have HD := toHid8 (fun w' (f : Fr None' wr w') => do8_any b T' ps[k] (.slice pa ps[k].old.length ca) (.slice pb ps[k].new.length cb) (B + newTo ps k) w' (HT.out.kept f) (by
            have h1 := st1.len
            rw [← HE.out, ens_len] at h1
            omega) (fun t ht => by
            have h1 := st1.own t.x (by rw [← HE.out]; exact List.mem_map.2 ⟨t, ht, rfl⟩)
            have := path_size h1.1
            omega) (by rw [HE.out]; exact st2) (by omega) hsp (StrsAt.kept ⟨pa, ca, rfl, q1⟩ f) (StrsAt.kept ⟨pb, cb, rfl, q2⟩ f))
        rw [HE.out] at HD
        clear q1 q2 st1 st2 hsp hnt hB9
        generalize ps[k] = p at d0 d1 d2 d3 d4 d5 d6 HStop HNext HSt HD
        generalize doE (stE L ps k) p = r at HStop HNext HSt HD
        obtain ⟨R, er⟩ := r
        simp only at HStop HNext HSt
        obtain ⟨w4, hw4⟩ : ∃ w4, wr.alloc (.cells #[.int .i64 p.kind, .string p.path, .string p.dst, .string p.src, .int .i64 p.pos, .slice pa p.old.length ca, .slice pb p.new.length cb] 25) = w4 := ⟨_, rfl⟩
        have F4 : Fr None' wr w4 := hw4 ▸ Fr.alloc None' wr _
        obtain ⟨a0, a1, a2, a3, a4, a5, a6⟩ := (hw4 ▸ Box.new wr _ _ _ _ _ _ _ : Box w4 wr.heap.size (.int .i64 p.kind) (.string p.path) (.string p.dst) (.string p.src) (.int .i64 p.pos) (.slice pa p.old.length ca) (.slice pb p.new.length cb)).cells
        have cD := HD.out w4 F4
        have HF4 := toHid8 (HF.out.then7 F4)
        have i2 : (k : Int) < (m : Int) := by omega
        have i3 : (0 : Int) ≤ (k : Int) := by omega
        clear HD F4
        go_wp2_with fail
        with_reducible refine cD.mono ?_
        rintro e w5 ⟨T5, rfl, hT5, hE5, f5⟩
        clear cD d0 d1 d2 d3 d4 d5 d6 a0 a1 a2 a3 a4 a5 a6
        simp only at hE5
        have HT5 := toHid8 hT5
        have HE5 := toHid8 hE5
        have HF5 := toHid8 (HF4.out.trans f5 (fun i e => Or.inr (by have e : i = b := e; have := HBw.out; omega)))
        clear hT5 hE5 f5
        by_cases he : er = 0
        · subst he
          have HOk2 := toHid8 (HNext.out rfl)
          clear HStop HNext
          go_wp2_with fail
          exact ⟨⟨k + 1, T5, by omega, by go_num, HT5.out, HE5.out.trans HSt.out.symm, HOk2.out, HF5.out⟩, by simp [intOf]; omega⟩
        · have HR := toHid8 (HStop.out he)
          have he2 : (er == 0) = false := by simpa using he
          clear HStop HNext HSt
          go_wp2_with fail
          go_ret3
          rw [HR.out]
          exact ⟨none, 0, rfl, (fun k x hk => by simp at hk), (fun _ => rfl), HF5.out⟩
      · have e : k = m := by omega
        subst e
        have HR := toHid8 (show runE L ps 0 = (stE L ps k, 0, 0) from by
          have h := HOk.out
          rw [← HM.out] at h
          rw [run_end h, HM.out])
        obtain ⟨st1, st2⟩ := st_ok HTr.out HSB.out HPs.out k (by rw [HM.out]; exact Nat.le_refl _) HOk.out
        have h1 := st1.len
        rw [← HE.out, ens_len] at h1
        have cL := list8_any b T'.length T' wr HT.out (by omega) (fun t ht => by
            have h1 := st1.own t.x (by rw [← HE.out]; exact List.mem_map.2 ⟨t, ht, rfl⟩)
            have := path_size h1.1
            omega)
        clear st1 st2 h1 HOk
        go_wp2_with fail
        with_reducible refine cL.mono ?_
        rintro e w5 ⟨v, rfl, hO, f5⟩
        clear cL
        obtain ⟨va5, c5, rfl, _, hc5, hE5, _⟩ := hO.slice f5
        have HP := toHid8 (show EntsAt w5 va5 (ens T') from hE5)
        have HF5 := toHid8 (HF.out.then7 f5)
        have HC5 := toHid8 hc5
        clear hO hE5 f5 hc5
        go_wp2_with fail
        go_ret3
        rw [HR.out, ← HE.out]
        exact ⟨va5, c5, rfl, HP.out, HC5.out, HF5.out⟩

end Go.Proofs.YtcpjneejlfgkeaaGreatDoor
