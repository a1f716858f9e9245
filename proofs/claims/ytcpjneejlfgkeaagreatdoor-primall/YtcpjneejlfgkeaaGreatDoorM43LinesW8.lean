/-
  What is proved here: the contracts that the statement stands on: LinesW8, DChg8, DRight10. Conditions: as each theorem names them.
-/
import Derived.Test.YtcpjneejlfgkeaaGreatDoorM38Laws8
import Derived.Test.YtcpjneejlfgkeaaGreatDoorM32WithL8
import Derived.Test.YtcpjneejlfgkeaaGreatDoorM40LinesP8
import Derived.Test.YtcpjneejlfgkeaaGreatDoorMFRApply
import Derived.Test.YtcpjneejlfgkeaaGreatDoorMApp7
import Derived.Test.YtcpjneejlfgkeaaGreatDoorMOwnP
import Derived.Test.YtcpjneejlfgkeaaGreatDoorMRule8
import Derived.Test.YtcpjneejlfgkeaaGreatDoorM17Has8
import Derived.Test.YtcpjneejlfgkeaaGreatDoorM13PRRest
import Derived.Test.YtcpjneejlfgkeaaGreatDoorM6LStrs
import Derived.Test.YtcpjneejlfgkeaaGreatDoorM22RFindE
namespace Go.Proofs.YtcpjneejlfgkeaaGreatDoor
open Go.RowKit Go.Maps Go.WideMaps
set_option maxRecDepth 100000

/-- The patch's box, its first four fields stored anew. -/
theorem box_ln {w W : World} {b : Nat} {y0 y1 y2 y3 y4 y5 y6 u0 u1 u2 u3 : Value} (h : Box w b y0 y1 y2 y3 y4 y5 y6) (hW : (((w.setCell ⟨b, 0, none⟩ u0).setCell ⟨b, 1, none⟩ u1).setCell ⟨b, 2, none⟩ u2).setCell ⟨b, 3, none⟩ u3 = W) : Box W b u0 u1 u2 u3 y4 y5 y6 ∧ Fr (fun k => k = b) w W := by
  subst hW
  exact ⟨(((h.set0 u0).set1 u1).set2 u2).set3 u3, (((Fr.setQ _ _ _ _).then (Fr.setQ _ _ _ _)).then (Fr.setQ _ _ _ _)).then (Fr.setQ _ _ _ _)⟩

theorem strs_set {w : World} {a : Addr} {q : Option Addr} {n c : Nat} {u v : Value} {l : List ByteArray} (hc : w.cell? a = some (.slice q n c)) (h : StrsAt w v l) : StrsAt (w.setCell a u) v l := by
  obtain ⟨va, cc, rfl, h1, h2, h3⟩ := h
  refine ⟨va, cc, rfl, h1, h2, fun j y hj => ?_⟩
  obtain ⟨g, o, e, hcell⟩ := h3 j y hj
  refine ⟨g, o, e, ?_⟩
  rw [World.cell?_setCell_other _ _ _ _ (fun e => by rw [e, hcell] at hc; cases hc)]
  exact hcell

theorem row_frz {w : World} {b : Nat} {cur : Array Value} {e : TypeId} (h : w.heap[b]? = some (.cells cur e (0, 0))) (o : Nat) : w.frozen? ⟨b, o, none⟩ = false := by
  unfold World.frozen?
  rw [h]
  simp

/-- A row of things, the lines of one set anew. -/
theorem ents_set {w : World} {g o : Nat} {L : List En} {K : Nat} (hK : K < L.length) (h : EntsAt w (some ⟨g, o, none⟩) L) {u : Value} {l : List ByteArray} (hs : StrsAt w u l) : EntsAt (w.setCell ⟨g, o + K * 4 + 2, none⟩ u) (some ⟨g, o, none⟩) (L.set K ⟨L[K].path, L[K].kind, l, L[K].data⟩) := by
  obtain ⟨gK, oK, eK, vK, k0, k1, k2, k3, sK⟩ := h.get hK
  cases eK
  obtain ⟨pK, cK, rfl, _⟩ := sK
  have far : ∀ j v, j ≠ o + K * 4 + 2 → w.cell? ⟨g, j, none⟩ = some v → (w.setCell ⟨g, o + K * 4 + 2, none⟩ u).cell? ⟨g, j, none⟩ = some v := fun j v hj hv => by
    rw [World.cell?_setCell_other _ _ _ _ (fun e => hj (congrArg Addr.off e).symm)]
    exact hv
  intro k x hk
  by_cases hkK : K = k
  · subst hkK
    rw [List.getElem?_set_self hK] at hk
    cases hk
    exact ⟨g, o, rfl, u, far _ _ (by omega) k0, far _ _ (by omega) k1, World.cell?_setCell_same _ _ _ k2, far _ _ (by omega) k3, strs_set k2 hs⟩
  · rw [List.getElem?_set_ne hkK] at hk
    obtain ⟨g', o', e, v, c0, c1, c2, c3, s⟩ := h k x hk
    cases e
    exact ⟨g, o, rfl, v, far _ _ (by omega) c0, far _ _ (by omega) c1, far _ _ (by omega) c2, far _ _ (by omega) c3, strs_set k2 s⟩

/-- What the document's Apply of a change of lines answers. -/
theorem rdapply_any (l o n : List ByteArray) (x : Int) (ua : Option Addr) (um uc : Nat) (po pn : Option Addr) (no nn co cn : Nat) (w : World) (hl : StrsAt w (.slice ua um uc) l) (ho : StrsAt w (.slice po no co) o) (hn : StrsAt w (.slice pn nn cn) n) (l1 : l.length ≤ 40000) (l2 : o.length ≤ 40000) (l3 : n.length ≤ 40000) (hx : -9223372036854775808 ≤ x ∧ x < 9223372036854775808) :
    Calls Tryz.prog 26 #[.slice ua um uc, .agg #[.int .i64 x, .slice po no co, .slice pn nn cn]] w fun e w' => ∃ (va : Option Addr) (m c : Nat) (b : Bool), e = .returned (.tuple #[.slice va m c, .bool b]) ∧ Hid (b = (hunkL l x o n).isSome) ∧ Hid (∀ l', hunkL l x o n = some l' → StrsAt w' (.slice va m c) l') ∧ Fr None' w w' := by
  obtain ⟨va, c, e1, a1, a2, a3⟩ := hl
  obtain ⟨vb, c', e2, b1, b2, b3⟩ := ho
  obtain ⟨vc, c'', e3, d1, d2, d3⟩ := hn
  cases e1; cases e2; cases e3
  refine (Diff.rapply_arg x ⟨a3, rfl, a2, a1⟩ ⟨b3, rfl, b2, b1⟩ ⟨d3, rfl, d2, d1⟩ l1 l2 l3 hx).mono ?_
  rintro e w' ⟨f, h⟩
  rw [hunk_apply] at h
  cases hr : hunkL l x o n with
  | none =>
    rw [hr] at h
    exact ⟨none, 0, 0, false, h, rfl, (fun l' e => by cases e), ofD f⟩
  | some l' =>
    rw [hr] at h
    obtain ⟨v, he, hO⟩ := h
    have hO : w'.ownsRow w.heap.size 9 1 v l'.length (l'.map Value.string) := by
      have := hO
      unfold Diff.OwnV at this
      rw [List.length_map] at this
      exact this
    have hs := own_strs hO
    obtain ⟨va', c', rfl, q⟩ := hs
    exact ⟨va', l'.length, c', true, he, rfl, (fun l'' e => by cases e; exact ⟨va', c', rfl, q⟩), ofD f⟩

set_option maxHeartbeats 16000000 in
theorem plines_walk (va : Option Addr) (n c : Nat) (L : List En) (a : Nat) (p : Pr) (vo vn : Value) (W : World) (hl : L.length = n) (ha : EntsAt W va L) (hn : n ≤ 140737488355328) (hx : ∀ x ∈ L, x.lines.length ≤ 140737488355328) (h8 : a ≤ 255) (ho : StrsAt W vo p.old) (hw : StrsAt W vn p.new) (lo : p.old.length ≤ 140737488355328) (ln : p.new.length ≤ 140737488355328) :
    Calls Tryz.prog 8 #[.slice va n c, .int .u8 a, .agg #[.int .i64 p.kind, .string p.path, .string p.dst, .string p.src, .int .i64 p.pos, vo, vn]] W fun e w' => e = .returned (.bool true) ∧ Fr None' W w' := by
  obtain ⟨pa, ca, rfl, ho'⟩ := ho
  obtain ⟨pb, cb, rfl, hw'⟩ := hw
  have HO := toHid8 (show ∀ w', Fr None' W w' → StrsAt w' (.slice pa p.old.length ca) p.old from fun w' f => StrsAt.kept ⟨pa, ca, rfl, ho'⟩ f)
  have HN := toHid8 (show ∀ w', Fr None' W w' → StrsAt w' (.slice pb p.new.length cb) p.new from fun w' f => StrsAt.kept ⟨pb, cb, rfl, hw'⟩ f)
  have HE := toHid8 (show ∀ w', Fr None' W w' → EntsAt w' va L from fun w' f => ha.kept f)
  have HG := toHid8 (fun w' (f : Fr None' W w') => great_any va n c L w' hl (ha.kept f) hn hx)
  have HGP := toHid8 (fun w' (f : Fr None' W w') => pgreat_any p _ _ w' (HO.out w' f) (HN.out w' f) lo ln)
  have HT := toHid8 (fun (h1 : weight L < 4000) w' (f : Fr None' W w') => eright_any va n c L w' hl (ha.kept f) (by have := (weight_smE h1).2.1; omega) (weight_smE h1).1)
  have HA := toHid8 (fun (h1 : weight L < 4000) (x : En) (hp : SmPr (lnP x p)) w' (f : Fr None' W w') => apply8_any va n c L (lnP x p) _ _ 4000 w' hl (ha.kept f) (by have := (weight_smE h1).2.1; omega) (weight_smE h1).1 (HO.out w' f) (HN.out w' f) (weight_smE h1).2.2 (by omega) hp)
  have HQ := toHid8 (fun (x : En) (hp : SmPr (lnP x p)) w' (f : Fr None' W w') => qright_any (lnP x p) _ _ w' (HO.out w' f) (HN.out w' f) hp.small)
  unfold GreatPost at HG
  unfold GreatP at HGP
  unfold ApplyPost8 at HA
  simp only [lnP] at HA HQ
  have HLen := toHid8 hl
  have H8 := toHid8 h8
  obtain ⟨w1, hw1⟩ : ∃ w1, W.alloc (.cells #[.int .i64 p.kind, .string p.path, .string p.dst, .string p.src, .int .i64 p.pos, .slice pa p.old.length ca, .slice pb p.new.length cb] 25) = w1 := ⟨_, rfl⟩
  have HF1 := toHid8 (show Fr None' W w1 from hw1 ▸ Fr.alloc None' W _)
  have HB := toHid8 (show Box w1 W.heap.size (.int .i64 p.kind) (.string p.path) (.string p.dst) (.string p.src) (.int .i64 p.pos) (.slice pa p.old.length ca) (.slice pb p.new.length cb) from hw1 ▸ Box.new W _ _ _ _ _ _ _)
  have q1 := head8_any w1
  clear ha hl hx h8 ho' hw' lo ln
  go_enter Tryz.func8, Tryz.ntmps8
  go_wp2_with fail
  with_reducible refine q1.mono ?_
  rintro e w2 ⟨rfl, f2⟩
  have HF2 := toHid8 (HF1.out.then7 f2)
  have HB2 := toHid8 (HB.out.kept f2)
  have q2 := HG.out w2 HF2.out
  clear q1 f2 HG HB HF1 hw1
  go_wp2_with fail
  with_reducible refine q2.mono ?_
  rintro e w3 ⟨g, rfl, hg, f3⟩
  have HF3 := toHid8 (HF2.out.then7 f3)
  have HB3 := toHid8 (HB2.out.kept f3)
  have HGf := toHid8 hg
  clear q2 f3 hg HF2 HB2
  cases g with
  | true =>
    go_wp2_with fail
    go_ret
    exact ⟨rfl, HF3.out⟩
  | false =>
    have HW := toHid8 (HGf.out rfl)
    obtain ⟨p0, p1, p2, p3, p4, p5, p6⟩ := HB3.out.cells
    have q3 := HGP.out w3 HF3.out
    clear HGf HGP
    go_wp2_with fail
    with_reducible refine q3.mono ?_
    rintro e w4 ⟨g, rfl, hg, f4⟩
    have HF4 := toHid8 (HF3.out.then7 f4)
    have HB4 := toHid8 (HB3.out.kept f4)
    have HGf := toHid8 hg
    clear q3 f4 hg HB3 HF3 p0 p1 p2 p3 p4 p5 p6
    cases g with
    | true =>
      go_wp2_with fail
      go_ret
      exact ⟨rfl, HF4.out⟩
    | false =>
      have HWP := toHid8 (HGf.out rfl)
      obtain ⟨rt, hrt⟩ : ∃ rt, treeRight L = rt := ⟨_, rfl⟩
      have q4 := HT.out HW.out w4 HF4.out
      rw [hrt] at q4
      have HRt := toHid8 hrt
      clear HGf HT hrt
      go_wp2_with fail
      with_reducible refine q4.mono ?_
      rintro e w5 ⟨rfl, f5⟩
      have HF5 := toHid8 (HF4.out.then7 f5)
      have HB5 := toHid8 (HB4.out.kept f5)
      clear q4 f5 HF4 HB4
      cases rt with
      | false =>
        go_wp2_with fail
        go_ret
        exact ⟨rfl, HF5.out⟩
      | true =>
        by_cases hn0 : n = 0
        · subst hn0
          go_wp2_with fail
          go_ret
          exact ⟨rfl, HF5.out⟩
        · have j0 : ¬ (n : Int) = 0 := by omega
          have j1 : ((n : Int) == 0) = false := by simpa using j0
          obtain ⟨K, hK⟩ : ∃ K : Nat, a % n = K := ⟨_, rfl⟩
          have hKk : K < n := by rw [← hK]; exact Nat.mod_lt _ (by omega)
          have hw64 : wrap64 (a : Int) = (a : Int) := by
            have := H8.out
            unfold wrap64
            omega
          have m1 : (wrap64 (a : Int)).tmod (n : Int) = (K : Int) := by rw [hw64, ← hK]; rfl
          have hKL : K < L.length := by rw [HLen.out]; exact hKk
          obtain ⟨g, o, rfl, vl, d0, d1, d2, d3, hs1⟩ := (HE.out w5 HF5.out).get hKL
          have hsz : L[K].path.size ≤ 4000 := by
            have h1 := weight_mem (List.getElem_mem hKL)
            have h2 := HW.out
            unfold En.weight at h1
            omega
          have HSm := toHid8 (ln_sm hsz (weight_smP HWP.out))
          have i7 : (0 : Int) ≤ (K : Int) := by omega
          have i8 : (K : Int) < (n : Int) := by omega
          have hgW : g < W.heap.size := by
            obtain ⟨g', o', e', vl', c0, _⟩ := (HE.out W (Fr.refl _ _)).get hKL
            cases e'
            rcases Nat.lt_or_ge g W.heap.size with h | h
            · exact h
            · rw [World.cell?, Array.getElem?_eq_none h] at c0; cases c0
          have HgW := toHid8 hgW
          obtain ⟨pth, hpth⟩ : ∃ x, L[K].path = x := ⟨_, rfl⟩
          rw [hpth] at d0
          obtain ⟨b, hb⟩ : ∃ b, W.heap.size = b := ⟨_, rfl⟩
          obtain ⟨wa, hwa⟩ : ∃ x, w5.setCell ⟨b, 0, none⟩ (.int .i64 7) = x := ⟨_, rfl⟩
          obtain ⟨wb, hwb⟩ : ∃ x, wa.setCell ⟨b, 1, none⟩ (.string pth) = x := ⟨_, rfl⟩
          obtain ⟨wc, hwc⟩ : ∃ x, wb.setCell ⟨b, 2, none⟩ (.string ⟨#[]⟩) = x := ⟨_, rfl⟩
          obtain ⟨w6, hw6⟩ : ∃ x, wc.setCell ⟨b, 3, none⟩ (.string ⟨#[]⟩) = x := ⟨_, rfl⟩
          have HB5' := HB5.out
          rw [hb] at HB5' ⊢
          have Ba := hwa ▸ HB5'.set0 (.int .i64 7)
          have Bb := hwb ▸ Ba.set1 (.string pth)
          have Bc := hwc ▸ Bb.set2 (.string ⟨#[]⟩)
          have B6 := hw6 ▸ Bc.set3 (.string ⟨#[]⟩)
          have fa : Fr (fun k => k = b) w5 wa := hwa ▸ Fr.setQ _ _ _ _
          have f6 : Fr (fun k => k = b) w5 w6 := ((fa.then (hwb ▸ Fr.setQ _ _ _ _)).then (hwc ▸ Fr.setQ _ _ _ _)).then (hw6 ▸ Fr.setQ _ _ _ _)
          have da : wa.cell? ⟨g, o + K * 4, none⟩ = some (.string pth) := fa.keepCell d0 (fun e => by have e' : g = b := e; omega)
          have z5 := HB5'.frozen
          have za := Ba.frozen
          have zb := Bb.frozen
          have zc := Bc.frozen
          have x5 := HB5'.cells.1
          have xa := Ba.cells.2.1
          have xb := Bb.cells.2.2.1
          have xc := Bc.cells.2.2.2.1
          obtain ⟨p0, p1, p2, p3, p4, p5, p6⟩ := B6.cells
          have HF6 := toHid8 (show Fr None' W w6 from HF5.out.trans f6 (fun i e => Or.inr (by omega)))
          have HB6 := toHid8 B6
          have q5 := HQ.out L[K] HSm.out w6 HF6.out
          rw [hpth] at q5
          obtain ⟨rp, hrp⟩ : ∃ r, rightP (lnP L[K] p) = r := ⟨_, rfl⟩
          have hrp' := hrp
          simp only [lnP, hpth] at hrp'
          rw [hrp'] at q5
          have HRp := toHid8 hrp
          have HPth := toHid8 hpth
          clear hrp hrp' hpth fa f6 Ba Bb Bc B6 HB5' hgW d1 d2 d3 hs1 hsz hw64 hK hKk HB5
          go_wp2_with fail
          with_reducible refine q5.mono ?_
          rintro e w7 ⟨rfl, f7⟩
          have HF7 := toHid8 (HF6.out.then7 f7)
          have HB7 := toHid8 (HB6.out.kept f7)
          clear q5 f7 HF6 HB6 p0 p1 p2 p3 p4 p5 p6 z5 za zb zc x5 xa xb xc da d0 hwa hwb hwc hw6 m1
          cases rp with
          | false =>
            go_wp2_with fail
            go_ret
            exact ⟨rfl, HF7.out⟩
          | true =>
            have hln := ln_all HRt.out hKL HRp.out
            have hlnA := hln
            have HLn := toHid8 (show L[K].lines.length ≤ 40000 from by
              have h1 := weight_mem (List.getElem_mem hKL)
              have h2 := HW.out
              unfold En.weight at h1
              omega)
            have q6 := HA.out HW.out L[K] HSm.out w7 HF7.out
            simp only [lnP] at hln
            rw [hln, HPth.out] at q6
            obtain ⟨p0, p1, p2, p3, p4, p5, p6⟩ := HB7.out.cells
            clear hln HA
            by_cases hk2 : L[K].kind = 2
            · rw [if_neg (by simpa using hk2)] at q6
              obtain ⟨R, hR⟩ : ∃ R, hunkL L[K].lines p.pos p.old p.new = R := ⟨_, rfl⟩
              rw [hR] at q6
              have HRu := toHid8 hR
              have HPos := toHid8 (lines_pos HRp.out rfl)
              cases R with
              | none =>
                simp only at q6
                go_wp2_with fail
                with_reducible refine q6.mono ?_
                rintro e w8 ⟨v8, c8, rfl, HE8, _, f8⟩
                have HF8 := toHid8 (HF7.out.then7 f8)
                obtain ⟨p0, p1, p2, p3, p4, p5, p6⟩ := (HB7.out.kept f8).cells
                obtain ⟨g', o', e', vl', d0, d1, d2, d3, hsl⟩ := (HE.out w8 HF8.out).get hKL
                cases e'
                obtain ⟨ul, uc, rfl, hsl'⟩ := hsl
                have HD := toHid8 (show ∀ w', Fr None' w8 w' → Calls Tryz.prog 26 #[.slice ul L[K].lines.length uc, .agg #[.int .i64 p.pos, .slice pa p.old.length ca, .slice pb p.new.length cb]] w' fun e w'' => ∃ (va9 : Option Addr) (m9 c9 : Nat), e = .returned (.tuple #[.slice va9 m9 c9, .bool false]) ∧ Hid (∀ l', (none : Option (List ByteArray)) = some l' → StrsAt w'' (.slice va9 m9 c9) l') ∧ Fr None' w8 w'' from fun w' f => by
                  refine (rdapply_any L[K].lines p.old p.new p.pos ul L[K].lines.length uc pa pb p.old.length p.new.length ca cb w' (StrsAt.kept ⟨ul, uc, rfl, hsl'⟩ f) (HO.out w' (HF8.out.then7 f)) (HN.out w' (HF8.out.then7 f)) HLn.out (by have := (weight_smP HWP.out).old; omega) (by have := (weight_smP HWP.out).new; omega) HPos.out).mono ?_
                  rintro e w'' ⟨va9, m9, c9, b9, rfl, Hb, HS9, f9⟩
                  rw [HRu.out] at Hb HS9
                  obtain rfl : false = b9 := Hb.out.symm
                  exact ⟨va9, m9, c9, rfl, HS9.out, f.then7 f9⟩)
                rw [hk2] at d1
                have HI := toHid8 (show ∀ w', Fr None' w8 w' → Fr None' w8 w' ∧ w'.cell? ⟨g, o + K * 4 + 2, none⟩ = some (.slice ul L[K].lines.length uc) ∧ w'.cell? ⟨b, 4, none⟩ = some (.int .i64 p.pos) ∧ w'.cell? ⟨b, 5, none⟩ = some (.slice pa p.old.length ca) ∧ w'.cell? ⟨b, 6, none⟩ = some (.slice pb p.new.length cb) from fun w' f => ⟨f, f.keepCell d2 (fun e => e), f.keepCell p4 (fun e => e), f.keepCell p5 (fun e => e), f.keepCell p6 (fun e => e)⟩)
                clear q6 f8 HF7 HB7 hsl' p0 p1 p2 p3 p4 p5 p6 d0 d2 d3
                go_wp2_with fail
                go_region_held3 (fun w' => Fr None' w8 w' ∧ w'.cell? ⟨g, o + K * 4 + 2, none⟩ = some (.slice ul L[K].lines.length uc) ∧ w'.cell? ⟨b, 4, none⟩ = some (.int .i64 p.pos) ∧ w'.cell? ⟨b, 5, none⟩ = some (.slice pa p.old.length ca) ∧ w'.cell? ⟨b, 6, none⟩ = some (.slice pb p.new.length cb))
                  (exact HI.out _ (by first | assumption | exact Fr.drew None' w8 | exact Fr.refl _ _ | exact Fr.then7 (by assumption) (Fr.drew None' _)))
                  (first
                    | (go_at_call 26; with_reducible (refine (HD.out _ (by first | assumption | exact Fr.drew None' w8 | exact Fr.refl _ _)).mono ?_); rintro e w9 ⟨va9, m9, c9, rfl, HS9, f9⟩))
                have HF9 := toHid8 (HF8.out.then7 f9)
                clear d1
                go_wp2_with fail
                go_ret
                exact ⟨rfl, HF9.out⟩
              | some l' =>
                have HLnA := toHid8 (show allE L [lnP L[K] p] = (L.set K ⟨L[K].path, L[K].kind, l', L[K].data⟩, 0, 0) from by rw [hlnA, if_neg (by simpa using hk2), hR])
                simp only at q6
                go_wp2_with fail
                with_reducible refine q6.mono ?_
                rintro e w8 ⟨v8, c8, rfl, HE8, _, f8⟩
                have HF8 := toHid8 (HF7.out.then7 f8)
                obtain ⟨p0, p1, p2, p3, p4, p5, p6⟩ := (HB7.out.kept f8).cells
                obtain ⟨g', o', e', vl', d0, d1, d2, d3, hsl⟩ := (HE.out w8 HF8.out).get hKL
                cases e'
                obtain ⟨ul, uc, rfl, hsl'⟩ := hsl
                have HD := toHid8 (show ∀ w', Fr None' w8 w' → Calls Tryz.prog 26 #[.slice ul L[K].lines.length uc, .agg #[.int .i64 p.pos, .slice pa p.old.length ca, .slice pb p.new.length cb]] w' fun e w'' => ∃ (va9 : Option Addr) (m9 c9 : Nat), e = .returned (.tuple #[.slice va9 m9 c9, .bool true]) ∧ Hid (∀ l'', some l' = some l'' → StrsAt w'' (.slice va9 m9 c9) l'') ∧ Fr None' w8 w'' from fun w' f => by
                  refine (rdapply_any L[K].lines p.old p.new p.pos ul L[K].lines.length uc pa pb p.old.length p.new.length ca cb w' (StrsAt.kept ⟨ul, uc, rfl, hsl'⟩ f) (HO.out w' (HF8.out.then7 f)) (HN.out w' (HF8.out.then7 f)) HLn.out (by have := (weight_smP HWP.out).old; omega) (by have := (weight_smP HWP.out).new; omega) HPos.out).mono ?_
                  rintro e w'' ⟨va9, m9, c9, b9, rfl, Hb, HS9, f9⟩
                  rw [HRu.out] at Hb HS9
                  obtain rfl : true = b9 := Hb.out.symm
                  exact ⟨va9, m9, c9, rfl, HS9.out, f.then7 f9⟩)
                rw [hk2] at d1
                have HI := toHid8 (show ∀ w', Fr None' w8 w' → Fr None' w8 w' ∧ w'.cell? ⟨g, o + K * 4 + 2, none⟩ = some (.slice ul L[K].lines.length uc) ∧ w'.cell? ⟨b, 4, none⟩ = some (.int .i64 p.pos) ∧ w'.cell? ⟨b, 5, none⟩ = some (.slice pa p.old.length ca) ∧ w'.cell? ⟨b, 6, none⟩ = some (.slice pb p.new.length cb) from fun w' f => ⟨f, f.keepCell d2 (fun e => e), f.keepCell p4 (fun e => e), f.keepCell p5 (fun e => e), f.keepCell p6 (fun e => e)⟩)
                clear q6 f8 HF7 HB7 hsl' p0 p1 p2 p3 p4 p5 p6 d0 d2 d3
                go_wp2_with fail
                go_region_held3 (fun w' => Fr None' w8 w' ∧ w'.cell? ⟨g, o + K * 4 + 2, none⟩ = some (.slice ul L[K].lines.length uc) ∧ w'.cell? ⟨b, 4, none⟩ = some (.int .i64 p.pos) ∧ w'.cell? ⟨b, 5, none⟩ = some (.slice pa p.old.length ca) ∧ w'.cell? ⟨b, 6, none⟩ = some (.slice pb p.new.length cb))
                  (exact HI.out _ (by first | assumption | exact Fr.drew None' w8 | exact Fr.refl _ _ | exact Fr.then7 (by assumption) (Fr.drew None' _)))
                  (first
                    | (go_at_call 26; with_reducible (refine (HD.out _ (by first | assumption | exact Fr.drew None' w8 | exact Fr.refl _ _)).mono ?_); rintro e w9 ⟨va9, m9, c9, rfl, HS9, f9⟩))
                have HF9 := toHid8 (HF8.out.then7 f9)
                have sl9 := HS9.out l' rfl
                obtain ⟨wA, hwA⟩ : ∃ x, w9.alloc (.cells #[] 41) = x := ⟨_, rfl⟩
                have FA : Fr None' w9 wA := hwA ▸ Fr.alloc None' w9 _
                have own0 : OwnE w9.heap.size w9 wA (.slice (some ⟨w9.heap.size, 0, none⟩) 0 0) [] [] := ⟨rfl, ⟨rfl, Or.inr ⟨w9.heap.size, 0, #[], rfl, Nat.le_refl _, by rw [← hwA]; exact heap_alloc_new w9 _, Nat.le_refl _, by decide, rfl, rfl⟩⟩, fun k x vl e => by simp at e⟩
                obtain ⟨vB, U, wB, hrB, OB, fB⟩ := own0.appendAll (c := c) (m := n) HLen.out (HE.out w9 HF9.out) FA (by have := (weight_smE HW.out).2.1; have := HLen.out; simp; omega) FA.size
                have FB : Fr None' w9 wB := FA.trans fB (fun i e => Or.inr (by cases e; exact Nat.le_refl _))
                rw [List.nil_append] at OB
                obtain ⟨uB, cB, hvB, _, _, EB, _⟩ := OB.slice FB
                obtain ⟨gB, oB, rfl, vk, k0, k1, k2, k3, ks⟩ := EB.get hKL
                have hz : (∀ o, wB.frozen? ⟨gB, o, none⟩ = false) ∧ w9.heap.size ≤ gB := by
                  rcases OB.row.2 with ⟨h, e⟩ | ⟨g2, cap, cur, h, hb2, hh, _⟩
                  · rw [hvB] at h; cases h
                  · rw [hvB] at h; cases h; exact ⟨row_frz hh, hb2⟩
                rw [HLen.out] at hvB
                subst hvB
                obtain ⟨pk, ck, rfl, _⟩ := ks
                obtain ⟨wC, hwC⟩ : ∃ x, wB.setCell ⟨gB, oB + K * 4 + 2, none⟩ (.slice va9 m9 c9) = x := ⟨_, rfl⟩
                have EC : EntsAt wC (some ⟨gB, oB, none⟩) (L.set K ⟨L[K].path, L[K].kind, l', L[K].data⟩) := hwC ▸ ents_set hKL EB (sl9.kept FB)
                have fC : Fr (fun k => k = gB) wB wC := hwC ▸ Fr.setQ _ _ _ _
                have F9C : Fr None' w9 wC := FB.trans fC (fun i e => Or.inr (by have e' : i = gB := e; omega))
                have HFC := toHid8 (HF9.out.then7 F9C)
                obtain ⟨t1, t2, t3, _, _⟩ := all_stepE HLnA.out (weight_smE HW.out).2.2 HSm.out
                obtain ⟨z1, z2⟩ := tree_small t2 t3 (by omega)
                have q8 := esame_any v8 (some ⟨gB, oB, none⟩) n c8 cB (L.set K ⟨L[K].path, L[K].kind, l', L[K].data⟩) wC (by rw [List.length_set, HLen.out]) (by rw [HPth.out]; exact HE8.out.kept (f9.then7 F9C)) EC (by have := z2; rw [List.length_set] at this; have := HLen.out; omega) z1
                have HRB := toHid8 (show (Builtin.append_ #[22, 22] 22 #[.slice (some ⟨w9.heap.size, 0, none⟩) 0 0, .slice (some ⟨g, o, none⟩) n c]).run Tryz.prog wA = .ok (.slice (some ⟨gB, oB, none⟩) n cB) wB from hrB)
                have hz1 := hz.1
                clear d1 t1 t2 t3 z1 z2 fC F9C EC FB fB FA own0 OB EB hrB sl9 f9 hz k0 k1 k3
                simp only [HLen.out]
                go_wp2_with (at_builtin
                             refine app_list8 rfl _ _ rfl rfl rfl HRB.out ?_)
                with_reducible refine q8.mono ?_
                rintro e wD ⟨rfl, fD⟩
                have HFD := toHid8 (HFC.out.then7 fD)
                clear q8 fD
                go_wp2_with fail
                go_ret
                exact ⟨rfl, HFD.out⟩
            · rw [if_pos hk2] at q6
              go_wp2_with fail
              with_reducible refine q6.mono ?_
              rintro e w8 ⟨v8, c8, rfl, _, _, f8⟩
              have HF8 := toHid8 (HF7.out.then7 f8)
              obtain ⟨g', o', e', vl', d0, d1, d2, d3, _⟩ := (HE.out w8 HF8.out).get hKL
              cases e'
              obtain ⟨kd, hkd⟩ : ∃ x, L[K].kind = x := ⟨_, rfl⟩
              rw [hkd] at d1 hk2
              have hk3 : (kd == 2) = false := by simpa using hk2
              clear q6 f8 HF7 HB7 p0 p1 p2 p3 p4 p5 p6 d0 d2 d3 hkd
              go_wp2_with fail
              go_ret
              exact ⟨rfl, HF8.out⟩

end Go.Proofs.YtcpjneejlfgkeaaGreatDoor

namespace Go.Proofs.YtcpjneejlfgkeaaGreatDoor
open Go.RowKit
set_option maxRecDepth 100000

theorem rdapply2_any (l o n : List ByteArray) (x : Int) (ua : Option Addr) (um uc : Nat) (po pn : Option Addr) (no nn co cn : Nat) (w : World) (hl : StrsAt w (.slice ua um uc) l) (ho : StrsAt w (.slice po no co) o) (hn : StrsAt w (.slice pn nn cn) n) (l1 : l.length ≤ 40000) (l2 : o.length ≤ 40000) (l3 : n.length ≤ 40000) (hx : -9223372036854775808 ≤ x ∧ x < 9223372036854775808) :
    Calls Tryz.prog 26 #[.slice ua um uc, .agg #[.int .i64 x, .slice po no co, .slice pn nn cn]] w fun e w' => ∃ (va : Option Addr) (m c : Nat) (b : Bool), e = .returned (.tuple #[.slice va m c, .bool b]) ∧ Hid (b = (hunkL l x o n).isSome) ∧ Hid (∀ l', hunkL l x o n = some l' → StrsAt w' (.slice va m c) l') ∧ Hid (∀ l', hunkL l x o n = some l' → ∀ k, (Value.slice va m c).ownBlock = some k → w.heap.size ≤ k) ∧ Fr None' w w' := by
  obtain ⟨va, c, e1, a1, a2, a3⟩ := hl
  obtain ⟨vb, c', e2, b1, b2, b3⟩ := ho
  obtain ⟨vc, c'', e3, d1, d2, d3⟩ := hn
  cases e1; cases e2; cases e3
  refine (Diff.rapply_arg x ⟨a3, rfl, a2, a1⟩ ⟨b3, rfl, b2, b1⟩ ⟨d3, rfl, d2, d1⟩ l1 l2 l3 hx).mono ?_
  rintro e w' ⟨f, h⟩
  rw [hunk_apply] at h
  cases hr : hunkL l x o n with
  | none =>
    rw [hr] at h
    exact ⟨none, 0, 0, false, h, rfl, (fun l' e => by cases e), (fun l' e => by cases e), ofD f⟩
  | some l' =>
    rw [hr] at h
    obtain ⟨v, he, hO⟩ := h
    have hO : w'.ownsRow w.heap.size 9 1 v l'.length (l'.map Value.string) := by
      have := hO
      unfold Diff.OwnV at this
      rw [List.length_map] at this
      exact this
    have hs := own_strs hO
    have hge := fun k (e : v.ownBlock = some k) => own_ge hO e
    obtain ⟨va', c', rfl, q⟩ := hs
    exact ⟨va', l'.length, c', true, he, rfl, (fun l'' e => by cases e; exact ⟨va', c', rfl, q⟩), (fun l'' _ => hge), ofD f⟩

set_option maxHeartbeats 4000000 in
theorem vchange_9 (x : En) (p : Pr) (ua : Option Addr) (um uc : Nat) (vo vn : Value) (w : World) (hx : StrsAt w (.slice ua um uc) x.lines) (ho : StrsAt w vo p.old) (hn : StrsAt w vn p.new) (hk : p.kind = 9) :
    Calls Tryz.prog 33 #[.agg #[.string x.path, .int .i64 x.kind, .slice ua um uc, .string x.data], .agg #[.int .i64 p.kind, .string p.path, .string p.dst, .string p.src, .int .i64 p.pos, vo, vn]] w fun e w' => WithPost (withE x p) w e w' := by
  have HX := toHid8 hx
  have HW := toHid8 (show withE x p = if x.data = p.src then some { x with data := p.dst } else none from by unfold withE; rw [if_neg (by omega), if_neg (by omega)])
  rw [HW.out]
  clear HW
  obtain ⟨P, K, l, D⟩ := x
  obtain ⟨K2, P2, T2, F2, A2, lO, lN⟩ := p
  simp only at hx ho hn HX hk ⊢
  subst hk
  obtain ⟨pa, ca, rfl, _⟩ := ho
  obtain ⟨pb, cb, rfl, _⟩ := hn
  generalize lO.length = no
  generalize lN.length = nn
  obtain ⟨w1, hw1⟩ : ∃ w1, w.alloc (.cells #[.string P, .int .i64 K, .slice ua um uc, .string D] 41) = w1 := ⟨_, rfl⟩
  obtain ⟨w2, hw2⟩ : ∃ w2, w1.alloc (.cells #[.int .i64 9, .string P2, .string T2, .string F2, .int .i64 A2, .slice pa no ca, .slice pb nn cb] 25) = w2 := ⟨_, rfl⟩
  obtain ⟨w3, hw3⟩ : ∃ w3, w2.alloc (.cells #[.string ⟨#[]⟩, .int .i64 0, .slice none 0 0, .string ⟨#[]⟩] 41) = w3 := ⟨_, rfl⟩
  have F1 : Fr None' w w1 := hw1 ▸ Fr.alloc None' w _
  have F2' : Fr None' w1 w2 := hw2 ▸ Fr.alloc None' w1 _
  have F3 : Fr None' w2 w3 := hw3 ▸ Fr.alloc None' w2 _
  have s1 : w1.heap.size = w.heap.size + 1 := by rw [← hw1]; simp
  have s2 : w2.heap.size = w1.heap.size + 1 := by rw [← hw2]; simp
  have BX : EBox w3 w.heap.size (.string P) (.int .i64 K) (.slice ua um uc) (.string D) := ((hw1 ▸ EBox.new w _ _ _ _ : EBox w1 _ _ _ _ _).kept F2').kept F3
  have BP : Box w3 w1.heap.size (.int .i64 9) (.string P2) (.string T2) (.string F2) (.int .i64 A2) (.slice pa no ca) (.slice pb nn cb) := (hw2 ▸ Box.new w1 _ _ _ _ _ _ _ : Box w2 _ _ _ _ _ _ _ _).kept F3
  have BR : EBox w3 w2.heap.size (.string ⟨#[]⟩) (.int .i64 0) (.slice none 0 0) (.string ⟨#[]⟩) := hw3 ▸ EBox.new w2 _ _ _ _
  have HF := toHid8 ((F1.then7 F2').then7 F3)
  have HS := toHid8 (And.intro s1 s2)
  obtain ⟨x0, x1, x2, x3⟩ := BX.cells
  have xz := BX.frozen
  obtain ⟨p0, p1, p2, p3, p4, p5, p6⟩ := BP.cells
  obtain ⟨w4, hw4⟩ : ∃ w4, w3.setCell ⟨w.heap.size, 3, none⟩ (.string T2) = w4 := ⟨_, rfl⟩
  have F4 : Fr (fun k => k = w.heap.size) w3 w4 := hw4 ▸ Fr.setCell (M := fun k => k = w.heap.size) (a := ⟨w.heap.size, 3, none⟩) w3 rfl _
  have BX4 : EBox w4 w.heap.size (.string P) (.int .i64 K) (.slice ua um uc) (.string T2) := hw4 ▸ BX.set3 _
  have BR4 : EBox w4 w2.heap.size (.string ⟨#[]⟩) (.int .i64 0) (.slice none 0 0) (.string ⟨#[]⟩) := BR.fr F4 (fun e => by have e : w2.heap.size = w.heap.size := e; omega)
  obtain ⟨e0, e1, e2, e3⟩ := BX4.cells
  obtain ⟨r0, r1, r2, r3⟩ := BR4.cells
  have rz := BR4.frozen
  have HBR := toHid8 BR4
  have HF4 := toHid8 (HF.out.trans F4 (fun i e => Or.inr (by have e : i = w.heap.size := e; omega)))
  clear BX BP BR BX4 BR4 F1 F2' F3 F4 hx s1 s2
  by_cases hd : D = F2
  · subst hd
    rw [if_pos rfl]
    go_enter Tryz.func33, Tryz.ntmps33
    go_wp2_with fail
    obtain ⟨hld, _, hfr⟩ := fin_entry HF4.out HBR.out (by have := HS.out; omega) (.string P) (.int .i64 K) (.slice ua um uc) (.string T2)
    refine bodyPost_ret (v := .tuple #[.agg #[.string P, .int .i64 K, .slice ua um uc, .string T2], .bool true]) (by rw [results_cell_tmp rfl]; simp [asAddr, Result.andThen, hld]) rfl ?_
    exact ⟨P, K, ua, um, uc, T2, true, rfl, rfl, fun y hy => (by cases hy; exact ⟨rfl, rfl, rfl, HX.out.kept hfr⟩), hfr⟩
  · obtain ⟨d1, d2⟩ := str_no7 hd
    rw [if_neg hd]
    go_enter Tryz.func33, Tryz.ntmps33
    go_wp2_with fail
    obtain ⟨hld, _, hfr⟩ := fin_entry HF4.out HBR.out (by have := HS.out; omega) (.string P) (.int .i64 K) (.slice ua um uc) (.string T2)
    refine bodyPost_ret (v := .tuple #[.agg #[.string P, .int .i64 K, .slice ua um uc, .string T2], .bool false]) (by rw [results_cell_tmp rfl]; simp [asAddr, Result.andThen, hld]) rfl ?_
    exact ⟨P, K, ua, um, uc, T2, false, rfl, rfl, fun y hy => (by cases hy), hfr⟩


set_option maxHeartbeats 4000000 in
theorem vchange_7 (x : En) (p : Pr) (ua : Option Addr) (um uc : Nat) (vo vn : Value) (w : World) (hx : StrsAt w (.slice ua um uc) x.lines) (ho : StrsAt w vo p.old) (hn : StrsAt w vn p.new) (hk : p.kind = 7) (l1 : x.lines.length ≤ 40000) (l2 : p.old.length ≤ 40000) (l3 : p.new.length ≤ 40000) (hp : -9223372036854775808 ≤ p.pos ∧ p.pos < 9223372036854775808) :
    Calls Tryz.prog 33 #[.agg #[.string x.path, .int .i64 x.kind, .slice ua um uc, .string x.data], .agg #[.int .i64 p.kind, .string p.path, .string p.dst, .string p.src, .int .i64 p.pos, vo, vn]] w fun e w' => WithPost (withE x p) w e w' := by
  have HW := toHid8 (show withE x p = (hunkL x.lines p.pos p.old p.new).map (fun l => { x with lines := l }) from by unfold withE; rw [if_pos hk])
  rw [HW.out]
  obtain ⟨pa, ca, rfl, ho'⟩ := ho
  obtain ⟨pb, cb, rfl, hn'⟩ := hn
  have HA := toHid8 (fun w' (f : Fr None' w w') => rdapply2_any x.lines p.old p.new p.pos ua um uc pa pb p.old.length p.new.length ca cb w' (hx.kept f) (StrsAt.kept ⟨pa, ca, rfl, ho'⟩ f) (StrsAt.kept ⟨pb, cb, rfl, hn'⟩ f) l1 l2 l3 hp)
  clear HW hx ho' hn' l1 l2 l3 hp
  obtain ⟨P, K, l, D⟩ := x
  obtain ⟨K2, P2, T2, F2, A2, lO, lN⟩ := p
  simp only at HA hk ⊢
  subst hk
  generalize hunkL l A2 lO lN = R at HA ⊢
  generalize lO.length = no at HA ⊢
  generalize lN.length = nn at HA ⊢
  obtain ⟨w1, hw1⟩ : ∃ w1, w.alloc (.cells #[.string P, .int .i64 K, .slice ua um uc, .string D] 41) = w1 := ⟨_, rfl⟩
  obtain ⟨w2, hw2⟩ : ∃ w2, w1.alloc (.cells #[.int .i64 7, .string P2, .string T2, .string F2, .int .i64 A2, .slice pa no ca, .slice pb nn cb] 25) = w2 := ⟨_, rfl⟩
  obtain ⟨w3, hw3⟩ : ∃ w3, w2.alloc (.cells #[.string ⟨#[]⟩, .int .i64 0, .slice none 0 0, .string ⟨#[]⟩] 41) = w3 := ⟨_, rfl⟩
  have F1 : Fr None' w w1 := hw1 ▸ Fr.alloc None' w _
  have F2' : Fr None' w1 w2 := hw2 ▸ Fr.alloc None' w1 _
  have F3 : Fr None' w2 w3 := hw3 ▸ Fr.alloc None' w2 _
  have s1 : w1.heap.size = w.heap.size + 1 := by rw [← hw1]; simp
  have s2 : w2.heap.size = w1.heap.size + 1 := by rw [← hw2]; simp
  have s3 : w3.heap.size = w2.heap.size + 1 := by rw [← hw3]; simp
  have BX : EBox w3 w.heap.size (.string P) (.int .i64 K) (.slice ua um uc) (.string D) := ((hw1 ▸ EBox.new w _ _ _ _ : EBox w1 _ _ _ _ _).kept F2').kept F3
  have BP : Box w3 w1.heap.size (.int .i64 7) (.string P2) (.string T2) (.string F2) (.int .i64 A2) (.slice pa no ca) (.slice pb nn cb) := (hw2 ▸ Box.new w1 _ _ _ _ _ _ _ : Box w2 _ _ _ _ _ _ _ _).kept F3
  have BR : EBox w3 w2.heap.size (.string ⟨#[]⟩) (.int .i64 0) (.slice none 0 0) (.string ⟨#[]⟩) := hw3 ▸ EBox.new w2 _ _ _ _
  have HF := toHid8 ((F1.then7 F2').then7 F3)
  have HS := toHid8 (And.intro s1 (And.intro s2 s3))
  obtain ⟨x0, x1, x2, x3⟩ := BX.cells
  obtain ⟨p0, p1, p2, p3, p4, p5, p6⟩ := BP.cells
  have HBX := toHid8 BX
  have HBR := toHid8 BR
  have cA := HA.out w3 HF.out
  clear BX BP BR F1 F2' F3 s1 s2 s3 HA
  go_enter Tryz.func33, Tryz.ntmps33
  go_wp2_with fail
  with_reducible refine cA.mono ?_
  rintro e w4 ⟨va, m, c, b, rfl, Hb, HL, HZ, f4⟩
  clear cA x0 x1 x2 x3 p0 p1 p2 p3 p4 p5 p6
  have BX4 := HBX.out.kept f4
  have BR4 := HBR.out.kept f4
  obtain ⟨x0, x1, x2, x3⟩ := BX4.cells
  have xz := BX4.frozen
  obtain ⟨w5, hw5⟩ : ∃ w5, w4.setCell ⟨w.heap.size, 2, none⟩ (.slice va m c) = w5 := ⟨_, rfl⟩
  have F5 : Fr (fun k => k = w.heap.size) w4 w5 := hw5 ▸ Fr.setCell (M := fun k => k = w.heap.size) (a := ⟨w.heap.size, 2, none⟩) w4 rfl _
  have BX5 : EBox w5 w.heap.size (.string P) (.int .i64 K) (.slice va m c) (.string D) := hw5 ▸ BX4.set2 _
  have BR5 : EBox w5 w2.heap.size (.string ⟨#[]⟩) (.int .i64 0) (.slice none 0 0) (.string ⟨#[]⟩) := BR4.fr F5 (fun e => by have e : w2.heap.size = w.heap.size := e; have := HS.out; omega)
  obtain ⟨e0, e1, e2, e3⟩ := BX5.cells
  obtain ⟨r0, r1, r2, r3⟩ := BR5.cells
  have rz := BR5.frozen
  have HBR5 := toHid8 BR5
  have HF5 := toHid8 ((HF.out.then7 f4).trans F5 (fun i e => Or.inr (by have e : i = w.heap.size := e; omega)))
  have HN := toHid8 (show ∀ l', R = some l' → ∀ W, Fr (fun k => k = w2.heap.size) w5 W → StrsAt W (.slice va m c) l' from fun l' e W f => by
    have h4 := HL.out l' e
    have hz := HZ.out l' e
    refine (h4.far F5 (fun hl k ek ek' => ?_)).far f (fun hl k ek ek' => ?_)
    · have := hz k ek; have e' : k = w.heap.size := ek'; have := HS.out; omega
    · have := hz k ek; have e' : k = w2.heap.size := ek'; have := HS.out; omega)
  clear BX4 BR4 BX5 BR5 F5 HL f4 HBX HBR
  go_wp2_with fail
  obtain ⟨hld, hfs, hfr⟩ := fin_entry HF5.out HBR5.out (by have := HS.out; omega) (.string P) (.int .i64 K) (.slice va m c) (.string D)
  refine bodyPost_ret (v := .tuple #[.agg #[.string P, .int .i64 K, .slice va m c, .string D], .bool b]) (by rw [results_cell_tmp rfl]; simp [asAddr, Result.andThen, hld]) rfl ?_
  refine ⟨P, K, va, m, c, D, b, rfl, ?_, fun y hy => ?_, hfr⟩
  · show b = _
    rw [Hb.out]
    cases R <;> rfl
  · obtain ⟨l', e, rfl⟩ := Option.map_eq_some_iff.1 hy
    exact ⟨rfl, rfl, rfl, HN.out l' e _ hfs⟩


end Go.Proofs.YtcpjneejlfgkeaaGreatDoor

namespace Go.Proofs.YtcpjneejlfgkeaaGreatDoor
open Go.RowKit
set_option maxRecDepth 100000

set_option maxHeartbeats 4000000 in
theorem dright_1 (P T F : ByteArray) (A : Int) (lO lN : List ByteArray) (pa pb : Option Addr) (no nn ca cb : Nat) (w : World) (hno : lO.length = no) (hnn : lN.length = nn) (zP : P.size < 900000) (_zT : T.size < 900000) (zo : no < 900000) (zn : nn < 900000) :
    Calls Tryz.prog 15 #[.agg #[.int .i64 1, .string P, .string T, .string F, .int .i64 A, .slice pa no ca, .slice pb nn cb]] w fun e w' => e = .returned (.bool (rightP ⟨1, P, T, F, A, lO, lN⟩)) ∧ Fr None' w w' := by
  have cP : ∀ w', Calls Tryz.prog 25 #[.string P] w' fun e w'' => e = .returned (.bool (Path.right P.data.toList)) ∧ w' = w'' := fun w' => Path.rright_any P w' (by omega)
  obtain ⟨w1, hw1⟩ : ∃ w1, w.alloc (.cells #[.int .i64 1, .string P, .string T, .string F, .int .i64 A, .slice pa no ca, .slice pb nn cb] 25) = w1 := ⟨_, rfl⟩
  have HF := toHid8 (show Fr None' w w1 from hw1 ▸ Fr.alloc None' w _)
  obtain ⟨a0, a1, a2, a3, a4, a5, a6⟩ := (hw1 ▸ Box.new w _ _ _ _ _ _ _ : Box w1 w.heap.size (.int .i64 1) (.string P) (.string T) (.string F) (.int .i64 A) (.slice pa no ca) (.slice pb nn cb)).cells
  have i1 : (no : Int) < 900000 := by omega
  have i2 : (nn : Int) < 900000 := by omega
  clear zP _zT zo zn
  cases hP : Path.right P.data.toList with
  | false =>
    rw [hP] at cP
    have hR : rightP ⟨1, P, T, F, A, lO, lN⟩ = false := by unfold rightP ruleP bareP linesP tokenP bytesP moveP noLines; simp [*]
    rw [hR]
    clear hR hno hnn 
    go_enter Tryz.func15, Tryz.ntmps15
    go_wp2_with ((go_at_call 25; with_reducible (refine (cP _).mono ?_); rintro e w2 ⟨rfl, rfl⟩))
    go_ret
    exact ⟨rfl, HF.out⟩
  | true =>
    rw [hP] at cP
    by_cases hO : no = 0
    · by_cases hN : nn = 0
      · by_cases hA : A = 0
        · by_cases hF : F.data.toList = []
          · by_cases hT : T.data.toList = []
            · have hR : rightP ⟨1, P, T, F, A, lO, lN⟩ = true := by unfold rightP ruleP bareP linesP tokenP bytesP moveP noLines; simp [*]
              rw [hR]
              subst hO
              subst hN
              subst hA
              obtain ⟨t3, t4⟩ := Lines.asks_yes hF
              obtain ⟨t1, t2⟩ := Lines.asks_yes hT
              clear hR hno hnn hF hT
              go_enter Tryz.func15, Tryz.ntmps15
              go_wp2_with ((go_at_call 25; with_reducible (refine (cP _).mono ?_); rintro e w2 ⟨rfl, rfl⟩))
              go_ret
              exact ⟨rfl, HF.out⟩
            · have hR : rightP ⟨1, P, T, F, A, lO, lN⟩ = false := by unfold rightP ruleP bareP linesP tokenP bytesP moveP noLines; simp [*]
              rw [hR]
              subst hO
              subst hN
              subst hA
              obtain ⟨t3, t4⟩ := Lines.asks_yes hF
              obtain ⟨t1, t2⟩ := Lines.asks_no hT
              clear hR hno hnn hF hT
              go_enter Tryz.func15, Tryz.ntmps15
              go_wp2_with ((go_at_call 25; with_reducible (refine (cP _).mono ?_); rintro e w2 ⟨rfl, rfl⟩))
              go_ret
              exact ⟨rfl, HF.out⟩
          · have hR : rightP ⟨1, P, T, F, A, lO, lN⟩ = false := by unfold rightP ruleP bareP linesP tokenP bytesP moveP noLines; simp [*]
            rw [hR]
            subst hO
            subst hN
            subst hA
            obtain ⟨t3, t4⟩ := Lines.asks_no hF
            clear hR hno hnn hF
            go_enter Tryz.func15, Tryz.ntmps15
            go_wp2_with ((go_at_call 25; with_reducible (refine (cP _).mono ?_); rintro e w2 ⟨rfl, rfl⟩))
            go_ret
            exact ⟨rfl, HF.out⟩
        · have hR : rightP ⟨1, P, T, F, A, lO, lN⟩ = false := by unfold rightP ruleP bareP linesP tokenP bytesP moveP noLines; simp [*]
          rw [hR]
          subst hO
          subst hN
          clear hR hno hnn 
          go_enter Tryz.func15, Tryz.ntmps15
          go_wp2_with ((go_at_call 25; with_reducible (refine (cP _).mono ?_); rintro e w2 ⟨rfl, rfl⟩))
          go_ret
          exact ⟨rfl, HF.out⟩
      · have hR : rightP ⟨1, P, T, F, A, lO, lN⟩ = false := by unfold rightP ruleP bareP linesP tokenP bytesP moveP noLines; simp [*]
        rw [hR]
        subst hO
        have j2 : ¬ (nn : Int) = 0 := by omega
        clear hR hno hnn 
        go_enter Tryz.func15, Tryz.ntmps15
        go_wp2_with ((go_at_call 25; with_reducible (refine (cP _).mono ?_); rintro e w2 ⟨rfl, rfl⟩))
        go_ret
        exact ⟨rfl, HF.out⟩
    · have hR : rightP ⟨1, P, T, F, A, lO, lN⟩ = false := by unfold rightP ruleP bareP linesP tokenP bytesP moveP noLines; simp [*]
      rw [hR]
      have j1 : ¬ (no : Int) = 0 := by omega
      clear hR hno hnn 
      go_enter Tryz.func15, Tryz.ntmps15
      go_wp2_with ((go_at_call 25; with_reducible (refine (cP _).mono ?_); rintro e w2 ⟨rfl, rfl⟩))
      go_ret
      exact ⟨rfl, HF.out⟩

set_option maxHeartbeats 4000000 in
theorem dright_2 (P T F : ByteArray) (A : Int) (lO lN : List ByteArray) (pa pb : Option Addr) (no nn ca cb : Nat) (w : World) (hno : lO.length = no) (hnn : lN.length = nn) (zP : P.size < 900000) (_zT : T.size < 900000) (zo : no < 900000) (zn : nn < 900000) :
    Calls Tryz.prog 15 #[.agg #[.int .i64 2, .string P, .string T, .string F, .int .i64 A, .slice pa no ca, .slice pb nn cb]] w fun e w' => e = .returned (.bool (rightP ⟨2, P, T, F, A, lO, lN⟩)) ∧ Fr None' w w' := by
  have cP : ∀ w', Calls Tryz.prog 25 #[.string P] w' fun e w'' => e = .returned (.bool (Path.right P.data.toList)) ∧ w' = w'' := fun w' => Path.rright_any P w' (by omega)
  obtain ⟨w1, hw1⟩ : ∃ w1, w.alloc (.cells #[.int .i64 2, .string P, .string T, .string F, .int .i64 A, .slice pa no ca, .slice pb nn cb] 25) = w1 := ⟨_, rfl⟩
  have HF := toHid8 (show Fr None' w w1 from hw1 ▸ Fr.alloc None' w _)
  obtain ⟨a0, a1, a2, a3, a4, a5, a6⟩ := (hw1 ▸ Box.new w _ _ _ _ _ _ _ : Box w1 w.heap.size (.int .i64 2) (.string P) (.string T) (.string F) (.int .i64 A) (.slice pa no ca) (.slice pb nn cb)).cells
  have i1 : (no : Int) < 900000 := by omega
  have i2 : (nn : Int) < 900000 := by omega
  clear zP _zT zo zn
  cases hP : Path.right P.data.toList with
  | false =>
    rw [hP] at cP
    have hR : rightP ⟨2, P, T, F, A, lO, lN⟩ = false := by unfold rightP ruleP bareP linesP tokenP bytesP moveP noLines; simp [*]
    rw [hR]
    clear hR hno hnn 
    go_enter Tryz.func15, Tryz.ntmps15
    go_wp2_with ((go_at_call 25; with_reducible (refine (cP _).mono ?_); rintro e w2 ⟨rfl, rfl⟩))
    go_ret
    exact ⟨rfl, HF.out⟩
  | true =>
    rw [hP] at cP
    by_cases hO : no = 0
    · by_cases hN : nn = 0
      · by_cases hA : A = 0
        · by_cases hF : F.data.toList = []
          · by_cases hT : T.data.toList = []
            · have hR : rightP ⟨2, P, T, F, A, lO, lN⟩ = true := by unfold rightP ruleP bareP linesP tokenP bytesP moveP noLines; simp [*]
              rw [hR]
              subst hO
              subst hN
              subst hA
              obtain ⟨t3, t4⟩ := Lines.asks_yes hF
              obtain ⟨t1, t2⟩ := Lines.asks_yes hT
              clear hR hno hnn hF hT
              go_enter Tryz.func15, Tryz.ntmps15
              go_wp2_with ((go_at_call 25; with_reducible (refine (cP _).mono ?_); rintro e w2 ⟨rfl, rfl⟩))
              go_ret
              exact ⟨rfl, HF.out⟩
            · have hR : rightP ⟨2, P, T, F, A, lO, lN⟩ = false := by unfold rightP ruleP bareP linesP tokenP bytesP moveP noLines; simp [*]
              rw [hR]
              subst hO
              subst hN
              subst hA
              obtain ⟨t3, t4⟩ := Lines.asks_yes hF
              obtain ⟨t1, t2⟩ := Lines.asks_no hT
              clear hR hno hnn hF hT
              go_enter Tryz.func15, Tryz.ntmps15
              go_wp2_with ((go_at_call 25; with_reducible (refine (cP _).mono ?_); rintro e w2 ⟨rfl, rfl⟩))
              go_ret
              exact ⟨rfl, HF.out⟩
          · have hR : rightP ⟨2, P, T, F, A, lO, lN⟩ = false := by unfold rightP ruleP bareP linesP tokenP bytesP moveP noLines; simp [*]
            rw [hR]
            subst hO
            subst hN
            subst hA
            obtain ⟨t3, t4⟩ := Lines.asks_no hF
            clear hR hno hnn hF
            go_enter Tryz.func15, Tryz.ntmps15
            go_wp2_with ((go_at_call 25; with_reducible (refine (cP _).mono ?_); rintro e w2 ⟨rfl, rfl⟩))
            go_ret
            exact ⟨rfl, HF.out⟩
        · have hR : rightP ⟨2, P, T, F, A, lO, lN⟩ = false := by unfold rightP ruleP bareP linesP tokenP bytesP moveP noLines; simp [*]
          rw [hR]
          subst hO
          subst hN
          clear hR hno hnn 
          go_enter Tryz.func15, Tryz.ntmps15
          go_wp2_with ((go_at_call 25; with_reducible (refine (cP _).mono ?_); rintro e w2 ⟨rfl, rfl⟩))
          go_ret
          exact ⟨rfl, HF.out⟩
      · have hR : rightP ⟨2, P, T, F, A, lO, lN⟩ = false := by unfold rightP ruleP bareP linesP tokenP bytesP moveP noLines; simp [*]
        rw [hR]
        subst hO
        have j2 : ¬ (nn : Int) = 0 := by omega
        clear hR hno hnn 
        go_enter Tryz.func15, Tryz.ntmps15
        go_wp2_with ((go_at_call 25; with_reducible (refine (cP _).mono ?_); rintro e w2 ⟨rfl, rfl⟩))
        go_ret
        exact ⟨rfl, HF.out⟩
    · have hR : rightP ⟨2, P, T, F, A, lO, lN⟩ = false := by unfold rightP ruleP bareP linesP tokenP bytesP moveP noLines; simp [*]
      rw [hR]
      have j1 : ¬ (no : Int) = 0 := by omega
      clear hR hno hnn 
      go_enter Tryz.func15, Tryz.ntmps15
      go_wp2_with ((go_at_call 25; with_reducible (refine (cP _).mono ?_); rintro e w2 ⟨rfl, rfl⟩))
      go_ret
      exact ⟨rfl, HF.out⟩

set_option maxHeartbeats 4000000 in
theorem dright_3 (P T F : ByteArray) (A : Int) (lO lN : List ByteArray) (pa pb : Option Addr) (no nn ca cb : Nat) (w : World) (hno : lO.length = no) (hnn : lN.length = nn) (zP : P.size < 900000) (_zT : T.size < 900000) (zo : no < 900000) (zn : nn < 900000) :
    Calls Tryz.prog 15 #[.agg #[.int .i64 3, .string P, .string T, .string F, .int .i64 A, .slice pa no ca, .slice pb nn cb]] w fun e w' => e = .returned (.bool (rightP ⟨3, P, T, F, A, lO, lN⟩)) ∧ Fr None' w w' := by
  have cP : ∀ w', Calls Tryz.prog 25 #[.string P] w' fun e w'' => e = .returned (.bool (Path.right P.data.toList)) ∧ w' = w'' := fun w' => Path.rright_any P w' (by omega)
  obtain ⟨w1, hw1⟩ : ∃ w1, w.alloc (.cells #[.int .i64 3, .string P, .string T, .string F, .int .i64 A, .slice pa no ca, .slice pb nn cb] 25) = w1 := ⟨_, rfl⟩
  have HF := toHid8 (show Fr None' w w1 from hw1 ▸ Fr.alloc None' w _)
  obtain ⟨a0, a1, a2, a3, a4, a5, a6⟩ := (hw1 ▸ Box.new w _ _ _ _ _ _ _ : Box w1 w.heap.size (.int .i64 3) (.string P) (.string T) (.string F) (.int .i64 A) (.slice pa no ca) (.slice pb nn cb)).cells
  have i1 : (no : Int) < 900000 := by omega
  have i2 : (nn : Int) < 900000 := by omega
  clear zP _zT zo zn
  cases hP : Path.right P.data.toList with
  | false =>
    rw [hP] at cP
    have hR : rightP ⟨3, P, T, F, A, lO, lN⟩ = false := by unfold rightP ruleP bareP linesP tokenP bytesP moveP noLines; simp [*]
    rw [hR]
    clear hR hno hnn 
    go_enter Tryz.func15, Tryz.ntmps15
    go_wp2_with ((go_at_call 25; with_reducible (refine (cP _).mono ?_); rintro e w2 ⟨rfl, rfl⟩))
    go_ret
    exact ⟨rfl, HF.out⟩
  | true =>
    rw [hP] at cP
    by_cases hO : no = 0
    · by_cases hN : nn = 0
      · by_cases hA : A = 0
        · by_cases hF : F.data.toList = []
          · by_cases hT : T.data.toList = []
            · have hR : rightP ⟨3, P, T, F, A, lO, lN⟩ = true := by unfold rightP ruleP bareP linesP tokenP bytesP moveP noLines; simp [*]
              rw [hR]
              subst hO
              subst hN
              subst hA
              obtain ⟨t3, t4⟩ := Lines.asks_yes hF
              obtain ⟨t1, t2⟩ := Lines.asks_yes hT
              clear hR hno hnn hF hT
              go_enter Tryz.func15, Tryz.ntmps15
              go_wp2_with ((go_at_call 25; with_reducible (refine (cP _).mono ?_); rintro e w2 ⟨rfl, rfl⟩))
              go_ret
              exact ⟨rfl, HF.out⟩
            · have hR : rightP ⟨3, P, T, F, A, lO, lN⟩ = false := by unfold rightP ruleP bareP linesP tokenP bytesP moveP noLines; simp [*]
              rw [hR]
              subst hO
              subst hN
              subst hA
              obtain ⟨t3, t4⟩ := Lines.asks_yes hF
              obtain ⟨t1, t2⟩ := Lines.asks_no hT
              clear hR hno hnn hF hT
              go_enter Tryz.func15, Tryz.ntmps15
              go_wp2_with ((go_at_call 25; with_reducible (refine (cP _).mono ?_); rintro e w2 ⟨rfl, rfl⟩))
              go_ret
              exact ⟨rfl, HF.out⟩
          · have hR : rightP ⟨3, P, T, F, A, lO, lN⟩ = false := by unfold rightP ruleP bareP linesP tokenP bytesP moveP noLines; simp [*]
            rw [hR]
            subst hO
            subst hN
            subst hA
            obtain ⟨t3, t4⟩ := Lines.asks_no hF
            clear hR hno hnn hF
            go_enter Tryz.func15, Tryz.ntmps15
            go_wp2_with ((go_at_call 25; with_reducible (refine (cP _).mono ?_); rintro e w2 ⟨rfl, rfl⟩))
            go_ret
            exact ⟨rfl, HF.out⟩
        · have hR : rightP ⟨3, P, T, F, A, lO, lN⟩ = false := by unfold rightP ruleP bareP linesP tokenP bytesP moveP noLines; simp [*]
          rw [hR]
          subst hO
          subst hN
          clear hR hno hnn 
          go_enter Tryz.func15, Tryz.ntmps15
          go_wp2_with ((go_at_call 25; with_reducible (refine (cP _).mono ?_); rintro e w2 ⟨rfl, rfl⟩))
          go_ret
          exact ⟨rfl, HF.out⟩
      · have hR : rightP ⟨3, P, T, F, A, lO, lN⟩ = false := by unfold rightP ruleP bareP linesP tokenP bytesP moveP noLines; simp [*]
        rw [hR]
        subst hO
        have j2 : ¬ (nn : Int) = 0 := by omega
        clear hR hno hnn 
        go_enter Tryz.func15, Tryz.ntmps15
        go_wp2_with ((go_at_call 25; with_reducible (refine (cP _).mono ?_); rintro e w2 ⟨rfl, rfl⟩))
        go_ret
        exact ⟨rfl, HF.out⟩
    · have hR : rightP ⟨3, P, T, F, A, lO, lN⟩ = false := by unfold rightP ruleP bareP linesP tokenP bytesP moveP noLines; simp [*]
      rw [hR]
      have j1 : ¬ (no : Int) = 0 := by omega
      clear hR hno hnn 
      go_enter Tryz.func15, Tryz.ntmps15
      go_wp2_with ((go_at_call 25; with_reducible (refine (cP _).mono ?_); rintro e w2 ⟨rfl, rfl⟩))
      go_ret
      exact ⟨rfl, HF.out⟩

set_option maxHeartbeats 4000000 in
theorem dright_4 (P T F : ByteArray) (A : Int) (lO lN : List ByteArray) (pa pb : Option Addr) (no nn ca cb : Nat) (w : World) (hno : lO.length = no) (hnn : lN.length = nn) (zP : P.size < 900000) (_zT : T.size < 900000) (zo : no < 900000) (zn : nn < 900000) :
    Calls Tryz.prog 15 #[.agg #[.int .i64 4, .string P, .string T, .string F, .int .i64 A, .slice pa no ca, .slice pb nn cb]] w fun e w' => e = .returned (.bool (rightP ⟨4, P, T, F, A, lO, lN⟩)) ∧ Fr None' w w' := by
  have cP : ∀ w', Calls Tryz.prog 25 #[.string P] w' fun e w'' => e = .returned (.bool (Path.right P.data.toList)) ∧ w' = w'' := fun w' => Path.rright_any P w' (by omega)
  obtain ⟨w1, hw1⟩ : ∃ w1, w.alloc (.cells #[.int .i64 4, .string P, .string T, .string F, .int .i64 A, .slice pa no ca, .slice pb nn cb] 25) = w1 := ⟨_, rfl⟩
  have HF := toHid8 (show Fr None' w w1 from hw1 ▸ Fr.alloc None' w _)
  obtain ⟨a0, a1, a2, a3, a4, a5, a6⟩ := (hw1 ▸ Box.new w _ _ _ _ _ _ _ : Box w1 w.heap.size (.int .i64 4) (.string P) (.string T) (.string F) (.int .i64 A) (.slice pa no ca) (.slice pb nn cb)).cells
  have i1 : (no : Int) < 900000 := by omega
  have i2 : (nn : Int) < 900000 := by omega
  clear zP _zT zo zn
  cases hP : Path.right P.data.toList with
  | false =>
    rw [hP] at cP
    have hR : rightP ⟨4, P, T, F, A, lO, lN⟩ = false := by unfold rightP ruleP bareP linesP tokenP bytesP moveP noLines; simp [*]
    rw [hR]
    clear hR hno hnn 
    go_enter Tryz.func15, Tryz.ntmps15
    go_wp2_with ((go_at_call 25; with_reducible (refine (cP _).mono ?_); rintro e w2 ⟨rfl, rfl⟩))
    go_ret
    exact ⟨rfl, HF.out⟩
  | true =>
    rw [hP] at cP
    by_cases hO : no = 0
    · by_cases hN : nn = 0
      · by_cases hA : A = 0
        · by_cases hF : F.data.toList = []
          · by_cases hT : T.data.toList = []
            · have hR : rightP ⟨4, P, T, F, A, lO, lN⟩ = true := by unfold rightP ruleP bareP linesP tokenP bytesP moveP noLines; simp [*]
              rw [hR]
              subst hO
              subst hN
              subst hA
              obtain ⟨t3, t4⟩ := Lines.asks_yes hF
              obtain ⟨t1, t2⟩ := Lines.asks_yes hT
              clear hR hno hnn hF hT
              go_enter Tryz.func15, Tryz.ntmps15
              go_wp2_with ((go_at_call 25; with_reducible (refine (cP _).mono ?_); rintro e w2 ⟨rfl, rfl⟩))
              go_ret
              exact ⟨rfl, HF.out⟩
            · have hR : rightP ⟨4, P, T, F, A, lO, lN⟩ = false := by unfold rightP ruleP bareP linesP tokenP bytesP moveP noLines; simp [*]
              rw [hR]
              subst hO
              subst hN
              subst hA
              obtain ⟨t3, t4⟩ := Lines.asks_yes hF
              obtain ⟨t1, t2⟩ := Lines.asks_no hT
              clear hR hno hnn hF hT
              go_enter Tryz.func15, Tryz.ntmps15
              go_wp2_with ((go_at_call 25; with_reducible (refine (cP _).mono ?_); rintro e w2 ⟨rfl, rfl⟩))
              go_ret
              exact ⟨rfl, HF.out⟩
          · have hR : rightP ⟨4, P, T, F, A, lO, lN⟩ = false := by unfold rightP ruleP bareP linesP tokenP bytesP moveP noLines; simp [*]
            rw [hR]
            subst hO
            subst hN
            subst hA
            obtain ⟨t3, t4⟩ := Lines.asks_no hF
            clear hR hno hnn hF
            go_enter Tryz.func15, Tryz.ntmps15
            go_wp2_with ((go_at_call 25; with_reducible (refine (cP _).mono ?_); rintro e w2 ⟨rfl, rfl⟩))
            go_ret
            exact ⟨rfl, HF.out⟩
        · have hR : rightP ⟨4, P, T, F, A, lO, lN⟩ = false := by unfold rightP ruleP bareP linesP tokenP bytesP moveP noLines; simp [*]
          rw [hR]
          subst hO
          subst hN
          clear hR hno hnn 
          go_enter Tryz.func15, Tryz.ntmps15
          go_wp2_with ((go_at_call 25; with_reducible (refine (cP _).mono ?_); rintro e w2 ⟨rfl, rfl⟩))
          go_ret
          exact ⟨rfl, HF.out⟩
      · have hR : rightP ⟨4, P, T, F, A, lO, lN⟩ = false := by unfold rightP ruleP bareP linesP tokenP bytesP moveP noLines; simp [*]
        rw [hR]
        subst hO
        have j2 : ¬ (nn : Int) = 0 := by omega
        clear hR hno hnn 
        go_enter Tryz.func15, Tryz.ntmps15
        go_wp2_with ((go_at_call 25; with_reducible (refine (cP _).mono ?_); rintro e w2 ⟨rfl, rfl⟩))
        go_ret
        exact ⟨rfl, HF.out⟩
    · have hR : rightP ⟨4, P, T, F, A, lO, lN⟩ = false := by unfold rightP ruleP bareP linesP tokenP bytesP moveP noLines; simp [*]
      rw [hR]
      have j1 : ¬ (no : Int) = 0 := by omega
      clear hR hno hnn 
      go_enter Tryz.func15, Tryz.ntmps15
      go_wp2_with ((go_at_call 25; with_reducible (refine (cP _).mono ?_); rintro e w2 ⟨rfl, rfl⟩))
      go_ret
      exact ⟨rfl, HF.out⟩

set_option maxHeartbeats 4000000 in
theorem dright_5 (P T F : ByteArray) (A : Int) (lO lN : List ByteArray) (pa pb : Option Addr) (no nn ca cb : Nat) (w : World) (hno : lO.length = no) (hnn : lN.length = nn) (zP : P.size < 900000) (_zT : T.size < 900000) (zo : no < 900000) (zn : nn < 900000) :
    Calls Tryz.prog 15 #[.agg #[.int .i64 5, .string P, .string T, .string F, .int .i64 A, .slice pa no ca, .slice pb nn cb]] w fun e w' => e = .returned (.bool (rightP ⟨5, P, T, F, A, lO, lN⟩)) ∧ Fr None' w w' := by
  have cP : ∀ w', Calls Tryz.prog 25 #[.string P] w' fun e w'' => e = .returned (.bool (Path.right P.data.toList)) ∧ w' = w'' := fun w' => Path.rright_any P w' (by omega)
  obtain ⟨w1, hw1⟩ : ∃ w1, w.alloc (.cells #[.int .i64 5, .string P, .string T, .string F, .int .i64 A, .slice pa no ca, .slice pb nn cb] 25) = w1 := ⟨_, rfl⟩
  have HF := toHid8 (show Fr None' w w1 from hw1 ▸ Fr.alloc None' w _)
  obtain ⟨a0, a1, a2, a3, a4, a5, a6⟩ := (hw1 ▸ Box.new w _ _ _ _ _ _ _ : Box w1 w.heap.size (.int .i64 5) (.string P) (.string T) (.string F) (.int .i64 A) (.slice pa no ca) (.slice pb nn cb)).cells
  have i1 : (no : Int) < 900000 := by omega
  have i2 : (nn : Int) < 900000 := by omega
  clear zP _zT zo zn
  cases hP : Path.right P.data.toList with
  | false =>
    rw [hP] at cP
    have hR : rightP ⟨5, P, T, F, A, lO, lN⟩ = false := by unfold rightP ruleP bareP linesP tokenP bytesP moveP noLines; simp [*]
    rw [hR]
    clear hR hno hnn 
    go_enter Tryz.func15, Tryz.ntmps15
    go_wp2_with ((go_at_call 25; with_reducible (refine (cP _).mono ?_); rintro e w2 ⟨rfl, rfl⟩))
    go_ret
    exact ⟨rfl, HF.out⟩
  | true =>
    rw [hP] at cP
    by_cases hO : no = 0
    · by_cases hN : nn = 0
      · by_cases hA : A = 0
        · by_cases hF : F.data.toList = []
          · by_cases hT : T.data.toList = []
            · have hR : rightP ⟨5, P, T, F, A, lO, lN⟩ = true := by unfold rightP ruleP bareP linesP tokenP bytesP moveP noLines; simp [*]
              rw [hR]
              subst hO
              subst hN
              subst hA
              obtain ⟨t3, t4⟩ := Lines.asks_yes hF
              obtain ⟨t1, t2⟩ := Lines.asks_yes hT
              clear hR hno hnn hF hT
              go_enter Tryz.func15, Tryz.ntmps15
              go_wp2_with ((go_at_call 25; with_reducible (refine (cP _).mono ?_); rintro e w2 ⟨rfl, rfl⟩))
              go_ret
              exact ⟨rfl, HF.out⟩
            · have hR : rightP ⟨5, P, T, F, A, lO, lN⟩ = false := by unfold rightP ruleP bareP linesP tokenP bytesP moveP noLines; simp [*]
              rw [hR]
              subst hO
              subst hN
              subst hA
              obtain ⟨t3, t4⟩ := Lines.asks_yes hF
              obtain ⟨t1, t2⟩ := Lines.asks_no hT
              clear hR hno hnn hF hT
              go_enter Tryz.func15, Tryz.ntmps15
              go_wp2_with ((go_at_call 25; with_reducible (refine (cP _).mono ?_); rintro e w2 ⟨rfl, rfl⟩))
              go_ret
              exact ⟨rfl, HF.out⟩
          · have hR : rightP ⟨5, P, T, F, A, lO, lN⟩ = false := by unfold rightP ruleP bareP linesP tokenP bytesP moveP noLines; simp [*]
            rw [hR]
            subst hO
            subst hN
            subst hA
            obtain ⟨t3, t4⟩ := Lines.asks_no hF
            clear hR hno hnn hF
            go_enter Tryz.func15, Tryz.ntmps15
            go_wp2_with ((go_at_call 25; with_reducible (refine (cP _).mono ?_); rintro e w2 ⟨rfl, rfl⟩))
            go_ret
            exact ⟨rfl, HF.out⟩
        · have hR : rightP ⟨5, P, T, F, A, lO, lN⟩ = false := by unfold rightP ruleP bareP linesP tokenP bytesP moveP noLines; simp [*]
          rw [hR]
          subst hO
          subst hN
          clear hR hno hnn 
          go_enter Tryz.func15, Tryz.ntmps15
          go_wp2_with ((go_at_call 25; with_reducible (refine (cP _).mono ?_); rintro e w2 ⟨rfl, rfl⟩))
          go_ret
          exact ⟨rfl, HF.out⟩
      · have hR : rightP ⟨5, P, T, F, A, lO, lN⟩ = false := by unfold rightP ruleP bareP linesP tokenP bytesP moveP noLines; simp [*]
        rw [hR]
        subst hO
        have j2 : ¬ (nn : Int) = 0 := by omega
        clear hR hno hnn 
        go_enter Tryz.func15, Tryz.ntmps15
        go_wp2_with ((go_at_call 25; with_reducible (refine (cP _).mono ?_); rintro e w2 ⟨rfl, rfl⟩))
        go_ret
        exact ⟨rfl, HF.out⟩
    · have hR : rightP ⟨5, P, T, F, A, lO, lN⟩ = false := by unfold rightP ruleP bareP linesP tokenP bytesP moveP noLines; simp [*]
      rw [hR]
      have j1 : ¬ (no : Int) = 0 := by omega
      clear hR hno hnn 
      go_enter Tryz.func15, Tryz.ntmps15
      go_wp2_with ((go_at_call 25; with_reducible (refine (cP _).mono ?_); rintro e w2 ⟨rfl, rfl⟩))
      go_ret
      exact ⟨rfl, HF.out⟩

set_option maxHeartbeats 4000000 in
theorem dright_6 (P T F : ByteArray) (A : Int) (lO lN : List ByteArray) (pa pb : Option Addr) (no nn ca cb : Nat) (w : World) (hno : lO.length = no) (hnn : lN.length = nn) (zP : P.size < 900000) (_zT : T.size < 900000) (zo : no < 900000) (zn : nn < 900000) :
    Calls Tryz.prog 15 #[.agg #[.int .i64 6, .string P, .string T, .string F, .int .i64 A, .slice pa no ca, .slice pb nn cb]] w fun e w' => e = .returned (.bool (rightP ⟨6, P, T, F, A, lO, lN⟩)) ∧ Fr None' w w' := by
  have cP : ∀ w', Calls Tryz.prog 25 #[.string P] w' fun e w'' => e = .returned (.bool (Path.right P.data.toList)) ∧ w' = w'' := fun w' => Path.rright_any P w' (by omega)
  obtain ⟨w1, hw1⟩ : ∃ w1, w.alloc (.cells #[.int .i64 6, .string P, .string T, .string F, .int .i64 A, .slice pa no ca, .slice pb nn cb] 25) = w1 := ⟨_, rfl⟩
  have HF := toHid8 (show Fr None' w w1 from hw1 ▸ Fr.alloc None' w _)
  obtain ⟨a0, a1, a2, a3, a4, a5, a6⟩ := (hw1 ▸ Box.new w _ _ _ _ _ _ _ : Box w1 w.heap.size (.int .i64 6) (.string P) (.string T) (.string F) (.int .i64 A) (.slice pa no ca) (.slice pb nn cb)).cells
  have i1 : (no : Int) < 900000 := by omega
  have i2 : (nn : Int) < 900000 := by omega
  clear zP _zT zo zn
  cases hP : Path.right P.data.toList with
  | false =>
    rw [hP] at cP
    have hR : rightP ⟨6, P, T, F, A, lO, lN⟩ = false := by unfold rightP ruleP bareP linesP tokenP bytesP moveP noLines; simp [*]
    rw [hR]
    clear hR hno hnn 
    go_enter Tryz.func15, Tryz.ntmps15
    go_wp2_with ((go_at_call 25; with_reducible (refine (cP _).mono ?_); rintro e w2 ⟨rfl, rfl⟩))
    go_ret
    exact ⟨rfl, HF.out⟩
  | true =>
    rw [hP] at cP
    by_cases hO : no = 0
    · by_cases hN : nn = 0
      · by_cases hA : A = 0
        · by_cases hF : F.data.toList = []
          · by_cases hT : T.data.toList = []
            · have hR : rightP ⟨6, P, T, F, A, lO, lN⟩ = true := by unfold rightP ruleP bareP linesP tokenP bytesP moveP noLines; simp [*]
              rw [hR]
              subst hO
              subst hN
              subst hA
              obtain ⟨t3, t4⟩ := Lines.asks_yes hF
              obtain ⟨t1, t2⟩ := Lines.asks_yes hT
              clear hR hno hnn hF hT
              go_enter Tryz.func15, Tryz.ntmps15
              go_wp2_with ((go_at_call 25; with_reducible (refine (cP _).mono ?_); rintro e w2 ⟨rfl, rfl⟩))
              go_ret
              exact ⟨rfl, HF.out⟩
            · have hR : rightP ⟨6, P, T, F, A, lO, lN⟩ = false := by unfold rightP ruleP bareP linesP tokenP bytesP moveP noLines; simp [*]
              rw [hR]
              subst hO
              subst hN
              subst hA
              obtain ⟨t3, t4⟩ := Lines.asks_yes hF
              obtain ⟨t1, t2⟩ := Lines.asks_no hT
              clear hR hno hnn hF hT
              go_enter Tryz.func15, Tryz.ntmps15
              go_wp2_with ((go_at_call 25; with_reducible (refine (cP _).mono ?_); rintro e w2 ⟨rfl, rfl⟩))
              go_ret
              exact ⟨rfl, HF.out⟩
          · have hR : rightP ⟨6, P, T, F, A, lO, lN⟩ = false := by unfold rightP ruleP bareP linesP tokenP bytesP moveP noLines; simp [*]
            rw [hR]
            subst hO
            subst hN
            subst hA
            obtain ⟨t3, t4⟩ := Lines.asks_no hF
            clear hR hno hnn hF
            go_enter Tryz.func15, Tryz.ntmps15
            go_wp2_with ((go_at_call 25; with_reducible (refine (cP _).mono ?_); rintro e w2 ⟨rfl, rfl⟩))
            go_ret
            exact ⟨rfl, HF.out⟩
        · have hR : rightP ⟨6, P, T, F, A, lO, lN⟩ = false := by unfold rightP ruleP bareP linesP tokenP bytesP moveP noLines; simp [*]
          rw [hR]
          subst hO
          subst hN
          clear hR hno hnn 
          go_enter Tryz.func15, Tryz.ntmps15
          go_wp2_with ((go_at_call 25; with_reducible (refine (cP _).mono ?_); rintro e w2 ⟨rfl, rfl⟩))
          go_ret
          exact ⟨rfl, HF.out⟩
      · have hR : rightP ⟨6, P, T, F, A, lO, lN⟩ = false := by unfold rightP ruleP bareP linesP tokenP bytesP moveP noLines; simp [*]
        rw [hR]
        subst hO
        have j2 : ¬ (nn : Int) = 0 := by omega
        clear hR hno hnn 
        go_enter Tryz.func15, Tryz.ntmps15
        go_wp2_with ((go_at_call 25; with_reducible (refine (cP _).mono ?_); rintro e w2 ⟨rfl, rfl⟩))
        go_ret
        exact ⟨rfl, HF.out⟩
    · have hR : rightP ⟨6, P, T, F, A, lO, lN⟩ = false := by unfold rightP ruleP bareP linesP tokenP bytesP moveP noLines; simp [*]
      rw [hR]
      have j1 : ¬ (no : Int) = 0 := by omega
      clear hR hno hnn 
      go_enter Tryz.func15, Tryz.ntmps15
      go_wp2_with ((go_at_call 25; with_reducible (refine (cP _).mono ?_); rintro e w2 ⟨rfl, rfl⟩))
      go_ret
      exact ⟨rfl, HF.out⟩

set_option maxHeartbeats 4000000 in
theorem dright_9 (P T F : ByteArray) (A : Int) (lO lN : List ByteArray) (pa pb : Option Addr) (no nn ca cb : Nat) (w : World) (hno : lO.length = no) (hnn : lN.length = nn) (zP : P.size < 900000) (_zT : T.size < 900000) (zo : no < 900000) (zn : nn < 900000) :
    Calls Tryz.prog 15 #[.agg #[.int .i64 9, .string P, .string T, .string F, .int .i64 A, .slice pa no ca, .slice pb nn cb]] w fun e w' => e = .returned (.bool (rightP ⟨9, P, T, F, A, lO, lN⟩)) ∧ Fr None' w w' := by
  have cP : ∀ w', Calls Tryz.prog 25 #[.string P] w' fun e w'' => e = .returned (.bool (Path.right P.data.toList)) ∧ w' = w'' := fun w' => Path.rright_any P w' (by omega)
  obtain ⟨w1, hw1⟩ : ∃ w1, w.alloc (.cells #[.int .i64 9, .string P, .string T, .string F, .int .i64 A, .slice pa no ca, .slice pb nn cb] 25) = w1 := ⟨_, rfl⟩
  have HF := toHid8 (show Fr None' w w1 from hw1 ▸ Fr.alloc None' w _)
  obtain ⟨a0, a1, a2, a3, a4, a5, a6⟩ := (hw1 ▸ Box.new w _ _ _ _ _ _ _ : Box w1 w.heap.size (.int .i64 9) (.string P) (.string T) (.string F) (.int .i64 A) (.slice pa no ca) (.slice pb nn cb)).cells
  have i1 : (no : Int) < 900000 := by omega
  have i2 : (nn : Int) < 900000 := by omega
  clear zP _zT zo zn
  cases hP : Path.right P.data.toList with
  | false =>
    rw [hP] at cP
    have hR : rightP ⟨9, P, T, F, A, lO, lN⟩ = false := by unfold rightP ruleP bareP linesP tokenP bytesP moveP noLines; simp [*]
    rw [hR]
    clear hR hno hnn 
    go_enter Tryz.func15, Tryz.ntmps15
    go_wp2_with ((go_at_call 25; with_reducible (refine (cP _).mono ?_); rintro e w2 ⟨rfl, rfl⟩))
    go_ret
    exact ⟨rfl, HF.out⟩
  | true =>
    rw [hP] at cP
    by_cases hO : no = 0
    · by_cases hN : nn = 0
      · by_cases hA : A = 0
        · by_cases hFT : ¬ F = T
          · have hR : rightP ⟨9, P, T, F, A, lO, lN⟩ = true := by unfold rightP ruleP bareP linesP tokenP bytesP moveP noLines; simp [*]
            rw [hR]
            subst hO
            subst hN
            subst hA
            obtain ⟨t5, t6⟩ := Lines.str_no hFT
            clear hR hno hnn hFT
            go_enter Tryz.func15, Tryz.ntmps15
            go_wp2_with ((go_at_call 25; with_reducible (refine (cP _).mono ?_); rintro e w2 ⟨rfl, rfl⟩))
            go_ret
            exact ⟨rfl, HF.out⟩
          · have hR : rightP ⟨9, P, T, F, A, lO, lN⟩ = false := by unfold rightP ruleP bareP linesP tokenP bytesP moveP noLines; simp [*]
            rw [hR]
            subst hO
            subst hN
            subst hA
            have hFT2 : F = T := Classical.not_not.1 hFT
            subst hFT2
            clear hR hno hnn hFT
            go_enter Tryz.func15, Tryz.ntmps15
            go_wp2_with ((go_at_call 25; with_reducible (refine (cP _).mono ?_); rintro e w2 ⟨rfl, rfl⟩))
            go_ret
            exact ⟨rfl, HF.out⟩
        · have hR : rightP ⟨9, P, T, F, A, lO, lN⟩ = false := by unfold rightP ruleP bareP linesP tokenP bytesP moveP noLines; simp [*]
          rw [hR]
          subst hO
          subst hN
          clear hR hno hnn 
          go_enter Tryz.func15, Tryz.ntmps15
          go_wp2_with ((go_at_call 25; with_reducible (refine (cP _).mono ?_); rintro e w2 ⟨rfl, rfl⟩))
          go_ret
          exact ⟨rfl, HF.out⟩
      · have hR : rightP ⟨9, P, T, F, A, lO, lN⟩ = false := by unfold rightP ruleP bareP linesP tokenP bytesP moveP noLines; simp [*]
        rw [hR]
        subst hO
        have j2 : ¬ (nn : Int) = 0 := by omega
        clear hR hno hnn 
        go_enter Tryz.func15, Tryz.ntmps15
        go_wp2_with ((go_at_call 25; with_reducible (refine (cP _).mono ?_); rintro e w2 ⟨rfl, rfl⟩))
        go_ret
        exact ⟨rfl, HF.out⟩
    · have hR : rightP ⟨9, P, T, F, A, lO, lN⟩ = false := by unfold rightP ruleP bareP linesP tokenP bytesP moveP noLines; simp [*]
      rw [hR]
      have j1 : ¬ (no : Int) = 0 := by omega
      clear hR hno hnn 
      go_enter Tryz.func15, Tryz.ntmps15
      go_wp2_with ((go_at_call 25; with_reducible (refine (cP _).mono ?_); rintro e w2 ⟨rfl, rfl⟩))
      go_ret
      exact ⟨rfl, HF.out⟩

set_option maxHeartbeats 4000000 in
theorem dright_10 (P T F : ByteArray) (A : Int) (lO lN : List ByteArray) (pa pb : Option Addr) (no nn ca cb : Nat) (w : World) (hno : lO.length = no) (hnn : lN.length = nn) (zP : P.size < 900000) (zT : T.size < 900000) (zo : no < 900000) (zn : nn < 900000) :
    Calls Tryz.prog 15 #[.agg #[.int .i64 10, .string P, .string T, .string F, .int .i64 A, .slice pa no ca, .slice pb nn cb]] w fun e w' => e = .returned (.bool (rightP ⟨10, P, T, F, A, lO, lN⟩)) ∧ Fr None' w w' := by
  have cP : ∀ w', Calls Tryz.prog 25 #[.string P] w' fun e w'' => e = .returned (.bool (Path.right P.data.toList)) ∧ w' = w'' := fun w' => Path.rright_any P w' (by omega)
  have cD : ∀ w', Calls Tryz.prog 25 #[.string T] w' fun e w'' => e = .returned (.bool (Path.right T.data.toList)) ∧ w' = w'' := fun w' => Path.rright_any T w' (by omega)
  have cA : ∀ w', Calls Tryz.prog 21 #[.string P, .string T] w' fun e w'' => e = .returned (.bool (Path.apart P.data.toList T.data.toList)) ∧ w' = w'' := fun w' => Path.rapart_any P T w' (by omega) (by omega)
  obtain ⟨w1, hw1⟩ : ∃ w1, w.alloc (.cells #[.int .i64 10, .string P, .string T, .string F, .int .i64 A, .slice pa no ca, .slice pb nn cb] 25) = w1 := ⟨_, rfl⟩
  have HF := toHid8 (show Fr None' w w1 from hw1 ▸ Fr.alloc None' w _)
  obtain ⟨a0, a1, a2, a3, a4, a5, a6⟩ := (hw1 ▸ Box.new w _ _ _ _ _ _ _ : Box w1 w.heap.size (.int .i64 10) (.string P) (.string T) (.string F) (.int .i64 A) (.slice pa no ca) (.slice pb nn cb)).cells
  have i1 : (no : Int) < 900000 := by omega
  have i2 : (nn : Int) < 900000 := by omega
  clear zP zT zo zn
  cases hP : Path.right P.data.toList with
  | false =>
    rw [hP] at cP
    have hR : rightP ⟨10, P, T, F, A, lO, lN⟩ = false := by unfold rightP ruleP bareP linesP tokenP bytesP moveP noLines; simp [*]
    rw [hR]
    clear hR hno hnn 
    go_enter Tryz.func15, Tryz.ntmps15
    go_wp2_with ((first | (go_at_call 25; with_reducible (refine (cP _).mono ?_); rintro e w2 ⟨rfl, rfl⟩) | (go_at_call 25; with_reducible (refine (cD _).mono ?_); rintro e w2 ⟨rfl, rfl⟩) | (go_at_call 21; with_reducible (refine (cA _).mono ?_); rintro e w2 ⟨rfl, rfl⟩) | fail))
    go_ret
    exact ⟨rfl, HF.out⟩
  | true =>
    rw [hP] at cP
    by_cases hO : no = 0
    · by_cases hN : nn = 0
      · by_cases hA : A = 0
        · by_cases hF : F.data.toList = []
          · cases hD : Path.right T.data.toList with
            | false =>
              rw [hD] at cD
              have hR : rightP ⟨10, P, T, F, A, lO, lN⟩ = false := by unfold rightP ruleP bareP linesP tokenP bytesP moveP noLines; simp [*]
              rw [hR]
              subst hO
              subst hN
              subst hA
              obtain ⟨t3, t4⟩ := Lines.asks_yes hF
              clear hR hno hnn hF hD
              go_enter Tryz.func15, Tryz.ntmps15
              go_wp2_with ((first | (go_at_call 25; with_reducible (refine (cP _).mono ?_); rintro e w2 ⟨rfl, rfl⟩) | (go_at_call 25; with_reducible (refine (cD _).mono ?_); rintro e w2 ⟨rfl, rfl⟩) | (go_at_call 21; with_reducible (refine (cA _).mono ?_); rintro e w2 ⟨rfl, rfl⟩) | fail))
              go_ret
              exact ⟨rfl, HF.out⟩
            | true =>
              rw [hD] at cD
              cases hX : Path.apart P.data.toList T.data.toList with
              | false =>
                rw [hX] at cA
                have hR : rightP ⟨10, P, T, F, A, lO, lN⟩ = false := by unfold rightP ruleP bareP linesP tokenP bytesP moveP noLines; simp [*, Path.apart_comm T.data.toList]
                rw [hR]
                subst hO
                subst hN
                subst hA
                obtain ⟨t3, t4⟩ := Lines.asks_yes hF
                clear hR hno hnn hF hD hX
                go_enter Tryz.func15, Tryz.ntmps15
                go_wp2_with ((first | (go_at_call 25; with_reducible (refine (cP _).mono ?_); rintro e w2 ⟨rfl, rfl⟩) | (go_at_call 25; with_reducible (refine (cD _).mono ?_); rintro e w2 ⟨rfl, rfl⟩) | (go_at_call 21; with_reducible (refine (cA _).mono ?_); rintro e w2 ⟨rfl, rfl⟩) | fail))
                go_ret
                exact ⟨rfl, HF.out⟩
              | true =>
                rw [hX] at cA
                have hR : rightP ⟨10, P, T, F, A, lO, lN⟩ = true := by unfold rightP ruleP bareP linesP tokenP bytesP moveP noLines; simp [*, Path.apart_comm T.data.toList]
                rw [hR]
                subst hO
                subst hN
                subst hA
                obtain ⟨t3, t4⟩ := Lines.asks_yes hF
                clear hR hno hnn hF hD hX
                go_enter Tryz.func15, Tryz.ntmps15
                go_wp2_with ((first | (go_at_call 25; with_reducible (refine (cP _).mono ?_); rintro e w2 ⟨rfl, rfl⟩) | (go_at_call 25; with_reducible (refine (cD _).mono ?_); rintro e w2 ⟨rfl, rfl⟩) | (go_at_call 21; with_reducible (refine (cA _).mono ?_); rintro e w2 ⟨rfl, rfl⟩) | fail))
                go_ret
                exact ⟨rfl, HF.out⟩
          · have hR : rightP ⟨10, P, T, F, A, lO, lN⟩ = false := by unfold rightP ruleP bareP linesP tokenP bytesP moveP noLines; simp [*]
            rw [hR]
            subst hO
            subst hN
            subst hA
            obtain ⟨t3, t4⟩ := Lines.asks_no hF
            clear hR hno hnn hF
            go_enter Tryz.func15, Tryz.ntmps15
            go_wp2_with ((first | (go_at_call 25; with_reducible (refine (cP _).mono ?_); rintro e w2 ⟨rfl, rfl⟩) | (go_at_call 25; with_reducible (refine (cD _).mono ?_); rintro e w2 ⟨rfl, rfl⟩) | (go_at_call 21; with_reducible (refine (cA _).mono ?_); rintro e w2 ⟨rfl, rfl⟩) | fail))
            go_ret
            exact ⟨rfl, HF.out⟩
        · have hR : rightP ⟨10, P, T, F, A, lO, lN⟩ = false := by unfold rightP ruleP bareP linesP tokenP bytesP moveP noLines; simp [*]
          rw [hR]
          subst hO
          subst hN
          clear hR hno hnn 
          go_enter Tryz.func15, Tryz.ntmps15
          go_wp2_with ((first | (go_at_call 25; with_reducible (refine (cP _).mono ?_); rintro e w2 ⟨rfl, rfl⟩) | (go_at_call 25; with_reducible (refine (cD _).mono ?_); rintro e w2 ⟨rfl, rfl⟩) | (go_at_call 21; with_reducible (refine (cA _).mono ?_); rintro e w2 ⟨rfl, rfl⟩) | fail))
          go_ret
          exact ⟨rfl, HF.out⟩
      · have hR : rightP ⟨10, P, T, F, A, lO, lN⟩ = false := by unfold rightP ruleP bareP linesP tokenP bytesP moveP noLines; simp [*]
        rw [hR]
        subst hO
        have j2 : ¬ (nn : Int) = 0 := by omega
        clear hR hno hnn 
        go_enter Tryz.func15, Tryz.ntmps15
        go_wp2_with ((first | (go_at_call 25; with_reducible (refine (cP _).mono ?_); rintro e w2 ⟨rfl, rfl⟩) | (go_at_call 25; with_reducible (refine (cD _).mono ?_); rintro e w2 ⟨rfl, rfl⟩) | (go_at_call 21; with_reducible (refine (cA _).mono ?_); rintro e w2 ⟨rfl, rfl⟩) | fail))
        go_ret
        exact ⟨rfl, HF.out⟩
    · have hR : rightP ⟨10, P, T, F, A, lO, lN⟩ = false := by unfold rightP ruleP bareP linesP tokenP bytesP moveP noLines; simp [*]
      rw [hR]
      have j1 : ¬ (no : Int) = 0 := by omega
      clear hR hno hnn 
      go_enter Tryz.func15, Tryz.ntmps15
      go_wp2_with ((first | (go_at_call 25; with_reducible (refine (cP _).mono ?_); rintro e w2 ⟨rfl, rfl⟩) | (go_at_call 25; with_reducible (refine (cD _).mono ?_); rintro e w2 ⟨rfl, rfl⟩) | (go_at_call 21; with_reducible (refine (cA _).mono ?_); rintro e w2 ⟨rfl, rfl⟩) | fail))
      go_ret
      exact ⟨rfl, HF.out⟩

set_option maxHeartbeats 8000000 in
theorem dright_no (K : Int) (hK : ¬ (1 ≤ K ∧ K ≤ 10)) (P T F : ByteArray) (A : Int) (lO lN : List ByteArray) (pa pb : Option Addr) (no nn ca cb : Nat) (w : World) (hno : lO.length = no) (hnn : lN.length = nn) (zP : P.size < 900000) (_zT : T.size < 900000) (_zF : F.size < 900000) (zo : no < 900000) (zn : nn < 900000) :
    Calls Tryz.prog 15 #[.agg #[.int .i64 K, .string P, .string T, .string F, .int .i64 A, .slice pa no ca, .slice pb nn cb]] w fun e w' => e = .returned (.bool (rightP ⟨K, P, T, F, A, lO, lN⟩)) ∧ Fr None' w w' := by
  have cP : ∀ w', Calls Tryz.prog 25 #[.string P] w' fun e w'' => e = .returned (.bool (Path.right P.data.toList)) ∧ w' = w'' := fun w' => Path.rright_any P w' (by omega)
  obtain ⟨w1, hw1⟩ : ∃ w1, w.alloc (.cells #[.int .i64 K, .string P, .string T, .string F, .int .i64 A, .slice pa no ca, .slice pb nn cb] 25) = w1 := ⟨_, rfl⟩
  have HF := toHid8 (show Fr None' w w1 from hw1 ▸ Fr.alloc None' w _)
  have HBx := toHid8 (show ∀ w', Fr None' w1 w' → Box w' w.heap.size (.int .i64 K) (.string P) (.string T) (.string F) (.int .i64 A) (.slice pa no ca) (.slice pb nn cb) from fun w' f => (hw1 ▸ Box.new w _ _ _ _ _ _ _ : Box w1 w.heap.size (.int .i64 K) (.string P) (.string T) (.string F) (.int .i64 A) (.slice pa no ca) (.slice pb nn cb)).kept f)
  obtain ⟨a0, a1, a2, a3, a4, a5, a6⟩ := (HBx.out w1 (Fr.refl _ _)).cells
  have i1 : (no : Int) < 900000 := by omega
  have i2 : (nn : Int) < 900000 := by omega
  have hR : rightP ⟨K, P, T, F, A, lO, lN⟩ = false := by unfold rightP; simp only; rw [decide_eq_false hK]; rfl
  rw [hR]
  have k1 : ¬ K = 1 := by omega
  have k2 : ¬ K = 2 := by omega
  have k3 : ¬ K = 3 := by omega
  have k4 : ¬ K = 4 := by omega
  have k5 : ¬ K = 5 := by omega
  have k6 : ¬ K = 6 := by omega
  have k7 : ¬ K = 7 := by omega
  have k8 : ¬ K = 8 := by omega
  have k9 : ¬ K = 9 := by omega
  have k10 : ¬ K = 10 := by omega
  clear zP _zT _zF zo zn hR hK hno hnn
  cases hP : Path.right P.data.toList with
  | false =>
    rw [hP] at cP
    clear hP
    go_enter Tryz.func15, Tryz.ntmps15
    go_wp2_with ((go_at_call 25; with_reducible (refine (cP _).mono ?_); rintro e w2 ⟨rfl, rfl⟩))
    go_ret
    exact ⟨rfl, HF.out⟩
  | true =>
    rw [hP] at cP
    clear hP
    by_cases hO : no = 0
    · by_cases hN : nn = 0
      · by_cases hA : A = 0
        · subst hO hN hA
          go_enter Tryz.func15, Tryz.ntmps15
          go_wp2_with ((go_at_call 25; with_reducible (refine (cP _).mono ?_); rintro e w2 ⟨rfl, rfl⟩))
          go_ret
          exact ⟨rfl, HF.out⟩
        · subst hO hN
          go_enter Tryz.func15, Tryz.ntmps15
          go_wp2_with ((go_at_call 25; with_reducible (refine (cP _).mono ?_); rintro e w2 ⟨rfl, rfl⟩))
          go_ret
          exact ⟨rfl, HF.out⟩
      · subst hO
        have j2 : ((nn : Int) == 0) = false := by simp; omega
        have j3 : ¬ nn = 0 := hN
        clear i1 i2 hN
        go_enter Tryz.func15, Tryz.ntmps15
        go_wp2_with ((go_at_call 25; with_reducible (refine (cP _).mono ?_); rintro e w2 ⟨rfl, rfl⟩))
        go_ret
        exact ⟨rfl, HF.out⟩
    · have j1 : ((no : Int) == 0) = false := by simp; omega
      have j3 : ¬ no = 0 := hO
      clear i1 i2 hO
      go_enter Tryz.func15, Tryz.ntmps15
      go_wp2_with ((go_at_call 25; with_reducible (refine (cP _).mono ?_); rintro e w2 ⟨rfl, rfl⟩))
      go_ret
      exact ⟨rfl, HF.out⟩

set_option maxHeartbeats 8000000 in
theorem dright_8 (P T F : ByteArray) (A : Int) (lO lN : List ByteArray) (pa pb : Option Addr) (no nn ca cb : Nat) (w : World) (hno : lO.length = no) (hnn : lN.length = nn) (zP : P.size < 900000) (zT : T.size < 900000) (zF : F.size < 900000) (zo : no < 900000) (zn : nn < 900000) :
    Calls Tryz.prog 15 #[.agg #[.int .i64 8, .string P, .string T, .string F, .int .i64 A, .slice pa no ca, .slice pb nn cb]] w fun e w' => e = .returned (.bool (rightP ⟨8, P, T, F, A, lO, lN⟩)) ∧ Fr None' w w' := by
  have cP : ∀ w', Calls Tryz.prog 25 #[.string P] w' fun e w'' => e = .returned (.bool (Path.right P.data.toList)) ∧ w' = w'' := fun w' => Path.rright_any P w' (by omega)
  obtain ⟨w1, hw1⟩ : ∃ w1, w.alloc (.cells #[.int .i64 8, .string P, .string T, .string F, .int .i64 A, .slice pa no ca, .slice pb nn cb] 25) = w1 := ⟨_, rfl⟩
  have HF := toHid8 (show Fr None' w w1 from hw1 ▸ Fr.alloc None' w _)
  have HBx := toHid8 (show ∀ w', Fr None' w1 w' → Box w' w.heap.size (.int .i64 8) (.string P) (.string T) (.string F) (.int .i64 A) (.slice pa no ca) (.slice pb nn cb) from fun w' f => (hw1 ▸ Box.new w _ _ _ _ _ _ _ : Box w1 w.heap.size (.int .i64 8) (.string P) (.string T) (.string F) (.int .i64 A) (.slice pa no ca) (.slice pb nn cb)).kept f)
  obtain ⟨a0, a1, a2, a3, a4, a5, a6⟩ := (HBx.out w1 (Fr.refl _ _)).cells
  have i1 : (no : Int) < 900000 := by omega
  have i2 : (nn : Int) < 900000 := by omega
  have cF : Calls Tryz.prog 36 #[.string F] w1 fun e w'' => e = .returned (.bool (Lines.tok F.data.toList)) ∧ Fr None' w1 w'' := (Lines.rToken_any F w1 (by omega)).mono fun _ _ h => ⟨h.1, ofLN h.2⟩
  have HcT := toHid8 (show ∀ w', Fr None' w1 w' → Calls Tryz.prog 36 #[.string T] w' (fun e w'' => e = .returned (.bool (Lines.tok T.data.toList)) ∧ Fr None' w' w'') from fun w' _ => (Lines.rToken_any T w' (by omega)).mono fun _ _ h => ⟨h.1, ofLN h.2⟩)
  clear zP zT zF zo zn
  cases hP : Path.right P.data.toList with
  | false =>
    rw [hP] at cP
    have hR : rightP ⟨8, P, T, F, A, lO, lN⟩ = false := by unfold rightP ruleP bareP linesP tokenP bytesP moveP noLines; simp [*]
    rw [hR]
    clear hP
    clear hR hno hnn
    go_enter Tryz.func15, Tryz.ntmps15
    go_wp2_with ((first | (go_at_call 25; with_reducible (refine (cP _).mono ?_); rintro e w2 ⟨rfl, rfl⟩) | fail))
    go_ret
    exact ⟨rfl, HF.out⟩
  | true =>
    rw [hP] at cP
    by_cases hO : no = 0
    · by_cases hN : nn = 0
      · by_cases hA : A = 0
        · cases hF : Lines.tok F.data.toList with
          | false =>
            rw [hF] at cF
            have hR : rightP ⟨8, P, T, F, A, lO, lN⟩ = false := by unfold rightP ruleP bareP linesP tokenP bytesP moveP noLines; simp [*]
            rw [hR]
            subst hO hN hA
            clear hP hF
            clear hR hno hnn
            go_enter Tryz.func15, Tryz.ntmps15
            go_wp2_with ((first | (go_at_call 25; with_reducible (refine (cP _).mono ?_); rintro e w2 ⟨rfl, rfl⟩) | (go_at_call 36; with_reducible (refine cF.mono ?_); rintro e w3 ⟨rfl, f3⟩; have HF3 := toHid8 f3; obtain ⟨b0, b1, b2, b3, b4, b5, b6⟩ := Box.cells (HBx.out w3 f3); clear f3 a0 a1 a2 a3 a4 a5 a6) | fail))
            go_ret
            exact ⟨rfl, HF.out.then7 HF3.out⟩
          | true =>
            rw [hF] at cF
            cases hT : Lines.tok T.data.toList with
            | false =>
              rw [hT] at HcT
              have hR : rightP ⟨8, P, T, F, A, lO, lN⟩ = false := by unfold rightP ruleP bareP linesP tokenP bytesP moveP noLines; simp [*]
              rw [hR]
              subst hO hN hA
              clear hP hF hT
              clear hR hno hnn
              go_enter Tryz.func15, Tryz.ntmps15
              go_wp2_with ((first | (go_at_call 25; with_reducible (refine (cP _).mono ?_); rintro e w2 ⟨rfl, rfl⟩) | (go_at_call 36; with_reducible (refine cF.mono ?_); rintro e w3 ⟨rfl, f3⟩; have HF3 := toHid8 f3; obtain ⟨b0, b1, b2, b3, b4, b5, b6⟩ := Box.cells (HBx.out w3 f3); clear f3 a0 a1 a2 a3 a4 a5 a6) | (go_at_call 36; with_reducible (refine (HcT.out w3 (Hid.out HF3)).mono ?_); rintro e w4 ⟨rfl, f4⟩; have HF4 := toHid8 (Fr.then7 (Hid.out HF3) f4); obtain ⟨e0, e1, e2, e3, e4, e5, e6⟩ := Box.cells (HBx.out w4 (Hid.out HF4)); clear f4 b0 b1 b2 b3 b4 b5 b6) | fail))
              go_ret
              exact ⟨rfl, HF.out.then7 HF4.out⟩
            | true =>
              rw [hT] at HcT
              by_cases hFT : F = T
              · have hR : rightP ⟨8, P, T, F, A, lO, lN⟩ = false := by unfold rightP ruleP bareP linesP tokenP bytesP moveP noLines; simp [*]
                rw [hR]
                subst hO hN hA hFT
                clear hP hF hT
                clear hR hno hnn
                go_enter Tryz.func15, Tryz.ntmps15
                go_wp2_with ((first | (go_at_call 25; with_reducible (refine (cP _).mono ?_); rintro e w2 ⟨rfl, rfl⟩) | (go_at_call 36; with_reducible (refine cF.mono ?_); rintro e w3 ⟨rfl, f3⟩; have HF3 := toHid8 f3; obtain ⟨b0, b1, b2, b3, b4, b5, b6⟩ := Box.cells (HBx.out w3 f3); clear f3 a0 a1 a2 a3 a4 a5 a6) | (go_at_call 36; with_reducible (refine (HcT.out w3 (Hid.out HF3)).mono ?_); rintro e w4 ⟨rfl, f4⟩; have HF4 := toHid8 (Fr.then7 (Hid.out HF3) f4); obtain ⟨e0, e1, e2, e3, e4, e5, e6⟩ := Box.cells (HBx.out w4 (Hid.out HF4)); clear f4 b0 b1 b2 b3 b4 b5 b6) | fail))
                go_ret
                exact ⟨rfl, HF.out.then7 HF4.out⟩
              · have hR : rightP ⟨8, P, T, F, A, lO, lN⟩ = true := by unfold rightP ruleP bareP linesP tokenP bytesP moveP noLines; simp [*]
                rw [hR]
                subst hO hN hA
                obtain ⟨t5, t6⟩ := Lines.str_no hFT
                clear hP hF hT hFT
                clear hR hno hnn
                go_enter Tryz.func15, Tryz.ntmps15
                go_wp2_with ((first | (go_at_call 25; with_reducible (refine (cP _).mono ?_); rintro e w2 ⟨rfl, rfl⟩) | (go_at_call 36; with_reducible (refine cF.mono ?_); rintro e w3 ⟨rfl, f3⟩; have HF3 := toHid8 f3; obtain ⟨b0, b1, b2, b3, b4, b5, b6⟩ := Box.cells (HBx.out w3 f3); clear f3 a0 a1 a2 a3 a4 a5 a6) | (go_at_call 36; with_reducible (refine (HcT.out w3 (Hid.out HF3)).mono ?_); rintro e w4 ⟨rfl, f4⟩; have HF4 := toHid8 (Fr.then7 (Hid.out HF3) f4); obtain ⟨e0, e1, e2, e3, e4, e5, e6⟩ := Box.cells (HBx.out w4 (Hid.out HF4)); clear f4 b0 b1 b2 b3 b4 b5 b6) | fail))
                go_ret
                exact ⟨rfl, HF.out.then7 HF4.out⟩
        · have hR : rightP ⟨8, P, T, F, A, lO, lN⟩ = false := by unfold rightP ruleP bareP linesP tokenP bytesP moveP noLines; simp [*]
          rw [hR]
          subst hO hN
          clear hP
          clear hR hno hnn
          go_enter Tryz.func15, Tryz.ntmps15
          go_wp2_with ((first | (go_at_call 25; with_reducible (refine (cP _).mono ?_); rintro e w2 ⟨rfl, rfl⟩) | fail))
          go_ret
          exact ⟨rfl, HF.out⟩
      · have hR : rightP ⟨8, P, T, F, A, lO, lN⟩ = false := by unfold rightP ruleP bareP linesP tokenP bytesP moveP noLines; simp [*]
        rw [hR]
        subst hO
        have j2 : ¬ (nn : Int) = 0 := by omega
        clear hP
        clear hR hno hnn
        go_enter Tryz.func15, Tryz.ntmps15
        go_wp2_with ((first | (go_at_call 25; with_reducible (refine (cP _).mono ?_); rintro e w2 ⟨rfl, rfl⟩) | fail))
        go_ret
        exact ⟨rfl, HF.out⟩
    · have hR : rightP ⟨8, P, T, F, A, lO, lN⟩ = false := by unfold rightP ruleP bareP linesP tokenP bytesP moveP noLines; simp [*]
      rw [hR]
      have j1 : ¬ (no : Int) = 0 := by omega
      clear hP
      clear hR hno hnn
      go_enter Tryz.func15, Tryz.ntmps15
      go_wp2_with ((first | (go_at_call 25; with_reducible (refine (cP _).mono ?_); rintro e w2 ⟨rfl, rfl⟩) | fail))
      go_ret
      exact ⟨rfl, HF.out⟩

set_option maxHeartbeats 8000000 in
theorem dright_7 (P T F : ByteArray) (A : Int) (lO lN : List ByteArray) (pa pb : Option Addr) (no nn ca cb : Nat) (w : World) (hno : lO.length = no) (hnn : lN.length = nn) (zP : P.size < 900000) (_zT : T.size < 900000) (_zF : F.size < 900000) (zo : no < 900000) (zn : nn < 900000) (ho : StrsAt w (.slice pa no ca) lO) (hn : StrsAt w (.slice pb nn cb) lN) (bo : ∀ z ∈ lO, z.size < 900000) (bn : ∀ z ∈ lN, z.size < 900000) :
    Calls Tryz.prog 15 #[.agg #[.int .i64 7, .string P, .string T, .string F, .int .i64 A, .slice pa no ca, .slice pb nn cb]] w fun e w' => e = .returned (.bool (rightP ⟨7, P, T, F, A, lO, lN⟩)) ∧ Fr None' w w' := by
  have cP : ∀ w', Calls Tryz.prog 25 #[.string P] w' fun e w'' => e = .returned (.bool (Path.right P.data.toList)) ∧ w' = w'' := fun w' => Path.rright_any P w' (by omega)
  obtain ⟨w1, hw1⟩ : ∃ w1, w.alloc (.cells #[.int .i64 7, .string P, .string T, .string F, .int .i64 A, .slice pa no ca, .slice pb nn cb] 25) = w1 := ⟨_, rfl⟩
  have HF := toHid8 (show Fr None' w w1 from hw1 ▸ Fr.alloc None' w _)
  have HBx := toHid8 (show ∀ w', Fr None' w1 w' → Box w' w.heap.size (.int .i64 7) (.string P) (.string T) (.string F) (.int .i64 A) (.slice pa no ca) (.slice pb nn cb) from fun w' f => (hw1 ▸ Box.new w _ _ _ _ _ _ _ : Box w1 w.heap.size (.int .i64 7) (.string P) (.string T) (.string F) (.int .i64 A) (.slice pa no ca) (.slice pb nn cb)).kept f)
  obtain ⟨a0, a1, a2, a3, a4, a5, a6⟩ := (HBx.out w1 (Fr.refl _ _)).cells
  have i1 : (no : Int) < 900000 := by omega
  have i2 : (nn : Int) < 900000 := by omega
  have cO : Calls Tryz.prog 35 #[.slice pa no ca] w1 fun e w'' => e = .returned (.bool (Lines.right (Lines.bs lO))) ∧ Fr None' w1 w'' := by
    obtain ⟨va, c, e, _, _, hr⟩ := ho.kept HF.out
    injection e with e1 e2 e3
    subst e1 e3
    have h := Lines.rRight_any pa ca lO w1 hr (by omega) (fun z hz => Nat.lt_trans (bo z hz) (by decide))
    rw [hno] at h
    exact h.mono fun _ _ h => ⟨h.1, ofLN h.2⟩
  have HcN := toHid8 (show ∀ w', Fr None' w1 w' → Calls Tryz.prog 35 #[.slice pb nn cb] w' (fun e w'' => e = .returned (.bool (Lines.right (Lines.bs lN))) ∧ Fr None' w' w'') from fun w' f => by
    obtain ⟨va, c, e, _, _, hr⟩ := (hn.kept HF.out).kept f
    injection e with e1 e2 e3
    subst e1 e3
    have h := Lines.rRight_any pb cb lN w' hr (by omega) (fun z hz => Nat.lt_trans (bn z hz) (by decide))
    rw [hnn] at h
    exact h.mono fun _ _ h => ⟨h.1, ofLN h.2⟩)
  clear zP _zT _zF zo zn ho hn bo bn
  cases hP : Path.right P.data.toList with
  | false =>
    rw [hP] at cP
    have hR : rightP ⟨7, P, T, F, A, lO, lN⟩ = false := by unfold rightP ruleP bareP linesP tokenP bytesP moveP noLines; simp [*]
    rw [hR]
    clear hP
    clear hR hno hnn
    go_enter Tryz.func15, Tryz.ntmps15
    go_wp2_with ((first | (go_at_call 25; with_reducible (refine (cP _).mono ?_); rintro e w2 ⟨rfl, rfl⟩) | fail))
    go_ret
    exact ⟨rfl, HF.out⟩
  | true =>
    rw [hP] at cP
    by_cases hO : no = 0
    · by_cases hN : nn = 0
      · by_cases hA : A = 0
        · by_cases hF : F.data.toList = []
          · by_cases hT : T.data.toList = []
            · cases hOr : Lines.right (Lines.bs lO) with
              | false =>
                rw [hOr] at cO
                have hR : rightP ⟨7, P, T, F, A, lO, lN⟩ = false := by unfold rightP ruleP bareP linesP tokenP bytesP moveP noLines; simp [*]
                rw [hR]
                subst hO hN hA
                obtain ⟨t3, t4⟩ := Lines.asks_yes hF
                obtain ⟨t1, t2⟩ := Lines.asks_yes hT
                clear hP hF hT hOr
                clear hR hno hnn
                go_enter Tryz.func15, Tryz.ntmps15
                go_wp2_with ((first | (go_at_call 25; with_reducible (refine (cP _).mono ?_); rintro e w2 ⟨rfl, rfl⟩) | (go_at_call 35; with_reducible (refine cO.mono ?_); rintro e w3 ⟨rfl, f3⟩; have HF3 := toHid8 f3; obtain ⟨b0, b1, b2, b3, b4, b5, b6⟩ := Box.cells (HBx.out w3 f3); clear f3 a0 a1 a2 a3 a4 a5 a6) | fail))
                go_ret
                exact ⟨rfl, HF.out.then7 HF3.out⟩
              | true =>
                rw [hOr] at cO
                cases hNr : Lines.right (Lines.bs lN) with
                | false =>
                  rw [hNr] at HcN
                  have hR : rightP ⟨7, P, T, F, A, lO, lN⟩ = false := by unfold rightP ruleP bareP linesP tokenP bytesP moveP noLines; simp [*]
                  rw [hR]
                  subst hO hN hA
                  obtain ⟨t3, t4⟩ := Lines.asks_yes hF
                  obtain ⟨t1, t2⟩ := Lines.asks_yes hT
                  clear hP hF hT hOr hNr
                  clear hR hno hnn
                  go_enter Tryz.func15, Tryz.ntmps15
                  go_wp2_with ((first | (go_at_call 25; with_reducible (refine (cP _).mono ?_); rintro e w2 ⟨rfl, rfl⟩) | (go_at_call 35; with_reducible (refine cO.mono ?_); rintro e w3 ⟨rfl, f3⟩; have HF3 := toHid8 f3; obtain ⟨b0, b1, b2, b3, b4, b5, b6⟩ := Box.cells (HBx.out w3 f3); clear f3 a0 a1 a2 a3 a4 a5 a6) | (go_at_call 35; with_reducible (refine (HcN.out w3 (Hid.out HF3)).mono ?_); rintro e w4 ⟨rfl, f4⟩; have HF4 := toHid8 (Fr.then7 (Hid.out HF3) f4); obtain ⟨e0, e1, e2, e3, e4, e5, e6⟩ := Box.cells (HBx.out w4 (Hid.out HF4)); clear f4 b0 b1 b2 b3 b4 b5 b6) | fail))
                  go_ret
                  exact ⟨rfl, HF.out.then7 HF4.out⟩
                | true =>
                  rw [hNr] at HcN
                  have hR : rightP ⟨7, P, T, F, A, lO, lN⟩ = false := by unfold rightP ruleP bareP linesP tokenP bytesP moveP noLines; simp [*]
                  rw [hR]
                  subst hO hN hA
                  obtain ⟨t3, t4⟩ := Lines.asks_yes hF
                  obtain ⟨t1, t2⟩ := Lines.asks_yes hT
                  clear hP hF hT hOr hNr
                  clear hR hno hnn
                  go_enter Tryz.func15, Tryz.ntmps15
                  go_wp2_with ((first | (go_at_call 25; with_reducible (refine (cP _).mono ?_); rintro e w2 ⟨rfl, rfl⟩) | (go_at_call 35; with_reducible (refine cO.mono ?_); rintro e w3 ⟨rfl, f3⟩; have HF3 := toHid8 f3; obtain ⟨b0, b1, b2, b3, b4, b5, b6⟩ := Box.cells (HBx.out w3 f3); clear f3 a0 a1 a2 a3 a4 a5 a6) | (go_at_call 35; with_reducible (refine (HcN.out w3 (Hid.out HF3)).mono ?_); rintro e w4 ⟨rfl, f4⟩; have HF4 := toHid8 (Fr.then7 (Hid.out HF3) f4); obtain ⟨e0, e1, e2, e3, e4, e5, e6⟩ := Box.cells (HBx.out w4 (Hid.out HF4)); clear f4 b0 b1 b2 b3 b4 b5 b6) | fail))
                  go_ret
                  exact ⟨rfl, HF.out.then7 HF4.out⟩
            · have hR : rightP ⟨7, P, T, F, A, lO, lN⟩ = false := by unfold rightP ruleP bareP linesP tokenP bytesP moveP noLines; simp [*]
              rw [hR]
              subst hO hN hA
              obtain ⟨t3, t4⟩ := Lines.asks_yes hF
              obtain ⟨t1, t2⟩ := Lines.asks_no hT
              clear hP hF hT
              clear hR hno hnn
              go_enter Tryz.func15, Tryz.ntmps15
              go_wp2_with ((first | (go_at_call 25; with_reducible (refine (cP _).mono ?_); rintro e w2 ⟨rfl, rfl⟩) | fail))
              go_ret
              exact ⟨rfl, HF.out⟩
          · have hR : rightP ⟨7, P, T, F, A, lO, lN⟩ = false := by unfold rightP ruleP bareP linesP tokenP bytesP moveP noLines; simp [*]
            rw [hR]
            subst hO hN hA
            obtain ⟨t3, t4⟩ := Lines.asks_no hF
            clear hP hF
            clear hR hno hnn
            go_enter Tryz.func15, Tryz.ntmps15
            go_wp2_with ((first | (go_at_call 25; with_reducible (refine (cP _).mono ?_); rintro e w2 ⟨rfl, rfl⟩) | fail))
            go_ret
            exact ⟨rfl, HF.out⟩
        · by_cases hF : F.data.toList = []
          · by_cases hT : T.data.toList = []
            · by_cases h0 : 0 ≤ A
              · by_cases hm : A ≤ 1073741824
                · cases hOr : Lines.right (Lines.bs lO) with
                  | false =>
                    rw [hOr] at cO
                    have hR : rightP ⟨7, P, T, F, A, lO, lN⟩ = false := by unfold rightP ruleP bareP linesP tokenP bytesP moveP noLines; simp [*]
                    rw [hR]
                    subst hO hN
                    obtain ⟨t3, t4⟩ := Lines.asks_yes hF
                    obtain ⟨t1, t2⟩ := Lines.asks_yes hT
                    clear hP hF hT hOr
                    clear hR hno hnn
                    go_enter Tryz.func15, Tryz.ntmps15
                    go_wp2_with ((first | (go_at_call 25; with_reducible (refine (cP _).mono ?_); rintro e w2 ⟨rfl, rfl⟩) | (go_at_call 35; with_reducible (refine cO.mono ?_); rintro e w3 ⟨rfl, f3⟩; have HF3 := toHid8 f3; obtain ⟨b0, b1, b2, b3, b4, b5, b6⟩ := Box.cells (HBx.out w3 f3); clear f3 a0 a1 a2 a3 a4 a5 a6) | fail))
                    go_ret
                    exact ⟨rfl, HF.out.then7 HF3.out⟩
                  | true =>
                    rw [hOr] at cO
                    cases hNr : Lines.right (Lines.bs lN) with
                    | false =>
                      rw [hNr] at HcN
                      have hR : rightP ⟨7, P, T, F, A, lO, lN⟩ = false := by unfold rightP ruleP bareP linesP tokenP bytesP moveP noLines; simp [*]
                      rw [hR]
                      subst hO hN
                      obtain ⟨t3, t4⟩ := Lines.asks_yes hF
                      obtain ⟨t1, t2⟩ := Lines.asks_yes hT
                      clear hP hF hT hOr hNr
                      clear hR hno hnn
                      go_enter Tryz.func15, Tryz.ntmps15
                      go_wp2_with ((first | (go_at_call 25; with_reducible (refine (cP _).mono ?_); rintro e w2 ⟨rfl, rfl⟩) | (go_at_call 35; with_reducible (refine cO.mono ?_); rintro e w3 ⟨rfl, f3⟩; have HF3 := toHid8 f3; obtain ⟨b0, b1, b2, b3, b4, b5, b6⟩ := Box.cells (HBx.out w3 f3); clear f3 a0 a1 a2 a3 a4 a5 a6) | (go_at_call 35; with_reducible (refine (HcN.out w3 (Hid.out HF3)).mono ?_); rintro e w4 ⟨rfl, f4⟩; have HF4 := toHid8 (Fr.then7 (Hid.out HF3) f4); obtain ⟨e0, e1, e2, e3, e4, e5, e6⟩ := Box.cells (HBx.out w4 (Hid.out HF4)); clear f4 b0 b1 b2 b3 b4 b5 b6) | fail))
                      go_ret
                      exact ⟨rfl, HF.out.then7 HF4.out⟩
                    | true =>
                      rw [hNr] at HcN
                      have hR : rightP ⟨7, P, T, F, A, lO, lN⟩ = false := by unfold rightP ruleP bareP linesP tokenP bytesP moveP noLines; simp [*]
                      rw [hR]
                      subst hO hN
                      obtain ⟨t3, t4⟩ := Lines.asks_yes hF
                      obtain ⟨t1, t2⟩ := Lines.asks_yes hT
                      clear hP hF hT hOr hNr
                      clear hR hno hnn
                      go_enter Tryz.func15, Tryz.ntmps15
                      go_wp2_with ((first | (go_at_call 25; with_reducible (refine (cP _).mono ?_); rintro e w2 ⟨rfl, rfl⟩) | (go_at_call 35; with_reducible (refine cO.mono ?_); rintro e w3 ⟨rfl, f3⟩; have HF3 := toHid8 f3; obtain ⟨b0, b1, b2, b3, b4, b5, b6⟩ := Box.cells (HBx.out w3 f3); clear f3 a0 a1 a2 a3 a4 a5 a6) | (go_at_call 35; with_reducible (refine (HcN.out w3 (Hid.out HF3)).mono ?_); rintro e w4 ⟨rfl, f4⟩; have HF4 := toHid8 (Fr.then7 (Hid.out HF3) f4); obtain ⟨e0, e1, e2, e3, e4, e5, e6⟩ := Box.cells (HBx.out w4 (Hid.out HF4)); clear f4 b0 b1 b2 b3 b4 b5 b6) | fail))
                      go_ret
                      exact ⟨rfl, HF.out.then7 HF4.out⟩
                · have hR : rightP ⟨7, P, T, F, A, lO, lN⟩ = false := by unfold rightP ruleP bareP linesP tokenP bytesP moveP noLines; simp [*]
                  rw [hR]
                  subst hO hN
                  obtain ⟨t3, t4⟩ := Lines.asks_yes hF
                  obtain ⟨t1, t2⟩ := Lines.asks_yes hT
                  clear hP hF hT
                  clear hR hno hnn
                  go_enter Tryz.func15, Tryz.ntmps15
                  go_wp2_with ((first | (go_at_call 25; with_reducible (refine (cP _).mono ?_); rintro e w2 ⟨rfl, rfl⟩) | fail))
                  go_ret
                  exact ⟨rfl, HF.out⟩
              · have hR : rightP ⟨7, P, T, F, A, lO, lN⟩ = false := by unfold rightP ruleP bareP linesP tokenP bytesP moveP noLines; simp [*]
                rw [hR]
                subst hO hN
                obtain ⟨t3, t4⟩ := Lines.asks_yes hF
                obtain ⟨t1, t2⟩ := Lines.asks_yes hT
                clear hP hF hT
                clear hR hno hnn
                go_enter Tryz.func15, Tryz.ntmps15
                go_wp2_with ((first | (go_at_call 25; with_reducible (refine (cP _).mono ?_); rintro e w2 ⟨rfl, rfl⟩) | fail))
                go_ret
                exact ⟨rfl, HF.out⟩
            · have hR : rightP ⟨7, P, T, F, A, lO, lN⟩ = false := by unfold rightP ruleP bareP linesP tokenP bytesP moveP noLines; simp [*]
              rw [hR]
              subst hO hN
              obtain ⟨t3, t4⟩ := Lines.asks_yes hF
              obtain ⟨t1, t2⟩ := Lines.asks_no hT
              clear hP hF hT
              clear hR hno hnn
              go_enter Tryz.func15, Tryz.ntmps15
              go_wp2_with ((first | (go_at_call 25; with_reducible (refine (cP _).mono ?_); rintro e w2 ⟨rfl, rfl⟩) | fail))
              go_ret
              exact ⟨rfl, HF.out⟩
          · have hR : rightP ⟨7, P, T, F, A, lO, lN⟩ = false := by unfold rightP ruleP bareP linesP tokenP bytesP moveP noLines; simp [*]
            rw [hR]
            subst hO hN
            obtain ⟨t3, t4⟩ := Lines.asks_no hF
            clear hP hF
            clear hR hno hnn
            go_enter Tryz.func15, Tryz.ntmps15
            go_wp2_with ((first | (go_at_call 25; with_reducible (refine (cP _).mono ?_); rintro e w2 ⟨rfl, rfl⟩) | fail))
            go_ret
            exact ⟨rfl, HF.out⟩
      · by_cases hF : F.data.toList = []
        · by_cases hT : T.data.toList = []
          · by_cases h0 : 0 ≤ A
            · by_cases hm : A ≤ 1073741824
              · cases hOr : Lines.right (Lines.bs lO) with
                | false =>
                  rw [hOr] at cO
                  have hR : rightP ⟨7, P, T, F, A, lO, lN⟩ = false := by unfold rightP ruleP bareP linesP tokenP bytesP moveP noLines; simp [*]
                  rw [hR]
                  have j2 : ¬ (nn : Int) = 0 := by omega
                  have j7 : (0 : Int) < (nn : Int) := by omega
                  subst hO
                  obtain ⟨t3, t4⟩ := Lines.asks_yes hF
                  obtain ⟨t1, t2⟩ := Lines.asks_yes hT
                  clear hP hF hT hOr
                  clear hR hno hnn
                  go_enter Tryz.func15, Tryz.ntmps15
                  go_wp2_with ((first | (go_at_call 25; with_reducible (refine (cP _).mono ?_); rintro e w2 ⟨rfl, rfl⟩) | (go_at_call 35; with_reducible (refine cO.mono ?_); rintro e w3 ⟨rfl, f3⟩; have HF3 := toHid8 f3; obtain ⟨b0, b1, b2, b3, b4, b5, b6⟩ := Box.cells (HBx.out w3 f3); clear f3 a0 a1 a2 a3 a4 a5 a6) | fail))
                  go_ret
                  exact ⟨rfl, HF.out.then7 HF3.out⟩
                | true =>
                  rw [hOr] at cO
                  cases hNr : Lines.right (Lines.bs lN) with
                  | false =>
                    rw [hNr] at HcN
                    have hR : rightP ⟨7, P, T, F, A, lO, lN⟩ = false := by unfold rightP ruleP bareP linesP tokenP bytesP moveP noLines; simp [*]
                    rw [hR]
                    have j2 : ¬ (nn : Int) = 0 := by omega
                    have j7 : (0 : Int) < (nn : Int) := by omega
                    subst hO
                    obtain ⟨t3, t4⟩ := Lines.asks_yes hF
                    obtain ⟨t1, t2⟩ := Lines.asks_yes hT
                    clear hP hF hT hOr hNr
                    clear hR hno hnn
                    go_enter Tryz.func15, Tryz.ntmps15
                    go_wp2_with ((first | (go_at_call 25; with_reducible (refine (cP _).mono ?_); rintro e w2 ⟨rfl, rfl⟩) | (go_at_call 35; with_reducible (refine cO.mono ?_); rintro e w3 ⟨rfl, f3⟩; have HF3 := toHid8 f3; obtain ⟨b0, b1, b2, b3, b4, b5, b6⟩ := Box.cells (HBx.out w3 f3); clear f3 a0 a1 a2 a3 a4 a5 a6) | (go_at_call 35; with_reducible (refine (HcN.out w3 (Hid.out HF3)).mono ?_); rintro e w4 ⟨rfl, f4⟩; have HF4 := toHid8 (Fr.then7 (Hid.out HF3) f4); obtain ⟨e0, e1, e2, e3, e4, e5, e6⟩ := Box.cells (HBx.out w4 (Hid.out HF4)); clear f4 b0 b1 b2 b3 b4 b5 b6) | fail))
                    go_ret
                    exact ⟨rfl, HF.out.then7 HF4.out⟩
                  | true =>
                    rw [hNr] at HcN
                    have hR : rightP ⟨7, P, T, F, A, lO, lN⟩ = true := by unfold rightP ruleP bareP linesP tokenP bytesP moveP noLines; simp [*] <;> omega
                    rw [hR]
                    have j2 : ¬ (nn : Int) = 0 := by omega
                    have j7 : (0 : Int) < (nn : Int) := by omega
                    subst hO
                    obtain ⟨t3, t4⟩ := Lines.asks_yes hF
                    obtain ⟨t1, t2⟩ := Lines.asks_yes hT
                    clear hP hF hT hOr hNr
                    clear hR hno hnn
                    go_enter Tryz.func15, Tryz.ntmps15
                    go_wp2_with ((first | (go_at_call 25; with_reducible (refine (cP _).mono ?_); rintro e w2 ⟨rfl, rfl⟩) | (go_at_call 35; with_reducible (refine cO.mono ?_); rintro e w3 ⟨rfl, f3⟩; have HF3 := toHid8 f3; obtain ⟨b0, b1, b2, b3, b4, b5, b6⟩ := Box.cells (HBx.out w3 f3); clear f3 a0 a1 a2 a3 a4 a5 a6) | (go_at_call 35; with_reducible (refine (HcN.out w3 (Hid.out HF3)).mono ?_); rintro e w4 ⟨rfl, f4⟩; have HF4 := toHid8 (Fr.then7 (Hid.out HF3) f4); obtain ⟨e0, e1, e2, e3, e4, e5, e6⟩ := Box.cells (HBx.out w4 (Hid.out HF4)); clear f4 b0 b1 b2 b3 b4 b5 b6) | fail))
                    go_ret
                    exact ⟨by first | rfl | exact ret_bool7 (by simp; omega), HF.out.then7 HF4.out⟩
              · have hR : rightP ⟨7, P, T, F, A, lO, lN⟩ = false := by unfold rightP ruleP bareP linesP tokenP bytesP moveP noLines; simp [*]
                rw [hR]
                have j2 : ((nn : Int) == 0) = false := by simp; omega
                have j3 : ¬ nn = 0 := hN
                subst hO
                clear i1 i2 hN
                obtain ⟨t3, t4⟩ := Lines.asks_yes hF
                obtain ⟨t1, t2⟩ := Lines.asks_yes hT
                clear hP hF hT
                clear hR hno hnn
                go_enter Tryz.func15, Tryz.ntmps15
                go_wp2_with ((first | (go_at_call 25; with_reducible (refine (cP _).mono ?_); rintro e w2 ⟨rfl, rfl⟩) | fail))
                go_ret
                exact ⟨rfl, HF.out⟩
            · have hR : rightP ⟨7, P, T, F, A, lO, lN⟩ = false := by unfold rightP ruleP bareP linesP tokenP bytesP moveP noLines; simp [*]
              rw [hR]
              have j2 : ((nn : Int) == 0) = false := by simp; omega
              have j3 : ¬ nn = 0 := hN
              subst hO
              clear i1 i2 hN
              obtain ⟨t3, t4⟩ := Lines.asks_yes hF
              obtain ⟨t1, t2⟩ := Lines.asks_yes hT
              clear hP hF hT
              clear hR hno hnn
              go_enter Tryz.func15, Tryz.ntmps15
              go_wp2_with ((first | (go_at_call 25; with_reducible (refine (cP _).mono ?_); rintro e w2 ⟨rfl, rfl⟩) | fail))
              go_ret
              exact ⟨rfl, HF.out⟩
          · have hR : rightP ⟨7, P, T, F, A, lO, lN⟩ = false := by unfold rightP ruleP bareP linesP tokenP bytesP moveP noLines; simp [*]
            rw [hR]
            have j2 : ¬ (nn : Int) = 0 := by omega
            have j7 : (0 : Int) < (nn : Int) := by omega
            subst hO
            obtain ⟨t3, t4⟩ := Lines.asks_yes hF
            obtain ⟨t1, t2⟩ := Lines.asks_no hT
            clear hP hF hT
            clear hR hno hnn
            go_enter Tryz.func15, Tryz.ntmps15
            go_wp2_with ((first | (go_at_call 25; with_reducible (refine (cP _).mono ?_); rintro e w2 ⟨rfl, rfl⟩) | fail))
            go_ret
            exact ⟨rfl, HF.out⟩
        · have hR : rightP ⟨7, P, T, F, A, lO, lN⟩ = false := by unfold rightP ruleP bareP linesP tokenP bytesP moveP noLines; simp [*]
          rw [hR]
          have j2 : ¬ (nn : Int) = 0 := by omega
          have j7 : (0 : Int) < (nn : Int) := by omega
          subst hO
          obtain ⟨t3, t4⟩ := Lines.asks_no hF
          clear hP hF
          clear hR hno hnn
          go_enter Tryz.func15, Tryz.ntmps15
          go_wp2_with ((first | (go_at_call 25; with_reducible (refine (cP _).mono ?_); rintro e w2 ⟨rfl, rfl⟩) | fail))
          go_ret
          exact ⟨rfl, HF.out⟩
    · by_cases hF : F.data.toList = []
      · by_cases hT : T.data.toList = []
        · by_cases h0 : 0 ≤ A
          · by_cases hm : A ≤ 1073741824
            · cases hOr : Lines.right (Lines.bs lO) with
              | false =>
                rw [hOr] at cO
                have hR : rightP ⟨7, P, T, F, A, lO, lN⟩ = false := by unfold rightP ruleP bareP linesP tokenP bytesP moveP noLines; simp [*]
                rw [hR]
                have j1 : ¬ (no : Int) = 0 := by omega
                have j7 : (0 : Int) < (no : Int) + (nn : Int) := by omega
                obtain ⟨t3, t4⟩ := Lines.asks_yes hF
                obtain ⟨t1, t2⟩ := Lines.asks_yes hT
                clear hP hF hT hOr
                clear hR hno hnn
                go_enter Tryz.func15, Tryz.ntmps15
                go_wp2_with ((first | (go_at_call 25; with_reducible (refine (cP _).mono ?_); rintro e w2 ⟨rfl, rfl⟩) | (go_at_call 35; with_reducible (refine cO.mono ?_); rintro e w3 ⟨rfl, f3⟩; have HF3 := toHid8 f3; obtain ⟨b0, b1, b2, b3, b4, b5, b6⟩ := Box.cells (HBx.out w3 f3); clear f3 a0 a1 a2 a3 a4 a5 a6) | fail))
                go_ret
                exact ⟨rfl, HF.out.then7 HF3.out⟩
              | true =>
                rw [hOr] at cO
                cases hNr : Lines.right (Lines.bs lN) with
                | false =>
                  rw [hNr] at HcN
                  have hR : rightP ⟨7, P, T, F, A, lO, lN⟩ = false := by unfold rightP ruleP bareP linesP tokenP bytesP moveP noLines; simp [*]
                  rw [hR]
                  have j1 : ¬ (no : Int) = 0 := by omega
                  have j7 : (0 : Int) < (no : Int) + (nn : Int) := by omega
                  obtain ⟨t3, t4⟩ := Lines.asks_yes hF
                  obtain ⟨t1, t2⟩ := Lines.asks_yes hT
                  clear hP hF hT hOr hNr
                  clear hR hno hnn
                  go_enter Tryz.func15, Tryz.ntmps15
                  go_wp2_with ((first | (go_at_call 25; with_reducible (refine (cP _).mono ?_); rintro e w2 ⟨rfl, rfl⟩) | (go_at_call 35; with_reducible (refine cO.mono ?_); rintro e w3 ⟨rfl, f3⟩; have HF3 := toHid8 f3; obtain ⟨b0, b1, b2, b3, b4, b5, b6⟩ := Box.cells (HBx.out w3 f3); clear f3 a0 a1 a2 a3 a4 a5 a6) | (go_at_call 35; with_reducible (refine (HcN.out w3 (Hid.out HF3)).mono ?_); rintro e w4 ⟨rfl, f4⟩; have HF4 := toHid8 (Fr.then7 (Hid.out HF3) f4); obtain ⟨e0, e1, e2, e3, e4, e5, e6⟩ := Box.cells (HBx.out w4 (Hid.out HF4)); clear f4 b0 b1 b2 b3 b4 b5 b6) | fail))
                  go_ret
                  exact ⟨rfl, HF.out.then7 HF4.out⟩
                | true =>
                  rw [hNr] at HcN
                  have hR : rightP ⟨7, P, T, F, A, lO, lN⟩ = true := by unfold rightP ruleP bareP linesP tokenP bytesP moveP noLines; simp [*] <;> omega
                  rw [hR]
                  have j1 : ¬ (no : Int) = 0 := by omega
                  have j7 : (0 : Int) < (no : Int) + (nn : Int) := by omega
                  obtain ⟨t3, t4⟩ := Lines.asks_yes hF
                  obtain ⟨t1, t2⟩ := Lines.asks_yes hT
                  clear hP hF hT hOr hNr
                  clear hR hno hnn
                  go_enter Tryz.func15, Tryz.ntmps15
                  go_wp2_with ((first | (go_at_call 25; with_reducible (refine (cP _).mono ?_); rintro e w2 ⟨rfl, rfl⟩) | (go_at_call 35; with_reducible (refine cO.mono ?_); rintro e w3 ⟨rfl, f3⟩; have HF3 := toHid8 f3; obtain ⟨b0, b1, b2, b3, b4, b5, b6⟩ := Box.cells (HBx.out w3 f3); clear f3 a0 a1 a2 a3 a4 a5 a6) | (go_at_call 35; with_reducible (refine (HcN.out w3 (Hid.out HF3)).mono ?_); rintro e w4 ⟨rfl, f4⟩; have HF4 := toHid8 (Fr.then7 (Hid.out HF3) f4); obtain ⟨e0, e1, e2, e3, e4, e5, e6⟩ := Box.cells (HBx.out w4 (Hid.out HF4)); clear f4 b0 b1 b2 b3 b4 b5 b6) | fail))
                  go_ret
                  exact ⟨by first | rfl | exact ret_bool7 (by simp; omega), HF.out.then7 HF4.out⟩
            · have hR : rightP ⟨7, P, T, F, A, lO, lN⟩ = false := by unfold rightP ruleP bareP linesP tokenP bytesP moveP noLines; simp [*]
              rw [hR]
              have j1 : ((no : Int) == 0) = false := by simp; omega
              have j3 : ¬ no = 0 := hO
              clear i1 i2 hO
              obtain ⟨t3, t4⟩ := Lines.asks_yes hF
              obtain ⟨t1, t2⟩ := Lines.asks_yes hT
              clear hP hF hT
              clear hR hno hnn
              go_enter Tryz.func15, Tryz.ntmps15
              go_wp2_with ((first | (go_at_call 25; with_reducible (refine (cP _).mono ?_); rintro e w2 ⟨rfl, rfl⟩) | fail))
              go_ret
              exact ⟨rfl, HF.out⟩
          · have hR : rightP ⟨7, P, T, F, A, lO, lN⟩ = false := by unfold rightP ruleP bareP linesP tokenP bytesP moveP noLines; simp [*]
            rw [hR]
            have j1 : ((no : Int) == 0) = false := by simp; omega
            have j3 : ¬ no = 0 := hO
            clear i1 i2 hO
            obtain ⟨t3, t4⟩ := Lines.asks_yes hF
            obtain ⟨t1, t2⟩ := Lines.asks_yes hT
            clear hP hF hT
            clear hR hno hnn
            go_enter Tryz.func15, Tryz.ntmps15
            go_wp2_with ((first | (go_at_call 25; with_reducible (refine (cP _).mono ?_); rintro e w2 ⟨rfl, rfl⟩) | fail))
            go_ret
            exact ⟨rfl, HF.out⟩
        · have hR : rightP ⟨7, P, T, F, A, lO, lN⟩ = false := by unfold rightP ruleP bareP linesP tokenP bytesP moveP noLines; simp [*]
          rw [hR]
          have j1 : ¬ (no : Int) = 0 := by omega
          have j7 : (0 : Int) < (no : Int) + (nn : Int) := by omega
          obtain ⟨t3, t4⟩ := Lines.asks_yes hF
          obtain ⟨t1, t2⟩ := Lines.asks_no hT
          clear hP hF hT
          clear hR hno hnn
          go_enter Tryz.func15, Tryz.ntmps15
          go_wp2_with ((first | (go_at_call 25; with_reducible (refine (cP _).mono ?_); rintro e w2 ⟨rfl, rfl⟩) | fail))
          go_ret
          exact ⟨rfl, HF.out⟩
      · have hR : rightP ⟨7, P, T, F, A, lO, lN⟩ = false := by unfold rightP ruleP bareP linesP tokenP bytesP moveP noLines; simp [*]
        rw [hR]
        have j1 : ¬ (no : Int) = 0 := by omega
        have j7 : (0 : Int) < (no : Int) + (nn : Int) := by omega
        obtain ⟨t3, t4⟩ := Lines.asks_no hF
        clear hP hF
        clear hR hno hnn
        go_enter Tryz.func15, Tryz.ntmps15
        go_wp2_with ((first | (go_at_call 25; with_reducible (refine (cP _).mono ?_); rintro e w2 ⟨rfl, rfl⟩) | fail))
        go_ret
        exact ⟨rfl, HF.out⟩

/-- Lines of bounded size. -/
def LinesSmall (x : Pr) : Prop := (∀ z ∈ x.old, z.size < 900000) ∧ ∀ z ∈ x.new, z.size < 900000

theorem dright_any (x : Pr) (vo vn : Value) (w : World) (ho : StrsAt w vo x.old) (hn : StrsAt w vn x.new) (hs : SmallP x) (hl : LinesSmall x) :
    Calls Tryz.prog 15 #[.agg #[.int .i64 x.kind, .string x.path, .string x.dst, .string x.src, .int .i64 x.pos, vo, vn]] w fun e w' => e = .returned (.bool (rightP x)) ∧ Fr None' w w' := by
  obtain ⟨K, P, T, F, A, lO, lN⟩ := x
  obtain ⟨zP, zT, zF, zO, zN⟩ := hs
  obtain ⟨b1, b2⟩ := hl
  simp only at ho hn zP zT zF zO zN b1 b2 ⊢
  obtain ⟨pa, ca, r1⟩ : ∃ pa ca, vo = .slice pa lO.length ca := by obtain ⟨a, c, e, _⟩ := ho; exact ⟨a, c, e⟩
  obtain ⟨pb, cb, r2⟩ : ∃ pb cb, vn = .slice pb lN.length cb := by obtain ⟨a, c, e, _⟩ := hn; exact ⟨a, c, e⟩
  subst r1 r2
  by_cases hK : 1 ≤ K ∧ K ≤ 10
  · rcases kinds10 hK with rfl | rfl | rfl | rfl | rfl | rfl | rfl | rfl | rfl | rfl
    · exact dright_1 P T F A lO lN pa pb lO.length lN.length ca cb w rfl rfl zP zT zO zN
    · exact dright_2 P T F A lO lN pa pb lO.length lN.length ca cb w rfl rfl zP zT zO zN
    · exact dright_3 P T F A lO lN pa pb lO.length lN.length ca cb w rfl rfl zP zT zO zN
    · exact dright_4 P T F A lO lN pa pb lO.length lN.length ca cb w rfl rfl zP zT zO zN
    · exact dright_5 P T F A lO lN pa pb lO.length lN.length ca cb w rfl rfl zP zT zO zN
    · exact dright_6 P T F A lO lN pa pb lO.length lN.length ca cb w rfl rfl zP zT zO zN
    · exact dright_7 P T F A lO lN pa pb lO.length lN.length ca cb w rfl rfl zP zT zF zO zN ho hn b1 b2
    · exact dright_8 P T F A lO lN pa pb lO.length lN.length ca cb w rfl rfl zP zT zF zO zN
    · exact dright_9 P T F A lO lN pa pb lO.length lN.length ca cb w rfl rfl zP zT zO zN
    · exact dright_10 P T F A lO lN pa pb lO.length lN.length ca cb w rfl rfl zP zT zO zN
  · exact dright_no K hK P T F A lO lN pa pb lO.length lN.length ca cb w rfl rfl zP zT zF zO zN

end Go.Proofs.YtcpjneejlfgkeaaGreatDoor
