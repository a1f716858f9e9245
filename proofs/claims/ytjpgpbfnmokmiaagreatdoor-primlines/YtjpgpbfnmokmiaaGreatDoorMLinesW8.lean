/-
  What is proved here: PrimLines answers true. Conditions: its arguments lie in memory, and are no longer than the reach.
-/
import Derived.Test.YtjpgpbfnmokmiaaGreatDoorM38Laws8
import Derived.Test.YtjpgpbfnmokmiaaGreatDoorM32WithL8
import Derived.Test.YtjpgpbfnmokmiaaGreatDoorM39LinesP8
import Derived.Test.YtjpgpbfnmokmiaaGreatDoorMFRApply
namespace Go.Proofs.YtjpgpbfnmokmiaaGreatDoor
open Go.RowKit Go.Maps Go.WideMaps
set_option maxRecDepth 100000

/-- The patch's box, its first four fields stored anew. -/
theorem box_ln {w W : World} {b : Nat} {y0 y1 y2 y3 y4 y5 y6 u0 u1 u2 u3 : Value} (h : Box w b y0 y1 y2 y3 y4 y5 y6) (hW : (((w.setCell ⟨b, 0, none⟩ u0).setCell ⟨b, 1, none⟩ u1).setCell ⟨b, 2, none⟩ u2).setCell ⟨b, 3, none⟩ u3 = W) : Box W b u0 u1 u2 u3 y4 y5 y6 ∧ Fr (fun k => k = b) w W := by
  subst hW
  exact ⟨(((h.set0 u0).set1 u1).set2 u2).set3 u3, (((Fr.setQ _ _ _ _).then (Fr.setQ _ _ _ _)).then (Fr.setQ _ _ _ _)).then (Fr.setQ _ _ _ _)⟩

theorem strs_set {w : World} {a : Addr} {q : Option Addr} {n c : Nat} {u v : Value} {l : List ByteArray} (hc : w.cell? a = some (.slice q n c)) (h : StrsAt w v l) : StrsAt (w.setCell a u) v l := by
  obtain ⟨va, cc, rfl, h1, h2, h3⟩ := h
  refine ⟨va, cc, rfl, h1, h2, fun j y hj => ?_⟩
  obtain ⟨g, o, e, hcell⟩ := h3 j y hj
  refine ⟨g, o, e, ?_⟩
  rw [World.cell?_setCell_other _ _ _ _ (fun e => by rw [e, hcell] at hc; cases hc)]
  exact hcell

theorem row_frz {w : World} {b : Nat} {cur : Array Value} {e : TypeId} (h : w.heap[b]? = some (.cells cur e (0, 0))) (o : Nat) : w.frozen? ⟨b, o, none⟩ = false := by
  unfold World.frozen?
  rw [h]
  simp

/-- A row of things, the lines of one set anew. -/
theorem ents_set {w : World} {g o : Nat} {L : List En} {K : Nat} (hK : K < L.length) (h : EntsAt w (some ⟨g, o, none⟩) L) {u : Value} {l : List ByteArray} (hs : StrsAt w u l) : EntsAt (w.setCell ⟨g, o + K * 4 + 2, none⟩ u) (some ⟨g, o, none⟩) (L.set K ⟨L[K].path, L[K].kind, l, L[K].data⟩) := by
  obtain ⟨gK, oK, eK, vK, k0, k1, k2, k3, sK⟩ := h.get hK
  cases eK
  obtain ⟨pK, cK, rfl, _⟩ := sK
  have far : ∀ j v, j ≠ o + K * 4 + 2 → w.cell? ⟨g, j, none⟩ = some v → (w.setCell ⟨g, o + K * 4 + 2, none⟩ u).cell? ⟨g, j, none⟩ = some v := fun j v hj hv => by
    rw [World.cell?_setCell_other _ _ _ _ (fun e => hj (congrArg Addr.off e).symm)]
    exact hv
  intro k x hk
  by_cases hkK : K = k
  · subst hkK
    rw [List.getElem?_set_self hK] at hk
    cases hk
    exact ⟨g, o, rfl, u, far _ _ (by omega) k0, far _ _ (by omega) k1, World.cell?_setCell_same _ _ _ k2, far _ _ (by omega) k3, strs_set k2 hs⟩
  · rw [List.getElem?_set_ne hkK] at hk
    obtain ⟨g', o', e, v, c0, c1, c2, c3, s⟩ := h k x hk
    cases e
    exact ⟨g, o, rfl, v, far _ _ (by omega) c0, far _ _ (by omega) c1, far _ _ (by omega) c2, far _ _ (by omega) c3, strs_set k2 s⟩

/-- What the document's Apply of a change of lines answers. -/
theorem rdapply_any (l o n : List ByteArray) (x : Int) (ua : Option Addr) (um uc : Nat) (po pn : Option Addr) (no nn co cn : Nat) (w : World) (hl : StrsAt w (.slice ua um uc) l) (ho : StrsAt w (.slice po no co) o) (hn : StrsAt w (.slice pn nn cn) n) (l1 : l.length ≤ 40000) (l2 : o.length ≤ 40000) (l3 : n.length ≤ 40000) (hx : -9223372036854775808 ≤ x ∧ x < 9223372036854775808) :
    Calls Tryz.prog 26 #[.slice ua um uc, .agg #[.int .i64 x, .slice po no co, .slice pn nn cn]] w fun e w' => ∃ (va : Option Addr) (m c : Nat) (b : Bool), e = .returned (.tuple #[.slice va m c, .bool b]) ∧ Hid (b = (hunkL l x o n).isSome) ∧ Hid (∀ l', hunkL l x o n = some l' → StrsAt w' (.slice va m c) l') ∧ Fr None' w w' := by
  obtain ⟨va, c, e1, a1, a2, a3⟩ := hl
  obtain ⟨vb, c', e2, b1, b2, b3⟩ := ho
  obtain ⟨vc, c'', e3, d1, d2, d3⟩ := hn
  cases e1; cases e2; cases e3
  refine (Diff.rapply_arg x ⟨a3, rfl, a2, a1⟩ ⟨b3, rfl, b2, b1⟩ ⟨d3, rfl, d2, d1⟩ l1 l2 l3 hx).mono ?_
  rintro e w' ⟨f, h⟩
  rw [hunk_apply] at h
  cases hr : hunkL l x o n with
  | none =>
    rw [hr] at h
    exact ⟨none, 0, 0, false, h, rfl, (fun l' e => by cases e), ofD f⟩
  | some l' =>
    rw [hr] at h
    obtain ⟨v, he, hO⟩ := h
    have hO : w'.ownsRow w.heap.size 9 1 v l'.length (l'.map Value.string) := by
      have := hO
      unfold Diff.OwnV at this
      rw [List.length_map] at this
      exact this
    have hs := own_strs hO
    obtain ⟨va', c', rfl, q⟩ := hs
    exact ⟨va', l'.length, c', true, he, rfl, (fun l'' e => by cases e; exact ⟨va', c', rfl, q⟩), ofD f⟩

set_option maxHeartbeats 16000000 in
theorem plines_walk (va : Option Addr) (n c : Nat) (L : List En) (a : Nat) (p : Pr) (vo vn : Value) (W : World) (hl : L.length = n) (ha : EntsAt W va L) (hn : n ≤ 140737488355328) (hx : ∀ x ∈ L, x.lines.length ≤ 140737488355328) (h8 : a ≤ 255) (ho : StrsAt W vo p.old) (hw : StrsAt W vn p.new) (lo : p.old.length ≤ 140737488355328) (ln : p.new.length ≤ 140737488355328) :
    Calls Tryz.prog 8 #[.slice va n c, .int .u8 a, .agg #[.int .i64 p.kind, .string p.path, .string p.dst, .string p.src, .int .i64 p.pos, vo, vn]] W fun e w' => e = .returned (.bool true) ∧ Fr None' W w' := by
  obtain ⟨pa, ca, rfl, ho'⟩ := ho
  obtain ⟨pb, cb, rfl, hw'⟩ := hw
  have HO := toHid8 (show ∀ w', Fr None' W w' → StrsAt w' (.slice pa p.old.length ca) p.old from fun w' f => StrsAt.kept ⟨pa, ca, rfl, ho'⟩ f)
  have HN := toHid8 (show ∀ w', Fr None' W w' → StrsAt w' (.slice pb p.new.length cb) p.new from fun w' f => StrsAt.kept ⟨pb, cb, rfl, hw'⟩ f)
  have HE := toHid8 (show ∀ w', Fr None' W w' → EntsAt w' va L from fun w' f => ha.kept f)
  have HG := toHid8 (fun w' (f : Fr None' W w') => great_any va n c L w' hl (ha.kept f) hn hx)
  have HGP := toHid8 (fun w' (f : Fr None' W w') => pgreat_any p _ _ w' (HO.out w' f) (HN.out w' f) lo ln)
  have HT := toHid8 (fun (h1 : weight L < 4000) w' (f : Fr None' W w') => eright_any va n c L w' hl (ha.kept f) (by have := (weight_smE h1).2.1; omega) (weight_smE h1).1)
  have HA := toHid8 (fun (h1 : weight L < 4000) (x : En) (hp : SmPr (lnP x p)) w' (f : Fr None' W w') => apply8_any va n c L (lnP x p) _ _ 4000 w' hl (ha.kept f) (by have := (weight_smE h1).2.1; omega) (weight_smE h1).1 (HO.out w' f) (HN.out w' f) (weight_smE h1).2.2 (by omega) hp)
  have HQ := toHid8 (fun (x : En) (hp : SmPr (lnP x p)) w' (f : Fr None' W w') => qright_any (lnP x p) _ _ w' (HO.out w' f) (HN.out w' f) hp.small)
  unfold GreatPost at HG
  unfold GreatP at HGP
  unfold ApplyPost8 at HA
  simp only [lnP] at HA HQ
  have HLen := toHid8 hl
  have H8 := toHid8 h8
  obtain ⟨w1, hw1⟩ : ∃ w1, W.alloc (.cells #[.int .i64 p.kind, .string p.path, .string p.dst, .string p.src, .int .i64 p.pos, .slice pa p.old.length ca, .slice pb p.new.length cb] 25) = w1 := ⟨_, rfl⟩
  have HF1 := toHid8 (show Fr None' W w1 from hw1 ▸ Fr.alloc None' W _)
  have HB := toHid8 (show Box w1 W.heap.size (.int .i64 p.kind) (.string p.path) (.string p.dst) (.string p.src) (.int .i64 p.pos) (.slice pa p.old.length ca) (.slice pb p.new.length cb) from hw1 ▸ Box.new W _ _ _ _ _ _ _)
  have q1 := head8_any w1
  clear ha hl hx h8 ho' hw' lo ln
  go_enter Tryz.func8, Tryz.ntmps8
  go_wp2_with fail
  with_reducible refine q1.mono ?_
  rintro e w2 ⟨rfl, f2⟩
  have HF2 := toHid8 (HF1.out.then7 f2)
  have HB2 := toHid8 (HB.out.kept f2)
  have q2 := HG.out w2 HF2.out
  clear q1 f2 HG HB HF1 hw1
  go_wp2_with fail
  with_reducible refine q2.mono ?_
  rintro e w3 ⟨g, rfl, hg, f3⟩
  have HF3 := toHid8 (HF2.out.then7 f3)
  have HB3 := toHid8 (HB2.out.kept f3)
  have HGf := toHid8 hg
  clear q2 f3 hg HF2 HB2
  cases g with
  | true =>
    go_wp2_with fail
    go_ret
    exact ⟨rfl, HF3.out⟩
  | false =>
    have HW := toHid8 (HGf.out rfl)
    obtain ⟨p0, p1, p2, p3, p4, p5, p6⟩ := HB3.out.cells
    have q3 := HGP.out w3 HF3.out
    clear HGf HGP
    go_wp2_with fail
    with_reducible refine q3.mono ?_
    rintro e w4 ⟨g, rfl, hg, f4⟩
    have HF4 := toHid8 (HF3.out.then7 f4)
    have HB4 := toHid8 (HB3.out.kept f4)
    have HGf := toHid8 hg
    clear q3 f4 hg HB3 HF3 p0 p1 p2 p3 p4 p5 p6
    cases g with
    | true =>
      go_wp2_with fail
      go_ret
      exact ⟨rfl, HF4.out⟩
    | false =>
      have HWP := toHid8 (HGf.out rfl)
      obtain ⟨rt, hrt⟩ : ∃ rt, treeRight L = rt := ⟨_, rfl⟩
      have q4 := HT.out HW.out w4 HF4.out
      rw [hrt] at q4
      have HRt := toHid8 hrt
      clear HGf HT hrt
      go_wp2_with fail
      with_reducible refine q4.mono ?_
      rintro e w5 ⟨rfl, f5⟩
      have HF5 := toHid8 (HF4.out.then7 f5)
      have HB5 := toHid8 (HB4.out.kept f5)
      clear q4 f5 HF4 HB4
      cases rt with
      | false =>
        go_wp2_with fail
        go_ret
        exact ⟨rfl, HF5.out⟩
      | true =>
        by_cases hn0 : n = 0
        · subst hn0
          go_wp2_with fail
          go_ret
          exact ⟨rfl, HF5.out⟩
        · have j0 : ¬ (n : Int) = 0 := by omega
          have j1 : ((n : Int) == 0) = false := by simpa using j0
          obtain ⟨K, hK⟩ : ∃ K : Nat, a % n = K := ⟨_, rfl⟩
          have hKk : K < n := by rw [← hK]; exact Nat.mod_lt _ (by omega)
          have hw64 : wrap64 (a : Int) = (a : Int) := by
            have := H8.out
            unfold wrap64
            omega
          have m1 : (wrap64 (a : Int)).tmod (n : Int) = (K : Int) := by rw [hw64, ← hK]; rfl
          have hKL : K < L.length := by rw [HLen.out]; exact hKk
          obtain ⟨g, o, rfl, vl, d0, d1, d2, d3, hs1⟩ := (HE.out w5 HF5.out).get hKL
          have hsz : L[K].path.size ≤ 4000 := by
            have h1 := weight_mem (List.getElem_mem hKL)
            have h2 := HW.out
            unfold En.weight at h1
            omega
          have HSm := toHid8 (ln_sm hsz (weight_smP HWP.out))
          have i7 : (0 : Int) ≤ (K : Int) := by omega
          have i8 : (K : Int) < (n : Int) := by omega
          have hgW : g < W.heap.size := by
            obtain ⟨g', o', e', vl', c0, _⟩ := (HE.out W (Fr.refl _ _)).get hKL
            cases e'
            rcases Nat.lt_or_ge g W.heap.size with h | h
            · exact h
            · rw [World.cell?, Array.getElem?_eq_none h] at c0; cases c0
          have HgW := toHid8 hgW
          obtain ⟨pth, hpth⟩ : ∃ x, L[K].path = x := ⟨_, rfl⟩
          rw [hpth] at d0
          obtain ⟨b, hb⟩ : ∃ b, W.heap.size = b := ⟨_, rfl⟩
          obtain ⟨wa, hwa⟩ : ∃ x, w5.setCell ⟨b, 0, none⟩ (.int .i64 7) = x := ⟨_, rfl⟩
          obtain ⟨wb, hwb⟩ : ∃ x, wa.setCell ⟨b, 1, none⟩ (.string pth) = x := ⟨_, rfl⟩
          obtain ⟨wc, hwc⟩ : ∃ x, wb.setCell ⟨b, 2, none⟩ (.string ⟨#[]⟩) = x := ⟨_, rfl⟩
          obtain ⟨w6, hw6⟩ : ∃ x, wc.setCell ⟨b, 3, none⟩ (.string ⟨#[]⟩) = x := ⟨_, rfl⟩
          have HB5' := HB5.out
          rw [hb] at HB5' ⊢
          have Ba := hwa ▸ HB5'.set0 (.int .i64 7)
          have Bb := hwb ▸ Ba.set1 (.string pth)
          have Bc := hwc ▸ Bb.set2 (.string ⟨#[]⟩)
          have B6 := hw6 ▸ Bc.set3 (.string ⟨#[]⟩)
          have fa : Fr (fun k => k = b) w5 wa := hwa ▸ Fr.setQ _ _ _ _
          have f6 : Fr (fun k => k = b) w5 w6 := ((fa.then (hwb ▸ Fr.setQ _ _ _ _)).then (hwc ▸ Fr.setQ _ _ _ _)).then (hw6 ▸ Fr.setQ _ _ _ _)
          have da : wa.cell? ⟨g, o + K * 4, none⟩ = some (.string pth) := fa.keepCell d0 (fun e => by have e' : g = b := e; omega)
          have z5 := HB5'.frozen
          have za := Ba.frozen
          have zb := Bb.frozen
          have zc := Bc.frozen
          have x5 := HB5'.cells.1
          have xa := Ba.cells.2.1
          have xb := Bb.cells.2.2.1
          have xc := Bc.cells.2.2.2.1
          obtain ⟨p0, p1, p2, p3, p4, p5, p6⟩ := B6.cells
          have HF6 := toHid8 (show Fr None' W w6 from HF5.out.trans f6 (fun i e => Or.inr (by omega)))
          have HB6 := toHid8 B6
          have q5 := HQ.out L[K] HSm.out w6 HF6.out
          rw [hpth] at q5
          obtain ⟨rp, hrp⟩ : ∃ r, rightP (lnP L[K] p) = r := ⟨_, rfl⟩
          have hrp' := hrp
          simp only [lnP, hpth] at hrp'
          rw [hrp'] at q5
          have HRp := toHid8 hrp
          have HPth := toHid8 hpth
          clear hrp hrp' hpth fa f6 Ba Bb Bc B6 HB5' hgW d1 d2 d3 hs1 hsz hw64 hK hKk HB5
          go_wp2_with fail
          with_reducible refine q5.mono ?_
          rintro e w7 ⟨rfl, f7⟩
          have HF7 := toHid8 (HF6.out.then7 f7)
          have HB7 := toHid8 (HB6.out.kept f7)
          clear q5 f7 HF6 HB6 p0 p1 p2 p3 p4 p5 p6 z5 za zb zc x5 xa xb xc da d0 hwa hwb hwc hw6 m1
          cases rp with
          | false =>
            go_wp2_with fail
            go_ret
            exact ⟨rfl, HF7.out⟩
          | true =>
            have hln := ln_all HRt.out hKL HRp.out
            have hlnA := hln
            have HLn := toHid8 (show L[K].lines.length ≤ 40000 from by
              have h1 := weight_mem (List.getElem_mem hKL)
              have h2 := HW.out
              unfold En.weight at h1
              omega)
            have q6 := HA.out HW.out L[K] HSm.out w7 HF7.out
            simp only [lnP] at hln
            rw [hln, HPth.out] at q6
            obtain ⟨p0, p1, p2, p3, p4, p5, p6⟩ := HB7.out.cells
            clear hln HA
            by_cases hk2 : L[K].kind = 2
            · rw [if_neg (by simpa using hk2)] at q6
              obtain ⟨R, hR⟩ : ∃ R, hunkL L[K].lines p.pos p.old p.new = R := ⟨_, rfl⟩
              rw [hR] at q6
              have HRu := toHid8 hR
              have HPos := toHid8 (lines_pos HRp.out rfl)
              cases R with
              | none =>
                simp only at q6
                go_wp2_with fail
                with_reducible refine q6.mono ?_
                rintro e w8 ⟨v8, c8, rfl, HE8, _, f8⟩
                have HF8 := toHid8 (HF7.out.then7 f8)
                obtain ⟨p0, p1, p2, p3, p4, p5, p6⟩ := (HB7.out.kept f8).cells
                obtain ⟨g', o', e', vl', d0, d1, d2, d3, hsl⟩ := (HE.out w8 HF8.out).get hKL
                cases e'
                obtain ⟨ul, uc, rfl, hsl'⟩ := hsl
                have HD := toHid8 (show ∀ w', Fr None' w8 w' → Calls Tryz.prog 26 #[.slice ul L[K].lines.length uc, .agg #[.int .i64 p.pos, .slice pa p.old.length ca, .slice pb p.new.length cb]] w' fun e w'' => ∃ (va9 : Option Addr) (m9 c9 : Nat), e = .returned (.tuple #[.slice va9 m9 c9, .bool false]) ∧ Hid (∀ l', (none : Option (List ByteArray)) = some l' → StrsAt w'' (.slice va9 m9 c9) l') ∧ Fr None' w8 w'' from fun w' f => by
                  refine (rdapply_any L[K].lines p.old p.new p.pos ul L[K].lines.length uc pa pb p.old.length p.new.length ca cb w' (StrsAt.kept ⟨ul, uc, rfl, hsl'⟩ f) (HO.out w' (HF8.out.then7 f)) (HN.out w' (HF8.out.then7 f)) HLn.out (by have := (weight_smP HWP.out).old; omega) (by have := (weight_smP HWP.out).new; omega) HPos.out).mono ?_
                  rintro e w'' ⟨va9, m9, c9, b9, rfl, Hb, HS9, f9⟩
                  rw [HRu.out] at Hb HS9
                  obtain rfl : false = b9 := Hb.out.symm
                  exact ⟨va9, m9, c9, rfl, HS9.out, f.then7 f9⟩)
                rw [hk2] at d1
                have HI := toHid8 (show ∀ w', Fr None' w8 w' → Fr None' w8 w' ∧ w'.cell? ⟨g, o + K * 4 + 2, none⟩ = some (.slice ul L[K].lines.length uc) ∧ w'.cell? ⟨b, 4, none⟩ = some (.int .i64 p.pos) ∧ w'.cell? ⟨b, 5, none⟩ = some (.slice pa p.old.length ca) ∧ w'.cell? ⟨b, 6, none⟩ = some (.slice pb p.new.length cb) from fun w' f => ⟨f, f.keepCell d2 (fun e => e), f.keepCell p4 (fun e => e), f.keepCell p5 (fun e => e), f.keepCell p6 (fun e => e)⟩)
                clear q6 f8 HF7 HB7 hsl' p0 p1 p2 p3 p4 p5 p6 d0 d2 d3
                go_wp2_with fail
                go_region_held3 (fun w' => Fr None' w8 w' ∧ w'.cell? ⟨g, o + K * 4 + 2, none⟩ = some (.slice ul L[K].lines.length uc) ∧ w'.cell? ⟨b, 4, none⟩ = some (.int .i64 p.pos) ∧ w'.cell? ⟨b, 5, none⟩ = some (.slice pa p.old.length ca) ∧ w'.cell? ⟨b, 6, none⟩ = some (.slice pb p.new.length cb))
                  (exact HI.out _ (by first | assumption | exact Fr.drew None' w8 | exact Fr.refl _ _ | exact Fr.then7 (by assumption) (Fr.drew None' _)))
                  (first
                    | (go_at_call 26; with_reducible (refine (HD.out _ (by first | assumption | exact Fr.drew None' w8 | exact Fr.refl _ _)).mono ?_); rintro e w9 ⟨va9, m9, c9, rfl, HS9, f9⟩))
                have HF9 := toHid8 (HF8.out.then7 f9)
                clear d1
                go_wp2_with fail
                go_ret
                exact ⟨rfl, HF9.out⟩
              | some l' =>
                have HLnA := toHid8 (show allE L [lnP L[K] p] = (L.set K ⟨L[K].path, L[K].kind, l', L[K].data⟩, 0, 0) from by rw [hlnA, if_neg (by simpa using hk2), hR])
                simp only at q6
                go_wp2_with fail
                with_reducible refine q6.mono ?_
                rintro e w8 ⟨v8, c8, rfl, HE8, _, f8⟩
                have HF8 := toHid8 (HF7.out.then7 f8)
                obtain ⟨p0, p1, p2, p3, p4, p5, p6⟩ := (HB7.out.kept f8).cells
                obtain ⟨g', o', e', vl', d0, d1, d2, d3, hsl⟩ := (HE.out w8 HF8.out).get hKL
                cases e'
                obtain ⟨ul, uc, rfl, hsl'⟩ := hsl
                have HD := toHid8 (show ∀ w', Fr None' w8 w' → Calls Tryz.prog 26 #[.slice ul L[K].lines.length uc, .agg #[.int .i64 p.pos, .slice pa p.old.length ca, .slice pb p.new.length cb]] w' fun e w'' => ∃ (va9 : Option Addr) (m9 c9 : Nat), e = .returned (.tuple #[.slice va9 m9 c9, .bool true]) ∧ Hid (∀ l'', some l' = some l'' → StrsAt w'' (.slice va9 m9 c9) l'') ∧ Fr None' w8 w'' from fun w' f => by
                  refine (rdapply_any L[K].lines p.old p.new p.pos ul L[K].lines.length uc pa pb p.old.length p.new.length ca cb w' (StrsAt.kept ⟨ul, uc, rfl, hsl'⟩ f) (HO.out w' (HF8.out.then7 f)) (HN.out w' (HF8.out.then7 f)) HLn.out (by have := (weight_smP HWP.out).old; omega) (by have := (weight_smP HWP.out).new; omega) HPos.out).mono ?_
                  rintro e w'' ⟨va9, m9, c9, b9, rfl, Hb, HS9, f9⟩
                  rw [HRu.out] at Hb HS9
                  obtain rfl : true = b9 := Hb.out.symm
                  exact ⟨va9, m9, c9, rfl, HS9.out, f.then7 f9⟩)
                rw [hk2] at d1
                have HI := toHid8 (show ∀ w', Fr None' w8 w' → Fr None' w8 w' ∧ w'.cell? ⟨g, o + K * 4 + 2, none⟩ = some (.slice ul L[K].lines.length uc) ∧ w'.cell? ⟨b, 4, none⟩ = some (.int .i64 p.pos) ∧ w'.cell? ⟨b, 5, none⟩ = some (.slice pa p.old.length ca) ∧ w'.cell? ⟨b, 6, none⟩ = some (.slice pb p.new.length cb) from fun w' f => ⟨f, f.keepCell d2 (fun e => e), f.keepCell p4 (fun e => e), f.keepCell p5 (fun e => e), f.keepCell p6 (fun e => e)⟩)
                clear q6 f8 HF7 HB7 hsl' p0 p1 p2 p3 p4 p5 p6 d0 d2 d3
                go_wp2_with fail
                go_region_held3 (fun w' => Fr None' w8 w' ∧ w'.cell? ⟨g, o + K * 4 + 2, none⟩ = some (.slice ul L[K].lines.length uc) ∧ w'.cell? ⟨b, 4, none⟩ = some (.int .i64 p.pos) ∧ w'.cell? ⟨b, 5, none⟩ = some (.slice pa p.old.length ca) ∧ w'.cell? ⟨b, 6, none⟩ = some (.slice pb p.new.length cb))
                  (exact HI.out _ (by first | assumption | exact Fr.drew None' w8 | exact Fr.refl _ _ | exact Fr.then7 (by assumption) (Fr.drew None' _)))
                  (first
                    | (go_at_call 26; with_reducible (refine (HD.out _ (by first | assumption | exact Fr.drew None' w8 | exact Fr.refl _ _)).mono ?_); rintro e w9 ⟨va9, m9, c9, rfl, HS9, f9⟩))
                have HF9 := toHid8 (HF8.out.then7 f9)
                have sl9 := HS9.out l' rfl
                obtain ⟨wA, hwA⟩ : ∃ x, w9.alloc (.cells #[] 41) = x := ⟨_, rfl⟩
                have FA : Fr None' w9 wA := hwA ▸ Fr.alloc None' w9 _
                have own0 : OwnE w9.heap.size w9 wA (.slice (some ⟨w9.heap.size, 0, none⟩) 0 0) [] [] := ⟨rfl, ⟨rfl, Or.inr ⟨w9.heap.size, 0, #[], rfl, Nat.le_refl _, by rw [← hwA]; exact heap_alloc_new w9 _, Nat.le_refl _, by decide, rfl, rfl⟩⟩, fun k x vl e => by simp at e⟩
                obtain ⟨vB, U, wB, hrB, OB, fB⟩ := own0.appendAll (c := c) (m := n) HLen.out (HE.out w9 HF9.out) FA (by have := (weight_smE HW.out).2.1; have := HLen.out; simp; omega) FA.size
                have FB : Fr None' w9 wB := FA.trans fB (fun i e => Or.inr (by cases e; exact Nat.le_refl _))
                rw [List.nil_append] at OB
                obtain ⟨uB, cB, hvB, _, _, EB, _⟩ := OB.slice FB
                obtain ⟨gB, oB, rfl, vk, k0, k1, k2, k3, ks⟩ := EB.get hKL
                have hz : (∀ o, wB.frozen? ⟨gB, o, none⟩ = false) ∧ w9.heap.size ≤ gB := by
                  rcases OB.row.2 with ⟨h, e⟩ | ⟨g2, cap, cur, h, hb2, hh, _⟩
                  · rw [hvB] at h; cases h
                  · rw [hvB] at h; cases h; exact ⟨row_frz hh, hb2⟩
                rw [HLen.out] at hvB
                subst hvB
                obtain ⟨pk, ck, rfl, _⟩ := ks
                obtain ⟨wC, hwC⟩ : ∃ x, wB.setCell ⟨gB, oB + K * 4 + 2, none⟩ (.slice va9 m9 c9) = x := ⟨_, rfl⟩
                have EC : EntsAt wC (some ⟨gB, oB, none⟩) (L.set K ⟨L[K].path, L[K].kind, l', L[K].data⟩) := hwC ▸ ents_set hKL EB (sl9.kept FB)
                have fC : Fr (fun k => k = gB) wB wC := hwC ▸ Fr.setQ _ _ _ _
                have F9C : Fr None' w9 wC := FB.trans fC (fun i e => Or.inr (by have e' : i = gB := e; omega))
                have HFC := toHid8 (HF9.out.then7 F9C)
                obtain ⟨t1, t2, t3, _, _⟩ := all_stepE HLnA.out (weight_smE HW.out).2.2 HSm.out
                obtain ⟨z1, z2⟩ := tree_small t2 t3 (by omega)
                have q8 := esame_any v8 (some ⟨gB, oB, none⟩) n c8 cB (L.set K ⟨L[K].path, L[K].kind, l', L[K].data⟩) wC (by rw [List.length_set, HLen.out]) (by rw [HPth.out]; exact HE8.out.kept (f9.then7 F9C)) EC (by have := z2; rw [List.length_set] at this; have := HLen.out; omega) z1
                have HRB := toHid8 (show (Builtin.append_ #[22, 22] 22 #[.slice (some ⟨w9.heap.size, 0, none⟩) 0 0, .slice (some ⟨g, o, none⟩) n c]).run Tryz.prog wA = .ok (.slice (some ⟨gB, oB, none⟩) n cB) wB from hrB)
                have hz1 := hz.1
                clear d1 t1 t2 t3 z1 z2 fC F9C EC FB fB FA own0 OB EB hrB sl9 f9 hz k0 k1 k3
                simp only [HLen.out]
                go_wp2_with (at_builtin
                             refine app_list8 rfl _ _ rfl rfl rfl HRB.out ?_)
                with_reducible refine q8.mono ?_
                rintro e wD ⟨rfl, fD⟩
                have HFD := toHid8 (HFC.out.then7 fD)
                clear q8 fD
                go_wp2_with fail
                go_ret
                exact ⟨rfl, HFD.out⟩
            · rw [if_pos hk2] at q6
              go_wp2_with fail
              with_reducible refine q6.mono ?_
              rintro e w8 ⟨v8, c8, rfl, _, _, f8⟩
              have HF8 := toHid8 (HF7.out.then7 f8)
              obtain ⟨g', o', e', vl', d0, d1, d2, d3, _⟩ := (HE.out w8 HF8.out).get hKL
              cases e'
              obtain ⟨kd, hkd⟩ : ∃ x, L[K].kind = x := ⟨_, rfl⟩
              rw [hkd] at d1 hk2
              have hk3 : (kd == 2) = false := by simpa using hk2
              clear q6 f8 HF7 HB7 p0 p1 p2 p3 p4 p5 p6 d0 d2 d3 hkd
              go_wp2_with fail
              go_ret
              exact ⟨rfl, HF8.out⟩

end Go.Proofs.YtjpgpbfnmokmiaaGreatDoor
