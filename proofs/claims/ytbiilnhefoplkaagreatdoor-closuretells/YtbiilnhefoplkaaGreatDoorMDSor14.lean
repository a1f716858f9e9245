/-
  What is proved here: what the document's Sorted hands back. Conditions: the patches lie in memory, and are of bounded size.
-/
import Derived.Test.YtbiilnhefoplkaaGreatDoorM27StrQ14
import Derived.Test.YtbiilnhefoplkaaGreatDoorMDRig13
namespace Go.Proofs.YtbiilnhefoplkaaGreatDoor
open Go.RowKit Go.Maps Go.WideMaps
set_option maxRecDepth 100000

theorem OwnA.base14 {b b' : Nat} {w : World} {v : Value} {Z : List Pv} (h : OwnA b w v Z) (hb : b' ≤ b) : OwnA b' w v Z :=
  ⟨⟨h.row.1, h.row.2.imp id (fun ⟨g, cap, cur, hv, hg, r⟩ => ⟨g, cap, cur, hv, Nat.le_trans hb hg, r⟩)⟩, h.stay⟩

/-- A patch is put behind a row of the call's own: its box, and the row then. -/
theorem OwnA.more14 {base : Nat} {w0 w : World} {v : Value} {Y : List Pv} (h : OwnA base w v Y) (hF : Fr None' w0 w) (hb : base ≤ w0.heap.size) (hge : w0.heap.size ≤ base) {c : Pv} (hin : PvIn w0 c) (hn : Y.length ≤ 1000000) :
    ∃ v' w', (Builtin.append_ #[22, 22] 22 #[v, .slice (some ⟨w.heap.size, 0, none⟩) 1 1]).run Tryz.prog (w.alloc (.cells #[.string c.x.name, .slice c.pu c.x.deps.length c.cu, .slice c.pb c.x.body.length c.cb] 36)) = .ok v' w' ∧ OwnA base w' v' (Y ++ [c]) ∧ Fr None' w0 w' := by
  have F5 : Fr None' w (w.alloc (.cells #[.string c.x.name, .slice c.pu c.x.deps.length c.cu, .slice c.pb c.x.body.length c.cb] 36)) := Fr.alloc None' w _
  have hown := h.fr F5
  have hgo : ∀ j, v.ownBlock = some j → w0.heap.size ≤ j := fun j e => Nat.le_trans hge (h.own e).1
  obtain ⟨v6, w6, hr6, hO6, f6⟩ := hown.push (Box3.new w _ _ _) (fun w' f => hin.kept ((hF.then7 F5).trans f (fun i e => Or.inr (hgo i e)))) hn (by have h1 := hF.size; have h2 := F5.size; omega)
  exact ⟨v6, w6, hr6, hO6, (hF.then7 F5).trans f6 (fun i e => Or.inr (hgo i e))⟩

set_option maxHeartbeats 8000000 in
theorem dsorted14_any (va : Option Addr) (n c : Nat) (Z : List Pv) (w : World) (hn : Z.length = n) (hr : RowV w va Z) (hN : n ≤ 1000000) (hs : ∀ d ∈ Z, SmallPa d.x) :
    Calls Tryz.prog 10 #[.slice va n c] w fun e w' => DSoPost w (setV Z) e w' := by
  have HL := toHid8 hn
  have HRow := toHid8 hr
  have HS := toHid8 hs
  have i0 : (n : Int) ≤ 1000000 := by omega
  by_cases hbig : n ≤ 256
  case neg =>
    have hz : setV Z = none := by unfold setV; rw [if_neg (by rw [HL.out]; exact hbig)]
    rw [hz]
    have i1 : (256 : Int) < (n : Int) := by omega
    clear hn hr hN hs hbig hz
    go_enter Tryz.func10, Tryz.ntmps10
    go_wp2_with fail
    go_ret2
    exact ⟨fun T e => (by cases e), fun _ => rfl, Fr.refl _ _⟩
  case pos =>
    have hz : setV Z = setGo [] Z := by unfold setV; rw [if_pos (by rw [HL.out]; exact hbig)]
    rw [hz]
    have i1 : ¬ (256 : Int) < (n : Int) := by omega
    have i2 : (n : Int) ≤ 256 := by omega
    clear hn hr hN hs hbig hz
    go_enter Tryz.func10, Tryz.ntmps10
    go_wp2_with fail
    go_loopw [4, 5] (fun vo vi wr => ∃ (k : Nat) (T : List (Kv Pv)), k ≤ n ∧ vi = .int .i64 k ∧ Hid (SoAt Z k T) ∧ Hid (OwnA w.heap.size wr vo (T.map (·.2))) ∧ Hid (Fr None' w wr)) (fun _ vi _ => n - (intOf vi).toNat)
    case atStart => exact ⟨0, [], Nat.zero_le _, rfl, SoAt.start Z, OwnA.nil _ _, Fr.refl _ _⟩
    case round =>
      obtain ⟨k, T, hk, rfl, HSo, HO, HF⟩ := hrel
      by_cases hlt : k < n
      case neg =>
        have hkn : k = Z.length := by have := HL.out; omega
        have HEnd := toHid8 (SoAt.end (hkn ▸ HSo.out))
        have i3 : ¬ (k : Int) < (n : Int) := by omega
        clear hlt hkn
        go_wp2_with fail
        go_ret2
        refine ⟨fun T' e => ?_, fun e => (by rw [HEnd.out] at e; cases e), HF.out⟩
        rw [HEnd.out] at e
        injection e with e
        subst e
        exact ⟨_, rfl, HO.out⟩
      case pos =>
        have hka : k < Z.length := by rw [HL.out]; exact hlt
        obtain ⟨wo, hwo⟩ : ∃ y, y = wr := ⟨_, rfl⟩
        obtain ⟨g, o, rfl, c0, c1, c2, hin⟩ := HRow.out.kept HF.out k _ (List.getElem?_eq_getElem hka)
        have hin0 : PvIn w Z[k] := by obtain ⟨_, _, _, _, _, _, h⟩ := HRow.out k _ (List.getElem?_eq_getElem hka); exact h
        have HNo := toHid8 (fun h => HSo.out.no hka h)
        have HYes := toHid8 (fun h1 h2 => HSo.out.yes hka h1 h2)
        have HSm := toHid8 (HS.out _ (List.getElem_mem hka))
        obtain ⟨d, hd⟩ : ∃ d, Z[k] = d := ⟨_, rfl⟩
        rw [hd] at c0 c1 c2 hin hin0 HNo HYes HSm
        have q1 := dnright_any d.x (.slice d.pu d.x.deps.length d.cu) d.pb d.x.body.length d.cb wr rfl hin.deps hin.body HSm.out
        have HIn := toHid8 hin0
        obtain ⟨r, hr0⟩ : ∃ r, rightPa d.x = r := ⟨_, rfl⟩
        rw [hr0] at q1 HNo HYes
        obtain ⟨nd, hnd⟩ : ∃ y, d.x.deps.length = y := ⟨_, rfl⟩
        obtain ⟨nb, hnb⟩ : ∃ y, d.x.body.length = y := ⟨_, rfl⟩
        obtain ⟨N, hNm⟩ : ∃ y, d.x.name = y := ⟨_, rfl⟩
        have HEq := toHid8 (And.intro hNm (And.intro hnd hnb))
        rw [hnd] at c1 q1
        rw [hnb] at c2 q1
        rw [hNm] at c0 q1 HNo HYes
        have HC := toHid8 (fun w' (f : Fr None' wr w') => And.intro (f.keepCell c0 (fun e => e)) (And.intro (f.keepCell c1 (fun e => e)) (f.keepCell c2 (fun e => e))))
        have i3 : (k : Int) < (n : Int) := by omega
        have i4 : (0 : Int) ≤ (k : Int) := by omega
        have HLt := toHid8 hlt
        clear hka hin hin0 hd hr0 hnd hnb hNm hlt hwo
        go_wp2_with fail
        refine q1.mono ?_
        rintro e w1 ⟨rfl, f1⟩
        have HF1 := toHid8 f1
        clear q1 f1
        cases r with
        | false =>
          have HNone := toHid8 (HNo.out (Or.inr rfl))
          go_wp2_with fail
          go_ret2
          exact ⟨fun T e => (by rw [HNone.out] at e; cases e), fun _ => rfl, HF.out.then7 HF1.out⟩
        | true =>
          have HO1 := toHid8 (HO.out.fr HF1.out)
          obtain ⟨v1, cc1, hv1, -, hrw⟩ := HO1.out.rows
          obtain ⟨m, hm⟩ : ∃ m, (T.map (·.2)).length = m := ⟨_, rfl⟩
          rw [hm] at hv1
          have HMl := toHid8 (show T.length = m from by rw [← hm, List.length_map])
          have HRw := toHid8 hrw
          have hmk : m ≤ 256 := by have h1 := HMl.out; have h2 := HSo.out.len; omega
          have i5 : (m : Int) ≤ 256 := by omega
          have HM := toHid8 hmk
          subst hv1
          obtain ⟨c0, c1, c2⟩ := HC.out w1 HF1.out
          clear hrw hm hmk
          go_wp2_with fail
          go_loopw [6, 7, 8] (fun vn vd vj w2 => ∃ (j : Nat) (b : Bool) (L : List (Kv Pv)), j ≤ m ∧ vj = .int .i64 j ∧ vd = .bool b ∧ Hid (InsV (unB N) d (T.take j) L b) ∧ Hid (OwnA w1.heap.size w2 vn (L.map (·.2))) ∧ Hid (Fr None' w1 w2)) (fun _ _ vj _ => m - (intOf vj).toNat)
          case atStart => exact ⟨0, false, [], Nat.zero_le _, rfl, rfl, InsV.nil _ _, OwnA.nil _ _, Fr.refl _ _⟩
          case round =>
            obtain ⟨j, b, L, hj, rfl, rfl, HI, HX, HF2⟩ := hrel
            have HLl := toHid8 (show L.length ≤ 1000 from by have h1 := HI.out.len; rw [List.length_take] at h1; have := HM.out; omega)
            obtain ⟨c0, c1, c2⟩ := HC.out wr (HF1.out.then7 HF2.out)
            have HInw1 := toHid8 (HIn.out.kept (HF.out.then7 HF1.out))
            by_cases hjt : j < m
            case neg =>
              have i6 : ¬ (j : Int) < (m : Int) := by omega
              have hjm : T.take j = T := List.take_of_length_le (by rw [HMl.out]; omega)
              have hI := HI.out
              rw [hjm] at hI
              have HGn := toHid8 (HYes.out hI.none trivial)
              cases b with
              | true =>
                have hL := hI.end1 HSo.out.rise
                rw [← hL] at HGn
                clear hI hL hjm hjt
                go_wp2_with fail
                exact ⟨⟨k + 1, L, by have := HLt.out; omega, by go_num, HGn.out, HX.out.base14 (by have h1 := HF.out.size; have h2 := HF1.out.size; omega), (HF.out.then7 HF1.out).then7 HF2.out⟩, by simp [intOf]; have := HLt.out; omega⟩
              | false =>
                have hL := hI.end0 HSo.out.rise
                rw [← hL] at HGn
                obtain ⟨v6, w6, hr6, hO6, hF6⟩ := HX.out.more14 HF2.out (Nat.le_refl _) (Nat.le_refl _) HInw1.out (by rw [List.length_map]; have := HLl.out; omega)
                rw [HEq.out.1, HEq.out.2.1, HEq.out.2.2] at hr6
                have HO6 := toHid8 hO6
                have HF6 := toHid8 hF6
                clear hI hL hjm hjt hO6 hF6
                go_wp2_with (at_builtin; refine app_list9 rfl _ _ rfl rfl rfl hr6 ?_)
                exact ⟨⟨k + 1, _, by have := HLt.out; omega, by go_num, HGn.out, by
                  have h := HO6.out.base14 (b' := w.heap.size) (by have h1 := HF.out.size; have h2 := HF1.out.size; omega)
                  rw [List.map_append]
                  exact h, (HF.out.then7 HF1.out).then7 HF6.out⟩, by simp [intOf]; have := HLt.out; omega⟩
            case pos =>
              have hjT : j < T.length := by rw [HMl.out]; exact hjt
              have hjM : j < (T.map (·.2)).length := by rw [List.length_map]; exact hjT
              obtain ⟨g1, o1, hv, e0, e1, e2, hin1⟩ := HRw.out j _ (List.getElem?_eq_getElem hjM)
              subst hv
              rw [List.getElem_map] at e0 e1 e2
              have hin2 : PvIn w1 T[j].2 := by obtain ⟨_, _, _, _, _, _, h⟩ := HRw.out j _ (List.getElem?_eq_getElem hjM); rw [List.getElem_map] at h; exact h
              have hkey := (HSo.out.mem _ (List.getElem_mem hjT)).2
              have htk : T.take (j + 1) = T.take j ++ [T[j]] := List.take_succ_eq_append_getElem hjT
              have hris : RiseM (T.take j ++ [T[j]]) := by
                rw [← htk]
                have h := HSo.out.rise
                unfold RiseM at h ⊢
                rw [List.map_take]
                exact h.sublist (List.take_sublist _ _)
              have hget : T[j].1 = unB N → (getM T (unB N)).isSome = true := fun e => by rw [← e, HSo.out.rise.get (List.getElem_mem hjT)]; rfl
              obtain ⟨y, hy⟩ : ∃ y, T[j] = y := ⟨_, rfl⟩
              rw [hy] at e0 e1 e2 hin2 hkey htk hris hget
              obtain ⟨n1, hn1⟩ : ∃ z, y.2.x.deps.length = z := ⟨_, rfl⟩
              obtain ⟨n2, hn2⟩ : ∃ z, y.2.x.body.length = z := ⟨_, rfl⟩
              obtain ⟨P1, hP1⟩ : ∃ z, y.2.x.name = z := ⟨_, rfl⟩
              have HEq1 := toHid8 (And.intro hP1 (And.intro hn1 hn2))
              rw [hP1] at e0 hkey
              rw [hn1] at e1
              rw [hn2] at e2
              have HKey := toHid8 hkey
              have HTk := toHid8 htk
              have HRis := toHid8 hris
              have HGet := toHid8 hget
              have HIn2 := toHid8 hin2
              have HC1 := toHid8 (fun w' (f : Fr None' w1 w') => And.intro (f.keepCell e0 (fun e => e)) (And.intro (f.keepCell e1 (fun e => e)) (f.keepCell e2 (fun e => e))))
              obtain ⟨e0, e1, e2⟩ := HC1.out wr HF2.out
              have i6 : (j : Int) < (m : Int) := by omega
              have i7 : (0 : Int) ≤ (j : Int) := by omega
              have HJt := toHid8 hjt
              clear hjT hjM hin1 hin2 hkey htk hris hget hy hn1 hn2 hP1 hjt
              by_cases he : P1 = N
              case pos =>
                subst he
                have HNone := toHid8 (HNo.out (Or.inl (HGet.out HKey.out)))
                go_wp2_with fail
                go_quiet (fail)
                go_wp2_with fail
                go_ret2
                exact ⟨fun T e => (by rw [HNone.out] at e; cases e), fun _ => rfl, (HF.out.then7 HF1.out).then7 (HF2.out.then7 (Fr.drewN None' wr nq))⟩
              case neg =>
                obtain ⟨s1, s2⟩ := Lines.str_no he
                have HNe := toHid8 he
                clear he
                go_wp2_with fail
                go_quiet (fail)
                have FX := Fr.drewN None' wr nq
                generalize wr.drewN nq = wX at FX ⊢
                have HFX := toHid8 (HF2.out.then7 FX)
                obtain ⟨c0, c1, c2⟩ := HC.out wX (HF1.out.then7 HFX.out)
                obtain ⟨e0, e1, e2⟩ := HC1.out wX HFX.out
                have hlo : ¬ unB N < unB P1 → unB P1 < unB N := fun h => Decidable.byContradiction fun h2 => HNe.out (unB_inj (List.le_antisymm (List.not_lt.1 h) (List.not_lt.1 h2)))
                cases b with
                | false =>
                  by_cases hgt : unB N < unB P1
                  case pos =>
                    have hg : Op.bytesLess P1.toList N.toList = false := by rw [less_13, decide_eq_false (fun e => List.lt_irrefl _ (List.lt_trans hgt e))]
                    have hI3 := HI.out.above (y := y) (by rw [HKey.out]; exact hgt)
                    rw [← HTk.out] at hI3
                    have HI3 := toHid8 hI3
                    clear hgt hlo hI3
                    go_wp2_with fail
                    go_quiet (fail)
                    have FY := Fr.drewN None' wX nq
                    generalize wX.drewN nq = wY at FY ⊢
                    have HFY := toHid8 (HFX.out.then7 FY)
                    obtain ⟨c0, c1, c2⟩ := HC.out wY (HF1.out.then7 HFY.out)
                    obtain ⟨e0, e1, e2⟩ := HC1.out wY HFY.out
                    obtain ⟨v6, w6, hr6, hO6, hF6⟩ := (HX.out.fr (FX.then7 FY)).more14 HFY.out (Nat.le_refl _) (Nat.le_refl _) HInw1.out (by rw [List.length_map]; have := HLl.out; omega)
                    rw [HEq.out.1, HEq.out.2.1, HEq.out.2.2] at hr6
                    obtain ⟨e0, e1, e2⟩ := HC1.out w6 hF6
                    obtain ⟨v7, w7, hr7, hO7, hF7⟩ := hO6.more14 hF6 (Nat.le_refl _) (Nat.le_refl _) HIn2.out (by rw [List.length_append, List.length_map]; have := HLl.out; simp; omega)
                    rw [HEq1.out.1, HEq1.out.2.1, HEq1.out.2.2] at hr7
                    have HO7 := toHid8 hO7
                    have HF7 := toHid8 hF7
                    clear hO6 hF6 hO7 hF7 FX FY
                    go_wp2_with (at_builtin; first | refine app_list9 rfl _ _ rfl rfl rfl hr6 ?_ | refine app_list9 rfl _ _ rfl rfl rfl hr7 ?_)
                    exact ⟨⟨j + 1, true, _, by have := HJt.out; omega, by go_num, rfl, HI3.out, by rw [List.map_append, List.map_append]; exact HO7.out, HF7.out⟩, by simp [intOf]; have := HJt.out; omega⟩
                  case neg =>
                    have hg : Op.bytesLess P1.toList N.toList = true := by rw [less_13, decide_eq_true (hlo hgt)]
                    have hI3 := HI.out.less (y := y) (by rw [HKey.out]; exact hlo hgt)
                    rw [← HTk.out] at hI3
                    have HI3 := toHid8 hI3
                    clear hgt hlo hI3
                    go_wp2_with fail
                    go_quiet (fail)
                    have FY := Fr.drewN None' wX nq
                    generalize wX.drewN nq = wY at FY ⊢
                    have HFY := toHid8 (HFX.out.then7 FY)
                    obtain ⟨c0, c1, c2⟩ := HC.out wY (HF1.out.then7 HFY.out)
                    obtain ⟨e0, e1, e2⟩ := HC1.out wY HFY.out
                    obtain ⟨v7, w7, hr7, hO7, hF7⟩ := (HX.out.fr (FX.then7 FY)).more14 HFY.out (Nat.le_refl _) (Nat.le_refl _) HIn2.out (by rw [List.length_map]; have := HLl.out; omega)
                    rw [HEq1.out.1, HEq1.out.2.1, HEq1.out.2.2] at hr7
                    have HO7 := toHid8 hO7
                    have HF7 := toHid8 hF7
                    clear hO7 hF7 FX FY
                    go_wp2_with (at_builtin; refine app_list9 rfl _ _ rfl rfl rfl hr7 ?_)
                    exact ⟨⟨j + 1, false, _, by have := HJt.out; omega, by go_num, rfl, HI3.out, by rw [List.map_append]; exact HO7.out, HF7.out⟩, by simp [intOf]; have := HJt.out; omega⟩
                | true =>
                  have hI3 := (HI.out.done HRis.out).1
                  rw [← HTk.out] at hI3
                  have HI3 := toHid8 hI3
                  clear hlo hI3
                  go_wp2_with fail
                  go_quiet (fail)
                  have FY := Fr.drewN None' wX nq
                  generalize wX.drewN nq = wY at FY ⊢
                  have HFY := toHid8 (HFX.out.then7 FY)
                  obtain ⟨c0, c1, c2⟩ := HC.out wY (HF1.out.then7 HFY.out)
                  obtain ⟨e0, e1, e2⟩ := HC1.out wY HFY.out
                  obtain ⟨v7, w7, hr7, hO7, hF7⟩ := (HX.out.fr (FX.then7 FY)).more14 HFY.out (Nat.le_refl _) (Nat.le_refl _) HIn2.out (by rw [List.length_map]; have := HLl.out; omega)
                  rw [HEq1.out.1, HEq1.out.2.1, HEq1.out.2.2] at hr7
                  have HO7 := toHid8 hO7
                  have HF7 := toHid8 hF7
                  clear hO7 hF7 FX FY
                  go_wp2_with (at_builtin; refine app_list9 rfl _ _ rfl rfl rfl hr7 ?_)
                  exact ⟨⟨j + 1, true, _, by have := HJt.out; omega, by go_num, rfl, HI3.out, by rw [List.map_append]; exact HO7.out, HF7.out⟩, by simp [intOf]; have := HJt.out; omega⟩

end Go.Proofs.YtbiilnhefoplkaaGreatDoor
