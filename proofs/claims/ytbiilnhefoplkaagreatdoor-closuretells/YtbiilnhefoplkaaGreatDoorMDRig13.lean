/-
  What is proved here: whether a patch is right, as the document tells it. Conditions: it lies in memory, and is of bounded size.
-/
import Derived.Test.YtbiilnhefoplkaaGreatDoorM27StrQ14
import Derived.Test.YtbiilnhefoplkaaGreatDoorMRigD13
import Derived.Test.YtbiilnhefoplkaaGreatDoorMDRight10
namespace Go.Proofs.YtbiilnhefoplkaaGreatDoor
open Go.RowKit Go.Shelf
set_option maxRecDepth 100000

theorem label_low {s : ByteArray} (h : labelB (unB s) = true) : ([] : B13) < unB s := by
  unfold labelB at h
  simp only [Bool.and_eq_true, decide_eq_true_eq] at h
  cases e : unB s with
  | nil => rw [e] at h; simp at h
  | cons b l => exact List.nil_lt_cons _ _

set_option maxHeartbeats 16000000 in
theorem dnright_any (p : Pa) (vd : Value) (pb : Option Addr) (nb cb : Nat) (w : World) (hnb : p.body.length = nb) (hd : StrsAt w vd p.deps) (hb : PrsAt w pb p.body) (hs : SmallPa p) :
    Calls Tryz.prog 28 #[.agg #[.string p.name, vd, .slice pb nb cb]] w fun e w' => e = .returned (.bool (rightPa p)) ∧ Fr None' w w' := by
  obtain ⟨N, D, L⟩ := p
  obtain ⟨zN, zD, zL, zI⟩ := hs
  simp only at hnb hd hb zN zD zL zI ⊢
  have HR := toHid8 (show rightPa ⟨N, D, L⟩ = (labelB (unB N) && (decide (D.length ≤ 256) && depsB (unB N) [] (D.map unB)) && (decide (L.length ≤ 256) && L.all rightP)) from rfl)
  have HSd := toHid8 hd
  have HSb := toHid8 hb
  obtain ⟨pa, ca, rfl, -, -, -⟩ := hd
  obtain ⟨n, hna⟩ : ∃ n, D.length = n := ⟨_, rfl⟩
  have HA := toHid8 hna
  have HNb := toHid8 hnb
  have HZD := toHid8 zD.2
  have HZL := toHid8 zL.2
  have HZI := toHid8 zI
  have hzn := zD.1
  have hzb := zL.1
  rw [hna] at hzn ⊢
  rw [hnb] at hzb
  obtain ⟨w1, hw1⟩ : ∃ w1, w.alloc (.cells #[.string N, .slice pa n ca, .slice pb nb cb] 36) = w1 := ⟨_, rfl⟩
  have F1 : Fr None' w w1 := hw1 ▸ Fr.alloc None' w _
  have B1 : Box3 w1 w.heap.size (.string N) (.slice pa n ca) (.slice pb nb cb) := hw1 ▸ Box3.new w _ _ _
  have HF1 := toHid8 F1
  have HB := toHid8 (fun w' (f : Fr None' w1 w') => (B1.kept f).cells)
  have q1 := dlabel_any N w1 zN
  obtain ⟨T, hT⟩ : ∃ T, rightPa ⟨N, D, L⟩ = T := ⟨_, rfl⟩
  rw [hT] at HR ⊢
  obtain ⟨a0, a1, a2⟩ := B1.cells
  rw [HA.out, HNb.out] at HR
  clear hnb hb zN zD zL zI hna F1 B1 hT
  generalize hLN : labelB (unB N) = LN at q1 HR
  clear hLN
  cases LN with
  | false =>
    have HT := toHid8 (show T = false from HR.out)
    go_enter Tryz.func28, Tryz.ntmps28
    go_wp2_with fail
    with_reducible refine q1.mono ?_
    rintro e w2 ⟨rfl, rfl⟩
    go_wp2_with fail
    go_ret
    exact ⟨by rw [HT.out]; rfl, HF1.out⟩
  | true =>
  by_cases h1 : n ≤ 256
  case neg =>
    have HT := toHid8 (show T = false by rw [HR.out, decide_eq_false h1]; simp)
    have i1 : (256 : Int) < (n : Int) := by omega
    clear h1
    go_enter Tryz.func28, Tryz.ntmps28
    go_wp2_with fail
    with_reducible refine q1.mono ?_
    rintro e w2 ⟨rfl, rfl⟩
    go_wp2_with fail
    go_ret
    exact ⟨by rw [HT.out]; rfl, HF1.out⟩
  have i1 : ¬ (256 : Int) < (n : Int) := by omega
  by_cases h2 : nb ≤ 256
  case neg =>
    have HT := toHid8 (show T = false by rw [HR.out, decide_eq_false h2]; simp)
    have i2 : (256 : Int) < (nb : Int) := by omega
    clear h1 h2
    go_enter Tryz.func28, Tryz.ntmps28
    go_wp2_with fail
    with_reducible refine q1.mono ?_
    rintro e w2 ⟨rfl, rfl⟩
    go_wp2_with fail
    go_ret
    exact ⟨by rw [HT.out]; rfl, HF1.out⟩
  have i2 : ¬ (256 : Int) < (nb : Int) := by omega
  have HT1 := toHid8 (show T = (depsB (unB N) [] (D.map unB) && L.all rightP) by rw [HR.out, decide_eq_true h1, decide_eq_true h2]; simp)
  clear h1 h2 HR
  obtain ⟨R, hR⟩ : ∃ R, depsB (unB N) [] (D.map unB) = R := ⟨_, rfl⟩
  have HK0 := toHid8 (show depsB (unB N) [] ((D.drop 0).map unB) = R from hR)
  rw [hR] at HT1
  clear hR
  go_enter Tryz.func28, Tryz.ntmps28
  go_wp2_with fail
  with_reducible refine q1.mono ?_
  rintro e w2 ⟨rfl, rfl⟩
  clear q1
  go_wp2_with fail
  go_loopw [3] (fun vi wr => ∃ (k : Nat), k ≤ n ∧ vi = .int .i64 k ∧ Hid (∃ la : B13, (k = 0 → la = []) ∧ (∀ x, 0 < k → D[k - 1]? = some x → la = unB x) ∧ depsB (unB N) la ((D.drop k).map unB) = R) ∧ Hid (Fr None' w2 wr)) (fun vi _ => n - (intOf vi).toNat)
  case atStart => exact ⟨0, Nat.zero_le _, rfl, ⟨[], fun _ => rfl, fun _ h => absurd h (by omega), HK0.out⟩, Fr.refl _ _⟩
  case round =>
    obtain ⟨k, hk, rfl, HK, HF⟩ := hrel
    by_cases hlt : k < n
    case pos =>
      have hka : k < D.length := by rw [HA.out]; exact hlt
      obtain ⟨la, hla0, hla, hKd⟩ := HK.out
      obtain ⟨pa', ca', e, _, _, hrow⟩ := HSd.out.kept (HF1.out.then7 HF.out)
      cases e
      have hrow2 := hrow
      obtain ⟨ga, oa, rfl, c1⟩ := hrow.get hka
      have hst := deps_step (unB N) D hka la
      rw [hKd] at hst
      have hsz := HZD.out _ (List.getElem_mem hka)
      obtain ⟨x, hx⟩ : ∃ x, D[k] = x := ⟨_, rfl⟩
      have hDx : D[k]? = some x := by rw [List.getElem?_eq_getElem hka, hx]
      rw [hx] at hst hsz c1
      have q1 := fun w' => dlabel_any x w' hsz
      have i3 : (k : Int) < n := by omega
      have i4 : (0 : Int) ≤ k := by omega
      obtain ⟨a0, a1, a2⟩ := HB.out wr HF.out
      have hlow := fun h => label_low (s := x) h
      obtain ⟨LX, hL⟩ : ∃ L, labelB (unB x) = L := ⟨_, rfl⟩
      rw [hL] at hst hlow
      simp only [hL] at q1
      have HSt := toHid8 hst
      have HDx := toHid8 hDx
      clear hst hx hsz hL hDx
      cases LX with
      | false =>
        have HT := toHid8 (show T = false by rw [HT1.out, HSt.out]; simp)
        clear hlow hla0 hla
        go_wp2_with fail
        go_quiet ((go_at_call 43; exact Calls.quiet_of_same (q1 _)))
        go_wp2_with fail
        go_ret
        exact ⟨by rw [HT.out]; rfl, (HF1.out.then7 HF.out).then7 ((Fr.drewN None' wr _))⟩
      | true =>
        by_cases hN : x = N
        case pos =>
          have HT := toHid8 (show T = false by rw [HT1.out, HSt.out, hN]; simp)
          have b5 : (x.toList == N.toList) = true := by rw [hN]; simp
          have HN := toHid8 hN
          clear hlow hla0 hla hN
          go_wp2_with fail
          go_quiet ((go_at_call 43; exact Calls.quiet_of_same (q1 _)))
          go_wp2_with fail
          go_ret
          exact ⟨by rw [HT.out]; rfl, (HF1.out.then7 HF.out).then7 ((Fr.drewN None' wr _))⟩
        case neg =>
          obtain ⟨b4, b5⟩ := Lines.str_no hN
          by_cases hk0 : k = 0
          case pos =>
            have hl : la < unB x := by rw [hla0 hk0]; exact hlow rfl
            have HSt2 := toHid8 (show depsB (unB N) (unB x) ((D.drop (k + 1)).map unB) = R by
              have h1 := HSt.out
              rw [decide_eq_true hl, decide_eq_false (fun e => hN (unB_inj e))] at h1
              simpa using h1.symm)
            have i5 : ¬ (0 : Int) < (k : Int) := by omega
            have i5n : ¬ (0 < k) := by omega
            have i5d : decide (0 < k) = false := decide_eq_false i5n
            clear hlow hla0 hla hN hl hk0
            go_wp2_with fail
            go_quiet ((go_at_call 43; exact Calls.quiet_of_same (q1 _)))
            go_wp2_with fail
            exact ⟨⟨k + 1, by omega, by go_num, ⟨unB x, fun h => absurd h (by omega), fun y _ hy => by rw [Nat.add_sub_cancel, HDx.out] at hy; cases hy; rfl, HSt2.out⟩, HF.out.then7 (Fr.drewN None' wr _)⟩, by simp [intOf]; omega⟩
          case neg =>
            obtain ⟨q, hq⟩ : ∃ q, k = q + 1 := ⟨k - 1, by omega⟩
            have hqa : q < D.length := by omega
            obtain ⟨ga', oa', e, c2⟩ := hrow2.get hqa
            cases e
            obtain ⟨y, hy⟩ : ∃ y, D[q] = y := ⟨_, rfl⟩
            rw [hy] at c2
            have hly : la = unB y := hla y (by omega) (by rw [hq, Nat.add_sub_cancel, List.getElem?_eq_getElem hqa, hy])
            have i5 : (0 : Int) < (k : Int) := by omega
            have i5n : 0 < k := by omega
            have i5d : decide (0 < k) = true := decide_eq_true i5n
            have j1 : IntKind.i64.wrap ((k : Int) - 1) = (q : Int) := by rw [IntKind.wrap_i64]; omega
            have i6 : (q : Int) < (n : Int) := by omega
            have i7 : (0 : Int) ≤ (q : Int) := by omega
            by_cases hl : la < unB x
            case pos =>
              have HSt2 := toHid8 (show depsB (unB N) (unB x) ((D.drop (k + 1)).map unB) = R by
                have h1 := HSt.out
                rw [decide_eq_true hl, decide_eq_false (fun e => hN (unB_inj e))] at h1
                simpa using h1.symm)
              have b1 : Op.bytesLess y.toList x.toList = true := by rw [less_13, ← hly]; exact decide_eq_true hl
              clear hlow hla0 hla hN hl hk0 hly hy hq
              go_wp2_with fail
              go_quiet ((go_at_call 43; exact Calls.quiet_of_same (q1 _)))
              go_wp2_with fail
              exact ⟨⟨k + 1, by omega, by go_num, ⟨unB x, fun h => absurd h (by omega), fun y _ hy => by rw [Nat.add_sub_cancel, HDx.out] at hy; cases hy; rfl, HSt2.out⟩, HF.out.then7 (Fr.drewN None' wr _)⟩, by simp [intOf]; omega⟩
            case neg =>
              have HT := toHid8 (show T = false by rw [HT1.out, HSt.out, decide_eq_false hl]; simp)
              have b1 : Op.bytesLess y.toList x.toList = false := by rw [less_13, ← hly]; exact decide_eq_false hl
              clear hlow hla0 hla hN hl hk0 hly hy hq
              go_wp2_with fail
              go_quiet ((go_at_call 43; exact Calls.quiet_of_same (q1 _)))
              go_wp2_with fail
              go_ret
              exact ⟨by rw [HT.out]; rfl, (HF1.out.then7 HF.out).then7 ((Fr.drewN None' wr _))⟩
    case neg =>
      have HT := toHid8 (show T = L.all rightP by
        obtain ⟨la, -, -, h⟩ := HK.out
        rw [List.drop_of_length_le (by rw [HA.out]; omega)] at h
        rw [HT1.out, ← h]
        rfl)
      obtain rfl : k = n := by omega
      obtain ⟨a0, a1, a2⟩ := HB.out wr HF.out
      have HFo := HF
      clear HT1 hlt
      go_wp2_with fail
      go_loopw [4] (fun vi w' => ∃ (j : Nat), j ≤ nb ∧ vi = .int .i64 j ∧ Hid ((L.drop j).all rightP = T) ∧ Hid (Fr None' w2 w')) (fun vi _ => nb - (intOf vi).toNat)
      case atStart => exact ⟨0, Nat.zero_le _, rfl, HT.out.symm, HFo.out⟩
      case round =>
        obtain ⟨j, hj, rfl, HK, HF⟩ := hrel
        obtain ⟨a0, a1, a2⟩ := HB.out _ HF.out
        by_cases hlt : j < nb
        case pos =>
          have hka : j < L.length := by rw [HNb.out]; exact hlt
          have hst := HK.out
          rw [List.drop_eq_getElem_cons hka, List.all_cons] at hst
          have hSx := HZL.out _ (List.getElem_mem hka)
          have hIx := HZI.out _ (List.getElem_mem hka)
          obtain ⟨g, o, rfl, vo, vn, c0, c1, c2, c3, c4, c5, c6, s1, s2⟩ := (HSb.out.kept (HF1.out.then7 HF.out)).get hka
          obtain ⟨x, hx⟩ : ∃ x, L[j] = x := ⟨_, rfl⟩
          rw [hx] at hst hSx hIx c0 c1 c2 c3 c4 s1 s2
          have q1 := dright_any x vo vn _ s1 s2 hSx hIx
          have i3 : (j : Int) < nb := by omega
          have i4 : (0 : Int) ≤ j := by omega
          obtain ⟨X, hX⟩ : ∃ X, rightP x = X := ⟨_, rfl⟩
          rw [hX] at hst q1
          have HSt := toHid8 hst
          obtain ⟨po, co, e1⟩ : ∃ a c, vo = .slice a x.old.length c := by obtain ⟨a, c, e, _⟩ := s1; exact ⟨a, c, e⟩
          obtain ⟨pn, cn, e2⟩ : ∃ a c, vn = .slice a x.new.length c := by obtain ⟨a, c, e, _⟩ := s2; exact ⟨a, c, e⟩
          subst e1 e2
          clear hst hX hSx hIx s1 s2 hx
          obtain ⟨XK, XP, XT, XF, XA, XO, XN⟩ := x
          simp only at c0 c1 c2 c3 c4 c5 c6 q1
          generalize XO.length = xo at c5 q1
          generalize XN.length = xn at c6 q1
          go_wp2_with fail
          with_reducible refine q1.mono ?_
          rintro e w6 ⟨rfl, f6⟩
          have HF6 := toHid8 (HF.out.then7 f6)
          clear q1 f6 c0 c1 c2 c3 c4 c5 c6 a0 a1 a2
          cases X with
          | false =>
            have e2 : T = false := by have := HSt.out; simpa using this.symm
            go_wp2_with fail
            go_ret
            exact ⟨by rw [e2]; rfl, HF1.out.then7 HF6.out⟩
          | true =>
            have HSt2 := toHid8 (show (L.drop (j + 1)).all rightP = T by have := HSt.out; simpa using this)
            go_wp2_with fail
            exact ⟨⟨j + 1, by omega, by go_num, HSt2.out, HF6.out⟩, by simp [intOf]; omega⟩
        case neg =>
          have HE := toHid8 (show true = T from by
            have e2 := HK.out
            rwa [List.drop_of_length_le (by rw [HNb.out]; omega)] at e2)
          have i3 : ¬ (j : Int) < nb := by omega
          go_wp2_with fail
          go_ret
          exact ⟨by rw [← HE.out]; rfl, HF1.out.then7 HF.out⟩

end Go.Proofs.YtbiilnhefoplkaaGreatDoor
