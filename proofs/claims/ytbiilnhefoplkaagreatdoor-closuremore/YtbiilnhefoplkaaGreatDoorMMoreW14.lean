/-
  What is proved here: ClosureMore answers true. Conditions: the patches and the names lie in memory, and are of bounded size.
-/
import Derived.Test.YtbiilnhefoplkaaGreatDoorM26Down14
import Derived.Test.YtbiilnhefoplkaaGreatDoorM1Base
namespace Go.Proofs.YtbiilnhefoplkaaGreatDoor
open Go.RowKit Go.Maps Go.WideMaps
set_option maxRecDepth 100000

theorem eq_and14 {a b c : Int} (h : a = 0 ↔ b = 0 ∧ c = 0) : (a == 0) = ((b == 0) && (c == 0)) := by
  rw [Bool.eq_iff_iff, Bool.and_eq_true, beq_iff_eq, beq_iff_eq, beq_iff_eq]
  exact h

theorem has_or14 {z x y : List B13} {s : ByteArray} (h : ∀ k, k ∈ z ↔ k ∈ x ∨ k ∈ y) : hasB (z.map mkB) s = (hasB (x.map mkB) s || hasB (y.map mkB) s) := by
  rw [Bool.eq_iff_iff, Bool.or_eq_true, hasB_iff, hasB_iff, hasB_iff, un_mks, un_mks, un_mks]
  exact h _

set_option maxHeartbeats 16000000 in
theorem more_walk (va : Option Addr) (n c : Nat) (Z : List Pv) (pa : Option Addr) (na ca : Nat) (A : List ByteArray) (pb : Option Addr) (nb cb : Nat) (B : List ByteArray) (w : World) (hn : Z.length = n) (hr : RowV w va Z) (hb : BigV Z) (hna : A.length = na) (hA : StrsAt w (.slice pa na ca) A) (la : na ≤ 140737488355328) (hnb : B.length = nb) (hB : StrsAt w (.slice pb nb cb) B) (lb : nb ≤ 140737488355328) :
    Calls Tryz.prog 6 #[.slice va n c, .slice pa na ca, .slice pb nb cb] w fun e w' => e = .returned (.bool true) ∧ Fr None' w w' := by
  have HL := toHid8 hn
  have HRow := toHid8 hr
  have HB := toHid8 hb
  have HNa := toHid8 (And.intro hna la)
  have HA := toHid8 hA
  have HNb := toHid8 (And.intro hnb lb)
  have HBs := toHid8 hB
  have q1 := head14_any w
  clear hn hr hb hna hA la hnb hB lb
  go_enter Tryz.func6, Tryz.ntmps6
  go_wp2_with fail
  refine q1.mono ?_
  rintro e w1 ⟨rfl, f1⟩
  have HF1 := toHid8 f1
  have q2 := great14_any va n c Z pa na ca A w1 HL.out (HRow.out.kept f1) HB.out HNa.out.1 (HA.out.kept f1) HNa.out.2
  clear q1 f1
  go_wp2_with fail
  refine q2.mono ?_
  rintro e w2 ⟨g, rfl, hg, f2⟩
  have HF2 := toHid8 (HF1.out.then7 f2)
  have HG := toHid8 hg
  clear q2 f2 hg
  cases g with
  | true =>
    go_wp2_with fail
    go_ret
    exact ⟨rfl, HF2.out⟩
  | false =>
    have q3 := great14_any none 0 0 [] pb nb cb B w2 rfl (fun k c h => by cases h) (fun d hd => by cases hd) HNb.out.1 (HBs.out.kept HF2.out) HNb.out.2
    go_wp2_with fail
    refine q3.mono ?_
    rintro e w3 ⟨g, rfl, hg2, f3⟩
    have HF3 := toHid8 (HF2.out.then7 f3)
    have HG2 := toHid8 hg2
    clear q3 f3 hg2
    cases g with
    | true =>
      go_wp2_with fail
      go_ret
      exact ⟨rfl, HF3.out⟩
    | false =>
      have hn60 : n ≤ 60 := by have := (HG.out (by trivial)).1.1; rw [HL.out] at this; exact this
      have hsz : ∀ d ∈ Z, SmallPa d.x := fun d hd => ((HG.out (by trivial)).1.2 d hd).small14
      have hA2 := (HG.out (by trivial)).2
      have hB2 := (HG2.out (by trivial)).2
      rw [HNa.out.1] at hA2
      rw [HNb.out.1] at hB2
      have HS := toHid8 hsz
      have HA2 := toHid8 hA2
      have HB2 := toHid8 hB2
      have H60 := toHid8 hn60
      have i0 : (n : Int) ≤ 60 := by omega
      obtain ⟨v1, w4, v2, w5, r1, r2, hs5, f5⟩ := both_run14 w3 (HA.out.kept HF3.out) (by rw [HNa.out.1]; have := HA2.out.1; omega) (HBs.out.kept HF3.out) (by rw [HNb.out.1]; have := HB2.out.1; omega)
      obtain ⟨pv, cv, ev, -⟩ := hs5.sl
      obtain ⟨m, hm⟩ : ∃ m, (A ++ B).length = m := ⟨_, rfl⟩
      rw [hm] at ev
      subst ev
      have HM := toHid8 (And.intro hm (show m ≤ 4000 by rw [← hm, List.length_append, HNa.out.1, HNb.out.1]; have := HA2.out.1; have := HB2.out.1; omega))
      have HS5 := toHid8 hs5
      have HF5 := toHid8 (HF3.out.then7 f5)
      have HAs := toHid8 (show ∀ y ∈ A, y.size ≤ 1000000000 from fun y hy => by have := HA2.out.2 y hy; omega)
      have HBb := toHid8 (show ∀ y ∈ B, y.size ≤ 1000000000 from fun y hy => by have := HB2.out.2 y hy; omega)
      have HMs := toHid8 (show ∀ y ∈ A ++ B, y.size ≤ 1000000000 from fun y hy => (List.mem_append.1 hy).elim (HAs.out y) (HBb.out y))
      have q6 := DownPost.calls (down14_any va n c Z pa na ca A w5 HL.out (HRow.out.kept HF5.out) (by have := H60.out; omega) HS.out HNa.out.1 (by have := HA2.out.1; omega) HAs.out (HA.out.kept HF5.out)) (fun _ _ h => h.len)
      clear hn60 hsz hA2 hB2 hs5 f5 hm
      go_wp2_with (at_builtin; first | refine app_list9 rfl _ _ rfl rfl rfl r1 ?_ | refine app_list9 rfl _ _ rfl rfl rfl r2 ?_)
      refine q6.mono ?_
      rintro e w6 ⟨er1, K1, p1, n1, c1, rfl, hk1, hl1, hst1, hd1, f6⟩
      have HK1 := toHid8 (And.intro hk1 hl1)
      have HT1 := toHid8 hst1
      have HD1 := toHid8 hd1
      have HF6 := toHid8 (HF5.out.then7 f6)
      have HG6 := toHid8 f6
      clear q6 hk1 hl1 hst1 hd1 f6 r1 r2
      have q7 := DownPost.calls (down14_any va n c Z pb nb cb B w6 HL.out (HRow.out.kept HF6.out) (by have := H60.out; omega) HS.out HNb.out.1 (by have := HB2.out.1; omega) HBb.out (HBs.out.kept HF6.out)) (fun _ _ h => h.len)
      go_wp2_with fail
      refine q7.mono ?_
      rintro e w7 ⟨er2, K2, p2, n2, c2, rfl, hk2, hl2, hst2, hd2, f7⟩
      have HK2 := toHid8 (And.intro hk2 hl2)
      have HT2 := toHid8 hst2
      have HD2 := toHid8 hd2
      have HF7 := toHid8 (HF6.out.then7 f7)
      have HG7 := toHid8 f7
      clear q7 hk2 hl2 hst2 hd2 f7
      have q8 := DownPost.calls (down14_any va n c Z pv m cv (A ++ B) w7 HL.out (HRow.out.kept HF7.out) (by have := H60.out; omega) HS.out HM.out.1 (by have := HM.out.2; omega) HMs.out (HS5.out.kept (HG6.out.then7 HG7.out))) (fun _ _ h => h.len)
      go_wp2_with fail
      refine q8.mono ?_
      rintro e w8 ⟨er3, K3, p3, n3, c3, rfl, hk3, hl3, hst3, hd3, f8⟩
      have HK3 := toHid8 (And.intro hk3 hl3)
      have HT3 := toHid8 hst3
      have HD3 := toHid8 hd3
      have HF8 := toHid8 (HF7.out.then7 f8)
      have HG8 := toHid8 f8
      clear q8 hk3 hl3 hst3 hd3 f8
      have q9 := DownPost.calls (up14_any va n c Z pa na ca A w8 HL.out (HRow.out.kept HF8.out) (by have := H60.out; omega) HS.out HNa.out.1 (by have := HA2.out.1; omega) HAs.out (HA.out.kept HF8.out)) (fun _ _ h => h.len)
      go_wp2_with fail
      refine q9.mono ?_
      rintro e w9 ⟨er4, K4, p4, n4, c4, rfl, hk4, hl4, hst4, hd4, f9⟩
      have HK4 := toHid8 (And.intro hk4 hl4)
      have HT4 := toHid8 hst4
      have HD4 := toHid8 hd4
      have HF9 := toHid8 (HF8.out.then7 f9)
      have HG9 := toHid8 f9
      clear q9 hk4 hl4 hst4 hd4 f9
      have qa := DownPost.calls (up14_any va n c Z pb nb cb B w9 HL.out (HRow.out.kept HF9.out) (by have := H60.out; omega) HS.out HNb.out.1 (by have := HB2.out.1; omega) HBb.out (HBs.out.kept HF9.out)) (fun _ _ h => h.len)
      go_wp2_with fail
      refine qa.mono ?_
      rintro e wa ⟨er5, K5, p5, n5, c5, rfl, hk5, hl5, hst5, hd5, fa⟩
      have HK5 := toHid8 (And.intro hk5 hl5)
      have HT5 := toHid8 hst5
      have HD5 := toHid8 hd5
      have HFa := toHid8 (HF9.out.then7 fa)
      have HGa := toHid8 fa
      clear qa hk5 hl5 hst5 hd5 fa
      have qb := DownPost.calls (up14_any va n c Z pv m cv (A ++ B) wa HL.out (HRow.out.kept HFa.out) (by have := H60.out; omega) HS.out HM.out.1 (by have := HM.out.2; omega) HMs.out (HS5.out.kept ((((HG6.out.then7 HG7.out).then7 HG8.out).then7 HG9.out).then7 HGa.out))) (fun _ _ h => h.len)
      go_wp2_with fail
      refine qb.mono ?_
      rintro e wb ⟨er6, K6, p6, n6, c6, rfl, hk6, hl6, hst6, hd6, fb⟩
      have HK6 := toHid8 (And.intro hk6 hl6)
      have HT6 := toHid8 hst6
      have HD6 := toHid8 hd6
      have HFb := toHid8 (HFa.out.then7 fb)
      have HGb := toHid8 fb
      clear qb hk6 hl6 hst6 hd6 fb
      have hu3 : DP (setV Z) downN (A.map unB ++ B.map unB) er3 K3 := by rw [← List.map_append]; exact HD3.out
      have hu6 : DP (setV Z) aboveV (A.map unB ++ B.map unB) er6 K6 := by rw [← List.map_append]; exact HD6.out
      have U3 := toHid8 (HD1.out.union HD2.out hu3)
      have U6 := toHid8 (HD4.out.union HD5.out hu6)
      obtain ⟨E, hE⟩ : ∃ E, (er1 == 0) = E := ⟨_, rfl⟩
      obtain ⟨F, hF⟩ : ∃ F, (er2 == 0) = F := ⟨_, rfl⟩
      obtain ⟨H, hH⟩ : ∃ H, (er4 == 0) = H := ⟨_, rfl⟩
      obtain ⟨I, hI⟩ : ∃ I, (er5 == 0) = I := ⟨_, rfl⟩
      have hG : (er3 == 0) = (E && F) := by rw [← hE, ← hF]; exact eq_and14 U3.out.1
      have hJ : (er6 == 0) = (H && I) := by rw [← hH, ← hI]; exact eq_and14 U6.out.1
      clear hu3 hu6
      have HSa := toHid8 (fun wx (f : Fr None' wb wx) => HT1.out.kept ((((((HG7.out.then7 HG8.out).then7 HG9.out).then7 HGa.out).then7 HGb.out)).then7 f))
      have HSb := toHid8 (fun wx (f : Fr None' wb wx) => HT2.out.kept (((((HG8.out.then7 HG9.out).then7 HGa.out).then7 HGb.out)).then7 f))
      have HSc := toHid8 (fun wx (f : Fr None' wb wx) => HT3.out.kept ((((HG9.out.then7 HGa.out).then7 HGb.out)).then7 f))
      have HSd := toHid8 (fun wx (f : Fr None' wb wx) => HT4.out.kept (((HGa.out.then7 HGb.out)).then7 f))
      have HSe := toHid8 (fun wx (f : Fr None' wb wx) => HT5.out.kept (HGb.out.then7 f))
      have HSf := toHid8 (fun wx (f : Fr None' wb wx) => HT6.out.kept f)
      cases E <;> cases H
      · as_aux_lemma =>
        go_wp2_with fail
        go_loopw [21] (fun vi wr => ∃ k : Nat, k ≤ n ∧ vi = .int .i64 k ∧ Hid (Fr None' wb wr)) (fun vi _ => n - (intOf vi).toNat)
        case atStart => exact ⟨0, Nat.zero_le _, rfl, Fr.refl _ _⟩
        case round =>
          obtain ⟨k, hk, rfl, HFk⟩ := hrel
          have HFw := toHid8 (HFb.out.then7 HFk.out)
          by_cases hkt : k < n
          case neg =>
            have i6 : ¬ (k : Int) < (n : Int) := by omega
            clear hkt
            go_wp2_with fail
            go_ret
            exact ⟨rfl, HFw.out⟩
          case pos =>
            have hka : k < Z.length := by rw [HL.out]; exact hkt
            obtain ⟨g, o, rfl, c0, -, -, -⟩ := HRow.out.kept HFw.out k _ (List.getElem?_eq_getElem hka)
            obtain ⟨s, hs⟩ : ∃ s, Z[k].x.name = s := ⟨_, rfl⟩
            rw [hs] at c0
            obtain ⟨G, hGe⟩ : ∃ G, (er3 == 0) = G := ⟨_, rfl⟩
            obtain ⟨J, hJe⟩ : ∃ J, (er6 == 0) = J := ⟨_, rfl⟩
            obtain ⟨X, hX⟩ : ∃ X, hasB (K1.map mkB) s = X := ⟨_, rfl⟩
            obtain ⟨Y, hY⟩ : ∃ Y, hasB (K2.map mkB) s = Y := ⟨_, rfl⟩
            obtain ⟨U, hU⟩ : ∃ U, hasB (K4.map mkB) s = U := ⟨_, rfl⟩
            obtain ⟨V, hV⟩ : ∃ V, hasB (K5.map mkB) s = V := ⟨_, rfl⟩
            have HZ1 := toHid8 (fun wx (f : Fr None' wr wx) => has14_any p1 n1 c1 _ s wx HK1.out.1 (HSa.out wx (HFk.out.then7 f)) (by have := HK1.out.2; omega))
            have HZ2 := toHid8 (fun wx (f : Fr None' wr wx) => has14_any p2 n2 c2 _ s wx HK2.out.1 (HSb.out wx (HFk.out.then7 f)) (by have := HK2.out.2; omega))
            have HZ4 := toHid8 (fun wx (f : Fr None' wr wx) => has14_any p4 n4 c4 _ s wx HK4.out.1 (HSd.out wx (HFk.out.then7 f)) (by have := HK4.out.2; omega))
            have HZ5 := toHid8 (fun wx (f : Fr None' wr wx) => has14_any p5 n5 c5 _ s wx HK5.out.1 (HSe.out wx (HFk.out.then7 f)) (by have := HK5.out.2; omega))
            have HZ3 := toHid8 (show G = true → ∀ wx, Fr None' wr wx → Calls Tryz.prog 23 #[.slice p3 n3 c3, .string s] wx fun e w' => e = .returned (.bool (X || Y)) ∧ Fr None' wx w' from fun hg wx f => by
              have h := has14_any p3 n3 c3 _ s wx HK3.out.1 (HSc.out wx (HFk.out.then7 f)) (by have := HK3.out.2; omega)
              rw [has_or14 (U3.out.2 (by rw [hg] at hGe; simpa using hGe)), hX, hY] at h
              exact h)
            have HZ6 := toHid8 (show J = true → ∀ wx, Fr None' wr wx → Calls Tryz.prog 23 #[.slice p6 n6 c6, .string s] wx fun e w' => e = .returned (.bool (U || V)) ∧ Fr None' wx w' from fun hg wx f => by
              have h := has14_any p6 n6 c6 _ s wx HK6.out.1 (HSf.out wx (HFk.out.then7 f)) (by have := HK6.out.2; omega)
              rw [has_or14 (U6.out.2 (by rw [hg] at hJe; simpa using hJe)), hU, hV] at h
              exact h)
            rw [hX] at HZ1
            rw [hY] at HZ2
            rw [hU] at HZ4
            rw [hV] at HZ5
            have i3 : (k : Int) < (n : Int) := by omega
            have i4 : (0 : Int) ≤ (k : Int) := by omega
            have HKt := toHid8 hkt
            clear hka hs hkt hX hY hU hV hG hJ hE hF hH hI
            cases G
            case false =>
              cases J
              case false =>
                go_wp2_with fail
                exact ⟨⟨k + 1, by have := HKt.out; omega, by go_num, HFk.out⟩, by simp [intOf]; have := HKt.out; omega⟩
              case true =>
                cases U
                case true =>
                  go_wp2_with fail
                  refine ((HZ6.out (by trivial)) _ (Fr.refl _ _)).mono ?_
                  rintro e x1 ⟨rfl, f⟩
                  have HX1 := toHid8 (show Fr None' wr x1 from f)
                  clear f
                  go_wp2_with fail
                  refine ((HZ4.out) _ HX1.out).mono ?_
                  rintro e x2 ⟨rfl, f⟩
                  have HX2 := toHid8 (show Fr None' wr x2 from HX1.out.then7 f)
                  clear f
                  go_wp2_with fail
                  exact ⟨⟨k + 1, by have := HKt.out; omega, by go_num, (HFk.out.then7 HX2.out)⟩, by simp [intOf]; have := HKt.out; omega⟩
                case false =>
                  cases V
                  case true =>
                    go_wp2_with fail
                    refine ((HZ6.out (by trivial)) _ (Fr.refl _ _)).mono ?_
                    rintro e x1 ⟨rfl, f⟩
                    have HX1 := toHid8 (show Fr None' wr x1 from f)
                    clear f
                    go_wp2_with fail
                    refine ((HZ4.out) _ HX1.out).mono ?_
                    rintro e x2 ⟨rfl, f⟩
                    have HX2 := toHid8 (show Fr None' wr x2 from HX1.out.then7 f)
                    clear f
                    go_wp2_with fail
                    refine ((HZ5.out) _ HX2.out).mono ?_
                    rintro e x3 ⟨rfl, f⟩
                    have HX3 := toHid8 (show Fr None' wr x3 from HX2.out.then7 f)
                    clear f
                    go_wp2_with fail
                    exact ⟨⟨k + 1, by have := HKt.out; omega, by go_num, (HFk.out.then7 HX3.out)⟩, by simp [intOf]; have := HKt.out; omega⟩
                  case false =>
                    go_wp2_with fail
                    refine ((HZ6.out (by trivial)) _ (Fr.refl _ _)).mono ?_
                    rintro e x1 ⟨rfl, f⟩
                    have HX1 := toHid8 (show Fr None' wr x1 from f)
                    clear f
                    go_wp2_with fail
                    refine ((HZ4.out) _ HX1.out).mono ?_
                    rintro e x2 ⟨rfl, f⟩
                    have HX2 := toHid8 (show Fr None' wr x2 from HX1.out.then7 f)
                    clear f
                    go_wp2_with fail
                    refine ((HZ5.out) _ HX2.out).mono ?_
                    rintro e x3 ⟨rfl, f⟩
                    have HX3 := toHid8 (show Fr None' wr x3 from HX2.out.then7 f)
                    clear f
                    go_wp2_with fail
                    exact ⟨⟨k + 1, by have := HKt.out; omega, by go_num, (HFk.out.then7 HX3.out)⟩, by simp [intOf]; have := HKt.out; omega⟩
            case true =>
              cases X
              case true =>
                cases J
                case false =>
                  go_wp2_with fail
                  refine ((HZ3.out (by trivial)) _ (Fr.refl _ _)).mono ?_
                  rintro e x1 ⟨rfl, f⟩
                  have HX1 := toHid8 (show Fr None' wr x1 from f)
                  clear f
                  go_wp2_with fail
                  refine ((HZ1.out) _ HX1.out).mono ?_
                  rintro e x2 ⟨rfl, f⟩
                  have HX2 := toHid8 (show Fr None' wr x2 from HX1.out.then7 f)
                  clear f
                  go_wp2_with fail
                  exact ⟨⟨k + 1, by have := HKt.out; omega, by go_num, (HFk.out.then7 HX2.out)⟩, by simp [intOf]; have := HKt.out; omega⟩
                case true =>
                  cases U
                  case true =>
                    go_wp2_with fail
                    refine ((HZ3.out (by trivial)) _ (Fr.refl _ _)).mono ?_
                    rintro e x1 ⟨rfl, f⟩
                    have HX1 := toHid8 (show Fr None' wr x1 from f)
                    clear f
                    go_wp2_with fail
                    refine ((HZ1.out) _ HX1.out).mono ?_
                    rintro e x2 ⟨rfl, f⟩
                    have HX2 := toHid8 (show Fr None' wr x2 from HX1.out.then7 f)
                    clear f
                    go_wp2_with fail
                    refine ((HZ6.out (by trivial)) _ HX2.out).mono ?_
                    rintro e x3 ⟨rfl, f⟩
                    have HX3 := toHid8 (show Fr None' wr x3 from HX2.out.then7 f)
                    clear f
                    go_wp2_with fail
                    refine ((HZ4.out) _ HX3.out).mono ?_
                    rintro e x4 ⟨rfl, f⟩
                    have HX4 := toHid8 (show Fr None' wr x4 from HX3.out.then7 f)
                    clear f
                    go_wp2_with fail
                    exact ⟨⟨k + 1, by have := HKt.out; omega, by go_num, (HFk.out.then7 HX4.out)⟩, by simp [intOf]; have := HKt.out; omega⟩
                  case false =>
                    cases V
                    case true =>
                      go_wp2_with fail
                      refine ((HZ3.out (by trivial)) _ (Fr.refl _ _)).mono ?_
                      rintro e x1 ⟨rfl, f⟩
                      have HX1 := toHid8 (show Fr None' wr x1 from f)
                      clear f
                      go_wp2_with fail
                      refine ((HZ1.out) _ HX1.out).mono ?_
                      rintro e x2 ⟨rfl, f⟩
                      have HX2 := toHid8 (show Fr None' wr x2 from HX1.out.then7 f)
                      clear f
                      go_wp2_with fail
                      refine ((HZ6.out (by trivial)) _ HX2.out).mono ?_
                      rintro e x3 ⟨rfl, f⟩
                      have HX3 := toHid8 (show Fr None' wr x3 from HX2.out.then7 f)
                      clear f
                      go_wp2_with fail
                      refine ((HZ4.out) _ HX3.out).mono ?_
                      rintro e x4 ⟨rfl, f⟩
                      have HX4 := toHid8 (show Fr None' wr x4 from HX3.out.then7 f)
                      clear f
                      go_wp2_with fail
                      refine ((HZ5.out) _ HX4.out).mono ?_
                      rintro e x5 ⟨rfl, f⟩
                      have HX5 := toHid8 (show Fr None' wr x5 from HX4.out.then7 f)
                      clear f
                      go_wp2_with fail
                      exact ⟨⟨k + 1, by have := HKt.out; omega, by go_num, (HFk.out.then7 HX5.out)⟩, by simp [intOf]; have := HKt.out; omega⟩
                    case false =>
                      go_wp2_with fail
                      refine ((HZ3.out (by trivial)) _ (Fr.refl _ _)).mono ?_
                      rintro e x1 ⟨rfl, f⟩
                      have HX1 := toHid8 (show Fr None' wr x1 from f)
                      clear f
                      go_wp2_with fail
                      refine ((HZ1.out) _ HX1.out).mono ?_
                      rintro e x2 ⟨rfl, f⟩
                      have HX2 := toHid8 (show Fr None' wr x2 from HX1.out.then7 f)
                      clear f
                      go_wp2_with fail
                      refine ((HZ6.out (by trivial)) _ HX2.out).mono ?_
                      rintro e x3 ⟨rfl, f⟩
                      have HX3 := toHid8 (show Fr None' wr x3 from HX2.out.then7 f)
                      clear f
                      go_wp2_with fail
                      refine ((HZ4.out) _ HX3.out).mono ?_
                      rintro e x4 ⟨rfl, f⟩
                      have HX4 := toHid8 (show Fr None' wr x4 from HX3.out.then7 f)
                      clear f
                      go_wp2_with fail
                      refine ((HZ5.out) _ HX4.out).mono ?_
                      rintro e x5 ⟨rfl, f⟩
                      have HX5 := toHid8 (show Fr None' wr x5 from HX4.out.then7 f)
                      clear f
                      go_wp2_with fail
                      exact ⟨⟨k + 1, by have := HKt.out; omega, by go_num, (HFk.out.then7 HX5.out)⟩, by simp [intOf]; have := HKt.out; omega⟩
              case false =>
                cases Y
                case true =>
                  cases J
                  case false =>
                    go_wp2_with fail
                    refine ((HZ3.out (by trivial)) _ (Fr.refl _ _)).mono ?_
                    rintro e x1 ⟨rfl, f⟩
                    have HX1 := toHid8 (show Fr None' wr x1 from f)
                    clear f
                    go_wp2_with fail
                    refine ((HZ1.out) _ HX1.out).mono ?_
                    rintro e x2 ⟨rfl, f⟩
                    have HX2 := toHid8 (show Fr None' wr x2 from HX1.out.then7 f)
                    clear f
                    go_wp2_with fail
                    refine ((HZ2.out) _ HX2.out).mono ?_
                    rintro e x3 ⟨rfl, f⟩
                    have HX3 := toHid8 (show Fr None' wr x3 from HX2.out.then7 f)
                    clear f
                    go_wp2_with fail
                    exact ⟨⟨k + 1, by have := HKt.out; omega, by go_num, (HFk.out.then7 HX3.out)⟩, by simp [intOf]; have := HKt.out; omega⟩
                  case true =>
                    cases U
                    case true =>
                      go_wp2_with fail
                      refine ((HZ3.out (by trivial)) _ (Fr.refl _ _)).mono ?_
                      rintro e x1 ⟨rfl, f⟩
                      have HX1 := toHid8 (show Fr None' wr x1 from f)
                      clear f
                      go_wp2_with fail
                      refine ((HZ1.out) _ HX1.out).mono ?_
                      rintro e x2 ⟨rfl, f⟩
                      have HX2 := toHid8 (show Fr None' wr x2 from HX1.out.then7 f)
                      clear f
                      go_wp2_with fail
                      refine ((HZ2.out) _ HX2.out).mono ?_
                      rintro e x3 ⟨rfl, f⟩
                      have HX3 := toHid8 (show Fr None' wr x3 from HX2.out.then7 f)
                      clear f
                      go_wp2_with fail
                      refine ((HZ6.out (by trivial)) _ HX3.out).mono ?_
                      rintro e x4 ⟨rfl, f⟩
                      have HX4 := toHid8 (show Fr None' wr x4 from HX3.out.then7 f)
                      clear f
                      go_wp2_with fail
                      refine ((HZ4.out) _ HX4.out).mono ?_
                      rintro e x5 ⟨rfl, f⟩
                      have HX5 := toHid8 (show Fr None' wr x5 from HX4.out.then7 f)
                      clear f
                      go_wp2_with fail
                      exact ⟨⟨k + 1, by have := HKt.out; omega, by go_num, (HFk.out.then7 HX5.out)⟩, by simp [intOf]; have := HKt.out; omega⟩
                    case false =>
                      cases V
                      case true =>
                        go_wp2_with fail
                        refine ((HZ3.out (by trivial)) _ (Fr.refl _ _)).mono ?_
                        rintro e x1 ⟨rfl, f⟩
                        have HX1 := toHid8 (show Fr None' wr x1 from f)
                        clear f
                        go_wp2_with fail
                        refine ((HZ1.out) _ HX1.out).mono ?_
                        rintro e x2 ⟨rfl, f⟩
                        have HX2 := toHid8 (show Fr None' wr x2 from HX1.out.then7 f)
                        clear f
                        go_wp2_with fail
                        refine ((HZ2.out) _ HX2.out).mono ?_
                        rintro e x3 ⟨rfl, f⟩
                        have HX3 := toHid8 (show Fr None' wr x3 from HX2.out.then7 f)
                        clear f
                        go_wp2_with fail
                        refine ((HZ6.out (by trivial)) _ HX3.out).mono ?_
                        rintro e x4 ⟨rfl, f⟩
                        have HX4 := toHid8 (show Fr None' wr x4 from HX3.out.then7 f)
                        clear f
                        go_wp2_with fail
                        refine ((HZ4.out) _ HX4.out).mono ?_
                        rintro e x5 ⟨rfl, f⟩
                        have HX5 := toHid8 (show Fr None' wr x5 from HX4.out.then7 f)
                        clear f
                        go_wp2_with fail
                        refine ((HZ5.out) _ HX5.out).mono ?_
                        rintro e x6 ⟨rfl, f⟩
                        have HX6 := toHid8 (show Fr None' wr x6 from HX5.out.then7 f)
                        clear f
                        go_wp2_with fail
                        exact ⟨⟨k + 1, by have := HKt.out; omega, by go_num, (HFk.out.then7 HX6.out)⟩, by simp [intOf]; have := HKt.out; omega⟩
                      case false =>
                        go_wp2_with fail
                        refine ((HZ3.out (by trivial)) _ (Fr.refl _ _)).mono ?_
                        rintro e x1 ⟨rfl, f⟩
                        have HX1 := toHid8 (show Fr None' wr x1 from f)
                        clear f
                        go_wp2_with fail
                        refine ((HZ1.out) _ HX1.out).mono ?_
                        rintro e x2 ⟨rfl, f⟩
                        have HX2 := toHid8 (show Fr None' wr x2 from HX1.out.then7 f)
                        clear f
                        go_wp2_with fail
                        refine ((HZ2.out) _ HX2.out).mono ?_
                        rintro e x3 ⟨rfl, f⟩
                        have HX3 := toHid8 (show Fr None' wr x3 from HX2.out.then7 f)
                        clear f
                        go_wp2_with fail
                        refine ((HZ6.out (by trivial)) _ HX3.out).mono ?_
                        rintro e x4 ⟨rfl, f⟩
                        have HX4 := toHid8 (show Fr None' wr x4 from HX3.out.then7 f)
                        clear f
                        go_wp2_with fail
                        refine ((HZ4.out) _ HX4.out).mono ?_
                        rintro e x5 ⟨rfl, f⟩
                        have HX5 := toHid8 (show Fr None' wr x5 from HX4.out.then7 f)
                        clear f
                        go_wp2_with fail
                        refine ((HZ5.out) _ HX5.out).mono ?_
                        rintro e x6 ⟨rfl, f⟩
                        have HX6 := toHid8 (show Fr None' wr x6 from HX5.out.then7 f)
                        clear f
                        go_wp2_with fail
                        exact ⟨⟨k + 1, by have := HKt.out; omega, by go_num, (HFk.out.then7 HX6.out)⟩, by simp [intOf]; have := HKt.out; omega⟩
                case false =>
                  cases J
                  case false =>
                    go_wp2_with fail
                    refine ((HZ3.out (by trivial)) _ (Fr.refl _ _)).mono ?_
                    rintro e x1 ⟨rfl, f⟩
                    have HX1 := toHid8 (show Fr None' wr x1 from f)
                    clear f
                    go_wp2_with fail
                    refine ((HZ1.out) _ HX1.out).mono ?_
                    rintro e x2 ⟨rfl, f⟩
                    have HX2 := toHid8 (show Fr None' wr x2 from HX1.out.then7 f)
                    clear f
                    go_wp2_with fail
                    refine ((HZ2.out) _ HX2.out).mono ?_
                    rintro e x3 ⟨rfl, f⟩
                    have HX3 := toHid8 (show Fr None' wr x3 from HX2.out.then7 f)
                    clear f
                    go_wp2_with fail
                    exact ⟨⟨k + 1, by have := HKt.out; omega, by go_num, (HFk.out.then7 HX3.out)⟩, by simp [intOf]; have := HKt.out; omega⟩
                  case true =>
                    cases U
                    case true =>
                      go_wp2_with fail
                      refine ((HZ3.out (by trivial)) _ (Fr.refl _ _)).mono ?_
                      rintro e x1 ⟨rfl, f⟩
                      have HX1 := toHid8 (show Fr None' wr x1 from f)
                      clear f
                      go_wp2_with fail
                      refine ((HZ1.out) _ HX1.out).mono ?_
                      rintro e x2 ⟨rfl, f⟩
                      have HX2 := toHid8 (show Fr None' wr x2 from HX1.out.then7 f)
                      clear f
                      go_wp2_with fail
                      refine ((HZ2.out) _ HX2.out).mono ?_
                      rintro e x3 ⟨rfl, f⟩
                      have HX3 := toHid8 (show Fr None' wr x3 from HX2.out.then7 f)
                      clear f
                      go_wp2_with fail
                      refine ((HZ6.out (by trivial)) _ HX3.out).mono ?_
                      rintro e x4 ⟨rfl, f⟩
                      have HX4 := toHid8 (show Fr None' wr x4 from HX3.out.then7 f)
                      clear f
                      go_wp2_with fail
                      refine ((HZ4.out) _ HX4.out).mono ?_
                      rintro e x5 ⟨rfl, f⟩
                      have HX5 := toHid8 (show Fr None' wr x5 from HX4.out.then7 f)
                      clear f
                      go_wp2_with fail
                      exact ⟨⟨k + 1, by have := HKt.out; omega, by go_num, (HFk.out.then7 HX5.out)⟩, by simp [intOf]; have := HKt.out; omega⟩
                    case false =>
                      cases V
                      case true =>
                        go_wp2_with fail
                        refine ((HZ3.out (by trivial)) _ (Fr.refl _ _)).mono ?_
                        rintro e x1 ⟨rfl, f⟩
                        have HX1 := toHid8 (show Fr None' wr x1 from f)
                        clear f
                        go_wp2_with fail
                        refine ((HZ1.out) _ HX1.out).mono ?_
                        rintro e x2 ⟨rfl, f⟩
                        have HX2 := toHid8 (show Fr None' wr x2 from HX1.out.then7 f)
                        clear f
                        go_wp2_with fail
                        refine ((HZ2.out) _ HX2.out).mono ?_
                        rintro e x3 ⟨rfl, f⟩
                        have HX3 := toHid8 (show Fr None' wr x3 from HX2.out.then7 f)
                        clear f
                        go_wp2_with fail
                        refine ((HZ6.out (by trivial)) _ HX3.out).mono ?_
                        rintro e x4 ⟨rfl, f⟩
                        have HX4 := toHid8 (show Fr None' wr x4 from HX3.out.then7 f)
                        clear f
                        go_wp2_with fail
                        refine ((HZ4.out) _ HX4.out).mono ?_
                        rintro e x5 ⟨rfl, f⟩
                        have HX5 := toHid8 (show Fr None' wr x5 from HX4.out.then7 f)
                        clear f
                        go_wp2_with fail
                        refine ((HZ5.out) _ HX5.out).mono ?_
                        rintro e x6 ⟨rfl, f⟩
                        have HX6 := toHid8 (show Fr None' wr x6 from HX5.out.then7 f)
                        clear f
                        go_wp2_with fail
                        exact ⟨⟨k + 1, by have := HKt.out; omega, by go_num, (HFk.out.then7 HX6.out)⟩, by simp [intOf]; have := HKt.out; omega⟩
                      case false =>
                        go_wp2_with fail
                        refine ((HZ3.out (by trivial)) _ (Fr.refl _ _)).mono ?_
                        rintro e x1 ⟨rfl, f⟩
                        have HX1 := toHid8 (show Fr None' wr x1 from f)
                        clear f
                        go_wp2_with fail
                        refine ((HZ1.out) _ HX1.out).mono ?_
                        rintro e x2 ⟨rfl, f⟩
                        have HX2 := toHid8 (show Fr None' wr x2 from HX1.out.then7 f)
                        clear f
                        go_wp2_with fail
                        refine ((HZ2.out) _ HX2.out).mono ?_
                        rintro e x3 ⟨rfl, f⟩
                        have HX3 := toHid8 (show Fr None' wr x3 from HX2.out.then7 f)
                        clear f
                        go_wp2_with fail
                        refine ((HZ6.out (by trivial)) _ HX3.out).mono ?_
                        rintro e x4 ⟨rfl, f⟩
                        have HX4 := toHid8 (show Fr None' wr x4 from HX3.out.then7 f)
                        clear f
                        go_wp2_with fail
                        refine ((HZ4.out) _ HX4.out).mono ?_
                        rintro e x5 ⟨rfl, f⟩
                        have HX5 := toHid8 (show Fr None' wr x5 from HX4.out.then7 f)
                        clear f
                        go_wp2_with fail
                        refine ((HZ5.out) _ HX5.out).mono ?_
                        rintro e x6 ⟨rfl, f⟩
                        have HX6 := toHid8 (show Fr None' wr x6 from HX5.out.then7 f)
                        clear f
                        go_wp2_with fail
                        exact ⟨⟨k + 1, by have := HKt.out; omega, by go_num, (HFk.out.then7 HX6.out)⟩, by simp [intOf]; have := HKt.out; omega⟩
      · as_aux_lemma =>
        go_wp2_with fail
        go_loopw [21] (fun vi wr => ∃ k : Nat, k ≤ n ∧ vi = .int .i64 k ∧ Hid (Fr None' wb wr)) (fun vi _ => n - (intOf vi).toNat)
        case atStart => exact ⟨0, Nat.zero_le _, rfl, Fr.refl _ _⟩
        case round =>
          obtain ⟨k, hk, rfl, HFk⟩ := hrel
          have HFw := toHid8 (HFb.out.then7 HFk.out)
          by_cases hkt : k < n
          case neg =>
            have i6 : ¬ (k : Int) < (n : Int) := by omega
            clear hkt
            go_wp2_with fail
            go_ret
            exact ⟨rfl, HFw.out⟩
          case pos =>
            have hka : k < Z.length := by rw [HL.out]; exact hkt
            obtain ⟨g, o, rfl, c0, -, -, -⟩ := HRow.out.kept HFw.out k _ (List.getElem?_eq_getElem hka)
            obtain ⟨s, hs⟩ : ∃ s, Z[k].x.name = s := ⟨_, rfl⟩
            rw [hs] at c0
            obtain ⟨G, hGe⟩ : ∃ G, (er3 == 0) = G := ⟨_, rfl⟩
            obtain ⟨J, hJe⟩ : ∃ J, (er6 == 0) = J := ⟨_, rfl⟩
            obtain ⟨X, hX⟩ : ∃ X, hasB (K1.map mkB) s = X := ⟨_, rfl⟩
            obtain ⟨Y, hY⟩ : ∃ Y, hasB (K2.map mkB) s = Y := ⟨_, rfl⟩
            obtain ⟨U, hU⟩ : ∃ U, hasB (K4.map mkB) s = U := ⟨_, rfl⟩
            obtain ⟨V, hV⟩ : ∃ V, hasB (K5.map mkB) s = V := ⟨_, rfl⟩
            have HZ1 := toHid8 (fun wx (f : Fr None' wr wx) => has14_any p1 n1 c1 _ s wx HK1.out.1 (HSa.out wx (HFk.out.then7 f)) (by have := HK1.out.2; omega))
            have HZ2 := toHid8 (fun wx (f : Fr None' wr wx) => has14_any p2 n2 c2 _ s wx HK2.out.1 (HSb.out wx (HFk.out.then7 f)) (by have := HK2.out.2; omega))
            have HZ4 := toHid8 (fun wx (f : Fr None' wr wx) => has14_any p4 n4 c4 _ s wx HK4.out.1 (HSd.out wx (HFk.out.then7 f)) (by have := HK4.out.2; omega))
            have HZ5 := toHid8 (fun wx (f : Fr None' wr wx) => has14_any p5 n5 c5 _ s wx HK5.out.1 (HSe.out wx (HFk.out.then7 f)) (by have := HK5.out.2; omega))
            have HZ3 := toHid8 (show G = true → ∀ wx, Fr None' wr wx → Calls Tryz.prog 23 #[.slice p3 n3 c3, .string s] wx fun e w' => e = .returned (.bool (X || Y)) ∧ Fr None' wx w' from fun hg wx f => by
              have h := has14_any p3 n3 c3 _ s wx HK3.out.1 (HSc.out wx (HFk.out.then7 f)) (by have := HK3.out.2; omega)
              rw [has_or14 (U3.out.2 (by rw [hg] at hGe; simpa using hGe)), hX, hY] at h
              exact h)
            have HZ6 := toHid8 (show J = true → ∀ wx, Fr None' wr wx → Calls Tryz.prog 23 #[.slice p6 n6 c6, .string s] wx fun e w' => e = .returned (.bool (U || V)) ∧ Fr None' wx w' from fun hg wx f => by
              have h := has14_any p6 n6 c6 _ s wx HK6.out.1 (HSf.out wx (HFk.out.then7 f)) (by have := HK6.out.2; omega)
              rw [has_or14 (U6.out.2 (by rw [hg] at hJe; simpa using hJe)), hU, hV] at h
              exact h)
            rw [hX] at HZ1
            rw [hY] at HZ2
            rw [hU] at HZ4
            rw [hV] at HZ5
            have i3 : (k : Int) < (n : Int) := by omega
            have i4 : (0 : Int) ≤ (k : Int) := by omega
            have HKt := toHid8 hkt
            clear hka hs hkt hX hY hU hV hG hJ hE hF hH hI
            cases G
            case false =>
              cases J
              case false =>
                go_wp2_with fail
                exact ⟨⟨k + 1, by have := HKt.out; omega, by go_num, HFk.out⟩, by simp [intOf]; have := HKt.out; omega⟩
              case true =>
                cases U
                case true =>
                  go_wp2_with fail
                  refine ((HZ6.out (by trivial)) _ (Fr.refl _ _)).mono ?_
                  rintro e x1 ⟨rfl, f⟩
                  have HX1 := toHid8 (show Fr None' wr x1 from f)
                  clear f
                  go_wp2_with fail
                  refine ((HZ4.out) _ HX1.out).mono ?_
                  rintro e x2 ⟨rfl, f⟩
                  have HX2 := toHid8 (show Fr None' wr x2 from HX1.out.then7 f)
                  clear f
                  go_wp2_with fail
                  exact ⟨⟨k + 1, by have := HKt.out; omega, by go_num, (HFk.out.then7 HX2.out)⟩, by simp [intOf]; have := HKt.out; omega⟩
                case false =>
                  cases V
                  case true =>
                    go_wp2_with fail
                    refine ((HZ6.out (by trivial)) _ (Fr.refl _ _)).mono ?_
                    rintro e x1 ⟨rfl, f⟩
                    have HX1 := toHid8 (show Fr None' wr x1 from f)
                    clear f
                    go_wp2_with fail
                    refine ((HZ4.out) _ HX1.out).mono ?_
                    rintro e x2 ⟨rfl, f⟩
                    have HX2 := toHid8 (show Fr None' wr x2 from HX1.out.then7 f)
                    clear f
                    go_wp2_with fail
                    refine ((HZ5.out) _ HX2.out).mono ?_
                    rintro e x3 ⟨rfl, f⟩
                    have HX3 := toHid8 (show Fr None' wr x3 from HX2.out.then7 f)
                    clear f
                    go_wp2_with fail
                    exact ⟨⟨k + 1, by have := HKt.out; omega, by go_num, (HFk.out.then7 HX3.out)⟩, by simp [intOf]; have := HKt.out; omega⟩
                  case false =>
                    go_wp2_with fail
                    refine ((HZ6.out (by trivial)) _ (Fr.refl _ _)).mono ?_
                    rintro e x1 ⟨rfl, f⟩
                    have HX1 := toHid8 (show Fr None' wr x1 from f)
                    clear f
                    go_wp2_with fail
                    refine ((HZ4.out) _ HX1.out).mono ?_
                    rintro e x2 ⟨rfl, f⟩
                    have HX2 := toHid8 (show Fr None' wr x2 from HX1.out.then7 f)
                    clear f
                    go_wp2_with fail
                    refine ((HZ5.out) _ HX2.out).mono ?_
                    rintro e x3 ⟨rfl, f⟩
                    have HX3 := toHid8 (show Fr None' wr x3 from HX2.out.then7 f)
                    clear f
                    go_wp2_with fail
                    exact ⟨⟨k + 1, by have := HKt.out; omega, by go_num, (HFk.out.then7 HX3.out)⟩, by simp [intOf]; have := HKt.out; omega⟩
            case true =>
              cases X
              case true =>
                cases J
                case false =>
                  go_wp2_with fail
                  refine ((HZ3.out (by trivial)) _ (Fr.refl _ _)).mono ?_
                  rintro e x1 ⟨rfl, f⟩
                  have HX1 := toHid8 (show Fr None' wr x1 from f)
                  clear f
                  go_wp2_with fail
                  refine ((HZ1.out) _ HX1.out).mono ?_
                  rintro e x2 ⟨rfl, f⟩
                  have HX2 := toHid8 (show Fr None' wr x2 from HX1.out.then7 f)
                  clear f
                  go_wp2_with fail
                  exact ⟨⟨k + 1, by have := HKt.out; omega, by go_num, (HFk.out.then7 HX2.out)⟩, by simp [intOf]; have := HKt.out; omega⟩
                case true =>
                  cases U
                  case true =>
                    go_wp2_with fail
                    refine ((HZ3.out (by trivial)) _ (Fr.refl _ _)).mono ?_
                    rintro e x1 ⟨rfl, f⟩
                    have HX1 := toHid8 (show Fr None' wr x1 from f)
                    clear f
                    go_wp2_with fail
                    refine ((HZ1.out) _ HX1.out).mono ?_
                    rintro e x2 ⟨rfl, f⟩
                    have HX2 := toHid8 (show Fr None' wr x2 from HX1.out.then7 f)
                    clear f
                    go_wp2_with fail
                    refine ((HZ6.out (by trivial)) _ HX2.out).mono ?_
                    rintro e x3 ⟨rfl, f⟩
                    have HX3 := toHid8 (show Fr None' wr x3 from HX2.out.then7 f)
                    clear f
                    go_wp2_with fail
                    refine ((HZ4.out) _ HX3.out).mono ?_
                    rintro e x4 ⟨rfl, f⟩
                    have HX4 := toHid8 (show Fr None' wr x4 from HX3.out.then7 f)
                    clear f
                    go_wp2_with fail
                    exact ⟨⟨k + 1, by have := HKt.out; omega, by go_num, (HFk.out.then7 HX4.out)⟩, by simp [intOf]; have := HKt.out; omega⟩
                  case false =>
                    cases V
                    case true =>
                      go_wp2_with fail
                      refine ((HZ3.out (by trivial)) _ (Fr.refl _ _)).mono ?_
                      rintro e x1 ⟨rfl, f⟩
                      have HX1 := toHid8 (show Fr None' wr x1 from f)
                      clear f
                      go_wp2_with fail
                      refine ((HZ1.out) _ HX1.out).mono ?_
                      rintro e x2 ⟨rfl, f⟩
                      have HX2 := toHid8 (show Fr None' wr x2 from HX1.out.then7 f)
                      clear f
                      go_wp2_with fail
                      refine ((HZ6.out (by trivial)) _ HX2.out).mono ?_
                      rintro e x3 ⟨rfl, f⟩
                      have HX3 := toHid8 (show Fr None' wr x3 from HX2.out.then7 f)
                      clear f
                      go_wp2_with fail
                      refine ((HZ4.out) _ HX3.out).mono ?_
                      rintro e x4 ⟨rfl, f⟩
                      have HX4 := toHid8 (show Fr None' wr x4 from HX3.out.then7 f)
                      clear f
                      go_wp2_with fail
                      refine ((HZ5.out) _ HX4.out).mono ?_
                      rintro e x5 ⟨rfl, f⟩
                      have HX5 := toHid8 (show Fr None' wr x5 from HX4.out.then7 f)
                      clear f
                      go_wp2_with fail
                      exact ⟨⟨k + 1, by have := HKt.out; omega, by go_num, (HFk.out.then7 HX5.out)⟩, by simp [intOf]; have := HKt.out; omega⟩
                    case false =>
                      go_wp2_with fail
                      refine ((HZ3.out (by trivial)) _ (Fr.refl _ _)).mono ?_
                      rintro e x1 ⟨rfl, f⟩
                      have HX1 := toHid8 (show Fr None' wr x1 from f)
                      clear f
                      go_wp2_with fail
                      refine ((HZ1.out) _ HX1.out).mono ?_
                      rintro e x2 ⟨rfl, f⟩
                      have HX2 := toHid8 (show Fr None' wr x2 from HX1.out.then7 f)
                      clear f
                      go_wp2_with fail
                      refine ((HZ6.out (by trivial)) _ HX2.out).mono ?_
                      rintro e x3 ⟨rfl, f⟩
                      have HX3 := toHid8 (show Fr None' wr x3 from HX2.out.then7 f)
                      clear f
                      go_wp2_with fail
                      refine ((HZ4.out) _ HX3.out).mono ?_
                      rintro e x4 ⟨rfl, f⟩
                      have HX4 := toHid8 (show Fr None' wr x4 from HX3.out.then7 f)
                      clear f
                      go_wp2_with fail
                      refine ((HZ5.out) _ HX4.out).mono ?_
                      rintro e x5 ⟨rfl, f⟩
                      have HX5 := toHid8 (show Fr None' wr x5 from HX4.out.then7 f)
                      clear f
                      go_wp2_with fail
                      exact ⟨⟨k + 1, by have := HKt.out; omega, by go_num, (HFk.out.then7 HX5.out)⟩, by simp [intOf]; have := HKt.out; omega⟩
              case false =>
                cases Y
                case true =>
                  cases J
                  case false =>
                    go_wp2_with fail
                    refine ((HZ3.out (by trivial)) _ (Fr.refl _ _)).mono ?_
                    rintro e x1 ⟨rfl, f⟩
                    have HX1 := toHid8 (show Fr None' wr x1 from f)
                    clear f
                    go_wp2_with fail
                    refine ((HZ1.out) _ HX1.out).mono ?_
                    rintro e x2 ⟨rfl, f⟩
                    have HX2 := toHid8 (show Fr None' wr x2 from HX1.out.then7 f)
                    clear f
                    go_wp2_with fail
                    refine ((HZ2.out) _ HX2.out).mono ?_
                    rintro e x3 ⟨rfl, f⟩
                    have HX3 := toHid8 (show Fr None' wr x3 from HX2.out.then7 f)
                    clear f
                    go_wp2_with fail
                    exact ⟨⟨k + 1, by have := HKt.out; omega, by go_num, (HFk.out.then7 HX3.out)⟩, by simp [intOf]; have := HKt.out; omega⟩
                  case true =>
                    cases U
                    case true =>
                      go_wp2_with fail
                      refine ((HZ3.out (by trivial)) _ (Fr.refl _ _)).mono ?_
                      rintro e x1 ⟨rfl, f⟩
                      have HX1 := toHid8 (show Fr None' wr x1 from f)
                      clear f
                      go_wp2_with fail
                      refine ((HZ1.out) _ HX1.out).mono ?_
                      rintro e x2 ⟨rfl, f⟩
                      have HX2 := toHid8 (show Fr None' wr x2 from HX1.out.then7 f)
                      clear f
                      go_wp2_with fail
                      refine ((HZ2.out) _ HX2.out).mono ?_
                      rintro e x3 ⟨rfl, f⟩
                      have HX3 := toHid8 (show Fr None' wr x3 from HX2.out.then7 f)
                      clear f
                      go_wp2_with fail
                      refine ((HZ6.out (by trivial)) _ HX3.out).mono ?_
                      rintro e x4 ⟨rfl, f⟩
                      have HX4 := toHid8 (show Fr None' wr x4 from HX3.out.then7 f)
                      clear f
                      go_wp2_with fail
                      refine ((HZ4.out) _ HX4.out).mono ?_
                      rintro e x5 ⟨rfl, f⟩
                      have HX5 := toHid8 (show Fr None' wr x5 from HX4.out.then7 f)
                      clear f
                      go_wp2_with fail
                      exact ⟨⟨k + 1, by have := HKt.out; omega, by go_num, (HFk.out.then7 HX5.out)⟩, by simp [intOf]; have := HKt.out; omega⟩
                    case false =>
                      cases V
                      case true =>
                        go_wp2_with fail
                        refine ((HZ3.out (by trivial)) _ (Fr.refl _ _)).mono ?_
                        rintro e x1 ⟨rfl, f⟩
                        have HX1 := toHid8 (show Fr None' wr x1 from f)
                        clear f
                        go_wp2_with fail
                        refine ((HZ1.out) _ HX1.out).mono ?_
                        rintro e x2 ⟨rfl, f⟩
                        have HX2 := toHid8 (show Fr None' wr x2 from HX1.out.then7 f)
                        clear f
                        go_wp2_with fail
                        refine ((HZ2.out) _ HX2.out).mono ?_
                        rintro e x3 ⟨rfl, f⟩
                        have HX3 := toHid8 (show Fr None' wr x3 from HX2.out.then7 f)
                        clear f
                        go_wp2_with fail
                        refine ((HZ6.out (by trivial)) _ HX3.out).mono ?_
                        rintro e x4 ⟨rfl, f⟩
                        have HX4 := toHid8 (show Fr None' wr x4 from HX3.out.then7 f)
                        clear f
                        go_wp2_with fail
                        refine ((HZ4.out) _ HX4.out).mono ?_
                        rintro e x5 ⟨rfl, f⟩
                        have HX5 := toHid8 (show Fr None' wr x5 from HX4.out.then7 f)
                        clear f
                        go_wp2_with fail
                        refine ((HZ5.out) _ HX5.out).mono ?_
                        rintro e x6 ⟨rfl, f⟩
                        have HX6 := toHid8 (show Fr None' wr x6 from HX5.out.then7 f)
                        clear f
                        go_wp2_with fail
                        exact ⟨⟨k + 1, by have := HKt.out; omega, by go_num, (HFk.out.then7 HX6.out)⟩, by simp [intOf]; have := HKt.out; omega⟩
                      case false =>
                        go_wp2_with fail
                        refine ((HZ3.out (by trivial)) _ (Fr.refl _ _)).mono ?_
                        rintro e x1 ⟨rfl, f⟩
                        have HX1 := toHid8 (show Fr None' wr x1 from f)
                        clear f
                        go_wp2_with fail
                        refine ((HZ1.out) _ HX1.out).mono ?_
                        rintro e x2 ⟨rfl, f⟩
                        have HX2 := toHid8 (show Fr None' wr x2 from HX1.out.then7 f)
                        clear f
                        go_wp2_with fail
                        refine ((HZ2.out) _ HX2.out).mono ?_
                        rintro e x3 ⟨rfl, f⟩
                        have HX3 := toHid8 (show Fr None' wr x3 from HX2.out.then7 f)
                        clear f
                        go_wp2_with fail
                        refine ((HZ6.out (by trivial)) _ HX3.out).mono ?_
                        rintro e x4 ⟨rfl, f⟩
                        have HX4 := toHid8 (show Fr None' wr x4 from HX3.out.then7 f)
                        clear f
                        go_wp2_with fail
                        refine ((HZ4.out) _ HX4.out).mono ?_
                        rintro e x5 ⟨rfl, f⟩
                        have HX5 := toHid8 (show Fr None' wr x5 from HX4.out.then7 f)
                        clear f
                        go_wp2_with fail
                        refine ((HZ5.out) _ HX5.out).mono ?_
                        rintro e x6 ⟨rfl, f⟩
                        have HX6 := toHid8 (show Fr None' wr x6 from HX5.out.then7 f)
                        clear f
                        go_wp2_with fail
                        exact ⟨⟨k + 1, by have := HKt.out; omega, by go_num, (HFk.out.then7 HX6.out)⟩, by simp [intOf]; have := HKt.out; omega⟩
                case false =>
                  cases J
                  case false =>
                    go_wp2_with fail
                    refine ((HZ3.out (by trivial)) _ (Fr.refl _ _)).mono ?_
                    rintro e x1 ⟨rfl, f⟩
                    have HX1 := toHid8 (show Fr None' wr x1 from f)
                    clear f
                    go_wp2_with fail
                    refine ((HZ1.out) _ HX1.out).mono ?_
                    rintro e x2 ⟨rfl, f⟩
                    have HX2 := toHid8 (show Fr None' wr x2 from HX1.out.then7 f)
                    clear f
                    go_wp2_with fail
                    refine ((HZ2.out) _ HX2.out).mono ?_
                    rintro e x3 ⟨rfl, f⟩
                    have HX3 := toHid8 (show Fr None' wr x3 from HX2.out.then7 f)
                    clear f
                    go_wp2_with fail
                    exact ⟨⟨k + 1, by have := HKt.out; omega, by go_num, (HFk.out.then7 HX3.out)⟩, by simp [intOf]; have := HKt.out; omega⟩
                  case true =>
                    cases U
                    case true =>
                      go_wp2_with fail
                      refine ((HZ3.out (by trivial)) _ (Fr.refl _ _)).mono ?_
                      rintro e x1 ⟨rfl, f⟩
                      have HX1 := toHid8 (show Fr None' wr x1 from f)
                      clear f
                      go_wp2_with fail
                      refine ((HZ1.out) _ HX1.out).mono ?_
                      rintro e x2 ⟨rfl, f⟩
                      have HX2 := toHid8 (show Fr None' wr x2 from HX1.out.then7 f)
                      clear f
                      go_wp2_with fail
                      refine ((HZ2.out) _ HX2.out).mono ?_
                      rintro e x3 ⟨rfl, f⟩
                      have HX3 := toHid8 (show Fr None' wr x3 from HX2.out.then7 f)
                      clear f
                      go_wp2_with fail
                      refine ((HZ6.out (by trivial)) _ HX3.out).mono ?_
                      rintro e x4 ⟨rfl, f⟩
                      have HX4 := toHid8 (show Fr None' wr x4 from HX3.out.then7 f)
                      clear f
                      go_wp2_with fail
                      refine ((HZ4.out) _ HX4.out).mono ?_
                      rintro e x5 ⟨rfl, f⟩
                      have HX5 := toHid8 (show Fr None' wr x5 from HX4.out.then7 f)
                      clear f
                      go_wp2_with fail
                      exact ⟨⟨k + 1, by have := HKt.out; omega, by go_num, (HFk.out.then7 HX5.out)⟩, by simp [intOf]; have := HKt.out; omega⟩
                    case false =>
                      cases V
                      case true =>
                        go_wp2_with fail
                        refine ((HZ3.out (by trivial)) _ (Fr.refl _ _)).mono ?_
                        rintro e x1 ⟨rfl, f⟩
                        have HX1 := toHid8 (show Fr None' wr x1 from f)
                        clear f
                        go_wp2_with fail
                        refine ((HZ1.out) _ HX1.out).mono ?_
                        rintro e x2 ⟨rfl, f⟩
                        have HX2 := toHid8 (show Fr None' wr x2 from HX1.out.then7 f)
                        clear f
                        go_wp2_with fail
                        refine ((HZ2.out) _ HX2.out).mono ?_
                        rintro e x3 ⟨rfl, f⟩
                        have HX3 := toHid8 (show Fr None' wr x3 from HX2.out.then7 f)
                        clear f
                        go_wp2_with fail
                        refine ((HZ6.out (by trivial)) _ HX3.out).mono ?_
                        rintro e x4 ⟨rfl, f⟩
                        have HX4 := toHid8 (show Fr None' wr x4 from HX3.out.then7 f)
                        clear f
                        go_wp2_with fail
                        refine ((HZ4.out) _ HX4.out).mono ?_
                        rintro e x5 ⟨rfl, f⟩
                        have HX5 := toHid8 (show Fr None' wr x5 from HX4.out.then7 f)
                        clear f
                        go_wp2_with fail
                        refine ((HZ5.out) _ HX5.out).mono ?_
                        rintro e x6 ⟨rfl, f⟩
                        have HX6 := toHid8 (show Fr None' wr x6 from HX5.out.then7 f)
                        clear f
                        go_wp2_with fail
                        exact ⟨⟨k + 1, by have := HKt.out; omega, by go_num, (HFk.out.then7 HX6.out)⟩, by simp [intOf]; have := HKt.out; omega⟩
                      case false =>
                        go_wp2_with fail
                        refine ((HZ3.out (by trivial)) _ (Fr.refl _ _)).mono ?_
                        rintro e x1 ⟨rfl, f⟩
                        have HX1 := toHid8 (show Fr None' wr x1 from f)
                        clear f
                        go_wp2_with fail
                        refine ((HZ1.out) _ HX1.out).mono ?_
                        rintro e x2 ⟨rfl, f⟩
                        have HX2 := toHid8 (show Fr None' wr x2 from HX1.out.then7 f)
                        clear f
                        go_wp2_with fail
                        refine ((HZ2.out) _ HX2.out).mono ?_
                        rintro e x3 ⟨rfl, f⟩
                        have HX3 := toHid8 (show Fr None' wr x3 from HX2.out.then7 f)
                        clear f
                        go_wp2_with fail
                        refine ((HZ6.out (by trivial)) _ HX3.out).mono ?_
                        rintro e x4 ⟨rfl, f⟩
                        have HX4 := toHid8 (show Fr None' wr x4 from HX3.out.then7 f)
                        clear f
                        go_wp2_with fail
                        refine ((HZ4.out) _ HX4.out).mono ?_
                        rintro e x5 ⟨rfl, f⟩
                        have HX5 := toHid8 (show Fr None' wr x5 from HX4.out.then7 f)
                        clear f
                        go_wp2_with fail
                        refine ((HZ5.out) _ HX5.out).mono ?_
                        rintro e x6 ⟨rfl, f⟩
                        have HX6 := toHid8 (show Fr None' wr x6 from HX5.out.then7 f)
                        clear f
                        go_wp2_with fail
                        exact ⟨⟨k + 1, by have := HKt.out; omega, by go_num, (HFk.out.then7 HX6.out)⟩, by simp [intOf]; have := HKt.out; omega⟩
      · as_aux_lemma =>
        go_wp2_with fail
        go_loopw [21] (fun vi wr => ∃ k : Nat, k ≤ n ∧ vi = .int .i64 k ∧ Hid (Fr None' wb wr)) (fun vi _ => n - (intOf vi).toNat)
        case atStart => exact ⟨0, Nat.zero_le _, rfl, Fr.refl _ _⟩
        case round =>
          obtain ⟨k, hk, rfl, HFk⟩ := hrel
          have HFw := toHid8 (HFb.out.then7 HFk.out)
          by_cases hkt : k < n
          case neg =>
            have i6 : ¬ (k : Int) < (n : Int) := by omega
            clear hkt
            go_wp2_with fail
            go_ret
            exact ⟨rfl, HFw.out⟩
          case pos =>
            have hka : k < Z.length := by rw [HL.out]; exact hkt
            obtain ⟨g, o, rfl, c0, -, -, -⟩ := HRow.out.kept HFw.out k _ (List.getElem?_eq_getElem hka)
            obtain ⟨s, hs⟩ : ∃ s, Z[k].x.name = s := ⟨_, rfl⟩
            rw [hs] at c0
            obtain ⟨G, hGe⟩ : ∃ G, (er3 == 0) = G := ⟨_, rfl⟩
            obtain ⟨J, hJe⟩ : ∃ J, (er6 == 0) = J := ⟨_, rfl⟩
            obtain ⟨X, hX⟩ : ∃ X, hasB (K1.map mkB) s = X := ⟨_, rfl⟩
            obtain ⟨Y, hY⟩ : ∃ Y, hasB (K2.map mkB) s = Y := ⟨_, rfl⟩
            obtain ⟨U, hU⟩ : ∃ U, hasB (K4.map mkB) s = U := ⟨_, rfl⟩
            obtain ⟨V, hV⟩ : ∃ V, hasB (K5.map mkB) s = V := ⟨_, rfl⟩
            have HZ1 := toHid8 (fun wx (f : Fr None' wr wx) => has14_any p1 n1 c1 _ s wx HK1.out.1 (HSa.out wx (HFk.out.then7 f)) (by have := HK1.out.2; omega))
            have HZ2 := toHid8 (fun wx (f : Fr None' wr wx) => has14_any p2 n2 c2 _ s wx HK2.out.1 (HSb.out wx (HFk.out.then7 f)) (by have := HK2.out.2; omega))
            have HZ4 := toHid8 (fun wx (f : Fr None' wr wx) => has14_any p4 n4 c4 _ s wx HK4.out.1 (HSd.out wx (HFk.out.then7 f)) (by have := HK4.out.2; omega))
            have HZ5 := toHid8 (fun wx (f : Fr None' wr wx) => has14_any p5 n5 c5 _ s wx HK5.out.1 (HSe.out wx (HFk.out.then7 f)) (by have := HK5.out.2; omega))
            have HZ3 := toHid8 (show G = true → ∀ wx, Fr None' wr wx → Calls Tryz.prog 23 #[.slice p3 n3 c3, .string s] wx fun e w' => e = .returned (.bool (X || Y)) ∧ Fr None' wx w' from fun hg wx f => by
              have h := has14_any p3 n3 c3 _ s wx HK3.out.1 (HSc.out wx (HFk.out.then7 f)) (by have := HK3.out.2; omega)
              rw [has_or14 (U3.out.2 (by rw [hg] at hGe; simpa using hGe)), hX, hY] at h
              exact h)
            have HZ6 := toHid8 (show J = true → ∀ wx, Fr None' wr wx → Calls Tryz.prog 23 #[.slice p6 n6 c6, .string s] wx fun e w' => e = .returned (.bool (U || V)) ∧ Fr None' wx w' from fun hg wx f => by
              have h := has14_any p6 n6 c6 _ s wx HK6.out.1 (HSf.out wx (HFk.out.then7 f)) (by have := HK6.out.2; omega)
              rw [has_or14 (U6.out.2 (by rw [hg] at hJe; simpa using hJe)), hU, hV] at h
              exact h)
            rw [hX] at HZ1
            rw [hY] at HZ2
            rw [hU] at HZ4
            rw [hV] at HZ5
            have i3 : (k : Int) < (n : Int) := by omega
            have i4 : (0 : Int) ≤ (k : Int) := by omega
            have HKt := toHid8 hkt
            clear hka hs hkt hX hY hU hV hG hJ hE hF hH hI
            cases G
            case false =>
              cases J
              case false =>
                go_wp2_with fail
                exact ⟨⟨k + 1, by have := HKt.out; omega, by go_num, HFk.out⟩, by simp [intOf]; have := HKt.out; omega⟩
              case true =>
                cases U
                case true =>
                  go_wp2_with fail
                  refine ((HZ6.out (by trivial)) _ (Fr.refl _ _)).mono ?_
                  rintro e x1 ⟨rfl, f⟩
                  have HX1 := toHid8 (show Fr None' wr x1 from f)
                  clear f
                  go_wp2_with fail
                  refine ((HZ4.out) _ HX1.out).mono ?_
                  rintro e x2 ⟨rfl, f⟩
                  have HX2 := toHid8 (show Fr None' wr x2 from HX1.out.then7 f)
                  clear f
                  go_wp2_with fail
                  exact ⟨⟨k + 1, by have := HKt.out; omega, by go_num, (HFk.out.then7 HX2.out)⟩, by simp [intOf]; have := HKt.out; omega⟩
                case false =>
                  cases V
                  case true =>
                    go_wp2_with fail
                    refine ((HZ6.out (by trivial)) _ (Fr.refl _ _)).mono ?_
                    rintro e x1 ⟨rfl, f⟩
                    have HX1 := toHid8 (show Fr None' wr x1 from f)
                    clear f
                    go_wp2_with fail
                    refine ((HZ4.out) _ HX1.out).mono ?_
                    rintro e x2 ⟨rfl, f⟩
                    have HX2 := toHid8 (show Fr None' wr x2 from HX1.out.then7 f)
                    clear f
                    go_wp2_with fail
                    refine ((HZ5.out) _ HX2.out).mono ?_
                    rintro e x3 ⟨rfl, f⟩
                    have HX3 := toHid8 (show Fr None' wr x3 from HX2.out.then7 f)
                    clear f
                    go_wp2_with fail
                    exact ⟨⟨k + 1, by have := HKt.out; omega, by go_num, (HFk.out.then7 HX3.out)⟩, by simp [intOf]; have := HKt.out; omega⟩
                  case false =>
                    go_wp2_with fail
                    refine ((HZ6.out (by trivial)) _ (Fr.refl _ _)).mono ?_
                    rintro e x1 ⟨rfl, f⟩
                    have HX1 := toHid8 (show Fr None' wr x1 from f)
                    clear f
                    go_wp2_with fail
                    refine ((HZ4.out) _ HX1.out).mono ?_
                    rintro e x2 ⟨rfl, f⟩
                    have HX2 := toHid8 (show Fr None' wr x2 from HX1.out.then7 f)
                    clear f
                    go_wp2_with fail
                    refine ((HZ5.out) _ HX2.out).mono ?_
                    rintro e x3 ⟨rfl, f⟩
                    have HX3 := toHid8 (show Fr None' wr x3 from HX2.out.then7 f)
                    clear f
                    go_wp2_with fail
                    exact ⟨⟨k + 1, by have := HKt.out; omega, by go_num, (HFk.out.then7 HX3.out)⟩, by simp [intOf]; have := HKt.out; omega⟩
            case true =>
              cases X
              case true =>
                cases J
                case false =>
                  go_wp2_with fail
                  refine ((HZ3.out (by trivial)) _ (Fr.refl _ _)).mono ?_
                  rintro e x1 ⟨rfl, f⟩
                  have HX1 := toHid8 (show Fr None' wr x1 from f)
                  clear f
                  go_wp2_with fail
                  refine ((HZ1.out) _ HX1.out).mono ?_
                  rintro e x2 ⟨rfl, f⟩
                  have HX2 := toHid8 (show Fr None' wr x2 from HX1.out.then7 f)
                  clear f
                  go_wp2_with fail
                  exact ⟨⟨k + 1, by have := HKt.out; omega, by go_num, (HFk.out.then7 HX2.out)⟩, by simp [intOf]; have := HKt.out; omega⟩
                case true =>
                  cases U
                  case true =>
                    go_wp2_with fail
                    refine ((HZ3.out (by trivial)) _ (Fr.refl _ _)).mono ?_
                    rintro e x1 ⟨rfl, f⟩
                    have HX1 := toHid8 (show Fr None' wr x1 from f)
                    clear f
                    go_wp2_with fail
                    refine ((HZ1.out) _ HX1.out).mono ?_
                    rintro e x2 ⟨rfl, f⟩
                    have HX2 := toHid8 (show Fr None' wr x2 from HX1.out.then7 f)
                    clear f
                    go_wp2_with fail
                    refine ((HZ6.out (by trivial)) _ HX2.out).mono ?_
                    rintro e x3 ⟨rfl, f⟩
                    have HX3 := toHid8 (show Fr None' wr x3 from HX2.out.then7 f)
                    clear f
                    go_wp2_with fail
                    refine ((HZ4.out) _ HX3.out).mono ?_
                    rintro e x4 ⟨rfl, f⟩
                    have HX4 := toHid8 (show Fr None' wr x4 from HX3.out.then7 f)
                    clear f
                    go_wp2_with fail
                    exact ⟨⟨k + 1, by have := HKt.out; omega, by go_num, (HFk.out.then7 HX4.out)⟩, by simp [intOf]; have := HKt.out; omega⟩
                  case false =>
                    cases V
                    case true =>
                      go_wp2_with fail
                      refine ((HZ3.out (by trivial)) _ (Fr.refl _ _)).mono ?_
                      rintro e x1 ⟨rfl, f⟩
                      have HX1 := toHid8 (show Fr None' wr x1 from f)
                      clear f
                      go_wp2_with fail
                      refine ((HZ1.out) _ HX1.out).mono ?_
                      rintro e x2 ⟨rfl, f⟩
                      have HX2 := toHid8 (show Fr None' wr x2 from HX1.out.then7 f)
                      clear f
                      go_wp2_with fail
                      refine ((HZ6.out (by trivial)) _ HX2.out).mono ?_
                      rintro e x3 ⟨rfl, f⟩
                      have HX3 := toHid8 (show Fr None' wr x3 from HX2.out.then7 f)
                      clear f
                      go_wp2_with fail
                      refine ((HZ4.out) _ HX3.out).mono ?_
                      rintro e x4 ⟨rfl, f⟩
                      have HX4 := toHid8 (show Fr None' wr x4 from HX3.out.then7 f)
                      clear f
                      go_wp2_with fail
                      refine ((HZ5.out) _ HX4.out).mono ?_
                      rintro e x5 ⟨rfl, f⟩
                      have HX5 := toHid8 (show Fr None' wr x5 from HX4.out.then7 f)
                      clear f
                      go_wp2_with fail
                      exact ⟨⟨k + 1, by have := HKt.out; omega, by go_num, (HFk.out.then7 HX5.out)⟩, by simp [intOf]; have := HKt.out; omega⟩
                    case false =>
                      go_wp2_with fail
                      refine ((HZ3.out (by trivial)) _ (Fr.refl _ _)).mono ?_
                      rintro e x1 ⟨rfl, f⟩
                      have HX1 := toHid8 (show Fr None' wr x1 from f)
                      clear f
                      go_wp2_with fail
                      refine ((HZ1.out) _ HX1.out).mono ?_
                      rintro e x2 ⟨rfl, f⟩
                      have HX2 := toHid8 (show Fr None' wr x2 from HX1.out.then7 f)
                      clear f
                      go_wp2_with fail
                      refine ((HZ6.out (by trivial)) _ HX2.out).mono ?_
                      rintro e x3 ⟨rfl, f⟩
                      have HX3 := toHid8 (show Fr None' wr x3 from HX2.out.then7 f)
                      clear f
                      go_wp2_with fail
                      refine ((HZ4.out) _ HX3.out).mono ?_
                      rintro e x4 ⟨rfl, f⟩
                      have HX4 := toHid8 (show Fr None' wr x4 from HX3.out.then7 f)
                      clear f
                      go_wp2_with fail
                      refine ((HZ5.out) _ HX4.out).mono ?_
                      rintro e x5 ⟨rfl, f⟩
                      have HX5 := toHid8 (show Fr None' wr x5 from HX4.out.then7 f)
                      clear f
                      go_wp2_with fail
                      exact ⟨⟨k + 1, by have := HKt.out; omega, by go_num, (HFk.out.then7 HX5.out)⟩, by simp [intOf]; have := HKt.out; omega⟩
              case false =>
                cases Y
                case true =>
                  cases J
                  case false =>
                    go_wp2_with fail
                    refine ((HZ3.out (by trivial)) _ (Fr.refl _ _)).mono ?_
                    rintro e x1 ⟨rfl, f⟩
                    have HX1 := toHid8 (show Fr None' wr x1 from f)
                    clear f
                    go_wp2_with fail
                    refine ((HZ1.out) _ HX1.out).mono ?_
                    rintro e x2 ⟨rfl, f⟩
                    have HX2 := toHid8 (show Fr None' wr x2 from HX1.out.then7 f)
                    clear f
                    go_wp2_with fail
                    refine ((HZ2.out) _ HX2.out).mono ?_
                    rintro e x3 ⟨rfl, f⟩
                    have HX3 := toHid8 (show Fr None' wr x3 from HX2.out.then7 f)
                    clear f
                    go_wp2_with fail
                    exact ⟨⟨k + 1, by have := HKt.out; omega, by go_num, (HFk.out.then7 HX3.out)⟩, by simp [intOf]; have := HKt.out; omega⟩
                  case true =>
                    cases U
                    case true =>
                      go_wp2_with fail
                      refine ((HZ3.out (by trivial)) _ (Fr.refl _ _)).mono ?_
                      rintro e x1 ⟨rfl, f⟩
                      have HX1 := toHid8 (show Fr None' wr x1 from f)
                      clear f
                      go_wp2_with fail
                      refine ((HZ1.out) _ HX1.out).mono ?_
                      rintro e x2 ⟨rfl, f⟩
                      have HX2 := toHid8 (show Fr None' wr x2 from HX1.out.then7 f)
                      clear f
                      go_wp2_with fail
                      refine ((HZ2.out) _ HX2.out).mono ?_
                      rintro e x3 ⟨rfl, f⟩
                      have HX3 := toHid8 (show Fr None' wr x3 from HX2.out.then7 f)
                      clear f
                      go_wp2_with fail
                      refine ((HZ6.out (by trivial)) _ HX3.out).mono ?_
                      rintro e x4 ⟨rfl, f⟩
                      have HX4 := toHid8 (show Fr None' wr x4 from HX3.out.then7 f)
                      clear f
                      go_wp2_with fail
                      refine ((HZ4.out) _ HX4.out).mono ?_
                      rintro e x5 ⟨rfl, f⟩
                      have HX5 := toHid8 (show Fr None' wr x5 from HX4.out.then7 f)
                      clear f
                      go_wp2_with fail
                      exact ⟨⟨k + 1, by have := HKt.out; omega, by go_num, (HFk.out.then7 HX5.out)⟩, by simp [intOf]; have := HKt.out; omega⟩
                    case false =>
                      cases V
                      case true =>
                        go_wp2_with fail
                        refine ((HZ3.out (by trivial)) _ (Fr.refl _ _)).mono ?_
                        rintro e x1 ⟨rfl, f⟩
                        have HX1 := toHid8 (show Fr None' wr x1 from f)
                        clear f
                        go_wp2_with fail
                        refine ((HZ1.out) _ HX1.out).mono ?_
                        rintro e x2 ⟨rfl, f⟩
                        have HX2 := toHid8 (show Fr None' wr x2 from HX1.out.then7 f)
                        clear f
                        go_wp2_with fail
                        refine ((HZ2.out) _ HX2.out).mono ?_
                        rintro e x3 ⟨rfl, f⟩
                        have HX3 := toHid8 (show Fr None' wr x3 from HX2.out.then7 f)
                        clear f
                        go_wp2_with fail
                        refine ((HZ6.out (by trivial)) _ HX3.out).mono ?_
                        rintro e x4 ⟨rfl, f⟩
                        have HX4 := toHid8 (show Fr None' wr x4 from HX3.out.then7 f)
                        clear f
                        go_wp2_with fail
                        refine ((HZ4.out) _ HX4.out).mono ?_
                        rintro e x5 ⟨rfl, f⟩
                        have HX5 := toHid8 (show Fr None' wr x5 from HX4.out.then7 f)
                        clear f
                        go_wp2_with fail
                        refine ((HZ5.out) _ HX5.out).mono ?_
                        rintro e x6 ⟨rfl, f⟩
                        have HX6 := toHid8 (show Fr None' wr x6 from HX5.out.then7 f)
                        clear f
                        go_wp2_with fail
                        exact ⟨⟨k + 1, by have := HKt.out; omega, by go_num, (HFk.out.then7 HX6.out)⟩, by simp [intOf]; have := HKt.out; omega⟩
                      case false =>
                        go_wp2_with fail
                        refine ((HZ3.out (by trivial)) _ (Fr.refl _ _)).mono ?_
                        rintro e x1 ⟨rfl, f⟩
                        have HX1 := toHid8 (show Fr None' wr x1 from f)
                        clear f
                        go_wp2_with fail
                        refine ((HZ1.out) _ HX1.out).mono ?_
                        rintro e x2 ⟨rfl, f⟩
                        have HX2 := toHid8 (show Fr None' wr x2 from HX1.out.then7 f)
                        clear f
                        go_wp2_with fail
                        refine ((HZ2.out) _ HX2.out).mono ?_
                        rintro e x3 ⟨rfl, f⟩
                        have HX3 := toHid8 (show Fr None' wr x3 from HX2.out.then7 f)
                        clear f
                        go_wp2_with fail
                        refine ((HZ6.out (by trivial)) _ HX3.out).mono ?_
                        rintro e x4 ⟨rfl, f⟩
                        have HX4 := toHid8 (show Fr None' wr x4 from HX3.out.then7 f)
                        clear f
                        go_wp2_with fail
                        refine ((HZ4.out) _ HX4.out).mono ?_
                        rintro e x5 ⟨rfl, f⟩
                        have HX5 := toHid8 (show Fr None' wr x5 from HX4.out.then7 f)
                        clear f
                        go_wp2_with fail
                        refine ((HZ5.out) _ HX5.out).mono ?_
                        rintro e x6 ⟨rfl, f⟩
                        have HX6 := toHid8 (show Fr None' wr x6 from HX5.out.then7 f)
                        clear f
                        go_wp2_with fail
                        exact ⟨⟨k + 1, by have := HKt.out; omega, by go_num, (HFk.out.then7 HX6.out)⟩, by simp [intOf]; have := HKt.out; omega⟩
                case false =>
                  cases J
                  case false =>
                    go_wp2_with fail
                    refine ((HZ3.out (by trivial)) _ (Fr.refl _ _)).mono ?_
                    rintro e x1 ⟨rfl, f⟩
                    have HX1 := toHid8 (show Fr None' wr x1 from f)
                    clear f
                    go_wp2_with fail
                    refine ((HZ1.out) _ HX1.out).mono ?_
                    rintro e x2 ⟨rfl, f⟩
                    have HX2 := toHid8 (show Fr None' wr x2 from HX1.out.then7 f)
                    clear f
                    go_wp2_with fail
                    refine ((HZ2.out) _ HX2.out).mono ?_
                    rintro e x3 ⟨rfl, f⟩
                    have HX3 := toHid8 (show Fr None' wr x3 from HX2.out.then7 f)
                    clear f
                    go_wp2_with fail
                    exact ⟨⟨k + 1, by have := HKt.out; omega, by go_num, (HFk.out.then7 HX3.out)⟩, by simp [intOf]; have := HKt.out; omega⟩
                  case true =>
                    cases U
                    case true =>
                      go_wp2_with fail
                      refine ((HZ3.out (by trivial)) _ (Fr.refl _ _)).mono ?_
                      rintro e x1 ⟨rfl, f⟩
                      have HX1 := toHid8 (show Fr None' wr x1 from f)
                      clear f
                      go_wp2_with fail
                      refine ((HZ1.out) _ HX1.out).mono ?_
                      rintro e x2 ⟨rfl, f⟩
                      have HX2 := toHid8 (show Fr None' wr x2 from HX1.out.then7 f)
                      clear f
                      go_wp2_with fail
                      refine ((HZ2.out) _ HX2.out).mono ?_
                      rintro e x3 ⟨rfl, f⟩
                      have HX3 := toHid8 (show Fr None' wr x3 from HX2.out.then7 f)
                      clear f
                      go_wp2_with fail
                      refine ((HZ6.out (by trivial)) _ HX3.out).mono ?_
                      rintro e x4 ⟨rfl, f⟩
                      have HX4 := toHid8 (show Fr None' wr x4 from HX3.out.then7 f)
                      clear f
                      go_wp2_with fail
                      refine ((HZ4.out) _ HX4.out).mono ?_
                      rintro e x5 ⟨rfl, f⟩
                      have HX5 := toHid8 (show Fr None' wr x5 from HX4.out.then7 f)
                      clear f
                      go_wp2_with fail
                      exact ⟨⟨k + 1, by have := HKt.out; omega, by go_num, (HFk.out.then7 HX5.out)⟩, by simp [intOf]; have := HKt.out; omega⟩
                    case false =>
                      cases V
                      case true =>
                        go_wp2_with fail
                        refine ((HZ3.out (by trivial)) _ (Fr.refl _ _)).mono ?_
                        rintro e x1 ⟨rfl, f⟩
                        have HX1 := toHid8 (show Fr None' wr x1 from f)
                        clear f
                        go_wp2_with fail
                        refine ((HZ1.out) _ HX1.out).mono ?_
                        rintro e x2 ⟨rfl, f⟩
                        have HX2 := toHid8 (show Fr None' wr x2 from HX1.out.then7 f)
                        clear f
                        go_wp2_with fail
                        refine ((HZ2.out) _ HX2.out).mono ?_
                        rintro e x3 ⟨rfl, f⟩
                        have HX3 := toHid8 (show Fr None' wr x3 from HX2.out.then7 f)
                        clear f
                        go_wp2_with fail
                        refine ((HZ6.out (by trivial)) _ HX3.out).mono ?_
                        rintro e x4 ⟨rfl, f⟩
                        have HX4 := toHid8 (show Fr None' wr x4 from HX3.out.then7 f)
                        clear f
                        go_wp2_with fail
                        refine ((HZ4.out) _ HX4.out).mono ?_
                        rintro e x5 ⟨rfl, f⟩
                        have HX5 := toHid8 (show Fr None' wr x5 from HX4.out.then7 f)
                        clear f
                        go_wp2_with fail
                        refine ((HZ5.out) _ HX5.out).mono ?_
                        rintro e x6 ⟨rfl, f⟩
                        have HX6 := toHid8 (show Fr None' wr x6 from HX5.out.then7 f)
                        clear f
                        go_wp2_with fail
                        exact ⟨⟨k + 1, by have := HKt.out; omega, by go_num, (HFk.out.then7 HX6.out)⟩, by simp [intOf]; have := HKt.out; omega⟩
                      case false =>
                        go_wp2_with fail
                        refine ((HZ3.out (by trivial)) _ (Fr.refl _ _)).mono ?_
                        rintro e x1 ⟨rfl, f⟩
                        have HX1 := toHid8 (show Fr None' wr x1 from f)
                        clear f
                        go_wp2_with fail
                        refine ((HZ1.out) _ HX1.out).mono ?_
                        rintro e x2 ⟨rfl, f⟩
                        have HX2 := toHid8 (show Fr None' wr x2 from HX1.out.then7 f)
                        clear f
                        go_wp2_with fail
                        refine ((HZ2.out) _ HX2.out).mono ?_
                        rintro e x3 ⟨rfl, f⟩
                        have HX3 := toHid8 (show Fr None' wr x3 from HX2.out.then7 f)
                        clear f
                        go_wp2_with fail
                        refine ((HZ6.out (by trivial)) _ HX3.out).mono ?_
                        rintro e x4 ⟨rfl, f⟩
                        have HX4 := toHid8 (show Fr None' wr x4 from HX3.out.then7 f)
                        clear f
                        go_wp2_with fail
                        refine ((HZ4.out) _ HX4.out).mono ?_
                        rintro e x5 ⟨rfl, f⟩
                        have HX5 := toHid8 (show Fr None' wr x5 from HX4.out.then7 f)
                        clear f
                        go_wp2_with fail
                        refine ((HZ5.out) _ HX5.out).mono ?_
                        rintro e x6 ⟨rfl, f⟩
                        have HX6 := toHid8 (show Fr None' wr x6 from HX5.out.then7 f)
                        clear f
                        go_wp2_with fail
                        exact ⟨⟨k + 1, by have := HKt.out; omega, by go_num, (HFk.out.then7 HX6.out)⟩, by simp [intOf]; have := HKt.out; omega⟩
      · as_aux_lemma =>
        go_wp2_with fail
        go_loopw [21] (fun vi wr => ∃ k : Nat, k ≤ n ∧ vi = .int .i64 k ∧ Hid (Fr None' wb wr)) (fun vi _ => n - (intOf vi).toNat)
        case atStart => exact ⟨0, Nat.zero_le _, rfl, Fr.refl _ _⟩
        case round =>
          obtain ⟨k, hk, rfl, HFk⟩ := hrel
          have HFw := toHid8 (HFb.out.then7 HFk.out)
          by_cases hkt : k < n
          case neg =>
            have i6 : ¬ (k : Int) < (n : Int) := by omega
            clear hkt
            go_wp2_with fail
            go_ret
            exact ⟨rfl, HFw.out⟩
          case pos =>
            have hka : k < Z.length := by rw [HL.out]; exact hkt
            obtain ⟨g, o, rfl, c0, -, -, -⟩ := HRow.out.kept HFw.out k _ (List.getElem?_eq_getElem hka)
            obtain ⟨s, hs⟩ : ∃ s, Z[k].x.name = s := ⟨_, rfl⟩
            rw [hs] at c0
            obtain ⟨G, hGe⟩ : ∃ G, (er3 == 0) = G := ⟨_, rfl⟩
            obtain ⟨J, hJe⟩ : ∃ J, (er6 == 0) = J := ⟨_, rfl⟩
            obtain ⟨X, hX⟩ : ∃ X, hasB (K1.map mkB) s = X := ⟨_, rfl⟩
            obtain ⟨Y, hY⟩ : ∃ Y, hasB (K2.map mkB) s = Y := ⟨_, rfl⟩
            obtain ⟨U, hU⟩ : ∃ U, hasB (K4.map mkB) s = U := ⟨_, rfl⟩
            obtain ⟨V, hV⟩ : ∃ V, hasB (K5.map mkB) s = V := ⟨_, rfl⟩
            have HZ1 := toHid8 (fun wx (f : Fr None' wr wx) => has14_any p1 n1 c1 _ s wx HK1.out.1 (HSa.out wx (HFk.out.then7 f)) (by have := HK1.out.2; omega))
            have HZ2 := toHid8 (fun wx (f : Fr None' wr wx) => has14_any p2 n2 c2 _ s wx HK2.out.1 (HSb.out wx (HFk.out.then7 f)) (by have := HK2.out.2; omega))
            have HZ4 := toHid8 (fun wx (f : Fr None' wr wx) => has14_any p4 n4 c4 _ s wx HK4.out.1 (HSd.out wx (HFk.out.then7 f)) (by have := HK4.out.2; omega))
            have HZ5 := toHid8 (fun wx (f : Fr None' wr wx) => has14_any p5 n5 c5 _ s wx HK5.out.1 (HSe.out wx (HFk.out.then7 f)) (by have := HK5.out.2; omega))
            have HZ3 := toHid8 (show G = true → ∀ wx, Fr None' wr wx → Calls Tryz.prog 23 #[.slice p3 n3 c3, .string s] wx fun e w' => e = .returned (.bool (X || Y)) ∧ Fr None' wx w' from fun hg wx f => by
              have h := has14_any p3 n3 c3 _ s wx HK3.out.1 (HSc.out wx (HFk.out.then7 f)) (by have := HK3.out.2; omega)
              rw [has_or14 (U3.out.2 (by rw [hg] at hGe; simpa using hGe)), hX, hY] at h
              exact h)
            have HZ6 := toHid8 (show J = true → ∀ wx, Fr None' wr wx → Calls Tryz.prog 23 #[.slice p6 n6 c6, .string s] wx fun e w' => e = .returned (.bool (U || V)) ∧ Fr None' wx w' from fun hg wx f => by
              have h := has14_any p6 n6 c6 _ s wx HK6.out.1 (HSf.out wx (HFk.out.then7 f)) (by have := HK6.out.2; omega)
              rw [has_or14 (U6.out.2 (by rw [hg] at hJe; simpa using hJe)), hU, hV] at h
              exact h)
            rw [hX] at HZ1
            rw [hY] at HZ2
            rw [hU] at HZ4
            rw [hV] at HZ5
            have i3 : (k : Int) < (n : Int) := by omega
            have i4 : (0 : Int) ≤ (k : Int) := by omega
            have HKt := toHid8 hkt
            clear hka hs hkt hX hY hU hV hG hJ hE hF hH hI
            cases G
            case false =>
              cases J
              case false =>
                go_wp2_with fail
                exact ⟨⟨k + 1, by have := HKt.out; omega, by go_num, HFk.out⟩, by simp [intOf]; have := HKt.out; omega⟩
              case true =>
                cases U
                case true =>
                  go_wp2_with fail
                  refine ((HZ6.out (by trivial)) _ (Fr.refl _ _)).mono ?_
                  rintro e x1 ⟨rfl, f⟩
                  have HX1 := toHid8 (show Fr None' wr x1 from f)
                  clear f
                  go_wp2_with fail
                  refine ((HZ4.out) _ HX1.out).mono ?_
                  rintro e x2 ⟨rfl, f⟩
                  have HX2 := toHid8 (show Fr None' wr x2 from HX1.out.then7 f)
                  clear f
                  go_wp2_with fail
                  exact ⟨⟨k + 1, by have := HKt.out; omega, by go_num, (HFk.out.then7 HX2.out)⟩, by simp [intOf]; have := HKt.out; omega⟩
                case false =>
                  cases V
                  case true =>
                    go_wp2_with fail
                    refine ((HZ6.out (by trivial)) _ (Fr.refl _ _)).mono ?_
                    rintro e x1 ⟨rfl, f⟩
                    have HX1 := toHid8 (show Fr None' wr x1 from f)
                    clear f
                    go_wp2_with fail
                    refine ((HZ4.out) _ HX1.out).mono ?_
                    rintro e x2 ⟨rfl, f⟩
                    have HX2 := toHid8 (show Fr None' wr x2 from HX1.out.then7 f)
                    clear f
                    go_wp2_with fail
                    refine ((HZ5.out) _ HX2.out).mono ?_
                    rintro e x3 ⟨rfl, f⟩
                    have HX3 := toHid8 (show Fr None' wr x3 from HX2.out.then7 f)
                    clear f
                    go_wp2_with fail
                    exact ⟨⟨k + 1, by have := HKt.out; omega, by go_num, (HFk.out.then7 HX3.out)⟩, by simp [intOf]; have := HKt.out; omega⟩
                  case false =>
                    go_wp2_with fail
                    refine ((HZ6.out (by trivial)) _ (Fr.refl _ _)).mono ?_
                    rintro e x1 ⟨rfl, f⟩
                    have HX1 := toHid8 (show Fr None' wr x1 from f)
                    clear f
                    go_wp2_with fail
                    refine ((HZ4.out) _ HX1.out).mono ?_
                    rintro e x2 ⟨rfl, f⟩
                    have HX2 := toHid8 (show Fr None' wr x2 from HX1.out.then7 f)
                    clear f
                    go_wp2_with fail
                    refine ((HZ5.out) _ HX2.out).mono ?_
                    rintro e x3 ⟨rfl, f⟩
                    have HX3 := toHid8 (show Fr None' wr x3 from HX2.out.then7 f)
                    clear f
                    go_wp2_with fail
                    exact ⟨⟨k + 1, by have := HKt.out; omega, by go_num, (HFk.out.then7 HX3.out)⟩, by simp [intOf]; have := HKt.out; omega⟩
            case true =>
              cases X
              case true =>
                cases J
                case false =>
                  go_wp2_with fail
                  refine ((HZ3.out (by trivial)) _ (Fr.refl _ _)).mono ?_
                  rintro e x1 ⟨rfl, f⟩
                  have HX1 := toHid8 (show Fr None' wr x1 from f)
                  clear f
                  go_wp2_with fail
                  refine ((HZ1.out) _ HX1.out).mono ?_
                  rintro e x2 ⟨rfl, f⟩
                  have HX2 := toHid8 (show Fr None' wr x2 from HX1.out.then7 f)
                  clear f
                  go_wp2_with fail
                  exact ⟨⟨k + 1, by have := HKt.out; omega, by go_num, (HFk.out.then7 HX2.out)⟩, by simp [intOf]; have := HKt.out; omega⟩
                case true =>
                  cases U
                  case true =>
                    go_wp2_with fail
                    refine ((HZ3.out (by trivial)) _ (Fr.refl _ _)).mono ?_
                    rintro e x1 ⟨rfl, f⟩
                    have HX1 := toHid8 (show Fr None' wr x1 from f)
                    clear f
                    go_wp2_with fail
                    refine ((HZ1.out) _ HX1.out).mono ?_
                    rintro e x2 ⟨rfl, f⟩
                    have HX2 := toHid8 (show Fr None' wr x2 from HX1.out.then7 f)
                    clear f
                    go_wp2_with fail
                    refine ((HZ6.out (by trivial)) _ HX2.out).mono ?_
                    rintro e x3 ⟨rfl, f⟩
                    have HX3 := toHid8 (show Fr None' wr x3 from HX2.out.then7 f)
                    clear f
                    go_wp2_with fail
                    refine ((HZ4.out) _ HX3.out).mono ?_
                    rintro e x4 ⟨rfl, f⟩
                    have HX4 := toHid8 (show Fr None' wr x4 from HX3.out.then7 f)
                    clear f
                    go_wp2_with fail
                    exact ⟨⟨k + 1, by have := HKt.out; omega, by go_num, (HFk.out.then7 HX4.out)⟩, by simp [intOf]; have := HKt.out; omega⟩
                  case false =>
                    cases V
                    case true =>
                      go_wp2_with fail
                      refine ((HZ3.out (by trivial)) _ (Fr.refl _ _)).mono ?_
                      rintro e x1 ⟨rfl, f⟩
                      have HX1 := toHid8 (show Fr None' wr x1 from f)
                      clear f
                      go_wp2_with fail
                      refine ((HZ1.out) _ HX1.out).mono ?_
                      rintro e x2 ⟨rfl, f⟩
                      have HX2 := toHid8 (show Fr None' wr x2 from HX1.out.then7 f)
                      clear f
                      go_wp2_with fail
                      refine ((HZ6.out (by trivial)) _ HX2.out).mono ?_
                      rintro e x3 ⟨rfl, f⟩
                      have HX3 := toHid8 (show Fr None' wr x3 from HX2.out.then7 f)
                      clear f
                      go_wp2_with fail
                      refine ((HZ4.out) _ HX3.out).mono ?_
                      rintro e x4 ⟨rfl, f⟩
                      have HX4 := toHid8 (show Fr None' wr x4 from HX3.out.then7 f)
                      clear f
                      go_wp2_with fail
                      refine ((HZ5.out) _ HX4.out).mono ?_
                      rintro e x5 ⟨rfl, f⟩
                      have HX5 := toHid8 (show Fr None' wr x5 from HX4.out.then7 f)
                      clear f
                      go_wp2_with fail
                      exact ⟨⟨k + 1, by have := HKt.out; omega, by go_num, (HFk.out.then7 HX5.out)⟩, by simp [intOf]; have := HKt.out; omega⟩
                    case false =>
                      go_wp2_with fail
                      refine ((HZ3.out (by trivial)) _ (Fr.refl _ _)).mono ?_
                      rintro e x1 ⟨rfl, f⟩
                      have HX1 := toHid8 (show Fr None' wr x1 from f)
                      clear f
                      go_wp2_with fail
                      refine ((HZ1.out) _ HX1.out).mono ?_
                      rintro e x2 ⟨rfl, f⟩
                      have HX2 := toHid8 (show Fr None' wr x2 from HX1.out.then7 f)
                      clear f
                      go_wp2_with fail
                      refine ((HZ6.out (by trivial)) _ HX2.out).mono ?_
                      rintro e x3 ⟨rfl, f⟩
                      have HX3 := toHid8 (show Fr None' wr x3 from HX2.out.then7 f)
                      clear f
                      go_wp2_with fail
                      refine ((HZ4.out) _ HX3.out).mono ?_
                      rintro e x4 ⟨rfl, f⟩
                      have HX4 := toHid8 (show Fr None' wr x4 from HX3.out.then7 f)
                      clear f
                      go_wp2_with fail
                      refine ((HZ5.out) _ HX4.out).mono ?_
                      rintro e x5 ⟨rfl, f⟩
                      have HX5 := toHid8 (show Fr None' wr x5 from HX4.out.then7 f)
                      clear f
                      go_wp2_with fail
                      exact ⟨⟨k + 1, by have := HKt.out; omega, by go_num, (HFk.out.then7 HX5.out)⟩, by simp [intOf]; have := HKt.out; omega⟩
              case false =>
                cases Y
                case true =>
                  cases J
                  case false =>
                    go_wp2_with fail
                    refine ((HZ3.out (by trivial)) _ (Fr.refl _ _)).mono ?_
                    rintro e x1 ⟨rfl, f⟩
                    have HX1 := toHid8 (show Fr None' wr x1 from f)
                    clear f
                    go_wp2_with fail
                    refine ((HZ1.out) _ HX1.out).mono ?_
                    rintro e x2 ⟨rfl, f⟩
                    have HX2 := toHid8 (show Fr None' wr x2 from HX1.out.then7 f)
                    clear f
                    go_wp2_with fail
                    refine ((HZ2.out) _ HX2.out).mono ?_
                    rintro e x3 ⟨rfl, f⟩
                    have HX3 := toHid8 (show Fr None' wr x3 from HX2.out.then7 f)
                    clear f
                    go_wp2_with fail
                    exact ⟨⟨k + 1, by have := HKt.out; omega, by go_num, (HFk.out.then7 HX3.out)⟩, by simp [intOf]; have := HKt.out; omega⟩
                  case true =>
                    cases U
                    case true =>
                      go_wp2_with fail
                      refine ((HZ3.out (by trivial)) _ (Fr.refl _ _)).mono ?_
                      rintro e x1 ⟨rfl, f⟩
                      have HX1 := toHid8 (show Fr None' wr x1 from f)
                      clear f
                      go_wp2_with fail
                      refine ((HZ1.out) _ HX1.out).mono ?_
                      rintro e x2 ⟨rfl, f⟩
                      have HX2 := toHid8 (show Fr None' wr x2 from HX1.out.then7 f)
                      clear f
                      go_wp2_with fail
                      refine ((HZ2.out) _ HX2.out).mono ?_
                      rintro e x3 ⟨rfl, f⟩
                      have HX3 := toHid8 (show Fr None' wr x3 from HX2.out.then7 f)
                      clear f
                      go_wp2_with fail
                      refine ((HZ6.out (by trivial)) _ HX3.out).mono ?_
                      rintro e x4 ⟨rfl, f⟩
                      have HX4 := toHid8 (show Fr None' wr x4 from HX3.out.then7 f)
                      clear f
                      go_wp2_with fail
                      refine ((HZ4.out) _ HX4.out).mono ?_
                      rintro e x5 ⟨rfl, f⟩
                      have HX5 := toHid8 (show Fr None' wr x5 from HX4.out.then7 f)
                      clear f
                      go_wp2_with fail
                      exact ⟨⟨k + 1, by have := HKt.out; omega, by go_num, (HFk.out.then7 HX5.out)⟩, by simp [intOf]; have := HKt.out; omega⟩
                    case false =>
                      cases V
                      case true =>
                        go_wp2_with fail
                        refine ((HZ3.out (by trivial)) _ (Fr.refl _ _)).mono ?_
                        rintro e x1 ⟨rfl, f⟩
                        have HX1 := toHid8 (show Fr None' wr x1 from f)
                        clear f
                        go_wp2_with fail
                        refine ((HZ1.out) _ HX1.out).mono ?_
                        rintro e x2 ⟨rfl, f⟩
                        have HX2 := toHid8 (show Fr None' wr x2 from HX1.out.then7 f)
                        clear f
                        go_wp2_with fail
                        refine ((HZ2.out) _ HX2.out).mono ?_
                        rintro e x3 ⟨rfl, f⟩
                        have HX3 := toHid8 (show Fr None' wr x3 from HX2.out.then7 f)
                        clear f
                        go_wp2_with fail
                        refine ((HZ6.out (by trivial)) _ HX3.out).mono ?_
                        rintro e x4 ⟨rfl, f⟩
                        have HX4 := toHid8 (show Fr None' wr x4 from HX3.out.then7 f)
                        clear f
                        go_wp2_with fail
                        refine ((HZ4.out) _ HX4.out).mono ?_
                        rintro e x5 ⟨rfl, f⟩
                        have HX5 := toHid8 (show Fr None' wr x5 from HX4.out.then7 f)
                        clear f
                        go_wp2_with fail
                        refine ((HZ5.out) _ HX5.out).mono ?_
                        rintro e x6 ⟨rfl, f⟩
                        have HX6 := toHid8 (show Fr None' wr x6 from HX5.out.then7 f)
                        clear f
                        go_wp2_with fail
                        exact ⟨⟨k + 1, by have := HKt.out; omega, by go_num, (HFk.out.then7 HX6.out)⟩, by simp [intOf]; have := HKt.out; omega⟩
                      case false =>
                        go_wp2_with fail
                        refine ((HZ3.out (by trivial)) _ (Fr.refl _ _)).mono ?_
                        rintro e x1 ⟨rfl, f⟩
                        have HX1 := toHid8 (show Fr None' wr x1 from f)
                        clear f
                        go_wp2_with fail
                        refine ((HZ1.out) _ HX1.out).mono ?_
                        rintro e x2 ⟨rfl, f⟩
                        have HX2 := toHid8 (show Fr None' wr x2 from HX1.out.then7 f)
                        clear f
                        go_wp2_with fail
                        refine ((HZ2.out) _ HX2.out).mono ?_
                        rintro e x3 ⟨rfl, f⟩
                        have HX3 := toHid8 (show Fr None' wr x3 from HX2.out.then7 f)
                        clear f
                        go_wp2_with fail
                        refine ((HZ6.out (by trivial)) _ HX3.out).mono ?_
                        rintro e x4 ⟨rfl, f⟩
                        have HX4 := toHid8 (show Fr None' wr x4 from HX3.out.then7 f)
                        clear f
                        go_wp2_with fail
                        refine ((HZ4.out) _ HX4.out).mono ?_
                        rintro e x5 ⟨rfl, f⟩
                        have HX5 := toHid8 (show Fr None' wr x5 from HX4.out.then7 f)
                        clear f
                        go_wp2_with fail
                        refine ((HZ5.out) _ HX5.out).mono ?_
                        rintro e x6 ⟨rfl, f⟩
                        have HX6 := toHid8 (show Fr None' wr x6 from HX5.out.then7 f)
                        clear f
                        go_wp2_with fail
                        exact ⟨⟨k + 1, by have := HKt.out; omega, by go_num, (HFk.out.then7 HX6.out)⟩, by simp [intOf]; have := HKt.out; omega⟩
                case false =>
                  cases J
                  case false =>
                    go_wp2_with fail
                    refine ((HZ3.out (by trivial)) _ (Fr.refl _ _)).mono ?_
                    rintro e x1 ⟨rfl, f⟩
                    have HX1 := toHid8 (show Fr None' wr x1 from f)
                    clear f
                    go_wp2_with fail
                    refine ((HZ1.out) _ HX1.out).mono ?_
                    rintro e x2 ⟨rfl, f⟩
                    have HX2 := toHid8 (show Fr None' wr x2 from HX1.out.then7 f)
                    clear f
                    go_wp2_with fail
                    refine ((HZ2.out) _ HX2.out).mono ?_
                    rintro e x3 ⟨rfl, f⟩
                    have HX3 := toHid8 (show Fr None' wr x3 from HX2.out.then7 f)
                    clear f
                    go_wp2_with fail
                    exact ⟨⟨k + 1, by have := HKt.out; omega, by go_num, (HFk.out.then7 HX3.out)⟩, by simp [intOf]; have := HKt.out; omega⟩
                  case true =>
                    cases U
                    case true =>
                      go_wp2_with fail
                      refine ((HZ3.out (by trivial)) _ (Fr.refl _ _)).mono ?_
                      rintro e x1 ⟨rfl, f⟩
                      have HX1 := toHid8 (show Fr None' wr x1 from f)
                      clear f
                      go_wp2_with fail
                      refine ((HZ1.out) _ HX1.out).mono ?_
                      rintro e x2 ⟨rfl, f⟩
                      have HX2 := toHid8 (show Fr None' wr x2 from HX1.out.then7 f)
                      clear f
                      go_wp2_with fail
                      refine ((HZ2.out) _ HX2.out).mono ?_
                      rintro e x3 ⟨rfl, f⟩
                      have HX3 := toHid8 (show Fr None' wr x3 from HX2.out.then7 f)
                      clear f
                      go_wp2_with fail
                      refine ((HZ6.out (by trivial)) _ HX3.out).mono ?_
                      rintro e x4 ⟨rfl, f⟩
                      have HX4 := toHid8 (show Fr None' wr x4 from HX3.out.then7 f)
                      clear f
                      go_wp2_with fail
                      refine ((HZ4.out) _ HX4.out).mono ?_
                      rintro e x5 ⟨rfl, f⟩
                      have HX5 := toHid8 (show Fr None' wr x5 from HX4.out.then7 f)
                      clear f
                      go_wp2_with fail
                      exact ⟨⟨k + 1, by have := HKt.out; omega, by go_num, (HFk.out.then7 HX5.out)⟩, by simp [intOf]; have := HKt.out; omega⟩
                    case false =>
                      cases V
                      case true =>
                        go_wp2_with fail
                        refine ((HZ3.out (by trivial)) _ (Fr.refl _ _)).mono ?_
                        rintro e x1 ⟨rfl, f⟩
                        have HX1 := toHid8 (show Fr None' wr x1 from f)
                        clear f
                        go_wp2_with fail
                        refine ((HZ1.out) _ HX1.out).mono ?_
                        rintro e x2 ⟨rfl, f⟩
                        have HX2 := toHid8 (show Fr None' wr x2 from HX1.out.then7 f)
                        clear f
                        go_wp2_with fail
                        refine ((HZ2.out) _ HX2.out).mono ?_
                        rintro e x3 ⟨rfl, f⟩
                        have HX3 := toHid8 (show Fr None' wr x3 from HX2.out.then7 f)
                        clear f
                        go_wp2_with fail
                        refine ((HZ6.out (by trivial)) _ HX3.out).mono ?_
                        rintro e x4 ⟨rfl, f⟩
                        have HX4 := toHid8 (show Fr None' wr x4 from HX3.out.then7 f)
                        clear f
                        go_wp2_with fail
                        refine ((HZ4.out) _ HX4.out).mono ?_
                        rintro e x5 ⟨rfl, f⟩
                        have HX5 := toHid8 (show Fr None' wr x5 from HX4.out.then7 f)
                        clear f
                        go_wp2_with fail
                        refine ((HZ5.out) _ HX5.out).mono ?_
                        rintro e x6 ⟨rfl, f⟩
                        have HX6 := toHid8 (show Fr None' wr x6 from HX5.out.then7 f)
                        clear f
                        go_wp2_with fail
                        exact ⟨⟨k + 1, by have := HKt.out; omega, by go_num, (HFk.out.then7 HX6.out)⟩, by simp [intOf]; have := HKt.out; omega⟩
                      case false =>
                        go_wp2_with fail
                        refine ((HZ3.out (by trivial)) _ (Fr.refl _ _)).mono ?_
                        rintro e x1 ⟨rfl, f⟩
                        have HX1 := toHid8 (show Fr None' wr x1 from f)
                        clear f
                        go_wp2_with fail
                        refine ((HZ1.out) _ HX1.out).mono ?_
                        rintro e x2 ⟨rfl, f⟩
                        have HX2 := toHid8 (show Fr None' wr x2 from HX1.out.then7 f)
                        clear f
                        go_wp2_with fail
                        refine ((HZ2.out) _ HX2.out).mono ?_
                        rintro e x3 ⟨rfl, f⟩
                        have HX3 := toHid8 (show Fr None' wr x3 from HX2.out.then7 f)
                        clear f
                        go_wp2_with fail
                        refine ((HZ6.out (by trivial)) _ HX3.out).mono ?_
                        rintro e x4 ⟨rfl, f⟩
                        have HX4 := toHid8 (show Fr None' wr x4 from HX3.out.then7 f)
                        clear f
                        go_wp2_with fail
                        refine ((HZ4.out) _ HX4.out).mono ?_
                        rintro e x5 ⟨rfl, f⟩
                        have HX5 := toHid8 (show Fr None' wr x5 from HX4.out.then7 f)
                        clear f
                        go_wp2_with fail
                        refine ((HZ5.out) _ HX5.out).mono ?_
                        rintro e x6 ⟨rfl, f⟩
                        have HX6 := toHid8 (show Fr None' wr x6 from HX5.out.then7 f)
                        clear f
                        go_wp2_with fail
                        exact ⟨⟨k + 1, by have := HKt.out; omega, by go_num, (HFk.out.then7 HX6.out)⟩, by simp [intOf]; have := HKt.out; omega⟩

end Go.Proofs.YtbiilnhefoplkaaGreatDoor
