/-
  What is proved here: the walk through DiffLeast. Conditions: the arguments lie in memory.
-/
import Derived.Test.YtoophkpmbinmlaaLeast
namespace Go.Proofs.Ytoophkpmbinmlaa
open Go.RowKit Go.Shelf
set_option maxRecDepth 100000

set_option maxHeartbeats 4000000 in
theorem least_walk (a0 a1 : Option Addr) (n0 n1 c0 c1 : Nat) (l0 l1 : List ByteArray) (W : World) (h0 : ArgS W a0 n0 c0 l0) (h1 : ArgS W a1 n1 c1 l1) {ah : Option Addr} {nh ch : Nat} {L : List HI} (hh : ArgHs W ah nh ch L) :
    Calls Try.prog 5 #[.slice a0 n0 c0, .slice a1 n1 c1, .slice ah nh ch] W fun e w' => e = .returned (.bool true) ∧ Fr None' W w' := by
  have H0 : Hid (ArgS W a0 n0 c0 l0) := h0
  have H1 : Hid (ArgS W a1 n1 c1 l1) := h1
  have HH : Hid (ArgHs W ah nh ch L) := hh
  have i9 : (nh : Int) ≤ 9223372036854775807 := by have := hh.top; unfold maxLen at this; omega
  have G : Hid (∀ {w' : World}, Fr None' W w' → Calls Try.prog 10 #[.slice a0 n0 c0, .slice a1 n1 c1] w' fun e w'' => Told l0 l1 e ∧ w' = w'') := fun {w'} f => great_any a0 a1 c0 c1 n0 n1 l0 l1 w' h0.len h1.len (h0.row.fr f) (h1.row.fr f) (by have := h0.le; have := h0.top; omega) (by have := h1.le; have := h1.top; omega)
  clear h0 h1 hh
  go_enter Try.func5, Try.ntmps5
  go_wp2_with (go_at_call 9; refine (head_any _).mono ?_; rintro e w1 ⟨rfl, F1⟩)
  refine (G.out F1).mono ?_
  rintro e w2 ⟨⟨r, rfl, hr⟩, rfl⟩
  cases r with
  | true =>
    go_wp2_with fail
    go_ret
    exact ⟨rfl, F1⟩
  | false =>
    obtain ⟨m0, m1, z0, z1⟩ := hr rfl
    have HM : Hid (l0.length ≤ 200 ∧ l1.length ≤ 200 ∧ (∀ s ∈ l0, s.size ≤ 3000) ∧ ∀ s ∈ l1, s.size ≤ 3000) := ⟨m0, m1, z0, z1⟩
    have HI0 : Hid (n0 ≤ 200 ∧ n1 ≤ 200) := by
      have e0 := H0.out.len; have e1 := H1.out.len
      exact ⟨by omega, by omega⟩
    have HF1 : Hid (Fr None' W w1) := F1
    by_cases hbig : 20 < nh
    · have q0 : (20 : Int) < (nh : Int) := by omega
      clear hr G m0 m1 z0 z1
      go_wp2_with fail
      go_ret
      exact ⟨rfl, HF1.out⟩
    · have q0 : ¬ (20 : Int) < (nh : Int) := by omega
      have cD := diff_small (H0.out.kept F1) (H1.out.kept F1) (by have h := HI0.out; omega) (by have h := HI0.out; omega) z0 z1
      clear hr G m0 m1 z0 z1 F1
      go_wp2_with fail
      refine cD.mono ?_
      rintro e w2 ⟨v1, rfl, k1, F2⟩
      have cC := cost_small k1 (by have h := HM.out; omega) (by have h := HM.out; omega)
      have HF2 : Hid (Fr None' W w2) := HF1.out.then F2
      have hN0 := diffs_cost l0 l1
      have hN1 := diffs_cost l1 l0
      rw [lcs_symm l1 l0] at hN1
      obtain ⟨N, hN⟩ : ∃ N, cost (diffs l0 l1) = N := ⟨_, rfl⟩
      obtain ⟨C, hC⟩ : ∃ C, lcs l0 l1 = C := ⟨_, rfl⟩
      rw [hN] at cC hN0
      rw [hC] at hN0 hN1
      have HNC : Hid (N + 2 * C = n0 + n1 ∧ lcs l0 l1 = C ∧ cost (diffs l1 l0) = N) := ⟨by rw [hN0, H0.out.len, H1.out.len], hC, by omega⟩
      have q1 : ¬ nh > 20 := by omega
      clear cD F2 k1 hN0 hN1 hN hC
      go_wp2_with fail
      refine cC.mono ?_
      rintro e w3 ⟨rfl, F3⟩
      have HF3 : Hid (Fr None' W w3) := HF2.out.then F3
      have cK := rkept_any (H0.out.kept HF3.out) (H1.out.kept HF3.out) (by have h := HI0.out; omega) (by have h := HI0.out; omega)
      clear cC F3 HF2
      go_wp2_with fail
      refine cK.mono ?_
      rintro e w4 ⟨g, c', B, rfl, T, F4⟩
      have d1 := T.cell 0 (by omega)
      have d2 := T.get (i := 0) (k := 0) (by omega) (by omega)
      simp only [List.drop_zero, HNC.out.2.1] at d2
      have HF4 : Hid (Fr None' W w4) := HF3.out.then F4
      have cE := diff_small (H1.out.kept HF4.out) (H0.out.kept HF4.out) (by have h := HI0.out; omega) (by have h := HI0.out; omega) HM.out.2.2.2 HM.out.2.2.1
      have j1 : (n0 : Int) + (n1 : Int) - 2 * (C : Int) = (N : Int) := by have := HNC.out.1; omega
      have j2 : (n0 : Int) ≤ 200 := by have := HI0.out; omega
      have j3 : (n1 : Int) ≤ 200 := by have := HI0.out; omega
      have j4 : (C : Int) ≤ 200 := by have := HNC.out.1; have := HI0.out; omega
      have j5 : (0 : Int) ≤ (C : Int) := by omega
      have j6 : (0 : Int) < (n0 : Int) + 1 := by omega
      have j7 : (0 : Int) < (n1 : Int) + 1 := by omega
      clear T F4 cK HF3
      go_wp2_with fail
      refine cE.mono ?_
      rintro e w5 ⟨v2, rfl, k2, F5⟩
      have cF := cost_small k2 (by have h := HM.out; omega) (by have h := HM.out; omega)
      rw [HNC.out.2.2] at cF
      have HF5 : Hid (Fr None' W w5) := HF4.out.then F5
      clear cE F5 k2 HF4 d1 d2
      go_wp2_with fail
      refine cF.mono ?_
      rintro e w6 ⟨rfl, F6⟩
      have HF6 : Hid (Fr None' W w6) := HF5.out.then F6
      have HN : Hid (L.length = nh ∧ nh ≤ 20) := ⟨HH.out.len, by omega⟩
      have i10 : (nh : Int) ≤ 20 := by omega
      have i11 : (N : Int) ≤ 400 := by omega
      clear cF F6 HF5
      go_wp2_with fail
      clear j1 j2 j3 j4 j5 j6 j7 q0 q1 hbig
      generalize Value.bool (decide (20 < (nh : Int))) = u21
      go_loopw [10, 11] (fun vx vi wr => ∃ (k : Nat) (p : Option Addr) (m c : Nat) (X : List ByteArray), k ≤ nh ∧ vi = .int .i64 k ∧ vx = .slice p m c ∧ Hid (ArgS wr p m c X) ∧ Hid (LS L l0 k X) ∧ Hid (Fr None' w6 wr)) (fun _ vi _ => nh - (intOf vi).toNat)
      case atStart => exact ⟨0, a0, n0, c0, l0, Nat.zero_le _, rfl, rfl, H0.out.kept HF6.out, LS.start L l0 HM.out.1, Fr.refl _ _⟩
      case round =>
        obtain ⟨k, p, m, c, X, hk, rfl, rfl, HA, HS, HF⟩ := hrel
        by_cases hlt : k < nh
        · have hkL : k < L.length := by rw [HN.out.1]; exact hlt
          obtain ⟨g, o, vo, vn, rfl, d1, d2, d3, s1, s2, hx1, hx2⟩ := (HH.out.kept (HF6.out.then HF.out)).cell k L[k] (List.getElem?_eq_getElem hkL)
          obtain ⟨⟨po, co, rfl, no1, lo1, ro⟩, to⟩ := s1
          obtain ⟨⟨pn, cn, rfl, nn1, ln1, rn⟩, tn⟩ := s2
          have HQ : Hid (L[k].o.length ≤ 200 → L[k].n.length ≤ 200 → ∀ X', applyI X L[k].x L[k].o L[k].n = some X' → LS L l0 (k + 1) X') := fun h1 h2 X' h3 => HS.out.next hkL h1 h2 h3
          have HX : Hid (X.length ≤ 4200) := by have := HS.out.len; have := HN.out; show _ ≤ _; omega
          obtain ⟨hq, hhq⟩ : ∃ h, L[k] = h := ⟨_, rfl⟩
          rw [hhq] at d1 d2 d3 hx1 hx2 lo1 ro to ln1 rn tn HQ
          obtain ⟨x, A, B⟩ := hq
          simp only at d1 d2 d3 hx1 hx2 lo1 ro to ln1 rn tn HQ
          have cG := greatHunk_any2 (x := x) (co := co) (cn := cn) rfl rfl ro rn to tn
          have HP : Hid (A.length ≤ 200 → B.length ≤ 200 → ∀ w', Fr None' wr w' → Calls Try.prog 14 #[.slice p m c, .agg #[.int .i64 x, .slice po A.length co, .slice pn B.length cn]] w' (ApplyPost w' (applyI X x A B))) := fun l1 l2 w' f => apply_any p po pn m c A.length co B.length cn X A B x w' HA.out.len rfl rfl (HA.out.row.fr f) (ro.fr f) (rn.fr f) HA.out.le HA.out.no lo1 no1 ln1 nn1 (by rw [← HA.out.len]; have := HX.out; omega) (by omega) (by omega) ⟨hx1, hx2⟩
          have HB : Hid (A.length ≤ 200 → B.length ≤ 200 → ∀ X', applyI X x A B = some X' → X'.length ≤ 10000) := fun h1 h2 X' h3 => by have := (applyI_some h3).2.1; have := HX.out; omega
          obtain ⟨nA, hA⟩ : ∃ n, A.length = n := ⟨_, rfl⟩
          obtain ⟨nB, hB⟩ : ∃ n, B.length = n := ⟨_, rfl⟩
          rw [hA] at d2 cG HP
          rw [hB] at d3 cG HP
          have i1 : (k : Int) < (nh : Int) := by omega
          have i2 : (0 : Int) ≤ (k : Int) := by omega
          have HAB : Hid (A.length = nA ∧ B.length = nB) := ⟨hA, hB⟩
          clear ro rn hhq lo1 no1 ln1 nn1 hA hB to tn HS
          go_wp2_with fail
          refine cG.mono ?_
          rintro e w7 ⟨⟨r, rfl, hr⟩, F7⟩
          replace d1 := F7.cell d1 (fun e => e)
          replace d2 := F7.cell d2 (fun e => e)
          replace d3 := F7.cell d3 (fun e => e)
          cases r with
          | true =>
            go_wp2_with fail
            go_ret
            exact ⟨rfl, HF6.out.then (HF.out.then F7)⟩
          | false =>
            obtain ⟨mo, mn, _, _⟩ := hr rfl
            have cP := HP.out (by rw [← HAB.out.1]; exact mo) (by rw [← HAB.out.2]; exact mn) w7 F7
            have HQ2 : Hid (∀ X', applyI X x A B = some X' → LS L l0 (k + 1) X' ∧ X'.length ≤ 10000) := fun X' h => ⟨HQ.out mo mn X' h, HB.out mo mn X' h⟩
            have HF7 : Hid (Fr None' w6 w7) := HF.out.then F7
            clear hr cG F7 mo mn HP HQ HB
            cases ha : applyI X x A B with
            | none =>
              rw [ha] at cP
              go_wp2_with fail
              refine cP.mono ?_
              rintro e w8 ⟨S8, rfl⟩
              have HF8 : Hid (Fr None' w6 w8) := HF7.out.then S8
              clear cP S8
              go_wp2_with fail
              go_ret
              exact ⟨rfl, HF6.out.then HF8.out⟩
            | some X' =>
              rw [ha] at cP
              obtain ⟨hls, hl⟩ := HQ2.out X' ha
              have HLS : Hid (LS L l0 (k + 1) X') := hls
              have HXL : Hid (X'.length ≤ 10000) := hl
              clear ha hls hl HQ2
              go_wp2_with fail
              refine cP.mono ?_
              rintro e w8 ⟨S8, u, rfl, ow⟩
              obtain ⟨mX, hmX⟩ : ∃ n, X'.length = n := ⟨_, rfl⟩
              obtain ⟨pe, ce, rfl⟩ := sliceN (n := mX) ow (by rw [List.length_map, hmX])
              have HA3 : Hid (ArgS w8 pe mX ce X') := (OwnV.arg ow hmX (by have := HXL.out; omega)).2
              have HF8 : Hid (Fr None' w6 w8) := HF7.out.then S8
              clear ow S8 hmX cP HA d1 d2 d3
              go_wp2_with fail
              exact ⟨⟨k + 1, pe, mX, ce, X', by omega, by go_num, rfl, HA3.out, HLS.out, HF8.out⟩, by simp [intOf]; omega⟩
        · have e : k = nh := by omega
          subst e
          have hd := LS.done (L := L) (l0 := l0) (X := X) (by rw [HN.out.1]; exact HS.out) (by rw [HN.out.1]; exact HN.out.2)
          have FW := HF6.out.then HF.out
          have hXl : X.length ≤ 4200 := by have := HS.out.len; have := HN.out; omega
          have cS := lSame_any p a1 c c1 X l1 wr HA.out.row (H1.out.row.fr FW) (by omega)
          rw [HA.out.len, H1.out.len] at cS
          have HD : Hid (costI L ≤ 8000 ∧ ∀ l1, X = l1 → l0.length + l1.length ≤ costI L + 2 * lcs l0 l1) := hd
          have HFW : Hid (Fr None' W wr) := FW
          have HC : Hid (∀ w', Fr None' wr w' → Calls Try.prog 18 #[.slice ah k ch] w' fun e w'' => e = .returned (.int .i64 (costI L : Nat)) ∧ Fr None' w' w'') := fun w' f => costI_any _ L w' ((HH.out.at).kept (FW.then f)) (by omega) (by rw [HN.out.1]; have := HN.out.2; omega)
          have HLL : Hid (l0.length = n0 ∧ l1.length = n1) := ⟨H0.out.len, H1.out.len⟩
          clear hd FW hXl
          by_cases hXl : X = l1
          · rw [decide_eq_true hXl] at cS
            have hN : N ≤ costI L := by
              have h1 := HD.out.2 l1 hXl
              have h2 := HNC.out
              have h3 := HLL.out
              rw [h2.2.1] at h1
              omega
            obtain ⟨K, hK⟩ : ∃ K, costI L = K := ⟨_, rfl⟩
            rw [hK] at HC hN
            have j1 : (N : Int) ≤ (K : Int) := by omega
            clear hK hN hXl HD
            go_wp2_with fail
            refine cS.mono ?_
            rintro e w7 ⟨rfl, S7⟩
            have F7 := HFW.out.then S7
            have cC := HC.out w7 S7
            clear cS S7 HC
            go_wp2_with fail
            refine cC.mono ?_
            rintro e w8 ⟨rfl, S8⟩
            have F8 := F7.then S8
            clear cC S8
            go_wp2_with fail
            go_ret
            exact ⟨rfl, F8⟩
          · rw [decide_eq_false hXl] at cS
            clear hXl HD HC
            go_wp2_with fail
            refine cS.mono ?_
            rintro e w7 ⟨rfl, S7⟩
            have F7 := HFW.out.then S7
            clear cS S7
            go_wp2_with fail
            go_ret
            exact ⟨rfl, F7⟩

end Go.Proofs.Ytoophkpmbinmlaa
