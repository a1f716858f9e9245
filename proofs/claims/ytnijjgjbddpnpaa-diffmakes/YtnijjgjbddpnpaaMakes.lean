/-
  What is proved here: the walk through DiffMakes. Conditions: the arguments lie in memory.
-/
import Derived.Test.YtnijjgjbddpnpaaApplies
namespace Go.Proofs.Ytnijjgjbddpnpaa
open Go.RowKit Go.Shelf
set_option maxRecDepth 100000

/-- On the way through the hunks. -/
structure Mk (D : List (Hk ByteArray)) (b X : List ByteArray) (k : Nat) (z : Int) : Prop where
  make : applyAll X (D.drop k) = some b
  spread : Spread z (D.drop k)
  small : X.length + cost (D.drop k) ≤ 1000

theorem Mk.start (a b : List ByteArray) (h1 : a.length ≤ 200) (h2 : b.length ≤ 200) : Mk (diffs a b) b a 0 (-1) := ⟨diffs_make a b, diffs_spread a b, by have := (cost_diffs a b).1; rw [List.drop_zero]; omega⟩

theorem Mk.next {D : List (Hk ByteArray)} {b X : List ByteArray} {k : Nat} {z : Int} (h : Mk D b X k z) (hk : k < D.length) : ∃ X', apply1 X D[k] = some X' ∧ 0 < D[k].o.length + D[k].n.length ∧ z < D[k].at' ∧ X.length ≤ 1000 ∧ X'.length ≤ 1000 ∧ D[k].o.length ≤ 1000 ∧ D[k].n.length ≤ 1000 ∧ D[k].at' ≤ 1000 ∧ Mk D b X' (k + 1) ((D[k].at' + D[k].n.length : Nat) : Int) := by
  obtain ⟨h1, h2, h3⟩ := h
  rw [List.drop_eq_getElem_cons hk] at h1 h2 h3
  rw [applyAll] at h1
  rw [cost_cons] at h3
  cases e : apply1 X D[k] with
  | none => rw [e] at h1; cases h1
  | some X' =>
    rw [e] at h1
    have hb := apply1_back e
    have hat : D[k].at' ≤ X.length := by
      unfold apply1 at e
      split at e
      · rename_i hc; exact hc.1
      · cases e
    exact ⟨X', rfl, h2.1, h2.2.1, by omega, by omega, by omega, by omega, by omega, h1, h2.2.2, by omega⟩

set_option maxHeartbeats 2000000 in
theorem makes_walk (a0 a1 : Option Addr) (n0 n1 c0 c1 : Nat) (l0 l1 : List ByteArray) (W : World) (h0 : ArgS W a0 n0 c0 l0) (h1 : ArgS W a1 n1 c1 l1) :
    Calls Try.prog 4 #[.slice a0 n0 c0, .slice a1 n1 c1] W fun e w' => e = .returned (.bool true) ∧ Fr None' W w' := by
  have H0 : Hid (ArgS W a0 n0 c0 l0) := h0
  have H1 : Hid (ArgS W a1 n1 c1 l1) := h1
  have G : Hid (∀ {w' : World}, Fr None' W w' → Calls Try.prog 10 #[.slice a0 n0 c0, .slice a1 n1 c1] w' fun e w'' => Told l0 l1 e ∧ w' = w'') := fun {w'} f => great_any a0 a1 c0 c1 n0 n1 l0 l1 w' h0.len h1.len (h0.row.fr f) (h1.row.fr f) (by have := h0.le; have := h0.top; omega) (by have := h1.le; have := h1.top; omega)
  clear h0 h1
  go_enter Try.func4, Try.ntmps4
  go_wp2_with (go_at_call 9; refine (head_any _).mono ?_; rintro e w1 ⟨rfl, F1⟩)
  refine (G.out F1).mono ?_
  rintro e w2 ⟨⟨r, rfl, hr⟩, rfl⟩
  cases r with
  | true =>
    go_wp2_with fail
    go_ret
    exact ⟨rfl, F1⟩
  | false =>
    obtain ⟨m0, m1, z0, z1⟩ := hr rfl
    have k0 := H0.out.len
    have k1 := H1.out.len
    have HL : Hid (l0.length ≤ 200 ∧ l1.length ≤ 200) := ⟨m0, m1⟩
    have cD := diff_small (H0.out.kept F1) (H1.out.kept F1) (by omega) (by omega) z0 z1
    have HF1 : Hid (Fr None' W w1) := F1
    clear hr G m0 m1 z0 z1 k0 k1 F1
    go_wp2_with fail
    refine cD.mono ?_
    rintro e w2 ⟨v, rfl, hh, t1⟩
    have HM0 : Hid (Mk (diffs l0 l1) l1 l0 0 (-1)) := Mk.start l0 l1 HL.out.1 HL.out.2
    have HNil : Hid (diffs l0 l1 = [] ↔ l0 = l1) := diffs_nil_iff l0 l1
    have hN4 := (cost_diffs l0 l1).2
    obtain ⟨D, hD⟩ : ∃ D, diffs l0 l1 = D := ⟨_, rfl⟩
    rw [hD] at hh HM0 HNil hN4
    obtain ⟨pv, cv, rfl, _, hk⟩ := hh
    obtain ⟨N, hN⟩ : ∃ N, D.length = N := ⟨_, rfl⟩
    have HN : Hid (D.length = N) := hN
    rw [hN] at hN4
    have hN5 : (N : Int) ≤ 400 := by have h := HL.out; omega
    rw [hN]
    have HF : Hid (Fr None' W w2) := HF1.out.then t1
    clear cD t1 hD hN hN4 HF1
    go_wp2_with fail
    go_loopw [7, 8, 9] (fun vx vz vi wr => ∃ (k : Nat) (z : Int) (p : Option Addr) (m c : Nat) (X : List ByteArray), k ≤ N ∧ vi = .int .i64 k ∧ vz = .int .i64 z ∧ vx = .slice p m c ∧ Hid (ArgS wr p m c X) ∧ Hid (Mk D l1 X k z) ∧ Fr None' w2 wr ∧ -1 ≤ z ∧ z ≤ 3000) (fun _ _ vi _ => N - (intOf vi).toNat)
    case atStart => exact ⟨0, -1, a0, n0, c0, l0, Nat.zero_le _, rfl, rfl, rfl, H0.out.kept HF.out, HM0.out, Fr.refl _ _, by omega, by omega⟩
    case round =>
      clear HM0
      obtain ⟨k, z, p, m, c, X, hkN, rfl, rfl, rfl, HA, HM, hF, hz1, hz2⟩ := hrel
      by_cases hlt : k < N
      · have hkD : k < D.length := by rw [HN.out]; exact hlt
        obtain ⟨X', e1, e2, e3, b1, b2, b3, b4, b5, hm'⟩ := HM.out.next hkD
        obtain ⟨g, o, vo, vn, rfl, d1, d2, d3, s1, s2⟩ := hk k D[k] (List.getElem?_eq_getElem hkD)
        obtain ⟨po, co, rfl, no1, lo1, ro⟩ := s1.kept hF
        obtain ⟨pn, cn, rfl, nn1, ln1, rn⟩ := s2.kept hF
        replace d1 := hF.cell d1 (fun e => e)
        replace d2 := hF.cell d2 (fun e => e)
        replace d3 := hF.cell d3 (fun e => e)
        obtain ⟨hq, hhq⟩ : ∃ h, D[k] = h := ⟨_, rfl⟩
        rw [hhq] at e1 e2 e3 b3 b4 b5 hm' d1 d2 d3 lo1 ro ln1 rn
        obtain ⟨t, A, B⟩ := hq
        simp only at e2 e3 b3 b4 b5 hm' d1 d2 d3 lo1 ro ln1 rn
        have HP : Hid (∀ w', Fr None' wr w' → Calls Try.prog 14 #[.slice p m c, .agg #[.int .i64 (t : Int), .slice po A.length co, .slice pn B.length cn]] w' (ApplyPost w' (some X'))) := fun w' f => by
          have h := apply_any p po pn m c A.length co B.length cn X A B t w' HA.out.len rfl rfl (HA.out.row.fr f) (ro.fr f) (rn.fr f) HA.out.le HA.out.no lo1 no1 ln1 nn1 (by rw [← HA.out.len]; omega) (by omega) (by omega) (by omega)
          unfold applyI at h
          rw [if_pos (by omega), Int.toNat_natCast, e1] at h
          exact h
        obtain ⟨nA, hA⟩ : ∃ n, A.length = n := ⟨_, rfl⟩
        obtain ⟨nB, hB⟩ : ∃ n, B.length = n := ⟨_, rfl⟩
        rw [hA] at d2 HP e2 b3
        rw [hB] at d3 HP e2 b4 hm'
        have HM' : Hid (Mk D l1 X' (k + 1) ((t + nB : Nat) : Int)) := hm'
        have i1 : (k : Int) < (N : Int) := by omega
        have i2 : (0 : Int) ≤ (k : Int) := by omega
        have i3 : (nA : Int) ≤ 1000 := by omega
        have i4 : (nB : Int) ≤ 1000 := by omega
        have i5 : (t : Int) ≤ 1000 := by omega
        have i6 : z < (t : Int) := by omega
        have j1 : decide ((nA : Int) + (nB : Int) = 0) = false := by simp; omega
        have j2 : decide ((t : Int) ≤ z) = false := by simp; omega
        have j0 : ((nA : Int) + (nB : Int) == 0) = false := by simp; omega
        have r1 : IntKind.i64.wrap ((nA : Int) + (nB : Int)) = (nA : Int) + (nB : Int) := by rw [IntKind.wrap_i64]; omega
        have r2 : IntKind.i64.wrap ((t : Int) + (nB : Int)) = (t : Int) + (nB : Int) := by rw [IntKind.wrap_i64]; omega
        clear hk s1 s2 ro rn e1 e2 e3 hm' hhq lo1 no1 ln1 nn1 hA hB HM HA
        go_wp2_with fail
        go_quiet (fail)
        go_wp2_with fail
        refine (HP.out _ (Fr.drewN None' wr _)).mono ?_
        rintro e w3 ⟨S3, u, rfl, ow⟩
        have F3 := (Fr.drewN None' wr nq).then S3
        obtain ⟨mX, hmX⟩ : ∃ n, X'.length = n := ⟨_, rfl⟩
        obtain ⟨pe, ce, rfl⟩ := sliceN (n := mX) ow (by rw [List.length_map, hmX])
        have HA3 : Hid (ArgS w3 pe mX ce X') := (OwnV.arg ow hmX (by omega)).2
        replace d1 := F3.cell d1 (fun e => e)
        replace d3 := F3.cell d3 (fun e => e)
        have HF3 : Hid (Fr None' w2 w3) := hF.then F3
        clear ow S3 F3 hmX d2 HP
        go_wp2_with fail
        go_quiet (fail)
        go_wp2_with fail
        exact ⟨⟨k + 1, (t : Int) + (nB : Int), pe, mX, ce, X', by omega, by go_num, rfl, rfl, HA3.out.kept (Fr.drewN None' w3 _), HM'.out, HF3.out.then (Fr.drewN None' w3 _), by omega, by omega⟩, by simp [intOf]; omega⟩
      · have e : k = N := by omega
        subst e
        have HX : Hid (X = l1) := by
          have h := HM.out.make
          rw [List.drop_of_length_le (by rw [HN.out]; exact Nat.le_refl _), applyAll] at h
          exact Option.some.inj h
        have FW := HF.out.then hF
        have cS := lSame_any p a1 c c1 X l1 wr HA.out.row (H1.out.row.fr FW) (by rw [HX.out]; have h := HL.out; omega)
        rw [HA.out.len, H1.out.len, decide_eq_true HX.out] at cS
        have HT : Hid (∀ w', Fr None' W w' → Calls Try.prog 17 #[.slice a0 n0 c0, .slice a1 n1 c1] w' fun e w'' => e = .returned (.bool (decide (l0 = l1))) ∧ Fr None' w' w'') := fun w' f => by
          have h := lSame_any a0 a1 c0 c1 l0 l1 w' (H0.out.row.fr f) (H1.out.row.fr f) (by have h := HL.out; omega)
          rw [H0.out.len, H1.out.len] at h
          exact h
        have HFW : Hid (Fr None' W wr) := FW
        clear hk FW hF
        by_cases hll : l0 = l1
        · have hN0 : (k : Int) = 0 := by
            have := HNil.out.2 hll
            have h := HN.out
            rw [this] at h
            simp at h
            omega
          rw [decide_eq_true hll] at HT
          go_wp2_with fail
          refine cS.mono ?_
          rintro e w4 ⟨rfl, S4⟩
          have F4 := HFW.out.then S4
          clear cS S4
          go_wp2_with fail
          refine (HT.out _ F4).mono ?_
          rintro e w5 ⟨rfl, S5⟩
          have F5 := F4.then S5
          go_wp2_with fail
          go_ret
          exact ⟨rfl, F5⟩
        · have hN0 : ¬ (k : Int) = 0 := by
            intro e
            have h := HN.out
            have : D = [] := List.eq_nil_of_length_eq_zero (by omega)
            exact hll (HNil.out.1 this)
          have jk : ((k : Int) == 0) = false := by simpa using hN0
          rw [decide_eq_false hll] at HT
          clear hll
          go_wp2_with fail
          refine cS.mono ?_
          rintro e w4 ⟨rfl, S4⟩
          have F4 := HFW.out.then S4
          clear cS S4
          go_wp2_with fail
          refine (HT.out _ F4).mono ?_
          rintro e w5 ⟨rfl, S5⟩
          have F5 := F4.then S5
          go_wp2_with fail
          go_ret
          exact ⟨rfl, F5⟩

end Go.Proofs.Ytnijjgjbddpnpaa
