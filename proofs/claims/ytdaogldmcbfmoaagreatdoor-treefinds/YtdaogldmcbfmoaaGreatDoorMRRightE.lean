/-
  What is proved here: what the document's Right answers of things. Conditions: they lie in memory, and are of bounded size.
-/
import Derived.Test.YtdaogldmcbfmoaaGreatDoorM38RightT2
import Derived.Test.YtdaogldmcbfmoaaGreatDoorM18PRunes
import Derived.BigQuiet
namespace Go.Proofs.YtdaogldmcbfmoaaGreatDoor
open Go.RowKit
set_option maxRecDepth 100000
attribute [local irreducible] wpQuiet

theorem okD_parts {L : List En} {j : Nat} {x : En} : okD L j x = true ↔ Path.right (bl x.path) = true ∧ ahead L j x = true ∧ 1 ≤ x.kind ∧ x.kind ≤ 3 ∧ Lines.right (Lines.bs x.lines) = true ∧ (x.kind = 2 ∨ x.lines = []) ∧ (x.kind = 3 ∨ x.data.size = 0) ∧ (∀ p, Path.parent (bl x.path) = some p → ∃ d, findE L p = some d ∧ d.kind = 1) := by
  unfold okD
  simp only [Bool.and_eq_true, Bool.or_eq_true, decide_eq_true_eq]
  constructor
  · rintro ⟨⟨⟨⟨⟨⟨⟨a, b⟩, c⟩, d⟩, e⟩, f⟩, g⟩, h⟩
    refine ⟨a, b, c, d, e, f, g, fun p hp => ?_⟩
    rw [hp] at h
    simp only at h
    cases hf : findE L p with
    | none => rw [hf] at h; cases h
    | some y => rw [hf] at h; exact ⟨y, rfl, by simpa using h⟩
  · rintro ⟨a, b, c, d, e, f, g, h⟩
    refine ⟨⟨⟨⟨⟨⟨⟨a, b⟩, c⟩, d⟩, e⟩, f⟩, g⟩, ?_⟩
    cases hp : Path.parent (bl x.path) with
    | none => rfl
    | some p =>
      obtain ⟨y, h1, h2⟩ := h p hp
      simp only [h1]
      simpa using h2

theorem ahead_succ {L : List En} {i : Nat} (hi : i < L.length) (x : En) : ahead L (i + 1) x = decide (bl L[i].path < bl x.path) := by
  unfold ahead
  simp only [List.getElem?_eq_getElem hi]

theorem drewF (w : World) (n : Nat) : Fr None' w (w.drewN n) := ofS (Sha.Fr.drewN None' w n)

theorem less_eq (a b : ByteArray) : Op.bytesLess a.toList b.toList = decide (bl a < bl b) := by
  rw [ByteArray.toList_eq, ByteArray.toList_eq, Go.Proofs.bytesLess_eq]
  rfl

theorem rright_q (p : ByteArray) (hp : p.size < 100000000) (w : World) : Calls Tryz.prog 49 #[.string p] w fun e w' => e = .returned (.bool (Path.right (bl p))) ∧ w' = w := (Path.rright_any p w hp).mono fun _ _ h => ⟨h.1, h.2.symm⟩

set_option maxHeartbeats 16000000 in
theorem eright_any (va : Option Addr) (n c : Nat) (L : List En) (w : World) (hl : L.length = n) (h : EntsAt w va L) (hn : n ≤ 100000) (hs : SmallE L) :
    Calls Tryz.prog 18 #[.slice va n c] w fun e w' => e = .returned (.bool (treeRight L)) ∧ Fr None' w w' := by
  have HL : Hid (L.length = n) := hl
  have HS : Hid (SmallE L) := hs
  have HE : Hid (EntsAt w va L) := h
  have i1 : (n : Int) ≤ 100000 := by omega
  by_cases hbig : 1024 < n
  · have e : treeRight L = false := treeRight_long (by rw [hl]; exact hbig)
    rw [e]
    have q : (1024 : Int) < (n : Int) := by omega
    clear hl h hs
    go_enter Tryz.func18, Tryz.ntmps18
    go_wp2_with fail
    go_ret
    exact ⟨rfl, Fr.refl _ _⟩
  · obtain ⟨R, hR⟩ : ∃ R, treeRight L = R := ⟨_, rfl⟩
    have HR : Hid (treeRight L = R) := hR
    rw [hR]
    have q : ¬ (1024 : Int) < (n : Int) := by omega
    have HNB : Hid (n ≤ 1024) := by show _ ≤ _; omega
    clear hl h hs hR hbig hn
    go_enter Tryz.func18, Tryz.ntmps18
    go_wp2_with fail
    clear q
    go_loopw [3] (fun vi wr => ∃ k : Nat, k ≤ n ∧ vi = .int .i64 k ∧ Hid (∀ j (h : j < L.length), j < k → okD L j L[j] = true) ∧ Hid (Fr None' w wr)) (fun vi _ => n - (intOf vi).toNat)
    case atStart => exact ⟨0, Nat.zero_le _, rfl, fun j _ h => by omega, Fr.refl _ _⟩
    case round =>
      obtain ⟨k, hk, rfl, HT, HF⟩ := hrel
      by_cases hlt : k < n
      · have hkL : k < L.length := by rw [HL.out]; exact hlt
        obtain ⟨g, o, rfl, vl, d0, d1, d2, d3, hs1⟩ := (HE.out.kept HF.out).get hkL
        obtain ⟨pl, cl, rfl, _, _, hr⟩ := hs1
        obtain ⟨z1, z2, z3, z4⟩ := HS.out _ (List.getElem_mem hkL)
        have HNo : Hid (¬ okD L k L[k] = true → R = false) := fun h => by rw [← HR.out]; exact treeRight_noD hkL (by simpa using h)
        have HNX : Hid (okD L k L[k] = true → ∀ j (h : j < L.length), j < k + 1 → okD L j L[j] = true) := fun h j hj hlt => by
          by_cases e : j = k
          · subst e; exact h
          · exact HT.out j hj (by omega)
        obtain ⟨x, hxe⟩ : ∃ x, L[k] = x := ⟨_, rfl⟩
        rw [hxe] at d0 d1 d2 d3 hr z1 z2 z3 z4 HNX HNo
        obtain ⟨P, K, l, Da⟩ := x
        simp only at d0 d1 d2 d3 hr z1 z2 z3 z4
        obtain ⟨nl, hnl⟩ : ∃ m, l.length = m := ⟨_, rfl⟩
        rw [hnl] at d2 z3
        have HRW : Hid (Lines.Row wr pl l ∧ l.length = nl ∧ (∀ y ∈ l, y.size < 900000)) := ⟨hr, hnl, z4⟩
        have HZ : Hid (P.size < 10000000 ∧ nl < 900000) := ⟨z1, z3⟩
        have i2 : (k : Int) < (n : Int) := by omega
        have i3 : (0 : Int) ≤ (k : Int) := by omega
        have HOK : Hid (okD L k ⟨P, K, l, Da⟩ = true ↔ _) := okD_parts
        clear hxe hnl hr z1 z2 z3 z4 HT
        obtain ⟨w1, hw1⟩ : ∃ w1, wr.alloc (.cells #[.string P, .int .i64 K, .slice pl nl cl, .string Da] 38) = w1 := ⟨_, rfl⟩
        have HF1 : Hid (Fr None' wr w1) := hw1 ▸ Fr.alloc None' wr _
        obtain ⟨b0, b1, b2, b3⟩ := cell4 wr 38 (.string P) (.int .i64 K) (.slice pl nl cl) (.string Da)
        rw [hw1] at b0 b1 b2 b3
        have cR := rright_q P (by have := HZ.out.1; omega)
        cases hpr : Path.right (bl P) with
        | false =>
          have e : R = false := HNo.out (fun h => by have := (HOK.out.1 h).1; rw [hpr] at this; cases this)
          subst e
          simp only [hpr] at cR
          go_wp2_with fail
          go_quiet ((go_at_call 49; exact Calls.quiet_of_same (cR _)))
          go_wp2_with fail
          go_ret
          exact ⟨rfl, (HF.out.then7 HF1.out).then7 (drewF _ _)⟩
        | true =>
          simp only [hpr] at cR
          rcases Nat.eq_zero_or_pos k with e0 | hpos
          · have q2 : decide ((0 : Int) < (k : Int)) = false := by simp; omega
            have q2n : decide (0 < k) = false := by simp; omega
            have HAh : Hid (ahead L k ⟨P, K, l, Da⟩ = true) := by show _ = _; rw [e0]; rfl
            clear e0
            by_cases hK1 : K < 1
            · have e : R = false := HNo.out (fun h => by have h2 : (1 : Int) ≤ K := (HOK.out.1 h).2.2.1; omega)
              subst e
              have q3 : decide (K < 1) = true := by simpa using hK1
              go_wp2_with fail
              go_quiet ((go_at_call 49; exact Calls.quiet_of_same (cR _)))
              go_wp2_with fail
              go_ret
              exact ⟨rfl, (HF.out.then7 HF1.out).then7 (drewF _ _)⟩
            · have q3 : decide (K < 1) = false := by simpa using hK1
              by_cases hK3 : 3 < K
              · have e : R = false := HNo.out (fun h => by have h2 : K ≤ (3 : Int) := (HOK.out.1 h).2.2.2.1; omega)
                subst e
                have q4 : decide (3 < K) = true := by simpa using hK3
                go_wp2_with fail
                go_quiet ((go_at_call 49; exact Calls.quiet_of_same (cR _)))
                go_wp2_with fail
                go_ret
                exact ⟨rfl, (HF.out.then7 HF1.out).then7 (drewF _ _)⟩
              · have q4 : decide (3 < K) = false := by simpa using hK3
                go_wp2_with fail
                go_quiet ((go_at_call 49; exact Calls.quiet_of_same (cR _)))
                obtain ⟨w2, hw2⟩ : ∃ x, w1.drewN nq = x := ⟨_, rfl⟩
                have f2 : Fr None' w1 w2 := hw2 ▸ drewF _ _
                rw [hw2]
                replace b0 := f2.keepCell b0 (fun e => e)
                replace b1 := f2.keepCell b1 (fun e => e)
                replace b2 := f2.keepCell b2 (fun e => e)
                replace b3 := f2.keepCell b3 (fun e => e)
                have HF2 : Hid (Fr None' wr w2) := HF1.out.then7 f2
                clear hw2 f2 cR d0 d1 d2 d3 HF1
                have cL : Calls Tryz.prog 50 #[.slice pl nl cl] w2 fun e w' => e = .returned (.bool (Lines.right (Lines.bs l))) ∧ Fr None' w2 w' := by
                  have h := Lines.rRight_any pl cl l w2 (HRW.out.1.fr (toLN HF2.out)) (by rw [HRW.out.2.1]; have := HZ.out.2; omega) HRW.out.2.2
                  rw [HRW.out.2.1] at h
                  exact h.mono fun _ _ h => ⟨h.1, ofLN h.2⟩
                go_wp2_with fail
                refine cL.mono ?_
                rintro e w3 ⟨rfl, f3⟩
                replace b0 := f3.keepCell b0 (fun e => e)
                replace b1 := f3.keepCell b1 (fun e => e)
                replace b2 := f3.keepCell b2 (fun e => e)
                replace b3 := f3.keepCell b3 (fun e => e)
                have HF3 : Hid (Fr None' wr w3) := HF2.out.then7 f3
                clear cL f3 HF2
                cases hLr : Lines.right (Lines.bs l) with
                | false =>
                  have e : R = false := HNo.out (fun h => by have h2 : Lines.right (Lines.bs l) = true := (HOK.out.1 h).2.2.2.2.1; rw [hLr] at h2; cases h2)
                  subst e
                  go_wp2_with fail
                  go_ret
                  exact ⟨rfl, HF.out.then7 HF3.out⟩
                | true =>
                  by_cases hK2 : K = 2
                  · have zk2 : (K == 2) = true := by simpa using hK2
                    have zk3 : (K == 3) = false := by simp; omega
                    by_cases hDa : Da.size = 0
                    · have hDe := empty_of hDa
                      subst hDe
                      have cP := Path.rparent_any P w3 (by have := HZ.out.1; omega)
                      unfold Path.parentS at cP
                      cases hpa : Path.parent (bl P) with
                      | none =>
                        have hpa' : Path.parent P.data.toList = none := hpa
                        rw [hpa'] at cP
                        have hok : okD L k ⟨P, K, l, _⟩ = true := HOK.out.2 ⟨hpr, HAh.out, by show (1 : Int) ≤ K; omega, by show K ≤ (3 : Int); omega, hLr, Or.inl hK2, Or.inr hDa, fun p hp => by rw [show Path.parent (bl P) = none from hpa] at hp; cases hp⟩
                        have HNX2 : Hid (∀ j (h : j < L.length), j < k + 1 → okD L j L[j] = true) := HNX.out hok
                        clear hok HNX HNo HOK
                        go_wp2_with fail
                        refine cP.mono ?_
                        rintro e w4 ⟨rfl, rfl⟩
                        clear cP
                        go_wp2_with fail
                        exact ⟨⟨k + 1, by omega, by go_num, HNX2.out, HF.out.then7 HF3.out⟩, by simp [intOf]; omega⟩
                      | some p =>
                        have hpa' : Path.parent P.data.toList = some p := hpa
                        rw [hpa'] at cP
                        have cF := efind_any (some ⟨g, o, none⟩) n c L ⟨p.toArray⟩ w3 HL.out (HE.out.kept (HF.out.then7 HF3.out)) (by omega)
                        have ebl : bl ⟨p.toArray⟩ = p := rfl
                        rw [ebl] at cF
                        cases hf : findE L p with
                        | none =>
                          rw [hf] at cF
                          have e : R = false := HNo.out (fun h => by obtain ⟨d, h1, _⟩ := (HOK.out.1 h).2.2.2.2.2.2.2 p hpa; rw [hf] at h1; cases h1)
                          subst e
                          clear HNX HNo HOK
                          go_wp2_with fail
                          refine cP.mono ?_
                          rintro e w4 ⟨rfl, rfl⟩
                          clear cP
                          go_wp2_with fail
                          refine cF.mono ?_
                          rintro e w5 ⟨f5, rfl⟩
                          have HF5 : Hid (Fr None' w w5) := (HF.out.then7 HF3.out).then7 f5
                          clear cF f5
                          go_wp2_with fail
                          go_ret
                          exact ⟨rfl, HF5.out.then7 (Fr.alloc None' _ _)⟩
                        | some d =>
                          rw [hf] at cF
                          obtain ⟨Pd, Kd, ld, Dd⟩ := d
                          by_cases hkd : Kd = 1
                          · subst hkd
                            have hok : okD L k ⟨P, K, l, _⟩ = true := HOK.out.2 ⟨hpr, HAh.out, by show (1 : Int) ≤ K; omega, by show K ≤ (3 : Int); omega, hLr, Or.inl hK2, Or.inr hDa, fun p' hp => by rw [show Path.parent (bl P) = some p from hpa] at hp; cases hp; exact ⟨_, hf, rfl⟩⟩
                            have HNX2 : Hid (∀ j (h : j < L.length), j < k + 1 → okD L j L[j] = true) := HNX.out hok
                            clear hok HNX HNo HOK
                            go_wp2_with fail
                            refine cP.mono ?_
                            rintro e w4 ⟨rfl, rfl⟩
                            clear cP
                            go_wp2_with fail
                            refine cF.mono ?_
                            rintro e w5 ⟨f5, vd, rfl, hsd⟩
                            obtain ⟨pd, cd, rfl, _⟩ := hsd
                            have HF5 : Hid (Fr None' w w5) := (HF.out.then7 HF3.out).then7 f5
                            clear cF f5
                            go_wp2_with fail
                            exact ⟨⟨k + 1, by omega, by go_num, HNX2.out, HF5.out.then7 (Fr.alloc None' _ _)⟩, by simp [intOf]; omega⟩
                          · have e : R = false := HNo.out (fun h => by obtain ⟨d, h1, h2⟩ := (HOK.out.1 h).2.2.2.2.2.2.2 p hpa; rw [hf] at h1; cases h1; exact hkd h2)
                            subst e
                            have zk : (Kd == 1) = false := by simpa using hkd
                            clear HNX HNo HOK
                            go_wp2_with fail
                            refine cP.mono ?_
                            rintro e w4 ⟨rfl, rfl⟩
                            clear cP
                            go_wp2_with fail
                            refine cF.mono ?_
                            rintro e w5 ⟨f5, vd, rfl, hsd⟩
                            obtain ⟨pd, cd, rfl, _⟩ := hsd
                            have HF5 : Hid (Fr None' w w5) := (HF.out.then7 HF3.out).then7 f5
                            clear cF f5
                            go_wp2_with fail
                            go_ret
                            exact ⟨rfl, HF5.out.then7 (Fr.alloc None' _ _)⟩
                    · have yd := isEmpty_no hDa
                      have e : R = false := HNo.out (fun h => by rcases (HOK.out.1 h).2.2.2.2.2.2.1 with h2 | h2; (have h3 : K = 3 := h2; omega); exact hDa h2)
                      subst e
                      go_wp2_with fail
                      go_ret
                      exact ⟨rfl, HF.out.then7 HF3.out⟩
                  · have zk2 : (K == 2) = false := by simpa using hK2
                    by_cases hnl : nl = 0
                    · have qn : ¬ (0 : Int) < (nl : Int) := by omega
                      have hle : l = [] := List.length_eq_zero_iff.1 (by rw [HRW.out.2.1]; exact hnl)
                      by_cases hKt : K = 3
                      · have zk3 : (K == 3) = true := by simpa using hKt
                        have cP := Path.rparent_any P w3 (by have := HZ.out.1; omega)
                        unfold Path.parentS at cP
                        cases hpa : Path.parent (bl P) with
                        | none =>
                          have hpa' : Path.parent P.data.toList = none := hpa
                          rw [hpa'] at cP
                          have hok : okD L k ⟨P, K, l, _⟩ = true := HOK.out.2 ⟨hpr, HAh.out, by show (1 : Int) ≤ K; omega, by show K ≤ (3 : Int); omega, hLr, Or.inr hle, Or.inl hKt, fun p hp => by rw [show Path.parent (bl P) = none from hpa] at hp; cases hp⟩
                          have HNX2 : Hid (∀ j (h : j < L.length), j < k + 1 → okD L j L[j] = true) := HNX.out hok
                          clear hok HNX HNo HOK
                          go_wp2_with fail
                          refine cP.mono ?_
                          rintro e w4 ⟨rfl, rfl⟩
                          clear cP
                          go_wp2_with fail
                          exact ⟨⟨k + 1, by omega, by go_num, HNX2.out, HF.out.then7 HF3.out⟩, by simp [intOf]; omega⟩
                        | some p =>
                          have hpa' : Path.parent P.data.toList = some p := hpa
                          rw [hpa'] at cP
                          have cF := efind_any (some ⟨g, o, none⟩) n c L ⟨p.toArray⟩ w3 HL.out (HE.out.kept (HF.out.then7 HF3.out)) (by omega)
                          have ebl : bl ⟨p.toArray⟩ = p := rfl
                          rw [ebl] at cF
                          cases hf : findE L p with
                          | none =>
                            rw [hf] at cF
                            have e : R = false := HNo.out (fun h => by obtain ⟨d, h1, _⟩ := (HOK.out.1 h).2.2.2.2.2.2.2 p hpa; rw [hf] at h1; cases h1)
                            subst e
                            clear HNX HNo HOK
                            go_wp2_with fail
                            refine cP.mono ?_
                            rintro e w4 ⟨rfl, rfl⟩
                            clear cP
                            go_wp2_with fail
                            refine cF.mono ?_
                            rintro e w5 ⟨f5, rfl⟩
                            have HF5 : Hid (Fr None' w w5) := (HF.out.then7 HF3.out).then7 f5
                            clear cF f5
                            go_wp2_with fail
                            go_ret
                            exact ⟨rfl, HF5.out.then7 (Fr.alloc None' _ _)⟩
                          | some d =>
                            rw [hf] at cF
                            obtain ⟨Pd, Kd, ld, Dd⟩ := d
                            by_cases hkd : Kd = 1
                            · subst hkd
                              have hok : okD L k ⟨P, K, l, _⟩ = true := HOK.out.2 ⟨hpr, HAh.out, by show (1 : Int) ≤ K; omega, by show K ≤ (3 : Int); omega, hLr, Or.inr hle, Or.inl hKt, fun p' hp => by rw [show Path.parent (bl P) = some p from hpa] at hp; cases hp; exact ⟨_, hf, rfl⟩⟩
                              have HNX2 : Hid (∀ j (h : j < L.length), j < k + 1 → okD L j L[j] = true) := HNX.out hok
                              clear hok HNX HNo HOK
                              go_wp2_with fail
                              refine cP.mono ?_
                              rintro e w4 ⟨rfl, rfl⟩
                              clear cP
                              go_wp2_with fail
                              refine cF.mono ?_
                              rintro e w5 ⟨f5, vd, rfl, hsd⟩
                              obtain ⟨pd, cd, rfl, _⟩ := hsd
                              have HF5 : Hid (Fr None' w w5) := (HF.out.then7 HF3.out).then7 f5
                              clear cF f5
                              go_wp2_with fail
                              exact ⟨⟨k + 1, by omega, by go_num, HNX2.out, HF5.out.then7 (Fr.alloc None' _ _)⟩, by simp [intOf]; omega⟩
                            · have e : R = false := HNo.out (fun h => by obtain ⟨d, h1, h2⟩ := (HOK.out.1 h).2.2.2.2.2.2.2 p hpa; rw [hf] at h1; cases h1; exact hkd h2)
                              subst e
                              have zk : (Kd == 1) = false := by simpa using hkd
                              clear HNX HNo HOK
                              go_wp2_with fail
                              refine cP.mono ?_
                              rintro e w4 ⟨rfl, rfl⟩
                              clear cP
                              go_wp2_with fail
                              refine cF.mono ?_
                              rintro e w5 ⟨f5, vd, rfl, hsd⟩
                              obtain ⟨pd, cd, rfl, _⟩ := hsd
                              have HF5 : Hid (Fr None' w w5) := (HF.out.then7 HF3.out).then7 f5
                              clear cF f5
                              go_wp2_with fail
                              go_ret
                              exact ⟨rfl, HF5.out.then7 (Fr.alloc None' _ _)⟩
                      · have zk3 : (K == 3) = false := by simpa using hKt
                        by_cases hDa : Da.size = 0
                        · have hDe := empty_of hDa
                          subst hDe
                          have cP := Path.rparent_any P w3 (by have := HZ.out.1; omega)
                          unfold Path.parentS at cP
                          cases hpa : Path.parent (bl P) with
                          | none =>
                            have hpa' : Path.parent P.data.toList = none := hpa
                            rw [hpa'] at cP
                            have hok : okD L k ⟨P, K, l, _⟩ = true := HOK.out.2 ⟨hpr, HAh.out, by show (1 : Int) ≤ K; omega, by show K ≤ (3 : Int); omega, hLr, Or.inr hle, Or.inr hDa, fun p hp => by rw [show Path.parent (bl P) = none from hpa] at hp; cases hp⟩
                            have HNX2 : Hid (∀ j (h : j < L.length), j < k + 1 → okD L j L[j] = true) := HNX.out hok
                            clear hok HNX HNo HOK
                            go_wp2_with fail
                            refine cP.mono ?_
                            rintro e w4 ⟨rfl, rfl⟩
                            clear cP
                            go_wp2_with fail
                            exact ⟨⟨k + 1, by omega, by go_num, HNX2.out, HF.out.then7 HF3.out⟩, by simp [intOf]; omega⟩
                          | some p =>
                            have hpa' : Path.parent P.data.toList = some p := hpa
                            rw [hpa'] at cP
                            have cF := efind_any (some ⟨g, o, none⟩) n c L ⟨p.toArray⟩ w3 HL.out (HE.out.kept (HF.out.then7 HF3.out)) (by omega)
                            have ebl : bl ⟨p.toArray⟩ = p := rfl
                            rw [ebl] at cF
                            cases hf : findE L p with
                            | none =>
                              rw [hf] at cF
                              have e : R = false := HNo.out (fun h => by obtain ⟨d, h1, _⟩ := (HOK.out.1 h).2.2.2.2.2.2.2 p hpa; rw [hf] at h1; cases h1)
                              subst e
                              clear HNX HNo HOK
                              go_wp2_with fail
                              refine cP.mono ?_
                              rintro e w4 ⟨rfl, rfl⟩
                              clear cP
                              go_wp2_with fail
                              refine cF.mono ?_
                              rintro e w5 ⟨f5, rfl⟩
                              have HF5 : Hid (Fr None' w w5) := (HF.out.then7 HF3.out).then7 f5
                              clear cF f5
                              go_wp2_with fail
                              go_ret
                              exact ⟨rfl, HF5.out.then7 (Fr.alloc None' _ _)⟩
                            | some d =>
                              rw [hf] at cF
                              obtain ⟨Pd, Kd, ld, Dd⟩ := d
                              by_cases hkd : Kd = 1
                              · subst hkd
                                have hok : okD L k ⟨P, K, l, _⟩ = true := HOK.out.2 ⟨hpr, HAh.out, by show (1 : Int) ≤ K; omega, by show K ≤ (3 : Int); omega, hLr, Or.inr hle, Or.inr hDa, fun p' hp => by rw [show Path.parent (bl P) = some p from hpa] at hp; cases hp; exact ⟨_, hf, rfl⟩⟩
                                have HNX2 : Hid (∀ j (h : j < L.length), j < k + 1 → okD L j L[j] = true) := HNX.out hok
                                clear hok HNX HNo HOK
                                go_wp2_with fail
                                refine cP.mono ?_
                                rintro e w4 ⟨rfl, rfl⟩
                                clear cP
                                go_wp2_with fail
                                refine cF.mono ?_
                                rintro e w5 ⟨f5, vd, rfl, hsd⟩
                                obtain ⟨pd, cd, rfl, _⟩ := hsd
                                have HF5 : Hid (Fr None' w w5) := (HF.out.then7 HF3.out).then7 f5
                                clear cF f5
                                go_wp2_with fail
                                exact ⟨⟨k + 1, by omega, by go_num, HNX2.out, HF5.out.then7 (Fr.alloc None' _ _)⟩, by simp [intOf]; omega⟩
                              · have e : R = false := HNo.out (fun h => by obtain ⟨d, h1, h2⟩ := (HOK.out.1 h).2.2.2.2.2.2.2 p hpa; rw [hf] at h1; cases h1; exact hkd h2)
                                subst e
                                have zk : (Kd == 1) = false := by simpa using hkd
                                clear HNX HNo HOK
                                go_wp2_with fail
                                refine cP.mono ?_
                                rintro e w4 ⟨rfl, rfl⟩
                                clear cP
                                go_wp2_with fail
                                refine cF.mono ?_
                                rintro e w5 ⟨f5, vd, rfl, hsd⟩
                                obtain ⟨pd, cd, rfl, _⟩ := hsd
                                have HF5 : Hid (Fr None' w w5) := (HF.out.then7 HF3.out).then7 f5
                                clear cF f5
                                go_wp2_with fail
                                go_ret
                                exact ⟨rfl, HF5.out.then7 (Fr.alloc None' _ _)⟩
                        · have yd := isEmpty_no hDa
                          have e : R = false := HNo.out (fun h => by rcases (HOK.out.1 h).2.2.2.2.2.2.1 with h2 | h2; exact hKt h2; exact hDa h2)
                          subst e
                          go_wp2_with fail
                          go_ret
                          exact ⟨rfl, HF.out.then7 HF3.out⟩
                    · have qn : (0 : Int) < (nl : Int) := by omega
                      have e : R = false := HNo.out (fun h => by rcases (HOK.out.1 h).2.2.2.2.2.1 with h2 | h2; exact hK2 h2; (have h3 : l = [] := h2; have h4 := HRW.out.2.1; rw [h3] at h4; exact hnl h4.symm))
                      subst e
                      go_wp2_with fail
                      go_ret
                      exact ⟨rfl, HF.out.then7 HF3.out⟩
          · obtain ⟨i, he⟩ : ∃ i, k = i + 1 := ⟨k - 1, by omega⟩
            have hiL : i < L.length := by omega
            obtain ⟨g', o', e', vq, p0, _⟩ := (HE.out.kept HF.out).get hiL
            cases e'
            replace p0 := HF1.out.keepCell p0 (fun e => e)
            have HAe : Hid (ahead L k ⟨P, K, l, Da⟩ = decide (bl L[i].path < bl P)) := by show _ = _; rw [he]; exact ahead_succ hiL _
            have hle := less_eq L[i].path P
            obtain ⟨Q, hQ⟩ : ∃ Q, L[i].path = Q := ⟨_, rfl⟩
            rw [hQ] at p0 HAe hle
            have q2 : decide ((0 : Int) < (k : Int)) = true := by simp; omega
            have q2n : decide (0 < k) = true := by simp; omega
            have ri : IntKind.i64.wrap ((k : Int) - 1) = (i : Int) := by rw [IntKind.wrap_i64]; omega
            have ri2 : (k : Int) - 1 = (i : Int) := by omega
            have i5 : (0 : Int) ≤ (i : Int) := by omega
            have i6 : (i : Int) < (n : Int) := by omega
            clear he
            by_cases hlq : bl Q < bl P
            · rw [decide_eq_true hlq] at hle
              have HAh : Hid (ahead L k ⟨P, K, l, Da⟩ = true) := by show _ = _; rw [HAe.out]; exact decide_eq_true hlq
              clear hQ HAe hlq
              by_cases hK1 : K < 1
              · have e : R = false := HNo.out (fun h => by have h2 : (1 : Int) ≤ K := (HOK.out.1 h).2.2.1; omega)
                subst e
                have q3 : decide (K < 1) = true := by simpa using hK1
                go_wp2_with fail
                go_quiet ((go_at_call 49; exact Calls.quiet_of_same (cR _)))
                go_wp2_with fail
                go_ret
                exact ⟨rfl, (HF.out.then7 HF1.out).then7 (drewF _ _)⟩
              · have q3 : decide (K < 1) = false := by simpa using hK1
                by_cases hK3 : 3 < K
                · have e : R = false := HNo.out (fun h => by have h2 : K ≤ (3 : Int) := (HOK.out.1 h).2.2.2.1; omega)
                  subst e
                  have q4 : decide (3 < K) = true := by simpa using hK3
                  go_wp2_with fail
                  go_quiet ((go_at_call 49; exact Calls.quiet_of_same (cR _)))
                  go_wp2_with fail
                  go_ret
                  exact ⟨rfl, (HF.out.then7 HF1.out).then7 (drewF _ _)⟩
                · have q4 : decide (3 < K) = false := by simpa using hK3
                  go_wp2_with fail
                  go_quiet ((go_at_call 49; exact Calls.quiet_of_same (cR _)))
                  obtain ⟨w2, hw2⟩ : ∃ x, w1.drewN nq = x := ⟨_, rfl⟩
                  have f2 : Fr None' w1 w2 := hw2 ▸ drewF _ _
                  rw [hw2]
                  replace b0 := f2.keepCell b0 (fun e => e)
                  replace b1 := f2.keepCell b1 (fun e => e)
                  replace b2 := f2.keepCell b2 (fun e => e)
                  replace b3 := f2.keepCell b3 (fun e => e)
                  have HF2 : Hid (Fr None' wr w2) := HF1.out.then7 f2
                  clear hw2 f2 cR d0 d1 d2 d3 HF1
                  have cL : Calls Tryz.prog 50 #[.slice pl nl cl] w2 fun e w' => e = .returned (.bool (Lines.right (Lines.bs l))) ∧ Fr None' w2 w' := by
                    have h := Lines.rRight_any pl cl l w2 (HRW.out.1.fr (toLN HF2.out)) (by rw [HRW.out.2.1]; have := HZ.out.2; omega) HRW.out.2.2
                    rw [HRW.out.2.1] at h
                    exact h.mono fun _ _ h => ⟨h.1, ofLN h.2⟩
                  go_wp2_with fail
                  refine cL.mono ?_
                  rintro e w3 ⟨rfl, f3⟩
                  replace b0 := f3.keepCell b0 (fun e => e)
                  replace b1 := f3.keepCell b1 (fun e => e)
                  replace b2 := f3.keepCell b2 (fun e => e)
                  replace b3 := f3.keepCell b3 (fun e => e)
                  have HF3 : Hid (Fr None' wr w3) := HF2.out.then7 f3
                  clear cL f3 HF2
                  cases hLr : Lines.right (Lines.bs l) with
                  | false =>
                    have e : R = false := HNo.out (fun h => by have h2 : Lines.right (Lines.bs l) = true := (HOK.out.1 h).2.2.2.2.1; rw [hLr] at h2; cases h2)
                    subst e
                    go_wp2_with fail
                    go_ret
                    exact ⟨rfl, HF.out.then7 HF3.out⟩
                  | true =>
                    by_cases hK2 : K = 2
                    · have zk2 : (K == 2) = true := by simpa using hK2
                      have zk3 : (K == 3) = false := by simp; omega
                      by_cases hDa : Da.size = 0
                      · have hDe := empty_of hDa
                        subst hDe
                        have cP := Path.rparent_any P w3 (by have := HZ.out.1; omega)
                        unfold Path.parentS at cP
                        cases hpa : Path.parent (bl P) with
                        | none =>
                          have hpa' : Path.parent P.data.toList = none := hpa
                          rw [hpa'] at cP
                          have hok : okD L k ⟨P, K, l, _⟩ = true := HOK.out.2 ⟨hpr, HAh.out, by show (1 : Int) ≤ K; omega, by show K ≤ (3 : Int); omega, hLr, Or.inl hK2, Or.inr hDa, fun p hp => by rw [show Path.parent (bl P) = none from hpa] at hp; cases hp⟩
                          have HNX2 : Hid (∀ j (h : j < L.length), j < k + 1 → okD L j L[j] = true) := HNX.out hok
                          clear hok HNX HNo HOK
                          go_wp2_with fail
                          refine cP.mono ?_
                          rintro e w4 ⟨rfl, rfl⟩
                          clear cP
                          go_wp2_with fail
                          exact ⟨⟨k + 1, by omega, by go_num, HNX2.out, HF.out.then7 HF3.out⟩, by simp [intOf]; omega⟩
                        | some p =>
                          have hpa' : Path.parent P.data.toList = some p := hpa
                          rw [hpa'] at cP
                          have cF := efind_any (some ⟨g, o, none⟩) n c L ⟨p.toArray⟩ w3 HL.out (HE.out.kept (HF.out.then7 HF3.out)) (by omega)
                          have ebl : bl ⟨p.toArray⟩ = p := rfl
                          rw [ebl] at cF
                          cases hf : findE L p with
                          | none =>
                            rw [hf] at cF
                            have e : R = false := HNo.out (fun h => by obtain ⟨d, h1, _⟩ := (HOK.out.1 h).2.2.2.2.2.2.2 p hpa; rw [hf] at h1; cases h1)
                            subst e
                            clear HNX HNo HOK
                            go_wp2_with fail
                            refine cP.mono ?_
                            rintro e w4 ⟨rfl, rfl⟩
                            clear cP
                            go_wp2_with fail
                            refine cF.mono ?_
                            rintro e w5 ⟨f5, rfl⟩
                            have HF5 : Hid (Fr None' w w5) := (HF.out.then7 HF3.out).then7 f5
                            clear cF f5
                            go_wp2_with fail
                            go_ret
                            exact ⟨rfl, HF5.out.then7 (Fr.alloc None' _ _)⟩
                          | some d =>
                            rw [hf] at cF
                            obtain ⟨Pd, Kd, ld, Dd⟩ := d
                            by_cases hkd : Kd = 1
                            · subst hkd
                              have hok : okD L k ⟨P, K, l, _⟩ = true := HOK.out.2 ⟨hpr, HAh.out, by show (1 : Int) ≤ K; omega, by show K ≤ (3 : Int); omega, hLr, Or.inl hK2, Or.inr hDa, fun p' hp => by rw [show Path.parent (bl P) = some p from hpa] at hp; cases hp; exact ⟨_, hf, rfl⟩⟩
                              have HNX2 : Hid (∀ j (h : j < L.length), j < k + 1 → okD L j L[j] = true) := HNX.out hok
                              clear hok HNX HNo HOK
                              go_wp2_with fail
                              refine cP.mono ?_
                              rintro e w4 ⟨rfl, rfl⟩
                              clear cP
                              go_wp2_with fail
                              refine cF.mono ?_
                              rintro e w5 ⟨f5, vd, rfl, hsd⟩
                              obtain ⟨pd, cd, rfl, _⟩ := hsd
                              have HF5 : Hid (Fr None' w w5) := (HF.out.then7 HF3.out).then7 f5
                              clear cF f5
                              go_wp2_with fail
                              exact ⟨⟨k + 1, by omega, by go_num, HNX2.out, HF5.out.then7 (Fr.alloc None' _ _)⟩, by simp [intOf]; omega⟩
                            · have e : R = false := HNo.out (fun h => by obtain ⟨d, h1, h2⟩ := (HOK.out.1 h).2.2.2.2.2.2.2 p hpa; rw [hf] at h1; cases h1; exact hkd h2)
                              subst e
                              have zk : (Kd == 1) = false := by simpa using hkd
                              clear HNX HNo HOK
                              go_wp2_with fail
                              refine cP.mono ?_
                              rintro e w4 ⟨rfl, rfl⟩
                              clear cP
                              go_wp2_with fail
                              refine cF.mono ?_
                              rintro e w5 ⟨f5, vd, rfl, hsd⟩
                              obtain ⟨pd, cd, rfl, _⟩ := hsd
                              have HF5 : Hid (Fr None' w w5) := (HF.out.then7 HF3.out).then7 f5
                              clear cF f5
                              go_wp2_with fail
                              go_ret
                              exact ⟨rfl, HF5.out.then7 (Fr.alloc None' _ _)⟩
                      · have yd := isEmpty_no hDa
                        have e : R = false := HNo.out (fun h => by rcases (HOK.out.1 h).2.2.2.2.2.2.1 with h2 | h2; (have h3 : K = 3 := h2; omega); exact hDa h2)
                        subst e
                        go_wp2_with fail
                        go_ret
                        exact ⟨rfl, HF.out.then7 HF3.out⟩
                    · have zk2 : (K == 2) = false := by simpa using hK2
                      by_cases hnl : nl = 0
                      · have qn : ¬ (0 : Int) < (nl : Int) := by omega
                        have hle : l = [] := List.length_eq_zero_iff.1 (by rw [HRW.out.2.1]; exact hnl)
                        by_cases hKt : K = 3
                        · have zk3 : (K == 3) = true := by simpa using hKt
                          have cP := Path.rparent_any P w3 (by have := HZ.out.1; omega)
                          unfold Path.parentS at cP
                          cases hpa : Path.parent (bl P) with
                          | none =>
                            have hpa' : Path.parent P.data.toList = none := hpa
                            rw [hpa'] at cP
                            have hok : okD L k ⟨P, K, l, _⟩ = true := HOK.out.2 ⟨hpr, HAh.out, by show (1 : Int) ≤ K; omega, by show K ≤ (3 : Int); omega, hLr, Or.inr hle, Or.inl hKt, fun p hp => by rw [show Path.parent (bl P) = none from hpa] at hp; cases hp⟩
                            have HNX2 : Hid (∀ j (h : j < L.length), j < k + 1 → okD L j L[j] = true) := HNX.out hok
                            clear hok HNX HNo HOK
                            go_wp2_with fail
                            refine cP.mono ?_
                            rintro e w4 ⟨rfl, rfl⟩
                            clear cP
                            go_wp2_with fail
                            exact ⟨⟨k + 1, by omega, by go_num, HNX2.out, HF.out.then7 HF3.out⟩, by simp [intOf]; omega⟩
                          | some p =>
                            have hpa' : Path.parent P.data.toList = some p := hpa
                            rw [hpa'] at cP
                            have cF := efind_any (some ⟨g, o, none⟩) n c L ⟨p.toArray⟩ w3 HL.out (HE.out.kept (HF.out.then7 HF3.out)) (by omega)
                            have ebl : bl ⟨p.toArray⟩ = p := rfl
                            rw [ebl] at cF
                            cases hf : findE L p with
                            | none =>
                              rw [hf] at cF
                              have e : R = false := HNo.out (fun h => by obtain ⟨d, h1, _⟩ := (HOK.out.1 h).2.2.2.2.2.2.2 p hpa; rw [hf] at h1; cases h1)
                              subst e
                              clear HNX HNo HOK
                              go_wp2_with fail
                              refine cP.mono ?_
                              rintro e w4 ⟨rfl, rfl⟩
                              clear cP
                              go_wp2_with fail
                              refine cF.mono ?_
                              rintro e w5 ⟨f5, rfl⟩
                              have HF5 : Hid (Fr None' w w5) := (HF.out.then7 HF3.out).then7 f5
                              clear cF f5
                              go_wp2_with fail
                              go_ret
                              exact ⟨rfl, HF5.out.then7 (Fr.alloc None' _ _)⟩
                            | some d =>
                              rw [hf] at cF
                              obtain ⟨Pd, Kd, ld, Dd⟩ := d
                              by_cases hkd : Kd = 1
                              · subst hkd
                                have hok : okD L k ⟨P, K, l, _⟩ = true := HOK.out.2 ⟨hpr, HAh.out, by show (1 : Int) ≤ K; omega, by show K ≤ (3 : Int); omega, hLr, Or.inr hle, Or.inl hKt, fun p' hp => by rw [show Path.parent (bl P) = some p from hpa] at hp; cases hp; exact ⟨_, hf, rfl⟩⟩
                                have HNX2 : Hid (∀ j (h : j < L.length), j < k + 1 → okD L j L[j] = true) := HNX.out hok
                                clear hok HNX HNo HOK
                                go_wp2_with fail
                                refine cP.mono ?_
                                rintro e w4 ⟨rfl, rfl⟩
                                clear cP
                                go_wp2_with fail
                                refine cF.mono ?_
                                rintro e w5 ⟨f5, vd, rfl, hsd⟩
                                obtain ⟨pd, cd, rfl, _⟩ := hsd
                                have HF5 : Hid (Fr None' w w5) := (HF.out.then7 HF3.out).then7 f5
                                clear cF f5
                                go_wp2_with fail
                                exact ⟨⟨k + 1, by omega, by go_num, HNX2.out, HF5.out.then7 (Fr.alloc None' _ _)⟩, by simp [intOf]; omega⟩
                              · have e : R = false := HNo.out (fun h => by obtain ⟨d, h1, h2⟩ := (HOK.out.1 h).2.2.2.2.2.2.2 p hpa; rw [hf] at h1; cases h1; exact hkd h2)
                                subst e
                                have zk : (Kd == 1) = false := by simpa using hkd
                                clear HNX HNo HOK
                                go_wp2_with fail
                                refine cP.mono ?_
                                rintro e w4 ⟨rfl, rfl⟩
                                clear cP
                                go_wp2_with fail
                                refine cF.mono ?_
                                rintro e w5 ⟨f5, vd, rfl, hsd⟩
                                obtain ⟨pd, cd, rfl, _⟩ := hsd
                                have HF5 : Hid (Fr None' w w5) := (HF.out.then7 HF3.out).then7 f5
                                clear cF f5
                                go_wp2_with fail
                                go_ret
                                exact ⟨rfl, HF5.out.then7 (Fr.alloc None' _ _)⟩
                        · have zk3 : (K == 3) = false := by simpa using hKt
                          by_cases hDa : Da.size = 0
                          · have hDe := empty_of hDa
                            subst hDe
                            have cP := Path.rparent_any P w3 (by have := HZ.out.1; omega)
                            unfold Path.parentS at cP
                            cases hpa : Path.parent (bl P) with
                            | none =>
                              have hpa' : Path.parent P.data.toList = none := hpa
                              rw [hpa'] at cP
                              have hok : okD L k ⟨P, K, l, _⟩ = true := HOK.out.2 ⟨hpr, HAh.out, by show (1 : Int) ≤ K; omega, by show K ≤ (3 : Int); omega, hLr, Or.inr hle, Or.inr hDa, fun p hp => by rw [show Path.parent (bl P) = none from hpa] at hp; cases hp⟩
                              have HNX2 : Hid (∀ j (h : j < L.length), j < k + 1 → okD L j L[j] = true) := HNX.out hok
                              clear hok HNX HNo HOK
                              go_wp2_with fail
                              refine cP.mono ?_
                              rintro e w4 ⟨rfl, rfl⟩
                              clear cP
                              go_wp2_with fail
                              exact ⟨⟨k + 1, by omega, by go_num, HNX2.out, HF.out.then7 HF3.out⟩, by simp [intOf]; omega⟩
                            | some p =>
                              have hpa' : Path.parent P.data.toList = some p := hpa
                              rw [hpa'] at cP
                              have cF := efind_any (some ⟨g, o, none⟩) n c L ⟨p.toArray⟩ w3 HL.out (HE.out.kept (HF.out.then7 HF3.out)) (by omega)
                              have ebl : bl ⟨p.toArray⟩ = p := rfl
                              rw [ebl] at cF
                              cases hf : findE L p with
                              | none =>
                                rw [hf] at cF
                                have e : R = false := HNo.out (fun h => by obtain ⟨d, h1, _⟩ := (HOK.out.1 h).2.2.2.2.2.2.2 p hpa; rw [hf] at h1; cases h1)
                                subst e
                                clear HNX HNo HOK
                                go_wp2_with fail
                                refine cP.mono ?_
                                rintro e w4 ⟨rfl, rfl⟩
                                clear cP
                                go_wp2_with fail
                                refine cF.mono ?_
                                rintro e w5 ⟨f5, rfl⟩
                                have HF5 : Hid (Fr None' w w5) := (HF.out.then7 HF3.out).then7 f5
                                clear cF f5
                                go_wp2_with fail
                                go_ret
                                exact ⟨rfl, HF5.out.then7 (Fr.alloc None' _ _)⟩
                              | some d =>
                                rw [hf] at cF
                                obtain ⟨Pd, Kd, ld, Dd⟩ := d
                                by_cases hkd : Kd = 1
                                · subst hkd
                                  have hok : okD L k ⟨P, K, l, _⟩ = true := HOK.out.2 ⟨hpr, HAh.out, by show (1 : Int) ≤ K; omega, by show K ≤ (3 : Int); omega, hLr, Or.inr hle, Or.inr hDa, fun p' hp => by rw [show Path.parent (bl P) = some p from hpa] at hp; cases hp; exact ⟨_, hf, rfl⟩⟩
                                  have HNX2 : Hid (∀ j (h : j < L.length), j < k + 1 → okD L j L[j] = true) := HNX.out hok
                                  clear hok HNX HNo HOK
                                  go_wp2_with fail
                                  refine cP.mono ?_
                                  rintro e w4 ⟨rfl, rfl⟩
                                  clear cP
                                  go_wp2_with fail
                                  refine cF.mono ?_
                                  rintro e w5 ⟨f5, vd, rfl, hsd⟩
                                  obtain ⟨pd, cd, rfl, _⟩ := hsd
                                  have HF5 : Hid (Fr None' w w5) := (HF.out.then7 HF3.out).then7 f5
                                  clear cF f5
                                  go_wp2_with fail
                                  exact ⟨⟨k + 1, by omega, by go_num, HNX2.out, HF5.out.then7 (Fr.alloc None' _ _)⟩, by simp [intOf]; omega⟩
                                · have e : R = false := HNo.out (fun h => by obtain ⟨d, h1, h2⟩ := (HOK.out.1 h).2.2.2.2.2.2.2 p hpa; rw [hf] at h1; cases h1; exact hkd h2)
                                  subst e
                                  have zk : (Kd == 1) = false := by simpa using hkd
                                  clear HNX HNo HOK
                                  go_wp2_with fail
                                  refine cP.mono ?_
                                  rintro e w4 ⟨rfl, rfl⟩
                                  clear cP
                                  go_wp2_with fail
                                  refine cF.mono ?_
                                  rintro e w5 ⟨f5, vd, rfl, hsd⟩
                                  obtain ⟨pd, cd, rfl, _⟩ := hsd
                                  have HF5 : Hid (Fr None' w w5) := (HF.out.then7 HF3.out).then7 f5
                                  clear cF f5
                                  go_wp2_with fail
                                  go_ret
                                  exact ⟨rfl, HF5.out.then7 (Fr.alloc None' _ _)⟩
                          · have yd := isEmpty_no hDa
                            have e : R = false := HNo.out (fun h => by rcases (HOK.out.1 h).2.2.2.2.2.2.1 with h2 | h2; exact hKt h2; exact hDa h2)
                            subst e
                            go_wp2_with fail
                            go_ret
                            exact ⟨rfl, HF.out.then7 HF3.out⟩
                      · have qn : (0 : Int) < (nl : Int) := by omega
                        have e : R = false := HNo.out (fun h => by rcases (HOK.out.1 h).2.2.2.2.2.1 with h2 | h2; exact hK2 h2; (have h3 : l = [] := h2; have h4 := HRW.out.2.1; rw [h3] at h4; exact hnl h4.symm))
                        subst e
                        go_wp2_with fail
                        go_ret
                        exact ⟨rfl, HF.out.then7 HF3.out⟩
            · rw [decide_eq_false hlq] at hle
              have e : R = false := HNo.out (fun h => by have h2 := (HOK.out.1 h).2.1; rw [HAe.out, decide_eq_false hlq] at h2; cases h2)
              subst e
              clear hQ HAe hlq
              go_wp2_with fail
              go_quiet ((go_at_call 49; exact Calls.quiet_of_same (cR _)))
              go_wp2_with fail
              go_ret
              exact ⟨rfl, (HF.out.then7 HF1.out).then7 (drewF _ _)⟩
      · have e : k = n := by omega
        subst e
        have e : R = true := by
          rw [← HR.out]
          exact (treeRight_D L).2 ⟨by rw [HL.out]; exact HNB.out, fun j hj => HT.out j hj (by rw [← HL.out]; exact hj)⟩
        subst e
        go_wp2_with fail
        go_ret
        exact ⟨rfl, HF.out⟩

end Go.Proofs.YtdaogldmcbfmoaaGreatDoor
