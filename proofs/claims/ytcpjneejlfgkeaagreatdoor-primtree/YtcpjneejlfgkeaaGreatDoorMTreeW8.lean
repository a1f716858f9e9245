/-
  What is proved here: PrimTree answers true. Conditions: its arguments lie in memory, and are no longer than the reach.
-/
import Derived.Test.YtcpjneejlfgkeaaGreatDoorM38Laws8
import Derived.Test.YtcpjneejlfgkeaaGreatDoorMApp7
namespace Go.Proofs.YtcpjneejlfgkeaaGreatDoor
open Go.RowKit Go.Maps Go.WideMaps
set_option maxRecDepth 100000

/-- A row of things, copied. -/
theorem copy8 (va : Option Addr) (n c : Nat) (L : List En) (w wA : World) (hw : w.alloc (.cells #[] 41) = wA) (hl : L.length = n) (h : EntsAt w va L) (hn : n ≤ 100000) (h0 : va = none → n = 0) :
    ∃ vb d wB, (Builtin.append_ #[22, 22] 22 #[.slice (some ⟨w.heap.size, 0, none⟩) 0 0, .slice va n c]).run Tryz.prog wA = .ok (.slice vb n d) wB ∧ EntsAt wB vb L ∧ Fr None' w wB := by
  have FA : Fr None' w wA := hw ▸ Fr.alloc None' w _
  have own0 : OwnE w.heap.size w wA (.slice (some ⟨w.heap.size, 0, none⟩) 0 0) [] [] := ⟨rfl, ⟨rfl, Or.inr ⟨w.heap.size, 0, #[], rfl, Nat.le_refl _, by rw [← hw]; exact heap_alloc_new w _, Nat.le_refl _, by decide, rfl, rfl⟩⟩, fun k x vl e => by simp at e⟩
  cases va with
  | none =>
    obtain rfl := h0 rfl
    obtain ⟨i0, hi, _⟩ := info_parts infoE
    refine ⟨some ⟨w.heap.size, 0, none⟩, 0, wA, ?_, ?_, FA⟩
    · simp [Builtin.append_, run_underlying Tryz.underlying22, sizeOf, typeInfo, hi, Builtin.lenOf, Builtin.firstCells, storeCells]
    · rw [List.length_eq_zero_iff.1 hl]
      exact fun j x hj => by simp at hj
  | some a =>
    obtain ⟨g, o, pth⟩ := a
    cases pth with
    | some q =>
      cases L with
      | cons x t => obtain ⟨g', o', e, _⟩ := h 0 x rfl; cases e
      | nil =>
        obtain rfl : n = 0 := hl.symm
        obtain ⟨i0, hi, _⟩ := info_parts infoE
        refine ⟨some ⟨w.heap.size, 0, none⟩, 0, wA, ?_, ?_, FA⟩
        · simp [Builtin.append_, run_underlying Tryz.underlying22, sizeOf, typeInfo, hi, Builtin.lenOf, Builtin.firstCells, storeCells, loadCells, loadCellsFrom]
        · exact fun j x hj => by simp at hj
    | none =>
      obtain ⟨vB, U, wB, hrB, OB, fB⟩ := own0.appendAll (c := c) (m := n) hl h FA (by simp; omega) FA.size
      have FB : Fr None' w wB := FA.trans fB (fun i e => Or.inr (by cases e; exact Nat.le_refl _))
      rw [List.nil_append] at OB
      obtain ⟨uB, cB, hvB, _, _, EB, _⟩ := OB.slice FB
      rw [hl] at hvB
      subst hvB
      exact ⟨uB, cB, wB, hrB, EB, FB⟩

set_option maxHeartbeats 16000000 in
theorem tree_walk (va : Option Addr) (n c : Nat) (L : List En) (p : Pr) (vo vn : Value) (W : World) (hl : L.length = n) (ha : EntsAt W va L) (hn : n ≤ 140737488355328) (hx : ∀ x ∈ L, x.lines.length ≤ 140737488355328) (ho : StrsAt W vo p.old) (hw : StrsAt W vn p.new) (lo : p.old.length ≤ 140737488355328) (ln : p.new.length ≤ 140737488355328) (hc : n ≤ c) :
    Calls Tryz.prog 5 #[.slice va n c, .agg #[.int .i64 p.kind, .string p.path, .string p.dst, .string p.src, .int .i64 p.pos, vo, vn]] W fun e w' => e = .returned (.bool true) ∧ Fr None' W w' := by
  obtain ⟨pa, ca, rfl, ho'⟩ := ho
  obtain ⟨pb, cb, rfl, hw'⟩ := hw
  have HO := toHid8 (show ∀ w', Fr None' W w' → StrsAt w' (.slice pa p.old.length ca) p.old from fun w' f => StrsAt.kept ⟨pa, ca, rfl, ho'⟩ f)
  have HN := toHid8 (show ∀ w', Fr None' W w' → StrsAt w' (.slice pb p.new.length cb) p.new from fun w' f => StrsAt.kept ⟨pb, cb, rfl, hw'⟩ f)
  have HE := toHid8 (show ∀ w', Fr None' W w' → EntsAt w' va L from fun w' f => ha.kept f)
  have HG := toHid8 (fun w' (f : Fr None' W w') => great_any va n c L w' hl (ha.kept f) hn hx)
  have HGP := toHid8 (fun w' (f : Fr None' W w') => pgreat_any p _ _ w' (HO.out w' f) (HN.out w' f) lo ln)
  have HT := toHid8 (fun (h1 : weight L < 4000) w' (f : Fr None' W w') => eright_any va n c L w' hl (ha.kept f) (by have := (weight_smE h1).2.1; omega) (weight_smE h1).1)
  have HA := toHid8 (fun (h1 : weight L < 4000) (h2 : p.weight < 4000) vb d w' (f : Fr None' W w') (hb : EntsAt w' vb L) => apply8_any vb n d L p _ _ 4000 w' hl hb (by have := (weight_smE h1).2.1; omega) (weight_smE h1).1 (HO.out w' f) (HN.out w' f) (weight_smE h1).2.2 (by omega) (weight_smP h2))
  have HS := toHid8 (fun (h1 : weight L < 4000) vb d w' (f : Fr None' W w') (hb : EntsAt w' vb L) => esame_any vb va n d c L w' hl hb (ha.kept f) (by have := (weight_smE h1).2.1; omega) (weight_smE h1).1)
  unfold GreatPost at HG
  unfold GreatP at HGP
  have HLen := toHid8 hl
  obtain ⟨w1, hw1⟩ : ∃ w1, W.alloc (.cells #[.int .i64 p.kind, .string p.path, .string p.dst, .string p.src, .int .i64 p.pos, .slice pa p.old.length ca, .slice pb p.new.length cb] 25) = w1 := ⟨_, rfl⟩
  have F1 : Fr None' W w1 := hw1 ▸ Fr.alloc None' W _
  have BP : Box w1 W.heap.size (.int .i64 p.kind) (.string p.path) (.string p.dst) (.string p.src) (.int .i64 p.pos) (.slice pa p.old.length ca) (.slice pb p.new.length cb) := hw1 ▸ Box.new W _ _ _ _ _ _ _
  have HF1 := toHid8 F1
  have HB := toHid8 BP
  have q1 := head8_any w1
  have HEmp := toHid8 (show va = none → n = 0 from fun e => by
    subst e
    cases L with
    | nil => exact hl.symm
    | cons x t =>
      obtain ⟨g, o, e, _⟩ := ha 0 x rfl
      cases e)
  clear ho' hw' ha hl hx F1 BP lo ln
  go_enter Tryz.func5, Tryz.ntmps5
  go_wp2_with fail
  with_reducible refine q1.mono ?_
  rintro e w2 ⟨rfl, f2⟩
  have HF2 := toHid8 (HF1.out.then7 f2)
  have HB2 := toHid8 (HB.out.kept f2)
  have q2 := HG.out w2 HF2.out
  clear q1 f2 HB HF1 HG
  go_wp2_with fail
  with_reducible refine q2.mono ?_
  rintro e w3 ⟨g, rfl, hg, f3⟩
  have HF3 := toHid8 (HF2.out.then7 f3)
  have HB3 := toHid8 (HB2.out.kept f3)
  have HGf := toHid8 hg
  clear q2 f3 hg HB2 HF2
  cases g with
  | true =>
    go_wp2_with fail
    go_ret
    exact ⟨rfl, HF3.out⟩
  | false =>
    have HW := toHid8 (HGf.out rfl)
    obtain ⟨p0, p1, p2, p3, p4, p5, p6⟩ := HB3.out.cells
    have q3 := HGP.out w3 HF3.out
    clear HGf HGP
    go_wp2_with fail
    with_reducible refine q3.mono ?_
    rintro e w4 ⟨g, rfl, hg, f4⟩
    have HF4 := toHid8 (HF3.out.then7 f4)
    have HB4 := toHid8 (HB3.out.kept f4)
    have HGf := toHid8 hg
    clear q3 f4 hg HB3 HF3 p0 p1 p2 p3 p4 p5 p6
    cases g with
    | true =>
      go_wp2_with fail
      go_ret
      exact ⟨rfl, HF4.out⟩
    | false =>
      have HWP := toHid8 (HGf.out rfl)
      obtain ⟨rt, hrt⟩ : ∃ rt, treeRight L = rt := ⟨_, rfl⟩
      have q4 := HT.out HW.out w4 HF4.out
      rw [hrt] at q4
      clear HGf HT hrt
      go_wp2_with fail
      with_reducible refine q4.mono ?_
      rintro e w5 ⟨rfl, f5⟩
      have HF5 := toHid8 (HF4.out.then7 f5)
      have HB5 := toHid8 (HB4.out.kept f5)
      clear q4 f5 HF4 HB4
      cases rt with
      | false =>
        go_wp2_with fail
        go_ret
        exact ⟨rfl, HF5.out⟩
      | true =>
        obtain ⟨wA, hwA⟩ : ∃ x, w5.alloc (.cells #[] 41) = x := ⟨_, rfl⟩
        obtain ⟨vb, d, wB, hrB, EB, FB⟩ := copy8 va n c L w5 wA hwA HLen.out (HE.out w5 HF5.out) (by have := (weight_smE HW.out).2.1; have := HLen.out; omega) HEmp.out
        have HRB := toHid8 hrB
        have HFB := toHid8 (HF5.out.then7 FB)
        have HBB := toHid8 (HB5.out.kept FB)
        have HEB := toHid8 EB
        obtain ⟨p0, p1, p2, p3, p4, p5, p6⟩ := HBB.out.cells
        have q5 := HA.out HW.out HWP.out vb d wB HFB.out EB
        obtain ⟨r, hr⟩ : ∃ r, allE L [p] = r := ⟨_, rfl⟩
        rw [hr] at q5
        obtain ⟨R, er, kk⟩ := r
        have HR := toHid8 hr
        clear hr HA hrB EB FB HF5 HB5
        go_wp2_with (at_builtin
                     refine app_list8 rfl _ _ rfl rfl rfl HRB.out ?_)
        with_reducible refine q5.mono ?_
        rintro e w6 ⟨v6, c6, rfl, HE6, HC6, f6⟩
        have HF6 := toHid8 (HFB.out.then7 f6)
        have HB6 := toHid8 (HBB.out.kept f6)
        have q6 := HS.out HW.out vb d w6 HF6.out (HEB.out.kept f6)
        clear q5 f6 HBB HFB p0 p1 p2 p3 p4 p5 p6 HRB hwA
        go_wp2_with fail
        with_reducible refine q6.mono ?_
        rintro e w7 ⟨rfl, f7⟩
        have HF7 := toHid8 (HF6.out.then7 f7)
        have HB7 := toHid8 (HB6.out.kept f7)
        have HE7 := toHid8 (HE6.out.kept f7)
        clear q6 f7 HF6 HB6 HE6 HEB
        by_cases he : er = 0
        · subst he
          obtain ⟨t1, t2, t3, t4, t5⟩ := all_stepE HR.out (weight_smE HW.out).2.2 (weight_smP HWP.out)
          obtain ⟨s1, s2⟩ := tree_small t2 t3 (by omega)
          have HAS := toHid8 (fun (x : En) (hx : x ∈ L) => apart_stays t1 t4 t5 hx)
          have HDst := toHid8 (show p.kind = 10 → p.dst.size ≠ 0 from fun hk h0 => by
            have h2 : p.dst.data.toList = [] := List.length_eq_zero_iff.1 (by rw [show p.dst.data.toList.length = p.dst.size from Array.length_toList]; exact h0)
            have hrule := (rule_of t4).2.2
            unfold ruleP moveP at hrule
            rw [if_neg (by omega), if_neg (by omega), if_neg (by omega), if_neg (by omega), h2] at hrule
            have h3 : Path.right [] = false := by kernel_rfl
            rw [h3] at hrule
            simp at hrule)
          have HSX := toHid8 s1
          have HXR := toHid8 ((treeR R).2 t2)
          have q7 := eright_any v6 R.length c6 R w7 rfl HE7.out (Nat.le_trans s2 (by decide)) s1
          rw [HXR.out] at q7
          obtain ⟨m, hm⟩ : ∃ m, R.length = m := ⟨_, rfl⟩
          have HRm := toHid8 hm
          rw [hm] at q7 s2 ⊢
          clear t1 t2 t3 t4 t5 s1
          go_wp2_with fail
          with_reducible refine q7.mono ?_
          rintro e w8 ⟨rfl, f8⟩
          have HF8 := toHid8 (HF7.out.then7 f8)
          have HB8 := toHid8 (HB7.out.kept f8)
          have HE8 := toHid8 (HE7.out.kept f8)
          clear q7 f8 HF7 HB7 HE7
          have i1 : (n : Int) ≤ 1000 := by have := (weight_smE HW.out).2.1; have := HLen.out; omega
          go_wp2_with fail
          go_loopw [9] (fun vi wr => ∃ k : Nat, k ≤ n ∧ vi = .int .i64 k ∧ Hid (Fr None' w8 wr)) (fun vi _ => n - (intOf vi).toNat)
          case atStart => exact ⟨0, Nat.zero_le _, rfl, Fr.refl _ _⟩
          case round =>
            obtain ⟨k, hk, rfl, HF⟩ := hrel
            by_cases hlt : k < n
            · have hkL : k < L.length := by rw [HLen.out]; exact hlt
              have HEr := toHid8 (HE.out wr (HF8.out.then7 HF.out))
              obtain ⟨g, o, rfl, vl, d0, d1, d2, d3, hs1⟩ := HEr.out.get hkL
              have hz := (weight_smE HW.out).1 _ (List.getElem_mem hkL)
              have HAk := toHid8 (HAS.out L[k] (List.getElem_mem hkL))
              obtain ⟨x, hxe⟩ : ∃ x, L[k] = x := ⟨_, rfl⟩
              have HXE := toHid8 hxe
              rw [hxe] at d0 d1 d3 hs1 hz HAk
              obtain ⟨P, K, l, Da⟩ := x
              simp only at d0 d1 d3 hs1 hz HAk
              have HSm := toHid8 (show SmallE [⟨P, K, l, Da⟩] from fun y hy => by rw [List.mem_singleton.1 hy]; exact hz)
              have hzp := hz.1
              have HS1 := toHid8 hs1
              obtain ⟨pl, cl, rfl, _⟩ := hs1
              obtain ⟨nl, hnl⟩ : ∃ m, l.length = m := ⟨_, rfl⟩
              rw [hnl] at d2 HS1
              obtain ⟨p0, p1, p2, p3, p4, p5, p6⟩ := (HB8.out.kept HF.out).cells
              have hsm := weight_smP HWP.out
              have i2 : (k : Int) < (n : Int) := by omega
              have i3 : (0 : Int) ≤ (k : Int) := by omega
              have i4 : (n : Int) ≤ (c : Int) := by omega
              have i5 : (k : Int) + 1 ≤ (c : Int) := by omega
              have i6 : (k : Int) + 1 ≤ (n : Int) := by omega
              have i7 : (0 : Int) ≤ (k : Int) + 1 := by omega
              have ck : ¬ c = k := by omega
              have u1 : IntKind.i64.wrap ((k : Int) + 1) = (k : Int) + 1 := by rw [IntKind.wrap_i64]; omega
              have HQA0 := toHid8 (show ∀ b, Path.apart P.data.toList p.path.data.toList = b → ∀ w', Calls Tryz.prog 21 #[.string P, .string p.path] w' fun e w'' => e = .returned (.bool b) ∧ w' = w'' from fun b hb w' => by
                have h := Path.rapart_any P p.path w' (by omega) (by have := hsm.path; omega)
                rw [hb] at h
                exact h)
              have HQB0 := toHid8 (show ∀ b, Path.apart P.data.toList p.dst.data.toList = b → ∀ w', Calls Tryz.prog 21 #[.string P, .string p.dst] w' fun e w'' => e = .returned (.bool b) ∧ w' = w'' from fun b hb w' => by
                have h := Path.rapart_any P p.dst w' (by omega) (by have := hsm.dst; omega)
                rw [hb] at h
                exact h)
              clear hxe hz hsm
              obtain ⟨a2, ha2⟩ : ∃ b, Path.apart P.data.toList p.dst.data.toList = b := ⟨_, rfl⟩
              have HQB := toHid8 (HQB0.out a2 ha2)
              cases ha1 : Path.apart P.data.toList p.path.data.toList with
              | false =>
                have HQA := toHid8 (HQA0.out _ ha1)
                clear HQA0 HQB0
                go_wp2_with fail
                go_quiet ((go_at_call 21; first | with_reducible exact Calls.quiet_of_same ((HQA.out _).mono fun _ _ h => ⟨h.1, h.2.symm⟩) | exact Calls.quiet_of_same ((HQB.out _).mono fun _ _ h => ⟨h.1, h.2.symm⟩)))
                have FX := Fr.drewN None' wr nq
                generalize wr.drewN nq = wX at FX ⊢
                have HFX := toHid8 (HF.out.then7 FX)
                clear HQA HQB
                go_wp2_with fail
                exact ⟨⟨k + 1, by omega, by go_num, HFX.out⟩, by simp [intOf]; omega⟩
              | true =>
                have HQA := toHid8 (HQA0.out _ ha1)
                clear HQA0 HQB0
                by_cases hk10 : p.kind = 10
                · have hds := HDst.out hk10
                  have yd := isEmpty_no hds
                  rw [hk10] at p0
                  have HK10 := toHid8 hk10
                  clear hk10
                  cases a2 with
                  | false =>
                    go_wp2_with fail
                    go_quiet ((go_at_call 21; first | with_reducible exact Calls.quiet_of_same ((HQA.out _).mono fun _ _ h => ⟨h.1, h.2.symm⟩) | exact Calls.quiet_of_same ((HQB.out _).mono fun _ _ h => ⟨h.1, h.2.symm⟩)))
                    have FX := Fr.drewN None' wr nq
                    generalize wr.drewN nq = wX at FX ⊢
                    have HFX := toHid8 (HF.out.then7 FX)
                    clear HQA HQB
                    go_wp2_with fail
                    exact ⟨⟨k + 1, by omega, by go_num, HFX.out⟩, by simp [intOf]; omega⟩
                  | true =>
                    have HFq := toHid8 (show findE R (bl P) = some ⟨P, K, l, Da⟩ from HAk.out ha1 (fun _ => ha2))
                    go_wp2_with fail
                    go_quiet ((go_at_call 21; first | with_reducible exact Calls.quiet_of_same ((HQA.out _).mono fun _ _ h => ⟨h.1, h.2.symm⟩) | exact Calls.quiet_of_same ((HQB.out _).mono fun _ _ h => ⟨h.1, h.2.symm⟩)))
                    have FX := Fr.drewN None' wr nq
                    generalize wr.drewN nq = wX at FX ⊢
                    have HFX := toHid8 (HF.out.then7 FX)
                    clear HQA HQB
                    obtain ⟨dX0, dX1⟩ : wX.cell? ⟨g, o + k * 4, none⟩ = some (.string P) ∧ True := ⟨FX.keepCell d0 (fun e => e), trivial⟩
                    have q9 := efind_any v6 m c6 R P wX HRm.out (HE8.out.kept HFX.out) (by omega)
                    rw [HFq.out] at q9
                    unfold FindPost at q9
                    simp only at q9
                    go_wp2_with fail
                    with_reducible refine q9.mono ?_
                    rintro e wx ⟨fx, vz, rfl, hsz⟩
                    have HSz := toHid8 hsz
                    obtain ⟨pz, cz, rfl, _⟩ := hsz
                    rw [hnl] at HSz ⊢
                    obtain ⟨w9, hw9⟩ : ∃ x, wx.alloc (.cells #[.string P, .int .i64 K, .slice pz nl cz, .string Da] 41) = x := ⟨_, rfl⟩
                    have F9 : Fr None' wx w9 := hw9 ▸ Fr.alloc None' wx _
                    have BZ : EBox w9 wx.heap.size (.string P) (.int .i64 K) (.slice pz nl cz) (.string Da) := hw9 ▸ EBox.new wx _ _ _ _
                    have HF9 := toHid8 (HFX.out.then7 (fx.then7 F9))
                    have HFrX := toHid8 (FX.then7 (fx.then7 F9))
                    have HSz9 := toHid8 (HSz.out.kept F9)
                    obtain ⟨z0, z1, z2, z3⟩ := BZ.cells
                    clear q9 fx F9 dX0 dX1
                    have HS9 := toHid8 (HEr.out.kept HFrX.out)
                    have HSame := toHid8 (show ∀ cc, Calls Tryz.prog 16 #[.slice (some ⟨w9.heap.size, 0, none⟩) 1 1, .slice (some ⟨g, o + k * 4, none⟩) 1 cc] (w9.alloc (.cells #[.string P, .int .i64 K, .slice pz nl cz, .string Da] 41)).drew fun e w' => e = .returned (.bool true) ∧ Fr None' w9 w' from fun cc => by
                      have F0 : Fr None' w9 (w9.alloc (.cells #[.string P, .int .i64 K, .slice pz nl cz, .string Da] 41)).drew := (Fr.alloc None' _ _).then7 (Fr.drew None' _)
                      have B0 : EBox (w9.alloc (.cells #[.string P, .int .i64 K, .slice pz nl cz, .string Da] 41)) w9.heap.size (.string P) (.int .i64 K) (.slice pz nl cz) (.string Da) := EBox.new w9 _ _ _ _
                      refine (esame_any (some ⟨w9.heap.size, 0, none⟩) (some ⟨g, o + k * 4, none⟩) 1 1 cc [⟨P, K, l, Da⟩] _ rfl (ent_one (B0.kept (Fr.drew None' _)) (HSz9.out.kept F0)) (fun j x hj => ?_) (by decide) HSm.out).mono fun e w' ⟨h1, h2⟩ => ⟨h1, F0.then7 h2⟩
                      have hj0 : j = 0 := by have := (List.getElem?_eq_some_iff.1 hj).1; simpa using this
                      subst hj0
                      have hx0 : x = ⟨P, K, l, Da⟩ := by simpa using hj.symm
                      subst hx0
                      obtain ⟨g', o', e', hx'⟩ := (HS9.out.kept F0) k ⟨P, K, l, Da⟩ (by rw [← HXE.out]; exact List.getElem?_eq_getElem hkL)
                      cases e'
                      exact ⟨g, o + k * 4, rfl, hx'⟩)
                    have HK9 := toHid8 (show ∀ w', Fr None' w9 w' → Fr None' w9 w' ∧ w'.cell? ⟨wx.heap.size, 0, none⟩ = some (.string P) ∧ w'.cell? ⟨wx.heap.size, 1, none⟩ = some (.int .i64 K) ∧ w'.cell? ⟨wx.heap.size, 2, none⟩ = some (.slice pz nl cz) ∧ w'.cell? ⟨wx.heap.size, 3, none⟩ = some (.string Da) from fun w' f => ⟨f, f.keepCell z0 (fun e => e), f.keepCell z1 (fun e => e), f.keepCell z2 (fun e => e), f.keepCell z3 (fun e => e)⟩)
                    have cS := HSame.out
                    clear HSame z0 z1 z2 z3 BZ
                    go_wp2_with fail
                    go_region_held3 (fun w' => Fr None' w9 w' ∧ w'.cell? ⟨wx.heap.size, 0, none⟩ = some (.string P) ∧ w'.cell? ⟨wx.heap.size, 1, none⟩ = some (.int .i64 K) ∧ w'.cell? ⟨wx.heap.size, 2, none⟩ = some (.slice pz nl cz) ∧ w'.cell? ⟨wx.heap.size, 3, none⟩ = some (.string Da))
                      (exact HK9.out _ (by first | assumption | exact Fr.drew None' w9 | exact (Fr.alloc None' w9 _).then7 (Fr.drew None' _) | exact Fr.then7 (by assumption) (Fr.alloc None' _ _) | exact Fr.then7 (Fr.then7 (by assumption) (Fr.alloc None' _ _)) (Fr.alloc None' _ _)))
                      (first | (go_at_call 16; with_reducible (refine (cS _).mono ?_); rintro e wS ⟨rfl, FS⟩))
                    have HFS := toHid8 (HF9.out.then7 FS)
                    clear FS cS HK9
                    go_wp2_with fail
                    exact ⟨⟨k + 1, by omega, by go_num, HFS.out⟩, by simp [intOf]; omega⟩
                · have hk2 : (p.kind == 10) = false := by simpa using hk10
                  have HFq := toHid8 (show findE R (bl P) = some ⟨P, K, l, Da⟩ from HAk.out ha1 (fun e => absurd e hk10))
                  by_cases hd : p.dst.size = 0
                  · have hde := empty_of hd
                    rw [hde] at p2
                    clear hde hd
                    go_wp2_with fail
                    go_quiet ((go_at_call 21; first | with_reducible exact Calls.quiet_of_same ((HQA.out _).mono fun _ _ h => ⟨h.1, h.2.symm⟩) | exact Calls.quiet_of_same ((HQB.out _).mono fun _ _ h => ⟨h.1, h.2.symm⟩)))
                    have FX := Fr.drewN None' wr nq
                    generalize wr.drewN nq = wX at FX ⊢
                    have HFX := toHid8 (HF.out.then7 FX)
                    clear HQA HQB
                    obtain ⟨dX0, dX1⟩ : wX.cell? ⟨g, o + k * 4, none⟩ = some (.string P) ∧ True := ⟨FX.keepCell d0 (fun e => e), trivial⟩
                    have q9 := efind_any v6 m c6 R P wX HRm.out (HE8.out.kept HFX.out) (by omega)
                    rw [HFq.out] at q9
                    unfold FindPost at q9
                    simp only at q9
                    go_wp2_with fail
                    with_reducible refine q9.mono ?_
                    rintro e wx ⟨fx, vz, rfl, hsz⟩
                    have HSz := toHid8 hsz
                    obtain ⟨pz, cz, rfl, _⟩ := hsz
                    rw [hnl] at HSz ⊢
                    obtain ⟨w9, hw9⟩ : ∃ x, wx.alloc (.cells #[.string P, .int .i64 K, .slice pz nl cz, .string Da] 41) = x := ⟨_, rfl⟩
                    have F9 : Fr None' wx w9 := hw9 ▸ Fr.alloc None' wx _
                    have BZ : EBox w9 wx.heap.size (.string P) (.int .i64 K) (.slice pz nl cz) (.string Da) := hw9 ▸ EBox.new wx _ _ _ _
                    have HF9 := toHid8 (HFX.out.then7 (fx.then7 F9))
                    have HFrX := toHid8 (FX.then7 (fx.then7 F9))
                    have HSz9 := toHid8 (HSz.out.kept F9)
                    obtain ⟨z0, z1, z2, z3⟩ := BZ.cells
                    clear q9 fx F9 dX0 dX1
                    have HS9 := toHid8 (HEr.out.kept HFrX.out)
                    have HSame := toHid8 (show ∀ cc, Calls Tryz.prog 16 #[.slice (some ⟨w9.heap.size, 0, none⟩) 1 1, .slice (some ⟨g, o + k * 4, none⟩) 1 cc] (w9.alloc (.cells #[.string P, .int .i64 K, .slice pz nl cz, .string Da] 41)).drew fun e w' => e = .returned (.bool true) ∧ Fr None' w9 w' from fun cc => by
                      have F0 : Fr None' w9 (w9.alloc (.cells #[.string P, .int .i64 K, .slice pz nl cz, .string Da] 41)).drew := (Fr.alloc None' _ _).then7 (Fr.drew None' _)
                      have B0 : EBox (w9.alloc (.cells #[.string P, .int .i64 K, .slice pz nl cz, .string Da] 41)) w9.heap.size (.string P) (.int .i64 K) (.slice pz nl cz) (.string Da) := EBox.new w9 _ _ _ _
                      refine (esame_any (some ⟨w9.heap.size, 0, none⟩) (some ⟨g, o + k * 4, none⟩) 1 1 cc [⟨P, K, l, Da⟩] _ rfl (ent_one (B0.kept (Fr.drew None' _)) (HSz9.out.kept F0)) (fun j x hj => ?_) (by decide) HSm.out).mono fun e w' ⟨h1, h2⟩ => ⟨h1, F0.then7 h2⟩
                      have hj0 : j = 0 := by have := (List.getElem?_eq_some_iff.1 hj).1; simpa using this
                      subst hj0
                      have hx0 : x = ⟨P, K, l, Da⟩ := by simpa using hj.symm
                      subst hx0
                      obtain ⟨g', o', e', hx'⟩ := (HS9.out.kept F0) k ⟨P, K, l, Da⟩ (by rw [← HXE.out]; exact List.getElem?_eq_getElem hkL)
                      cases e'
                      exact ⟨g, o + k * 4, rfl, hx'⟩)
                    have HK9 := toHid8 (show ∀ w', Fr None' w9 w' → Fr None' w9 w' ∧ w'.cell? ⟨wx.heap.size, 0, none⟩ = some (.string P) ∧ w'.cell? ⟨wx.heap.size, 1, none⟩ = some (.int .i64 K) ∧ w'.cell? ⟨wx.heap.size, 2, none⟩ = some (.slice pz nl cz) ∧ w'.cell? ⟨wx.heap.size, 3, none⟩ = some (.string Da) from fun w' f => ⟨f, f.keepCell z0 (fun e => e), f.keepCell z1 (fun e => e), f.keepCell z2 (fun e => e), f.keepCell z3 (fun e => e)⟩)
                    have cS := HSame.out
                    clear HSame z0 z1 z2 z3 BZ
                    go_wp2_with fail
                    go_region_held3 (fun w' => Fr None' w9 w' ∧ w'.cell? ⟨wx.heap.size, 0, none⟩ = some (.string P) ∧ w'.cell? ⟨wx.heap.size, 1, none⟩ = some (.int .i64 K) ∧ w'.cell? ⟨wx.heap.size, 2, none⟩ = some (.slice pz nl cz) ∧ w'.cell? ⟨wx.heap.size, 3, none⟩ = some (.string Da))
                      (exact HK9.out _ (by first | assumption | exact Fr.drew None' w9 | exact (Fr.alloc None' w9 _).then7 (Fr.drew None' _) | exact Fr.then7 (by assumption) (Fr.alloc None' _ _) | exact Fr.then7 (Fr.then7 (by assumption) (Fr.alloc None' _ _)) (Fr.alloc None' _ _)))
                      (first | (go_at_call 16; with_reducible (refine (cS _).mono ?_); rintro e wS ⟨rfl, FS⟩))
                    have HFS := toHid8 (HF9.out.then7 FS)
                    clear FS cS HK9
                    go_wp2_with fail
                    exact ⟨⟨k + 1, by omega, by go_num, HFS.out⟩, by simp [intOf]; omega⟩
                  · have yd := isEmpty_no hd
                    go_wp2_with fail
                    go_quiet ((go_at_call 21; first | with_reducible exact Calls.quiet_of_same ((HQA.out _).mono fun _ _ h => ⟨h.1, h.2.symm⟩) | exact Calls.quiet_of_same ((HQB.out _).mono fun _ _ h => ⟨h.1, h.2.symm⟩)))
                    have FX := Fr.drewN None' wr nq
                    generalize wr.drewN nq = wX at FX ⊢
                    have HFX := toHid8 (HF.out.then7 FX)
                    clear HQA HQB
                    obtain ⟨dX0, dX1⟩ : wX.cell? ⟨g, o + k * 4, none⟩ = some (.string P) ∧ True := ⟨FX.keepCell d0 (fun e => e), trivial⟩
                    have q9 := efind_any v6 m c6 R P wX HRm.out (HE8.out.kept HFX.out) (by omega)
                    rw [HFq.out] at q9
                    unfold FindPost at q9
                    simp only at q9
                    go_wp2_with fail
                    with_reducible refine q9.mono ?_
                    rintro e wx ⟨fx, vz, rfl, hsz⟩
                    have HSz := toHid8 hsz
                    obtain ⟨pz, cz, rfl, _⟩ := hsz
                    rw [hnl] at HSz ⊢
                    obtain ⟨w9, hw9⟩ : ∃ x, wx.alloc (.cells #[.string P, .int .i64 K, .slice pz nl cz, .string Da] 41) = x := ⟨_, rfl⟩
                    have F9 : Fr None' wx w9 := hw9 ▸ Fr.alloc None' wx _
                    have BZ : EBox w9 wx.heap.size (.string P) (.int .i64 K) (.slice pz nl cz) (.string Da) := hw9 ▸ EBox.new wx _ _ _ _
                    have HF9 := toHid8 (HFX.out.then7 (fx.then7 F9))
                    have HFrX := toHid8 (FX.then7 (fx.then7 F9))
                    have HSz9 := toHid8 (HSz.out.kept F9)
                    obtain ⟨z0, z1, z2, z3⟩ := BZ.cells
                    clear q9 fx F9 dX0 dX1
                    have HS9 := toHid8 (HEr.out.kept HFrX.out)
                    have HSame := toHid8 (show ∀ cc, Calls Tryz.prog 16 #[.slice (some ⟨w9.heap.size, 0, none⟩) 1 1, .slice (some ⟨g, o + k * 4, none⟩) 1 cc] (w9.alloc (.cells #[.string P, .int .i64 K, .slice pz nl cz, .string Da] 41)).drew fun e w' => e = .returned (.bool true) ∧ Fr None' w9 w' from fun cc => by
                      have F0 : Fr None' w9 (w9.alloc (.cells #[.string P, .int .i64 K, .slice pz nl cz, .string Da] 41)).drew := (Fr.alloc None' _ _).then7 (Fr.drew None' _)
                      have B0 : EBox (w9.alloc (.cells #[.string P, .int .i64 K, .slice pz nl cz, .string Da] 41)) w9.heap.size (.string P) (.int .i64 K) (.slice pz nl cz) (.string Da) := EBox.new w9 _ _ _ _
                      refine (esame_any (some ⟨w9.heap.size, 0, none⟩) (some ⟨g, o + k * 4, none⟩) 1 1 cc [⟨P, K, l, Da⟩] _ rfl (ent_one (B0.kept (Fr.drew None' _)) (HSz9.out.kept F0)) (fun j x hj => ?_) (by decide) HSm.out).mono fun e w' ⟨h1, h2⟩ => ⟨h1, F0.then7 h2⟩
                      have hj0 : j = 0 := by have := (List.getElem?_eq_some_iff.1 hj).1; simpa using this
                      subst hj0
                      have hx0 : x = ⟨P, K, l, Da⟩ := by simpa using hj.symm
                      subst hx0
                      obtain ⟨g', o', e', hx'⟩ := (HS9.out.kept F0) k ⟨P, K, l, Da⟩ (by rw [← HXE.out]; exact List.getElem?_eq_getElem hkL)
                      cases e'
                      exact ⟨g, o + k * 4, rfl, hx'⟩)
                    have HK9 := toHid8 (show ∀ w', Fr None' w9 w' → Fr None' w9 w' ∧ w'.cell? ⟨wx.heap.size, 0, none⟩ = some (.string P) ∧ w'.cell? ⟨wx.heap.size, 1, none⟩ = some (.int .i64 K) ∧ w'.cell? ⟨wx.heap.size, 2, none⟩ = some (.slice pz nl cz) ∧ w'.cell? ⟨wx.heap.size, 3, none⟩ = some (.string Da) from fun w' f => ⟨f, f.keepCell z0 (fun e => e), f.keepCell z1 (fun e => e), f.keepCell z2 (fun e => e), f.keepCell z3 (fun e => e)⟩)
                    have cS := HSame.out
                    clear HSame z0 z1 z2 z3 BZ
                    go_wp2_with fail
                    go_region_held3 (fun w' => Fr None' w9 w' ∧ w'.cell? ⟨wx.heap.size, 0, none⟩ = some (.string P) ∧ w'.cell? ⟨wx.heap.size, 1, none⟩ = some (.int .i64 K) ∧ w'.cell? ⟨wx.heap.size, 2, none⟩ = some (.slice pz nl cz) ∧ w'.cell? ⟨wx.heap.size, 3, none⟩ = some (.string Da))
                      (exact HK9.out _ (by first | assumption | exact Fr.drew None' w9 | exact (Fr.alloc None' w9 _).then7 (Fr.drew None' _) | exact Fr.then7 (by assumption) (Fr.alloc None' _ _) | exact Fr.then7 (Fr.then7 (by assumption) (Fr.alloc None' _ _)) (Fr.alloc None' _ _)))
                      (first | (go_at_call 16; with_reducible (refine (cS _).mono ?_); rintro e wS ⟨rfl, FS⟩))
                    have HFS := toHid8 (HF9.out.then7 FS)
                    clear FS cS HK9
                    go_wp2_with fail
                    exact ⟨⟨k + 1, by omega, by go_num, HFS.out⟩, by simp [intOf]; omega⟩
            · have i2 : ¬ (k : Int) < (n : Int) := by omega
              have HFz := toHid8 (HF8.out.then7 HF.out)
              go_wp2_with fail
              go_ret
              exact ⟨rfl, HFz.out⟩
        · have he2 : (er == 0) = false := by simpa using he
          obtain rfl := all_none8 HR.out he
          go_wp2_with fail
          go_ret
          exact ⟨rfl, HF7.out⟩

end Go.Proofs.YtcpjneejlfgkeaaGreatDoor
