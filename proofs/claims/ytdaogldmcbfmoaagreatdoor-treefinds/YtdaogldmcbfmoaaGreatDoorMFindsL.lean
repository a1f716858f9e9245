/-
  What is proved here: the walk through TreeFinds. Conditions: the arguments lie in memory, and are no greater than the reach.
-/
import Derived.Test.YtdaogldmcbfmoaaGreatDoorM47Head7
import Derived.Test.YtdaogldmcbfmoaaGreatDoorM38RightT2
namespace Go.Proofs.YtdaogldmcbfmoaaGreatDoor
open Go.RowKit Go.Maps Go.WideMaps
set_option maxRecDepth 100000

theorem small_weight {L : List En} (h : weight L < 4000) : SmallE L ∧ L.length ≤ 1000 := by
  refine ⟨fun x hx => ?_, by have := weight_len L; omega⟩
  have h1 := weight_mem hx
  unfold En.weight at h1
  refine ⟨by omega, by omega, by omega, fun y hy => ?_⟩
  have := size_mem hy
  omega

theorem step_app7 {P : Program} {ops : Array Oper} {o : Oper} {a : Act} {w w' : World} {K : Act → World → Prop} {Q : Exit → Act → World → Prop} {E : Prop} {v : Value} {t : TypeId} (hgd : o.guard = none) (s x : Operand)
    (ho : o.op = .call { callee := .builtin .append, args := #[s, x], argTypes := #[t, t] }) {vs vx : Value} (hs : a.eval s = vs) (hx : a.eval x = vx) (hr : (Builtin.append_ #[t, t] o.type #[vs, vx]).run P w = .ok v w') (h : K (a.put o.dst v) w') :
    if Region.wanted o (yielded ops a.tmps) = true then Oper.wp P o a w K Q else E := by
  have hw : Region.wanted o (yielded ops a.tmps) = true := by simp [Region.wanted, hgd]
  rw [if_pos hw]
  unfold Oper.wp execOp
  simp only [ho, resolve, invoke, builtin, Sem.run_bind, Sem.run_pure, Result.andThen_ok, List.map_toArray, List.map_cons, List.map_nil, hs, hx, hr]
  exact h

set_option maxHeartbeats 8000000 in
theorem finds_walk (va : Option Addr) (n c : Nat) (L : List En) (p : ByteArray) (a : Nat) (W : World) (hl : L.length = n) (hE : EntsAt W va L) (hn : n ≤ 140737488351232) (hx : ∀ x ∈ L, x.lines.length ≤ 140737488351232) (hc : n ≤ c) (ha : a < 256) :
    Calls Tryz.prog 5 #[.slice va n c, .string p, .int .u8 (a : Int)] W fun e w' => e = .returned (.bool true) ∧ Fr None' W w' := by
  have q1 := head_any W
  have HE : Hid (EntsAt W va L ∧ L.length = n ∧ n ≤ c ∧ a < 256) := ⟨hE, hl, hc, ha⟩
  have HX : Hid (∀ x ∈ L, x.lines.length ≤ 140737488355328) := fun x h => by have := hx x h; omega
  have HN : Hid (n ≤ 140737488355328) := by show _ ≤ _; omega
  clear hE hl hx hc ha hn
  go_enter Tryz.func5, Tryz.ntmps5
  go_wp2_with fail
  with_reducible refine q1.mono ?_
  rintro e w1 ⟨rfl, F1⟩
  have q2 := great_any va n c L w1 HE.out.2.1 (HE.out.1.kept F1) HN.out HX.out
  have HF1 : Hid (Fr None' W w1) := F1
  clear q1 F1
  go_wp2_with fail
  with_reducible refine q2.mono ?_
  rintro e w2 ⟨g, rfl, hg, F2⟩
  have HF2 : Hid (Fr None' W w2) := HF1.out.then7 F2
  clear q2 F2
  cases g with
  | true =>
    clear hg
    go_wp2_with fail
    go_ret
    exact ⟨rfl, HF2.out⟩
  | false =>
    obtain ⟨hsm, hle⟩ := small_weight (hg rfl)
    clear hg
    by_cases hp : (3000 : Int) < (p.size : Int)
    · go_wp2_with fail
      go_ret
      exact ⟨rfl, HF2.out⟩
    · have q3 := tright_any va n c L w2 HE.out.2.1 (HE.out.1.kept HF2.out) (by have := HE.out.2.1; omega) hsm
      have i1 : (n : Int) ≤ 1000 := by have := HE.out.2.1; omega
      have HSM : Hid (SmallE L) := hsm
      clear hsm hle
      cases hT : treeRight L with
      | false =>
        rw [hT] at q3
        clear hT
        go_wp2_with fail
        with_reducible refine q3.mono ?_
        rintro e w3 ⟨rfl, F3⟩
        have HF3 : Hid (Fr None' W w3) := HF2.out.then7 F3
        clear q3 F3
        go_wp2_with fail
        go_ret
        exact ⟨rfl, HF3.out⟩
      | true =>
        rw [hT] at q3
        have HT : Hid (treeRight L = true) := hT
        clear hT
        go_wp2_with fail
        with_reducible refine q3.mono ?_
        rintro e w3 ⟨rfl, F3⟩
        have HF3 : Hid (Fr None' W w3) := HF2.out.then7 F3
        clear q3 F3
        go_wp2_with fail
        go_loopw [8, 9] (fun vs vi wr => ∃ (k : Nat) (b : Bool), k ≤ n ∧ vi = .int .i64 k ∧ vs = .bool b ∧ Hid (b = (L.take k).any (fun y => decide (bl y.path = bl p))) ∧ Hid (Fr None' W wr)) (fun _ vi _ => n - (intOf vi).toNat)
        case atStart => exact ⟨0, false, Nat.zero_le _, rfl, rfl, rfl, HF3.out⟩
        case round =>
          obtain ⟨k, b, hk, rfl, rfl, HB, HF⟩ := hrel
          by_cases hlt : k < n
          · have hkL : k < L.length := by rw [HE.out.2.1]; exact hlt
            obtain ⟨g, o, rfl, vl, d0, d1, d2, d3, hs1⟩ := (HE.out.1.kept HF.out).get hkL
            have q4 := tfind_any (some ⟨g, o, none⟩) n c L L[k].path wr HE.out.2.1 (HE.out.1.kept HF.out) HN.out HSM.out
            rw [find_of_mem (right_strict HT.out) (List.getElem_mem hkL)] at q4
            have hz := HSM.out _ (List.getElem_mem hkL)
            obtain ⟨x, hxe⟩ : ∃ x, L[k] = x := ⟨_, rfl⟩
            have HXE : Hid (L[k] = x) := hxe
            rw [hxe] at d0 d1 d3 hs1 q4 hz
            obtain ⟨P, K, l, Da⟩ := x
            simp only at d0 d1 d3 hs1 q4
            have HS1 : Hid (EnAt wr g (o + k * 4) ⟨P, K, l, Da⟩) := ⟨vl, d0, d1, d2, d3, hs1⟩
            obtain ⟨pl, cl, rfl, _⟩ := hs1
            have i2 : (k : Int) < (n : Int) := by omega
            have i3 : (0 : Int) ≤ (k : Int) := by omega
            have i4 : (n : Int) ≤ (c : Int) := by have := HE.out.2.2.1; omega
            have HZ : Hid (SmallE [⟨P, K, l, Da⟩]) := fun y hy => by rw [List.mem_singleton.1 hy]; exact hz
            clear hxe hz
            go_wp2_with fail
            with_reducible refine q4.mono ?_
            rintro e w4 ⟨F4, vl4, he, hst4⟩
            simp only at he
            subst he
            obtain ⟨pl4, cl4, rfl, _⟩ := id hst4
            obtain ⟨nl, hnl⟩ : ∃ m, l.length = m := ⟨_, rfl⟩
            rw [hnl] at hst4 ⊢
            have HST4 : Hid (StrsAt w4 (.slice pl4 nl cl4) l) := hst4
            have HF4 : Hid (Fr None' wr w4) := F4
            obtain ⟨w5, hw5⟩ : ∃ x, w4.alloc (.cells #[.string P, .int .i64 K, .slice pl4 nl cl4, .string Da] 38) = x := ⟨_, rfl⟩
            obtain ⟨b0, b1, b2, b3⟩ := cell4 w4 38 (.string P) (.int .i64 K) (.slice pl4 nl cl4) (.string Da)
            rw [hw5] at b0 b1 b2 b3
            have F5 : Fr None' w4 w5 := hw5 ▸ Fr.alloc None' w4 _
            have e0 : w5.drew.cell? ⟨w4.heap.size, 0, none⟩ = some (.string P) := b0
            have e1 : w5.drew.cell? ⟨w4.heap.size, 1, none⟩ = some (.int .i64 K) := b1
            have e2 : w5.drew.cell? ⟨w4.heap.size, 2, none⟩ = some (.slice pl4 nl cl4) := b2
            have e3 : w5.drew.cell? ⟨w4.heap.size, 3, none⟩ = some (.string Da) := b3
            have HSame : Hid (∀ wx, Fr None' w5 wx → ∀ cc, Calls Tryz.prog 21 #[.slice (some ⟨wx.heap.size, 0, none⟩) 1 1, .slice (some ⟨g, o + k * 4, none⟩) 1 cc] (wx.alloc (.cells #[.string P, .int .i64 K, .slice pl4 nl cl4, .string Da] 38)).drew fun e w' => e = .returned (.bool true) ∧ Fr None' w5 w') := fun wx F6' cc => by
              have F6 : Fr None' w5 (wx.alloc (.cells #[.string P, .int .i64 K, .slice pl4 nl cl4, .string Da] 38)).drew := (F6'.then7 (Fr.alloc None' _ _)).then7 (Fr.drew None' _)
              obtain ⟨c0, c1, c2, c3, _⟩ := cell4_at (heap_alloc_new wx (.cells #[.string P, .int .i64 K, .slice pl4 nl cl4, .string Da] 38))
              have Fr6 := (HF4.out.then7 F5).then7 F6
              refine (esame_any (some ⟨wx.heap.size, 0, none⟩) (some ⟨g, o + k * 4, none⟩) 1 1 cc [⟨P, K, l, Da⟩] _ rfl (fun j x hj => ?_) (fun j x hj => ?_) (by decide) HZ.out).mono fun e w' ⟨h1, h2⟩ => ⟨h1, F6.then7 h2⟩
              · have hj0 : j = 0 := by have := (List.getElem?_eq_some_iff.1 hj).1; simpa using this
                subst hj0
                have hx0 : x = ⟨P, K, l, Da⟩ := by simpa using hj.symm
                subst hx0
                exact ⟨_, 0, rfl, .slice pl4 nl cl4, c0, c1, c2, c3, HST4.out.kept (F5.then7 F6)⟩
              · have hj0 : j = 0 := by have := (List.getElem?_eq_some_iff.1 hj).1; simpa using this
                subst hj0
                have hx0 : x = ⟨P, K, l, Da⟩ := by simpa using hj.symm
                subst hx0
                exact ⟨g, o + k * 4, rfl, HS1.out.kept Fr6⟩
            have HK5 : Hid (∀ w', Fr None' w5 w' → Fr None' w5 w' ∧ w'.cell? ⟨w4.heap.size, 0, none⟩ = some (.string P) ∧ w'.cell? ⟨w4.heap.size, 1, none⟩ = some (.int .i64 K) ∧ w'.cell? ⟨w4.heap.size, 2, none⟩ = some (.slice pl4 nl cl4) ∧ w'.cell? ⟨w4.heap.size, 3, none⟩ = some (.string Da)) := fun w' f => ⟨f, f.keepCell b0 (fun e => e), f.keepCell b1 (fun e => e), f.keepCell b2 (fun e => e), f.keepCell b3 (fun e => e)⟩
            have cS := HSame.out w5 (Fr.refl _ _)
            have ck : ¬ c = k := by omega
            have i5 : (k : Int) + 1 ≤ (c : Int) := by omega
            have i6 : (k : Int) + 1 ≤ (n : Int) := by omega
            have i7 : (0 : Int) ≤ (k : Int) + 1 := by omega
            have u1 : IntKind.i64.wrap ((k : Int) + 1) = (k : Int) + 1 := by simp [IntKind.wrap, IntKind.bits, IntKind.signed]; omega
            have HF5 : Hid (Fr None' W w5) := HF.out.then7 (HF4.out.then7 F5)
            have HS5 : Hid (EnAt w5 g (o + k * 4) ⟨P, K, l, Da⟩) := HS1.out.kept (HF4.out.then7 F5)
            clear q4 F4 hst4 hnl d0 d1 d2 d3 F5 b0 b1 b2 b3 e0 e1 e2 e3
            go_wp2_with fail
            go_region_held3 (fun w' => Fr None' w5 w' ∧ w'.cell? ⟨w4.heap.size, 0, none⟩ = some (.string P) ∧ w'.cell? ⟨w4.heap.size, 1, none⟩ = some (.int .i64 K) ∧ w'.cell? ⟨w4.heap.size, 2, none⟩ = some (.slice pl4 nl cl4) ∧ w'.cell? ⟨w4.heap.size, 3, none⟩ = some (.string Da))
              (exact HK5.out _ (by first | assumption | exact Fr.drew None' w5 | exact (Fr.alloc None' w5 _).then7 (Fr.drew None' _) | exact Fr.then7 (by assumption) (Fr.alloc None' _ _) | exact Fr.then7 (Fr.then7 (by assumption) (Fr.alloc None' _ _)) (Fr.alloc None' _ _)))
              (first | (go_at_call 21; with_reducible (refine (cS _).mono ?_); rintro e w6 ⟨rfl, F6⟩))
            have HF6 : Hid (Fr None' W w6) := HF5.out.then7 F6
            have c0 : w6.cell? ⟨g, o + k * 4, none⟩ = some (.string P) := by
              obtain ⟨_, h0, _⟩ := HS5.out
              exact F6.keepCell h0 (fun e => e)
            have HB1 : Hid ((L.take (k + 1)).any (fun y => decide (bl y.path = bl p)) = (b || decide (bl P = bl p))) := by
              show _ = _
              rw [List.take_succ_eq_append_getElem hkL, List.any_append, ← HB.out, HXE.out]
              simp
            clear F6 cS HSame HK5 HS5 HST4 HF4 HS1 HZ u1
            cases b with
            | true =>
              have HB3 : Hid (true = (L.take (k + 1)).any (fun y => decide (bl y.path = bl p))) := by show _ = _; rw [HB1.out]; rfl
              clear HB HB1
              go_wp2_with fail
              exact ⟨⟨k + 1, true, by omega, by go_num, rfl, HB3.out, HF6.out⟩, by simp [intOf]; omega⟩
            | false =>
              by_cases hPp : P = p
              · subst hPp
                have HB3 : Hid (true = (L.take (k + 1)).any (fun y => decide (bl y.path = bl P))) := by show _ = _; rw [HB1.out]; simp
                clear HB HB1
                go_wp2_with fail
                exact ⟨⟨k + 1, true, by omega, by go_num, rfl, HB3.out, HF6.out⟩, by simp [intOf]; omega⟩
              · have HB3 : Hid (false = (L.take (k + 1)).any (fun y => decide (bl y.path = bl p))) := by
                  show _ = _
                  rw [HB1.out, Bool.false_or]
                  exact (decide_eq_false (fun e => hPp (bl_inj e))).symm
                obtain ⟨s1, s2⟩ := str_no7 hPp
                clear HB HB1 hPp
                go_wp2_with fail
                exact ⟨⟨k + 1, false, by omega, by go_num, rfl, HB3.out, HF6.out⟩, by simp [intOf]; omega⟩
          · have e : k = n := by omega
            subst e
            have HB2 : Hid (b = L.any (fun y => decide (bl y.path = bl p))) := by
              have h := HB.out
              rw [List.take_of_length_le (by rw [HE.out.2.1]; exact Nat.le_refl _)] at h
              exact h
            have q5 : Calls Tryz.prog 15 #[.slice va k c, .string p] wr fun e w' => ∃ s0 s1 a1 a2 a3 s3, e = .returned (.tuple #[.agg #[.string s0, .int .i64 s1, .slice a1 a2 a3, .string s3], .bool b]) ∧ Fr None' W w' := by
              refine (tfind_any va k c L p wr HE.out.2.1 (HE.out.1.kept HF.out) HN.out HSM.out).mono fun e w' h => ?_
              cases hf : findE L (bl p) with
              | none =>
                rw [hf] at h
                obtain ⟨h1, h2⟩ := h
                have hb : b = false := by
                  rw [HB2.out]
                  unfold findE at hf
                  rw [List.any_eq_false]
                  intro y hy
                  exact List.find?_eq_none.1 hf y hy
                exact ⟨_, _, _, _, _, _, by rw [h2, hb], HF.out.then7 h1⟩
              | some y =>
                rw [hf] at h
                obtain ⟨h1, vl, h2, h3⟩ := h
                obtain ⟨y1, y2⟩ := find_some hf
                have hb : b = true := by
                  rw [HB2.out]
                  exact List.any_eq_true.2 ⟨y, y1, decide_eq_true y2⟩
                obtain ⟨pl, cl, e2, _⟩ := h3
                exact ⟨_, _, _, _, _, _, by rw [h2, hb, e2], HF.out.then7 h1⟩
            clear HB HB2
            go_wp2_with fail
            with_reducible refine q5.mono ?_
            rintro e w4 ⟨s0, s1, a1, a2, a3, s3, rfl, F4⟩
            have HF4 : Hid (Fr None' W (w4.alloc (.cells #[.string s0, .int .i64 s1, .slice a1 a2 a3, .string s3] 38))) := F4.then7 (Fr.alloc None' w4 _)
            clear q5 F4
            by_cases hk0 : k = 0
            · subst hk0
              go_wp2_with fail
              go_ret
              exact ⟨rfl, HF4.out⟩
            · have j0 : ¬ (k : Int) = 0 := by omega
              have j1 : ((k : Int) == 0) = false := by simpa using j0
              obtain ⟨w5, hw5⟩ : ∃ x, w4.alloc (.cells #[.string s0, .int .i64 s1, .slice a1 a2 a3, .string s3] 38) = x := ⟨_, rfl⟩
              rw [hw5] at HF4
              obtain ⟨K, hK⟩ : ∃ K : Nat, a % k = K := ⟨_, rfl⟩
              have hKk : K < k := by rw [← hK]; exact Nat.mod_lt _ (by omega)
              have hw64 : wrap64 (a : Int) = (a : Int) := by
                have := HE.out.2.2.2
                unfold wrap64
                omega
              have m1 : (wrap64 (a : Int)).tmod (k : Int) = (K : Int) := by rw [hw64, ← hK]; rfl
              have u1 : IntKind.i64.wrap ((K : Int) + 1) = (K : Int) + 1 := by simp [IntKind.wrap, IntKind.bits, IntKind.signed]; omega
              have hKL : K < L.length := by rw [HE.out.2.1]; exact hKk
              have E5 : EntsAt w5 va L := HE.out.1.kept HF4.out
              obtain ⟨g, o, rfl, vl, d0, d1, d2, d3, hs1⟩ := E5.get hKL
              have hkc := HE.out.2.2.1
              have hL := HE.out.2.1
              have ET : EntsAt w5 (some ⟨g, o, none⟩) (L.take K) := fun j x hj => by
                rw [List.getElem?_take] at hj
                split at hj
                · exact E5 j x hj
                · cases hj
              obtain ⟨o2, ho2, ED⟩ : ∃ o2, (if c = K + 1 then (some ⟨g, o, none⟩ : Option Addr) else some ⟨g, o + (K + 1) * 4, none⟩) = some ⟨g, o2, none⟩ ∧ EntsAt w5 (some ⟨g, o2, none⟩) (L.drop (K + 1)) := by
                by_cases hcK : c = K + 1
                · rw [if_pos hcK]
                  refine ⟨o, rfl, ?_⟩
                  rw [List.drop_of_length_le (by omega)]
                  exact fun j x hj => by simp at hj
                · rw [if_neg hcK]
                  refine ⟨_, rfl, fun j x hj => ?_⟩
                  rw [List.getElem?_drop] at hj
                  obtain ⟨g', o', e, hx⟩ := E5 _ x hj
                  cases e
                  exact ⟨g, _, rfl, by rw [show o + (K + 1) * 4 + j * 4 = o + (K + 1 + j) * 4 from by omega]; exact hx⟩
              obtain ⟨wb, hwb⟩ : ∃ x, (w5.alloc (.cells #[] 38)).drew = x := ⟨_, rfl⟩
              have Fb : Fr None' w5 wb := hwb ▸ (Fr.alloc None' w5 _).then7 (Fr.drew None' _)
              have own0 : OwnE w5.heap.size w5 wb (.slice (some ⟨w5.heap.size, 0, none⟩) 0 0) [] [] := ⟨rfl, ⟨rfl, Or.inr ⟨w5.heap.size, 0, #[], rfl, Nat.le_refl _, by rw [← hwb]; exact heap_alloc_new w5 _, Nat.le_refl _, by decide, rfl, rfl⟩⟩, fun k x vl e => by simp at e⟩
              obtain ⟨v1, U1, wA1, hr1, O1, f1⟩ := own0.appendAll (c := c) (m := K) (by rw [List.length_take]; omega) ET Fb (by show 0 + K ≤ _; omega) Fb.size
              have F1 : Fr None' w5 wA1 := Fb.trans f1 (fun i e => Or.inr (by cases e; exact Nat.le_refl _))
              rw [List.nil_append] at O1
              obtain ⟨va1, c1, hv1, _, _, _, hb1⟩ := O1.slice F1
              obtain ⟨v2, U2, wA2, hr2, O2, f2⟩ := O1.appendAll (c := c - (K + 1)) (m := k - (K + 1)) (by rw [List.length_drop]; omega) ED F1 (by rw [List.length_take]; omega) F1.size
              have F2 : Fr None' w5 wA2 := F1.trans f2 (fun i e => Or.inr (hb1 i e).1)
              obtain ⟨va2, c2, hv2, _, _, E2, hb2⟩ := O2.slice F2
              have hl1 : (L.take K).length = K := by rw [List.length_take]; omega
              have hl2 : (L.take K ++ L.drop (K + 1)).length = k - 1 := by rw [List.length_append, List.length_take, List.length_drop]; omega
              rw [hl1] at hv1
              rw [hl2] at hv2
              subst hv1 hv2
              have i5 : (K : Int) ≤ (c : Int) := by omega
              have i6 : (K : Int) + 1 ≤ (k : Int) := by omega
              have i7 : (0 : Int) ≤ (K : Int) := by omega
              have i8 : (K : Int) < (k : Int) := by omega
              have i9 : (k : Int) ≤ (c : Int) := by omega
              have i10 : (0 : Int) ≤ (K : Int) + 1 := by omega
              have HKq : Hid (Fr None' w5 wb ∧ Fr None' w5 wA1 ∧ Fr None' w5 wA2 ∧ EntsAt wA2 va2 (L.take K ++ L.drop (K + 1))) := ⟨Fb, F1, F2, E2⟩
              have HR1 : Hid _ := hr1
              have HR2 : Hid _ := hr2
              clear ET ED own0 O1 O2 f1 f2 hb1 hb2 E2 hr1 hr2 Fb F1 F2 hl1 hl2 E5 hw64 hK d1 d2 d3 hs1 hL hkc
              go_wp2_with fail
              go_region_held3 (fun w' => Fr None' w5 w')
                (first | exact Fr.drew None' w5 | exact HKq.out.1 | exact HKq.out.2.1 | exact HKq.out.2.2.1)
                (first
                  | (refine step_app7 rfl (.tmp 87) (.tmp 90) rfl (by first | rfl | simp [Act.eval, Act.put]) (by first | rfl | simp [Act.eval, Act.put]) HR1.out ?_)
                  | (refine step_app7 rfl (.tmp 91) (.tmp 95) rfl (by first | rfl | simp [Act.eval, Act.put]) (by first | rfl | simp [Act.eval, Act.put]) HR2.out ?_))
              have HSL : Hid (SmallE (L.take K ++ L.drop (K + 1)) ∧ (L.take K ++ L.drop (K + 1)).length = k - 1) := ⟨fun x hx => HSM.out x (by
                rcases List.mem_append.1 hx with e | e
                · exact List.mem_of_mem_take e
                · exact List.mem_of_mem_drop e), by rw [List.length_append, List.length_take, List.length_drop]; have := HE.out.2.1; omega⟩
              have HQ6 : Hid (∀ w', Fr None' wA2 w' → Calls Tryz.prog 17 #[.slice va2 (k - 1) c2] w' fun e w'' => e = .returned (.bool (decide ((children L (bl L[K].path)).length = 0))) ∧ Fr None' wA2 w'') := fun w' f => by
                have h := tright_any va2 (k - 1) c2 (L.take K ++ L.drop (K + 1)) w' HSL.out.2 (HKq.out.2.2.2.kept f) (by omega) HSL.out.1
                rw [right_without HT.out hKL] at h
                exact h.mono fun e w'' ⟨h1, h2⟩ => ⟨h1, f.then7 h2⟩
              have HQ7 : Hid (∀ w', Fr None' wA2 w' → Calls Tryz.prog 25 #[.slice (some ⟨g, o, none⟩) k c, .string L[K].path] w' fun e w'' => ∃ vx cx, e = .returned (.slice vx (children L (bl L[K].path)).length cx) ∧ Fr None' wA2 w'') := fun w' f => by
                refine (echildren_any (some ⟨g, o, none⟩) k c L L[K].path w' HE.out.2.1 (HE.out.1.kept ((HF4.out.then7 HKq.out.2.2.1).then7 f)) (by omega) HSM.out).mono fun e w'' ⟨v, V, h1, h2, h3⟩ => ?_
                obtain ⟨vx, cx, hv, _⟩ := h2.slice h3
                exact ⟨vx, cx, by rw [h1, hv], f.then7 h3⟩
              have HA2 : Hid (∀ w', Fr None' wA2 w' → Fr None' wA2 w' ∧ w'.cell? ⟨g, o + K * 4, none⟩ = some (.string L[K].path)) := fun w' f => ⟨f, (HKq.out.2.2.1.then7 f).keepCell d0 (fun e => e)⟩
              have HFin : Hid (∀ w', Fr None' wA2 w' → Fr None' W w') := fun w' f => (HF4.out.then7 HKq.out.2.2.1).then7 f
              generalize L[K].path = PK at HQ7 HA2 HQ6
              obtain ⟨N, hN⟩ : ∃ N, (children L (bl PK)).length = N := ⟨_, rfl⟩
              simp only [hN] at HQ6 HQ7
              clear HR1 HR2 HKq d0 hN HSL
              by_cases hN0 : N = 0
              · subst hN0
                rw [decide_eq_true rfl] at HQ6
                go_wp2_with fail
                go_region_held3 (fun w' => Fr None' wA2 w' ∧ w'.cell? ⟨g, o + K * 4, none⟩ = some (.string PK))
                  (exact HA2.out _ (by first | assumption | exact Fr.drew None' wA2 | exact Fr.refl _ _ | exact Fr.then7 (by assumption) (Fr.drew None' _)))
                  (first
                    | (go_at_call 17; with_reducible (refine (HQ6.out _ (by first | assumption | exact Fr.drew None' wA2 | exact Fr.refl _ _)).mono ?_); rintro e w6 ⟨rfl, F6⟩)
                    | (go_at_call 25; with_reducible (refine (HQ7.out _ (by first | assumption | exact Fr.drew None' wA2 | exact Fr.refl _ _)).mono ?_); rintro e w7 ⟨vx, cx, rfl, F7⟩))
                go_wp2_with fail
                go_ret
                exact ⟨rfl, HFin.out _ (by assumption)⟩
              · have n0 : ¬ (N : Int) = 0 := by omega
                have n1 : ((N : Int) == 0) = false := by simpa using n0
                rw [decide_eq_false hN0] at HQ6
                go_wp2_with fail
                go_region_held3 (fun w' => Fr None' wA2 w' ∧ w'.cell? ⟨g, o + K * 4, none⟩ = some (.string PK))
                  (exact HA2.out _ (by first | assumption | exact Fr.drew None' wA2 | exact Fr.refl _ _ | exact Fr.then7 (by assumption) (Fr.drew None' _)))
                  (first
                    | (go_at_call 17; with_reducible (refine (HQ6.out _ (by first | assumption | exact Fr.drew None' wA2 | exact Fr.refl _ _)).mono ?_); rintro e w6 ⟨rfl, F6⟩)
                    | (go_at_call 25; with_reducible (refine (HQ7.out _ (by first | assumption | exact Fr.drew None' wA2 | exact Fr.refl _ _)).mono ?_); rintro e w7 ⟨vx, cx, rfl, F7⟩))
                go_wp2_with fail
                go_ret
                exact ⟨rfl, HFin.out _ (by assumption)⟩

end Go.Proofs.YtdaogldmcbfmoaaGreatDoor
