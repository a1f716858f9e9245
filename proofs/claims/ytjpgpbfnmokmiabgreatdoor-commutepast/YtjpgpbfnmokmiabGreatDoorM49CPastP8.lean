/-
  What is proved here: the contracts that the statement stands on: CPastP8, CPastW8. Conditions: as each theorem names them.
-/
import Derived.Test.YtjpgpbfnmokmiabGreatDoorM40Eff8
import Derived.Test.YtjpgpbfnmokmiabGreatDoorM47Past10
namespace Go.Proofs.YtjpgpbfnmokmiabGreatDoor
open Go.RowKit Go.Maps Go.WideMaps
set_option maxRecDepth 100000

theorem do_len {L M : List En} (h : TreeR L) {p : Pr} (e : doE L p = (M, 0)) : M.length ≤ L.length + 1 := by
  obtain ⟨hr, ha⟩ := do_of e
  obtain ⟨h1, h2⟩ := act_len h hr ha
  by_cases hw : wants p
  · have := h1 hw; omega
  · have := h2 hw; omega

theorem past_cons {p q b : Pr} {l A : List Pr} (h : pastP p (q :: l) = (A, b, true)) : ∃ a c A', commP p q = (a, c, true) ∧ pastP c l = (A', b, true) ∧ A = a :: A' := by
  rw [pastP] at h
  split at h
  · rename_i hc
    obtain ⟨r, hr⟩ : ∃ r, commP p q = r := ⟨_, rfl⟩
    rw [hr] at h hc
    obtain ⟨a, c, t⟩ := r
    simp only at h hc
    subst hc
    obtain ⟨s, hs⟩ : ∃ s, pastP c l = s := ⟨_, rfl⟩
    rw [hs] at h
    obtain ⟨A', b', t'⟩ := s
    simp only at h
    split at h
    · rename_i ht
      subst ht
      simp only [Prod.mk.injEq, and_true] at h
      exact ⟨a, c, A', hr, by rw [hs, h.2], h.1.symm⟩
    · simp at h
  · simp at h

theorem past_len : ∀ {l : List Pr} {p b : Pr} {A : List Pr}, pastP p l = (A, b, true) → A.length = l.length
  | [], _, _, _, h => by simp [pastP] at h; rw [← h.1]
  | q :: l, _, _, _, h => by
    obtain ⟨a, c, A', _, h2, rfl⟩ := past_cons h
    rw [List.length_cons, List.length_cons, past_len h2]

theorem past_sm : ∀ {l : List Pr} {p b : Pr} {A : List Pr}, pastP p l = (A, b, true) → SmPr p → (∀ x ∈ l, SmPr x) → ∀ x ∈ A ++ [b], SmPr x
  | [], _, _, _, h, hp, _ => by
    simp only [pastP, Prod.mk.injEq, and_true] at h
    rw [← h.1, ← h.2]
    intro x hx
    simp only [List.nil_append, List.mem_singleton] at hx
    rw [hx]; exact hp
  | q :: l, _, _, _, h, hp, hl => by
    obtain ⟨a, c, A', h1, h2, rfl⟩ := past_cons h
    obtain ⟨s1, s2⟩ := comm_sm h1 hp (hl q (List.mem_cons_self ..))
    intro x hx
    rw [List.cons_append] at hx
    rcases List.mem_cons.1 hx with rfl | hx
    · exact s1
    · exact past_sm h2 s2 (fun y hy => hl y (List.mem_cons_of_mem _ hy)) x hx

theorem run_past : ∀ {l : List Pr} {L X : List En} {p b : Pr} {A : List Pr} {j k : Nat}, TreeR L → runE L (p :: l) j = (X, 0, k) → pastP p l = (A, b, true) → (∀ i, runE L (A ++ [b]) i = (X, 0, 0)) ∨ ((∀ i, ∃ z, runE L (A ++ [b]) i = ([], 2, z)) ∧ 1024 ≤ L.length + (l.length + 1))
  | [], _, _, _, _, _, _, _, _, e, h => by
    simp only [pastP, Prod.mk.injEq, and_true] at h
    obtain ⟨M, h1, h2⟩ := run_cons.1 e
    simp [runE] at h2
    rw [← h.1, ← h.2]
    refine Or.inl fun i => run_cons.2 ⟨M, h1, ?_⟩
    rw [runE, h2.1]
  | q :: l, L, X, p, b, A, j, k, hT, e, h => by
    obtain ⟨a, c, A', h1, h2, rfl⟩ := past_cons h
    obtain ⟨L1, e1, e2⟩ := run_cons.1 e
    obtain ⟨L2, e3, e4⟩ := run_cons.1 e2
    rcases hT.comm h1 e1 e3 with ⟨N, a1, a2⟩ | ⟨a1, a2⟩
    · obtain ⟨ra, rb⟩ := do_of a1
      have hN := hT.act ra rb
      have hlen := do_len hT a1
      rcases run_past (j := j + 1) (k := k) hN (run_cons.2 ⟨L2, a2, e4⟩) h2 with hh | ⟨hh, hl⟩
      · exact Or.inl fun i => run_cons.2 ⟨N, a1, hh (i + 1)⟩
      · refine Or.inr ⟨fun i => ?_, by simp only [List.length_cons]; omega⟩
        obtain ⟨z, hz⟩ := hh (i + 1)
        refine ⟨z, ?_⟩
        rw [List.cons_append, runE, a1]
        simpa using hz
    · refine Or.inr ⟨fun i => ⟨i, ?_⟩, by omega⟩
      rw [List.cons_append, runE, a1]
      rfl

/-- What a patch and several made, once it passed them. -/
theorem all_past {L X : List En} {p b : Pr} {l A : List Pr} {k : Nat} (e : allE L (p :: l) = (X, 0, k)) (h : pastP p l = (A, b, true)) : allE L (A ++ [b]) = (X, 0, 0) ∨ ((∃ z, allE L (A ++ [b]) = ([], 2, z)) ∧ 1024 ≤ L.length + (l.length + 1)) := by
  cases ht : treeRight L with
  | false => rw [runE_bad ht] at e; simp at e
  | true =>
    rw [runE_good ht] at e ⊢
    rcases run_past ((treeR L).1 ht) e h with hh | ⟨hh, hl⟩
    · exact Or.inl (hh 0)
    · exact Or.inr ⟨hh 0, hl⟩

/-- A row of one patch. -/
theorem OwnP.one {w w1 : World} {p : Pr} {vo vn : Value} (hw : w.alloc (.cells #[.int .i64 p.kind, .string p.path, .string p.dst, .string p.src, .int .i64 p.pos, vo, vn] 32) = w1) (h1 : StrsAt w vo p.old) (h2 : StrsAt w vn p.new) : OwnP w.heap.size w1 (.slice (some ⟨w.heap.size, 0, none⟩) 1 1) [p] [(vo, vn)] := by
  have f : Fr None' w w1 := hw ▸ Fr.alloc None' w _
  refine ⟨rfl, ⟨rfl, Or.inr ⟨w.heap.size, 1, #[.int .i64 p.kind, .string p.path, .string p.dst, .string p.src, .int .i64 p.pos, vo, vn], rfl, Nat.le_refl _, hw ▸ heap_alloc_new w _, Nat.le_refl _, by decide, rfl, rfl⟩⟩, fun k x u e1 e2 => ?_⟩
  have hk : k = 0 := by
    have := (List.getElem?_eq_some_iff.1 e1).1
    simpa using this
  subst hk
  simp at e1 e2
  subst e1 e2
  exact ⟨h1.kept f, h2.kept f, fun hl j e e' => by have := h1.lt hl e; have h : w.heap.size = j := Option.some.inj e'; omega, fun hl j e e' => by have := h2.lt hl e; have h : w.heap.size = j := Option.some.inj e'; omega⟩

end Go.Proofs.YtjpgpbfnmokmiabGreatDoor

namespace Go.Proofs.YtjpgpbfnmokmiabGreatDoor
open Go.RowKit Go.Maps Go.WideMaps
set_option maxRecDepth 100000

theorem tot64 {n m : Nat} (h : n ≤ 1000) (h2 : m ≤ 60) : wrap64 ((n : Int) + ((m : Int) + 1)) = (n : Int) + ((m : Int) + 1) := by
  unfold wrap64
  omega

theorem tot_le {n m a b : Nat} (h : 1024 ≤ a + (b + 1)) (h1 : a = n) (h2 : b = m) : (1024 : Int) ≤ (n : Int) + ((m : Int) + 1) := by
  subst h1 h2
  omega

set_option maxHeartbeats 16000000 in
theorem cpast_walk (hC : CommuteAll) (va : Option Addr) (n c : Nat) (L : List En) (p : Pr) (vo vn : Value) (vb : Option Addr) (m d : Nat) (ps : List Pr) (W : World) (hl : L.length = n) (ha : EntsAt W va L) (hn : n ≤ 140737488355328) (hx : ∀ x ∈ L, x.lines.length ≤ 140737488355328) (ho : StrsAt W vo p.old) (hw : StrsAt W vn p.new) (lo : p.old.length ≤ 140737488355328) (ln : p.new.length ≤ 140737488355328) (hm : ps.length = m) (hb : PrsAt W vb ps) (hd : vb = none → d = 0) (hs : ∀ x ∈ ps, x.old.length ≤ 140737488355328 ∧ x.new.length ≤ 140737488355328) :
    Calls Tryz.prog 7 #[.slice va n c, .agg #[.int .i64 p.kind, .string p.path, .string p.dst, .string p.src, .int .i64 p.pos, vo, vn], .slice vb m d] W fun e w' => e = .returned (.bool true) ∧ Fr None' W w' := by
  obtain ⟨pa, ca, rfl, ho'⟩ := ho
  obtain ⟨pb, cb, rfl, hw'⟩ := hw
  have HO := toHid8 (show ∀ w', Fr None' W w' → StrsAt w' (.slice pa p.old.length ca) p.old from fun w' f => StrsAt.kept ⟨pa, ca, rfl, ho'⟩ f)
  have HN := toHid8 (show ∀ w', Fr None' W w' → StrsAt w' (.slice pb p.new.length cb) p.new from fun w' f => StrsAt.kept ⟨pb, cb, rfl, hw'⟩ f)
  have HG := toHid8 (fun w' (f : Fr None' W w') => great_any va n c L w' hl (ha.kept f) hn hx)
  have HGP := toHid8 (fun w' (f : Fr None' W w') => pgreat_any p _ _ w' (HO.out w' f) (HN.out w' f) lo ln)
  have HGQ := toHid8 (fun w' (f : Fr None' W w') => pgreats_any vb m d ps w' hm (hb.kept f) hs)
  have HA := toHid8 (fun (h1 : weight L < 4000) (qs : List Pr) (h3 : qs.length = m + 1) (h4 : m ≤ 60) (h2 : ∀ x ∈ qs, SmPr x) vb d w' (f : Fr None' W w') (hb : PrsAt w' vb qs) => all8_any va n c L vb (m + 1) d qs 4000 w' hl (ha.kept f) (by have := (weight_smE h1).2.1; omega) (weight_smE h1).1 h3 hb (by omega) (weight_smE h1).2.2 (by have := newTo_sm h2; omega) h2)
  have HP := toHid8 (fun (h2 : p.weight < 4000) (h3 : m ≤ 60 ∧ ∀ x ∈ ps, x.weight < 4000) w' (f : Fr None' W w') => past_any hC p _ _ vb m d ps w' (HO.out w' f) (HN.out w' f) (weight_smP h2).small hm (by omega) (hb.kept f) (fun y hy => (weight_smP (h3.2 y hy)).small))
  have HS := toHid8 (fun vx vy (M : List En) cx cy w' (hx : EntsAt w' vx M) (hy : EntsAt w' vy M) (s1 : SmallE M) (s2 : M.length ≤ 90000) => esame_any vx vy M.length cx cy M w' rfl hx hy (by omega) s1)
  unfold GreatPost at HG
  unfold GreatP at HGP
  unfold GreatPs at HGQ
  unfold PastPost at HP
  have HLen := toHid8 hl
  have HLm := toHid8 hm
  have HB0 := toHid8 (show (∀ w', Fr None' W w' → PrsAt w' vb ps) ∧ (vb = none → d = 0) from ⟨fun w' f => hb.kept f, hd⟩)
  obtain ⟨w1, hw1⟩ : ∃ w1, W.alloc (.cells #[.int .i64 p.kind, .string p.path, .string p.dst, .string p.src, .int .i64 p.pos, .slice pa p.old.length ca, .slice pb p.new.length cb] 32) = w1 := ⟨_, rfl⟩
  have HF1 := toHid8 (show Fr None' W w1 from hw1 ▸ Fr.alloc None' W _)
  have HB := toHid8 (show Box w1 W.heap.size (.int .i64 p.kind) (.string p.path) (.string p.dst) (.string p.src) (.int .i64 p.pos) (.slice pa p.old.length ca) (.slice pb p.new.length cb) from hw1 ▸ Box.new W _ _ _ _ _ _ _)
  have q1 := head_any hC w1
  clear ho' hw' ha hl hx lo ln hC hm hb hd hs
  go_enter Tryz.func7, Tryz.ntmps7
  go_wp2_with fail
  with_reducible refine q1.mono ?_
  rintro e w2 ⟨rfl, f2⟩
  have HF2 := toHid8 (HF1.out.then7 f2)
  have HB2 := toHid8 (HB.out.kept f2)
  have q2 := HG.out w2 HF2.out
  clear q1 f2 HB HF1 HG hw1
  go_wp2_with fail
  with_reducible refine q2.mono ?_
  rintro e w3 ⟨g, rfl, hg, f3⟩
  have HF3 := toHid8 (HF2.out.then7 f3)
  have HB3 := toHid8 (HB2.out.kept f3)
  have HGf := toHid8 hg
  clear q2 f3 hg HB2 HF2
  cases g with
  | true =>
    go_wp2_with fail
    go_ret
    exact ⟨rfl, HF3.out⟩
  | false =>
    have HW := toHid8 (HGf.out rfl)
    obtain ⟨p0, p1, p2, p3, p4, p5, p6⟩ := HB3.out.cells
    have q3 := HGP.out w3 HF3.out
    clear HGf HGP
    go_wp2_with fail
    with_reducible refine q3.mono ?_
    rintro e w4 ⟨g, rfl, hg, f4⟩
    have HF4 := toHid8 (HF3.out.then7 f4)
    have HB4 := toHid8 (HB3.out.kept f4)
    have HGf := toHid8 hg
    clear q3 f4 hg HB3 HF3 p0 p1 p2 p3 p4 p5 p6
    cases g with
    | true =>
      go_wp2_with fail
      go_ret
      exact ⟨rfl, HF4.out⟩
    | false =>
      have HWP := toHid8 (HGf.out rfl)
      have q4 := HGQ.out w4 HF4.out
      clear HGf HGQ
      go_wp2_with fail
      with_reducible refine q4.mono ?_
      rintro e w5 ⟨g, rfl, hg, f5⟩
      have HF5 := toHid8 (HF4.out.then7 f5)
      have HB5 := toHid8 (HB4.out.kept f5)
      have HGf := toHid8 hg
      clear q4 f5 hg HB4 HF4
      cases g with
      | true =>
        go_wp2_with fail
        go_ret
        exact ⟨rfl, HF5.out⟩
      | false =>
        have HWQ := toHid8 (HGf.out rfl)
        obtain ⟨p0, p1, p2, p3, p4, p5, p6⟩ := HB5.out.cells
        obtain ⟨w6, hw6⟩ : ∃ w6, w5.alloc (.cells #[.int .i64 p.kind, .string p.path, .string p.dst, .string p.src, .int .i64 p.pos, .slice pa p.old.length ca, .slice pb p.new.length cb] 32) = w6 := ⟨_, rfl⟩
        have F6 : Fr None' w5 w6 := hw6 ▸ Fr.alloc None' w5 _
        have O6 := OwnP.one hw6 (HO.out w5 HF5.out) (HN.out w5 HF5.out)
        obtain ⟨v7, U7, w7, r7, O7, f7⟩ := O6.addAll (HB0.out.1 w5 HF5.out) HLm.out HB0.out.2 F6 (Nat.le_refl _) F6.size (by have := HWQ.out.1; simp; omega)
        have F7 : Fr None' w5 w7 := F6.trans f7 (fun i e => Or.inr (O6.ge e).1)
        obtain ⟨p7, c7, hv7, _, _, P7⟩ := O7.slice
        have hn7 : ([p] ++ ps).length = m + 1 := by have := HLm.out; simp; omega
        rw [hn7] at hv7
        subst hv7
        have HR7 := toHid8 (show (Builtin.append_ #[40, 40] 40 #[.slice (some ⟨w5.heap.size, 0, none⟩) 1 1, .slice vb m d]).run Tryz.prog w6 = .ok (.slice p7 (m + 1 : Nat) c7) w7 from r7)
        have HF7 := toHid8 (HF5.out.then7 F7)
        have HB7 := toHid8 (HB5.out.kept F7)
        have hsm : ∀ x ∈ p :: ps, SmPr x := fun x hx => by
          rcases List.mem_cons.1 hx with rfl | hx
          · exact weight_smP HWP.out
          · exact weight_smP (HWQ.out.2 x hx)
        have q5 := HA.out HW.out (p :: ps) hn7 HWQ.out.1 hsm p7 c7 w7 HF7.out P7
        obtain ⟨r, hr⟩ : ∃ r, allE L (p :: ps) = r := ⟨_, rfl⟩
        rw [hr] at q5
        obtain ⟨R, er, kk⟩ := r
        have HR := toHid8 hr
        clear hr HGf hsm F6 O6 r7 O7 f7 F7 P7 hn7 HB5 HF5
        go_wp2_with (at_builtin
                     refine app_list9 rfl _ _ rfl rfl rfl HR7.out ?_)
        with_reducible refine q5.mono ?_
        rintro e w8 ⟨v8, c8, rfl, HE8, HC8, f8⟩
        have HF8 := toHid8 (HF7.out.then7 f8)
        have HB8 := toHid8 (HB7.out.kept f8)
        clear q5 f8 HB7 HF7 p0 p1 p2 p3 p4 p5 p6 hw6 HR7
        obtain ⟨cc, hcc⟩ : ∃ cc, pastP p ps = cc := ⟨_, rfl⟩
        obtain ⟨A, b, rc⟩ := cc
        have HCC := toHid8 hcc
        have q6 := HP.out HWP.out HWQ.out w8 HF8.out
        rw [hcc] at q6
        obtain ⟨p0, p1, p2, p3, p4, p5, p6⟩ := HB8.out.cells
        clear hcc HP
        go_wp2_with fail
        with_reducible refine q6.mono ?_
        rintro e w9 ⟨vA, vB, VA, rfl, OA, ⟨vo9, vn9, rfl, t1, t2, g1, g2⟩, f9⟩
        obtain ⟨qa, da, rfl⟩ := t1.as2
        obtain ⟨qb, db, rfl⟩ := t2.as2
        obtain ⟨pA, cA, hvA, _, hcA, PA⟩ := OA.slice
        subst hvA
        have HE9 := toHid8 (HE8.out.kept f9)
        have HF9 := toHid8 (HF8.out.then7 f9)
        have HPA := toHid8 (And.intro PA hcA)
        have HSt := toHid8 (And.intro t1 t2)
        clear q6 f9 HB8 HE8 HF8 p0 p1 p2 p3 p4 p5 p6 OA t1 t2 g1 g2 PA hcA
        obtain ⟨wA, hwA⟩ : ∃ wA, w9.alloc (.cells #[.int .i64 b.kind, .string b.path, .string b.dst, .string b.src, .int .i64 b.pos, .slice qa b.old.length da, .slice qb b.new.length db] 32) = wA := ⟨_, rfl⟩
        have FA : Fr None' w9 wA := hwA ▸ Fr.alloc None' w9 _
        have HBB := toHid8 (show Box wA w9.heap.size (.int .i64 b.kind) (.string b.path) (.string b.dst) (.string b.src) (.int .i64 b.pos) (.slice qa b.old.length da) (.slice qb b.new.length db) from hwA ▸ Box.new w9 _ _ _ _ _ _ _)
        have HFA := toHid8 (HF9.out.then7 FA)
        have HEA := toHid8 (HE9.out.kept FA)
        have HPAA := toHid8 (show PrsAt wA pA A ∧ (pA = none → cA = 0) from ⟨HPA.out.1.kept FA, HPA.out.2⟩)
        have HSA := toHid8 (And.intro (HSt.out.1.kept FA) (HSt.out.2.kept FA))
        clear FA HF9 HE9 HPA HSt
        by_cases he : er = 0
        · subst he
          cases rc with
          | false =>
            go_wp2_with fail
            go_ret
            exact ⟨rfl, HFA.out⟩
          | true =>
            have hAl : A.length = m := by rw [past_len HCC.out, HLm.out]
            obtain ⟨wB, hwB⟩ : ∃ wB, wA.alloc (.cells #[] 32) = wB := ⟨_, rfl⟩
            have FB : Fr None' wA wB := hwB ▸ Fr.alloc None' wA _
            have OB : OwnP wA.heap.size wB (.slice (some ⟨wA.heap.size, 0, none⟩) 0 0) [] [] := hwB ▸ OwnP.empty (Nat.le_refl _)
            have h60 := HWQ.out.1
            obtain ⟨vC, UC, wC, rC, OC, fC⟩ := OB.addAll HPAA.out.1 hAl HPAA.out.2 FB (Nat.le_refl _) FB.size (by simp; omega)
            have FC : Fr None' wA wC := FB.trans fC (fun i e => Or.inr (OB.ge e).1)
            obtain ⟨pC, cC, hvC, _⟩ := OC.slice
            have hnC : ([] ++ A).length = m := by simpa using hAl
            rw [hnC] at hvC
            obtain ⟨wD, hwD⟩ : ∃ wD, wC.alloc (.cells #[.int .i64 b.kind, .string b.path, .string b.dst, .string b.src, .int .i64 b.pos, .slice qa b.old.length da, .slice qb b.new.length db] 32) = wD := ⟨_, rfl⟩
            have FD : Fr None' wC wD := hwD ▸ Fr.alloc None' wC _
            have BD : Box wD wC.heap.size (.int .i64 b.kind) (.string b.path) (.string b.dst) (.string b.src) (.int .i64 b.pos) (.slice qa b.old.length da) (.slice qb b.new.length db) := hwD ▸ Box.new wC _ _ _ _ _ _ _
            obtain ⟨vE, wE, rE, OE, fE, _⟩ := (OC.kept FD).push (b := wC.heap.size) (x := b) BD ((HSA.out.1.kept FC).kept FD) ((HSA.out.2.kept FC).kept FD) (fun hl j e e' => by have := HSA.out.1.lt hl e; have := (OC.ge e').1; omega) (fun hl j e e' => by have := HSA.out.2.lt hl e; have := (OC.ge e').1; omega) (by rw [hnC]; omega) (by have := FC.size; have := FD.size; omega)
            have FE : Fr None' wA wE := (FC.then7 FD).trans fE (fun i e => Or.inr (OC.ge e).1)
            obtain ⟨pE, cE, hvE, _, _, PE⟩ := OE.slice
            have hnE : ([] ++ A ++ [b]).length = m + 1 := by simp; omega
            rw [hnE] at hvE
            subst hvC hvE
            have HRC := toHid8 (show (Builtin.append_ #[40, 40] 40 #[.slice (some ⟨wA.heap.size, 0, none⟩) 0 0, .slice pA m cA]).run Tryz.prog wB = .ok (.slice pC m cC) wC from rC)
            have HRE := toHid8 (show (Builtin.append_ #[40, 40] 40 #[.slice pC m cC, .slice (some ⟨wC.heap.size, 0, none⟩) 1 1]).run Tryz.prog wD = .ok (.slice pE (m + 1 : Nat) cE) wE from rE)
            have HFE := toHid8 (HFA.out.then7 FE)
            have HEE := toHid8 (HEA.out.kept FE)
            have hsm := past_sm HCC.out (weight_smP HWP.out) (fun x hx => weight_smP (HWQ.out.2 x hx))
            have q7 := HA.out HW.out (A ++ [b]) (by simpa using hnE) HWQ.out.1 hsm pE cE wE HFE.out (by simpa using PE)
            obtain ⟨t2, t3⟩ := run_sm ((treeR L).1 (all_right HR.out)) (weight_smE HW.out).2.2 (fun x hx => (by
              rcases List.mem_cons.1 hx with rfl | hx
              · exact weight_smP HWP.out
              · exact weight_smP (HWQ.out.2 x hx) : SmPr x)) (show runE L (p :: ps) 0 = (R, 0, kk) from by rw [← runE_good (all_right HR.out)]; exact HR.out)
            obtain ⟨z1, z2⟩ := tree_small t2 t3 (by have := HLm.out; simp; omega)
            have HZ := toHid8 (And.intro z1 z2)
            have HCA := toHid8 (all_past HR.out HCC.out)
            obtain ⟨p0, p1, p2, p3, p4, p5, p6⟩ := (HBB.out.kept FC).cells
            rw [hAl]
            clear hsm t2 t3 z1 z2 FB OB rC OC fC FC hnC FD BD rE OE fE FE hnE PE hAl h60 HSA HPAA HEA HFA HR HCC
            rcases HCA.out with hca | ⟨⟨z, hca⟩, hlen⟩
            · rw [hca] at q7
              clear hca HCA
              go_wp2_with (at_builtin
                           first
                             | (refine app_list9 rfl _ _ rfl rfl rfl HRC.out ?_)
                             | (refine app_list9 rfl _ _ rfl rfl rfl HRE.out ?_))
              with_reducible refine q7.mono ?_
              rintro e wF ⟨vF, cF, rfl, HEF, _, fF⟩
              have q8 := HS.out v8 vF R c8 cF wF (HEE.out.kept fF) HEF.out HZ.out.1 HZ.out.2
              have HFF := toHid8 (HFE.out.then7 fF)
              clear q7 fF
              go_wp2_with fail
              with_reducible refine q8.mono ?_
              rintro e wG ⟨rfl, fG⟩
              have HFG := toHid8 (HFF.out.then7 fG)
              clear q8 fG
              go_wp2_with fail
              go_ret
              exact ⟨rfl, HFG.out⟩
            · rw [hca] at q7
              have r1 : wrap64 ((n : Int) + ((m : Int) + 1)) = (n : Int) + ((m : Int) + 1) := tot64 (HLen.out ▸ (weight_smE HW.out).2.1) HWQ.out.1
              have i1 : (1024 : Int) ≤ (n : Int) + ((m : Int) + 1) := tot_le hlen HLen.out HLm.out
              clear hca HCA hlen
              go_wp2_with (at_builtin
                           first
                             | (refine app_list9 rfl _ _ rfl rfl rfl HRC.out ?_)
                             | (refine app_list9 rfl _ _ rfl rfl rfl HRE.out ?_))
              with_reducible refine q7.mono ?_
              rintro e wF ⟨vF, cF, rfl, HEF, _, fF⟩
              have HFF := toHid8 (HFE.out.then7 fF)
              clear q7 fF
              go_wp2_with fail
              go_ret
              exact ⟨rfl, HFF.out⟩
        · have he2 : (er == 0) = false := by simpa using he
          go_wp2_with fail
          go_ret
          exact ⟨rfl, HFA.out⟩

end Go.Proofs.YtjpgpbfnmokmiabGreatDoor
