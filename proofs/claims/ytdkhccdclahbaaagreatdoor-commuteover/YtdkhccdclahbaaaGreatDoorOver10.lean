/-
  What is proved here: CommuteOver answers true. Conditions: its arguments lie in memory, and are no longer than the reach; Commute answers as it does.
-/
import Derived.Test.YtdkhccdclahbaaaGreatDoorBack10
namespace Go.Proofs.YtdkhccdclahbaaaGreatDoor
open Go.RowKit
set_option maxRecDepth 100000

theorem past_facts : ∀ (L : List Pr) (p : Pr), SmallP p → (∀ y ∈ L, SmallP y) → (pastP p L).2.2 = true → (pastP p L).1.length = L.length ∧ SmallP (pastP p L).2.1 ∧ ∀ y ∈ (pastP p L).1, SmallP y
  | [], p, sp, _, _ => ⟨rfl, sp, fun y hy => by simp [pastP] at hy⟩
  | q :: L, p, sp, sL, h => by
    simp only [pastP] at h ⊢
    by_cases hc : (commP p q).2.2 = true
    · rw [if_pos hc] at h ⊢
      obtain ⟨s1, s2⟩ := comm_small sp (sL q (List.mem_cons_self ..)) hc
      by_cases ht : (pastP (commP p q).2.1 L).2.2 = true
      · obtain ⟨i1, i2, i3⟩ := past_facts L (commP p q).2.1 s2 (fun y hy => sL y (List.mem_cons_of_mem _ hy)) ht
        rw [if_pos ht]
        refine ⟨by simp [i1], i2, fun y hy => ?_⟩
        rcases List.mem_cons.1 hy with e | hy
        · rw [e]; exact s1
        · exact i3 y hy
      · rw [if_neg ht] at h
        simp at h
    · rw [if_neg hc] at h
      simp at h

/-- What Past answers, its rows named. -/
def PastC (A : List Pr) (b : Pr) (t : Bool) (w : World) (e : Ending) (w' : World) : Prop := ∃ (pg po pn : Option Addr) (pc co cn : Nat), e = .returned (.tuple #[.slice pg A.length pc, .agg #[.int .i64 b.kind, .string b.path, .string b.dst, .string b.src, .int .i64 b.pos, .slice po b.old.length co, .slice pn b.new.length cn], .bool t]) ∧ Hid (PrsAt w' pg A ∧ (pg = none → pc = 0) ∧ StrsAt w' (.slice po b.old.length co) b.old ∧ StrsAt w' (.slice pn b.new.length cn) b.new) ∧ Fr None' w w'

theorem PastPost.at {x b : Pr} {L A : List Pr} {t : Bool} {w w' : World} {e : Ending} (hc : pastP x L = (A, b, t)) (h : PastPost x L w e w') : PastC A b t w e w' := by
  obtain ⟨va, vb, V, he, hO, ⟨vo, vn, rfl, s1, s2, _, _⟩, f⟩ := h
  rw [hc] at he hO s1 s2
  simp only at he hO s1 s2
  obtain ⟨pg, pc, rfl, _, hz, hP⟩ := hO.slice
  obtain ⟨po, co, rfl⟩ := s1.as2
  obtain ⟨pn, cn, rfl⟩ := s2.as2
  exact ⟨pg, po, pn, pc, co, cn, he, ⟨hP, hz, s1, s2⟩, f⟩

set_option maxHeartbeats 8000000 in
theorem over_walk (hC : CommuteAll) (x : Pr) (vo vn : Value) (va : Option Addr) (n c : Nat) (La : List Pr) (vb : Option Addr) (m d : Nat) (Lb : List Pr) (W : World) (ho : StrsAt W vo x.old) (hn : StrsAt W vn x.new) (lo : x.old.length ≤ 140737488355328) (ln : x.new.length ≤ 140737488355328)
    (hl : La.length = n) (ha : PrsAt W va La) (hc : va = none → c = 0) (hs : ∀ x ∈ La, x.old.length ≤ 140737488355328 ∧ x.new.length ≤ 140737488355328) (hl2 : Lb.length = m) (hb : PrsAt W vb Lb) (hd : vb = none → d = 0) (hs2 : ∀ x ∈ Lb, x.old.length ≤ 140737488355328 ∧ x.new.length ≤ 140737488355328) :
    Calls Tryz.prog 8 #[.agg #[.int .i64 x.kind, .string x.path, .string x.dst, .string x.src, .int .i64 x.pos, vo, vn], .slice va n c, .slice vb m d] W fun e w' => e = .returned (.bool true) ∧ Fr None' W w' := by
  have HG1 := toHid10 (fun w' (f : Fr None' W w') => pgreat_any x vo vn w' (ho.kept f) (hn.kept f) lo ln)
  have HG2 := toHid10 (fun w' (f : Fr None' W w') => pgreats_any va n c La w' hl (ha.kept f) hs)
  have HG3 := toHid10 (fun w' (f : Fr None' W w') => pgreats_any vb m d Lb w' hl2 (hb.kept f) hs2)
  have HPx := toHid10 (fun (sx : SmallP x) (L : List Pr) (vl : Option Addr) (k cl : Nat) (w' : World) (f : Fr None' W w') (hk : L.length = k) (h2 : k ≤ 200) (hL : PrsAt w' vl L) (sL : ∀ y ∈ L, SmallP y) (A : List Pr) (b : Pr) (t : Bool) (he : pastP x L = (A, b, t)) => (past_any hC x vo vn vl k cl L w' (ho.kept f) (hn.kept f) sx hk h2 hL sL).mono (fun e w'' h => PastPost.at he h))
  have HPr := toHid10 (fun (z : Pr) (sz : SmallP z) (L : List Pr) (vl : Option Addr) (k cl : Nat) (w' : World) po co pn cn (s1 : StrsAt w' (.slice po z.old.length co) z.old) (s2 : StrsAt w' (.slice pn z.new.length cn) z.new) (hk : L.length = k) (h2 : k ≤ 200) (hL : PrsAt w' vl L) (sL : ∀ y ∈ L, SmallP y) (A : List Pr) (b : Pr) (t : Bool) (he : pastP z L = (A, b, t)) => (past_any hC z _ _ vl k cl L w' s1 s2 sz hk h2 hL sL).mono (fun e w'' h => PastPost.at he h))
  unfold PastC at HPx HPr
  obtain ⟨pa, ca, hva⟩ := ho.as2
  obtain ⟨pb, cb, hvb⟩ := hn.as2
  subst hva hvb
  obtain ⟨no, hno⟩ : ∃ m, x.old.length = m := ⟨_, rfl⟩
  obtain ⟨nn, hnn⟩ : ∃ m, x.new.length = m := ⟨_, rfl⟩
  rw [hno] at HG1 HPx
  rw [hnn] at HG1 HPx
  rw [hno, hnn]
  obtain ⟨w1, hw1⟩ : ∃ w1, W.alloc (.cells #[.int .i64 x.kind, .string x.path, .string x.dst, .string x.src, .int .i64 x.pos, .slice pa no ca, .slice pb nn cb] 24) = w1 := ⟨_, rfl⟩
  have F1 : Fr None' W w1 := hw1 ▸ Fr.alloc None' _ _
  have HBX := toHid10 (show ∀ w', Fr None' w1 w' → Box w' W.heap.size (.int .i64 x.kind) (.string x.path) (.string x.dst) (.string x.src) (.int .i64 x.pos) (.slice pa no ca) (.slice pb nn cb) from fun w' f => (hw1 ▸ Box.new W _ _ _ _ _ _ _ : Box w1 _ _ _ _ _ _ _ _).kept f)
  have HF1 := toHid10 F1
  have HA := toHid10 (show PrsAt W va La ∧ PrsAt W vb Lb ∧ La.length = n ∧ Lb.length = m ∧ (va = none → c = 0) ∧ (vb = none → d = 0) from ⟨ha, hb, hl, hl2, hc, hd⟩)
  have q1 := head_any hC w1
  clear ho hn lo ln hl ha hc hs hl2 hb hd hs2 F1 hno hnn hC
  go_enter Tryz.func8, Tryz.ntmps8
  go_wp2_with fail
  with_reducible refine q1.mono ?_
  rintro e w2 ⟨rfl, f2⟩
  have HF2 := toHid10 f2
  have q2 := HG1.out w2 (HF1.out.then7 f2)
  obtain ⟨x0, x1, x2, x3, x4, x5, x6⟩ := (HBX.out w2 f2).cells
  clear q1 f2
  go_wp2_with fail
  with_reducible refine q2.mono ?_
  rintro e w3 ⟨g, rfl, hg, f3⟩
  have HF3 := toHid10 (HF2.out.then7 f3)
  clear q2 f3 x0 x1 x2 x3 x4 x5 x6
  cases g with
  | true =>
    have HFW := toHid10 (HF1.out.then7 HF3.out)
    go_wp2_with fail
    go_ret
    exact ⟨rfl, HFW.out⟩
  | false =>
  have HW1 := toHid10 (hg rfl)
  clear hg
  have q3 := HG2.out w3 (HF1.out.then7 HF3.out)
  go_wp2_with fail
  with_reducible refine q3.mono ?_
  rintro e w4 ⟨g, rfl, hg, f4⟩
  have HF4 := toHid10 (HF3.out.then7 f4)
  clear q3 f4
  cases g with
  | true =>
    have HFW := toHid10 (HF1.out.then7 HF4.out)
    go_wp2_with fail
    go_ret
    exact ⟨rfl, HFW.out⟩
  | false =>
  have HW2 := toHid10 (hg rfl)
  clear hg
  have q4 := HG3.out w4 (HF1.out.then7 HF4.out)
  go_wp2_with fail
  with_reducible refine q4.mono ?_
  rintro e w5 ⟨g, rfl, hg, f5⟩
  have HF5 := toHid10 (HF4.out.then7 f5)
  clear q4 f5
  cases g with
  | true =>
    have HFW := toHid10 (HF1.out.then7 HF5.out)
    go_wp2_with fail
    go_ret
    exact ⟨rfl, HFW.out⟩
  | false =>
  have HW3 := toHid10 (hg rfl)
  clear hg
  obtain ⟨⟨A1, b1, t1⟩, hE1⟩ : ∃ r, pastP x (La ++ Lb) = r := ⟨_, rfl⟩
  obtain ⟨⟨A2, b2, t2⟩, hE2⟩ : ∃ r, pastP x La = r := ⟨_, rfl⟩
  obtain ⟨⟨A3, b3, t3⟩, hE3⟩ : ∃ r, pastP b2 Lb = r := ⟨_, rfl⟩
  have HSx := toHid10 (weight_small10 HW1.out)
  have HSa := toHid10 (show ∀ y ∈ La, SmallP y from fun y hy => weight_small10 (HW2.out.2 y hy))
  have HSb := toHid10 (show ∀ y ∈ Lb, SmallP y from fun y hy => weight_small10 (HW3.out.2 y hy))
  have HE := toHid10 (show (A1, b1, t1) = (if t2 then (if t3 then (A2 ++ A3, b3, true) else ([], zeroP, false)) else ([], zeroP, false)) from by
    rw [← hE1, past_append, hE2]
    simp only
    rw [hE3])
  have HN2 := toHid10 (show t2 = false → A2 = [] from fun h => by have k := past_no (p := x) (l := La) (by rw [hE2]; exact h); rw [hE2] at k; exact congrArg Prod.fst k)
  have HN3 := toHid10 (show t3 = false → A3 = [] from fun h => by have k := past_no (p := b2) (l := Lb) (by rw [hE3]; exact h); rw [hE3] at k; exact congrArg Prod.fst k)
  have HY2 := toHid10 (show t2 = true → A2.length = n ∧ SmallP b2 ∧ ∀ y ∈ A2, SmallP y from fun h => by
    have k := past_facts La x HSx.out HSa.out (by rw [hE2]; exact h)
    rw [hE2] at k
    exact ⟨k.1.trans HA.out.2.2.1, k.2⟩)
  have HY3 := toHid10 (show t2 = true → t3 = true → A3.length = m ∧ SmallP b3 ∧ ∀ y ∈ A3, SmallP y from fun h2 h => by
    have k := past_facts Lb b2 (HY2.out h2).2.1 HSb.out (by rw [hE3]; exact h)
    rw [hE3] at k
    exact ⟨k.1.trans HA.out.2.2.2.1, k.2⟩)
  have HE1 := toHid10 hE1
  have HE2 := toHid10 hE2
  have HE3 := toHid10 hE3
  have gA := HW2.out.1
  have gB := HW3.out.1
  clear hE1 hE2 hE3
  obtain ⟨w6, hw6⟩ : ∃ z, w5.alloc (.cells #[] 24) = z := ⟨_, rfl⟩
  have Fw6 : Fr None' w5 w6 := hw6 ▸ Fr.alloc None' w5 _
  have Ow6 : OwnP w5.heap.size w6 (.slice (some ⟨w5.heap.size, 0, none⟩) 0 0) [] [] := hw6 ▸ OwnP.empty (Nat.le_refl _)
  obtain ⟨v7, U7, w7, rw7, Ow7, fw7⟩ := Ow6.addAll (HA.out.1.kept (HF1.out.then7 HF5.out)) HA.out.2.2.1 HA.out.2.2.2.2.1 Fw6 (Nat.le_refl _) Fw6.size (by have e1 := HA.out.2.2.1; have e2 := HA.out.2.2.2.1; simp; omega)
  have Fw7 : Fr None' w5 w7 := Fw6.trans fw7 (fun i e => Or.inr (Ow6.ge e).1)
  obtain ⟨v8, U8, w8, rw8, Ow8, fw8⟩ := Ow7.addAll (HA.out.2.1.kept (HF1.out.then7 HF5.out)) HA.out.2.2.2.1 HA.out.2.2.2.2.2 Fw7 (Nat.le_refl _) Fw7.size (by have e1 := HA.out.2.2.1; have e2 := HA.out.2.2.2.1; simp; omega)
  have Fw8 : Fr None' w5 w8 := Fw7.trans fw8 (fun i e => Or.inr (Ow7.ge e).1)
  obtain ⟨p7, c7, hv7, _⟩ := Ow7.slice
  obtain ⟨p8, c8, hv8, _, hc8, Pw8⟩ := Ow8.slice
  have hn7 : ([] ++ La).length = n := by simpa using HA.out.2.2.1
  have hn8 : ([] ++ La ++ Lb).length = n + m := by have e1 := HA.out.2.2.1; have e2 := HA.out.2.2.2.1; simp; omega
  rw [hn7] at hv7
  rw [hn8] at hv8
  subst hv7 hv8
  have HR7 := toHid10 rw7
  have HR8 := toHid10 rw8
  have HP8 := toHid10 (show PrsAt w8 p8 (La ++ Lb) from by simpa using Pw8)
  have HF8 := toHid10 Fw8
  clear Fw6 Ow6 rw7 Ow7 fw7 Fw7 rw8 Ow8 fw8 Fw8 hn7 hn8 Pw8
  have HF8' := toHid10 (HF5.out.then7 HF8.out)
  obtain ⟨x0, x1, x2, x3, x4, x5, x6⟩ := (HBX.out w8 HF8'.out).cells
  clear gA gB
  go_wp2_with (at_builtin
               first
                 | (refine app_list9 rfl _ _ rfl rfl rfl HR7.out ?_)
                 | (refine app_list9 rfl _ _ rfl rfl rfl HR8.out ?_))
  have q5 := HPx.out HSx.out (La ++ Lb) p8 (n + m) c8 w8 (HF1.out.then7 HF8'.out) (by have := HA.out.2.2; simp; omega) (by have := HW2.out.1; have := HW3.out.1; omega) HP8.out (fun y hy => by rcases List.mem_append.1 hy with h | h; exact HSa.out y h; exact HSb.out y h) A1 b1 t1 HE1.out
  with_reducible refine q5.mono ?_
  rintro e w9 ⟨pg1, po1, pn1, pc1, co1, cn1, rfl, HS9, f9⟩
  clear q5 x0 x1 x2 x3 x4 x5 x6
  obtain ⟨w10, hw10⟩ : ∃ z, w9.alloc (.cells #[.int .i64 b1.kind, .string b1.path, .string b1.dst, .string b1.src, .int .i64 b1.pos, .slice po1 b1.old.length co1, .slice pn1 b1.new.length cn1] 24) = z := ⟨_, rfl⟩
  have F10 : Fr None' w9 w10 := hw10 ▸ Fr.alloc None' _ _
  have HB10 := toHid10 (show Box w10 w9.heap.size (.int .i64 b1.kind) (.string b1.path) (.string b1.dst) (.string b1.src) (.int .i64 b1.pos) (.slice po1 b1.old.length co1) (.slice pn1 b1.new.length cn1) from hw10 ▸ Box.new w9 _ _ _ _ _ _ _)
  have HF10 := toHid10 (HF8'.out.then7 (f9.then7 F10))
  have HS10 := toHid10 (show PrsAt w10 pg1 A1 ∧ StrsAt w10 (.slice po1 b1.old.length co1) b1.old ∧ StrsAt w10 (.slice pn1 b1.new.length cn1) b1.new from ⟨HS9.out.1.kept F10, HS9.out.2.2.1.kept F10, HS9.out.2.2.2.kept F10⟩)
  have q6 := HPx.out HSx.out La va n c w10 (HF1.out.then7 HF10.out) HA.out.2.2.1 (by have := HW2.out.1; omega) (HA.out.1.kept (HF1.out.then7 HF10.out)) HSa.out A2 b2 t2 HE2.out
  obtain ⟨x0, x1, x2, x3, x4, x5, x6⟩ := (HBX.out w10 HF10.out).cells
  clear f9 F10
  go_wp2_with fail
  with_reducible refine q6.mono ?_
  rintro e w11 ⟨pg2, po2, pn2, pc2, co2, cn2, rfl, HS11, f11⟩
  clear q6 x0 x1 x2 x3 x4 x5 x6
  obtain ⟨w12, hw12⟩ : ∃ z, w11.alloc (.cells #[.int .i64 b2.kind, .string b2.path, .string b2.dst, .string b2.src, .int .i64 b2.pos, .slice po2 b2.old.length co2, .slice pn2 b2.new.length cn2] 24) = z := ⟨_, rfl⟩
  have F12 : Fr None' w11 w12 := hw12 ▸ Fr.alloc None' _ _
  have HB12 := toHid10 (show Box w12 w11.heap.size (.int .i64 b2.kind) (.string b2.path) (.string b2.dst) (.string b2.src) (.int .i64 b2.pos) (.slice po2 b2.old.length co2) (.slice pn2 b2.new.length cn2) from hw12 ▸ Box.new w11 _ _ _ _ _ _ _)
  have HF12 := toHid10 (show Fr None' w10 w12 from f11.then7 F12)
  have HS12 := toHid10 (show PrsAt w12 pg2 A2 ∧ (pg2 = none → pc2 = 0) ∧ StrsAt w12 (.slice po2 b2.old.length co2) b2.old ∧ StrsAt w12 (.slice pn2 b2.new.length cn2) b2.new from ⟨HS11.out.1.kept F12, HS11.out.2.1, HS11.out.2.2.1.kept F12, HS11.out.2.2.2.kept F12⟩)
  clear f11 F12
  cases t2 with
  | false =>
    have hz := HN2.out rfl
    have h1 : t1 = false := by have h := HE.out; simp only [Bool.false_eq_true, if_false] at h; exact congrArg (fun z => z.2.2) h
    subst hz h1
    have HFW := toHid10 ((HF1.out.then7 HF10.out).then7 HF12.out)
    simp only [List.length_nil]
    go_wp2_with fail
    go_ret
    exact ⟨rfl, HFW.out⟩
  | true =>
    obtain ⟨l2, s2, a2⟩ := HY2.out rfl
    have HL2 := toHid10 (And.intro l2 a2)
    have q7 := HPr.out b2 s2 Lb vb m d w12 po2 co2 pn2 cn2 HS12.out.2.2.1 HS12.out.2.2.2 HA.out.2.2.2.1 (by have := HW3.out.1; omega) (HA.out.2.1.kept ((HF1.out.then7 HF10.out).then7 HF12.out)) HSb.out A3 b3 t3 HE3.out
    obtain ⟨x0, x1, x2, x3, x4, x5, x6⟩ := HB12.out.cells
    clear l2 s2 a2
    go_wp2_with fail
    with_reducible refine q7.mono ?_
    rintro e w13 ⟨pg3, po3, pn3, pc3, co3, cn3, rfl, HS13, f13⟩
    clear q7 x0 x1 x2 x3 x4 x5 x6
    obtain ⟨w14, hw14⟩ : ∃ z, w13.alloc (.cells #[.int .i64 b3.kind, .string b3.path, .string b3.dst, .string b3.src, .int .i64 b3.pos, .slice po3 b3.old.length co3, .slice pn3 b3.new.length cn3] 24) = z := ⟨_, rfl⟩
    have F14 : Fr None' w13 w14 := hw14 ▸ Fr.alloc None' _ _
    have HB14 := toHid10 (show Box w14 w13.heap.size (.int .i64 b3.kind) (.string b3.path) (.string b3.dst) (.string b3.src) (.int .i64 b3.pos) (.slice po3 b3.old.length co3) (.slice pn3 b3.new.length cn3) from hw14 ▸ Box.new w13 _ _ _ _ _ _ _)
    have HF14 := toHid10 (show Fr None' w12 w14 from f13.then7 F14)
    have HS14 := toHid10 (show PrsAt w14 pg3 A3 ∧ (pg3 = none → pc3 = 0) ∧ StrsAt w14 (.slice po3 b3.old.length co3) b3.old ∧ StrsAt w14 (.slice pn3 b3.new.length cn3) b3.new from ⟨HS13.out.1.kept F14, HS13.out.2.1, HS13.out.2.2.1.kept F14, HS13.out.2.2.2.kept F14⟩)
    clear f13 F14
    cases t3 with
    | false =>
      have hz := HN3.out rfl
      have h1 : t1 = false := by have h := HE.out; simp only [Bool.false_eq_true, if_false, if_true] at h; exact congrArg (fun z => z.2.2) h
      subst hz h1
      have HFW := toHid10 (((HF1.out.then7 HF10.out).then7 HF12.out).then7 HF14.out)
      simp only [List.length_nil]
      go_wp2_with fail
      go_ret
      exact ⟨rfl, HFW.out⟩
    | true =>
      have h1 : (A1, b1, t1) = (A2 ++ A3, b3, true) := by have h := HE.out; simp only [if_true] at h; exact h
      obtain ⟨rfl, rfl, rfl⟩ : A1 = A2 ++ A3 ∧ b1 = b3 ∧ t1 = true := ⟨congrArg Prod.fst h1, congrArg (fun z => z.2.1) h1, congrArg (fun z => z.2.2) h1⟩
      obtain ⟨l3, s3, a3⟩ := HY3.out (by first | rfl | trivial) (by first | rfl | trivial)
      have l2 := HL2.out.1
      have HL3 := toHid10 (And.intro l3 (And.intro s3 a3))
      have gA := HW2.out.1
      have gB := HW3.out.1
      have e2 : A2.length = n := l2
      have e3 : A3.length = m := l3
      have e23 : (A2 ++ A3).length = n + m := by simp; omega
      rw [e23, e2, e3]
      clear h1 l2 l3 s3 a3 HE HE1 HE2 HE3 HPx HPr
      obtain ⟨w15, hw15⟩ : ∃ z, w14.alloc (.cells #[] 24) = z := ⟨_, rfl⟩
      have Fw15 : Fr None' w14 w15 := hw15 ▸ Fr.alloc None' w14 _
      have Ow15 : OwnP w14.heap.size w15 (.slice (some ⟨w14.heap.size, 0, none⟩) 0 0) [] [] := hw15 ▸ OwnP.empty (Nat.le_refl _)
      obtain ⟨v16, U16, w16, rw16, Ow16, fw16⟩ := Ow15.addAll (HS12.out.1.kept HF14.out) e2 HS12.out.2.1 Fw15 (Nat.le_refl _) Fw15.size (by have e1 := e2; have e2 := e3; simp; omega)
      have Fw16 : Fr None' w14 w16 := Fw15.trans fw16 (fun i e => Or.inr (Ow15.ge e).1)
      obtain ⟨v17, U17, w17, rw17, Ow17, fw17⟩ := Ow16.addAll HS14.out.1 e3 HS14.out.2.1 Fw16 (Nat.le_refl _) Fw16.size (by have e1 := e2; have e2 := e3; simp; omega)
      have Fw17 : Fr None' w14 w17 := Fw16.trans fw17 (fun i e => Or.inr (Ow16.ge e).1)
      obtain ⟨p16, c16, hv16, _⟩ := Ow16.slice
      obtain ⟨p17, c17, hv17, _, hc17, Pw17⟩ := Ow17.slice
      have hn16 : ([] ++ A2).length = n := by simpa using e2
      have hn17 : ([] ++ A2 ++ A3).length = n + m := by have e1 := e2; have e2 := e3; simp; omega
      rw [hn16] at hv16
      rw [hn17] at hv17
      subst hv16 hv17
      have HR16 := toHid10 rw16
      have HR17 := toHid10 rw17
      have HP17 := toHid10 (show PrsAt w17 p17 (A2 ++ A3) from by simpa using Pw17)
      have HF17 := toHid10 Fw17
      clear Fw15 Ow15 rw16 Ow16 fw16 Fw16 rw17 Ow17 fw17 Fw17 hn16 hn17 Pw17
      go_wp2_with (at_builtin
                   first
                     | (refine app_list9 rfl _ _ rfl rfl rfl HR16.out ?_)
                     | (refine app_list9 rfl _ _ rfl rfl rfl HR17.out ?_))
      have HF17' := toHid10 (show Fr None' w10 w17 from (HF12.out.then7 HF14.out).then7 HF17.out)
      have q8 := psames_any pg1 p17 (n + m) pc1 c17 (A2 ++ A3) w17 e23 (HS10.out.1.kept HF17'.out) HP17.out (by omega) (fun y hy => by
        rcases List.mem_append.1 hy with h | h
        · have := HL2.out.2 y h; exact ⟨by have := this.old; omega, by have := this.new; omega⟩
        · have := HL3.out.2.2 y h; exact ⟨by have := this.old; omega, by have := this.new; omega⟩)
      clear gA gB e2 e3 e23
      with_reducible refine q8.mono ?_
      rintro e w18 ⟨rfl, f18⟩
      have q9 := psame_any b1 _ _ _ _ w18 ((HS10.out.2.1.kept HF17'.out).kept f18) ((HS10.out.2.2.kept HF17'.out).kept f18) ((HS14.out.2.2.1.kept HF17.out).kept f18) ((HS14.out.2.2.2.kept HF17.out).kept f18) (by have := HL3.out.2.1.old; omega) (by have := HL3.out.2.1.new; omega)
      obtain ⟨x0, x1, x2, x3, x4, x5, x6⟩ := (HB10.out.kept (HF17'.out.then7 f18)).cells
      obtain ⟨y0, y1, y2, y3, y4, y5, y6⟩ := (HB14.out.kept (HF17.out.then7 f18)).cells
      have HF18 := toHid10 (((HF1.out.then7 HF10.out).then7 HF17'.out).then7 f18)
      clear q8 f18
      go_wp2_with fail
      with_reducible refine q9.mono ?_
      rintro e w19 ⟨rfl, f19⟩
      have HFW := toHid10 (HF18.out.then7 f19)
      clear q9 f19 x0 x1 x2 x3 x4 x5 x6 y0 y1 y2 y3 y4 y5 y6
      go_wp2_with fail
      go_ret
      exact ⟨rfl, HFW.out⟩

end Go.Proofs.YtdkhccdclahbaaaGreatDoor
