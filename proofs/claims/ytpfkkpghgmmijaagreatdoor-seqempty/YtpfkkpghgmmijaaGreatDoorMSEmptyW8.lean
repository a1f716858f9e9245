/-
  What is proved here: SeqEmpty answers true. Conditions: its arguments lie in memory, and are no longer than the reach; Commute answers as it does.
-/
import Derived.Test.YtpfkkpghgmmijaaGreatDoorM46SeqA8
namespace Go.Proofs.YtpfkkpghgmmijaaGreatDoor
open Go.RowKit Go.Maps Go.WideMaps
set_option maxRecDepth 100000

set_option maxHeartbeats 16000000 in
theorem sempty_walk (hC : CommuteAll) (va : Option Addr) (n c : Nat) (xs : List Pr) (vb : Option Addr) (m d : Nat) (bs : List Pr) (vq : Option Addr) (k r : Nat) (cs : List Pr) (W : World) (hm1 : xs.length = n) (hb1 : PrsAt W va xs) (hd1 : va = none → c = 0) (hs1 : ∀ x ∈ xs, x.old.length ≤ 140737488355328 ∧ x.new.length ≤ 140737488355328) (hm2 : bs.length = m) (hb2 : PrsAt W vb bs) (hd2 : vb = none → d = 0) (hs2 : ∀ x ∈ bs, x.old.length ≤ 140737488355328 ∧ x.new.length ≤ 140737488355328) (hm3 : cs.length = k) (hb3 : PrsAt W vq cs) (hd3 : vq = none → r = 0) (hs3 : ∀ x ∈ cs, x.old.length ≤ 140737488355328 ∧ x.new.length ≤ 140737488355328) :
    Calls Tryz.prog 7 #[.slice va n c, .slice vb m d, .slice vq k r] W fun e w' => e = .returned (.bool true) ∧ Fr None' W w' := by
  have HG1 := toHid8 (fun w' (f : Fr None' W w') => pgreats_any va n c xs w' hm1 (hb1.kept f) hs1)
  unfold GreatPs at HG1
  have HL1 := toHid8 hm1
  have HR1 := toHid8 (show (∀ w', Fr None' W w' → PrsAt w' va xs) ∧ (va = none → c = 0) from ⟨fun w' f => hb1.kept f, hd1⟩)
  have HG2 := toHid8 (fun w' (f : Fr None' W w') => pgreats_any vb m d bs w' hm2 (hb2.kept f) hs2)
  unfold GreatPs at HG2
  have HL2 := toHid8 hm2
  have HR2 := toHid8 (show (∀ w', Fr None' W w' → PrsAt w' vb bs) ∧ (vb = none → d = 0) from ⟨fun w' f => hb2.kept f, hd2⟩)
  have HG3 := toHid8 (fun w' (f : Fr None' W w') => pgreats_any vq k r cs w' hm3 (hb3.kept f) hs3)
  unfold GreatPs at HG3
  have HL3 := toHid8 hm3
  have HR3 := toHid8 (show (∀ w', Fr None' W w' → PrsAt w' vq cs) ∧ (vq = none → r = 0) from ⟨fun w' f => hb3.kept f, hd3⟩)
  have HSw := toHid8 (fun (A B : List Pr) (pa pb : Option Addr) (na ca nb cb : Nat) w' (la : A.length = na) (lb : B.length = nb) (PA : PrsAt w' pa A) (PB : PrsAt w' pb B) (hz : pb = none → cb = 0) (h1 : na ≤ 200) (h2 : nb ≤ 200) (s1 : ∀ x ∈ A, SmPr x) (s2 : ∀ x ∈ B, SmPr x) => swap_any hC pa pb na ca nb cb A B w' la lb PA PB hz h1 h2 (fun x hx => (s1 x hx).small) (fun x hx => (s2 x hx).small))
  have HSL := toHid8 (fun (A : List Pr) (pa pb : Option Addr) (na ca cb : Nat) w' (la : A.length = na) (PA : PrsAt w' pa A) (PB : PrsAt w' pb A) (h : na ≤ 200) (s1 : ∀ x ∈ A, SmPr x) => psames_any pa pb na ca cb A w' la PA PB (by omega) (fun x hx => by have h1 := (s1 x hx).old; have h2 := (s1 x hx).new; omega))
  have HF0 := toHid8 (Fr.refl None' W)
  have q1 := shead_any hC W
  clear hC hm1 hb1 hd1 hs1 hm2 hb2 hd2 hs2 hm3 hb3 hd3 hs3
  go_enter Tryz.func7, Tryz.ntmps7
  go_wp2_with fail
  with_reducible refine q1.mono ?_
  rintro e w1 ⟨rfl, f⟩
  have HF1 := toHid8 (HF0.out.then7 f)
  clear q1 f HF0
  have q2 := HG1.out w1 HF1.out
  go_wp2_with fail
  with_reducible refine q2.mono ?_
  rintro e w2 ⟨g, rfl, hg, f⟩
  have HF2 := toHid8 (HF1.out.then7 f)
  have HGf := toHid8 hg
  clear q2 f hg HF1
  cases g
  case true =>
    go_wp2_with fail
    go_ret
    exact ⟨rfl, HF2.out⟩
  have HW1 := toHid8 (HGf.out rfl)
  clear HGf
  have q3 := HG2.out w2 HF2.out
  go_wp2_with fail
  with_reducible refine q3.mono ?_
  rintro e w3 ⟨g, rfl, hg, f⟩
  have HF3 := toHid8 (HF2.out.then7 f)
  have HGf := toHid8 hg
  clear q3 f hg HF2
  cases g
  case true =>
    go_wp2_with fail
    go_ret
    exact ⟨rfl, HF3.out⟩
  have HW2 := toHid8 (HGf.out rfl)
  clear HGf
  have q4 := HG3.out w3 HF3.out
  go_wp2_with fail
  with_reducible refine q4.mono ?_
  rintro e w4 ⟨g, rfl, hg, f⟩
  have HF4 := toHid8 (HF3.out.then7 f)
  have HGf := toHid8 hg
  clear q4 f hg HF3
  cases g
  case true =>
    go_wp2_with fail
    go_ret
    exact ⟨rfl, HF4.out⟩
  have HW3 := toHid8 (HGf.out rfl)
  clear HGf
  have Hs1 := toHid8 (show ∀ x ∈ xs, SmPr x from fun x hx => weight_smP (HW1.out.2 x hx))
  have Hs2 := toHid8 (show ∀ x ∈ bs, SmPr x from fun x hx => weight_smP (HW2.out.2 x hx))
  have Hs3 := toHid8 (show ∀ x ∈ cs, SmPr x from fun x hx => weight_smP (HW3.out.2 x hx))
  have H60 := toHid8 (show n ≤ 60 ∧ m ≤ 60 ∧ k ≤ 60 from ⟨HW1.out.1, HW2.out.1, HW3.out.1⟩)
  have q5 := HSw.out xs [] va none n c 0 0 w4 HL1.out rfl (HR1.out.1 w4 HF4.out) (fun k x hk => by simp at hk) (fun _ => rfl) (by have := H60.out; omega) (by omega) Hs1.out (fun x hx => by cases hx)
  rw [swap_nil] at q5
  clear HG1 HG2 HG3 HW1 HW2 HW3
  go_wp2_with fail
  with_reducible refine q5.mono ?_
  rintro e w5 ⟨vx, vy, rfl, hvx, hvy, f⟩
  obtain ⟨px, cx, rfl, _, _⟩ := hvx
  obtain ⟨py, cy, rfl, _, PY⟩ := hvy
  have HF5 := toHid8 (HF4.out.then7 f)
  simp only [List.length_nil]
  rw [HL1.out]
  have q6 := HSL.out xs py va n cy c w5 HL1.out PY (HR1.out.1 w5 HF5.out) (by have := H60.out; omega) Hs1.out
  clear q5 f PY HF4
  go_wp2_with fail
  with_reducible refine q6.mono ?_
  rintro e w6 ⟨rfl, f⟩
  have HF6 := toHid8 (HF5.out.then7 f)
  clear q6 f HF5
  obtain ⟨s, hs⟩ : ∃ s, n + m = s := ⟨_, rfl⟩
  obtain ⟨p1, c1, wa, p2, c2, wb, r1, r2, P2, n2, _, _, fb⟩ := join_two (s := s) (HR1.out.1 w6 HF6.out) HL1.out HR1.out.2 (HR2.out.1 w6 HF6.out) HL2.out HR2.out.2 hs (by have := H60.out; omega)
  have HRa := toHid8 r1
  have HRb := toHid8 r2
  have HFb := toHid8 (HF6.out.then7 fb)
  have Hs12 := toHid8 (show ∀ x ∈ xs ++ bs, SmPr x from fun x hx => (List.mem_append.1 hx).elim (Hs1.out x) (Hs2.out x))
  have q7 := HSw.out (xs ++ bs) cs p2 vq s c2 k r wb (by rw [List.length_append, HL1.out, HL2.out]; exact hs) HL3.out P2 (HR3.out.1 wb HFb.out) HR3.out.2 (by have := H60.out; omega) (by have := H60.out; omega) Hs12.out Hs3.out
  obtain ⟨rr, hrr⟩ : ∃ rr, swapP (xs ++ bs) cs = rr := ⟨_, rfl⟩
  rw [hrr] at q7
  obtain ⟨U, V, tw⟩ := rr
  have HUV := toHid8 hrr
  clear hrr r1 r2 P2 n2 fb hs HF6
  go_wp2_with (at_builtin
               first
                 | (refine app_list9 (vs := .slice (some ⟨w6.heap.size, 0, none⟩) 0 0) (vx := .slice va n c) rfl _ _ rfl rfl rfl HRa.out ?_)
                 | (refine app_list9 (vs := .slice p1 n c1) (vx := .slice vb m d) rfl _ _ rfl rfl rfl HRb.out ?_))
  with_reducible refine q7.mono ?_
  rintro e w7 ⟨vu, vv, rfl, hvu, hvv, f⟩
  obtain ⟨pu, cu, rfl, _, PU⟩ := hvu
  obtain ⟨pv, cv, rfl, _, PV⟩ := hvv
  have HF7 := toHid8 (HFb.out.then7 f)
  have HU := toHid8 PU
  have HV := toHid8 PV
  clear q7 f PU PV HFb HRa HRb
  have q8 := HSw.out bs cs vb vq m d k r w7 HL2.out HL3.out (HR2.out.1 w7 HF7.out) (HR3.out.1 w7 HF7.out) HR3.out.2 (by have := H60.out; omega) (by have := H60.out; omega) Hs2.out Hs3.out
  obtain ⟨rr, hrr⟩ : ∃ rr, swapP bs cs = rr := ⟨_, rfl⟩
  rw [hrr] at q8
  obtain ⟨P, Q, t1⟩ := rr
  have HPQ := toHid8 hrr
  clear hrr
  go_wp2_with fail
  with_reducible refine q8.mono ?_
  rintro e w8 ⟨vp, vq', rfl, hvp, hvq, f⟩
  obtain ⟨pp, cp, rfl, np0, PP⟩ := hvp
  obtain ⟨pq, cq, rfl, nq0, PQ⟩ := hvq
  have HF8 := toHid8 (HF7.out.then7 f)
  have HU8 := toHid8 (HU.out.kept f)
  have HV8 := toHid8 (HV.out.kept f)
  have HP := toHid8 (And.intro PP np0)
  have HQ := toHid8 (And.intro PQ nq0)
  clear q8 f PP PQ np0 nq0 HF7 HU HV
  cases t1
  case false =>
    have e0 := HPQ.out
    rw [swap_no (by rw [e0])] at e0
    obtain ⟨rfl, rfl, _⟩ : [] = P ∧ [] = Q ∧ True := by simpa using e0
    have e1 := HUV.out
    rw [swap_append, HPQ.out] at e1
    simp only [Bool.false_eq_true, if_false, Prod.mk.injEq] at e1
    obtain ⟨rfl, rfl, rfl⟩ := e1
    clear e0
    simp only [List.length_nil]
    go_wp2_with fail
    go_ret
    exact ⟨rfl, HF8.out⟩
  have hlP : P.length = k := by rw [(swap_row HPQ.out).2.1]; exact HL3.out
  have hlQ : Q.length = m := by rw [(swap_row HPQ.out).2.2]; exact HL2.out
  have hpq := swap_sm HPQ.out Hs2.out Hs3.out
  have HlQ := toHid8 hlQ
  have Hpq := toHid8 hpq
  rw [hlP, hlQ]
  have q9 := HSw.out xs P va pp n c k cp w8 HL1.out hlP (HR1.out.1 w8 HF8.out) HP.out.1 HP.out.2 (by have := H60.out; omega) (by have := H60.out; omega) Hs1.out hpq.1
  obtain ⟨rr, hrr⟩ : ∃ rr, swapP xs P = rr := ⟨_, rfl⟩
  rw [hrr] at q9
  obtain ⟨S, T, t2⟩ := rr
  have HST := toHid8 hrr
  clear hrr hlP hlQ hpq
  go_wp2_with fail
  with_reducible refine q9.mono ?_
  rintro e w9 ⟨vs, vt, rfl, hvs, hvt, f⟩
  obtain ⟨ps, cps, rfl, _, PS⟩ := hvs
  obtain ⟨pt, ct, rfl, nt0, PT⟩ := hvt
  have HF9 := toHid8 (HF8.out.then7 f)
  have HU9 := toHid8 (HU8.out.kept f)
  have HV9 := toHid8 (HV8.out.kept f)
  have HQ9 := toHid8 (show PrsAt w9 pq Q ∧ (pq = none → cq = 0) from ⟨HQ.out.1.kept f, HQ.out.2⟩)
  have HS9 := toHid8 PS
  have HT9 := toHid8 (And.intro PT nt0)
  have hlT : T.length ≤ 60 := by
    cases t2 with
    | false =>
      have e0 := HST.out
      rw [swap_no (by rw [e0])] at e0
      obtain ⟨_, rfl, _⟩ : [] = S ∧ [] = T ∧ True := by simpa using e0
      simp
    | true => rw [(swap_row HST.out).2.2, HL1.out]; exact H60.out.1
  clear q9 f PS PT nt0 HF8 HU8 HV8 HP HQ
  obtain ⟨z, hz⟩ : ∃ z, T.length + m = z := ⟨_, rfl⟩
  obtain ⟨p3, c3, wc, p4, c4, wd, r3, r4, P4, _, _, _, fd⟩ := join_two (s := z) HT9.out.1 rfl HT9.out.2 HQ9.out.1 HlQ.out HQ9.out.2 hz (by have := H60.out; omega)
  have HRc := toHid8 r3
  have HRd := toHid8 r4
  have HP4 := toHid8 P4
  have HFd := toHid8 (HF9.out.then7 fd)
  have HUd := toHid8 (HU9.out.kept fd)
  have HVd := toHid8 (HV9.out.kept fd)
  have HSd := toHid8 (HS9.out.kept fd)
  have Hz := toHid8 (And.intro hz hlT)
  have e1 := HUV.out
  rw [swap_append, HPQ.out] at e1
  simp only [if_true] at e1
  rw [HST.out] at e1
  clear r3 r4 P4 fd HF9 HU9 HV9 HS9 HT9 HQ9 hz hlT
  cases t2
  case false =>
    simp only [Bool.false_eq_true, if_false, Prod.mk.injEq] at e1
    obtain ⟨rfl, rfl, rfl⟩ := e1
    clear HUV HPQ HST
    go_wp2_with (at_builtin
                 first
                   | (refine app_list9 (vs := .slice (some ⟨w9.heap.size, 0, none⟩) 0 0) (vx := .slice pt T.length ct) rfl _ _ rfl rfl rfl HRc.out ?_)
                   | (refine app_list9 (vs := .slice p3 T.length c3) (vx := .slice pq m cq) rfl _ _ rfl rfl rfl HRd.out ?_))
    go_ret
    exact ⟨rfl, HFd.out⟩
  simp only [if_true, Prod.mk.injEq] at e1
  obtain ⟨rfl, rfl, rfl⟩ := e1
  have hSk : S.length = k := by rw [(swap_row HST.out).2.1, (swap_row HPQ.out).2.1]; exact HL3.out
  have hTQ : (T ++ Q).length = z := by rw [List.length_append, HlQ.out]; exact Hz.out.1
  have hsST := swap_sm HST.out Hs1.out Hpq.out.1
  have q10 := HSL.out S pu ps k cu cps wd hSk HUd.out HSd.out (by have := H60.out; omega) hsST.1
  have HTQ := toHid8 (show (T ++ Q).length = z ∧ ∀ x ∈ T ++ Q, SmPr x from ⟨hTQ, fun x hx => (List.mem_append.1 hx).elim (hsST.2 x) (Hpq.out.2 x)⟩)
  rw [hSk, hTQ]
  clear hSk hTQ hsST HUV HPQ HST
  go_wp2_with (at_builtin
               first
                 | (refine app_list9 (vs := .slice (some ⟨w9.heap.size, 0, none⟩) 0 0) (vx := .slice pt T.length ct) rfl _ _ rfl rfl rfl HRc.out ?_)
                 | (refine app_list9 (vs := .slice p3 T.length c3) (vx := .slice pq m cq) rfl _ _ rfl rfl rfl HRd.out ?_))
  with_reducible refine q10.mono ?_
  rintro e w10 ⟨rfl, f⟩
  have HF10 := toHid8 (HFd.out.then7 f)
  have q11 := HSL.out (T ++ Q) pv p4 z cv c4 w10 HTQ.out.1 (HVd.out.kept f) (HP4.out.kept f) (by have := H60.out; have := Hz.out; omega) HTQ.out.2
  clear q10 f HFd
  go_wp2_with fail
  with_reducible refine q11.mono ?_
  rintro e w11 ⟨rfl, f⟩
  have HF11 := toHid8 (HF10.out.then7 f)
  clear q11 f HF10
  go_wp2_with fail
  go_ret
  exact ⟨rfl, HF11.out⟩

end Go.Proofs.YtpfkkpghgmmijaaGreatDoor
