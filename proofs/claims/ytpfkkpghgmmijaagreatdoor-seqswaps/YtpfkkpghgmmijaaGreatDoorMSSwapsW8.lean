/-
  What is proved here: SeqSwaps answers true. Conditions: its arguments lie in memory, and are no longer than the reach; Commute answers as it does.
-/
import Derived.Test.YtpfkkpghgmmijaaGreatDoorM46SeqA8
namespace Go.Proofs.YtpfkkpghgmmijaaGreatDoor
open Go.RowKit Go.Maps Go.WideMaps
set_option maxRecDepth 100000

theorem sswaps_walk_64 {n m : Nat} (h : n ≤ 1000) (h2 : m ≤ 120) : wrap64 ((n : Int) + (m : Int)) = (n : Int) + (m : Int) := by
  unfold wrap64
  omega

theorem sswaps_walk_le {n m a b : Nat} (h : 1024 ≤ a + b) (h1 : a = n) (h2 : b = m) : (1024 : Int) ≤ (n : Int) + (m : Int) := by
  subst h1 h2
  omega

set_option maxHeartbeats 16000000 in
theorem sswaps_walk (hC : CommuteAll) (va : Option Addr) (n c : Nat) (L : List En) (vb : Option Addr) (m d : Nat) (ps : List Pr) (vq : Option Addr) (k r : Nat) (qs : List Pr) (W : World) (hl : L.length = n) (ha : EntsAt W va L) (hn : n ≤ 140737488355328) (hx : ∀ x ∈ L, x.lines.length ≤ 140737488355328) (hm1 : ps.length = m) (hb1 : PrsAt W vb ps) (hd1 : vb = none → d = 0) (hs1 : ∀ x ∈ ps, x.old.length ≤ 140737488355328 ∧ x.new.length ≤ 140737488355328) (hm2 : qs.length = k) (hb2 : PrsAt W vq qs) (hd2 : vq = none → r = 0) (hs2 : ∀ x ∈ qs, x.old.length ≤ 140737488355328 ∧ x.new.length ≤ 140737488355328) :
    Calls Tryz.prog 4 #[.slice va n c, .slice vb m d, .slice vq k r] W fun e w' => e = .returned (.bool true) ∧ Fr None' W w' := by
  have HG := toHid8 (fun w' (f : Fr None' W w') => great_any va n c L w' hl (ha.kept f) hn hx)
  unfold GreatPost at HG
  have HLen := toHid8 hl
  have HAllE := toHid8 (fun (h1 : weight L < 4000) (qs : List Pr) (k : Nat) (h3 : qs.length = k) (h4 : k ≤ 200) (h2 : ∀ x ∈ qs, SmPr x) vb d w' (f : Fr None' W w') (hb : PrsAt w' vb qs) => all8_any va n c L vb k d qs 4000 w' hl (ha.kept f) (by have := (weight_smE h1).2.1; omega) (weight_smE h1).1 h3 hb (by omega) (weight_smE h1).2.2 (by have := newTo_sm h2; omega) h2)
  have HSE := toHid8 (fun vx vy (M : List En) cx cy w' (hx : EntsAt w' vx M) (hy : EntsAt w' vy M) (s1 : SmallE M) (s2 : M.length ≤ 90000) => esame_any vx vy M.length cx cy M w' rfl hx hy (by omega) s1)
  have HG1 := toHid8 (fun w' (f : Fr None' W w') => pgreats_any vb m d ps w' hm1 (hb1.kept f) hs1)
  unfold GreatPs at HG1
  have HL1 := toHid8 hm1
  have HR1 := toHid8 (show (∀ w', Fr None' W w' → PrsAt w' vb ps) ∧ (vb = none → d = 0) from ⟨fun w' f => hb1.kept f, hd1⟩)
  have HG2 := toHid8 (fun w' (f : Fr None' W w') => pgreats_any vq k r qs w' hm2 (hb2.kept f) hs2)
  unfold GreatPs at HG2
  have HL2 := toHid8 hm2
  have HR2 := toHid8 (show (∀ w', Fr None' W w' → PrsAt w' vq qs) ∧ (vq = none → r = 0) from ⟨fun w' f => hb2.kept f, hd2⟩)
  have HSw := toHid8 (fun (A B : List Pr) (pa pb : Option Addr) (na ca nb cb : Nat) w' (la : A.length = na) (lb : B.length = nb) (PA : PrsAt w' pa A) (PB : PrsAt w' pb B) (hz : pb = none → cb = 0) (h1 : na ≤ 200) (h2 : nb ≤ 200) (s1 : ∀ x ∈ A, SmallP x) (s2 : ∀ x ∈ B, SmallP x) => swap_any hC pa pb na ca nb cb A B w' la lb PA PB hz h1 h2 s1 s2)
  have HF0 := toHid8 (Fr.refl None' W)
  have q1 := shead_any hC W
  clear ha hl hx hC hm1 hb1 hd1 hs1 hm2 hb2 hd2 hs2
  go_enter Tryz.func4, Tryz.ntmps4
  go_wp2_with fail
  with_reducible refine q1.mono ?_
  rintro e w1 ⟨rfl, f⟩
  have HF1 := toHid8 (HF0.out.then7 f)
  clear q1 f HF0
  have q2 := HG.out w1 HF1.out
  go_wp2_with fail
  with_reducible refine q2.mono ?_
  rintro e w2 ⟨g, rfl, hg, f⟩
  have HF2 := toHid8 (HF1.out.then7 f)
  have HGf := toHid8 hg
  clear q2 f hg HF1
  cases g
  case true =>
    go_wp2_with fail
    go_ret
    exact ⟨rfl, HF2.out⟩
  have HW := toHid8 (HGf.out rfl)
  clear HGf
  have q3 := HG1.out w2 HF2.out
  go_wp2_with fail
  with_reducible refine q3.mono ?_
  rintro e w3 ⟨g, rfl, hg, f⟩
  have HF3 := toHid8 (HF2.out.then7 f)
  have HGf := toHid8 hg
  clear q3 f hg HF2
  cases g
  case true =>
    go_wp2_with fail
    go_ret
    exact ⟨rfl, HF3.out⟩
  have HW1 := toHid8 (HGf.out rfl)
  clear HGf
  have q4 := HG2.out w3 HF3.out
  go_wp2_with fail
  with_reducible refine q4.mono ?_
  rintro e w4 ⟨g, rfl, hg, f⟩
  have HF4 := toHid8 (HF3.out.then7 f)
  have HGf := toHid8 hg
  clear q4 f hg HF3
  cases g
  case true =>
    go_wp2_with fail
    go_ret
    exact ⟨rfl, HF4.out⟩
  have HW2 := toHid8 (HGf.out rfl)
  clear HGf
  have hsm1 : ∀ x ∈ ps, SmPr x := fun x hx => weight_smP (HW1.out.2 x hx)
  have hsm2 : ∀ x ∈ qs, SmPr x := fun x hx => weight_smP (HW2.out.2 x hx)
  have h60 : m ≤ 60 ∧ k ≤ 60 := ⟨HW1.out.1, HW2.out.1⟩
  have q5 := HSw.out ps qs vb vq m d k r w4 HL1.out HL2.out (HR1.out.1 w4 HF4.out) (HR2.out.1 w4 HF4.out) HR2.out.2 (by omega) (by omega) (fun x hx => (hsm1 x hx).small) (fun x hx => (hsm2 x hx).small)
  obtain ⟨rr, hrr⟩ : ∃ rr, swapP ps qs = rr := ⟨_, rfl⟩
  rw [hrr] at q5
  obtain ⟨X, Y, t⟩ := rr
  have HSP := toHid8 hrr
  have Hsm := toHid8 (And.intro hsm1 hsm2)
  have H60 := toHid8 h60
  clear hrr hsm1 hsm2 h60 HG HG1 HG2
  go_wp2_with fail
  with_reducible refine q5.mono ?_
  rintro e w5 ⟨vx, vy, rfl, hvx, hvy, f⟩
  obtain ⟨px, cx, rfl, nx0, PX⟩ := hvx
  obtain ⟨py, cy, rfl, ny0, PY⟩ := hvy
  have HX := toHid8 (And.intro PX nx0)
  have HY := toHid8 (And.intro PY ny0)
  have HF5 := toHid8 (HF4.out.then7 f)
  clear q5 f PX PY nx0 ny0 HF4
  cases t
  case false =>
    have e0 := HSP.out
    rw [swap_no (by rw [e0])] at e0
    obtain ⟨rfl, rfl, _⟩ : [] = X ∧ [] = Y ∧ True := by simpa using e0
    clear e0
    simp only [List.length_nil]
    go_wp2_with fail
    go_ret
    exact ⟨rfl, HF5.out⟩
  have hrow := swap_row HSP.out
  have hlX : X.length = k := by rw [hrow.2.1]; exact HL2.out
  have hlY : Y.length = m := by rw [hrow.2.2]; exact HL1.out
  have hsw := swap_sm HSP.out Hsm.out.1 Hsm.out.2
  have HRA := toHid8 hrow.1
  have Hsw := toHid8 hsw
  have HlX := toHid8 hlX
  have HlY := toHid8 hlY
  rw [hlX, hlY]
  have q6 := HSw.out X Y px py k cx m cy w5 hlX hlY HX.out.1 HY.out.1 HY.out.2 (by have := H60.out; omega) (by have := H60.out; omega) (fun x hx => (hsw.1 x hx).small) (fun x hx => (hsw.2 x hx).small)
  rw [swap_back HSP.out] at q6
  clear hrow hlX hlY hsw
  go_wp2_with fail
  with_reducible refine q6.mono ?_
  rintro e w6 ⟨vu, vv, rfl, hvu, hvv, f⟩
  obtain ⟨pu, cu, rfl, _, PU⟩ := hvu
  obtain ⟨pv, cv, rfl, _, PV⟩ := hvv
  have HF6 := toHid8 (HF5.out.then7 f)
  have HX6 := toHid8 (show PrsAt w6 px X ∧ (px = none → cx = 0) from ⟨HX.out.1.kept f, HX.out.2⟩)
  have HY6 := toHid8 (show PrsAt w6 py Y ∧ (py = none → cy = 0) from ⟨HY.out.1.kept f, HY.out.2⟩)
  have HV := toHid8 PV
  have q7 := psames_any pu vb m cu d ps w6 HL1.out PU (HR1.out.1 w6 HF6.out) (by have := H60.out; omega) (fun x hx => by have h1 := (Hsm.out.1 x hx).old; have h2 := (Hsm.out.1 x hx).new; omega)
  rw [HL1.out, HL2.out]
  clear q6 f PU PV HF5 HX HY HSw
  go_wp2_with fail
  with_reducible refine q7.mono ?_
  rintro e w7 ⟨rfl, f⟩
  have HF7 := toHid8 (HF6.out.then7 f)
  have q8 := psames_any pv vq k cv r qs w7 HL2.out (HV.out.kept f) (HR2.out.1 w7 HF7.out) (by have := H60.out; omega) (fun x hx => by have h1 := (Hsm.out.2 x hx).old; have h2 := (Hsm.out.2 x hx).new; omega)
  have HX7 := toHid8 (show PrsAt w7 px X ∧ (px = none → cx = 0) from ⟨HX6.out.1.kept f, HX6.out.2⟩)
  have HY7 := toHid8 (show PrsAt w7 py Y ∧ (py = none → cy = 0) from ⟨HY6.out.1.kept f, HY6.out.2⟩)
  clear q7 f HF6 HX6 HY6 HV
  go_wp2_with fail
  with_reducible refine q8.mono ?_
  rintro e w8 ⟨rfl, f⟩
  have HF8 := toHid8 (HF7.out.then7 f)
  have HX8 := toHid8 (show PrsAt w8 px X ∧ (px = none → cx = 0) from ⟨HX7.out.1.kept f, HX7.out.2⟩)
  have HY8 := toHid8 (show PrsAt w8 py Y ∧ (py = none → cy = 0) from ⟨HY7.out.1.kept f, HY7.out.2⟩)
  clear q8 f HF7 HX7 HY7
  obtain ⟨s, hs⟩ : ∃ s, m + k = s := ⟨_, rfl⟩
  have Hs := toHid8 hs
  obtain ⟨p1, c1, wa, p2, c2, wb, r1, r2, P2, _, _, _, fb⟩ := join_two (s := s) (HR1.out.1 w8 HF8.out) HL1.out HR1.out.2 (HR2.out.1 w8 HF8.out) HL2.out HR2.out.2 hs (by have := H60.out; omega)
  obtain ⟨p3, c3, wc, p4, c4, wd, r3, r4, P4, _, _, _, fd⟩ := join_two (s := s) (HX8.out.1.kept fb) HlX.out HX8.out.2 (HY8.out.1.kept fb) HlY.out HY8.out.2 (by omega) (by have := H60.out; omega)
  have HRa := toHid8 r1
  have HRb := toHid8 r2
  have HRc := toHid8 r3
  have HRd := toHid8 r4
  have HFd := toHid8 ((HF8.out.then7 fb).then7 fd)
  have HP2 := toHid8 (P2.kept fd)
  have HP4 := toHid8 P4
  have q9 := HAllE.out HW.out (ps ++ qs) s (by rw [List.length_append, HL1.out, HL2.out]; exact hs) (by have := H60.out; omega) (fun x hx => (List.mem_append.1 hx).elim (Hsm.out.1 x) (Hsm.out.2 x)) p2 c2 wd HFd.out HP2.out
  obtain ⟨rr, hrr⟩ : ∃ rr, allE L (ps ++ qs) = rr := ⟨_, rfl⟩
  rw [hrr] at q9
  obtain ⟨R, er, kk⟩ := rr
  have HR := toHid8 hrr
  clear hrr r1 r2 r3 r4 P2 P4 fb fd hs HX8 HY8 HF8
  go_wp2_with (at_builtin
               first
                 | (refine app_list9 (vs := .slice (some ⟨w8.heap.size, 0, none⟩) 0 0) (vx := .slice vb m d) rfl _ _ rfl rfl rfl HRa.out ?_)
                 | (refine app_list9 (vs := .slice p1 m c1) (vx := .slice vq k r) rfl _ _ rfl rfl rfl HRb.out ?_)
                 | (refine app_list9 (vs := .slice (some ⟨wb.heap.size, 0, none⟩) 0 0) (vx := .slice px k cx) rfl _ _ rfl rfl rfl HRc.out ?_)
                 | (refine app_list9 (vs := .slice p3 k c3) (vx := .slice py m cy) rfl _ _ rfl rfl rfl HRd.out ?_))
  with_reducible refine q9.mono ?_
  rintro e w9 ⟨v9, c9, rfl, HE9, _, f⟩
  have HF9 := toHid8 (HFd.out.then7 f)
  have q10 := HAllE.out HW.out (X ++ Y) s (by have := Hs.out; rw [List.length_append, HlX.out, HlY.out]; omega) (by have := H60.out; have := Hs.out; omega) (fun x hx => (List.mem_append.1 hx).elim (Hsw.out.1 x) (Hsw.out.2 x)) p4 c4 w9 HF9.out (HP4.out.kept f)
  clear q9 f HFd HRa HRb HRc HRd HP2 HP4
  by_cases he : er = 0
  · subst he
    obtain ⟨t2, t3⟩ := run_sm ((treeR L).1 (all_right HR.out)) (weight_smE HW.out).2.2 (fun x hx => (List.mem_append.1 hx).elim (Hsm.out.1 x) (Hsm.out.2 x)) (show runE L (ps ++ qs) 0 = (R, 0, kk) from by rw [← runE_good (all_right HR.out)]; exact HR.out)
    obtain ⟨z1, z2⟩ := tree_small t2 t3 (by have := HL1.out; have := HL2.out; have := H60.out; rw [List.length_append]; omega)
    have HZ := toHid8 (And.intro z1 z2)
    have HCA := toHid8 (as_run HRA.out HR.out)
    clear t2 t3 z1 z2
    rcases HCA.out with hca | ⟨⟨y, hca⟩, hlen⟩
    · rw [hca] at q10
      clear hca HCA
      go_wp2_with fail
      with_reducible refine q10.mono ?_
      rintro e w10 ⟨v10, c10, rfl, HE10, _, f⟩
      have q11 := HSE.out v9 v10 R c9 c10 w10 (HE9.out.kept f) HE10.out HZ.out.1 HZ.out.2
      have HF10 := toHid8 (HF9.out.then7 f)
      clear q10 f HF9
      go_wp2_with fail
      with_reducible refine q11.mono ?_
      rintro e w11 ⟨rfl, f⟩
      have HF11 := toHid8 (HF10.out.then7 f)
      clear q11 f HF10
      go_wp2_with fail
      go_ret
      exact ⟨rfl, HF11.out⟩
    · rw [hca] at q10
      have r1 : wrap64 ((n : Int) + (s : Int)) = (n : Int) + (s : Int) := sswaps_walk_64 (HLen.out ▸ (weight_smE HW.out).2.1) (by have := H60.out; have := Hs.out; omega)
      have i3 : (1024 : Int) ≤ (n : Int) + (s : Int) := sswaps_walk_le hlen HLen.out (by have := Hs.out; rw [List.length_append, HlX.out, HlY.out]; omega)
      clear hca HCA hlen
      go_wp2_with fail
      with_reducible refine q10.mono ?_
      rintro e w10 ⟨v10, c10, rfl, HE10, _, f⟩
      have HF10 := toHid8 (HF9.out.then7 f)
      clear q10 f HF9
      go_wp2_with fail
      go_ret
      exact ⟨rfl, HF10.out⟩
  · have he2 : (er == 0) = false := by simpa using he
    go_wp2_with fail
    with_reducible refine q10.mono ?_
    rintro e w10 ⟨v10, c10, rfl, HE10, _, f⟩
    have HF10 := toHid8 (HF9.out.then7 f)
    clear q10 f HF9
    go_wp2_with fail
    go_ret
    exact ⟨rfl, HF10.out⟩

end Go.Proofs.YtpfkkpghgmmijaaGreatDoor
