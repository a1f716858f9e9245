/-
  What is proved here: SeqLast answers true. Conditions: its arguments lie in memory, and are no longer than the reach; Commute answers as it does.
-/
import Derived.Test.YtpfkkpghgmmijaaGreatDoorM44SeqP8
namespace Go.Proofs.YtpfkkpghgmmijaaGreatDoor
open Go.RowKit Go.Maps Go.WideMaps
set_option maxRecDepth 100000

theorem slast_walk_64 {n m : Nat} (h : n ≤ 1000) (h2 : m ≤ 120) : wrap64 ((n : Int) + (m : Int)) = (n : Int) + (m : Int) := by
  unfold wrap64
  omega

theorem slast_walk_le {n m a b : Nat} (h : 1024 ≤ a + b) (h1 : a = n) (h2 : b = m) : (1024 : Int) ≤ (n : Int) + (m : Int) := by
  subst h1 h2
  omega

set_option maxHeartbeats 16000000 in
theorem slast_walk (hC : CommuteAll) (va : Option Addr) (n c : Nat) (L : List En) (vb : Option Addr) (m d : Nat) (ps : List Pr) (z : Int) (W : World) (hl : L.length = n) (ha : EntsAt W va L) (hn : n ≤ 140737488355328) (hx : ∀ x ∈ L, x.lines.length ≤ 140737488355328) (hm1 : ps.length = m) (hb1 : PrsAt W vb ps) (hd1 : vb = none → d = 0) (hs1 : ∀ x ∈ ps, x.old.length ≤ 140737488355328 ∧ x.new.length ≤ 140737488355328) (hr1 : m ≤ d ∧ d ≤ 9223372036854775807) :
    Calls Tryz.prog 5 #[.slice va n c, .slice vb m d, .int .i64 z] W fun e w' => e = .returned (.bool true) ∧ Fr None' W w' := by
  have HG := toHid8 (fun w' (f : Fr None' W w') => great_any va n c L w' hl (ha.kept f) hn hx)
  unfold GreatPost at HG
  have HLen := toHid8 hl
  have HAllE := toHid8 (fun (h1 : weight L < 4000) (qs : List Pr) (k : Nat) (h3 : qs.length = k) (h4 : k ≤ 200) (h2 : ∀ x ∈ qs, SmPr x) vb d w' (f : Fr None' W w') (hb : PrsAt w' vb qs) => all8_any va n c L vb k d qs 4000 w' hl (ha.kept f) (by have := (weight_smE h1).2.1; omega) (weight_smE h1).1 h3 hb (by omega) (weight_smE h1).2.2 (by have := newTo_sm h2; omega) h2)
  have HSE := toHid8 (fun vx vy (M : List En) cx cy w' (hx : EntsAt w' vx M) (hy : EntsAt w' vy M) (s1 : SmallE M) (s2 : M.length ≤ 90000) => esame_any vx vy M.length cx cy M w' rfl hx hy (by omega) s1)
  have HG1 := toHid8 (fun w' (f : Fr None' W w') => pgreats_any vb m d ps w' hm1 (hb1.kept f) hs1)
  unfold GreatPs at HG1
  have HL1 := toHid8 hm1
  have HR1 := toHid8 (show (∀ w', Fr None' W w' → PrsAt w' vb ps) ∧ (vb = none → d = 0) from ⟨fun w' f => hb1.kept f, hd1⟩)
  have HLa := toHid8 (fun (h3 : m ≤ 60 ∧ ∀ x ∈ ps, x.weight < 4000) w' (f : Fr None' W w') => last_any hC vb m d ps z w' hm1 (hb1.kept f) hd1 hr1.1 hr1.2 (by omega) (fun y hy => (weight_smP (h3.2 y hy)).small))
  have HF0 := toHid8 (Fr.refl None' W)
  have q1 := shead_any hC W
  clear ha hl hx hC hm1 hb1 hd1 hs1 hr1
  go_enter Tryz.func5, Tryz.ntmps5
  go_wp2_with fail
  with_reducible refine q1.mono ?_
  rintro e w1 ⟨rfl, f⟩
  have HF1 := toHid8 (HF0.out.then7 f)
  clear q1 f HF0 
  have q2 := HG.out w1 HF1.out
  clear HG
  go_wp2_with fail
  with_reducible refine q2.mono ?_
  rintro e w2 ⟨g, rfl, hg, f⟩
  have HF2 := toHid8 (HF1.out.then7 f)
  have HGf := toHid8 hg
  clear q2 f hg HF1
  cases g with
  | true =>
    go_wp2_with fail
    go_ret
    exact ⟨rfl, HF2.out⟩
  | false =>
    have HW := toHid8 (HGf.out rfl)
    have q3 := HG1.out w2 HF2.out
    clear HGf HG1
    go_wp2_with fail
    with_reducible refine q3.mono ?_
    rintro e w3 ⟨g, rfl, hg, f⟩
    have HF3 := toHid8 (HF2.out.then7 f)
    have HGf := toHid8 hg
    clear q3 f hg HF2
    cases g with
    | true =>
      go_wp2_with fail
      go_ret
      exact ⟨rfl, HF3.out⟩
    | false =>
      have HWQ := toHid8 (HGf.out rfl)
      have q4 := HLa.out HWQ.out w3 HF3.out
      clear HGf HLa
      obtain ⟨r, hr⟩ : ∃ r, lastQ ps z = r := ⟨_, rfl⟩
      rw [hr] at q4
      obtain ⟨X, t⟩ := r
      have HLQ := toHid8 hr
      clear hr
      go_wp2_with fail
      with_reducible refine q4.mono ?_
      rintro e w4 ⟨v, rfl, hv, f⟩
      obtain ⟨px, cx, rfl, _, PX⟩ := hv
      have HPX := toHid8 PX
      have HF4 := toHid8 (HF3.out.then7 f)
      clear q4 f PX HF3
      cases t with
      | false =>
        obtain rfl := last_no HLQ.out
        simp only [List.length_nil]
        go_wp2_with fail
        go_ret
        exact ⟨rfl, HF4.out⟩
      | true =>
        have hlr := last_row HLQ.out
        have hsm : ∀ x ∈ ps, SmPr x := fun x hx => weight_smP (HWQ.out.2 x hx)
        have hsX := last_sm HLQ.out hsm
        have hlX : X.length = m := by rw [hlr.2.1]; exact HL1.out
        have HRA := toHid8 hlr.1
        have i1 : (0 : Int) ≤ z := hlr.2.2.1
        have i2 : z < (m : Int) := by rw [← HL1.out]; exact hlr.2.2.2
        have h60 := HWQ.out.1
        have q5 := HAllE.out HW.out ps m HL1.out (by omega) hsm vb d w4 HF4.out (HR1.out.1 w4 HF4.out)
        obtain ⟨r, hr⟩ : ∃ r, allE L ps = r := ⟨_, rfl⟩
        rw [hr] at q5
        obtain ⟨R, er, kk⟩ := r
        have HR := toHid8 hr
        have HlX := toHid8 hlX
        have HsX := toHid8 hsX
        have Hsm := toHid8 hsm
        have H60 := toHid8 h60
        rw [hlX]
        clear hr hlr hsX hsm hlX h60
        go_wp2_with fail
        with_reducible refine q5.mono ?_
        rintro e w5 ⟨v5, c5, rfl, HE5, HC5, f⟩
        have HF5 := toHid8 (HF4.out.then7 f)
        have HPX5 := toHid8 (HPX.out.kept f)
        clear q5 f HF4 HPX HC5
        have q6 := HAllE.out HW.out X m HlX.out (by have := H60.out; omega) HsX.out px cx w5 HF5.out HPX5.out
        by_cases he : er = 0
        · subst he
          obtain ⟨t2, t3⟩ := run_sm ((treeR L).1 (all_right HR.out)) (weight_smE HW.out).2.2 Hsm.out (show runE L ps 0 = (R, 0, kk) from by rw [← runE_good (all_right HR.out)]; exact HR.out)
          obtain ⟨z1, z2⟩ := tree_small t2 t3 (by have := HL1.out; have := H60.out; omega)
          have HZ := toHid8 (And.intro z1 z2)
          have HCA := toHid8 (as_run HRA.out HR.out)
          clear t2 t3 z1 z2
          rcases HCA.out with hca | ⟨⟨y, hca⟩, hlen⟩
          · rw [hca] at q6
            clear hca HCA
            go_wp2_with fail
            with_reducible refine q6.mono ?_
            rintro e w6 ⟨v6, c6, rfl, HE6, _, f⟩
            have q7 := HSE.out v5 v6 R c5 c6 w6 (HE5.out.kept f) HE6.out HZ.out.1 HZ.out.2
            have HF6 := toHid8 (HF5.out.then7 f)
            clear q6 f HF5
            go_wp2_with fail
            with_reducible refine q7.mono ?_
            rintro e w7 ⟨rfl, f⟩
            have HF7 := toHid8 (HF6.out.then7 f)
            clear q7 f HF6
            go_wp2_with fail
            go_ret
            exact ⟨rfl, HF7.out⟩
          · rw [hca] at q6
            have r1 : wrap64 ((n : Int) + (m : Int)) = (n : Int) + (m : Int) := slast_walk_64 (HLen.out ▸ (weight_smE HW.out).2.1) (by have := H60.out; omega)
            have i3 : (1024 : Int) ≤ (n : Int) + (m : Int) := slast_walk_le hlen HLen.out HlX.out
            clear hca HCA hlen
            go_wp2_with fail
            with_reducible refine q6.mono ?_
            rintro e w6 ⟨v6, c6, rfl, HE6, _, f⟩
            have HF6 := toHid8 (HF5.out.then7 f)
            clear q6 f HF5
            go_wp2_with fail
            go_ret
            exact ⟨rfl, HF6.out⟩
        · have he2 : (er == 0) = false := by simpa using he
          go_wp2_with fail
          with_reducible refine q6.mono ?_
          rintro e w6 ⟨v6, c6, rfl, HE6, _, f⟩
          have HF6 := toHid8 (HF5.out.then7 f)
          clear q6 f HF5
          go_wp2_with fail
          go_ret
          exact ⟨rfl, HF6.out⟩

end Go.Proofs.YtpfkkpghgmmijaaGreatDoor
