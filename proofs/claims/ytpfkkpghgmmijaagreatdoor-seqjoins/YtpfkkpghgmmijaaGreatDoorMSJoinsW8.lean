/-
  What is proved here: SeqJoins answers true. Conditions: its arguments lie in memory, and are no longer than the reach; Commute answers as it does.
-/
import Derived.Test.YtpfkkpghgmmijaaGreatDoorM44SeqP8
namespace Go.Proofs.YtpfkkpghgmmijaaGreatDoor
open Go.RowKit Go.Maps Go.WideMaps
set_option maxRecDepth 100000

set_option maxHeartbeats 16000000 in
theorem sjoins_walk (hC : CommuteAll) (va : Option Addr) (n c : Nat) (L : List En) (vb : Option Addr) (m d : Nat) (ps : List Pr) (W : World) (hl : L.length = n) (ha : EntsAt W va L) (hn : n ≤ 140737488355328) (hx : ∀ x ∈ L, x.lines.length ≤ 140737488355328) (hm1 : ps.length = m) (hb1 : PrsAt W vb ps) (hd1 : vb = none → d = 0) (hs1 : ∀ x ∈ ps, x.old.length ≤ 140737488355328 ∧ x.new.length ≤ 140737488355328) (hr1 : m ≤ d ∧ d ≤ 9223372036854775807) :
    Calls Tryz.prog 6 #[.slice va n c, .slice vb m d] W fun e w' => e = .returned (.bool true) ∧ Fr None' W w' := by
  have HG := toHid8 (fun w' (f : Fr None' W w') => great_any va n c L w' hl (ha.kept f) hn hx)
  unfold GreatPost at HG
  have HLen := toHid8 hl
  have HAllE := toHid8 (fun (h1 : weight L < 4000) (qs : List Pr) (k : Nat) (h3 : qs.length = k) (h4 : k ≤ 200) (h2 : ∀ x ∈ qs, SmPr x) vb d w' (f : Fr None' W w') (hb : PrsAt w' vb qs) => all8_any va n c L vb k d qs 4000 w' hl (ha.kept f) (by have := (weight_smE h1).2.1; omega) (weight_smE h1).1 h3 hb (by omega) (weight_smE h1).2.2 (by have := newTo_sm h2; omega) h2)
  have HSE := toHid8 (fun vx vy (M : List En) cx cy w' (hx : EntsAt w' vx M) (hy : EntsAt w' vy M) (s1 : SmallE M) (s2 : M.length ≤ 90000) => esame_any vx vy M.length cx cy M w' rfl hx hy (by omega) s1)
  have HG1 := toHid8 (fun w' (f : Fr None' W w') => pgreats_any vb m d ps w' hm1 (hb1.kept f) hs1)
  unfold GreatPs at HG1
  have HL1 := toHid8 hm1
  have HR1 := toHid8 (show (∀ w', Fr None' W w' → PrsAt w' vb ps) ∧ (vb = none → d = 0) from ⟨fun w' f => hb1.kept f, hd1⟩)
  have HCo := toHid8 (fun (h3 : m ≤ 60 ∧ ∀ x ∈ ps, x.weight < 4000) w' (f : Fr None' W w') => coalesce_any vb m d ps w' hm1 (hb1.kept f) hd1 hr1.1 hr1.2 (by omega) (fun y hy => (weight_smP (h3.2 y hy)).small))
  have HF0 := toHid8 (Fr.refl None' W)
  have q1 := shead_any hC W
  clear ha hl hx hC hm1 hb1 hd1 hs1 hr1
  go_enter Tryz.func6, Tryz.ntmps6
  go_wp2_with fail
  with_reducible refine q1.mono ?_
  rintro e w1 ⟨rfl, f⟩
  have HF1 := toHid8 (HF0.out.then7 f)
  clear q1 f HF0 
  have q2 := HG.out w1 HF1.out
  clear HG
  go_wp2_with fail
  with_reducible refine q2.mono ?_
  rintro e w2 ⟨g, rfl, hg, f⟩
  have HF2 := toHid8 (HF1.out.then7 f)
  have HGf := toHid8 hg
  clear q2 f hg HF1
  cases g with
  | true =>
    go_wp2_with fail
    go_ret
    exact ⟨rfl, HF2.out⟩
  | false =>
    have HW := toHid8 (HGf.out rfl)
    have q3 := HG1.out w2 HF2.out
    clear HGf HG1
    go_wp2_with fail
    with_reducible refine q3.mono ?_
    rintro e w3 ⟨g, rfl, hg, f⟩
    have HF3 := toHid8 (HF2.out.then7 f)
    have HGf := toHid8 hg
    clear q3 f hg HF2
    cases g with
    | true =>
      go_wp2_with fail
      go_ret
      exact ⟨rfl, HF3.out⟩
    | false =>
      have HWQ := toHid8 (HGf.out rfl)
      have q4 := HCo.out HWQ.out w3 HF3.out
      clear HGf HCo
      go_wp2_with fail
      with_reducible refine q4.mono ?_
      rintro e w4 ⟨px, nx, cx, rfl, H4⟩
      obtain ⟨V4, O4, hnx, f, hsX⟩ := H4.out
      obtain ⟨px', cx', ex, hcx, hpx, PX⟩ := O4.slice
      obtain ⟨rfl, -, rfl⟩ : px = px' ∧ nx = (coalP ps).length ∧ cx = cx' := by simpa using ex
      have hmax := O4.max
      have HPX := toHid8 PX
      have HX := toHid8 (show (coalP ps).length ≤ cx ∧ (px = none → cx = 0) ∧ cx ≤ 9223372036854775807 ∧ (∀ x ∈ coalP ps, SmallP x) from ⟨hcx, hpx, hmax, hsX⟩)
      have HF4 := toHid8 (HF3.out.then7 f)
      have hsm : ∀ x ∈ ps, SmPr x := fun x hx => weight_smP (HWQ.out.2 x hx)
      have Hsm := toHid8 hsm
      have HsX := toHid8 (coal_sm hsm)
      have hle : nx ≤ m := by rw [← hnx, ← HL1.out]; exact coal_len ps
      have h60 : m ≤ 60 := HWQ.out.1
      have Hnx := toHid8 hnx
      have H60 := toHid8 (And.intro hle h60)
      have q5 := coalesce_any px nx cx (coalP ps) w4 hnx PX hpx (by omega) hmax (by omega) hsX
      rw [coal_twice] at q5
      have i1 : (nx : Int) ≤ (m : Int) := by omega
      clear q4 H4 O4 f hsX ex hcx hpx PX hmax hsm hle h60 HF3 hnx V4
      go_wp2_with fail
      with_reducible refine q5.mono ?_
      rintro e w5 ⟨py, ny, cy, rfl, H5⟩
      obtain ⟨V5, O5, hny, f, _⟩ := H5.out
      obtain ⟨py', cy', ey, _, _, PY⟩ := O5.slice
      obtain ⟨rfl, -, rfl⟩ : py = py' ∧ ny = (coalP ps).length ∧ cy = cy' := by simpa using ey
      obtain rfl : ny = nx := by rw [← hny, ← Hnx.out]
      have HF5 := toHid8 (HF4.out.then7 f)
      have HPX5 := toHid8 (HPX.out.kept f)
      have q6 := psames_any py px ny cy cx (coalP ps) w5 Hnx.out PY HPX5.out (by have := H60.out; omega) (fun x hx => by have h1 := (HX.out.2.2.2 x hx).old; have h2 := (HX.out.2.2.2 x hx).new; omega)
      clear q5 H5 O5 hny f ey PY HF4 HPX V5
      go_wp2_with fail
      with_reducible refine q6.mono ?_
      rintro e w6 ⟨rfl, f⟩
      have HF6 := toHid8 (HF5.out.then7 f)
      have HPX6 := toHid8 (HPX5.out.kept f)
      clear q6 f HF5 HPX5
      have q7 := HAllE.out HW.out ps m HL1.out (by have := H60.out; omega) Hsm.out vb d w6 HF6.out (HR1.out.1 w6 HF6.out)
      obtain ⟨r, hr⟩ : ∃ r, allE L ps = r := ⟨_, rfl⟩
      rw [hr] at q7
      obtain ⟨R, er, kk⟩ := r
      have HR := toHid8 hr
      clear hr
      go_wp2_with fail
      with_reducible refine q7.mono ?_
      rintro e w7 ⟨v7, c7, rfl, HE7, _, f⟩
      have HF7 := toHid8 (HF6.out.then7 f)
      have HPX7 := toHid8 (HPX6.out.kept f)
      clear q7 f HF6 HPX6
      have q8 := HAllE.out HW.out (coalP ps) ny Hnx.out (by have := H60.out; omega) HsX.out px cx w7 HF7.out HPX7.out
      by_cases he : er = 0
      · subst he
        obtain ⟨t2, t3⟩ := run_sm ((treeR L).1 (all_right HR.out)) (weight_smE HW.out).2.2 Hsm.out (show runE L ps 0 = (R, 0, kk) from by rw [← runE_good (all_right HR.out)]; exact HR.out)
        obtain ⟨z1, z2⟩ := tree_small t2 t3 (by have := HL1.out; have := H60.out; omega)
        have HZ := toHid8 (And.intro z1 z2)
        rw [all_coal HR.out] at q8
        clear t2 t3 z1 z2
        go_wp2_with fail
        with_reducible refine q8.mono ?_
        rintro e w8 ⟨v8, c8, rfl, HE8, _, f⟩
        have q9 := HSE.out v7 v8 R c7 c8 w8 (HE7.out.kept f) HE8.out HZ.out.1 HZ.out.2
        have HF8 := toHid8 (HF7.out.then7 f)
        clear q8 f HF7
        go_wp2_with fail
        with_reducible refine q9.mono ?_
        rintro e w9 ⟨rfl, f⟩
        have HF9 := toHid8 (HF8.out.then7 f)
        clear q9 f HF8
        go_wp2_with fail
        go_ret
        exact ⟨rfl, HF9.out⟩
      · have he2 : (er == 0) = false := by simpa using he
        go_wp2_with fail
        with_reducible refine q8.mono ?_
        rintro e w8 ⟨v8, c8, rfl, HE8, _, f⟩
        have HF8 := toHid8 (HF7.out.then7 f)
        clear q8 f HF7
        go_wp2_with fail
        go_ret
        exact ⟨rfl, HF8.out⟩

end Go.Proofs.YtpfkkpghgmmijaaGreatDoor
