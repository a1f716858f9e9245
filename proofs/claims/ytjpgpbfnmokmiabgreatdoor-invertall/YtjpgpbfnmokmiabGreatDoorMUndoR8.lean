/-
  What is proved here: InvertAll answers true. Conditions: its arguments lie in memory, and are no longer than the reach.
-/
import Derived.Test.YtjpgpbfnmokmiabGreatDoorMLaws8
import Derived.Test.YtjpgpbfnmokmiabGreatDoorM42All9
namespace Go.Proofs.YtjpgpbfnmokmiabGreatDoor
open Go.RowKit Go.Maps Go.WideMaps
set_option maxRecDepth 100000

set_option maxHeartbeats 16000000 in
theorem undone_walk (va : Option Addr) (n c : Nat) (L : List En) (vb : Option Addr) (m d : Nat) (ps : List Pr) (W : World) (hl : L.length = n) (ha : EntsAt W va L) (hn : n ≤ 140737488355328) (hx : ∀ x ∈ L, x.lines.length ≤ 140737488355328) (hm : ps.length = m) (hb : PrsAt W vb ps) (_ : vb = none → d = 0) (hs : ∀ x ∈ ps, x.old.length ≤ 140737488355328 ∧ x.new.length ≤ 140737488355328) :
    Calls Tryz.prog 5 #[.slice va n c, .slice vb m d] W fun e w' => e = .returned (.bool true) ∧ Fr None' W w' := by
  have HE := toHid8 (show ∀ w', Fr None' W w' → EntsAt w' va L from fun w' f => ha.kept f)
  have HG := toHid8 (fun w' (f : Fr None' W w') => great_any va n c L w' hl (ha.kept f) hn hx)
  have HGP := toHid8 (fun w' (f : Fr None' W w') => pgreats_any vb m d ps w' hm (hb.kept f) hs)
  have HA := toHid8 (fun (h1 : weight L < 4000) (h2 : m ≤ 60 ∧ ∀ x ∈ ps, x.weight < 4000) w' (f : Fr None' W w') => all8_any va n c L vb m d ps 4000 w' hl (ha.kept f) (by have := (weight_smE h1).2.1; omega) (weight_smE h1).1 hm (hb.kept f) (by omega) (weight_smE h1).2.2 (by have := newTo_sm (fun p hp => weight_smP (h2.2 p hp)); omega) (fun p hp => weight_smP (h2.2 p hp)))
  have HI := toHid8 (fun (h2 : m ≤ 60 ∧ ∀ x ∈ ps, x.weight < 4000) w' (f : Fr None' W w') => all_any vb m d ps w' hm (hb.kept f) (by omega) (fun x hx => by have h3 := weight_smP (h2.2 x hx); have := h3.old; have := h3.new; omega))
  have HS := toHid8 (fun (h1 : weight L < 4000) vb d w' (f : Fr None' W w') (hb : EntsAt w' vb L) => esame_any vb va n d c L w' hl hb (ha.kept f) (by have := (weight_smE h1).2.1; omega) (weight_smE h1).1)
  unfold GreatPost at HG
  unfold GreatPs at HGP
  have HLen := toHid8 hl
  have HLm := toHid8 hm
  have q1 := head_any W
  clear ha hl hx hb hs hm
  go_enter Tryz.func5, Tryz.ntmps5
  go_wp2_with fail
  with_reducible refine q1.mono ?_
  rintro e w2 ⟨rfl, f2⟩
  have HF2 := toHid8 f2
  have q2 := HG.out w2 HF2.out
  clear q1 f2 HG
  go_wp2_with fail
  with_reducible refine q2.mono ?_
  rintro e w3 ⟨g, rfl, hg, f3⟩
  have HF3 := toHid8 (HF2.out.then7 f3)
  have HGf := toHid8 hg
  clear q2 f3 hg HF2
  cases g with
  | true =>
    go_wp2_with fail
    go_ret
    exact ⟨rfl, HF3.out⟩
  | false =>
    have HW := toHid8 (HGf.out rfl)
    have q3 := HGP.out w3 HF3.out
    clear HGf HGP
    go_wp2_with fail
    with_reducible refine q3.mono ?_
    rintro e w4 ⟨g, rfl, hg, f4⟩
    have HF4 := toHid8 (HF3.out.then7 f4)
    have HGf := toHid8 hg
    clear q3 f4 hg HF3
    cases g with
    | true =>
      go_wp2_with fail
      go_ret
      exact ⟨rfl, HF4.out⟩
    | false =>
      have HWP := toHid8 (HGf.out rfl)
      have q4 := HA.out HW.out HWP.out w4 HF4.out
      obtain ⟨r, hr⟩ : ∃ r, allE L ps = r := ⟨_, rfl⟩
      rw [hr] at q4
      obtain ⟨R, er, kk⟩ := r
      have HR := toHid8 hr
      clear hr HA HGf
      go_wp2_with fail
      with_reducible refine q4.mono ?_
      rintro e w5 ⟨v5, c5, rfl, HE5, HC5, f5⟩
      have HF5 := toHid8 (HF4.out.then7 f5)
      clear q4 f5 HF4
      by_cases he : er = 0
      · subst he
        have hsm : ∀ p ∈ ps, SmPr p := fun p hp => weight_smP (HWP.out.2 p hp)
        obtain ⟨t2, t3, hU⟩ := all_many HR.out (weight_smE HW.out).2.2 hsm
        have hlm := HLm.out
        have hm60 := HWP.out.1
        obtain ⟨s1, s2⟩ := tree_small t2 t3 (by omega)
        have hrl : (ps.reverse.map inv).length = m := by rw [List.length_map, List.length_reverse, hlm]
        have HAp := toHid8 (fun w' (f : Fr None' w5 w') va d (h1 : PrsAt w' va (ps.reverse.map inv)) => all8_any v5 R.length c5 R va m d (ps.reverse.map inv) (4000 + 4000 * ps.length) w' rfl (HE5.out.kept f) s2 s1 hrl h1 (by omega) t3 (by have := newTo_sm (inv_sms hsm); rw [hrl] at this ⊢; omega) (inv_sms hsm))
        rw [hU] at HAp
        have HRl := toHid8 hrl
        clear t2 t3 s1 s2 hU HR hsm hlm hm60 hrl
        have q5 := HI.out HWP.out w5 HF5.out
        clear HI
        go_wp2_with fail
        with_reducible refine q5.mono ?_
        rintro e w6 ⟨v6, V6, rfl, hO6, f6⟩
        obtain ⟨va6, c6, rfl, _, _, hP6⟩ := hO6.slice
        have q6 := HAp.out w6 f6 va6 c6 hP6
        have HF6 := toHid8 (HF5.out.then7 f6)
        rw [HRl.out]
        clear q5 f6 HAp hO6 hP6
        go_wp2_with fail
        with_reducible refine q6.mono ?_
        rintro e w7 ⟨v7, c7, rfl, HE7, HC7, f7⟩
        have HF7 := toHid8 (HF6.out.then7 f7)
        have q7 := HS.out HW.out v7 c7 w7 HF7.out HE7.out
        clear q6 f7
        simp only [HLen.out]
        go_wp2_with fail
        with_reducible refine q7.mono ?_
        rintro e w8 ⟨rfl, f8⟩
        have HF8 := toHid8 (HF7.out.then7 f8)
        clear q7 f8
        go_wp2_with fail
        go_ret
        exact ⟨rfl, HF8.out⟩
      · have he2 : (er == 0) = false := by simpa using he
        go_wp2_with fail
        go_ret
        exact ⟨rfl, HF5.out⟩

end Go.Proofs.YtjpgpbfnmokmiabGreatDoor
