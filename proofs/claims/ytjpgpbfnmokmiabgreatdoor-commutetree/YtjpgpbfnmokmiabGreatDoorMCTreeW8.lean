/-
  What is proved here: CommuteTree answers true. Conditions: its arguments lie in memory, and are no longer than the reach; Commute answers as it does.
-/
import Derived.Test.YtjpgpbfnmokmiabGreatDoorM40Eff8
import Derived.Test.YtjpgpbfnmokmiabGreatDoorM47Past10
namespace Go.Proofs.YtjpgpbfnmokmiabGreatDoor
open Go.RowKit Go.Maps Go.WideMaps
set_option maxRecDepth 100000

set_option maxHeartbeats 16000000 in
theorem ctree_walk (hC : CommuteAll) (va : Option Addr) (n c : Nat) (L : List En) (p : Pr) (vo vn : Value) (q : Pr) (uo un : Value) (W : World) (hl : L.length = n) (ha : EntsAt W va L) (hn : n ≤ 140737488355328) (hx : ∀ x ∈ L, x.lines.length ≤ 140737488355328) (ho : StrsAt W vo p.old) (hw : StrsAt W vn p.new) (lo : p.old.length ≤ 140737488355328) (ln : p.new.length ≤ 140737488355328) (go : StrsAt W uo q.old) (gw : StrsAt W un q.new) (mo : q.old.length ≤ 140737488355328) (mn : q.new.length ≤ 140737488355328) :
    Calls Tryz.prog 6 #[.slice va n c, .agg #[.int .i64 p.kind, .string p.path, .string p.dst, .string p.src, .int .i64 p.pos, vo, vn], .agg #[.int .i64 q.kind, .string q.path, .string q.dst, .string q.src, .int .i64 q.pos, uo, un]] W fun e w' => e = .returned (.bool true) ∧ Fr None' W w' := by
  obtain ⟨pa, ca, rfl, ho'⟩ := ho
  obtain ⟨pb, cb, rfl, hw'⟩ := hw
  obtain ⟨qa, da, rfl, go'⟩ := go
  obtain ⟨qb, db, rfl, gw'⟩ := gw
  have HO := toHid8 (show ∀ w', Fr None' W w' → StrsAt w' (.slice pa p.old.length ca) p.old from fun w' f => StrsAt.kept ⟨pa, ca, rfl, ho'⟩ f)
  have HN := toHid8 (show ∀ w', Fr None' W w' → StrsAt w' (.slice pb p.new.length cb) p.new from fun w' f => StrsAt.kept ⟨pb, cb, rfl, hw'⟩ f)
  have GO := toHid8 (show ∀ w', Fr None' W w' → StrsAt w' (.slice qa q.old.length da) q.old from fun w' f => StrsAt.kept ⟨qa, da, rfl, go'⟩ f)
  have GN := toHid8 (show ∀ w', Fr None' W w' → StrsAt w' (.slice qb q.new.length db) q.new from fun w' f => StrsAt.kept ⟨qb, db, rfl, gw'⟩ f)
  have HG := toHid8 (fun w' (f : Fr None' W w') => great_any va n c L w' hl (ha.kept f) hn hx)
  have HGP := toHid8 (fun w' (f : Fr None' W w') => pgreat_any p _ _ w' (HO.out w' f) (HN.out w' f) lo ln)
  have HGQ := toHid8 (fun w' (f : Fr None' W w') => pgreat_any q _ _ w' (GO.out w' f) (GN.out w' f) mo mn)
  have HA := toHid8 (fun (h1 : weight L < 4000) (ps : List Pr) (h3 : ps.length = 2) (h2 : ∀ x ∈ ps, SmPr x) vb d w' (f : Fr None' W w') (hb : PrsAt w' vb ps) => all8_any va n c L vb 2 d ps 4000 w' hl (ha.kept f) (by have := (weight_smE h1).2.1; omega) (weight_smE h1).1 h3 hb (by omega) (weight_smE h1).2.2 (by have := newTo_sm h2; omega) h2)
  have HK := toHid8 (fun (h2 : p.weight < 4000) (h3 : q.weight < 4000) (a b : Pr) (r : Bool) (hc : commP p q = (a, b, r)) w' (f : Fr None' W w') => (hC p q _ _ _ _ w' (HO.out w' f) (HN.out w' f) (GO.out w' f) (GN.out w' f) (weight_smP h2).small (weight_smP h3).small).mono (fun e w'' k => CommPost.at hc k))
  have HS := toHid8 (fun vx vy (M : List En) cx cy w' (hx : EntsAt w' vx M) (hy : EntsAt w' vy M) (s1 : SmallE M) (s2 : M.length ≤ 90000) => esame_any vx vy M.length cx cy M w' rfl hx hy (by omega) s1)
  unfold GreatPost at HG
  unfold GreatP at HGP HGQ
  unfold CommC at HK
  have HLen := toHid8 hl
  obtain ⟨w1, hw1⟩ : ∃ w1, (W.alloc (.cells #[.int .i64 p.kind, .string p.path, .string p.dst, .string p.src, .int .i64 p.pos, .slice pa p.old.length ca, .slice pb p.new.length cb] 32)).alloc (.cells #[.int .i64 q.kind, .string q.path, .string q.dst, .string q.src, .int .i64 q.pos, .slice qa q.old.length da, .slice qb q.new.length db] 32) = w1 := ⟨_, rfl⟩
  obtain ⟨BP, BQ, F1⟩ := two_new hw1
  have HF1 := toHid8 F1
  have HB := toHid8 BP
  have HD := toHid8 BQ
  have q1 := head_any hC w1
  clear ho' hw' go' gw' ha hl hx F1 BP BQ lo ln mo mn hC
  go_enter Tryz.func6, Tryz.ntmps6
  go_wp2_with fail
  with_reducible refine q1.mono ?_
  rintro e w2 ⟨rfl, f2⟩
  have HF2 := toHid8 (HF1.out.then7 f2)
  have HB2 := toHid8 (HB.out.kept f2)
  have HD2 := toHid8 (HD.out.kept f2)
  have q2 := HG.out w2 HF2.out
  clear q1 f2 HB HF1 HG HD hw1
  go_wp2_with fail
  with_reducible refine q2.mono ?_
  rintro e w3 ⟨g, rfl, hg, f3⟩
  have HF3 := toHid8 (HF2.out.then7 f3)
  have HB3 := toHid8 (HB2.out.kept f3)
  have HD3 := toHid8 (HD2.out.kept f3)
  have HGf := toHid8 hg
  clear q2 f3 hg HB2 HF2 HD2
  cases g with
  | true =>
    go_wp2_with fail
    go_ret
    exact ⟨rfl, HF3.out⟩
  | false =>
    have HW := toHid8 (HGf.out rfl)
    obtain ⟨p0, p1, p2, p3, p4, p5, p6⟩ := HB3.out.cells
    have q3 := HGP.out w3 HF3.out
    clear HGf HGP
    go_wp2_with fail
    with_reducible refine q3.mono ?_
    rintro e w4 ⟨g, rfl, hg, f4⟩
    have HF4 := toHid8 (HF3.out.then7 f4)
    have HB4 := toHid8 (HB3.out.kept f4)
    have HD4 := toHid8 (HD3.out.kept f4)
    have HGf := toHid8 hg
    clear q3 f4 hg HB3 HF3 HD3 p0 p1 p2 p3 p4 p5 p6
    cases g with
    | true =>
      go_wp2_with fail
      go_ret
      exact ⟨rfl, HF4.out⟩
    | false =>
      have HWP := toHid8 (HGf.out rfl)
      obtain ⟨p0, p1, p2, p3, p4, p5, p6⟩ := HD4.out.cells
      have q4 := HGQ.out w4 HF4.out
      clear HGf HGQ
      go_wp2_with fail
      with_reducible refine q4.mono ?_
      rintro e w5 ⟨g, rfl, hg, f5⟩
      have HF5 := toHid8 (HF4.out.then7 f5)
      have HB5 := toHid8 (HB4.out.kept f5)
      have HD5 := toHid8 (HD4.out.kept f5)
      have HGf := toHid8 hg
      clear q4 f5 hg HB4 HF4 HD4 p0 p1 p2 p3 p4 p5 p6
      cases g with
      | true =>
        go_wp2_with fail
        go_ret
        exact ⟨rfl, HF5.out⟩
      | false =>
        have HWQ := toHid8 (HGf.out rfl)
        obtain ⟨p0, p1, p2, p3, p4, p5, p6⟩ := HB5.out.cells
        obtain ⟨s0, s1, s2, s3, s4, s5, s6⟩ := HD5.out.cells
        obtain ⟨w6, hw6⟩ : ∃ w6, w5.alloc (.cells #[.int .i64 p.kind, .string p.path, .string p.dst, .string p.src, .int .i64 p.pos, .slice pa p.old.length ca, .slice pb p.new.length cb, .int .i64 q.kind, .string q.path, .string q.dst, .string q.src, .int .i64 q.pos, .slice qa q.old.length da, .slice qb q.new.length db] 32) = w6 := ⟨_, rfl⟩
        have F6 : Fr None' w5 w6 := hw6 ▸ Fr.alloc None' w5 _
        have HF6 := toHid8 (HF5.out.then7 F6)
        have hsm : ∀ x ∈ [p, q], SmPr x := fun x hx => by
          simp only [List.mem_cons, List.not_mem_nil, or_false] at hx
          rcases hx with rfl | rfl
          · exact weight_smP HWP.out
          · exact weight_smP HWQ.out
        have q5 := HA.out HW.out [p, q] rfl hsm (some ⟨w5.heap.size, 0, none⟩) 2 w6 HF6.out (two_prs hw6 (HO.out w6 HF6.out) (HN.out w6 HF6.out) (GO.out w6 HF6.out) (GN.out w6 HF6.out))
        obtain ⟨r, hr⟩ : ∃ r, allE L [p, q] = r := ⟨_, rfl⟩
        rw [hr] at q5
        obtain ⟨R, er, kk⟩ := r
        have HR := toHid8 hr
        have HB6 := toHid8 (HB5.out.kept F6)
        have HD6 := toHid8 (HD5.out.kept F6)
        clear hr HGf hsm F6 HB5 HD5 HF5
        go_wp2_with fail
        with_reducible refine q5.mono ?_
        rintro e w7 ⟨v7, c7, rfl, HE7, HC7, f7⟩
        have HF7 := toHid8 (HF6.out.then7 f7)
        have HB7 := toHid8 (HB6.out.kept f7)
        have HD7 := toHid8 (HD6.out.kept f7)
        clear q5 f7 HB6 HD6 HF6 p0 p1 p2 p3 p4 p5 p6 s0 s1 s2 s3 s4 s5 s6 hw6
        obtain ⟨cc, hcc⟩ : ∃ cc, commP p q = cc := ⟨_, rfl⟩
        obtain ⟨a, b, rc⟩ := cc
        have HCC := toHid8 hcc
        have q6 := HK.out HWP.out HWQ.out a b rc hcc w7 HF7.out
        obtain ⟨p0, p1, p2, p3, p4, p5, p6⟩ := HB7.out.cells
        obtain ⟨s0, s1, s2, s3, s4, s5, s6⟩ := HD7.out.cells
        clear hcc HK
        go_wp2_with fail
        with_reducible refine q6.mono ?_
        rintro e w8 ⟨po1, pn1, po2, pn2, co1, cn1, co2, cn2, rfl, HSt, f8⟩
        have HE8 := toHid8 (HE7.out.kept f8)
        have HF8 := toHid8 (HF7.out.then7 f8)
        clear q6 f8 HB7 HD7 HE7 HF7 p0 p1 p2 p3 p4 p5 p6 s0 s1 s2 s3 s4 s5 s6
        obtain ⟨w9, hw9⟩ : ∃ w9, (w8.alloc (.cells #[.int .i64 a.kind, .string a.path, .string a.dst, .string a.src, .int .i64 a.pos, .slice po1 a.old.length co1, .slice pn1 a.new.length cn1] 32)).alloc (.cells #[.int .i64 b.kind, .string b.path, .string b.dst, .string b.src, .int .i64 b.pos, .slice po2 b.old.length co2, .slice pn2 b.new.length cn2] 32) = w9 := ⟨_, rfl⟩
        obtain ⟨BA, BB, F9⟩ := two_new hw9
        have HF9 := toHid8 (HF8.out.then7 F9)
        have HE9 := toHid8 (HE8.out.kept F9)
        have HBA := toHid8 BA
        have HBB := toHid8 BB
        have HS9 := toHid8 (show (StrsAt w9 (.slice po1 a.old.length co1) a.old ∧ StrsAt w9 (.slice pn1 a.new.length cn1) a.new) ∧ StrsAt w9 (.slice po2 b.old.length co2) b.old ∧ StrsAt w9 (.slice pn2 b.new.length cn2) b.new from ⟨⟨HSt.out.1.1.kept F9, HSt.out.1.2.kept F9⟩, HSt.out.2.1.kept F9, HSt.out.2.2.kept F9⟩)
        clear BA BB F9 HF8 HE8 HSt
        by_cases he : er = 0
        · subst he
          cases rc with
          | false =>
            go_wp2_with fail
            go_ret
            exact ⟨rfl, HF9.out⟩
          | true =>
            obtain ⟨sma, smb⟩ := comm_sm HCC.out (weight_smP HWP.out) (weight_smP HWQ.out)
            have hsm : ∀ x ∈ [a, b], SmPr x := fun x hx => by
              simp only [List.mem_cons, List.not_mem_nil, or_false] at hx
              rcases hx with rfl | rfl
              · exact sma
              · exact smb
            obtain ⟨t2, t3⟩ := run_sm ((treeR L).1 (all_right HR.out)) (weight_smE HW.out).2.2 (fun x hx => (by
              simp only [List.mem_cons, List.not_mem_nil, or_false] at hx
              rcases hx with rfl | rfl
              · exact weight_smP HWP.out
              · exact weight_smP HWQ.out : SmPr x)) (show runE L [p, q] 0 = (R, 0, kk) from by rw [← runE_good (all_right HR.out)]; exact HR.out)
            obtain ⟨z1, z2⟩ := tree_small t2 t3 (by simp)
            have HZ := toHid8 (And.intro z1 z2)
            have HCA := toHid8 (all_comm HCC.out HR.out)
            obtain ⟨p0, p1, p2, p3, p4, p5, p6⟩ := HBA.out.cells
            obtain ⟨s0, s1, s2, s3, s4, s5, s6⟩ := HBB.out.cells
            obtain ⟨wA, hwA⟩ : ∃ wA, w9.alloc (.cells #[.int .i64 a.kind, .string a.path, .string a.dst, .string a.src, .int .i64 a.pos, .slice po1 a.old.length co1, .slice pn1 a.new.length cn1, .int .i64 b.kind, .string b.path, .string b.dst, .string b.src, .int .i64 b.pos, .slice po2 b.old.length co2, .slice pn2 b.new.length cn2] 32) = wA := ⟨_, rfl⟩
            have FA : Fr None' w9 wA := hwA ▸ Fr.alloc None' w9 _
            have HFA := toHid8 (HF9.out.then7 FA)
            have HEA := toHid8 (HE9.out.kept FA)
            have q7 := HA.out HW.out [a, b] rfl hsm (some ⟨w9.heap.size, 0, none⟩) 2 wA HFA.out (two_prs hwA (HS9.out.1.1.kept FA) (HS9.out.1.2.kept FA) (HS9.out.2.1.kept FA) (HS9.out.2.2.kept FA))
            clear sma smb hsm t2 t3 z1 z2 FA HS9 HBA HBB HR HCC HE9 HF9
            rcases HCA.out with hca | ⟨hca, hlen⟩
            · rw [hca] at q7
              clear hca HCA
              go_wp2_with fail
              with_reducible refine q7.mono ?_
              rintro e wB ⟨vB, cB, rfl, HEB, _, fB⟩
              have q8 := HS.out v7 vB R c7 cB wB (HEA.out.kept fB) HEB.out HZ.out.1 HZ.out.2
              have HFB := toHid8 (HFA.out.then7 fB)
              clear q7 fB
              go_wp2_with fail
              with_reducible refine q8.mono ?_
              rintro e wC ⟨rfl, fC⟩
              have HFC := toHid8 (HFB.out.then7 fC)
              clear q8 fC
              go_wp2_with fail
              go_ret
              exact ⟨rfl, HFC.out⟩
            · rw [hca] at q7
              have i1 : (1023 : Int) ≤ (n : Int) := by have := HLen.out; omega
              clear hca HCA hlen
              go_wp2_with fail
              with_reducible refine q7.mono ?_
              rintro e wB ⟨vB, cB, rfl, HEB, _, fB⟩
              have HFB := toHid8 (HFA.out.then7 fB)
              clear q7 fB
              go_wp2_with fail
              go_ret
              exact ⟨rfl, HFB.out⟩
        · have he2 : (er == 0) = false := by simpa using he
          go_wp2_with fail
          go_ret
          exact ⟨rfl, HF9.out⟩

end Go.Proofs.YtjpgpbfnmokmiabGreatDoor
