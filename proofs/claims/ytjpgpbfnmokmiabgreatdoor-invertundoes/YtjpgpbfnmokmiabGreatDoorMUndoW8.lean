/-
  What is proved here: InvertUndoes answers true. Conditions: its arguments lie in memory, and are no longer than the reach.
-/
import Derived.Test.YtjpgpbfnmokmiabGreatDoorMLaws8
import Derived.Test.YtjpgpbfnmokmiabGreatDoorM42All9
namespace Go.Proofs.YtjpgpbfnmokmiabGreatDoor
open Go.RowKit Go.Maps Go.WideMaps
set_option maxRecDepth 100000

set_option maxHeartbeats 16000000 in
theorem undoes_walk (va : Option Addr) (n c : Nat) (L : List En) (p : Pr) (vo vn : Value) (W : World) (hl : L.length = n) (ha : EntsAt W va L) (hn : n ≤ 140737488355328) (hx : ∀ x ∈ L, x.lines.length ≤ 140737488355328) (ho : StrsAt W vo p.old) (hw : StrsAt W vn p.new) (lo : p.old.length ≤ 140737488355328) (ln : p.new.length ≤ 140737488355328) :
    Calls Tryz.prog 4 #[.slice va n c, .agg #[.int .i64 p.kind, .string p.path, .string p.dst, .string p.src, .int .i64 p.pos, vo, vn]] W fun e w' => e = .returned (.bool true) ∧ Fr None' W w' := by
  obtain ⟨pa, ca, rfl, ho'⟩ := ho
  obtain ⟨pb, cb, rfl, hw'⟩ := hw
  have HO := toHid8 (show ∀ w', Fr None' W w' → StrsAt w' (.slice pa p.old.length ca) p.old from fun w' f => StrsAt.kept ⟨pa, ca, rfl, ho'⟩ f)
  have HN := toHid8 (show ∀ w', Fr None' W w' → StrsAt w' (.slice pb p.new.length cb) p.new from fun w' f => StrsAt.kept ⟨pb, cb, rfl, hw'⟩ f)
  have HE := toHid8 (show ∀ w', Fr None' W w' → EntsAt w' va L from fun w' f => ha.kept f)
  have HG := toHid8 (fun w' (f : Fr None' W w') => great_any va n c L w' hl (ha.kept f) hn hx)
  have HGP := toHid8 (fun w' (f : Fr None' W w') => pgreat_any p _ _ w' (HO.out w' f) (HN.out w' f) lo ln)
  have HA := toHid8 (fun (h1 : weight L < 4000) (h2 : p.weight < 4000) w' (f : Fr None' W w') => apply8_any va n c L p _ _ 4000 w' hl (ha.kept f) (by have := (weight_smE h1).2.1; omega) (weight_smE h1).1 (HO.out w' f) (HN.out w' f) (weight_smE h1).2.2 (by omega) (weight_smP h2))
  have HI := toHid8 (fun (h2 : p.weight < 4000) w' (f : Fr None' W w') => invert_any p _ _ w' (HO.out w' f) (HN.out w' f) (by have := (weight_smP h2).old; omega) (by have := (weight_smP h2).new; omega))
  have HS := toHid8 (fun (h1 : weight L < 4000) vb d w' (f : Fr None' W w') (hb : EntsAt w' vb L) => esame_any vb va n d c L w' hl hb (ha.kept f) (by have := (weight_smE h1).2.1; omega) (weight_smE h1).1)
  unfold GreatPost at HG
  unfold GreatP at HGP
  have HLen := toHid8 hl
  obtain ⟨w1, hw1⟩ : ∃ w1, W.alloc (.cells #[.int .i64 p.kind, .string p.path, .string p.dst, .string p.src, .int .i64 p.pos, .slice pa p.old.length ca, .slice pb p.new.length cb] 32) = w1 := ⟨_, rfl⟩
  have F1 : Fr None' W w1 := hw1 ▸ Fr.alloc None' W _
  have BP : Box w1 W.heap.size (.int .i64 p.kind) (.string p.path) (.string p.dst) (.string p.src) (.int .i64 p.pos) (.slice pa p.old.length ca) (.slice pb p.new.length cb) := hw1 ▸ Box.new W _ _ _ _ _ _ _
  have HF1 := toHid8 F1
  have HB := toHid8 BP
  have q1 := head_any w1
  clear ho' hw' ha hl hx F1 BP lo ln
  go_enter Tryz.func4, Tryz.ntmps4
  go_wp2_with fail
  with_reducible refine q1.mono ?_
  rintro e w2 ⟨rfl, f2⟩
  have HF2 := toHid8 (HF1.out.then7 f2)
  have HB2 := toHid8 (HB.out.kept f2)
  have q2 := HG.out w2 HF2.out
  clear q1 f2 HB HF1 HG
  go_wp2_with fail
  with_reducible refine q2.mono ?_
  rintro e w3 ⟨g, rfl, hg, f3⟩
  have HF3 := toHid8 (HF2.out.then7 f3)
  have HB3 := toHid8 (HB2.out.kept f3)
  have HGf := toHid8 hg
  clear q2 f3 hg HB2 HF2
  cases g with
  | true =>
    go_wp2_with fail
    go_ret
    exact ⟨rfl, HF3.out⟩
  | false =>
    have HW := toHid8 (HGf.out rfl)
    obtain ⟨p0, p1, p2, p3, p4, p5, p6⟩ := HB3.out.cells
    have q3 := HGP.out w3 HF3.out
    clear HGf HGP
    go_wp2_with fail
    with_reducible refine q3.mono ?_
    rintro e w4 ⟨g, rfl, hg, f4⟩
    have HF4 := toHid8 (HF3.out.then7 f4)
    have HB4 := toHid8 (HB3.out.kept f4)
    have HGf := toHid8 hg
    clear q3 f4 hg HB3 HF3 p0 p1 p2 p3 p4 p5 p6
    cases g with
    | true =>
      go_wp2_with fail
      go_ret
      exact ⟨rfl, HF4.out⟩
    | false =>
      have HWP := toHid8 (HGf.out rfl)
      obtain ⟨p0, p1, p2, p3, p4, p5, p6⟩ := HB4.out.cells
      have q4 := HA.out HW.out HWP.out w4 HF4.out
      have HU := toHid8 (fun R er k (h : allE L [p] = (R, er, k)) => h)
      obtain ⟨r, hr⟩ : ∃ r, allE L [p] = r := ⟨_, rfl⟩
      rw [hr] at q4
      obtain ⟨R, er, kk⟩ := r
      have HR := toHid8 hr
      clear hr HA HGf HU
      go_wp2_with fail
      with_reducible refine q4.mono ?_
      rintro e w5 ⟨v5, c5, rfl, HE5, HC5, f5⟩
      have HF5 := toHid8 (HF4.out.then7 f5)
      have HB5 := toHid8 (HB4.out.kept f5)
      clear q4 f5 HB4 HF4 p0 p1 p2 p3 p4 p5 p6
      by_cases he : er = 0
      · subst he
        obtain ⟨_, t2, t3, _, _⟩ := all_stepE HR.out (weight_smE HW.out).2.2 (weight_smP HWP.out)
        obtain ⟨s1, s2⟩ := tree_small t2 t3 (by omega)
        have hU := all_undone HR.out
        have HAp := toHid8 (fun w' (f : Fr None' w5 w') po co pn cn (h1 : StrsAt w' (.slice po (inv p).old.length co) (inv p).old) (h2 : StrsAt w' (.slice pn (inv p).new.length cn) (inv p).new) => apply8_any v5 R.length c5 R (inv p) _ _ (4000 + 4000) w' rfl (HE5.out.kept f) s2 s1 h1 h2 t3 (by omega) (weight_smP HWP.out).inv)
        rw [hU] at HAp
        clear t2 t3 s1 s2 hU HR
        obtain ⟨p0, p1, p2, p3, p4, p5, p6⟩ := HB5.out.cells
        have q5 := HI.out HWP.out w5 HF5.out
        clear HI
        go_wp2_with fail
        with_reducible refine q5.mono ?_
        rintro e w6 ⟨v6, rfl, ⟨vo6, vn6, rfl, t1, t2, _, _⟩, f6⟩
        obtain ⟨po, co, rfl, z1⟩ := t1
        obtain ⟨pn, cn, rfl, z2⟩ := t2
        have q6 := HAp.out w6 f6 po co pn cn ⟨po, co, rfl, z1⟩ ⟨pn, cn, rfl, z2⟩
        have HF6 := toHid8 (HF5.out.then7 f6)
        clear q5 f6 HAp z1 z2 p0 p1 p2 p3 p4 p5 p6 HB5
        generalize inv p = ip at q6 ⊢
        go_wp2_with fail
        with_reducible refine q6.mono ?_
        rintro e w7 ⟨v7, c7, rfl, HE7, HC7, f7⟩
        have HF7 := toHid8 (HF6.out.then7 f7)
        have q7 := HS.out HW.out v7 c7 w7 HF7.out HE7.out
        clear q6 f7
        simp only [HLen.out]
        go_wp2_with fail
        with_reducible refine q7.mono ?_
        rintro e w8 ⟨rfl, f8⟩
        have HF8 := toHid8 (HF7.out.then7 f8)
        clear q7 f8
        go_wp2_with fail
        go_ret
        exact ⟨rfl, HF8.out⟩
      · have he2 : (er == 0) = false := by simpa using he
        go_wp2_with fail
        go_ret
        exact ⟨rfl, HF5.out⟩

end Go.Proofs.YtjpgpbfnmokmiabGreatDoor
