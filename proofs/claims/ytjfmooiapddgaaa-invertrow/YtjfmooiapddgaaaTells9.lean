/-
  What is proved here: InvertTells answers true. Conditions: its arguments lie in memory, and are no longer than the reach.
-/
import Derived.Test.YtjfmooiapddgaaaAll9
import Derived.Test.YtjfmooiapddgaaaRAll9
import Derived.Test.YtjfmooiapddgaaaSame9
import Derived.Test.YtjfmooiapddgaaaGreat9
namespace Go.Proofs.Ytjfmooiapddgaaa
open Go.RowKit
set_option maxRecDepth 100000

theorem toHid {p : Prop} (h : p) : Hid p := h

theorem inv_len (x : Pr) : (inv x).old.length ≤ x.old.length + x.new.length ∧ (inv x).new.length ≤ x.old.length + x.new.length := by
  unfold inv
  (repeat' split) <;> simp [zeroP]

theorem weight_len {x : Pr} (h : x.weight < 4000) : x.old.length + x.new.length < 4000 := by
  unfold Pr.weight at h
  omega

set_option maxHeartbeats 4000000 in
theorem tells_walk (x : Pr) (vo vn : Value) (va : Option Addr) (n c : Nat) (L : List Pr) (W : World) (hh : ∀ w, Calls Try.prog 5 #[] w fun e w' => e = .returned (.bool true) ∧ Fr None' w w') (ho : StrsAt W vo x.old) (hn : StrsAt W vn x.new) (lo : x.old.length ≤ 140737488355328) (ln : x.new.length ≤ 140737488355328) (hl : L.length = n) (ha : PrsAt W va L) (hs : ∀ x ∈ L, x.old.length ≤ 140737488355328 ∧ x.new.length ≤ 140737488355328) :
    Calls Try.prog 3 #[.agg #[.int .i64 x.kind, .string x.path, .string x.dst, .string x.src, .int .i64 x.pos, vo, vn], .slice va n c] W fun e w' => e = .returned (.bool true) ∧ Fr None' W w' := by
  obtain ⟨pa, ca, hva⟩ := ho.as
  obtain ⟨pb, cb, hvb⟩ := hn.as
  have HO : Hid (StrsAt W vo x.old ∧ StrsAt W vn x.new) := ⟨ho, hn⟩
  have HP : Hid (PrsAt W va L ∧ L.length = n) := ⟨ha, hl⟩
  have cG : ∀ w', Fr None' W w' → Calls Try.prog 6 #[.agg #[.int .i64 x.kind, .string x.path, .string x.dst, .string x.src, .int .i64 x.pos, vo, vn]] w' fun e w'' => GreatP x w' e w'' := fun w' f => pgreat_any x vo vn w' (ho.kept f) (hn.kept f) lo ln
  have cL : ∀ w', Fr None' W w' → Calls Try.prog 7 #[.slice va n c] w' fun e w'' => GreatPs L n w' e w'' := fun w' f => pgreats_any va n c L w' hl (ha.kept f) hs
  have cI : ∀ w', Fr None' W w' → x.weight < 4000 → Calls Try.prog 9 #[.agg #[.int .i64 x.kind, .string x.path, .string x.dst, .string x.src, .int .i64 x.pos, vo, vn]] w' fun e w'' => ∃ po co pn cn, e = .returned (.agg #[.int .i64 (inv x).kind, .string (inv x).path, .string (inv x).dst, .string (inv x).src, .int .i64 (inv x).pos, .slice po (inv x).old.length co, .slice pn (inv x).new.length cn]) ∧ Hid (StrsAt w'' (.slice po (inv x).old.length co) (inv x).old ∧ StrsAt w'' (.slice pn (inv x).new.length cn) (inv x).new) ∧ Fr None' w' w'' := fun w' f hw => by
    have h4 := weight_len hw
    refine (invert_any x vo vn w' (ho.kept f) (hn.kept f) (by omega) (by omega)).mono ?_
    rintro e w'' ⟨v, rfl, ⟨uo, un, rfl, t1, t2, _, _⟩, f2⟩
    obtain ⟨po, co, rfl⟩ := t1.as
    obtain ⟨pn, cn, rfl⟩ := t2.as
    exact ⟨po, co, pn, cn, rfl, ⟨t1, t2⟩, f2⟩
  have cR : ∀ w', Fr None' W w' → Calls Try.prog 10 #[.agg #[.int .i64 x.kind, .string x.path, .string x.dst, .string x.src, .int .i64 x.pos, vo, vn]] w' fun e w'' => ∃ po co pn cn, e = .returned (.agg #[.int .i64 (inv x).kind, .string (inv x).path, .string (inv x).dst, .string (inv x).src, .int .i64 (inv x).pos, .slice po (inv x).old.length co, .slice pn (inv x).new.length cn]) ∧ Hid (StrsAt W (.slice po (inv x).old.length co) (inv x).old ∧ StrsAt W (.slice pn (inv x).new.length cn) (inv x).new) ∧ Fr None' w' w'' := fun w' f => by
    refine (rinv_any x vo vn W w' ho hn).mono ?_
    rintro e w'' ⟨v, rfl, ⟨uo, un, rfl, t1, t2⟩, f2⟩
    obtain ⟨po, co, rfl⟩ := t1.as
    obtain ⟨pn, cn, rfl⟩ := t2.as
    exact ⟨po, co, pn, cn, rfl, ⟨t1, t2⟩, f2⟩
  have HSm : Hid (x.weight < 4000 → ∀ w' po co pn cn qo do' qn dn, StrsAt w' (.slice po (inv x).old.length co) (inv x).old → StrsAt w' (.slice pn (inv x).new.length cn) (inv x).new → StrsAt w' (.slice qo (inv x).old.length do') (inv x).old → StrsAt w' (.slice qn (inv x).new.length dn) (inv x).new → Calls Try.prog 8 #[.agg #[.int .i64 (inv x).kind, .string (inv x).path, .string (inv x).dst, .string (inv x).src, .int .i64 (inv x).pos, .slice po (inv x).old.length co, .slice pn (inv x).new.length cn], .agg #[.int .i64 (inv x).kind, .string (inv x).path, .string (inv x).dst, .string (inv x).src, .int .i64 (inv x).pos, .slice qo (inv x).old.length do', .slice qn (inv x).new.length dn]] w' fun e w'' => e = .returned (.bool true) ∧ Fr None' w' w'') := fun hw w' po co pn cn qo do' qn dn t1 t2 t3 t4 => by
    have h4 := weight_len hw
    have h5 := inv_len x
    exact psame_any (inv x) _ _ _ _ w' t1 t2 t3 t4 (by omega) (by omega)
  have HAll : Hid ((n ≤ 60 ∧ ∀ x ∈ L, x.weight < 4000) → ∀ w', Fr None' W w' → Calls Try.prog 12 #[.slice va n c] w' fun e w'' => ∃ p d, e = .returned (.slice p n d) ∧ Hid (PrsAt w'' p (L.reverse.map inv)) ∧ Fr None' w' w'') := fun hw w' f => by
    refine (all_any va n c L w' hl (ha.kept f) (by omega) (fun x hx => by have := weight_len (hw.2 x hx); omega)).mono ?_
    rintro e w'' ⟨v, V, rfl, hO, f2⟩
    obtain ⟨p, d, e, _, _, hP⟩ := hO.slice
    rw [List.length_map, List.length_reverse, hl] at e
    exact ⟨p, d, by rw [e], hP, f2⟩
  have HRAll : Hid ((n ≤ 60 ∧ ∀ x ∈ L, x.weight < 4000) → ∀ w', Fr None' W w' → Calls Try.prog 13 #[.slice va n c] w' fun e w'' => ∃ p d, e = .returned (.slice p n d) ∧ Hid (PrsAt w'' p (L.reverse.map inv)) ∧ Fr None' w' w'') := fun hw w' f => by
    refine (rall_any va n c L w' hl (ha.kept f) (by omega)).mono ?_
    rintro e w'' ⟨v, V, rfl, hO, f2⟩
    obtain ⟨p, d, e, _, _, hP⟩ := hO.slice
    rw [List.length_map, List.length_reverse, hl] at e
    exact ⟨p, d, by rw [e], hP, f2⟩
  have HSL : Hid ((n ≤ 60 ∧ ∀ x ∈ L, x.weight < 4000) → ∀ w' p d p2 d2, PrsAt w' p (L.reverse.map inv) → PrsAt w' p2 (L.reverse.map inv) → Calls Try.prog 11 #[.slice p n d, .slice p2 n d2] w' fun e w'' => e = .returned (.bool true) ∧ Fr None' w' w'') := fun hw w' p d p2 d2 h1 h2 =>
    psames_any p p2 n d d2 (L.reverse.map inv) w' (by rw [List.length_map, List.length_reverse, hl]) h1 h2 (by omega) (fun y hy => by
      obtain ⟨z, hz, rfl⟩ := List.mem_map.1 hy
      have := weight_len (hw.2 z (List.mem_reverse.1 hz))
      have := inv_len z
      omega)
  subst hva hvb
  obtain ⟨no, hno⟩ : ∃ m, x.old.length = m := ⟨_, rfl⟩
  obtain ⟨nn, hnn⟩ : ∃ m, x.new.length = m := ⟨_, rfl⟩
  rw [hno] at cG cI cR
  rw [hnn] at cG cI cR
  rw [hno, hnn]
  obtain ⟨w1, hw1⟩ : ∃ w1, W.alloc (.cells #[.int .i64 x.kind, .string x.path, .string x.dst, .string x.src, .int .i64 x.pos, .slice pa no ca, .slice pb nn cb] 24) = w1 := ⟨_, rfl⟩
  have F1 : Fr None' W w1 := hw1 ▸ Fr.alloc None' W _
  have B1 : Box w1 W.heap.size (.int .i64 x.kind) (.string x.path) (.string x.dst) (.string x.src) (.int .i64 x.pos) (.slice pa no ca) (.slice pb nn cb) := hw1 ▸ Box.new W _ _ _ _ _ _ _
  have HB : Hid (∀ w', Fr None' w1 w' → Box w' W.heap.size (.int .i64 x.kind) (.string x.path) (.string x.dst) (.string x.src) (.int .i64 x.pos) (.slice pa no ca) (.slice pb nn cb)) := fun w' f => B1.kept f
  have HF1 : Hid (Fr None' W w1) := F1
  have HcG : Hid _ := cG
  have HcL : Hid _ := cL
  have HcI : Hid _ := cI
  have HcR : Hid _ := cR
  have q1 := hh w1
  clear cG cL cI cR hh ho hn lo ln hl ha hs HO HP hno hnn F1 B1
  go_enter Try.func3, Try.ntmps3
  go_wp2_with fail
  with_reducible refine q1.mono ?_
  rintro e w2 ⟨rfl, F2⟩
  have HF2 : Hid (Fr None' w1 w2) := F2
  obtain ⟨a0, a1, a2, a3, a4, a5, a6⟩ := (HB.out w2 F2).cells
  have q2 := HcG.out w2 (HF1.out.then7 F2)
  clear q1 F2
  go_wp2_with fail
  with_reducible refine q2.mono ?_
  rintro e w3 ⟨g, rfl, hg, F3⟩
  have HF3 : Hid (Fr None' w1 w3) := HF2.out.then7 F3
  clear q2 F3 a0 a1 a2 a3 a4 a5 a6
  cases g with
  | true =>
    have HFW : Hid (Fr None' W w3) := HF1.out.then7 HF3.out
    go_wp2_with fail
    go_ret
    exact ⟨rfl, HFW.out⟩
  | false =>
    have HG1 : Hid (x.weight < 4000) := hg rfl
    have q3 := HcL.out w3 (HF1.out.then7 HF3.out)
    clear hg
    go_wp2_with fail
    with_reducible refine q3.mono ?_
    rintro e w4 ⟨g, rfl, hg, F4⟩
    have HF4 : Hid (Fr None' w1 w4) := HF3.out.then7 F4
    clear q3 F4
    cases g with
    | true =>
      have HFW : Hid (Fr None' W w4) := HF1.out.then7 HF4.out
      go_wp2_with fail
      go_ret
      exact ⟨rfl, HFW.out⟩
    | false =>
      have HG2 : Hid (n ≤ 60 ∧ ∀ x ∈ L, x.weight < 4000) := hg rfl
      have HK : Hid (∀ w', Fr None' w4 w' → Fr None' w4 w' ∧ w'.cell? ⟨W.heap.size, 0, none⟩ = some (.int .i64 x.kind) ∧ w'.cell? ⟨W.heap.size, 1, none⟩ = some (.string x.path) ∧ w'.cell? ⟨W.heap.size, 2, none⟩ = some (.string x.dst) ∧ w'.cell? ⟨W.heap.size, 3, none⟩ = some (.string x.src) ∧ w'.cell? ⟨W.heap.size, 4, none⟩ = some (.int .i64 x.pos) ∧ w'.cell? ⟨W.heap.size, 5, none⟩ = some (.slice pa no ca) ∧ w'.cell? ⟨W.heap.size, 6, none⟩ = some (.slice pb nn cb)) := fun w' f => ⟨f, (HB.out w' (HF4.out.then7 f)).cells⟩
      have HW : Hid (∀ w', Fr None' w4 w' → Fr None' W w') := fun w' f => (HF1.out.then7 HF4.out).then7 f
      clear hg
      go_wp2_with fail
      go_region_held3 (fun w' => Fr None' w4 w' ∧ w'.cell? ⟨W.heap.size, 0, none⟩ = some (.int .i64 x.kind) ∧ w'.cell? ⟨W.heap.size, 1, none⟩ = some (.string x.path) ∧ w'.cell? ⟨W.heap.size, 2, none⟩ = some (.string x.dst) ∧ w'.cell? ⟨W.heap.size, 3, none⟩ = some (.string x.src) ∧ w'.cell? ⟨W.heap.size, 4, none⟩ = some (.int .i64 x.pos) ∧ w'.cell? ⟨W.heap.size, 5, none⟩ = some (.slice pa no ca) ∧ w'.cell? ⟨W.heap.size, 6, none⟩ = some (.slice pb nn cb))
        (exact HK.out _ (by first | exact Fr.drew None' w4 | assumption))
        (first
          | (go_at_call 9; with_reducible (refine (HcI.out _ (HW.out _ (Fr.drew None' w4)) HG1.out).mono ?_); rintro e w5 ⟨po, co, pn, cn, rfl, H5, f5⟩; have F5 : Fr None' w4 w5 := (Fr.drew None' w4).then7 f5; clear f5)
          | (go_at_call 10; with_reducible (refine (HcR.out _ (HW.out _ F5)).mono ?_); rintro e w6 ⟨qo, do', qn, dn, rfl, H6, f6⟩; have F6 : Fr None' w4 w6 := F5.then7 f6; have H56 : Hid (Fr None' w5 w6) := toHid f6; clear f6)
          | (go_at_call 8; with_reducible (refine (HSm.out HG1.out _ _ _ _ _ _ _ _ _ (H5.out.1.kept H56.out) (H5.out.2.kept H56.out) (H6.out.1.kept (HW.out _ F6)) (H6.out.2.kept (HW.out _ F6))).mono ?_); rintro e w7 ⟨rfl, f7⟩; have F7 : Fr None' w4 w7 := F6.then7 f7; clear f7)
          | (go_at_call 12; with_reducible (refine (HAll.out HG2.out _ (HW.out _ F7)).mono ?_); rintro e w8 ⟨p8, d8, rfl, H8, f8⟩; have F8 : Fr None' w4 w8 := F7.then7 f8; clear f8)
          | (go_at_call 13; with_reducible (refine (HRAll.out HG2.out _ (HW.out _ F8)).mono ?_); rintro e w9 ⟨p9, d9, rfl, H9, f9⟩; have F9 : Fr None' w4 w9 := F8.then7 f9; have H89 : Hid (Fr None' w8 w9) := toHid f9; clear f9)
          | (go_at_call 11; with_reducible (refine (HSL.out HG2.out _ _ _ _ _ (H8.out.kept H89.out) H9.out).mono ?_); rintro e w10 ⟨rfl, f10⟩; have F10 : Fr None' w4 w10 := F9.then7 f10; clear f10))
      have HFin : Hid (Fr None' W w10) := HW.out _ F10
      clear F5 F6 F7 F8 F9 F10
      go_wp2_with fail
      go_ret
      exact ⟨rfl, HFin.out⟩

end Go.Proofs.Ytjfmooiapddgaaa
