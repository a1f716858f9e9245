/-
  What is proved here: InvertTwice answers true. Conditions: its arguments lie in memory, and are no longer than the reach.
-/
import Derived.Test.YtpmhfigaeoaddaaGreatDoorAll9
import Derived.Test.YtpmhfigaeoaddaaGreatDoorSame9
import Derived.Test.YtpmhfigaeoaddaaGreatDoorGreat9
import Derived.Test.YtpmhfigaeoaddaaGreatDoorHead9
import Derived.Test.YtpmhfigaeoaddaaGreatDoorRule9
import Derived.BigQuiet
namespace Go.Proofs.YtpmhfigaeoaddaaGreatDoor
open Go.RowKit
set_option maxRecDepth 100000
attribute [local irreducible] wpQuiet

/-- The seven cells of a patch at o of block g. -/
def Box7 (w : World) (g o : Nat) (x : Pr) (uo : Option Addr) (ua : Nat) (un : Option Addr) (ub : Nat) : Prop := w.cell? ⟨g, o, none⟩ = some (.int .i64 x.kind) ∧ w.cell? ⟨g, o + 1, none⟩ = some (.string x.path) ∧ w.cell? ⟨g, o + 2, none⟩ = some (.string x.dst) ∧ w.cell? ⟨g, o + 3, none⟩ = some (.string x.src) ∧ w.cell? ⟨g, o + 4, none⟩ = some (.int .i64 x.pos) ∧ w.cell? ⟨g, o + 5, none⟩ = some (.slice uo x.old.length ua) ∧ w.cell? ⟨g, o + 6, none⟩ = some (.slice un x.new.length ub)

/-- A world behind w in which nothing of w has turned. -/
structure FrE (w : World) where
  to : World
  fr : Fr None' w to

theorem toHid {p : Prop} (h : p) : Hid p := h

theorem inv_weight (x : Pr) : (inv x).weight ≤ x.weight := by
  have e0 : (⟨#[]⟩ : ByteArray).size = 0 := rfl
  unfold inv
  (repeat' split) <;> simp [zeroP, Pr.weight, e0] <;> omega

theorem weight_small {x : Pr} (h : x.weight < 4000) : SmallP x := by
  unfold Pr.weight at h
  exact ⟨by omega, by omega, by omega, by omega, by omega⟩

theorem inv_rows {L : List Pr} (h : ∀ x ∈ L, rightP x = true) : (L.reverse.map inv).reverse.map inv = L := by
  have e : (L.reverse.map inv).reverse.map inv = L.map (fun x => inv (inv x)) := by simp [Function.comp_def]
  rw [e]
  conv => rhs; rw [← List.map_id L]
  exact List.map_congr_left (fun x hx => inv_inv (h x hx))

set_option maxHeartbeats 8000000 in
theorem twice_walk (x : Pr) (vo vn : Value) (va : Option Addr) (n c : Nat) (L : List Pr) (W : World) (ho : StrsAt W vo x.old) (hn : StrsAt W vn x.new) (lo : x.old.length ≤ 140737488355328) (ln : x.new.length ≤ 140737488355328) (hl : L.length = n) (ha : PrsAt W va L) (hs : ∀ x ∈ L, x.old.length ≤ 140737488355328 ∧ x.new.length ≤ 140737488355328) :
    Calls Tryz.prog 3 #[.agg #[.int .i64 x.kind, .string x.path, .string x.dst, .string x.src, .int .i64 x.pos, vo, vn], .slice va n c] W fun e w' => e = .returned (.bool true) ∧ Fr None' W w' := by
  obtain ⟨pa, ca, hva⟩ := ho.as
  obtain ⟨pb, cb, hvb⟩ := hn.as
  have cG : ∀ w', Fr None' W w' → Calls Tryz.prog 5 #[.agg #[.int .i64 x.kind, .string x.path, .string x.dst, .string x.src, .int .i64 x.pos, vo, vn]] w' fun e w'' => GreatP x w' e w'' := fun w' f => pgreat_any x vo vn w' (ho.kept f) (hn.kept f) lo ln
  have cL : ∀ w', Fr None' W w' → Calls Tryz.prog 6 #[.slice va n c] w' fun e w'' => GreatPs L n w' e w'' := fun w' f => pgreats_any va n c L w' hl (ha.kept f) hs
  have cI : ∀ w', Fr None' W w' → x.weight < 4000 → Calls Tryz.prog 7 #[.agg #[.int .i64 x.kind, .string x.path, .string x.dst, .string x.src, .int .i64 x.pos, vo, vn]] w' fun e w'' => ∃ po co pn cn, e = .returned (.agg #[.int .i64 (inv x).kind, .string (inv x).path, .string (inv x).dst, .string (inv x).src, .int .i64 (inv x).pos, .slice po (inv x).old.length co, .slice pn (inv x).new.length cn]) ∧ Hid (StrsAt w'' (.slice po (inv x).old.length co) (inv x).old ∧ StrsAt w'' (.slice pn (inv x).new.length cn) (inv x).new) ∧ Fr None' w' w'' := fun w' f hw => by
    have h4 := weight_small hw
    refine (invert_any x vo vn w' (ho.kept f) (hn.kept f) (by have := h4.old; omega) (by have := h4.new; omega)).mono ?_
    rintro e w'' ⟨v, rfl, ⟨uo, un, rfl, t1, t2, _, _⟩, f2⟩
    obtain ⟨po, co, rfl⟩ := t1.as
    obtain ⟨pn, cn, rfl⟩ := t2.as
    exact ⟨po, co, pn, cn, rfl, ⟨t1, t2⟩, f2⟩
  have cR : ∀ w', Fr None' W w' → x.weight < 4000 → Calls Tryz.prog 8 #[.agg #[.int .i64 x.kind, .string x.path, .string x.dst, .string x.src, .int .i64 x.pos, vo, vn]] w' fun e w'' => e = .returned (.bool (rightP x)) ∧ Fr None' w' w'' := fun w' f hw => qright_any x vo vn w' (ho.kept f) (hn.kept f) (weight_small hw)
  have HRQ : Hid (x.weight < 4000 → rightP x = true → ∀ w' po co pn cn, StrsAt w' (.slice po (inv x).old.length co) (inv x).old → StrsAt w' (.slice pn (inv x).new.length cn) (inv x).new → Calls Tryz.prog 8 #[.agg #[.int .i64 (inv x).kind, .string (inv x).path, .string (inv x).dst, .string (inv x).src, .int .i64 (inv x).pos, .slice po (inv x).old.length co, .slice pn (inv x).new.length cn]] w' fun e w'' => e = .returned (.bool true) ∧ Fr None' w' w'') := fun hw hr w' po co pn cn t1 t2 => by
    have h := qright_any (inv x) _ _ w' t1 t2 (weight_small (Nat.lt_of_le_of_lt (inv_weight x) hw))
    rw [right_inv hr] at h
    exact h
  have HIQ : Hid (x.weight < 4000 → rightP x = true → ∀ w' po co pn cn, StrsAt w' (.slice po (inv x).old.length co) (inv x).old → StrsAt w' (.slice pn (inv x).new.length cn) (inv x).new → Calls Tryz.prog 7 #[.agg #[.int .i64 (inv x).kind, .string (inv x).path, .string (inv x).dst, .string (inv x).src, .int .i64 (inv x).pos, .slice po (inv x).old.length co, .slice pn (inv x).new.length cn]] w' fun e w'' => ∃ qo do' qn dn, e = .returned (.agg #[.int .i64 x.kind, .string x.path, .string x.dst, .string x.src, .int .i64 x.pos, .slice qo x.old.length do', .slice qn x.new.length dn]) ∧ Hid (StrsAt w'' (.slice qo x.old.length do') x.old ∧ StrsAt w'' (.slice qn x.new.length dn) x.new) ∧ Fr None' w' w'') := fun hw hr w' po co pn cn t1 t2 => by
    have h4 := weight_small (Nat.lt_of_le_of_lt (inv_weight x) hw)
    refine (invert_any (inv x) _ _ w' t1 t2 (by have := h4.old; omega) (by have := h4.new; omega)).mono ?_
    rintro e w'' ⟨v, rfl, ⟨uo, un, rfl, t3, t4, _, _⟩, f2⟩
    rw [inv_inv hr] at t3 t4 ⊢
    obtain ⟨qo, do', rfl⟩ := t3.as
    obtain ⟨qn, dn, rfl⟩ := t4.as
    exact ⟨qo, do', qn, dn, rfl, ⟨t3, t4⟩, f2⟩
  have HSm : Hid (x.weight < 4000 → ∀ w' qo do' qn dn, Fr None' W w' → StrsAt w' (.slice qo x.old.length do') x.old → StrsAt w' (.slice qn x.new.length dn) x.new → Calls Tryz.prog 9 #[.agg #[.int .i64 x.kind, .string x.path, .string x.dst, .string x.src, .int .i64 x.pos, .slice qo x.old.length do', .slice qn x.new.length dn], .agg #[.int .i64 x.kind, .string x.path, .string x.dst, .string x.src, .int .i64 x.pos, vo, vn]] w' fun e w'' => e = .returned (.bool true) ∧ Fr None' w' w'') := fun hw w' qo do' qn dn f t1 t2 => by
    have h4 := weight_small hw
    exact psame_any x _ _ _ _ w' t1 t2 (ho.kept f) (hn.kept f) (by have := h4.old; omega) (by have := h4.new; omega)
  have HRE : Hid ((n ≤ 60 ∧ ∀ x ∈ L, x.weight < 4000) → ∀ (k : Nat) (hk : k < L.length) w', Fr None' W w' → ∃ g o uo ua un ub, va = some ⟨g, o, none⟩ ∧ Box7 w' g (o + k * 7) L[k] uo ua un ub ∧ Calls Tryz.prog 8 #[.agg #[.int .i64 L[k].kind, .string L[k].path, .string L[k].dst, .string L[k].src, .int .i64 L[k].pos, .slice uo L[k].old.length ua, .slice un L[k].new.length ub]] w' fun e w'' => e = .returned (.bool (rightP L[k])) ∧ Fr None' w' w'') := fun hw k hk w' f => by
    obtain ⟨g, o, e, v1, v2, d0, d1, d2, d3, d4, d5, d6, t1, t2⟩ := (ha.kept f).get hk
    obtain ⟨uo, ua, rfl⟩ := t1.as
    obtain ⟨un, ub, rfl⟩ := t2.as
    exact ⟨g, o, uo, ua, un, ub, e, ⟨d0, d1, d2, d3, d4, d5, d6⟩, qright_any L[k] _ _ w' t1 t2 (weight_small (hw.2 _ (List.getElem_mem hk)))⟩
  have HAll : Hid ((n ≤ 60 ∧ ∀ x ∈ L, x.weight < 4000) → ∀ w', Fr None' W w' → Calls Tryz.prog 11 #[.slice va n c] w' fun e w'' => ∃ p d, e = .returned (.slice p n d) ∧ Hid (PrsAt w'' p (L.reverse.map inv)) ∧ Fr None' w' w'') := fun hw w' f => by
    refine (all_any va n c L w' hl (ha.kept f) (by omega) (fun x hx => by have h := weight_small (hw.2 x hx); have := h.old; have := h.new; omega)).mono ?_
    rintro e w'' ⟨v, V, rfl, hO, f2⟩
    obtain ⟨p, d, e, _, _, hP⟩ := hO.slice
    rw [List.length_map, List.length_reverse, hl] at e
    exact ⟨p, d, by rw [e], hP, f2⟩
  have HAll2 : Hid ((n ≤ 60 ∧ ∀ x ∈ L, x.weight < 4000) → (∀ x ∈ L, rightP x = true) → ∀ w' p d, PrsAt w' p (L.reverse.map inv) → Calls Tryz.prog 11 #[.slice p n d] w' fun e w'' => ∃ p2 d2, e = .returned (.slice p2 n d2) ∧ Hid (PrsAt w'' p2 L) ∧ Fr None' w' w'') := fun hw hr w' p d hp => by
    refine (all_any p n d (L.reverse.map inv) w' (by rw [List.length_map, List.length_reverse, hl]) hp (by omega) (fun y hy => by
      obtain ⟨z, hz, rfl⟩ := List.mem_map.1 hy
      have h := weight_small (Nat.lt_of_le_of_lt (inv_weight z) (hw.2 z (List.mem_reverse.1 hz)))
      have := h.old
      have := h.new
      omega)).mono ?_
    rintro e w'' ⟨v, V, rfl, hO, f2⟩
    obtain ⟨p2, d2, e, _, _, hP⟩ := hO.slice
    rw [inv_rows hr] at e hP
    rw [hl] at e
    exact ⟨p2, d2, by rw [e], hP, f2⟩
  have HSL : Hid ((n ≤ 60 ∧ ∀ x ∈ L, x.weight < 4000) → ∀ w' p d, PrsAt w' p L → Fr None' W w' → Calls Tryz.prog 10 #[.slice p n d, .slice va n c] w' fun e w'' => e = .returned (.bool true) ∧ Fr None' w' w'') := fun hw w' p d h1 f =>
    psames_any p va n d c L w' hl h1 (ha.kept f) (by omega) (fun y hy => by
      have h := weight_small (hw.2 y hy)
      have := h.old
      have := h.new
      omega)
  have HL : Hid (L.length = n) := hl
  subst hva hvb
  obtain ⟨no, hno⟩ : ∃ m, x.old.length = m := ⟨_, rfl⟩
  obtain ⟨nn, hnn⟩ : ∃ m, x.new.length = m := ⟨_, rfl⟩
  rw [hno] at cG cI cR HSm HIQ
  rw [hnn] at cG cI cR HSm HIQ
  rw [hno, hnn]
  obtain ⟨w1, hw1⟩ : ∃ w1, W.alloc (.cells #[.int .i64 x.kind, .string x.path, .string x.dst, .string x.src, .int .i64 x.pos, .slice pa no ca, .slice pb nn cb] 24) = w1 := ⟨_, rfl⟩
  have F1 : Fr None' W w1 := hw1 ▸ Fr.alloc None' W _
  have B1 : Box w1 W.heap.size (.int .i64 x.kind) (.string x.path) (.string x.dst) (.string x.src) (.int .i64 x.pos) (.slice pa no ca) (.slice pb nn cb) := hw1 ▸ Box.new W _ _ _ _ _ _ _
  have HB : Hid (∀ w', Fr None' w1 w' → Box w' W.heap.size (.int .i64 x.kind) (.string x.path) (.string x.dst) (.string x.src) (.int .i64 x.pos) (.slice pa no ca) (.slice pb nn cb)) := fun w' f => B1.kept f
  have HF1 : Hid (Fr None' W w1) := F1
  have HcG : Hid _ := cG
  have HcL : Hid _ := cL
  have HcI : Hid _ := cI
  have HcR : Hid _ := cR
  have q1 := head_any w1
  clear cG cL cI cR ho hn lo ln hl ha hs hno hnn F1 B1
  go_enter Tryz.func3, Tryz.ntmps3
  go_wp2_with fail
  with_reducible refine q1.mono ?_
  rintro e w2 ⟨rfl, F2⟩
  have HF2 : Hid (Fr None' w1 w2) := F2
  obtain ⟨a0, a1, a2, a3, a4, a5, a6⟩ := (HB.out w2 F2).cells
  have q2 := HcG.out w2 (HF1.out.then7 F2)
  clear q1 F2
  go_wp2_with fail
  with_reducible refine q2.mono ?_
  rintro e w3 ⟨g, rfl, hg, F3⟩
  have HF3 : Hid (Fr None' w1 w3) := HF2.out.then7 F3
  clear q2 F3 a0 a1 a2 a3 a4 a5 a6
  cases g with
  | true =>
    have HFW : Hid (Fr None' W w3) := HF1.out.then7 HF3.out
    go_wp2_with fail
    go_ret
    exact ⟨rfl, HFW.out⟩
  | false =>
    have HG1 : Hid (x.weight < 4000) := hg rfl
    have q3 := HcL.out w3 (HF1.out.then7 HF3.out)
    clear hg
    go_wp2_with fail
    with_reducible refine q3.mono ?_
    rintro e w4 ⟨g, rfl, hg, F4⟩
    have HF4 : Hid (Fr None' w1 w4) := HF3.out.then7 F4
    clear q3 F4
    cases g with
    | true =>
      have HFW : Hid (Fr None' W w4) := HF1.out.then7 HF4.out
      go_wp2_with fail
      go_ret
      exact ⟨rfl, HFW.out⟩
    | false =>
      have HG2 : Hid (n ≤ 60 ∧ ∀ x ∈ L, x.weight < 4000) := hg rfl
      have q4 := HcI.out w4 (HF1.out.then7 HF4.out) HG1.out
      obtain ⟨a0, a1, a2, a3, a4, a5, a6⟩ := (HB.out w4 HF4.out).cells
      clear hg
      go_wp2_with fail
      with_reducible refine q4.mono ?_
      rintro e w5 ⟨po, co, pn, cn, rfl, H5, f5⟩
      obtain ⟨w6, hw6⟩ : ∃ w6, w5.alloc (.cells #[.int .i64 (inv x).kind, .string (inv x).path, .string (inv x).dst, .string (inv x).src, .int .i64 (inv x).pos, .slice po (inv x).old.length co, .slice pn (inv x).new.length cn] 24) = w6 := ⟨_, rfl⟩
      have F6 : Fr None' w5 w6 := hw6 ▸ Fr.alloc None' w5 _
      have B6 : Box w6 w5.heap.size (.int .i64 (inv x).kind) (.string (inv x).path) (.string (inv x).dst) (.string (inv x).src) (.int .i64 (inv x).pos) (.slice po (inv x).old.length co) (.slice pn (inv x).new.length cn) := hw6 ▸ Box.new w5 _ _ _ _ _ _ _
      have HF6 : Hid (Fr None' w1 w6) := (HF4.out.then7 f5).then7 F6
      have HB6 : Hid (∀ w', Fr None' w6 w' → Box w' w5.heap.size (.int .i64 (inv x).kind) (.string (inv x).path) (.string (inv x).dst) (.string (inv x).src) (.int .i64 (inv x).pos) (.slice po (inv x).old.length co) (.slice pn (inv x).new.length cn) ∧ Fr None' w5 w') := fun w' f => ⟨B6.kept f, F6.then7 f⟩
      have HS6 : Hid (∀ w', Fr None' w6 w' → Fr None' w6 w' ∧ w'.cell? ⟨W.heap.size, 0, none⟩ = some (.int .i64 x.kind) ∧ w'.cell? ⟨W.heap.size, 1, none⟩ = some (.string x.path) ∧ w'.cell? ⟨W.heap.size, 2, none⟩ = some (.string x.dst) ∧ w'.cell? ⟨W.heap.size, 3, none⟩ = some (.string x.src) ∧ w'.cell? ⟨W.heap.size, 4, none⟩ = some (.int .i64 x.pos) ∧ w'.cell? ⟨W.heap.size, 5, none⟩ = some (.slice pa no ca) ∧ w'.cell? ⟨W.heap.size, 6, none⟩ = some (.slice pb nn cb) ∧ w'.cell? ⟨w5.heap.size, 0, none⟩ = some (.int .i64 (inv x).kind) ∧ w'.cell? ⟨w5.heap.size, 1, none⟩ = some (.string (inv x).path) ∧ w'.cell? ⟨w5.heap.size, 2, none⟩ = some (.string (inv x).dst) ∧ w'.cell? ⟨w5.heap.size, 3, none⟩ = some (.string (inv x).src) ∧ w'.cell? ⟨w5.heap.size, 4, none⟩ = some (.int .i64 (inv x).pos) ∧ w'.cell? ⟨w5.heap.size, 5, none⟩ = some (.slice po (inv x).old.length co) ∧ w'.cell? ⟨w5.heap.size, 6, none⟩ = some (.slice pn (inv x).new.length cn)) := fun w' f => by
        obtain ⟨h0, h1, h2, h3, h4, h5, h6⟩ := (HB.out w' (HF6.out.then7 f)).cells
        obtain ⟨g0, g1, g2, g3, g4, g5, g6⟩ := (HB6.out w' f).1.cells
        exact ⟨f, h0, h1, h2, h3, h4, h5, h6, g0, g1, g2, g3, g4, g5, g6⟩
      have HW : Hid (∀ w', Fr None' w6 w' → Fr None' W w') := fun w' f => (HF1.out.then7 HF6.out).then7 f
      obtain ⟨R, hR⟩ : ∃ R, rightP x = R := ⟨_, rfl⟩
      rw [hR] at HcR
      have HR : Hid (rightP x = R) := hR
      clear q4 f5 F6 B6 a0 a1 a2 a3 a4 a5 a6 hR
      cases R with
      | false =>
        have hIn : Inhabited (FrE w6) := ⟨⟨w6, Fr.refl _ _⟩⟩
        have cQ : ∀ z : FrE w6, Calls Tryz.prog 8 #[.agg #[.int .i64 x.kind, .string x.path, .string x.dst, .string x.src, .int .i64 x.pos, .slice pa no ca, .slice pb nn cb]] z.to fun e w'' => e = .returned (.bool false) ∧ ∃ y : FrE w6, w'' = y.to := fun z => (HcR.out z.to (HW.out _ z.fr) HG1.out).mono fun _ _ h => ⟨h.1, ⟨_, z.fr.then7 h.2⟩, rfl⟩
        have K0 : ∀ z : FrE w6, z.to.cell? ⟨W.heap.size, 0, none⟩ = some (.int .i64 x.kind) := fun z => (HB.out z.to (HF6.out.then7 z.fr)).cells.1
        have K1 : ∀ z : FrE w6, z.to.cell? ⟨W.heap.size, 1, none⟩ = some (.string x.path) := fun z => (HB.out z.to (HF6.out.then7 z.fr)).cells.2.1
        have K2 : ∀ z : FrE w6, z.to.cell? ⟨W.heap.size, 2, none⟩ = some (.string x.dst) := fun z => (HB.out z.to (HF6.out.then7 z.fr)).cells.2.2.1
        have K3 : ∀ z : FrE w6, z.to.cell? ⟨W.heap.size, 3, none⟩ = some (.string x.src) := fun z => (HB.out z.to (HF6.out.then7 z.fr)).cells.2.2.2.1
        have K4 : ∀ z : FrE w6, z.to.cell? ⟨W.heap.size, 4, none⟩ = some (.int .i64 x.pos) := fun z => (HB.out z.to (HF6.out.then7 z.fr)).cells.2.2.2.2.1
        have K5 : ∀ z : FrE w6, z.to.cell? ⟨W.heap.size, 5, none⟩ = some (.slice pa no ca) := fun z => (HB.out z.to (HF6.out.then7 z.fr)).cells.2.2.2.2.2.1
        have K6 : ∀ z : FrE w6, z.to.cell? ⟨W.heap.size, 6, none⟩ = some (.slice pb nn cb) := fun z => (HB.out z.to (HF6.out.then7 z.fr)).cells.2.2.2.2.2.2
        go_wp2_with fail
        refine wp_region_quiet (C := fun w' => ∃ z : FrE w6, w' = z.to) (by kernel_rfl) (by kernel_rfl) ⟨⟨_, Fr.drew None' w6⟩, rfl⟩ ?_
        simp only
        repeat (quiet_step ((go_at_call 8; exact cQ _)))
        refine wpQuiet_nil ?_
        intro w7 hw7
        have F7 : Fr None' w6 w7 := by
          obtain ⟨z, rfl⟩ := hw7
          exact z.fr
        clear hw7 cQ K0 K1 K2 K3 K4 K5 K6
        have HFl : Hid (Fr None' W w7) := HW.out _ F7
        clear F7
        go_wp2_with fail
        go_loopw [7] (fun vi wr => ∃ k : Nat, k ≤ n ∧ vi = .int .i64 k ∧ Hid (∀ x ∈ L.take k, rightP x = true) ∧ Hid (Fr None' W wr)) (fun vi _ => n - (intOf vi).toNat)
        case atStart => exact ⟨0, Nat.zero_le _, rfl, (fun x hx => by simp at hx), HFl.out⟩
        case round =>
          obtain ⟨k, hk, rfl, HT, HFr⟩ := hrel
          by_cases hlt : k < n
          · have hkL : k < L.length := by rw [HL.out]; exact hlt
            obtain ⟨g, o, uo, ua, un, ub, rfl, ⟨d0, d1, d2, d3, d4, d5, d6⟩, q8⟩ := HRE.out HG2.out k hkL wr HFr.out
            have HTk : Hid (L.take (k + 1) = L.take k ++ [L[k]]) := List.take_succ_eq_append_getElem hkL
            generalize L[k] = y at d0 d1 d2 d3 d4 d5 d6 q8 HTk
            obtain ⟨R, hR⟩ : ∃ R, rightP y = R := ⟨_, rfl⟩
            rw [hR] at q8
            have HR : Hid (rightP y = R) := hR
            obtain ⟨yK, yP, yT, yF, yA, yO, yN⟩ := y
            simp only at d0 d1 d2 d3 d4 d5 d6 q8
            have i2 : (k : Int) < (n : Int) := by omega
            have i3 : (0 : Int) ≤ (k : Int) := by omega
            have i4 : (n : Int) ≤ 60 := by have := HG2.out.1; omega
            clear hR
            go_wp2_with fail
            with_reducible refine q8.mono ?_
            rintro e w9 ⟨rfl, f9⟩
            have HF9 : Hid (Fr None' W w9) := HFr.out.then7 f9
            clear q8 f9 d0 d1 d2 d3 d4 d5 d6
            cases R with
            | false =>
              go_wp2_with fail
              go_ret
              exact ⟨rfl, HF9.out⟩
            | true =>
              have HT2 : Hid (∀ x ∈ L.take (k + 1), rightP x = true) := fun x hx => by
                rw [HTk.out] at hx
                rcases List.mem_append.1 hx with hx | hx
                · exact HT.out x hx
                · rw [List.mem_singleton.1 hx]; exact HR.out
              go_wp2_with fail
              exact ⟨⟨k + 1, by omega, by go_num, HT2.out, HF9.out⟩, by simp [intOf]; omega⟩
          · have e : k = n := by omega
            subst e
            have HAllR : Hid (∀ x ∈ L, rightP x = true) := fun x hx => HT.out x (by rw [List.take_of_length_le (by rw [HL.out]; exact Nat.le_refl _)]; exact hx)
            have q10 := HAll.out HG2.out wr HFr.out
            clear hlt
            go_wp2_with fail
            with_reducible refine q10.mono ?_
            rintro e w10 ⟨p10, d10, rfl, HP10, f10⟩
            have HF10 : Hid (Fr None' W w10) := HFr.out.then7 f10
            have q11 := HAll2.out HG2.out HAllR.out w10 p10 d10 HP10.out
            clear q10 f10
            go_wp2_with fail
            with_reducible refine q11.mono ?_
            rintro e w11 ⟨p11, d11, rfl, HP11, f11⟩
            have HF11 : Hid (Fr None' W w11) := HF10.out.then7 f11
            have q12 := HSL.out HG2.out w11 p11 d11 HP11.out HF11.out
            clear q11 f11
            go_wp2_with fail
            with_reducible refine q12.mono ?_
            rintro e w12 ⟨rfl, f12⟩
            have HF12 : Hid (Fr None' W w12) := HF11.out.then7 f12
            clear q12 f12
            go_wp2_with fail
            go_ret
            exact ⟨rfl, HF12.out⟩
      | true =>
        go_wp2_with fail
        go_region_held3 (fun w' => Fr None' w6 w' ∧ w'.cell? ⟨W.heap.size, 0, none⟩ = some (.int .i64 x.kind) ∧ w'.cell? ⟨W.heap.size, 1, none⟩ = some (.string x.path) ∧ w'.cell? ⟨W.heap.size, 2, none⟩ = some (.string x.dst) ∧ w'.cell? ⟨W.heap.size, 3, none⟩ = some (.string x.src) ∧ w'.cell? ⟨W.heap.size, 4, none⟩ = some (.int .i64 x.pos) ∧ w'.cell? ⟨W.heap.size, 5, none⟩ = some (.slice pa no ca) ∧ w'.cell? ⟨W.heap.size, 6, none⟩ = some (.slice pb nn cb) ∧ w'.cell? ⟨w5.heap.size, 0, none⟩ = some (.int .i64 (inv x).kind) ∧ w'.cell? ⟨w5.heap.size, 1, none⟩ = some (.string (inv x).path) ∧ w'.cell? ⟨w5.heap.size, 2, none⟩ = some (.string (inv x).dst) ∧ w'.cell? ⟨w5.heap.size, 3, none⟩ = some (.string (inv x).src) ∧ w'.cell? ⟨w5.heap.size, 4, none⟩ = some (.int .i64 (inv x).pos) ∧ w'.cell? ⟨w5.heap.size, 5, none⟩ = some (.slice po (inv x).old.length co) ∧ w'.cell? ⟨w5.heap.size, 6, none⟩ = some (.slice pn (inv x).new.length cn))
          (exact HS6.out _ (by first | exact Fr.drew None' w6 | assumption))
          (first
            | (go_at_call 8; with_reducible (refine (HcR.out _ (HW.out _ (Fr.drew None' w6)) HG1.out).mono ?_); rintro e w7 ⟨rfl, f7⟩; have F7 : Fr None' w6 w7 := (Fr.drew None' w6).then7 f7; clear f7)
            | (go_at_call 8; with_reducible (refine (HRQ.out HG1.out HR.out _ _ _ _ _ (H5.out.1.kept (HB6.out _ F7).2) (H5.out.2.kept (HB6.out _ F7).2)).mono ?_); rintro e w8 ⟨rfl, f8⟩; have F8 : Fr None' w6 w8 := F7.then7 f8; clear f8)
            | (go_at_call 7; with_reducible (refine (HIQ.out HG1.out HR.out _ _ _ _ _ (H5.out.1.kept (HB6.out _ F8).2) (H5.out.2.kept (HB6.out _ F8).2)).mono ?_); rintro e w9 ⟨qo, do', qn, dn, rfl, H9, f9⟩; have F9 : Fr None' w6 w9 := F8.then7 f9; clear f9)
            | (go_at_call 9; with_reducible (refine (HSm.out HG1.out _ _ _ _ _ (HW.out _ F9) H9.out.1 H9.out.2).mono ?_); rintro e w10 ⟨rfl, f10⟩; have F10 : Fr None' w6 w10 := F9.then7 f10; clear f10))
        have HFl : Hid (Fr None' W w10) := HW.out _ F10
        clear F7 F8 F9 F10
        go_wp2_with fail
        go_loopw [7] (fun vi wr => ∃ k : Nat, k ≤ n ∧ vi = .int .i64 k ∧ Hid (∀ x ∈ L.take k, rightP x = true) ∧ Hid (Fr None' W wr)) (fun vi _ => n - (intOf vi).toNat)
        case atStart => exact ⟨0, Nat.zero_le _, rfl, (fun x hx => by simp at hx), HFl.out⟩
        case round =>
          obtain ⟨k, hk, rfl, HT, HFr⟩ := hrel
          by_cases hlt : k < n
          · have hkL : k < L.length := by rw [HL.out]; exact hlt
            obtain ⟨g, o, uo, ua, un, ub, rfl, ⟨d0, d1, d2, d3, d4, d5, d6⟩, q8⟩ := HRE.out HG2.out k hkL wr HFr.out
            have HTk : Hid (L.take (k + 1) = L.take k ++ [L[k]]) := List.take_succ_eq_append_getElem hkL
            generalize L[k] = y at d0 d1 d2 d3 d4 d5 d6 q8 HTk
            obtain ⟨R, hR⟩ : ∃ R, rightP y = R := ⟨_, rfl⟩
            rw [hR] at q8
            have HR : Hid (rightP y = R) := hR
            obtain ⟨yK, yP, yT, yF, yA, yO, yN⟩ := y
            simp only at d0 d1 d2 d3 d4 d5 d6 q8
            have i2 : (k : Int) < (n : Int) := by omega
            have i3 : (0 : Int) ≤ (k : Int) := by omega
            have i4 : (n : Int) ≤ 60 := by have := HG2.out.1; omega
            clear hR
            go_wp2_with fail
            with_reducible refine q8.mono ?_
            rintro e w9 ⟨rfl, f9⟩
            have HF9 : Hid (Fr None' W w9) := HFr.out.then7 f9
            clear q8 f9 d0 d1 d2 d3 d4 d5 d6
            cases R with
            | false =>
              go_wp2_with fail
              go_ret
              exact ⟨rfl, HF9.out⟩
            | true =>
              have HT2 : Hid (∀ x ∈ L.take (k + 1), rightP x = true) := fun x hx => by
                rw [HTk.out] at hx
                rcases List.mem_append.1 hx with hx | hx
                · exact HT.out x hx
                · rw [List.mem_singleton.1 hx]; exact HR.out
              go_wp2_with fail
              exact ⟨⟨k + 1, by omega, by go_num, HT2.out, HF9.out⟩, by simp [intOf]; omega⟩
          · have e : k = n := by omega
            subst e
            have HAllR : Hid (∀ x ∈ L, rightP x = true) := fun x hx => HT.out x (by rw [List.take_of_length_le (by rw [HL.out]; exact Nat.le_refl _)]; exact hx)
            have q10 := HAll.out HG2.out wr HFr.out
            clear hlt
            go_wp2_with fail
            with_reducible refine q10.mono ?_
            rintro e w10 ⟨p10, d10, rfl, HP10, f10⟩
            have HF10 : Hid (Fr None' W w10) := HFr.out.then7 f10
            have q11 := HAll2.out HG2.out HAllR.out w10 p10 d10 HP10.out
            clear q10 f10
            go_wp2_with fail
            with_reducible refine q11.mono ?_
            rintro e w11 ⟨p11, d11, rfl, HP11, f11⟩
            have HF11 : Hid (Fr None' W w11) := HF10.out.then7 f11
            have q12 := HSL.out HG2.out w11 p11 d11 HP11.out HF11.out
            clear q11 f11
            go_wp2_with fail
            with_reducible refine q12.mono ?_
            rintro e w12 ⟨rfl, f12⟩
            have HF12 : Hid (Fr None' W w12) := HF11.out.then7 f12
            clear q12 f12
            go_wp2_with fail
            go_ret
            exact ⟨rfl, HF12.out⟩

end Go.Proofs.YtpmhfigaeoaddaaGreatDoor
