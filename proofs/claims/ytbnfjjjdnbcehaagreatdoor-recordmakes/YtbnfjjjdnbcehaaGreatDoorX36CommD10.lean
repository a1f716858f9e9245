/- What is proved here: contracts for RecordMakes. Conditions: as named. -/
import Derived.Test.YtbnfjjjdnbcehaaGreatDoorX30RecC12
import Derived.Test.YtbnfjjjdnbcehaaGreatDoorXRule8
import Derived.Conc.MuLone
import Derived.Test.YtbnfjjjdnbcehaaGreatDoorX26RFindE
import Derived.Test.YtbnfjjjdnbcehaaGreatDoorX12Clone11
import Derived.Test.YtbnfjjjdnbcehaaGreatDoorX21Small10
import Derived.Test.YtbnfjjjdnbcehaaGreatDoorX18PRunes
set_option maxHeartbeats 16000000
namespace Go.Proofs.YtbnfjjjdnbcehaaGreatDoor
open Go.RowKit
set_option maxRecDepth 100000
attribute [local go_sem] run_store_func9 run_store_nil9
end Go.Proofs.YtbnfjjjdnbcehaaGreatDoor
namespace Go.Proofs.YtbnfjjjdnbcehaaGreatDoor
open Go.RowKit
set_option maxRecDepth 100000
theorem idx33_0 (v0 v1 v2 v3 v4 v5 v6 v7 v8 : Value) (w : World) : (Instr.index 133 (.agg #[v0, v1, v2, v3, v4, v5, v6, v7, v8]) (.int .i64 0)).run Tryz.prog w = .ok (.agg #[v0, v1, v2]) w := by kernel_rfl
theorem idx33_1 (v0 v1 v2 v3 v4 v5 v6 v7 v8 : Value) (w : World) : (Instr.index 133 (.agg #[v0, v1, v2, v3, v4, v5, v6, v7, v8]) (.int .i64 1)).run Tryz.prog w = .ok (.agg #[v3, v4, v5]) w := by kernel_rfl
theorem idx33_2 (v0 v1 v2 v3 v4 v5 v6 v7 v8 : Value) (w : World) : (Instr.index 133 (.agg #[v0, v1, v2, v3, v4, v5, v6, v7, v8]) (.int .i64 2)).run Tryz.prog w = .ok (.agg #[v6, v7, v8]) w := by kernel_rfl
theorem idx3_0 (v0 v1 v2 : Value) (w : World) : (Instr.index 132 (.agg #[v0, v1, v2]) (.int .i64 0)).run Tryz.prog w = .ok v0 w := by kernel_rfl
theorem idx3_1 (v0 v1 v2 : Value) (w : World) : (Instr.index 132 (.agg #[v0, v1, v2]) (.int .i64 1)).run Tryz.prog w = .ok v1 w := by kernel_rfl
theorem idx3_2 (v0 v1 v2 : Value) (w : World) : (Instr.index 132 (.agg #[v0, v1, v2]) (.int .i64 2)).run Tryz.prog w = .ok v2 w := by kernel_rfl
attribute [local go_sem] idx33_0 idx33_1 idx33_2 idx3_0 idx3_1 idx3_2
structure Fits (x : Pr) (no nn : Nat) : Prop where
 o : x.old.length = no
 n : x.new.length = nn
 s : SmallP x
 r : Zv x = true
theorem Fits.pos {x : Pr} {no nn : Nat} (h : Fits x no nn) : x.kind = 7 → 0 ≤ x.pos ∧ x.pos ≤ 1073741824 := fun e => by
 have hr := h.r
 unfold Zv Yn linesP at hr
 rw [e] at hr
 simp only [Bool.and_eq_true, decide_eq_true_eq] at hr
 simp at hr
 omega
end Go.Proofs.YtbnfjjjdnbcehaaGreatDoor
namespace Go.Proofs.YtbnfjjjdnbcehaaGreatDoor
open Go.RowKit
set_option maxRecDepth 100000
def OnlyN (G : Act → World → Prop) : Exit → Act → World → Prop
 | .normal => G
 | _ => fun _ _ => False
theorem Box.new10 {V : World} {b : Nat} (hb : V.heap.size = b) (y0 y1 y2 y3 y4 y5 y6 : Value) : Box (V.alloc (.cells #[y0, y1, y2, y3, y4, y5, y6] 43)) b y0 y1 y2 y3 y4 y5 y6 := hb ▸ Box.new V _ _ _ _ _ _ _
def CommPost (x y : Pr) (w : World) (e : Ending) (w' : World) : Prop := ∃ va vb, e = .returned (.tuple #[va, vb, .bool (commP x y).2.2]) ∧ PrNew w w' va (commP x y).1 ∧ PrNew w w' vb (commP x y).2.1 ∧ Fr None' w w'
def JoinPost (x y : Pr) (vo vn un : Value) (w : World) (e : Ending) (w' : World) : Prop := Fr None' w w' ∧ ((Z3 x y = none ∧ e = .returned (.tuple #[.slice none 0 0, .bool false])) ∨ (Z3 x y = some [] ∧ e = .returned (.tuple #[.slice none 0 0, .bool true])) ∨
 ∃ z g vz, Z3 x y = some [z] ∧ e = .returned (.tuple #[.slice (some ⟨g, 0, none⟩) 1 1, .bool true]) ∧ Box w' g (.int .i64 z.kind) (.string z.path) (.string z.dst) (.string z.src) (.int .i64 z.pos) (vo) (vz) ∧ z.old = x.old ∧ ((vz = vn ∧ z.new = x.new) ∨ (vz = un ∧ z.new = y.new)) ∧ w.heap.size ≤ g)
theorem invert_at {x z : Pr} (hz : inv x = z) (vo vn : Value) (w : World) (ho : Zy w vo x.old) (hn : Zy w vn x.new) (lo : x.old.length ≤ 900000) (ln : x.new.length ≤ 900000) :
  Calls Tryz.prog 49 #[.agg #[.int .i64 x.kind, .string x.path, .string x.dst, .string x.src, .int .i64 x.pos, vo, vn]] w fun e w' => ∃ (po : Option Addr) (co : Nat) (pn : Option Addr) (cn : Nat), e = .returned (.agg #[.int .i64 z.kind, .string z.path, .string z.dst, .string z.src, .int .i64 z.pos, .slice po z.old.length co, .slice pn z.new.length cn]) ∧ Hid (Zy w' (.slice po z.old.length co) z.old ∧ Zy w' (.slice pn z.new.length cn) z.new) ∧ Fr None' w w' := by
 subst hz
 refine (invert_any x vo vn w ho hn lo ln).mono ?_
 rintro e w' ⟨v, rfl, ⟨vo1, vn1, rfl, s1, s2, _, _⟩, f⟩
 obtain ⟨po, co, rfl⟩ := s1.as2
 obtain ⟨pn, cn, rfl⟩ := s2.as2
 exact ⟨po, co, pn, cn, rfl, ⟨s1, s2⟩, f⟩
theorem joined_any (x y : Pr) (vo vn uo un : Value) (w : World) (ho : Zy w vo x.old) (hn : Zy w vn x.new) (go : Zy w uo y.old) (gn : Zy w un y.new) (sx : SmallP x) (sy : SmallP y) :
  Calls Tryz.prog 59 #[.agg #[.int .i64 x.kind, .string x.path, .string x.dst, .string x.src, .int .i64 x.pos, vo, vn], .agg #[.int .i64 y.kind, .string y.path, .string y.dst, .string y.src, .int .i64 y.pos, uo, un]] w fun e w' => JoinPost x y vo vn un w e w' := by
 have HR1 := Zx (fun w' (f : Fr None' w w') => qright_any x vo vn w' (ho.kept f) (hn.kept f) sx)
 have HR2 := Zx (fun w' (f : Fr None' w w') => qright_any y uo un w' (go.kept f) (gn.kept f) sy)
 have lx : x.old.length ≤ 900000 ∧ x.new.length ≤ 900000 ∧ y.old.length ≤ 900000 ∧ y.new.length ≤ 900000 := by have := sx.old; have := sx.new; have := sy.old; have := sy.new; omega
 obtain ⟨z, hz⟩ : ∃ z, inv x = z := ⟨_, rfl⟩
 have HIn := Zx (fun w' (f : Fr None' w w') => invert_at hz vo vn w' (ho.kept f) (hn.kept f) lx.1 lx.2.1)
 have HAl := Zx (fun w' (f : Fr None' w w') po pn co cn (s : Zy w' (.slice po z.old.length co) z.old ∧ Zy w' (.slice pn z.new.length cn) z.new) => alike_any y z _ _ _ _ w' (go.kept f) (gn.kept f) s.1 s.2 lx.2.2.1 lx.2.2.2)
 obtain ⟨RA, hRA⟩ : ∃ R, alikeP y z = R := ⟨_, rfl⟩
 obtain ⟨R1, hR1⟩ : ∃ R, Zv x = R := ⟨_, rfl⟩
 obtain ⟨R2, hR2⟩ : ∃ R, Zv y = R := ⟨_, rfl⟩
 rw [hRA] at HAl
 rw [hR1] at HR1
 rw [hR2] at HR2
 have HJ1 := Zx (show R1 = false → Z3 x y = none from fun h => by unfold Z3; rw [hR1, h]; simp)
 have HJ2 := Zx (show R2 = false → Z3 x y = none from fun h => by unfold Z3; rw [hR2, h]; simp)
 have HJ3 := Zx (show R1 = true → R2 = true → RA = true → Z3 x y = some [] from fun h1 h2 h3 => by unfold Z3; rw [hz, hRA, hR1, hR2, h1, h2, h3]; rfl)
 have HJ4 := Zx (show R1 = true → R2 = true → RA = false → Z3 x y = (if ¬ x.kind = y.kind then none else if x.kind = 9 ∧ x.path = y.path ∧ x.dst = y.src then some [{ x with dst := y.dst }] else if x.kind = 7 ∧ x.path = y.path ∧ x.pos = y.pos ∧ x.new = y.old then some [{ x with new := y.new }] else if x.kind = 10 ∧ x.dst = y.path ∧ apP x.path y.dst = true then some [{ x with dst := y.dst }] else none) from fun h1 h2 h3 => by unfold Z3; rw [hz, hRA, hR1, hR2, h1, h2, h3]; rfl)
 obtain ⟨pa, ca, rfl, _, _, r1⟩ := ho
 obtain ⟨pb, cb, rfl, _, _, r2⟩ := hn
 obtain ⟨qa, da, rfl, _, _, r3⟩ := go
 obtain ⟨qb, db, rfl, _, _, r4⟩ := gn
 have HEq := Zx (fun w' (f : Fr None' w w') => equalS_any pb qa cb da x.new y.old w' (r2.fr (toLN f)) (r3.fr (toLN f)) (by omega))
 obtain ⟨K, P, T, F, A, lO, lN⟩ := x
 obtain ⟨K', P', T', F', A', mO, mN⟩ := y
 simp only at HR1 HR2 HIn HAl HJ4 HEq ⊢
 obtain ⟨no, hno⟩ : ∃ n, lO.length = n := ⟨_, rfl⟩
 obtain ⟨nn, hnn⟩ : ∃ n, lN.length = n := ⟨_, rfl⟩
 obtain ⟨mo, hmo⟩ : ∃ n, mO.length = n := ⟨_, rfl⟩
 obtain ⟨mn, hmn⟩ : ∃ n, mN.length = n := ⟨_, rfl⟩
 rw [hno, hnn] at HR1 HIn
 rw [hmo, hmn] at HR2 HAl
 rw [hnn, hmo] at HEq
 rw [hno, hnn, hmo, hmn]
 obtain ⟨w1, hw1⟩ : ∃ w1, w.alloc (.cells #[.int .i64 K, .string P, .string T, .string F, .int .i64 A, .slice pa no ca, .slice pb nn cb] 43) = w1 := ⟨_, rfl⟩
 obtain ⟨w2, hw2⟩ : ∃ w2, w1.alloc (.cells #[.int .i64 K', .string P', .string T', .string F', .int .i64 A', .slice qa mo da, .slice qb mn db] 43) = w2 := ⟨_, rfl⟩
 have F1 : Fr None' w w1 := hw1 ▸ Fr.alloc None' w _
 have F2 : Fr None' w1 w2 := hw2 ▸ Fr.alloc None' w1 _
 have HF := Zx (F1.then7 F2)
 have HB := Zx (show ∀ w', Fr None' w2 w' → Box w' w.heap.size (.int .i64 K) (.string P) (.string T) (.string F) (.int .i64 A) (.slice pa no ca) (.slice pb nn cb) ∧ Box w' w1.heap.size (.int .i64 K') (.string P') (.string T') (.string F') (.int .i64 A') (.slice qa mo da) (.slice qb mn db) from fun w' f => ⟨((hw1 ▸ Box.new w _ _ _ _ _ _ _ : Box w1 _ _ _ _ _ _ _ _).kept F2).kept f, (hw2 ▸ Box.new w1 _ _ _ _ _ _ _ : Box w2 _ _ _ _ _ _ _ _).kept f⟩)
 have n12 : ¬ w.heap.size = w1.heap.size := by rw [← hw1]; simp
 have HN := Zx n12
 clear F1 F2 hno hnn hmo hmn r1 r2 r3 r4 lx hz hRA hR1 hR2 sx sy n12
 have q1 := HR1.out w2 HF.out
 obtain ⟨x0, x1, x2, x3, x4, x5, x6⟩ := (HB.out w2 (Fr.refl _ _)).1.cells
 go_enter Tryz.func59, Tryz.ntmps59
 go_wp2_with fail
 with_reducible refine q1.mono ?_
 rintro e w3 ⟨rfl, f3⟩
 have HF3 := Zx f3
 clear q1 f3 x0 x1 x2 x3 x4 x5 x6
 cases R1 with
 | false =>
  have HFW := Zx (HF.out.then7 HF3.out)
  clear HR2 HIn HAl HEq HJ2 HJ3 HJ4
  have HJ := Zx (HJ1.out rfl)
  go_wp2_with fail
  go_ret2
  exact ⟨HFW.out, Or.inl ⟨HJ.out, rfl⟩⟩
 | true =>
 have q2 := HR2.out w3 (HF.out.then7 HF3.out)
 obtain ⟨x0, x1, x2, x3, x4, x5, x6⟩ := (HB.out w3 HF3.out).2.cells
 go_wp2_with fail
 with_reducible refine q2.mono ?_
 rintro e w4 ⟨rfl, f4⟩
 have HF4 := Zx (HF3.out.then7 f4)
 clear q2 f4 x0 x1 x2 x3 x4 x5 x6 HR1 HR2 HJ1
 cases R2 with
 | false =>
  have HFW := Zx (HF.out.then7 HF4.out)
  clear HIn HAl HEq HJ3 HJ4
  have HJ := Zx (HJ2.out rfl)
  go_wp2_with fail
  go_ret2
  exact ⟨HFW.out, Or.inl ⟨HJ.out, rfl⟩⟩
 | true =>
 have HS := Zx (show ∀ w', Fr None' w4 w' → Fr None' w4 w' ∧ w'.cell? ⟨w.heap.size, 0, none⟩ = some (.int .i64 K) ∧ w'.cell? ⟨w.heap.size, 1, none⟩ = some (.string P) ∧ w'.cell? ⟨w.heap.size, 2, none⟩ = some (.string T) ∧ w'.cell? ⟨w.heap.size, 3, none⟩ = some (.string F) ∧ w'.cell? ⟨w.heap.size, 4, none⟩ = some (.int .i64 A) ∧ w'.cell? ⟨w.heap.size, 5, none⟩ = some (.slice pa no ca) ∧ w'.cell? ⟨w.heap.size, 6, none⟩ = some (.slice pb nn cb) ∧ w'.cell? ⟨w1.heap.size, 0, none⟩ = some (.int .i64 K') ∧ w'.cell? ⟨w1.heap.size, 1, none⟩ = some (.string P') ∧ w'.cell? ⟨w1.heap.size, 2, none⟩ = some (.string T') ∧ w'.cell? ⟨w1.heap.size, 3, none⟩ = some (.string F') ∧ w'.cell? ⟨w1.heap.size, 4, none⟩ = some (.int .i64 A') ∧ w'.cell? ⟨w1.heap.size, 5, none⟩ = some (.slice qa mo da) ∧ w'.cell? ⟨w1.heap.size, 6, none⟩ = some (.slice qb mn db) from fun w' f => by
  obtain ⟨x0, x1, x2, x3, x4, x5, x6⟩ := (HB.out w' (HF4.out.then7 f)).1.cells
  obtain ⟨y0, y1, y2, y3, y4, y5, y6⟩ := (HB.out w' (HF4.out.then7 f)).2.cells
  exact ⟨f, x0, x1, x2, x3, x4, x5, x6, y0, y1, y2, y3, y4, y5, y6⟩)
 have hS0 := HS.out w4.drew (Fr.drew _ w4)
 have HW4 := Zx (HF.out.then7 HF4.out)
 go_wp2_with fail
 go_region_held3 (fun w' => Fr None' w4 w' ∧ w'.cell? ⟨w.heap.size, 0, none⟩ = some (.int .i64 K) ∧ w'.cell? ⟨w.heap.size, 1, none⟩ = some (.string P) ∧ w'.cell? ⟨w.heap.size, 2, none⟩ = some (.string T) ∧ w'.cell? ⟨w.heap.size, 3, none⟩ = some (.string F) ∧ w'.cell? ⟨w.heap.size, 4, none⟩ = some (.int .i64 A) ∧ w'.cell? ⟨w.heap.size, 5, none⟩ = some (.slice pa no ca) ∧ w'.cell? ⟨w.heap.size, 6, none⟩ = some (.slice pb nn cb) ∧ w'.cell? ⟨w1.heap.size, 0, none⟩ = some (.int .i64 K') ∧ w'.cell? ⟨w1.heap.size, 1, none⟩ = some (.string P') ∧ w'.cell? ⟨w1.heap.size, 2, none⟩ = some (.string T') ∧ w'.cell? ⟨w1.heap.size, 3, none⟩ = some (.string F') ∧ w'.cell? ⟨w1.heap.size, 4, none⟩ = some (.int .i64 A') ∧ w'.cell? ⟨w1.heap.size, 5, none⟩ = some (.slice qa mo da) ∧ w'.cell? ⟨w1.heap.size, 6, none⟩ = some (.slice qb mn db))
  (first | with_reducible exact hS0 | with_reducible exact hS5 | with_reducible exact hS6)
  (first
   | (go_at_call 49; with_reducible (refine (HIn.out _ (Fr.then7 (Hid.out HW4) (Fr.drew None' _))).mono ?_); rintro e w5 ⟨po, co, pn, cn, rfl, HRI, f5⟩; have G5 := Zx (Fr.then7 (Fr.drew None' w4) f5); have hS5 := HS.out w5 (Hid.out G5); clear f5)
   | (go_at_call 83; with_reducible (refine (HAl.out w5 (Fr.then7 (Hid.out HW4) (Hid.out G5)) po pn co cn (Hid.out HRI)).mono ?_); rintro e w6 ⟨rfl, f6⟩; have G6 := Zx (Fr.then7 (Hid.out G5) f6); have hS6 := HS.out w6 (Hid.out G6); clear f6)
   | fail)
 clear hS0 hS5 hS6 HRI HIn HAl HJ2 HS
 have HW6 := Zx (HW4.out.then7 G6.out)
 have HB6 := Zx (HB.out w6 (HF4.out.then7 G6.out))
 clear HB HF HF3 HF4 HW4 G5 G6 hw1 hw2
 cases RA with
 | true =>
  have HFW := HW6
  clear HJ4 HEq
  have HJ := Zx (HJ3.out (by simp) (by simp) (by simp))
  go_wp2_with fail
  go_ret2
  exact ⟨HFW.out, Or.inr (Or.inl ⟨HJ.out, rfl⟩)⟩
 | false =>
 have HJ := Zx (HJ4.out (by simp) (by simp) (by simp))
 clear HJ3 HJ4
 have HFW := HW6
 obtain ⟨x0, x1, x2, x3, x4, x5, x6⟩ := HB6.out.1.cells
 obtain ⟨y0, y1, y2, y3, y4, y5, y6⟩ := HB6.out.2.cells
 have xz := HB6.out.1.frozen
 have q5 := HEq.out w6 HW6.out
 have q6 := Path.apart_any P T' w6
 have HAp := Zx (show Path.apart P.data.toList T'.data.toList = apP P T' from rfl)
 rw [HAp.out] at q6
 clear HEq HAp
 by_cases hK : K = K'
 case neg =>
  have z1 : (K == K') = false := beq_eq_false_iff_ne.2 hK
  have HN1 := Zx (show Z3 ⟨K, P, T, F, A, lO, lN⟩ ⟨K', P', T', F', A', mO, mN⟩ = none from HJ.out.trans (if_pos hK))
  clear hK HJ q5 q6
  go_wp2_with fail
  go_ret2
  exact ⟨HFW.out, Or.inl ⟨HN1.out, rfl⟩⟩
 case pos =>
 subst hK
 have HJ := Zx (HJ.out.trans (if_neg (by simp)))
 by_cases h9 : K = 9
 ·subst h9
  by_cases hP : P = P'
  case neg =>
   obtain ⟨z1, z2⟩ := Lines.str_no hP
   have HN1 := Zx (show Z3 ⟨9, P, T, F, A, lO, lN⟩ ⟨9, P', T', F', A', mO, mN⟩ = none from HJ.out.trans (by simp [hP]))
   clear hP q5 q6 HJ
   go_wp2_with fail
   go_ret2
   exact ⟨HFW.out, Or.inl ⟨HN1.out, rfl⟩⟩
  case pos =>
  subst hP
  by_cases hT : T = F'
  case neg =>
   obtain ⟨z1, z2⟩ := Lines.str_no hT
   have HN1 := Zx (show Z3 ⟨9, P, T, F, A, lO, lN⟩ ⟨9, P, T', F', A', mO, mN⟩ = none from HJ.out.trans (by simp [hT]))
   clear hT q5 q6 HJ
   go_wp2_with fail
   go_ret2
   exact ⟨HFW.out, Or.inl ⟨HN1.out, rfl⟩⟩
  case pos =>
  subst hT
  have HY := Zx (show Z3 ⟨9, P, T, F, A, lO, lN⟩ ⟨9, P, T', T, A', mO, mN⟩ = some [⟨9, P, T', F, A, lO, lN⟩] from HJ.out.trans (by simp))
  clear HJ q5 q6
  have HZ := Zx (show Fr None' w (w6.setCell ⟨w.heap.size, 2, none⟩ (.string T')) ∧ (w6.setCell ⟨w.heap.size, 2, none⟩ (.string T')).heap.size = w6.heap.size ∧ w.heap.size ≤ w6.heap.size from ⟨HW6.out.trans (Fr.setQ _ _ _ _) (fun i e => Or.inr (by omega)), by simp [World.setCell], HW6.out.size⟩)
  go_wp2_with fail
  go_ret2
  exact ⟨HZ.out.1.then7 (Fr.alloc _ _ _), Or.inr (Or.inr ⟨_, w6.heap.size, _, HY.out, rfl, Box.new10 HZ.out.2.1 _ _ _ _ _ _ _, rfl, Or.inl ⟨rfl, rfl⟩, HZ.out.2.2⟩)⟩
 by_cases h7 : K = 7
 ·subst h7
  by_cases hP : P = P'
  case neg =>
   obtain ⟨z1, z2⟩ := Lines.str_no hP
   have HN1 := Zx (show Z3 ⟨7, P, T, F, A, lO, lN⟩ ⟨7, P', T', F', A', mO, mN⟩ = none from HJ.out.trans (by simp [hP]))
   clear hP q5 q6 HJ
   go_wp2_with fail
   go_ret2
   exact ⟨HFW.out, Or.inl ⟨HN1.out, rfl⟩⟩
  case pos =>
  subst hP
  by_cases hA : A = A'
  case neg =>
   have z1 : (A == A') = false := beq_eq_false_iff_ne.2 hA
   have HN1 := Zx (show Z3 ⟨7, P, T, F, A, lO, lN⟩ ⟨7, P, T', F', A', mO, mN⟩ = none from HJ.out.trans (by simp [hA]))
   clear hA q5 q6 HJ
   go_wp2_with fail
   go_ret2
   exact ⟨HFW.out, Or.inl ⟨HN1.out, rfl⟩⟩
  case pos =>
  subst hA
  have HD := Zx (show Z3 ⟨7, P, T, F, A, lO, lN⟩ ⟨7, P, T', F', A, mO, mN⟩ = if lN = mO then some [⟨7, P, T, F, A, lO, mN⟩] else none from HJ.out.trans (by simp))
  obtain ⟨R, hR⟩ : ∃ R, decide (lN = mO) = R := ⟨_, rfl⟩
  have HR := Zx hR
  rw [hR] at q5
  clear HJ q6 hR
  go_wp2_with fail
  with_reducible refine q5.mono ?_
  rintro e w7 ⟨rfl, f7⟩
  have HW7 := Zx (HW6.out.then7 f7)
  have HB7 := Zx (show Box w7 w.heap.size (.int .i64 7) (.string P) (.string T) (.string F) (.int .i64 A) (.slice pa no ca) (.slice pb nn cb) ∧ Box w7 w1.heap.size (.int .i64 7) (.string P) (.string T') (.string F') (.int .i64 A) (.slice qa mo da) (.slice qb mn db) from ⟨HB6.out.1.kept f7, HB6.out.2.kept f7⟩)
  clear q5 f7 x0 x1 x2 x3 x4 x5 x6 y0 y1 y2 y3 y4 y5 y6 xz
  obtain ⟨x0, x1, x2, x3, x4, x5, x6⟩ := HB7.out.1.cells
  obtain ⟨y0, y1, y2, y3, y4, y5, y6⟩ := HB7.out.2.cells
  have xz := HB7.out.1.frozen
  cases R with
  | false =>
   have HN1 := Zx (HD.out.trans (if_neg (of_decide_eq_false HR.out)))
   clear HD HR
   go_wp2_with fail
   go_ret2
   exact ⟨HW7.out, Or.inl ⟨HN1.out, rfl⟩⟩
  | true =>
   have HY := Zx (HD.out.trans (if_pos (of_decide_eq_true HR.out)))
   clear HD HR
   have HZ := Zx (show Fr None' w (w7.setCell ⟨w.heap.size, 6, none⟩ (.slice qb mn db)) ∧ (w7.setCell ⟨w.heap.size, 6, none⟩ (.slice qb mn db)).heap.size = w7.heap.size ∧ w.heap.size ≤ w7.heap.size from ⟨HW7.out.trans (Fr.setQ _ _ _ _) (fun i e => Or.inr (by omega)), by simp [World.setCell], HW7.out.size⟩)
   go_wp2_with fail
   go_ret2
   exact ⟨HZ.out.1.then7 (Fr.alloc _ _ _), Or.inr (Or.inr ⟨_, w7.heap.size, _, HY.out, rfl, Box.new10 HZ.out.2.1 _ _ _ _ _ _ _, rfl, Or.inr ⟨rfl, rfl⟩, HZ.out.2.2⟩)⟩
 by_cases h10 : K = 10
 ·subst h10
  by_cases hP : T = P'
  case neg =>
   obtain ⟨z1, z2⟩ := Lines.str_no hP
   have HN1 := Zx (show Z3 ⟨10, P, T, F, A, lO, lN⟩ ⟨10, P', T', F', A', mO, mN⟩ = none from HJ.out.trans (by simp [hP]))
   clear hP q5 q6 HJ
   go_wp2_with fail
   go_ret2
   exact ⟨HFW.out, Or.inl ⟨HN1.out, rfl⟩⟩
  case pos =>
  subst hP
  have HD := Zx (show Z3 ⟨10, P, T, F, A, lO, lN⟩ ⟨10, T, T', F', A', mO, mN⟩ = if apP P T' = true then some [⟨10, P, T', F, A, lO, lN⟩] else none from HJ.out.trans (by simp))
  obtain ⟨R, hR⟩ : ∃ R, apP P T' = R := ⟨_, rfl⟩
  rw [hR] at HD q6
  clear HJ q5 hR
  go_wp2_with fail
  with_reducible refine q6.mono ?_
  rintro e w7 ⟨rfl, rfl⟩
  clear q6
  cases R with
  | false =>
   have HN1 := Zx (HD.out.trans (if_neg (by simp)))
   clear HD
   go_wp2_with fail
   go_ret2
   exact ⟨HFW.out, Or.inl ⟨HN1.out, rfl⟩⟩
  | true =>
   have HY := Zx (HD.out.trans (if_pos rfl))
   clear HD
   have HZ := Zx (show Fr None' w (w6.setCell ⟨w.heap.size, 2, none⟩ (.string T')) ∧ (w6.setCell ⟨w.heap.size, 2, none⟩ (.string T')).heap.size = w6.heap.size ∧ w.heap.size ≤ w6.heap.size from ⟨HW6.out.trans (Fr.setQ _ _ _ _) (fun i e => Or.inr (by omega)), by simp [World.setCell], HW6.out.size⟩)
   go_wp2_with fail
   go_ret2
   exact ⟨HZ.out.1.then7 (Fr.alloc _ _ _), Or.inr (Or.inr ⟨_, w6.heap.size, _, HY.out, rfl, Box.new10 HZ.out.2.1 _ _ _ _ _ _ _, rfl, Or.inl ⟨rfl, rfl⟩, HZ.out.2.2⟩)⟩
 have z1 : (K == 9) = false := beq_eq_false_iff_ne.2 h9
 have z2 : (K == 7) = false := beq_eq_false_iff_ne.2 h7
 have z3 : (K == 10) = false := beq_eq_false_iff_ne.2 h10
 have HN1 := Zx (show Z3 ⟨K, P, T, F, A, lO, lN⟩ ⟨K, P', T', F', A', mO, mN⟩ = none from HJ.out.trans (by simp [h9, h7, h10]))
 clear h9 h7 h10 q5 q6 HJ
 go_wp2_with fail
 go_ret2
 exact ⟨HFW.out, Or.inl ⟨HN1.out, rfl⟩⟩
end Go.Proofs.YtbnfjjjdnbcehaaGreatDoor
