/- What is proved here: contracts that SeqTells stands on. Conditions: as each theorem names them. -/
import Derived.Test.YtbnfjjjdnbcehaaGreatDoorMRuleOf10
import Derived.Test.YtbnfjjjdnbcehaaGreatDoorM23PR9
import Derived.Test.YtbnfjjjdnbcehaaGreatDoorM10Clone11
import Derived.Test.YtbnfjjjdnbcehaaGreatDoorMAlike11
import Derived.Test.YtbnfjjjdnbcehaaGreatDoorMRule8
import Derived.Test.YtbnfjjjdnbcehaaGreatDoorM18PRunes
import Derived.Test.YtbnfjjjdnbcehaaGreatDoorM24Rules10
import Derived.Test.YtbnfjjjdnbcehaaGreatDoorM14Plain10
set_option maxHeartbeats 16000000
namespace Go.Proofs.YtbnfjjjdnbcehaaGreatDoor
open Go.RowKit
set_option maxRecDepth 100000
def OnlyN (G : Act → World → Prop) : Exit → Act → World → Prop
 | .normal => G
 | _ => fun _ _ => False
theorem region_told {P : Program} {id : Nat} {ops : Array Oper} {Q : Exit → Act → World → Prop} {a : Act} {w : World} (G : Act → World → Prop) (h : (Code.region id ops true).wp P (OnlyN G) a w) (hn : ∀ a' w', G a' w' → Q .normal a' w') : (Code.region id ops true).wp P Q a w := by
 refine wp_mono h ?_
 intro e a' w' he
 cases e <;> first | exact he.elim | exact hn _ _ he
theorem alloc10 {w W : World} (h : Fr None' w W) (o : Obj) : Fr None' w (W.alloc o) := h.then7 (Fr.alloc None' _ _)
theorem Ye {w W : World} (h : Fr None' w W) : Fr None' w W.drew := h.then7 (Fr.drew None' _)
theorem set10 {w W : World} (h : Fr None' w W) {b : Nat} (hb : w.heap.size ≤ b) (y0 y1 y2 y3 y4 y5 y6 : Value) : Fr None' w (setP W b y0 y1 y2 y3 y4 y5 y6) := h.trans (Fr.setP (M := fun k => k = b) W rfl _ _ _ _ _ _ _) (fun _ e => Or.inr (by omega))
theorem Box.new10 {V : World} {b : Nat} (hb : V.heap.size = b) (y0 y1 y2 y3 y4 y5 y6 : Value) : Box (V.alloc (.cells #[y0, y1, y2, y3, y4, y5, y6] 43)) b y0 y1 y2 y3 y4 y5 y6 := hb ▸ Box.new V _ _ _ _ _ _ _
theorem Box.alloc10 {V : World} {b : Nat} {y0 y1 y2 y3 y4 y5 y6 : Value} (h : Box V b y0 y1 y2 y3 y4 y5 y6) (o : Obj) : Box (V.alloc o) b y0 y1 y2 y3 y4 y5 y6 := h.kept (Fr.alloc None' _ _)
theorem all10 {V : World} {b : Nat} (h : Box V b (.int .i64 0) (.string ⟨#[]⟩) (.string ⟨#[]⟩) (.string ⟨#[]⟩) (.int .i64 0) (.slice none 0 0) (.slice none 0 0)) (y0 y1 y2 y3 y4 y5 y6 : Value) : Box (setP V b y0 y1 y2 y3 y4 y5 y6) b y0 y1 y2 y3 y4 y5 y6 := h.all _ _ _ _ _ _ _
theorem far10 {V : World} {b c : Nat} {y0 y1 y2 y3 y4 y5 y6 : Value} (h : Box V b y0 y1 y2 y3 y4 y5 y6) (hne : ¬ b = c) (z0 z1 z2 z3 z4 z5 z6 : Value) : Box (setP V c z0 z1 z2 z3 z4 z5 z6) b y0 y1 y2 y3 y4 y5 y6 := h.fr (Fr.setP (M := fun k => k = c) _ rfl _ _ _ _ _ _ _) hne
theorem copied_c (x : Pr) (vo vn : Value) (w : World) (ho : Zv w vo x.old) (hn : Zv w vn x.new) (lo : x.old.length ≤ 900000) (ln : x.new.length ≤ 900000) :
  Calls Tryz.prog 55 #[.agg #[.int .i64 x.kind, .string x.path, .string x.dst, .string x.src, .int .i64 x.pos, vo, vn]] w fun e w' => ∃ (po : Option Addr) (co : Nat) (pn : Option Addr) (cn : Nat), e = .returned (.agg #[.int .i64 x.kind, .string x.path, .string x.dst, .string x.src, .int .i64 x.pos, .slice po x.old.length co, .slice pn x.new.length cn]) ∧ Hid ((Zv w' (.slice po x.old.length co) x.old ∧ Zv w' (.slice pn x.new.length cn) x.new) ∧ (∀ k, (Value.slice po x.old.length co).ownBlock = some k → w.heap.size ≤ k) ∧ ∀ k, (Value.slice pn x.new.length cn).ownBlock = some k → w.heap.size ≤ k) ∧ Fr None' w w' := by
 refine (copied_any x vo vn w ho hn lo ln).mono ?_
 rintro e w' ⟨v, rfl, ⟨vo1, vn1, rfl, s1, s2, g1, g2⟩, f⟩
 obtain ⟨po, co, rfl⟩ := s1.as2
 obtain ⟨pn, cn, rfl⟩ := s2.as2
 exact ⟨po, co, pn, cn, rfl, ⟨⟨s1, s2⟩, g1, g2⟩, f⟩
def CommPost (x y : Pr) (w : World) (e : Ending) (w' : World) : Prop := ∃ va vb, e = .returned (.tuple #[va, vb, .bool (Zj x y).2.2]) ∧ PrNew w w' va (Zj x y).1 ∧ PrNew w w' vb (Zj x y).2.1 ∧ Fr None' w w'
theorem zero_new (w w' : World) : PrNew w w' (.agg #[.int .i64 0, .string ⟨#[]⟩, .string ⟨#[]⟩, .string ⟨#[]⟩, .int .i64 0, .slice none 0 0, .slice none 0 0]) Yr := ⟨_, _, rfl, ⟨none, 0, rfl, fun _ => rfl, Nat.le_refl _, Lines.Row.nil _ _⟩, ⟨none, 0, rfl, fun _ => rfl, Nat.le_refl _, Lines.Row.nil _ _⟩, (fun k e => by cases e), (fun k e => by cases e)⟩
theorem post_none {x y : Pr} {w w' : World} (h : Zj x y = Yz) (f : Fr None' w w') : CommPost x y w (.returned (.tuple #[.agg #[.int .i64 0, .string ⟨#[]⟩, .string ⟨#[]⟩, .string ⟨#[]⟩, .int .i64 0, .slice none 0 0, .slice none 0 0], .agg #[.int .i64 0, .string ⟨#[]⟩, .string ⟨#[]⟩, .string ⟨#[]⟩, .int .i64 0, .slice none 0 0, .slice none 0 0], .bool false])) w' := by
 unfold CommPost
 rw [h]
 exact ⟨_, _, rfl, zero_new _ _, zero_new _ _, f⟩
def CommuteAll : Prop := ∀ (x y : Pr) (vo vn uo un : Value) (w : World), Zv w vo x.old → Zv w vn x.new → Zv w uo y.old → Zv w un y.new → Zs x → Zs y → Calls Tryz.prog 56 #[.agg #[.int .i64 x.kind, .string x.path, .string x.dst, .string x.src, .int .i64 x.pos, vo, vn], .agg #[.int .i64 y.kind, .string y.path, .string y.dst, .string y.src, .int .i64 y.pos, uo, un]] w fun e w' => CommPost x y w e w'
end Go.Proofs.YtbnfjjjdnbcehaaGreatDoor
namespace Go.Proofs.YtbnfjjjdnbcehaaGreatDoor
open Go.RowKit
set_option maxRecDepth 100000
def JoinPost (x y : Pr) (vo vn un : Value) (w : World) (e : Ending) (w' : World) : Prop := Fr None' w w' ∧ ((Z0 x y = none ∧ e = .returned (.tuple #[.slice none 0 0, .bool false])) ∨ (Z0 x y = some [] ∧ e = .returned (.tuple #[.slice none 0 0, .bool true])) ∨
 ∃ z g vz, Z0 x y = some [z] ∧ e = .returned (.tuple #[.slice (some ⟨g, 0, none⟩) 1 1, .bool true]) ∧ Box w' g (.int .i64 z.kind) (.string z.path) (.string z.dst) (.string z.src) (.int .i64 z.pos) (vo) (vz) ∧ z.old = x.old ∧ ((vz = vn ∧ z.new = x.new) ∨ (vz = un ∧ z.new = y.new)) ∧ w.heap.size ≤ g)
theorem invert_at {x z : Pr} (hz : inv x = z) (vo vn : Value) (w : World) (ho : Zv w vo x.old) (hn : Zv w vn x.new) (lo : x.old.length ≤ 900000) (ln : x.new.length ≤ 900000) :
  Calls Tryz.prog 49 #[.agg #[.int .i64 x.kind, .string x.path, .string x.dst, .string x.src, .int .i64 x.pos, vo, vn]] w fun e w' => ∃ (po : Option Addr) (co : Nat) (pn : Option Addr) (cn : Nat), e = .returned (.agg #[.int .i64 z.kind, .string z.path, .string z.dst, .string z.src, .int .i64 z.pos, .slice po z.old.length co, .slice pn z.new.length cn]) ∧ Hid (Zv w' (.slice po z.old.length co) z.old ∧ Zv w' (.slice pn z.new.length cn) z.new) ∧ Fr None' w w' := by
 subst hz
 refine (invert_any x vo vn w ho hn lo ln).mono ?_
 rintro e w' ⟨v, rfl, ⟨vo1, vn1, rfl, s1, s2, _, _⟩, f⟩
 obtain ⟨po, co, rfl⟩ := s1.as2
 obtain ⟨pn, cn, rfl⟩ := s2.as2
 exact ⟨po, co, pn, cn, rfl, ⟨s1, s2⟩, f⟩
theorem joined_any (x y : Pr) (vo vn uo un : Value) (w : World) (ho : Zv w vo x.old) (hn : Zv w vn x.new) (go : Zv w uo y.old) (gn : Zv w un y.new) (sx : Zs x) (sy : Zs y) :
  Calls Tryz.prog 59 #[.agg #[.int .i64 x.kind, .string x.path, .string x.dst, .string x.src, .int .i64 x.pos, vo, vn], .agg #[.int .i64 y.kind, .string y.path, .string y.dst, .string y.src, .int .i64 y.pos, uo, un]] w fun e w' => JoinPost x y vo vn un w e w' := by
 have HR1 := Zy (fun w' (f : Fr None' w w') => qright_any x vo vn w' (ho.kept f) (hn.kept f) sx)
 have HR2 := Zy (fun w' (f : Fr None' w w') => qright_any y uo un w' (go.kept f) (gn.kept f) sy)
 have lx : x.old.length ≤ 900000 ∧ x.new.length ≤ 900000 ∧ y.old.length ≤ 900000 ∧ y.new.length ≤ 900000 := by have := sx.old; have := sx.new; have := sy.old; have := sy.new; omega
 obtain ⟨z, hz⟩ : ∃ z, inv x = z := ⟨_, rfl⟩
 have HIn := Zy (fun w' (f : Fr None' w w') => invert_at hz vo vn w' (ho.kept f) (hn.kept f) lx.1 lx.2.1)
 have HAl := Zy (fun w' (f : Fr None' w w') po pn co cn (s : Zv w' (.slice po z.old.length co) z.old ∧ Zv w' (.slice pn z.new.length cn) z.new) => alike_any y z _ _ _ _ w' (go.kept f) (gn.kept f) s.1 s.2 lx.2.2.1 lx.2.2.2)
 obtain ⟨RA, hRA⟩ : ∃ R, Yb y z = R := ⟨_, rfl⟩
 obtain ⟨R1, hR1⟩ : ∃ R, Zw x = R := ⟨_, rfl⟩
 obtain ⟨R2, hR2⟩ : ∃ R, Zw y = R := ⟨_, rfl⟩
 rw [hRA] at HAl
 rw [hR1] at HR1
 rw [hR2] at HR2
 have HJ1 := Zy (show R1 = false → Z0 x y = none from fun h => by unfold Z0; rw [hR1, h]; simp)
 have HJ2 := Zy (show R2 = false → Z0 x y = none from fun h => by unfold Z0; rw [hR2, h]; simp)
 have HJ3 := Zy (show R1 = true → R2 = true → RA = true → Z0 x y = some [] from fun h1 h2 h3 => by unfold Z0; rw [hz, hRA, hR1, hR2, h1, h2, h3]; rfl)
 have HJ4 := Zy (show R1 = true → R2 = true → RA = false → Z0 x y = (if ¬ x.kind = y.kind then none else if x.kind = 9 ∧ x.path = y.path ∧ x.dst = y.src then some [{ x with dst := y.dst }] else if x.kind = 7 ∧ x.path = y.path ∧ x.pos = y.pos ∧ x.new = y.old then some [{ x with new := y.new }] else if x.kind = 10 ∧ x.dst = y.path ∧ apP x.path y.dst = true then some [{ x with dst := y.dst }] else none) from fun h1 h2 h3 => by unfold Z0; rw [hz, hRA, hR1, hR2, h1, h2, h3]; rfl)
 obtain ⟨pa, ca, rfl, _, _, r1⟩ := ho
 obtain ⟨pb, cb, rfl, _, _, r2⟩ := hn
 obtain ⟨qa, da, rfl, _, _, r3⟩ := go
 obtain ⟨qb, db, rfl, _, _, r4⟩ := gn
 have HEq := Zy (fun w' (f : Fr None' w w') => equalS_any pb qa cb da x.new y.old w' (r2.fr (toLN f)) (r3.fr (toLN f)) (by omega))
 obtain ⟨K, P, T, F, A, lO, lN⟩ := x
 obtain ⟨K', P', T', F', A', mO, mN⟩ := y
 simp only at HR1 HR2 HIn HAl HJ4 HEq ⊢
 obtain ⟨no, hno⟩ : ∃ n, lO.length = n := ⟨_, rfl⟩
 obtain ⟨nn, hnn⟩ : ∃ n, lN.length = n := ⟨_, rfl⟩
 obtain ⟨mo, hmo⟩ : ∃ n, mO.length = n := ⟨_, rfl⟩
 obtain ⟨mn, hmn⟩ : ∃ n, mN.length = n := ⟨_, rfl⟩
 rw [hno, hnn] at HR1 HIn
 rw [hmo, hmn] at HR2 HAl
 rw [hnn, hmo] at HEq
 rw [hno, hnn, hmo, hmn]
 obtain ⟨w1, hw1⟩ : ∃ w1, w.alloc (.cells #[.int .i64 K, .string P, .string T, .string F, .int .i64 A, .slice pa no ca, .slice pb nn cb] 43) = w1 := ⟨_, rfl⟩
 obtain ⟨w2, hw2⟩ : ∃ w2, w1.alloc (.cells #[.int .i64 K', .string P', .string T', .string F', .int .i64 A', .slice qa mo da, .slice qb mn db] 43) = w2 := ⟨_, rfl⟩
 have F1 : Fr None' w w1 := hw1 ▸ Fr.alloc None' w _
 have F2 : Fr None' w1 w2 := hw2 ▸ Fr.alloc None' w1 _
 have HF := Zy (F1.then7 F2)
 have HB := Zy (show ∀ w', Fr None' w2 w' → Box w' w.heap.size (.int .i64 K) (.string P) (.string T) (.string F) (.int .i64 A) (.slice pa no ca) (.slice pb nn cb) ∧ Box w' w1.heap.size (.int .i64 K') (.string P') (.string T') (.string F') (.int .i64 A') (.slice qa mo da) (.slice qb mn db) from fun w' f => ⟨((hw1 ▸ Box.new w _ _ _ _ _ _ _ : Box w1 _ _ _ _ _ _ _ _).kept F2).kept f, (hw2 ▸ Box.new w1 _ _ _ _ _ _ _ : Box w2 _ _ _ _ _ _ _ _).kept f⟩)
 have n12 : ¬ w.heap.size = w1.heap.size := by rw [← hw1]; simp
 have HN := Zy n12
 clear F1 F2 hno hnn hmo hmn r1 r2 r3 r4 lx hz hRA hR1 hR2 sx sy n12
 have q1 := HR1.out w2 HF.out
 obtain ⟨x0, x1, x2, x3, x4, x5, x6⟩ := (HB.out w2 (Fr.refl _ _)).1.cells
 go_enter Tryz.func59, Tryz.ntmps59
 go_wp2_with fail
 with_reducible refine q1.mono ?_
 rintro e w3 ⟨rfl, f3⟩
 have HF3 := Zy f3
 clear q1 f3 x0 x1 x2 x3 x4 x5 x6
 cases R1 with
 | false =>
  have HFW := Zy (HF.out.then7 HF3.out)
  clear HR2 HIn HAl HEq HJ2 HJ3 HJ4
  have HJ := Zy (HJ1.out rfl)
  go_wp2_with fail
  go_ret2
  exact ⟨HFW.out, Or.inl ⟨HJ.out, rfl⟩⟩
 | true =>
 have q2 := HR2.out w3 (HF.out.then7 HF3.out)
 obtain ⟨x0, x1, x2, x3, x4, x5, x6⟩ := (HB.out w3 HF3.out).2.cells
 go_wp2_with fail
 with_reducible refine q2.mono ?_
 rintro e w4 ⟨rfl, f4⟩
 have HF4 := Zy (HF3.out.then7 f4)
 clear q2 f4 x0 x1 x2 x3 x4 x5 x6 HR1 HR2 HJ1
 cases R2 with
 | false =>
  have HFW := Zy (HF.out.then7 HF4.out)
  clear HIn HAl HEq HJ3 HJ4
  have HJ := Zy (HJ2.out rfl)
  go_wp2_with fail
  go_ret2
  exact ⟨HFW.out, Or.inl ⟨HJ.out, rfl⟩⟩
 | true =>
 have HS := Zy (show ∀ w', Fr None' w4 w' → Fr None' w4 w' ∧ w'.cell? ⟨w.heap.size, 0, none⟩ = some (.int .i64 K) ∧ w'.cell? ⟨w.heap.size, 1, none⟩ = some (.string P) ∧ w'.cell? ⟨w.heap.size, 2, none⟩ = some (.string T) ∧ w'.cell? ⟨w.heap.size, 3, none⟩ = some (.string F) ∧ w'.cell? ⟨w.heap.size, 4, none⟩ = some (.int .i64 A) ∧ w'.cell? ⟨w.heap.size, 5, none⟩ = some (.slice pa no ca) ∧ w'.cell? ⟨w.heap.size, 6, none⟩ = some (.slice pb nn cb) ∧ w'.cell? ⟨w1.heap.size, 0, none⟩ = some (.int .i64 K') ∧ w'.cell? ⟨w1.heap.size, 1, none⟩ = some (.string P') ∧ w'.cell? ⟨w1.heap.size, 2, none⟩ = some (.string T') ∧ w'.cell? ⟨w1.heap.size, 3, none⟩ = some (.string F') ∧ w'.cell? ⟨w1.heap.size, 4, none⟩ = some (.int .i64 A') ∧ w'.cell? ⟨w1.heap.size, 5, none⟩ = some (.slice qa mo da) ∧ w'.cell? ⟨w1.heap.size, 6, none⟩ = some (.slice qb mn db) from fun w' f => by
  obtain ⟨x0, x1, x2, x3, x4, x5, x6⟩ := (HB.out w' (HF4.out.then7 f)).1.cells
  obtain ⟨y0, y1, y2, y3, y4, y5, y6⟩ := (HB.out w' (HF4.out.then7 f)).2.cells
  exact ⟨f, x0, x1, x2, x3, x4, x5, x6, y0, y1, y2, y3, y4, y5, y6⟩)
 have hS0 := HS.out w4.drew (Fr.drew _ w4)
 have HW4 := Zy (HF.out.then7 HF4.out)
 go_wp2_with fail
 go_region_held3 (fun w' => Fr None' w4 w' ∧ w'.cell? ⟨w.heap.size, 0, none⟩ = some (.int .i64 K) ∧ w'.cell? ⟨w.heap.size, 1, none⟩ = some (.string P) ∧ w'.cell? ⟨w.heap.size, 2, none⟩ = some (.string T) ∧ w'.cell? ⟨w.heap.size, 3, none⟩ = some (.string F) ∧ w'.cell? ⟨w.heap.size, 4, none⟩ = some (.int .i64 A) ∧ w'.cell? ⟨w.heap.size, 5, none⟩ = some (.slice pa no ca) ∧ w'.cell? ⟨w.heap.size, 6, none⟩ = some (.slice pb nn cb) ∧ w'.cell? ⟨w1.heap.size, 0, none⟩ = some (.int .i64 K') ∧ w'.cell? ⟨w1.heap.size, 1, none⟩ = some (.string P') ∧ w'.cell? ⟨w1.heap.size, 2, none⟩ = some (.string T') ∧ w'.cell? ⟨w1.heap.size, 3, none⟩ = some (.string F') ∧ w'.cell? ⟨w1.heap.size, 4, none⟩ = some (.int .i64 A') ∧ w'.cell? ⟨w1.heap.size, 5, none⟩ = some (.slice qa mo da) ∧ w'.cell? ⟨w1.heap.size, 6, none⟩ = some (.slice qb mn db))
  (first | with_reducible exact hS0 | with_reducible exact hS5 | with_reducible exact hS6)
  (first
   | (go_at_call 49; with_reducible (refine (HIn.out _ (Fr.then7 (Hid.out HW4) (Fr.drew None' _))).mono ?_); rintro e w5 ⟨po, co, pn, cn, rfl, HRI, f5⟩; have G5 := Zy (Fr.then7 (Fr.drew None' w4) f5); have hS5 := HS.out w5 (Hid.out G5); clear f5)
   | (go_at_call 83; with_reducible (refine (HAl.out w5 (Fr.then7 (Hid.out HW4) (Hid.out G5)) po pn co cn (Hid.out HRI)).mono ?_); rintro e w6 ⟨rfl, f6⟩; have G6 := Zy (Fr.then7 (Hid.out G5) f6); have hS6 := HS.out w6 (Hid.out G6); clear f6)
   | fail)
 clear hS0 hS5 hS6 HRI HIn HAl HJ2 HS
 have HW6 := Zy (HW4.out.then7 G6.out)
 have HB6 := Zy (HB.out w6 (HF4.out.then7 G6.out))
 clear HB HF HF3 HF4 HW4 G5 G6 hw1 hw2
 cases RA with
 | true =>
  have HFW := HW6
  clear HJ4 HEq
  have HJ := Zy (HJ3.out (by simp) (by simp) (by simp))
  go_wp2_with fail
  go_ret2
  exact ⟨HFW.out, Or.inr (Or.inl ⟨HJ.out, rfl⟩)⟩
 | false =>
 have HJ := Zy (HJ4.out (by simp) (by simp) (by simp))
 clear HJ3 HJ4
 have HFW := HW6
 obtain ⟨x0, x1, x2, x3, x4, x5, x6⟩ := HB6.out.1.cells
 obtain ⟨y0, y1, y2, y3, y4, y5, y6⟩ := HB6.out.2.cells
 have xz := HB6.out.1.frozen
 have q5 := HEq.out w6 HW6.out
 have q6 := Path.apart_any P T' w6
 have HAp := Zy (show Path.apart P.data.toList T'.data.toList = apP P T' from rfl)
 rw [HAp.out] at q6
 clear HEq HAp
 by_cases hK : K = K'
 case neg =>
  have z1 : (K == K') = false := beq_eq_false_iff_ne.2 hK
  have HN1 := Zy (show Z0 ⟨K, P, T, F, A, lO, lN⟩ ⟨K', P', T', F', A', mO, mN⟩ = none from HJ.out.trans (if_pos hK))
  clear hK HJ q5 q6
  go_wp2_with fail
  go_ret2
  exact ⟨HFW.out, Or.inl ⟨HN1.out, rfl⟩⟩
 case pos =>
 subst hK
 have HJ := Zy (HJ.out.trans (if_neg (by simp)))
 by_cases h9 : K = 9
 ·subst h9
  by_cases hP : P = P'
  case neg =>
   obtain ⟨z1, z2⟩ := Lines.str_no hP
   have HN1 := Zy (show Z0 ⟨9, P, T, F, A, lO, lN⟩ ⟨9, P', T', F', A', mO, mN⟩ = none from HJ.out.trans (by simp [hP]))
   clear hP q5 q6 HJ
   go_wp2_with fail
   go_ret2
   exact ⟨HFW.out, Or.inl ⟨HN1.out, rfl⟩⟩
  case pos =>
  subst hP
  by_cases hT : T = F'
  case neg =>
   obtain ⟨z1, z2⟩ := Lines.str_no hT
   have HN1 := Zy (show Z0 ⟨9, P, T, F, A, lO, lN⟩ ⟨9, P, T', F', A', mO, mN⟩ = none from HJ.out.trans (by simp [hT]))
   clear hT q5 q6 HJ
   go_wp2_with fail
   go_ret2
   exact ⟨HFW.out, Or.inl ⟨HN1.out, rfl⟩⟩
  case pos =>
  subst hT
  have HY := Zy (show Z0 ⟨9, P, T, F, A, lO, lN⟩ ⟨9, P, T', T, A', mO, mN⟩ = some [⟨9, P, T', F, A, lO, lN⟩] from HJ.out.trans (by simp))
  clear HJ q5 q6
  have HZ := Zy (show Fr None' w (w6.setCell ⟨w.heap.size, 2, none⟩ (.string T')) ∧ (w6.setCell ⟨w.heap.size, 2, none⟩ (.string T')).heap.size = w6.heap.size ∧ w.heap.size ≤ w6.heap.size from ⟨HW6.out.trans (Fr.setQ _ _ _ _) (fun i e => Or.inr (by omega)), by simp [World.setCell], HW6.out.size⟩)
  go_wp2_with fail
  go_ret2
  exact ⟨HZ.out.1.then7 (Fr.alloc _ _ _), Or.inr (Or.inr ⟨_, w6.heap.size, _, HY.out, rfl, Box.new10 HZ.out.2.1 _ _ _ _ _ _ _, rfl, Or.inl ⟨rfl, rfl⟩, HZ.out.2.2⟩)⟩
 by_cases h7 : K = 7
 ·subst h7
  by_cases hP : P = P'
  case neg =>
   obtain ⟨z1, z2⟩ := Lines.str_no hP
   have HN1 := Zy (show Z0 ⟨7, P, T, F, A, lO, lN⟩ ⟨7, P', T', F', A', mO, mN⟩ = none from HJ.out.trans (by simp [hP]))
   clear hP q5 q6 HJ
   go_wp2_with fail
   go_ret2
   exact ⟨HFW.out, Or.inl ⟨HN1.out, rfl⟩⟩
  case pos =>
  subst hP
  by_cases hA : A = A'
  case neg =>
   have z1 : (A == A') = false := beq_eq_false_iff_ne.2 hA
   have HN1 := Zy (show Z0 ⟨7, P, T, F, A, lO, lN⟩ ⟨7, P, T', F', A', mO, mN⟩ = none from HJ.out.trans (by simp [hA]))
   clear hA q5 q6 HJ
   go_wp2_with fail
   go_ret2
   exact ⟨HFW.out, Or.inl ⟨HN1.out, rfl⟩⟩
  case pos =>
  subst hA
  have HD := Zy (show Z0 ⟨7, P, T, F, A, lO, lN⟩ ⟨7, P, T', F', A, mO, mN⟩ = if lN = mO then some [⟨7, P, T, F, A, lO, mN⟩] else none from HJ.out.trans (by simp))
  obtain ⟨R, hR⟩ : ∃ R, decide (lN = mO) = R := ⟨_, rfl⟩
  have HR := Zy hR
  rw [hR] at q5
  clear HJ q6 hR
  go_wp2_with fail
  with_reducible refine q5.mono ?_
  rintro e w7 ⟨rfl, f7⟩
  have HW7 := Zy (HW6.out.then7 f7)
  have HB7 := Zy (show Box w7 w.heap.size (.int .i64 7) (.string P) (.string T) (.string F) (.int .i64 A) (.slice pa no ca) (.slice pb nn cb) ∧ Box w7 w1.heap.size (.int .i64 7) (.string P) (.string T') (.string F') (.int .i64 A) (.slice qa mo da) (.slice qb mn db) from ⟨HB6.out.1.kept f7, HB6.out.2.kept f7⟩)
  clear q5 f7 x0 x1 x2 x3 x4 x5 x6 y0 y1 y2 y3 y4 y5 y6 xz
  obtain ⟨x0, x1, x2, x3, x4, x5, x6⟩ := HB7.out.1.cells
  obtain ⟨y0, y1, y2, y3, y4, y5, y6⟩ := HB7.out.2.cells
  have xz := HB7.out.1.frozen
  cases R with
  | false =>
   have HN1 := Zy (HD.out.trans (if_neg (of_decide_eq_false HR.out)))
   clear HD HR
   go_wp2_with fail
   go_ret2
   exact ⟨HW7.out, Or.inl ⟨HN1.out, rfl⟩⟩
  | true =>
   have HY := Zy (HD.out.trans (if_pos (of_decide_eq_true HR.out)))
   clear HD HR
   have HZ := Zy (show Fr None' w (w7.setCell ⟨w.heap.size, 6, none⟩ (.slice qb mn db)) ∧ (w7.setCell ⟨w.heap.size, 6, none⟩ (.slice qb mn db)).heap.size = w7.heap.size ∧ w.heap.size ≤ w7.heap.size from ⟨HW7.out.trans (Fr.setQ _ _ _ _) (fun i e => Or.inr (by omega)), by simp [World.setCell], HW7.out.size⟩)
   go_wp2_with fail
   go_ret2
   exact ⟨HZ.out.1.then7 (Fr.alloc _ _ _), Or.inr (Or.inr ⟨_, w7.heap.size, _, HY.out, rfl, Box.new10 HZ.out.2.1 _ _ _ _ _ _ _, rfl, Or.inr ⟨rfl, rfl⟩, HZ.out.2.2⟩)⟩
 by_cases h10 : K = 10
 ·subst h10
  by_cases hP : T = P'
  case neg =>
   obtain ⟨z1, z2⟩ := Lines.str_no hP
   have HN1 := Zy (show Z0 ⟨10, P, T, F, A, lO, lN⟩ ⟨10, P', T', F', A', mO, mN⟩ = none from HJ.out.trans (by simp [hP]))
   clear hP q5 q6 HJ
   go_wp2_with fail
   go_ret2
   exact ⟨HFW.out, Or.inl ⟨HN1.out, rfl⟩⟩
  case pos =>
  subst hP
  have HD := Zy (show Z0 ⟨10, P, T, F, A, lO, lN⟩ ⟨10, T, T', F', A', mO, mN⟩ = if apP P T' = true then some [⟨10, P, T', F, A, lO, lN⟩] else none from HJ.out.trans (by simp))
  obtain ⟨R, hR⟩ : ∃ R, apP P T' = R := ⟨_, rfl⟩
  rw [hR] at HD q6
  clear HJ q5 hR
  go_wp2_with fail
  with_reducible refine q6.mono ?_
  rintro e w7 ⟨rfl, rfl⟩
  clear q6
  cases R with
  | false =>
   have HN1 := Zy (HD.out.trans (if_neg (by simp)))
   clear HD
   go_wp2_with fail
   go_ret2
   exact ⟨HFW.out, Or.inl ⟨HN1.out, rfl⟩⟩
  | true =>
   have HY := Zy (HD.out.trans (if_pos rfl))
   clear HD
   have HZ := Zy (show Fr None' w (w6.setCell ⟨w.heap.size, 2, none⟩ (.string T')) ∧ (w6.setCell ⟨w.heap.size, 2, none⟩ (.string T')).heap.size = w6.heap.size ∧ w.heap.size ≤ w6.heap.size from ⟨HW6.out.trans (Fr.setQ _ _ _ _) (fun i e => Or.inr (by omega)), by simp [World.setCell], HW6.out.size⟩)
   go_wp2_with fail
   go_ret2
   exact ⟨HZ.out.1.then7 (Fr.alloc _ _ _), Or.inr (Or.inr ⟨_, w6.heap.size, _, HY.out, rfl, Box.new10 HZ.out.2.1 _ _ _ _ _ _ _, rfl, Or.inl ⟨rfl, rfl⟩, HZ.out.2.2⟩)⟩
 have z1 : (K == 9) = false := beq_eq_false_iff_ne.2 h9
 have z2 : (K == 7) = false := beq_eq_false_iff_ne.2 h7
 have z3 : (K == 10) = false := beq_eq_false_iff_ne.2 h10
 have HN1 := Zy (show Z0 ⟨K, P, T, F, A, lO, lN⟩ ⟨K, P', T', F', A', mO, mN⟩ = none from HJ.out.trans (by simp [h9, h7, h10]))
 clear h9 h7 h10 q5 q6 HJ
 go_wp2_with fail
 go_ret2
 exact ⟨HFW.out, Or.inl ⟨HN1.out, rfl⟩⟩
end Go.Proofs.YtbnfjjjdnbcehaaGreatDoor
namespace Go.Proofs.YtbnfjjjdnbcehaaGreatDoor
open Go.RowKit
set_option maxRecDepth 100000
def Z9 (x y : Pr) (w0 w : World) (e : Ending) (w' : World) : Prop := ∃ va vb, e = .returned (.tuple #[va, vb, .bool (Zj x y).2.2]) ∧ Yf w0 va (Zj x y).1 ∧ Yf w0 vb (Zj x y).2.1 ∧ Fr None' w w'
theorem Zq {cc : Pr × Pr × Bool} {w0 w w' : World} (h : cc = Yz) (f : Fr None' w w') : ∃ va vb, Ending.returned (.tuple #[.agg #[.int .i64 0, .string ⟨#[]⟩, .string ⟨#[]⟩, .string ⟨#[]⟩, .int .i64 0, .slice none 0 0, .slice none 0 0], .agg #[.int .i64 0, .string ⟨#[]⟩, .string ⟨#[]⟩, .string ⟨#[]⟩, .int .i64 0, .slice none 0 0, .slice none 0 0], .bool false]) = .returned (.tuple #[va, vb, .bool cc.2.2]) ∧ Yf w0 va cc.1 ∧ Yf w0 vb cc.2.1 ∧ Fr None' w w' := by
 rw [h]
 exact ⟨_, _, rfl, (zero_new w0 w0).val, (zero_new w0 w0).val, f⟩
theorem two_newD {w W : World} {x0 x1 x2 x3 x4 x5 x6 y0 y1 y2 y3 y4 y5 y6 : Value} (h : (w.alloc (.cells #[x0, x1, x2, x3, x4, x5, x6] 43)).alloc (.cells #[y0, y1, y2, y3, y4, y5, y6] 43) = W) : Box W w.heap.size x0 x1 x2 x3 x4 x5 x6 ∧ Box W (w.heap.size + 1) y0 y1 y2 y3 y4 y5 y6 ∧ Fr None' w W := by
 subst h
 exact ⟨(Box.new w _ _ _ _ _ _ _).alloc10 _, Box.new10 (by simp) _ _ _ _ _ _ _, alloc10 (Fr.alloc None' _ _) _⟩
theorem Yt {x : Pr} (h : Zw x = true) (hk : x.kind = 7) : 0 ≤ x.pos ∧ x.pos ≤ 1073741824 := by
 obtain ⟨K, P, T, F, A, lO, lN⟩ := x
 simp only at hk
 subst hk
 simp [Zw, Ze, Zm] at h
 simp only
 omega
end Go.Proofs.YtbnfjjjdnbcehaaGreatDoor
namespace Go.Proofs.YtbnfjjjdnbcehaaGreatDoor
open Go.RowKit
set_option maxRecDepth 100000
theorem rcomm_00 (x y : Pr) (pa pb qa qb : Option Addr) (no nn ca cb mo mn da db : Nat) (w : World) (kx : Ys x = 0 ∧ x.kind ≤ 6 ∧ 1 ≤ x.kind) (ky : Ys y = 0 ∧ y.kind ≤ 6 ∧ 1 ≤ y.kind) (hno : x.old.length = no) (hnn : x.new.length = nn) (hmo : y.old.length = mo) (hmn : y.new.length = mn) (sx : Zs x) (sy : Zs y) (fx : Zw x = true) (fy : Zw y = true)
  (HR1 : Hid (∀ w', Fr None' w w' → Calls Tryz.prog 61 #[.agg #[.int .i64 x.kind, .string x.path, .string x.dst, .string x.src, .int .i64 x.pos, .slice pa no ca, .slice pb nn cb]] w' (fun e w'' => e = .returned (.bool true) ∧ Fr None' w' w'')))
  (HR2 : Hid (∀ w', Fr None' w w' → Calls Tryz.prog 61 #[.agg #[.int .i64 y.kind, .string y.path, .string y.dst, .string y.src, .int .i64 y.pos, .slice qa mo da, .slice qb mn db]] w' (fun e w'' => e = .returned (.bool true) ∧ Fr None' w' w'')))
  (HQ1 : Hid (∀ w', Fr None' w w' → Calls Tryz.prog 61 #[.agg #[.int .i64 (Zx x y).1.kind, .string (Zx x y).1.path, .string (Zx x y).1.dst, .string (Zx x y).1.src, .int .i64 (Zx x y).1.pos, .slice qa mo da, .slice qb mn db]] w' (fun e w'' => e = .returned (.bool (Zw (Zx x y).1)) ∧ Fr None' w' w'')))
  (HQ2 : Hid (∀ w', Fr None' w w' → Calls Tryz.prog 61 #[.agg #[.int .i64 (Zx x y).2.1.kind, .string (Zx x y).2.1.path, .string (Zx x y).2.1.dst, .string (Zx x y).2.1.src, .int .i64 (Zx x y).2.1.pos, .slice pa no ca, .slice pb nn cb]] w' (fun e w'' => e = .returned (.bool (Zw (Zx x y).2.1)) ∧ Fr None' w' w'')))
  (w0 : World) (HV : Hid (Yf w0 (.agg #[.int .i64 (Zx x y).1.kind, .string (Zx x y).1.path, .string (Zx x y).1.dst, .string (Zx x y).1.src, .int .i64 (Zx x y).1.pos, .slice qa mo da, .slice qb mn db]) (Zx x y).1 ∧ Yf w0 (.agg #[.int .i64 (Zx x y).2.1.kind, .string (Zx x y).2.1.path, .string (Zx x y).2.1.dst, .string (Zx x y).2.1.src, .int .i64 (Zx x y).2.1.pos, .slice pa no ca, .slice pb nn cb]) (Zx x y).2.1)) :
  Calls Tryz.prog 57 #[.agg #[.int .i64 x.kind, .string x.path, .string x.dst, .string x.src, .int .i64 x.pos, .slice pa no ca, .slice pb nn cb], .agg #[.int .i64 y.kind, .string y.path, .string y.dst, .string y.src, .int .i64 y.pos, .slice qa mo da, .slice qb mn db]] w fun e w' => Z9 x y w0 w e w' := by
 have HCk := Zz (show Zj x y = Zu (Zx x y) from by unfold Zj; rw [if_pos (by simp [fx, fy])])
 have HRu := Zz (show Zx x y = Zx x y from rfl)
 have HLn := Zz (fun (h7 : x.kind = 7) (h7' : y.kind = 7) w' => Yh x y pa pb qa qb no nn ca cb mo mn da db w' hno hnn hmo hmn (by have := sx.old; omega) (by have := sx.new; omega) (by have := sy.old; omega) (by have := sy.new; omega) (Yt fx h7) (Yt fy h7'))
 have HCx := Zz (fun w' => Z8 x pa pb no nn ca cb w')
 have HCy := Zz (fun w' => Z8 y qa qb mo mn da db w')
 have HAx := Zz (fun w' => Zf x pa pb no nn ca cb w')
 have HAy := Zz (fun w' => Zf y qa qb mo mn da db w')
 have HP1 := Zz (fun w' => Zn x y.path pa pb no nn ca cb w' sx.path sx.dst sy.path)
 have HP2 := Zz (fun w' => Zn x y.dst pa pb no nn ca cb w' sx.path sx.dst sy.dst)
 have HP3 := Zz (fun w' => Zn y x.path qa qb mo mn da db w' sy.path sy.dst sx.path)
 have HP4 := Zz (show ∀ w', Calls Tryz.prog 63 #[.string x.path, .string y.path] w' (fun e w'' => e = .returned (.bool (apP x.path y.path)) ∧ w' = w'') from fun w' => Path.rapart_any x.path y.path w' (by have := sx.path; omega) (by have := sy.path; omega))
 have HM1 := Zz (show ∀ w', Calls Tryz.prog 80 #[.string y.path, .string x.dst, .string x.path] w' (fun e w'' => e = .returned (.tuple #[.string (moP y.path x.dst x.path), .bool (wiP y.path x.dst)]) ∧ w' = w'') from fun w' => Path.rmoved_any y.path x.dst x.path w' (by have := sy.path; omega) (by have := sx.dst; omega) (by have := sx.path; omega))
 have HM2 := Zz (show ∀ w', Calls Tryz.prog 80 #[.string x.path, .string y.path, .string y.dst] w' (fun e w'' => e = .returned (.tuple #[.string (moP x.path y.path y.dst), .bool (wiP x.path y.path)]) ∧ w' = w'') from fun w' => Path.rmoved_any x.path y.path y.dst w' (by have := sx.path; omega) (by have := sy.path; omega) (by have := sy.dst; omega))
 have HW1 := Zz (show ∀ w', Calls Tryz.prog 81 #[.string y.path, .string x.path] w' (fun e w'' => e = .returned (.bool (wiP y.path x.path)) ∧ w' = w'') from fun w' => Path.rwithin_any y.path x.path w' (by have := sy.path; omega) (by have := sx.path; omega))
 have HW2 := Zz (show ∀ w', Calls Tryz.prog 81 #[.string x.path, .string y.dst] w' (fun e w'' => e = .returned (.bool (wiP x.path y.dst)) ∧ w' = w'') from fun w' => Path.rwithin_any x.path y.dst w' (by have := sx.path; omega) (by have := sy.dst; omega))
 generalize hr : Zx x y = r at HCk HQ1 HQ2 HV
 have HRr := Zz hr
 unfold Z9
 generalize Zj x y = cc at HCk ⊢
 obtain ⟨K, P, T, F, A, lO, lN⟩ := x
 obtain ⟨K', P', T', F', A', lO', lN'⟩ := y
 simp only at hno hnn hmo hmn HR1 HR2 HLn HCx HCy HAx HAy HP1 HP2 HP3 HP4 HM1 HM2 HW1 HW2 kx ky ⊢
 clear hno hnn hmo hmn sx sy fx fy HRu
 obtain ⟨w1, hw1⟩ : ∃ w1, w.alloc (.cells #[.int .i64 K, .string P, .string T, .string F, .int .i64 A, .slice pa no ca, .slice pb nn cb] 43) = w1 := ⟨_, rfl⟩
 obtain ⟨w2, hw2⟩ : ∃ w2, w1.alloc (.cells #[.int .i64 K', .string P', .string T', .string F', .int .i64 A', .slice qa mo da, .slice qb mn db] 43) = w2 := ⟨_, rfl⟩
 obtain ⟨w3, hw3⟩ : ∃ w3, w2.alloc (.cells #[.int .i64 0, .string ⟨#[]⟩, .string ⟨#[]⟩, .string ⟨#[]⟩, .int .i64 0, .slice none 0 0, .slice none 0 0] 43) = w3 := ⟨_, rfl⟩
 obtain ⟨w4, hw4⟩ : ∃ w4, w3.alloc (.cells #[.int .i64 0, .string ⟨#[]⟩, .string ⟨#[]⟩, .string ⟨#[]⟩, .int .i64 0, .slice none 0 0, .slice none 0 0] 43) = w4 := ⟨_, rfl⟩
 have F1 : Fr None' w w1 := hw1 ▸ Fr.alloc None' w _
 have F2 : Fr None' w1 w2 := hw2 ▸ Fr.alloc None' w1 _
 have F3 : Fr None' w2 w3 := hw3 ▸ Fr.alloc None' w2 _
 have F4 : Fr None' w3 w4 := hw4 ▸ Fr.alloc None' w3 _
 have BX : Box w4 w.heap.size (.int .i64 K) (.string P) (.string T) (.string F) (.int .i64 A) (.slice pa no ca) (.slice pb nn cb) := (hw1 ▸ Box.new w _ _ _ _ _ _ _ : Box w1 _ _ _ _ _ _ _ _).kept ((F2.then7 F3).then7 F4)
 have BY : Box w4 w1.heap.size (.int .i64 K') (.string P') (.string T') (.string F') (.int .i64 A') (.slice qa mo da) (.slice qb mn db) := (hw2 ▸ Box.new w1 _ _ _ _ _ _ _ : Box w2 _ _ _ _ _ _ _ _).kept (F3.then7 F4)
 have BC : Box w4 w2.heap.size (.int .i64 0) (.string ⟨#[]⟩) (.string ⟨#[]⟩) (.string ⟨#[]⟩) (.int .i64 0) (.slice none 0 0) (.slice none 0 0) := (hw3 ▸ Box.new w2 _ _ _ _ _ _ _ : Box w3 _ _ _ _ _ _ _ _).kept F4
 have BD : Box w4 w3.heap.size (.int .i64 0) (.string ⟨#[]⟩) (.string ⟨#[]⟩) (.string ⟨#[]⟩) (.int .i64 0) (.slice none 0 0) (.slice none 0 0) := hw4 ▸ Box.new w3 _ _ _ _ _ _ _
 have s1 : w1.heap.size = w.heap.size + 1 := by rw [← hw1]; simp
 have s2 : w2.heap.size = w1.heap.size + 1 := by rw [← hw2]; simp
 have s3 : w3.heap.size = w2.heap.size + 1 := by rw [← hw3]; simp
 have HF : Hid (Fr None' w w4) := ((F1.then7 F2).then7 F3).then7 F4
 have HN : Hid (w.heap.size < w1.heap.size ∧ w1.heap.size < w2.heap.size ∧ w2.heap.size < w3.heap.size) := ⟨by omega, by omega, by omega⟩
 have n1 : ¬ w.heap.size = w1.heap.size := by omega
 have n2 : ¬ w.heap.size = w2.heap.size := by omega
 have n3 : ¬ w.heap.size = w3.heap.size := by omega
 have n4 : ¬ w1.heap.size = w2.heap.size := by omega
 have n5 : ¬ w1.heap.size = w3.heap.size := by omega
 have n6 : ¬ w2.heap.size = w3.heap.size := by omega
 have HBs : Hid (∀ w', Fr None' w4 w' → Box w' w.heap.size (.int .i64 K) (.string P) (.string T) (.string F) (.int .i64 A) (.slice pa no ca) (.slice pb nn cb) ∧ Box w' w1.heap.size (.int .i64 K') (.string P') (.string T') (.string F') (.int .i64 A') (.slice qa mo da) (.slice qb mn db) ∧ Box w' w2.heap.size (.int .i64 0) (.string ⟨#[]⟩) (.string ⟨#[]⟩) (.string ⟨#[]⟩) (.int .i64 0) (.slice none 0 0) (.slice none 0 0) ∧ Box w' w3.heap.size (.int .i64 0) (.string ⟨#[]⟩) (.string ⟨#[]⟩) (.string ⟨#[]⟩) (.int .i64 0) (.slice none 0 0) (.slice none 0 0)) := fun w' f => ⟨BX.kept f, BY.kept f, BC.kept f, BD.kept f⟩
 obtain ⟨x0, x1, x2, x3, x4, x5, x6⟩ := BX.cells
 clear F1 F2 F3 F4 BX BY BC BD s1 s2 s3
 clear n1 n2 n3 n4 n5 hr
 obtain ⟨xcl, xk1, xk2⟩ := kx
 obtain ⟨ycl, yk1, yk2⟩ := ky
 have q1 := HR1.out w4 HF.out
 go_enter Tryz.func57, Tryz.ntmps57
 go_wp2_with fail
 with_reducible refine q1.mono ?_
 rintro e w5 ⟨rfl, f5⟩
 have HF5 := Zz f5
 have q2 := HR2.out w5 (HF.out.then7 f5)
 clear q1 f5 x0 x1 x2 x3 x4 x5 x6
 obtain ⟨y0, y1, y2, y3, y4, y5, y6⟩ := (HBs.out w5 HF5.out).2.1.cells
 go_wp2_with fail
 with_reducible refine q2.mono ?_
 rintro e w6 ⟨rfl, f6⟩
 have HFc := Zz (HF5.out.then7 f6)
 clear q2 f6 HF5 y0 y1 y2 y3 y4 y5 y6 HR1 HR2
 obtain ⟨x0, x1, x2, x3, x4, x5, x6⟩ := Box.cells (HBs.out _ (Hid.out HFc)).1
 obtain ⟨y0, y1, y2, y3, y4, y5, y6⟩ := Box.cells (HBs.out _ (Hid.out HFc)).2.1
 obtain ⟨c0, c1, c2, c3, c4, c5, c6⟩ := Box.cells (HBs.out _ (Hid.out HFc)).2.2.1
 obtain ⟨d0, d1, d2, d3, d4, d5, d6⟩ := Box.cells (HBs.out _ (Hid.out HFc)).2.2.2
 have xz := Box.frozen (HBs.out _ (Hid.out HFc)).1
 have yz := Box.frozen (HBs.out _ (Hid.out HFc)).2.1
 have cz := Box.frozen (HBs.out _ (Hid.out HFc)).2.2.1
 have dz := Box.frozen (HBs.out _ (Hid.out HFc)).2.2.2
 have x7 : (K == 7) = false := beq_eq_false_iff_ne.2 (by omega)
 have x10 : (K == 10) = false := beq_eq_false_iff_ne.2 (by omega)
 have xc : decide (7 ≤ K ∧ K ≤ 9) = false := by simp; omega
 have xa : decide (K ≤ 6) = true := by simp; omega
 have y7 : (K' == 7) = false := beq_eq_false_iff_ne.2 (by omega)
 have y10 : (K' == 10) = false := beq_eq_false_iff_ne.2 (by omega)
 have yc : decide (7 ≤ K' ∧ K' ≤ 9) = false := by simp; omega
 have ya : decide (K' ≤ 6) = true := by simp; omega
 rw [xc] at HCx
 rw [yc] at HCy
 rw [xa] at HAx
 rw [ya] at HAy
 have HCl := Zz (And.intro xcl ycl)
 obtain rfl : (⟨K', P', T', F', A', lO', lN'⟩, ⟨K, P, T, F, A, lO, lN⟩, (apP P P')) = r := (show Zx ⟨K, P, T, F, A, lO, lN⟩ ⟨K', P', T', F', A', lO', lN'⟩ = _ from (rule_ap (Or.inl HCl.out.1) (Or.inl HCl.out.2)).trans (by have hk : ¬ K = 10 := (by omega); have hk' : ¬ K' = 10 := (by omega); simp [Yg, Yn, hk, hk'])).symm.trans HRr.out
 clear xc yc xa ya xcl ycl xk1 xk2 yk1 yk2
 generalize (apP P P') = R at *
 cases R with
 | false =>
  simp only at HQ1 HQ2 HV HCk
  go_wp2_with (first | (go_at_call 79; with_reducible (refine (HCx.out _).mono ?_); rintro e w' ⟨rfl, f⟩; replace HFc := Zz (Fr.then7 (Hid.out HFc) f); clear f x0 x1 x2 x3 x4 x5 x6 y0 y1 y2 y3 y4 y5 y6 c0 c1 c2 c3 c4 c5 c6 d0 d1 d2 d3 d4 d5 d6 xz yz cz dz; obtain ⟨x0, x1, x2, x3, x4, x5, x6⟩ := Box.cells (HBs.out _ (Hid.out HFc)).1; obtain ⟨y0, y1, y2, y3, y4, y5, y6⟩ := Box.cells (HBs.out _ (Hid.out HFc)).2.1; obtain ⟨c0, c1, c2, c3, c4, c5, c6⟩ := Box.cells (HBs.out _ (Hid.out HFc)).2.2.1; obtain ⟨d0, d1, d2, d3, d4, d5, d6⟩ := Box.cells (HBs.out _ (Hid.out HFc)).2.2.2; have xz := Box.frozen (HBs.out _ (Hid.out HFc)).1; have yz := Box.frozen (HBs.out _ (Hid.out HFc)).2.1; have cz := Box.frozen (HBs.out _ (Hid.out HFc)).2.2.1; have dz := Box.frozen (HBs.out _ (Hid.out HFc)).2.2.2) | (go_at_call 79; with_reducible (refine (HCy.out _).mono ?_); rintro e w' ⟨rfl, f⟩; replace HFc := Zz (Fr.then7 (Hid.out HFc) f); clear f x0 x1 x2 x3 x4 x5 x6 y0 y1 y2 y3 y4 y5 y6 c0 c1 c2 c3 c4 c5 c6 d0 d1 d2 d3 d4 d5 d6 xz yz cz dz; obtain ⟨x0, x1, x2, x3, x4, x5, x6⟩ := Box.cells (HBs.out _ (Hid.out HFc)).1; obtain ⟨y0, y1, y2, y3, y4, y5, y6⟩ := Box.cells (HBs.out _ (Hid.out HFc)).2.1; obtain ⟨c0, c1, c2, c3, c4, c5, c6⟩ := Box.cells (HBs.out _ (Hid.out HFc)).2.2.1; obtain ⟨d0, d1, d2, d3, d4, d5, d6⟩ := Box.cells (HBs.out _ (Hid.out HFc)).2.2.2; have xz := Box.frozen (HBs.out _ (Hid.out HFc)).1; have yz := Box.frozen (HBs.out _ (Hid.out HFc)).2.1; have cz := Box.frozen (HBs.out _ (Hid.out HFc)).2.2.1; have dz := Box.frozen (HBs.out _ (Hid.out HFc)).2.2.2) | (go_at_call 82; with_reducible (refine (HAx.out _).mono ?_); rintro e w' ⟨rfl, f⟩; replace HFc := Zz (Fr.then7 (Hid.out HFc) f); clear f x0 x1 x2 x3 x4 x5 x6 y0 y1 y2 y3 y4 y5 y6 c0 c1 c2 c3 c4 c5 c6 d0 d1 d2 d3 d4 d5 d6 xz yz cz dz; obtain ⟨x0, x1, x2, x3, x4, x5, x6⟩ := Box.cells (HBs.out _ (Hid.out HFc)).1; obtain ⟨y0, y1, y2, y3, y4, y5, y6⟩ := Box.cells (HBs.out _ (Hid.out HFc)).2.1; obtain ⟨c0, c1, c2, c3, c4, c5, c6⟩ := Box.cells (HBs.out _ (Hid.out HFc)).2.2.1; obtain ⟨d0, d1, d2, d3, d4, d5, d6⟩ := Box.cells (HBs.out _ (Hid.out HFc)).2.2.2; have xz := Box.frozen (HBs.out _ (Hid.out HFc)).1; have yz := Box.frozen (HBs.out _ (Hid.out HFc)).2.1; have cz := Box.frozen (HBs.out _ (Hid.out HFc)).2.2.1; have dz := Box.frozen (HBs.out _ (Hid.out HFc)).2.2.2) | (go_at_call 82; with_reducible (refine (HAy.out _).mono ?_); rintro e w' ⟨rfl, f⟩; replace HFc := Zz (Fr.then7 (Hid.out HFc) f); clear f x0 x1 x2 x3 x4 x5 x6 y0 y1 y2 y3 y4 y5 y6 c0 c1 c2 c3 c4 c5 c6 d0 d1 d2 d3 d4 d5 d6 xz yz cz dz; obtain ⟨x0, x1, x2, x3, x4, x5, x6⟩ := Box.cells (HBs.out _ (Hid.out HFc)).1; obtain ⟨y0, y1, y2, y3, y4, y5, y6⟩ := Box.cells (HBs.out _ (Hid.out HFc)).2.1; obtain ⟨c0, c1, c2, c3, c4, c5, c6⟩ := Box.cells (HBs.out _ (Hid.out HFc)).2.2.1; obtain ⟨d0, d1, d2, d3, d4, d5, d6⟩ := Box.cells (HBs.out _ (Hid.out HFc)).2.2.2; have xz := Box.frozen (HBs.out _ (Hid.out HFc)).1; have yz := Box.frozen (HBs.out _ (Hid.out HFc)).2.1; have cz := Box.frozen (HBs.out _ (Hid.out HFc)).2.2.1; have dz := Box.frozen (HBs.out _ (Hid.out HFc)).2.2.2) | (go_at_call 63; with_reducible (refine (HP4.out _).mono ?_); rintro e w' ⟨rfl, rfl⟩) | fail)
  have HBx := Zz (HBs.out _ (Hid.out HFc))
  have HWx := Zz (HF.out.then7 (Hid.out HFc))
  have HC := Zz (HCk.out.trans (show Zu _ = Yz from by unfold Zu; rw [if_neg (by simp)]))
  have hfin := Zt HWx.out HBx.out.2.2.1 HBx.out.2.2.2 n6 (by have := HN.out; omega) (by have := HN.out; omega) (.int .i64 0) (.string ⟨#[]⟩) (.string ⟨#[]⟩) (.string ⟨#[]⟩) (.int .i64 0) (.slice none 0 0) (.slice none 0 0) (.int .i64 0) (.string ⟨#[]⟩) (.string ⟨#[]⟩) (.string ⟨#[]⟩) (.int .i64 0) (.slice none 0 0) (.slice none 0 0)
  exact Zr (u := .bool false) rfl rfl rfl rfl rfl hfin.1 hfin.2.1 (Zq HC.out hfin.2.2.1)
 | true =>
  simp only at HQ1 HQ2 HV HCk
  go_wp2_with (first | (go_at_call 79; with_reducible (refine (HCx.out _).mono ?_); rintro e w' ⟨rfl, f⟩; replace HFc := Zz (Fr.then7 (Hid.out HFc) f); clear f x0 x1 x2 x3 x4 x5 x6 y0 y1 y2 y3 y4 y5 y6 c0 c1 c2 c3 c4 c5 c6 d0 d1 d2 d3 d4 d5 d6 xz yz cz dz; obtain ⟨x0, x1, x2, x3, x4, x5, x6⟩ := Box.cells (HBs.out _ (Hid.out HFc)).1; obtain ⟨y0, y1, y2, y3, y4, y5, y6⟩ := Box.cells (HBs.out _ (Hid.out HFc)).2.1; obtain ⟨c0, c1, c2, c3, c4, c5, c6⟩ := Box.cells (HBs.out _ (Hid.out HFc)).2.2.1; obtain ⟨d0, d1, d2, d3, d4, d5, d6⟩ := Box.cells (HBs.out _ (Hid.out HFc)).2.2.2; have xz := Box.frozen (HBs.out _ (Hid.out HFc)).1; have yz := Box.frozen (HBs.out _ (Hid.out HFc)).2.1; have cz := Box.frozen (HBs.out _ (Hid.out HFc)).2.2.1; have dz := Box.frozen (HBs.out _ (Hid.out HFc)).2.2.2) | (go_at_call 79; with_reducible (refine (HCy.out _).mono ?_); rintro e w' ⟨rfl, f⟩; replace HFc := Zz (Fr.then7 (Hid.out HFc) f); clear f x0 x1 x2 x3 x4 x5 x6 y0 y1 y2 y3 y4 y5 y6 c0 c1 c2 c3 c4 c5 c6 d0 d1 d2 d3 d4 d5 d6 xz yz cz dz; obtain ⟨x0, x1, x2, x3, x4, x5, x6⟩ := Box.cells (HBs.out _ (Hid.out HFc)).1; obtain ⟨y0, y1, y2, y3, y4, y5, y6⟩ := Box.cells (HBs.out _ (Hid.out HFc)).2.1; obtain ⟨c0, c1, c2, c3, c4, c5, c6⟩ := Box.cells (HBs.out _ (Hid.out HFc)).2.2.1; obtain ⟨d0, d1, d2, d3, d4, d5, d6⟩ := Box.cells (HBs.out _ (Hid.out HFc)).2.2.2; have xz := Box.frozen (HBs.out _ (Hid.out HFc)).1; have yz := Box.frozen (HBs.out _ (Hid.out HFc)).2.1; have cz := Box.frozen (HBs.out _ (Hid.out HFc)).2.2.1; have dz := Box.frozen (HBs.out _ (Hid.out HFc)).2.2.2) | (go_at_call 82; with_reducible (refine (HAx.out _).mono ?_); rintro e w' ⟨rfl, f⟩; replace HFc := Zz (Fr.then7 (Hid.out HFc) f); clear f x0 x1 x2 x3 x4 x5 x6 y0 y1 y2 y3 y4 y5 y6 c0 c1 c2 c3 c4 c5 c6 d0 d1 d2 d3 d4 d5 d6 xz yz cz dz; obtain ⟨x0, x1, x2, x3, x4, x5, x6⟩ := Box.cells (HBs.out _ (Hid.out HFc)).1; obtain ⟨y0, y1, y2, y3, y4, y5, y6⟩ := Box.cells (HBs.out _ (Hid.out HFc)).2.1; obtain ⟨c0, c1, c2, c3, c4, c5, c6⟩ := Box.cells (HBs.out _ (Hid.out HFc)).2.2.1; obtain ⟨d0, d1, d2, d3, d4, d5, d6⟩ := Box.cells (HBs.out _ (Hid.out HFc)).2.2.2; have xz := Box.frozen (HBs.out _ (Hid.out HFc)).1; have yz := Box.frozen (HBs.out _ (Hid.out HFc)).2.1; have cz := Box.frozen (HBs.out _ (Hid.out HFc)).2.2.1; have dz := Box.frozen (HBs.out _ (Hid.out HFc)).2.2.2) | (go_at_call 82; with_reducible (refine (HAy.out _).mono ?_); rintro e w' ⟨rfl, f⟩; replace HFc := Zz (Fr.then7 (Hid.out HFc) f); clear f x0 x1 x2 x3 x4 x5 x6 y0 y1 y2 y3 y4 y5 y6 c0 c1 c2 c3 c4 c5 c6 d0 d1 d2 d3 d4 d5 d6 xz yz cz dz; obtain ⟨x0, x1, x2, x3, x4, x5, x6⟩ := Box.cells (HBs.out _ (Hid.out HFc)).1; obtain ⟨y0, y1, y2, y3, y4, y5, y6⟩ := Box.cells (HBs.out _ (Hid.out HFc)).2.1; obtain ⟨c0, c1, c2, c3, c4, c5, c6⟩ := Box.cells (HBs.out _ (Hid.out HFc)).2.2.1; obtain ⟨d0, d1, d2, d3, d4, d5, d6⟩ := Box.cells (HBs.out _ (Hid.out HFc)).2.2.2; have xz := Box.frozen (HBs.out _ (Hid.out HFc)).1; have yz := Box.frozen (HBs.out _ (Hid.out HFc)).2.1; have cz := Box.frozen (HBs.out _ (Hid.out HFc)).2.2.1; have dz := Box.frozen (HBs.out _ (Hid.out HFc)).2.2.2) | (go_at_call 63; with_reducible (refine (HP4.out _).mono ?_); rintro e w' ⟨rfl, rfl⟩) | fail)
  have HBx := Zz (HBs.out _ (Hid.out HFc))
  have HWx := Zz (HF.out.then7 (Hid.out HFc))
  obtain ⟨R7, hR7⟩ : ∃ R, Zw ⟨K, P, T, F, A, lO, lN⟩ = R := ⟨_, rfl⟩
  obtain ⟨R8, hR8⟩ : ∃ R, Zw ⟨K', P', T', F', A', lO', lN'⟩ = R := ⟨_, rfl⟩
  rw [hR7] at HQ2
  rw [hR8] at HQ1
  have HE7 := Zz hR7
  have HE8 := Zz hR8
  clear hR7 hR8
  with_reducible refine (HQ2.out _ HWx.out).mono ?_
  rintro e w7 ⟨rfl, f7⟩
  have HB7 := Zz (show Box w7 w.heap.size (.int .i64 K) (.string P) (.string T) (.string F) (.int .i64 A) (.slice pa no ca) (.slice pb nn cb) ∧ Box w7 w1.heap.size (.int .i64 K') (.string P') (.string T') (.string F') (.int .i64 A') (.slice qa mo da) (.slice qb mn db) ∧ Box w7 w2.heap.size (.int .i64 0) (.string ⟨#[]⟩) (.string ⟨#[]⟩) (.string ⟨#[]⟩) (.int .i64 0) (.slice none 0 0) (.slice none 0 0) ∧ Box w7 w3.heap.size (.int .i64 0) (.string ⟨#[]⟩) (.string ⟨#[]⟩) (.string ⟨#[]⟩) (.int .i64 0) (.slice none 0 0) (.slice none 0 0) from ⟨HBx.out.1.kept f7, HBx.out.2.1.kept f7, HBx.out.2.2.1.kept f7, HBx.out.2.2.2.kept f7⟩)
  replace HWx := Zz (HWx.out.then7 f7)
  replace HBx := HB7
  clear HB7 f7 x0 x1 x2 x3 x4 x5 x6 y0 y1 y2 y3 y4 y5 y6 c0 c1 c2 c3 c4 c5 c6 d0 d1 d2 d3 d4 d5 d6 xz yz cz dz
  cases R7 with
  | false =>
   have HC := Zz (HCk.out.trans (show Zu _ = Yz from by unfold Zu; rw [if_neg (by simp [HE7.out])]))
   have HBf := Zz (show Box w7 w2.heap.size (.int .i64 0) (.string ⟨#[]⟩) (.string ⟨#[]⟩) (.string ⟨#[]⟩) (.int .i64 0) (.slice none 0 0) (.slice none 0 0) ∧ Box w7 w3.heap.size (.int .i64 0) (.string ⟨#[]⟩) (.string ⟨#[]⟩) (.string ⟨#[]⟩) (.int .i64 0) (.slice none 0 0) (.slice none 0 0) from ⟨HBx.out.2.2.1, HBx.out.2.2.2⟩)
   obtain ⟨c0, c1, c2, c3, c4, c5, c6⟩ := HBf.out.1.cells
   obtain ⟨d0, d1, d2, d3, d4, d5, d6⟩ := HBf.out.2.cells
   have cz := HBf.out.1.frozen
   have dz := HBf.out.2.frozen
   go_wp2_with fail
   have hfin := Zt HWx.out HBf.out.1 HBf.out.2 n6 (by have := HN.out; omega) (by have := HN.out; omega) (.int .i64 0) (.string ⟨#[]⟩) (.string ⟨#[]⟩) (.string ⟨#[]⟩) (.int .i64 0) (.slice none 0 0) (.slice none 0 0) (.int .i64 0) (.string ⟨#[]⟩) (.string ⟨#[]⟩) (.string ⟨#[]⟩) (.int .i64 0) (.slice none 0 0) (.slice none 0 0)
   exact Zr (u := .bool false) rfl rfl rfl rfl rfl hfin.1 hfin.2.1 (Zq HC.out hfin.2.2.1)
  | true =>
   obtain ⟨y0, y1, y2, y3, y4, y5, y6⟩ := HBx.out.2.1.cells
   go_wp2_with fail
   with_reducible refine (HQ1.out _ HWx.out).mono ?_
   rintro e w8 ⟨rfl, f8⟩
   have HB8 := Zz (show Box w8 w.heap.size (.int .i64 K) (.string P) (.string T) (.string F) (.int .i64 A) (.slice pa no ca) (.slice pb nn cb) ∧ Box w8 w1.heap.size (.int .i64 K') (.string P') (.string T') (.string F') (.int .i64 A') (.slice qa mo da) (.slice qb mn db) ∧ Box w8 w2.heap.size (.int .i64 0) (.string ⟨#[]⟩) (.string ⟨#[]⟩) (.string ⟨#[]⟩) (.int .i64 0) (.slice none 0 0) (.slice none 0 0) ∧ Box w8 w3.heap.size (.int .i64 0) (.string ⟨#[]⟩) (.string ⟨#[]⟩) (.string ⟨#[]⟩) (.int .i64 0) (.slice none 0 0) (.slice none 0 0) from ⟨HBx.out.1.kept f8, HBx.out.2.1.kept f8, HBx.out.2.2.1.kept f8, HBx.out.2.2.2.kept f8⟩)
   replace HWx := Zz (HWx.out.then7 f8)
   replace HBx := HB8
   clear HB8 f8 y0 y1 y2 y3 y4 y5 y6
   cases R8 with
   | false =>
    have HC := Zz (HCk.out.trans (show Zu _ = Yz from by unfold Zu; rw [if_neg (by simp [HE8.out])]))
    have HBf := Zz (show Box w8 w2.heap.size (.int .i64 0) (.string ⟨#[]⟩) (.string ⟨#[]⟩) (.string ⟨#[]⟩) (.int .i64 0) (.slice none 0 0) (.slice none 0 0) ∧ Box w8 w3.heap.size (.int .i64 0) (.string ⟨#[]⟩) (.string ⟨#[]⟩) (.string ⟨#[]⟩) (.int .i64 0) (.slice none 0 0) (.slice none 0 0) from ⟨HBx.out.2.2.1, HBx.out.2.2.2⟩)
    obtain ⟨c0, c1, c2, c3, c4, c5, c6⟩ := HBf.out.1.cells
    obtain ⟨d0, d1, d2, d3, d4, d5, d6⟩ := HBf.out.2.cells
    have cz := HBf.out.1.frozen
    have dz := HBf.out.2.frozen
    go_wp2_with fail
    have hfin := Zt HWx.out HBf.out.1 HBf.out.2 n6 (by have := HN.out; omega) (by have := HN.out; omega) (.int .i64 0) (.string ⟨#[]⟩) (.string ⟨#[]⟩) (.string ⟨#[]⟩) (.int .i64 0) (.slice none 0 0) (.slice none 0 0) (.int .i64 0) (.string ⟨#[]⟩) (.string ⟨#[]⟩) (.string ⟨#[]⟩) (.int .i64 0) (.slice none 0 0) (.slice none 0 0)
    exact Zr (u := .bool false) rfl rfl rfl rfl rfl hfin.1 hfin.2.1 (Zq HC.out hfin.2.2.1)
   | true =>
    have HC := Zz (HCk.out.trans (show Zu (⟨K', P', T', F', A', lO', lN'⟩, ⟨K, P, T, F, A, lO, lN⟩, true) = (⟨K', P', T', F', A', lO', lN'⟩, ⟨K, P, T, F, A, lO, lN⟩, true) from by unfold Zu; rw [if_pos (by simp [HE7.out, HE8.out])]))
    have HS := Zz (show (∀ w', Fr (fun k => k = w2.heap.size ∨ k = w3.heap.size) w8 w' → Fr (fun k => k = w2.heap.size ∨ k = w3.heap.size) w8 w' ∧ w'.cell? ⟨w.heap.size, 0, none⟩ = some (.int .i64 K) ∧ w'.cell? ⟨w.heap.size, 1, none⟩ = some (.string P) ∧ w'.cell? ⟨w.heap.size, 2, none⟩ = some (.string T) ∧ w'.cell? ⟨w.heap.size, 3, none⟩ = some (.string F) ∧ w'.cell? ⟨w.heap.size, 4, none⟩ = some (.int .i64 A) ∧ w'.cell? ⟨w.heap.size, 5, none⟩ = some (.slice pa no ca) ∧ w'.cell? ⟨w.heap.size, 6, none⟩ = some (.slice pb nn cb) ∧ w'.cell? ⟨w1.heap.size, 0, none⟩ = some (.int .i64 K') ∧ w'.cell? ⟨w1.heap.size, 1, none⟩ = some (.string P') ∧ w'.cell? ⟨w1.heap.size, 2, none⟩ = some (.string T') ∧ w'.cell? ⟨w1.heap.size, 3, none⟩ = some (.string F') ∧ w'.cell? ⟨w1.heap.size, 4, none⟩ = some (.int .i64 A') ∧ w'.cell? ⟨w1.heap.size, 5, none⟩ = some (.slice qa mo da) ∧ w'.cell? ⟨w1.heap.size, 6, none⟩ = some (.slice qb mn db)) from fun w' f => by
     obtain ⟨x0, x1, x2, x3, x4, x5, x6⟩ := (HBx.out.1.fr f (by have := HN.out; omega)).cells
     obtain ⟨y0, y1, y2, y3, y4, y5, y6⟩ := (HBx.out.2.1.fr f (by have := HN.out; omega)).cells
     exact ⟨f, x0, x1, x2, x3, x4, x5, x6, y0, y1, y2, y3, y4, y5, y6⟩)
    have hS0 := HS.out w8.drew (Fr.drew _ w8)
    have hS6 := HS.out (setP w8 w2.heap.size (.int .i64 K') (.string P') (.string T') (.string F') (.int .i64 A') (.slice qa mo da) (.slice qb mn db)).drew (Fr.then (Fr.setP _ (Or.inl rfl) _ _ _ _ _ _ _) (Fr.drew _ _))
    have hS7 := HS.out (setP (setP w8 w2.heap.size (.int .i64 K') (.string P') (.string T') (.string F') (.int .i64 A') (.slice qa mo da) (.slice qb mn db)) w3.heap.size (.int .i64 K) (.string P) (.string T) (.string F) (.int .i64 A) (.slice pa no ca) (.slice pb nn cb)).drew (Fr.then (Fr.then (Fr.setP _ (Or.inl rfl) _ _ _ _ _ _ _) (Fr.setP _ (Or.inr rfl) _ _ _ _ _ _ _)) (Fr.drew _ _))
    obtain ⟨c0, c1, c2, c3, c4, c5, c6⟩ := HBx.out.2.2.1.cells
    obtain ⟨d0, d1, d2, d3, d4, d5, d6⟩ := HBx.out.2.2.2.cells
    have cz := HBx.out.2.2.1.frozen
    have dz := HBx.out.2.2.2.frozen
    go_wp2_with fail
    go_region_held3 (fun w' => Fr (fun k => k = w2.heap.size ∨ k = w3.heap.size) w8 w' ∧ w'.cell? ⟨w.heap.size, 0, none⟩ = some (.int .i64 K) ∧ w'.cell? ⟨w.heap.size, 1, none⟩ = some (.string P) ∧ w'.cell? ⟨w.heap.size, 2, none⟩ = some (.string T) ∧ w'.cell? ⟨w.heap.size, 3, none⟩ = some (.string F) ∧ w'.cell? ⟨w.heap.size, 4, none⟩ = some (.int .i64 A) ∧ w'.cell? ⟨w.heap.size, 5, none⟩ = some (.slice pa no ca) ∧ w'.cell? ⟨w.heap.size, 6, none⟩ = some (.slice pb nn cb) ∧ w'.cell? ⟨w1.heap.size, 0, none⟩ = some (.int .i64 K') ∧ w'.cell? ⟨w1.heap.size, 1, none⟩ = some (.string P') ∧ w'.cell? ⟨w1.heap.size, 2, none⟩ = some (.string T') ∧ w'.cell? ⟨w1.heap.size, 3, none⟩ = some (.string F') ∧ w'.cell? ⟨w1.heap.size, 4, none⟩ = some (.int .i64 A') ∧ w'.cell? ⟨w1.heap.size, 5, none⟩ = some (.slice qa mo da) ∧ w'.cell? ⟨w1.heap.size, 6, none⟩ = some (.slice qb mn db))
     (first | with_reducible exact hS0 | with_reducible exact hS6 | with_reducible exact hS7)
     (fail)
    clear hS0 hS6 hS7 cz dz c0 c1 c2 c3 c4 c5 c6 d0 d1 d2 d3 d4 d5 d6
    go_wp2_with fail
    have hfin := Zt HWx.out HBx.out.2.2.1 HBx.out.2.2.2 n6 (by have := HN.out; omega) (by have := HN.out; omega) (.int .i64 K') (.string P') (.string T') (.string F') (.int .i64 A') (.slice qa mo da) (.slice qb mn db) (.int .i64 K) (.string P) (.string T) (.string F) (.int .i64 A) (.slice pa no ca) (.slice pb nn cb)
    have hfr := hfin.2.2.1.then7 (Fr.drew None' _)
    exact Zr rfl rfl rfl rfl rfl hfin.1.drew hfin.2.1.drew (by rw [HC.out]; exact ⟨_, _, rfl, HV.out.1, HV.out.2, hfr⟩)
theorem rcomm_01 (x y : Pr) (pa pb qa qb : Option Addr) (no nn ca cb mo mn da db : Nat) (w : World) (kx : Ys x = 0 ∧ x.kind ≤ 6 ∧ 1 ≤ x.kind) (ky : Ys y = 1 ∧ 7 ≤ y.kind ∧ y.kind ≤ 9) (hno : x.old.length = no) (hnn : x.new.length = nn) (hmo : y.old.length = mo) (hmn : y.new.length = mn) (sx : Zs x) (sy : Zs y) (fx : Zw x = true) (fy : Zw y = true)
  (HR1 : Hid (∀ w', Fr None' w w' → Calls Tryz.prog 61 #[.agg #[.int .i64 x.kind, .string x.path, .string x.dst, .string x.src, .int .i64 x.pos, .slice pa no ca, .slice pb nn cb]] w' (fun e w'' => e = .returned (.bool true) ∧ Fr None' w' w'')))
  (HR2 : Hid (∀ w', Fr None' w w' → Calls Tryz.prog 61 #[.agg #[.int .i64 y.kind, .string y.path, .string y.dst, .string y.src, .int .i64 y.pos, .slice qa mo da, .slice qb mn db]] w' (fun e w'' => e = .returned (.bool true) ∧ Fr None' w' w'')))
  (HQ1 : Hid (∀ w', Fr None' w w' → Calls Tryz.prog 61 #[.agg #[.int .i64 (Zx x y).1.kind, .string (Zx x y).1.path, .string (Zx x y).1.dst, .string (Zx x y).1.src, .int .i64 (Zx x y).1.pos, .slice qa mo da, .slice qb mn db]] w' (fun e w'' => e = .returned (.bool (Zw (Zx x y).1)) ∧ Fr None' w' w'')))
  (HQ2 : Hid (∀ w', Fr None' w w' → Calls Tryz.prog 61 #[.agg #[.int .i64 (Zx x y).2.1.kind, .string (Zx x y).2.1.path, .string (Zx x y).2.1.dst, .string (Zx x y).2.1.src, .int .i64 (Zx x y).2.1.pos, .slice pa no ca, .slice pb nn cb]] w' (fun e w'' => e = .returned (.bool (Zw (Zx x y).2.1)) ∧ Fr None' w' w'')))
  (w0 : World) (HV : Hid (Yf w0 (.agg #[.int .i64 (Zx x y).1.kind, .string (Zx x y).1.path, .string (Zx x y).1.dst, .string (Zx x y).1.src, .int .i64 (Zx x y).1.pos, .slice qa mo da, .slice qb mn db]) (Zx x y).1 ∧ Yf w0 (.agg #[.int .i64 (Zx x y).2.1.kind, .string (Zx x y).2.1.path, .string (Zx x y).2.1.dst, .string (Zx x y).2.1.src, .int .i64 (Zx x y).2.1.pos, .slice pa no ca, .slice pb nn cb]) (Zx x y).2.1)) :
  Calls Tryz.prog 57 #[.agg #[.int .i64 x.kind, .string x.path, .string x.dst, .string x.src, .int .i64 x.pos, .slice pa no ca, .slice pb nn cb], .agg #[.int .i64 y.kind, .string y.path, .string y.dst, .string y.src, .int .i64 y.pos, .slice qa mo da, .slice qb mn db]] w fun e w' => Z9 x y w0 w e w' := by
 have HCk := Zz (show Zj x y = Zu (Zx x y) from by unfold Zj; rw [if_pos (by simp [fx, fy])])
 have HRu := Zz (show Zx x y = Zx x y from rfl)
 have HLn := Zz (fun (h7 : x.kind = 7) (h7' : y.kind = 7) w' => Yh x y pa pb qa qb no nn ca cb mo mn da db w' hno hnn hmo hmn (by have := sx.old; omega) (by have := sx.new; omega) (by have := sy.old; omega) (by have := sy.new; omega) (Yt fx h7) (Yt fy h7'))
 have HCx := Zz (fun w' => Z8 x pa pb no nn ca cb w')
 have HCy := Zz (fun w' => Z8 y qa qb mo mn da db w')
 have HAx := Zz (fun w' => Zf x pa pb no nn ca cb w')
 have HAy := Zz (fun w' => Zf y qa qb mo mn da db w')
 have HP1 := Zz (fun w' => Zn x y.path pa pb no nn ca cb w' sx.path sx.dst sy.path)
 have HP2 := Zz (fun w' => Zn x y.dst pa pb no nn ca cb w' sx.path sx.dst sy.dst)
 have HP3 := Zz (fun w' => Zn y x.path qa qb mo mn da db w' sy.path sy.dst sx.path)
 have HP4 := Zz (show ∀ w', Calls Tryz.prog 63 #[.string x.path, .string y.path] w' (fun e w'' => e = .returned (.bool (apP x.path y.path)) ∧ w' = w'') from fun w' => Path.rapart_any x.path y.path w' (by have := sx.path; omega) (by have := sy.path; omega))
 have HM1 := Zz (show ∀ w', Calls Tryz.prog 80 #[.string y.path, .string x.dst, .string x.path] w' (fun e w'' => e = .returned (.tuple #[.string (moP y.path x.dst x.path), .bool (wiP y.path x.dst)]) ∧ w' = w'') from fun w' => Path.rmoved_any y.path x.dst x.path w' (by have := sy.path; omega) (by have := sx.dst; omega) (by have := sx.path; omega))
 have HM2 := Zz (show ∀ w', Calls Tryz.prog 80 #[.string x.path, .string y.path, .string y.dst] w' (fun e w'' => e = .returned (.tuple #[.string (moP x.path y.path y.dst), .bool (wiP x.path y.path)]) ∧ w' = w'') from fun w' => Path.rmoved_any x.path y.path y.dst w' (by have := sx.path; omega) (by have := sy.path; omega) (by have := sy.dst; omega))
 have HW1 := Zz (show ∀ w', Calls Tryz.prog 81 #[.string y.path, .string x.path] w' (fun e w'' => e = .returned (.bool (wiP y.path x.path)) ∧ w' = w'') from fun w' => Path.rwithin_any y.path x.path w' (by have := sy.path; omega) (by have := sx.path; omega))
 have HW2 := Zz (show ∀ w', Calls Tryz.prog 81 #[.string x.path, .string y.dst] w' (fun e w'' => e = .returned (.bool (wiP x.path y.dst)) ∧ w' = w'') from fun w' => Path.rwithin_any x.path y.dst w' (by have := sx.path; omega) (by have := sy.dst; omega))
 generalize hr : Zx x y = r at HCk HQ1 HQ2 HV
 have HRr := Zz hr
 unfold Z9
 generalize Zj x y = cc at HCk ⊢
 obtain ⟨K, P, T, F, A, lO, lN⟩ := x
 obtain ⟨K', P', T', F', A', lO', lN'⟩ := y
 simp only at hno hnn hmo hmn HR1 HR2 HLn HCx HCy HAx HAy HP1 HP2 HP3 HP4 HM1 HM2 HW1 HW2 kx ky ⊢
 clear hno hnn hmo hmn sx sy fx fy HRu
 obtain ⟨w1, hw1⟩ : ∃ w1, w.alloc (.cells #[.int .i64 K, .string P, .string T, .string F, .int .i64 A, .slice pa no ca, .slice pb nn cb] 43) = w1 := ⟨_, rfl⟩
 obtain ⟨w2, hw2⟩ : ∃ w2, w1.alloc (.cells #[.int .i64 K', .string P', .string T', .string F', .int .i64 A', .slice qa mo da, .slice qb mn db] 43) = w2 := ⟨_, rfl⟩
 obtain ⟨w3, hw3⟩ : ∃ w3, w2.alloc (.cells #[.int .i64 0, .string ⟨#[]⟩, .string ⟨#[]⟩, .string ⟨#[]⟩, .int .i64 0, .slice none 0 0, .slice none 0 0] 43) = w3 := ⟨_, rfl⟩
 obtain ⟨w4, hw4⟩ : ∃ w4, w3.alloc (.cells #[.int .i64 0, .string ⟨#[]⟩, .string ⟨#[]⟩, .string ⟨#[]⟩, .int .i64 0, .slice none 0 0, .slice none 0 0] 43) = w4 := ⟨_, rfl⟩
 have F1 : Fr None' w w1 := hw1 ▸ Fr.alloc None' w _
 have F2 : Fr None' w1 w2 := hw2 ▸ Fr.alloc None' w1 _
 have F3 : Fr None' w2 w3 := hw3 ▸ Fr.alloc None' w2 _
 have F4 : Fr None' w3 w4 := hw4 ▸ Fr.alloc None' w3 _
 have BX : Box w4 w.heap.size (.int .i64 K) (.string P) (.string T) (.string F) (.int .i64 A) (.slice pa no ca) (.slice pb nn cb) := (hw1 ▸ Box.new w _ _ _ _ _ _ _ : Box w1 _ _ _ _ _ _ _ _).kept ((F2.then7 F3).then7 F4)
 have BY : Box w4 w1.heap.size (.int .i64 K') (.string P') (.string T') (.string F') (.int .i64 A') (.slice qa mo da) (.slice qb mn db) := (hw2 ▸ Box.new w1 _ _ _ _ _ _ _ : Box w2 _ _ _ _ _ _ _ _).kept (F3.then7 F4)
 have BC : Box w4 w2.heap.size (.int .i64 0) (.string ⟨#[]⟩) (.string ⟨#[]⟩) (.string ⟨#[]⟩) (.int .i64 0) (.slice none 0 0) (.slice none 0 0) := (hw3 ▸ Box.new w2 _ _ _ _ _ _ _ : Box w3 _ _ _ _ _ _ _ _).kept F4
 have BD : Box w4 w3.heap.size (.int .i64 0) (.string ⟨#[]⟩) (.string ⟨#[]⟩) (.string ⟨#[]⟩) (.int .i64 0) (.slice none 0 0) (.slice none 0 0) := hw4 ▸ Box.new w3 _ _ _ _ _ _ _
 have s1 : w1.heap.size = w.heap.size + 1 := by rw [← hw1]; simp
 have s2 : w2.heap.size = w1.heap.size + 1 := by rw [← hw2]; simp
 have s3 : w3.heap.size = w2.heap.size + 1 := by rw [← hw3]; simp
 have HF : Hid (Fr None' w w4) := ((F1.then7 F2).then7 F3).then7 F4
 have HN : Hid (w.heap.size < w1.heap.size ∧ w1.heap.size < w2.heap.size ∧ w2.heap.size < w3.heap.size) := ⟨by omega, by omega, by omega⟩
 have n1 : ¬ w.heap.size = w1.heap.size := by omega
 have n2 : ¬ w.heap.size = w2.heap.size := by omega
 have n3 : ¬ w.heap.size = w3.heap.size := by omega
 have n4 : ¬ w1.heap.size = w2.heap.size := by omega
 have n5 : ¬ w1.heap.size = w3.heap.size := by omega
 have n6 : ¬ w2.heap.size = w3.heap.size := by omega
 have HBs : Hid (∀ w', Fr None' w4 w' → Box w' w.heap.size (.int .i64 K) (.string P) (.string T) (.string F) (.int .i64 A) (.slice pa no ca) (.slice pb nn cb) ∧ Box w' w1.heap.size (.int .i64 K') (.string P') (.string T') (.string F') (.int .i64 A') (.slice qa mo da) (.slice qb mn db) ∧ Box w' w2.heap.size (.int .i64 0) (.string ⟨#[]⟩) (.string ⟨#[]⟩) (.string ⟨#[]⟩) (.int .i64 0) (.slice none 0 0) (.slice none 0 0) ∧ Box w' w3.heap.size (.int .i64 0) (.string ⟨#[]⟩) (.string ⟨#[]⟩) (.string ⟨#[]⟩) (.int .i64 0) (.slice none 0 0) (.slice none 0 0)) := fun w' f => ⟨BX.kept f, BY.kept f, BC.kept f, BD.kept f⟩
 obtain ⟨x0, x1, x2, x3, x4, x5, x6⟩ := BX.cells
 clear F1 F2 F3 F4 BX BY BC BD s1 s2 s3
 clear n1 n2 n3 n4 n5 hr
 obtain ⟨xcl, xk1, xk2⟩ := kx
 obtain ⟨ycl, yk1, yk2⟩ := ky
 have q1 := HR1.out w4 HF.out
 go_enter Tryz.func57, Tryz.ntmps57
 go_wp2_with fail
 with_reducible refine q1.mono ?_
 rintro e w5 ⟨rfl, f5⟩
 have HF5 := Zz f5
 have q2 := HR2.out w5 (HF.out.then7 f5)
 clear q1 f5 x0 x1 x2 x3 x4 x5 x6
 obtain ⟨y0, y1, y2, y3, y4, y5, y6⟩ := (HBs.out w5 HF5.out).2.1.cells
 go_wp2_with fail
 with_reducible refine q2.mono ?_
 rintro e w6 ⟨rfl, f6⟩
 have HFc := Zz (HF5.out.then7 f6)
 clear q2 f6 HF5 y0 y1 y2 y3 y4 y5 y6 HR1 HR2
 obtain ⟨x0, x1, x2, x3, x4, x5, x6⟩ := Box.cells (HBs.out _ (Hid.out HFc)).1
 obtain ⟨y0, y1, y2, y3, y4, y5, y6⟩ := Box.cells (HBs.out _ (Hid.out HFc)).2.1
 obtain ⟨c0, c1, c2, c3, c4, c5, c6⟩ := Box.cells (HBs.out _ (Hid.out HFc)).2.2.1
 obtain ⟨d0, d1, d2, d3, d4, d5, d6⟩ := Box.cells (HBs.out _ (Hid.out HFc)).2.2.2
 have xz := Box.frozen (HBs.out _ (Hid.out HFc)).1
 have yz := Box.frozen (HBs.out _ (Hid.out HFc)).2.1
 have cz := Box.frozen (HBs.out _ (Hid.out HFc)).2.2.1
 have dz := Box.frozen (HBs.out _ (Hid.out HFc)).2.2.2
 have x7 : (K == 7) = false := beq_eq_false_iff_ne.2 (by omega)
 have x10 : (K == 10) = false := beq_eq_false_iff_ne.2 (by omega)
 have xc : decide (7 ≤ K ∧ K ≤ 9) = false := by simp; omega
 have xa : decide (K ≤ 6) = true := by simp; omega
 have y10 : (K' == 10) = false := beq_eq_false_iff_ne.2 (by omega)
 have yc : decide (7 ≤ K' ∧ K' ≤ 9) = true := by simp; omega
 have ya : decide (K' ≤ 6) = false := by simp; omega
 rw [xc] at HCx
 rw [yc] at HCy
 rw [xa] at HAx
 rw [ya] at HAy
 have HCl := Zz (And.intro xcl ycl)
 obtain rfl : (⟨K', P', T', F', A', lO', lN'⟩, ⟨K, P, T, F, A, lO, lN⟩, decide (¬ P = P')) = r := (show Zx ⟨K, P, T, F, A, lO, lN⟩ ⟨K', P', T', F', A', lO', lN'⟩ = _ from rule_un (Or.inr HCl.out)).symm.trans HRr.out
 clear xc yc xa ya xcl ycl xk1 xk2 yk1 yk2
 by_cases hP : P = P'
 ·subst hP
  rw [decide_eq_false (by simp)] at *
  simp only at HQ1 HQ2 HV HCk
  go_wp2_with (first | (go_at_call 79; with_reducible (refine (HCx.out _).mono ?_); rintro e w' ⟨rfl, f⟩; replace HFc := Zz (Fr.then7 (Hid.out HFc) f); clear f x0 x1 x2 x3 x4 x5 x6 y0 y1 y2 y3 y4 y5 y6 c0 c1 c2 c3 c4 c5 c6 d0 d1 d2 d3 d4 d5 d6 xz yz cz dz; obtain ⟨x0, x1, x2, x3, x4, x5, x6⟩ := Box.cells (HBs.out _ (Hid.out HFc)).1; obtain ⟨y0, y1, y2, y3, y4, y5, y6⟩ := Box.cells (HBs.out _ (Hid.out HFc)).2.1; obtain ⟨c0, c1, c2, c3, c4, c5, c6⟩ := Box.cells (HBs.out _ (Hid.out HFc)).2.2.1; obtain ⟨d0, d1, d2, d3, d4, d5, d6⟩ := Box.cells (HBs.out _ (Hid.out HFc)).2.2.2; have xz := Box.frozen (HBs.out _ (Hid.out HFc)).1; have yz := Box.frozen (HBs.out _ (Hid.out HFc)).2.1; have cz := Box.frozen (HBs.out _ (Hid.out HFc)).2.2.1; have dz := Box.frozen (HBs.out _ (Hid.out HFc)).2.2.2) | (go_at_call 79; with_reducible (refine (HCy.out _).mono ?_); rintro e w' ⟨rfl, f⟩; replace HFc := Zz (Fr.then7 (Hid.out HFc) f); clear f x0 x1 x2 x3 x4 x5 x6 y0 y1 y2 y3 y4 y5 y6 c0 c1 c2 c3 c4 c5 c6 d0 d1 d2 d3 d4 d5 d6 xz yz cz dz; obtain ⟨x0, x1, x2, x3, x4, x5, x6⟩ := Box.cells (HBs.out _ (Hid.out HFc)).1; obtain ⟨y0, y1, y2, y3, y4, y5, y6⟩ := Box.cells (HBs.out _ (Hid.out HFc)).2.1; obtain ⟨c0, c1, c2, c3, c4, c5, c6⟩ := Box.cells (HBs.out _ (Hid.out HFc)).2.2.1; obtain ⟨d0, d1, d2, d3, d4, d5, d6⟩ := Box.cells (HBs.out _ (Hid.out HFc)).2.2.2; have xz := Box.frozen (HBs.out _ (Hid.out HFc)).1; have yz := Box.frozen (HBs.out _ (Hid.out HFc)).2.1; have cz := Box.frozen (HBs.out _ (Hid.out HFc)).2.2.1; have dz := Box.frozen (HBs.out _ (Hid.out HFc)).2.2.2) | (go_at_call 82; with_reducible (refine (HAx.out _).mono ?_); rintro e w' ⟨rfl, f⟩; replace HFc := Zz (Fr.then7 (Hid.out HFc) f); clear f x0 x1 x2 x3 x4 x5 x6 y0 y1 y2 y3 y4 y5 y6 c0 c1 c2 c3 c4 c5 c6 d0 d1 d2 d3 d4 d5 d6 xz yz cz dz; obtain ⟨x0, x1, x2, x3, x4, x5, x6⟩ := Box.cells (HBs.out _ (Hid.out HFc)).1; obtain ⟨y0, y1, y2, y3, y4, y5, y6⟩ := Box.cells (HBs.out _ (Hid.out HFc)).2.1; obtain ⟨c0, c1, c2, c3, c4, c5, c6⟩ := Box.cells (HBs.out _ (Hid.out HFc)).2.2.1; obtain ⟨d0, d1, d2, d3, d4, d5, d6⟩ := Box.cells (HBs.out _ (Hid.out HFc)).2.2.2; have xz := Box.frozen (HBs.out _ (Hid.out HFc)).1; have yz := Box.frozen (HBs.out _ (Hid.out HFc)).2.1; have cz := Box.frozen (HBs.out _ (Hid.out HFc)).2.2.1; have dz := Box.frozen (HBs.out _ (Hid.out HFc)).2.2.2) | (go_at_call 82; with_reducible (refine (HAy.out _).mono ?_); rintro e w' ⟨rfl, f⟩; replace HFc := Zz (Fr.then7 (Hid.out HFc) f); clear f x0 x1 x2 x3 x4 x5 x6 y0 y1 y2 y3 y4 y5 y6 c0 c1 c2 c3 c4 c5 c6 d0 d1 d2 d3 d4 d5 d6 xz yz cz dz; obtain ⟨x0, x1, x2, x3, x4, x5, x6⟩ := Box.cells (HBs.out _ (Hid.out HFc)).1; obtain ⟨y0, y1, y2, y3, y4, y5, y6⟩ := Box.cells (HBs.out _ (Hid.out HFc)).2.1; obtain ⟨c0, c1, c2, c3, c4, c5, c6⟩ := Box.cells (HBs.out _ (Hid.out HFc)).2.2.1; obtain ⟨d0, d1, d2, d3, d4, d5, d6⟩ := Box.cells (HBs.out _ (Hid.out HFc)).2.2.2; have xz := Box.frozen (HBs.out _ (Hid.out HFc)).1; have yz := Box.frozen (HBs.out _ (Hid.out HFc)).2.1; have cz := Box.frozen (HBs.out _ (Hid.out HFc)).2.2.1; have dz := Box.frozen (HBs.out _ (Hid.out HFc)).2.2.2) | fail)
  have HBx := Zz (HBs.out _ (Hid.out HFc))
  have HWx := Zz (HF.out.then7 (Hid.out HFc))
  have HC := Zz (HCk.out.trans (show Zu _ = Yz from by unfold Zu; rw [if_neg (by simp)]))
  have hfin := Zt HWx.out HBx.out.2.2.1 HBx.out.2.2.2 n6 (by have := HN.out; omega) (by have := HN.out; omega) (.int .i64 0) (.string ⟨#[]⟩) (.string ⟨#[]⟩) (.string ⟨#[]⟩) (.int .i64 0) (.slice none 0 0) (.slice none 0 0) (.int .i64 0) (.string ⟨#[]⟩) (.string ⟨#[]⟩) (.string ⟨#[]⟩) (.int .i64 0) (.slice none 0 0) (.slice none 0 0)
  exact Zr (u := .bool false) rfl rfl rfl rfl rfl hfin.1 hfin.2.1 (Zq HC.out hfin.2.2.1)
 ·obtain ⟨z1, z2⟩ := Lines.str_no hP
  have hb : decide (¬ P = P') = true := decide_eq_true hP
  rw [hb] at HCk
  clear hP hb
  simp only at HQ1 HQ2 HV HCk
  go_wp2_with (first | (go_at_call 79; with_reducible (refine (HCx.out _).mono ?_); rintro e w' ⟨rfl, f⟩; replace HFc := Zz (Fr.then7 (Hid.out HFc) f); clear f x0 x1 x2 x3 x4 x5 x6 y0 y1 y2 y3 y4 y5 y6 c0 c1 c2 c3 c4 c5 c6 d0 d1 d2 d3 d4 d5 d6 xz yz cz dz; obtain ⟨x0, x1, x2, x3, x4, x5, x6⟩ := Box.cells (HBs.out _ (Hid.out HFc)).1; obtain ⟨y0, y1, y2, y3, y4, y5, y6⟩ := Box.cells (HBs.out _ (Hid.out HFc)).2.1; obtain ⟨c0, c1, c2, c3, c4, c5, c6⟩ := Box.cells (HBs.out _ (Hid.out HFc)).2.2.1; obtain ⟨d0, d1, d2, d3, d4, d5, d6⟩ := Box.cells (HBs.out _ (Hid.out HFc)).2.2.2; have xz := Box.frozen (HBs.out _ (Hid.out HFc)).1; have yz := Box.frozen (HBs.out _ (Hid.out HFc)).2.1; have cz := Box.frozen (HBs.out _ (Hid.out HFc)).2.2.1; have dz := Box.frozen (HBs.out _ (Hid.out HFc)).2.2.2) | (go_at_call 79; with_reducible (refine (HCy.out _).mono ?_); rintro e w' ⟨rfl, f⟩; replace HFc := Zz (Fr.then7 (Hid.out HFc) f); clear f x0 x1 x2 x3 x4 x5 x6 y0 y1 y2 y3 y4 y5 y6 c0 c1 c2 c3 c4 c5 c6 d0 d1 d2 d3 d4 d5 d6 xz yz cz dz; obtain ⟨x0, x1, x2, x3, x4, x5, x6⟩ := Box.cells (HBs.out _ (Hid.out HFc)).1; obtain ⟨y0, y1, y2, y3, y4, y5, y6⟩ := Box.cells (HBs.out _ (Hid.out HFc)).2.1; obtain ⟨c0, c1, c2, c3, c4, c5, c6⟩ := Box.cells (HBs.out _ (Hid.out HFc)).2.2.1; obtain ⟨d0, d1, d2, d3, d4, d5, d6⟩ := Box.cells (HBs.out _ (Hid.out HFc)).2.2.2; have xz := Box.frozen (HBs.out _ (Hid.out HFc)).1; have yz := Box.frozen (HBs.out _ (Hid.out HFc)).2.1; have cz := Box.frozen (HBs.out _ (Hid.out HFc)).2.2.1; have dz := Box.frozen (HBs.out _ (Hid.out HFc)).2.2.2) | (go_at_call 82; with_reducible (refine (HAx.out _).mono ?_); rintro e w' ⟨rfl, f⟩; replace HFc := Zz (Fr.then7 (Hid.out HFc) f); clear f x0 x1 x2 x3 x4 x5 x6 y0 y1 y2 y3 y4 y5 y6 c0 c1 c2 c3 c4 c5 c6 d0 d1 d2 d3 d4 d5 d6 xz yz cz dz; obtain ⟨x0, x1, x2, x3, x4, x5, x6⟩ := Box.cells (HBs.out _ (Hid.out HFc)).1; obtain ⟨y0, y1, y2, y3, y4, y5, y6⟩ := Box.cells (HBs.out _ (Hid.out HFc)).2.1; obtain ⟨c0, c1, c2, c3, c4, c5, c6⟩ := Box.cells (HBs.out _ (Hid.out HFc)).2.2.1; obtain ⟨d0, d1, d2, d3, d4, d5, d6⟩ := Box.cells (HBs.out _ (Hid.out HFc)).2.2.2; have xz := Box.frozen (HBs.out _ (Hid.out HFc)).1; have yz := Box.frozen (HBs.out _ (Hid.out HFc)).2.1; have cz := Box.frozen (HBs.out _ (Hid.out HFc)).2.2.1; have dz := Box.frozen (HBs.out _ (Hid.out HFc)).2.2.2) | (go_at_call 82; with_reducible (refine (HAy.out _).mono ?_); rintro e w' ⟨rfl, f⟩; replace HFc := Zz (Fr.then7 (Hid.out HFc) f); clear f x0 x1 x2 x3 x4 x5 x6 y0 y1 y2 y3 y4 y5 y6 c0 c1 c2 c3 c4 c5 c6 d0 d1 d2 d3 d4 d5 d6 xz yz cz dz; obtain ⟨x0, x1, x2, x3, x4, x5, x6⟩ := Box.cells (HBs.out _ (Hid.out HFc)).1; obtain ⟨y0, y1, y2, y3, y4, y5, y6⟩ := Box.cells (HBs.out _ (Hid.out HFc)).2.1; obtain ⟨c0, c1, c2, c3, c4, c5, c6⟩ := Box.cells (HBs.out _ (Hid.out HFc)).2.2.1; obtain ⟨d0, d1, d2, d3, d4, d5, d6⟩ := Box.cells (HBs.out _ (Hid.out HFc)).2.2.2; have xz := Box.frozen (HBs.out _ (Hid.out HFc)).1; have yz := Box.frozen (HBs.out _ (Hid.out HFc)).2.1; have cz := Box.frozen (HBs.out _ (Hid.out HFc)).2.2.1; have dz := Box.frozen (HBs.out _ (Hid.out HFc)).2.2.2) | fail)
  have HBx := Zz (HBs.out _ (Hid.out HFc))
  have HWx := Zz (HF.out.then7 (Hid.out HFc))
  obtain ⟨R7, hR7⟩ : ∃ R, Zw ⟨K, P, T, F, A, lO, lN⟩ = R := ⟨_, rfl⟩
  obtain ⟨R8, hR8⟩ : ∃ R, Zw ⟨K', P', T', F', A', lO', lN'⟩ = R := ⟨_, rfl⟩
  rw [hR7] at HQ2
  rw [hR8] at HQ1
  have HE7 := Zz hR7
  have HE8 := Zz hR8
  clear hR7 hR8
  with_reducible refine (HQ2.out _ HWx.out).mono ?_
  rintro e w7 ⟨rfl, f7⟩
  have HB7 := Zz (show Box w7 w.heap.size (.int .i64 K) (.string P) (.string T) (.string F) (.int .i64 A) (.slice pa no ca) (.slice pb nn cb) ∧ Box w7 w1.heap.size (.int .i64 K') (.string P') (.string T') (.string F') (.int .i64 A') (.slice qa mo da) (.slice qb mn db) ∧ Box w7 w2.heap.size (.int .i64 0) (.string ⟨#[]⟩) (.string ⟨#[]⟩) (.string ⟨#[]⟩) (.int .i64 0) (.slice none 0 0) (.slice none 0 0) ∧ Box w7 w3.heap.size (.int .i64 0) (.string ⟨#[]⟩) (.string ⟨#[]⟩) (.string ⟨#[]⟩) (.int .i64 0) (.slice none 0 0) (.slice none 0 0) from ⟨HBx.out.1.kept f7, HBx.out.2.1.kept f7, HBx.out.2.2.1.kept f7, HBx.out.2.2.2.kept f7⟩)
  replace HWx := Zz (HWx.out.then7 f7)
  replace HBx := HB7
  clear HB7 f7 x0 x1 x2 x3 x4 x5 x6 y0 y1 y2 y3 y4 y5 y6 c0 c1 c2 c3 c4 c5 c6 d0 d1 d2 d3 d4 d5 d6 xz yz cz dz
  cases R7 with
  | false =>
   have HC := Zz (HCk.out.trans (show Zu _ = Yz from by unfold Zu; rw [if_neg (by simp [HE7.out])]))
   have HBf := Zz (show Box w7 w2.heap.size (.int .i64 0) (.string ⟨#[]⟩) (.string ⟨#[]⟩) (.string ⟨#[]⟩) (.int .i64 0) (.slice none 0 0) (.slice none 0 0) ∧ Box w7 w3.heap.size (.int .i64 0) (.string ⟨#[]⟩) (.string ⟨#[]⟩) (.string ⟨#[]⟩) (.int .i64 0) (.slice none 0 0) (.slice none 0 0) from ⟨HBx.out.2.2.1, HBx.out.2.2.2⟩)
   obtain ⟨c0, c1, c2, c3, c4, c5, c6⟩ := HBf.out.1.cells
   obtain ⟨d0, d1, d2, d3, d4, d5, d6⟩ := HBf.out.2.cells
   have cz := HBf.out.1.frozen
   have dz := HBf.out.2.frozen
   go_wp2_with fail
   have hfin := Zt HWx.out HBf.out.1 HBf.out.2 n6 (by have := HN.out; omega) (by have := HN.out; omega) (.int .i64 0) (.string ⟨#[]⟩) (.string ⟨#[]⟩) (.string ⟨#[]⟩) (.int .i64 0) (.slice none 0 0) (.slice none 0 0) (.int .i64 0) (.string ⟨#[]⟩) (.string ⟨#[]⟩) (.string ⟨#[]⟩) (.int .i64 0) (.slice none 0 0) (.slice none 0 0)
   exact Zr (u := .bool false) rfl rfl rfl rfl rfl hfin.1 hfin.2.1 (Zq HC.out hfin.2.2.1)
  | true =>
   obtain ⟨y0, y1, y2, y3, y4, y5, y6⟩ := HBx.out.2.1.cells
   go_wp2_with fail
   with_reducible refine (HQ1.out _ HWx.out).mono ?_
   rintro e w8 ⟨rfl, f8⟩
   have HB8 := Zz (show Box w8 w.heap.size (.int .i64 K) (.string P) (.string T) (.string F) (.int .i64 A) (.slice pa no ca) (.slice pb nn cb) ∧ Box w8 w1.heap.size (.int .i64 K') (.string P') (.string T') (.string F') (.int .i64 A') (.slice qa mo da) (.slice qb mn db) ∧ Box w8 w2.heap.size (.int .i64 0) (.string ⟨#[]⟩) (.string ⟨#[]⟩) (.string ⟨#[]⟩) (.int .i64 0) (.slice none 0 0) (.slice none 0 0) ∧ Box w8 w3.heap.size (.int .i64 0) (.string ⟨#[]⟩) (.string ⟨#[]⟩) (.string ⟨#[]⟩) (.int .i64 0) (.slice none 0 0) (.slice none 0 0) from ⟨HBx.out.1.kept f8, HBx.out.2.1.kept f8, HBx.out.2.2.1.kept f8, HBx.out.2.2.2.kept f8⟩)
   replace HWx := Zz (HWx.out.then7 f8)
   replace HBx := HB8
   clear HB8 f8 y0 y1 y2 y3 y4 y5 y6
   cases R8 with
   | false =>
    have HC := Zz (HCk.out.trans (show Zu _ = Yz from by unfold Zu; rw [if_neg (by simp [HE8.out])]))
    have HBf := Zz (show Box w8 w2.heap.size (.int .i64 0) (.string ⟨#[]⟩) (.string ⟨#[]⟩) (.string ⟨#[]⟩) (.int .i64 0) (.slice none 0 0) (.slice none 0 0) ∧ Box w8 w3.heap.size (.int .i64 0) (.string ⟨#[]⟩) (.string ⟨#[]⟩) (.string ⟨#[]⟩) (.int .i64 0) (.slice none 0 0) (.slice none 0 0) from ⟨HBx.out.2.2.1, HBx.out.2.2.2⟩)
    obtain ⟨c0, c1, c2, c3, c4, c5, c6⟩ := HBf.out.1.cells
    obtain ⟨d0, d1, d2, d3, d4, d5, d6⟩ := HBf.out.2.cells
    have cz := HBf.out.1.frozen
    have dz := HBf.out.2.frozen
    go_wp2_with fail
    have hfin := Zt HWx.out HBf.out.1 HBf.out.2 n6 (by have := HN.out; omega) (by have := HN.out; omega) (.int .i64 0) (.string ⟨#[]⟩) (.string ⟨#[]⟩) (.string ⟨#[]⟩) (.int .i64 0) (.slice none 0 0) (.slice none 0 0) (.int .i64 0) (.string ⟨#[]⟩) (.string ⟨#[]⟩) (.string ⟨#[]⟩) (.int .i64 0) (.slice none 0 0) (.slice none 0 0)
    exact Zr (u := .bool false) rfl rfl rfl rfl rfl hfin.1 hfin.2.1 (Zq HC.out hfin.2.2.1)
   | true =>
    have HC := Zz (HCk.out.trans (show Zu (⟨K', P', T', F', A', lO', lN'⟩, ⟨K, P, T, F, A, lO, lN⟩, true) = (⟨K', P', T', F', A', lO', lN'⟩, ⟨K, P, T, F, A, lO, lN⟩, true) from by unfold Zu; rw [if_pos (by simp [HE7.out, HE8.out])]))
    have HS := Zz (show (∀ w', Fr (fun k => k = w2.heap.size ∨ k = w3.heap.size) w8 w' → Fr (fun k => k = w2.heap.size ∨ k = w3.heap.size) w8 w' ∧ w'.cell? ⟨w.heap.size, 0, none⟩ = some (.int .i64 K) ∧ w'.cell? ⟨w.heap.size, 1, none⟩ = some (.string P) ∧ w'.cell? ⟨w.heap.size, 2, none⟩ = some (.string T) ∧ w'.cell? ⟨w.heap.size, 3, none⟩ = some (.string F) ∧ w'.cell? ⟨w.heap.size, 4, none⟩ = some (.int .i64 A) ∧ w'.cell? ⟨w.heap.size, 5, none⟩ = some (.slice pa no ca) ∧ w'.cell? ⟨w.heap.size, 6, none⟩ = some (.slice pb nn cb) ∧ w'.cell? ⟨w1.heap.size, 0, none⟩ = some (.int .i64 K') ∧ w'.cell? ⟨w1.heap.size, 1, none⟩ = some (.string P') ∧ w'.cell? ⟨w1.heap.size, 2, none⟩ = some (.string T') ∧ w'.cell? ⟨w1.heap.size, 3, none⟩ = some (.string F') ∧ w'.cell? ⟨w1.heap.size, 4, none⟩ = some (.int .i64 A') ∧ w'.cell? ⟨w1.heap.size, 5, none⟩ = some (.slice qa mo da) ∧ w'.cell? ⟨w1.heap.size, 6, none⟩ = some (.slice qb mn db)) from fun w' f => by
     obtain ⟨x0, x1, x2, x3, x4, x5, x6⟩ := (HBx.out.1.fr f (by have := HN.out; omega)).cells
     obtain ⟨y0, y1, y2, y3, y4, y5, y6⟩ := (HBx.out.2.1.fr f (by have := HN.out; omega)).cells
     exact ⟨f, x0, x1, x2, x3, x4, x5, x6, y0, y1, y2, y3, y4, y5, y6⟩)
    have hS0 := HS.out w8.drew (Fr.drew _ w8)
    have hS6 := HS.out (setP w8 w2.heap.size (.int .i64 K') (.string P') (.string T') (.string F') (.int .i64 A') (.slice qa mo da) (.slice qb mn db)).drew (Fr.then (Fr.setP _ (Or.inl rfl) _ _ _ _ _ _ _) (Fr.drew _ _))
    have hS7 := HS.out (setP (setP w8 w2.heap.size (.int .i64 K') (.string P') (.string T') (.string F') (.int .i64 A') (.slice qa mo da) (.slice qb mn db)) w3.heap.size (.int .i64 K) (.string P) (.string T) (.string F) (.int .i64 A) (.slice pa no ca) (.slice pb nn cb)).drew (Fr.then (Fr.then (Fr.setP _ (Or.inl rfl) _ _ _ _ _ _ _) (Fr.setP _ (Or.inr rfl) _ _ _ _ _ _ _)) (Fr.drew _ _))
    obtain ⟨c0, c1, c2, c3, c4, c5, c6⟩ := HBx.out.2.2.1.cells
    obtain ⟨d0, d1, d2, d3, d4, d5, d6⟩ := HBx.out.2.2.2.cells
    have cz := HBx.out.2.2.1.frozen
    have dz := HBx.out.2.2.2.frozen
    go_wp2_with fail
    go_region_held3 (fun w' => Fr (fun k => k = w2.heap.size ∨ k = w3.heap.size) w8 w' ∧ w'.cell? ⟨w.heap.size, 0, none⟩ = some (.int .i64 K) ∧ w'.cell? ⟨w.heap.size, 1, none⟩ = some (.string P) ∧ w'.cell? ⟨w.heap.size, 2, none⟩ = some (.string T) ∧ w'.cell? ⟨w.heap.size, 3, none⟩ = some (.string F) ∧ w'.cell? ⟨w.heap.size, 4, none⟩ = some (.int .i64 A) ∧ w'.cell? ⟨w.heap.size, 5, none⟩ = some (.slice pa no ca) ∧ w'.cell? ⟨w.heap.size, 6, none⟩ = some (.slice pb nn cb) ∧ w'.cell? ⟨w1.heap.size, 0, none⟩ = some (.int .i64 K') ∧ w'.cell? ⟨w1.heap.size, 1, none⟩ = some (.string P') ∧ w'.cell? ⟨w1.heap.size, 2, none⟩ = some (.string T') ∧ w'.cell? ⟨w1.heap.size, 3, none⟩ = some (.string F') ∧ w'.cell? ⟨w1.heap.size, 4, none⟩ = some (.int .i64 A') ∧ w'.cell? ⟨w1.heap.size, 5, none⟩ = some (.slice qa mo da) ∧ w'.cell? ⟨w1.heap.size, 6, none⟩ = some (.slice qb mn db))
     (first | with_reducible exact hS0 | with_reducible exact hS6 | with_reducible exact hS7)
     (fail)
    clear hS0 hS6 hS7 cz dz c0 c1 c2 c3 c4 c5 c6 d0 d1 d2 d3 d4 d5 d6
    go_wp2_with fail
    have hfin := Zt HWx.out HBx.out.2.2.1 HBx.out.2.2.2 n6 (by have := HN.out; omega) (by have := HN.out; omega) (.int .i64 K') (.string P') (.string T') (.string F') (.int .i64 A') (.slice qa mo da) (.slice qb mn db) (.int .i64 K) (.string P) (.string T) (.string F) (.int .i64 A) (.slice pa no ca) (.slice pb nn cb)
    have hfr := hfin.2.2.1.then7 (Fr.drew None' _)
    exact Zr rfl rfl rfl rfl rfl hfin.1.drew hfin.2.1.drew (by rw [HC.out]; exact ⟨_, _, rfl, HV.out.1, HV.out.2, hfr⟩)
theorem rcomm_02 (x y : Pr) (pa pb qa qb : Option Addr) (no nn ca cb mo mn da db : Nat) (w : World) (kx : Ys x = 0 ∧ x.kind ≤ 6 ∧ 1 ≤ x.kind) (ky : Ys y = 2 ∧ y.kind = 10) (hno : x.old.length = no) (hnn : x.new.length = nn) (hmo : y.old.length = mo) (hmn : y.new.length = mn) (sx : Zs x) (sy : Zs y) (fx : Zw x = true) (fy : Zw y = true)
  (HR1 : Hid (∀ w', Fr None' w w' → Calls Tryz.prog 61 #[.agg #[.int .i64 x.kind, .string x.path, .string x.dst, .string x.src, .int .i64 x.pos, .slice pa no ca, .slice pb nn cb]] w' (fun e w'' => e = .returned (.bool true) ∧ Fr None' w' w'')))
  (HR2 : Hid (∀ w', Fr None' w w' → Calls Tryz.prog 61 #[.agg #[.int .i64 y.kind, .string y.path, .string y.dst, .string y.src, .int .i64 y.pos, .slice qa mo da, .slice qb mn db]] w' (fun e w'' => e = .returned (.bool true) ∧ Fr None' w' w'')))
  (HQ1 : Hid (∀ w', Fr None' w w' → Calls Tryz.prog 61 #[.agg #[.int .i64 (Zx x y).1.kind, .string (Zx x y).1.path, .string (Zx x y).1.dst, .string (Zx x y).1.src, .int .i64 (Zx x y).1.pos, .slice qa mo da, .slice qb mn db]] w' (fun e w'' => e = .returned (.bool (Zw (Zx x y).1)) ∧ Fr None' w' w'')))
  (HQ2 : Hid (∀ w', Fr None' w w' → Calls Tryz.prog 61 #[.agg #[.int .i64 (Zx x y).2.1.kind, .string (Zx x y).2.1.path, .string (Zx x y).2.1.dst, .string (Zx x y).2.1.src, .int .i64 (Zx x y).2.1.pos, .slice pa no ca, .slice pb nn cb]] w' (fun e w'' => e = .returned (.bool (Zw (Zx x y).2.1)) ∧ Fr None' w' w'')))
  (w0 : World) (HV : Hid (Yf w0 (.agg #[.int .i64 (Zx x y).1.kind, .string (Zx x y).1.path, .string (Zx x y).1.dst, .string (Zx x y).1.src, .int .i64 (Zx x y).1.pos, .slice qa mo da, .slice qb mn db]) (Zx x y).1 ∧ Yf w0 (.agg #[.int .i64 (Zx x y).2.1.kind, .string (Zx x y).2.1.path, .string (Zx x y).2.1.dst, .string (Zx x y).2.1.src, .int .i64 (Zx x y).2.1.pos, .slice pa no ca, .slice pb nn cb]) (Zx x y).2.1)) :
  Calls Tryz.prog 57 #[.agg #[.int .i64 x.kind, .string x.path, .string x.dst, .string x.src, .int .i64 x.pos, .slice pa no ca, .slice pb nn cb], .agg #[.int .i64 y.kind, .string y.path, .string y.dst, .string y.src, .int .i64 y.pos, .slice qa mo da, .slice qb mn db]] w fun e w' => Z9 x y w0 w e w' := by
 have HCk := Zz (show Zj x y = Zu (Zx x y) from by unfold Zj; rw [if_pos (by simp [fx, fy])])
 have HRu := Zz (show Zx x y = Zx x y from rfl)
 have HLn := Zz (fun (h7 : x.kind = 7) (h7' : y.kind = 7) w' => Yh x y pa pb qa qb no nn ca cb mo mn da db w' hno hnn hmo hmn (by have := sx.old; omega) (by have := sx.new; omega) (by have := sy.old; omega) (by have := sy.new; omega) (Yt fx h7) (Yt fy h7'))
 have HCx := Zz (fun w' => Z8 x pa pb no nn ca cb w')
 have HCy := Zz (fun w' => Z8 y qa qb mo mn da db w')
 have HAx := Zz (fun w' => Zf x pa pb no nn ca cb w')
 have HAy := Zz (fun w' => Zf y qa qb mo mn da db w')
 have HP1 := Zz (fun w' => Zn x y.path pa pb no nn ca cb w' sx.path sx.dst sy.path)
 have HP2 := Zz (fun w' => Zn x y.dst pa pb no nn ca cb w' sx.path sx.dst sy.dst)
 have HP3 := Zz (fun w' => Zn y x.path qa qb mo mn da db w' sy.path sy.dst sx.path)
 have HP4 := Zz (show ∀ w', Calls Tryz.prog 63 #[.string x.path, .string y.path] w' (fun e w'' => e = .returned (.bool (apP x.path y.path)) ∧ w' = w'') from fun w' => Path.rapart_any x.path y.path w' (by have := sx.path; omega) (by have := sy.path; omega))
 have HM1 := Zz (show ∀ w', Calls Tryz.prog 80 #[.string y.path, .string x.dst, .string x.path] w' (fun e w'' => e = .returned (.tuple #[.string (moP y.path x.dst x.path), .bool (wiP y.path x.dst)]) ∧ w' = w'') from fun w' => Path.rmoved_any y.path x.dst x.path w' (by have := sy.path; omega) (by have := sx.dst; omega) (by have := sx.path; omega))
 have HM2 := Zz (show ∀ w', Calls Tryz.prog 80 #[.string x.path, .string y.path, .string y.dst] w' (fun e w'' => e = .returned (.tuple #[.string (moP x.path y.path y.dst), .bool (wiP x.path y.path)]) ∧ w' = w'') from fun w' => Path.rmoved_any x.path y.path y.dst w' (by have := sx.path; omega) (by have := sy.path; omega) (by have := sy.dst; omega))
 have HW1 := Zz (show ∀ w', Calls Tryz.prog 81 #[.string y.path, .string x.path] w' (fun e w'' => e = .returned (.bool (wiP y.path x.path)) ∧ w' = w'') from fun w' => Path.rwithin_any y.path x.path w' (by have := sy.path; omega) (by have := sx.path; omega))
 have HW2 := Zz (show ∀ w', Calls Tryz.prog 81 #[.string x.path, .string y.dst] w' (fun e w'' => e = .returned (.bool (wiP x.path y.dst)) ∧ w' = w'') from fun w' => Path.rwithin_any x.path y.dst w' (by have := sx.path; omega) (by have := sy.dst; omega))
 generalize hr : Zx x y = r at HCk HQ1 HQ2 HV
 have HRr := Zz hr
 unfold Z9
 generalize Zj x y = cc at HCk ⊢
 obtain ⟨K, P, T, F, A, lO, lN⟩ := x
 obtain ⟨K', P', T', F', A', lO', lN'⟩ := y
 simp only at hno hnn hmo hmn HR1 HR2 HLn HCx HCy HAx HAy HP1 HP2 HP3 HP4 HM1 HM2 HW1 HW2 kx ky ⊢
 clear hno hnn hmo hmn sx sy fx fy HRu
 obtain ⟨w1, hw1⟩ : ∃ w1, w.alloc (.cells #[.int .i64 K, .string P, .string T, .string F, .int .i64 A, .slice pa no ca, .slice pb nn cb] 43) = w1 := ⟨_, rfl⟩
 obtain ⟨w2, hw2⟩ : ∃ w2, w1.alloc (.cells #[.int .i64 K', .string P', .string T', .string F', .int .i64 A', .slice qa mo da, .slice qb mn db] 43) = w2 := ⟨_, rfl⟩
 obtain ⟨w3, hw3⟩ : ∃ w3, w2.alloc (.cells #[.int .i64 0, .string ⟨#[]⟩, .string ⟨#[]⟩, .string ⟨#[]⟩, .int .i64 0, .slice none 0 0, .slice none 0 0] 43) = w3 := ⟨_, rfl⟩
 obtain ⟨w4, hw4⟩ : ∃ w4, w3.alloc (.cells #[.int .i64 0, .string ⟨#[]⟩, .string ⟨#[]⟩, .string ⟨#[]⟩, .int .i64 0, .slice none 0 0, .slice none 0 0] 43) = w4 := ⟨_, rfl⟩
 have F1 : Fr None' w w1 := hw1 ▸ Fr.alloc None' w _
 have F2 : Fr None' w1 w2 := hw2 ▸ Fr.alloc None' w1 _
 have F3 : Fr None' w2 w3 := hw3 ▸ Fr.alloc None' w2 _
 have F4 : Fr None' w3 w4 := hw4 ▸ Fr.alloc None' w3 _
 have BX : Box w4 w.heap.size (.int .i64 K) (.string P) (.string T) (.string F) (.int .i64 A) (.slice pa no ca) (.slice pb nn cb) := (hw1 ▸ Box.new w _ _ _ _ _ _ _ : Box w1 _ _ _ _ _ _ _ _).kept ((F2.then7 F3).then7 F4)
 have BY : Box w4 w1.heap.size (.int .i64 K') (.string P') (.string T') (.string F') (.int .i64 A') (.slice qa mo da) (.slice qb mn db) := (hw2 ▸ Box.new w1 _ _ _ _ _ _ _ : Box w2 _ _ _ _ _ _ _ _).kept (F3.then7 F4)
 have BC : Box w4 w2.heap.size (.int .i64 0) (.string ⟨#[]⟩) (.string ⟨#[]⟩) (.string ⟨#[]⟩) (.int .i64 0) (.slice none 0 0) (.slice none 0 0) := (hw3 ▸ Box.new w2 _ _ _ _ _ _ _ : Box w3 _ _ _ _ _ _ _ _).kept F4
 have BD : Box w4 w3.heap.size (.int .i64 0) (.string ⟨#[]⟩) (.string ⟨#[]⟩) (.string ⟨#[]⟩) (.int .i64 0) (.slice none 0 0) (.slice none 0 0) := hw4 ▸ Box.new w3 _ _ _ _ _ _ _
 have s1 : w1.heap.size = w.heap.size + 1 := by rw [← hw1]; simp
 have s2 : w2.heap.size = w1.heap.size + 1 := by rw [← hw2]; simp
 have s3 : w3.heap.size = w2.heap.size + 1 := by rw [← hw3]; simp
 have HF : Hid (Fr None' w w4) := ((F1.then7 F2).then7 F3).then7 F4
 have HN : Hid (w.heap.size < w1.heap.size ∧ w1.heap.size < w2.heap.size ∧ w2.heap.size < w3.heap.size) := ⟨by omega, by omega, by omega⟩
 have n1 : ¬ w.heap.size = w1.heap.size := by omega
 have n2 : ¬ w.heap.size = w2.heap.size := by omega
 have n3 : ¬ w.heap.size = w3.heap.size := by omega
 have n4 : ¬ w1.heap.size = w2.heap.size := by omega
 have n5 : ¬ w1.heap.size = w3.heap.size := by omega
 have n6 : ¬ w2.heap.size = w3.heap.size := by omega
 have HBs : Hid (∀ w', Fr None' w4 w' → Box w' w.heap.size (.int .i64 K) (.string P) (.string T) (.string F) (.int .i64 A) (.slice pa no ca) (.slice pb nn cb) ∧ Box w' w1.heap.size (.int .i64 K') (.string P') (.string T') (.string F') (.int .i64 A') (.slice qa mo da) (.slice qb mn db) ∧ Box w' w2.heap.size (.int .i64 0) (.string ⟨#[]⟩) (.string ⟨#[]⟩) (.string ⟨#[]⟩) (.int .i64 0) (.slice none 0 0) (.slice none 0 0) ∧ Box w' w3.heap.size (.int .i64 0) (.string ⟨#[]⟩) (.string ⟨#[]⟩) (.string ⟨#[]⟩) (.int .i64 0) (.slice none 0 0) (.slice none 0 0)) := fun w' f => ⟨BX.kept f, BY.kept f, BC.kept f, BD.kept f⟩
 obtain ⟨x0, x1, x2, x3, x4, x5, x6⟩ := BX.cells
 clear F1 F2 F3 F4 BX BY BC BD s1 s2 s3
 clear n1 n2 n3 n4 n5 hr
 obtain ⟨xcl, xk1, xk2⟩ := kx
 obtain ⟨ycl, rfl⟩ := ky
 have q1 := HR1.out w4 HF.out
 go_enter Tryz.func57, Tryz.ntmps57
 go_wp2_with fail
 with_reducible refine q1.mono ?_
 rintro e w5 ⟨rfl, f5⟩
 have HF5 := Zz f5
 have q2 := HR2.out w5 (HF.out.then7 f5)
 clear q1 f5 x0 x1 x2 x3 x4 x5 x6
 obtain ⟨y0, y1, y2, y3, y4, y5, y6⟩ := (HBs.out w5 HF5.out).2.1.cells
 go_wp2_with fail
 with_reducible refine q2.mono ?_
 rintro e w6 ⟨rfl, f6⟩
 have HFc := Zz (HF5.out.then7 f6)
 clear q2 f6 HF5 y0 y1 y2 y3 y4 y5 y6 HR1 HR2
 obtain ⟨x0, x1, x2, x3, x4, x5, x6⟩ := Box.cells (HBs.out _ (Hid.out HFc)).1
 obtain ⟨y0, y1, y2, y3, y4, y5, y6⟩ := Box.cells (HBs.out _ (Hid.out HFc)).2.1
 obtain ⟨c0, c1, c2, c3, c4, c5, c6⟩ := Box.cells (HBs.out _ (Hid.out HFc)).2.2.1
 obtain ⟨d0, d1, d2, d3, d4, d5, d6⟩ := Box.cells (HBs.out _ (Hid.out HFc)).2.2.2
 have xz := Box.frozen (HBs.out _ (Hid.out HFc)).1
 have yz := Box.frozen (HBs.out _ (Hid.out HFc)).2.1
 have cz := Box.frozen (HBs.out _ (Hid.out HFc)).2.2.1
 have dz := Box.frozen (HBs.out _ (Hid.out HFc)).2.2.2
 have x7 : (K == 7) = false := beq_eq_false_iff_ne.2 (by omega)
 have x10 : (K == 10) = false := beq_eq_false_iff_ne.2 (by omega)
 have xc : decide (7 ≤ K ∧ K ≤ 9) = false := by simp; omega
 have xa : decide (K ≤ 6) = true := by simp; omega
 have yc : decide (7 ≤ (10 : Int) ∧ (10 : Int) ≤ 9) = false := by decide
 have ya : decide ((10 : Int) ≤ 6) = false := by decide
 rw [xc] at HCx
 rw [yc] at HCy
 rw [xa] at HAx
 rw [ya] at HAy
 have HCl := Zz (And.intro xcl ycl)
 obtain rfl : (⟨10, P', T', F', A', lO', lN'⟩, ⟨K, P, T, F, A, lO, lN⟩, (apP P' P && apP T' P)) = r := (show Zx ⟨K, P, T, F, A, lO, lN⟩ ⟨10, P', T', F', A', lO', lN'⟩ = _ from (rule_ap (Or.inl HCl.out.1) (Or.inr HCl.out.2)).trans (by have hk : ¬ K = 10 := (by omega); simp [Yg, Yn, hk, apP_comm P])).symm.trans HRr.out
 clear xc yc xa ya xcl ycl xk1 xk2
 generalize (apP P' P && apP T' P) = R at *
 cases R with
 | false =>
  simp only at HQ1 HQ2 HV HCk
  go_wp2_with (first | (go_at_call 78; with_reducible (refine (HP3.out _).mono ?_); rintro e w' ⟨rfl, f⟩; replace HFc := Zz (Fr.then7 (Hid.out HFc) f); clear f x0 x1 x2 x3 x4 x5 x6 y0 y1 y2 y3 y4 y5 y6 c0 c1 c2 c3 c4 c5 c6 d0 d1 d2 d3 d4 d5 d6 xz yz cz dz; obtain ⟨x0, x1, x2, x3, x4, x5, x6⟩ := Box.cells (HBs.out _ (Hid.out HFc)).1; obtain ⟨y0, y1, y2, y3, y4, y5, y6⟩ := Box.cells (HBs.out _ (Hid.out HFc)).2.1; obtain ⟨c0, c1, c2, c3, c4, c5, c6⟩ := Box.cells (HBs.out _ (Hid.out HFc)).2.2.1; obtain ⟨d0, d1, d2, d3, d4, d5, d6⟩ := Box.cells (HBs.out _ (Hid.out HFc)).2.2.2; have xz := Box.frozen (HBs.out _ (Hid.out HFc)).1; have yz := Box.frozen (HBs.out _ (Hid.out HFc)).2.1; have cz := Box.frozen (HBs.out _ (Hid.out HFc)).2.2.1; have dz := Box.frozen (HBs.out _ (Hid.out HFc)).2.2.2) | (go_at_call 79; with_reducible (refine (HCx.out _).mono ?_); rintro e w' ⟨rfl, f⟩; replace HFc := Zz (Fr.then7 (Hid.out HFc) f); clear f x0 x1 x2 x3 x4 x5 x6 y0 y1 y2 y3 y4 y5 y6 c0 c1 c2 c3 c4 c5 c6 d0 d1 d2 d3 d4 d5 d6 xz yz cz dz; obtain ⟨x0, x1, x2, x3, x4, x5, x6⟩ := Box.cells (HBs.out _ (Hid.out HFc)).1; obtain ⟨y0, y1, y2, y3, y4, y5, y6⟩ := Box.cells (HBs.out _ (Hid.out HFc)).2.1; obtain ⟨c0, c1, c2, c3, c4, c5, c6⟩ := Box.cells (HBs.out _ (Hid.out HFc)).2.2.1; obtain ⟨d0, d1, d2, d3, d4, d5, d6⟩ := Box.cells (HBs.out _ (Hid.out HFc)).2.2.2; have xz := Box.frozen (HBs.out _ (Hid.out HFc)).1; have yz := Box.frozen (HBs.out _ (Hid.out HFc)).2.1; have cz := Box.frozen (HBs.out _ (Hid.out HFc)).2.2.1; have dz := Box.frozen (HBs.out _ (Hid.out HFc)).2.2.2) | (go_at_call 79; with_reducible (refine (HCy.out _).mono ?_); rintro e w' ⟨rfl, f⟩; replace HFc := Zz (Fr.then7 (Hid.out HFc) f); clear f x0 x1 x2 x3 x4 x5 x6 y0 y1 y2 y3 y4 y5 y6 c0 c1 c2 c3 c4 c5 c6 d0 d1 d2 d3 d4 d5 d6 xz yz cz dz; obtain ⟨x0, x1, x2, x3, x4, x5, x6⟩ := Box.cells (HBs.out _ (Hid.out HFc)).1; obtain ⟨y0, y1, y2, y3, y4, y5, y6⟩ := Box.cells (HBs.out _ (Hid.out HFc)).2.1; obtain ⟨c0, c1, c2, c3, c4, c5, c6⟩ := Box.cells (HBs.out _ (Hid.out HFc)).2.2.1; obtain ⟨d0, d1, d2, d3, d4, d5, d6⟩ := Box.cells (HBs.out _ (Hid.out HFc)).2.2.2; have xz := Box.frozen (HBs.out _ (Hid.out HFc)).1; have yz := Box.frozen (HBs.out _ (Hid.out HFc)).2.1; have cz := Box.frozen (HBs.out _ (Hid.out HFc)).2.2.1; have dz := Box.frozen (HBs.out _ (Hid.out HFc)).2.2.2) | fail)
  have HBx := Zz (HBs.out _ (Hid.out HFc))
  have HWx := Zz (HF.out.then7 (Hid.out HFc))
  have HC := Zz (HCk.out.trans (show Zu _ = Yz from by unfold Zu; rw [if_neg (by simp)]))
  have hfin := Zt HWx.out HBx.out.2.2.1 HBx.out.2.2.2 n6 (by have := HN.out; omega) (by have := HN.out; omega) (.int .i64 0) (.string ⟨#[]⟩) (.string ⟨#[]⟩) (.string ⟨#[]⟩) (.int .i64 0) (.slice none 0 0) (.slice none 0 0) (.int .i64 0) (.string ⟨#[]⟩) (.string ⟨#[]⟩) (.string ⟨#[]⟩) (.int .i64 0) (.slice none 0 0) (.slice none 0 0)
  exact Zr (u := .bool false) rfl rfl rfl rfl rfl hfin.1 hfin.2.1 (Zq HC.out hfin.2.2.1)
 | true =>
  simp only at HQ1 HQ2 HV HCk
  go_wp2_with (first | (go_at_call 78; with_reducible (refine (HP3.out _).mono ?_); rintro e w' ⟨rfl, f⟩; replace HFc := Zz (Fr.then7 (Hid.out HFc) f); clear f x0 x1 x2 x3 x4 x5 x6 y0 y1 y2 y3 y4 y5 y6 c0 c1 c2 c3 c4 c5 c6 d0 d1 d2 d3 d4 d5 d6 xz yz cz dz; obtain ⟨x0, x1, x2, x3, x4, x5, x6⟩ := Box.cells (HBs.out _ (Hid.out HFc)).1; obtain ⟨y0, y1, y2, y3, y4, y5, y6⟩ := Box.cells (HBs.out _ (Hid.out HFc)).2.1; obtain ⟨c0, c1, c2, c3, c4, c5, c6⟩ := Box.cells (HBs.out _ (Hid.out HFc)).2.2.1; obtain ⟨d0, d1, d2, d3, d4, d5, d6⟩ := Box.cells (HBs.out _ (Hid.out HFc)).2.2.2; have xz := Box.frozen (HBs.out _ (Hid.out HFc)).1; have yz := Box.frozen (HBs.out _ (Hid.out HFc)).2.1; have cz := Box.frozen (HBs.out _ (Hid.out HFc)).2.2.1; have dz := Box.frozen (HBs.out _ (Hid.out HFc)).2.2.2) | (go_at_call 79; with_reducible (refine (HCx.out _).mono ?_); rintro e w' ⟨rfl, f⟩; replace HFc := Zz (Fr.then7 (Hid.out HFc) f); clear f x0 x1 x2 x3 x4 x5 x6 y0 y1 y2 y3 y4 y5 y6 c0 c1 c2 c3 c4 c5 c6 d0 d1 d2 d3 d4 d5 d6 xz yz cz dz; obtain ⟨x0, x1, x2, x3, x4, x5, x6⟩ := Box.cells (HBs.out _ (Hid.out HFc)).1; obtain ⟨y0, y1, y2, y3, y4, y5, y6⟩ := Box.cells (HBs.out _ (Hid.out HFc)).2.1; obtain ⟨c0, c1, c2, c3, c4, c5, c6⟩ := Box.cells (HBs.out _ (Hid.out HFc)).2.2.1; obtain ⟨d0, d1, d2, d3, d4, d5, d6⟩ := Box.cells (HBs.out _ (Hid.out HFc)).2.2.2; have xz := Box.frozen (HBs.out _ (Hid.out HFc)).1; have yz := Box.frozen (HBs.out _ (Hid.out HFc)).2.1; have cz := Box.frozen (HBs.out _ (Hid.out HFc)).2.2.1; have dz := Box.frozen (HBs.out _ (Hid.out HFc)).2.2.2) | (go_at_call 79; with_reducible (refine (HCy.out _).mono ?_); rintro e w' ⟨rfl, f⟩; replace HFc := Zz (Fr.then7 (Hid.out HFc) f); clear f x0 x1 x2 x3 x4 x5 x6 y0 y1 y2 y3 y4 y5 y6 c0 c1 c2 c3 c4 c5 c6 d0 d1 d2 d3 d4 d5 d6 xz yz cz dz; obtain ⟨x0, x1, x2, x3, x4, x5, x6⟩ := Box.cells (HBs.out _ (Hid.out HFc)).1; obtain ⟨y0, y1, y2, y3, y4, y5, y6⟩ := Box.cells (HBs.out _ (Hid.out HFc)).2.1; obtain ⟨c0, c1, c2, c3, c4, c5, c6⟩ := Box.cells (HBs.out _ (Hid.out HFc)).2.2.1; obtain ⟨d0, d1, d2, d3, d4, d5, d6⟩ := Box.cells (HBs.out _ (Hid.out HFc)).2.2.2; have xz := Box.frozen (HBs.out _ (Hid.out HFc)).1; have yz := Box.frozen (HBs.out _ (Hid.out HFc)).2.1; have cz := Box.frozen (HBs.out _ (Hid.out HFc)).2.2.1; have dz := Box.frozen (HBs.out _ (Hid.out HFc)).2.2.2) | fail)
  have HBx := Zz (HBs.out _ (Hid.out HFc))
  have HWx := Zz (HF.out.then7 (Hid.out HFc))
  obtain ⟨R7, hR7⟩ : ∃ R, Zw ⟨K, P, T, F, A, lO, lN⟩ = R := ⟨_, rfl⟩
  obtain ⟨R8, hR8⟩ : ∃ R, Zw ⟨10, P', T', F', A', lO', lN'⟩ = R := ⟨_, rfl⟩
  rw [hR7] at HQ2
  rw [hR8] at HQ1
  have HE7 := Zz hR7
  have HE8 := Zz hR8
  clear hR7 hR8
  with_reducible refine (HQ2.out _ HWx.out).mono ?_
  rintro e w7 ⟨rfl, f7⟩
  have HB7 := Zz (show Box w7 w.heap.size (.int .i64 K) (.string P) (.string T) (.string F) (.int .i64 A) (.slice pa no ca) (.slice pb nn cb) ∧ Box w7 w1.heap.size (.int .i64 10) (.string P') (.string T') (.string F') (.int .i64 A') (.slice qa mo da) (.slice qb mn db) ∧ Box w7 w2.heap.size (.int .i64 0) (.string ⟨#[]⟩) (.string ⟨#[]⟩) (.string ⟨#[]⟩) (.int .i64 0) (.slice none 0 0) (.slice none 0 0) ∧ Box w7 w3.heap.size (.int .i64 0) (.string ⟨#[]⟩) (.string ⟨#[]⟩) (.string ⟨#[]⟩) (.int .i64 0) (.slice none 0 0) (.slice none 0 0) from ⟨HBx.out.1.kept f7, HBx.out.2.1.kept f7, HBx.out.2.2.1.kept f7, HBx.out.2.2.2.kept f7⟩)
  replace HWx := Zz (HWx.out.then7 f7)
  replace HBx := HB7
  clear HB7 f7 x0 x1 x2 x3 x4 x5 x6 y0 y1 y2 y3 y4 y5 y6 c0 c1 c2 c3 c4 c5 c6 d0 d1 d2 d3 d4 d5 d6 xz yz cz dz
  cases R7 with
  | false =>
   have HC := Zz (HCk.out.trans (show Zu _ = Yz from by unfold Zu; rw [if_neg (by simp [HE7.out])]))
   have HBf := Zz (show Box w7 w2.heap.size (.int .i64 0) (.string ⟨#[]⟩) (.string ⟨#[]⟩) (.string ⟨#[]⟩) (.int .i64 0) (.slice none 0 0) (.slice none 0 0) ∧ Box w7 w3.heap.size (.int .i64 0) (.string ⟨#[]⟩) (.string ⟨#[]⟩) (.string ⟨#[]⟩) (.int .i64 0) (.slice none 0 0) (.slice none 0 0) from ⟨HBx.out.2.2.1, HBx.out.2.2.2⟩)
   obtain ⟨c0, c1, c2, c3, c4, c5, c6⟩ := HBf.out.1.cells
   obtain ⟨d0, d1, d2, d3, d4, d5, d6⟩ := HBf.out.2.cells
   have cz := HBf.out.1.frozen
   have dz := HBf.out.2.frozen
   go_wp2_with fail
   have hfin := Zt HWx.out HBf.out.1 HBf.out.2 n6 (by have := HN.out; omega) (by have := HN.out; omega) (.int .i64 0) (.string ⟨#[]⟩) (.string ⟨#[]⟩) (.string ⟨#[]⟩) (.int .i64 0) (.slice none 0 0) (.slice none 0 0) (.int .i64 0) (.string ⟨#[]⟩) (.string ⟨#[]⟩) (.string ⟨#[]⟩) (.int .i64 0) (.slice none 0 0) (.slice none 0 0)
   exact Zr (u := .bool false) rfl rfl rfl rfl rfl hfin.1 hfin.2.1 (Zq HC.out hfin.2.2.1)
  | true =>
   obtain ⟨y0, y1, y2, y3, y4, y5, y6⟩ := HBx.out.2.1.cells
   go_wp2_with fail
   with_reducible refine (HQ1.out _ HWx.out).mono ?_
   rintro e w8 ⟨rfl, f8⟩
   have HB8 := Zz (show Box w8 w.heap.size (.int .i64 K) (.string P) (.string T) (.string F) (.int .i64 A) (.slice pa no ca) (.slice pb nn cb) ∧ Box w8 w1.heap.size (.int .i64 10) (.string P') (.string T') (.string F') (.int .i64 A') (.slice qa mo da) (.slice qb mn db) ∧ Box w8 w2.heap.size (.int .i64 0) (.string ⟨#[]⟩) (.string ⟨#[]⟩) (.string ⟨#[]⟩) (.int .i64 0) (.slice none 0 0) (.slice none 0 0) ∧ Box w8 w3.heap.size (.int .i64 0) (.string ⟨#[]⟩) (.string ⟨#[]⟩) (.string ⟨#[]⟩) (.int .i64 0) (.slice none 0 0) (.slice none 0 0) from ⟨HBx.out.1.kept f8, HBx.out.2.1.kept f8, HBx.out.2.2.1.kept f8, HBx.out.2.2.2.kept f8⟩)
   replace HWx := Zz (HWx.out.then7 f8)
   replace HBx := HB8
   clear HB8 f8 y0 y1 y2 y3 y4 y5 y6
   cases R8 with
   | false =>
    have HC := Zz (HCk.out.trans (show Zu _ = Yz from by unfold Zu; rw [if_neg (by simp [HE8.out])]))
    have HBf := Zz (show Box w8 w2.heap.size (.int .i64 0) (.string ⟨#[]⟩) (.string ⟨#[]⟩) (.string ⟨#[]⟩) (.int .i64 0) (.slice none 0 0) (.slice none 0 0) ∧ Box w8 w3.heap.size (.int .i64 0) (.string ⟨#[]⟩) (.string ⟨#[]⟩) (.string ⟨#[]⟩) (.int .i64 0) (.slice none 0 0) (.slice none 0 0) from ⟨HBx.out.2.2.1, HBx.out.2.2.2⟩)
    obtain ⟨c0, c1, c2, c3, c4, c5, c6⟩ := HBf.out.1.cells
    obtain ⟨d0, d1, d2, d3, d4, d5, d6⟩ := HBf.out.2.cells
    have cz := HBf.out.1.frozen
    have dz := HBf.out.2.frozen
    go_wp2_with fail
    have hfin := Zt HWx.out HBf.out.1 HBf.out.2 n6 (by have := HN.out; omega) (by have := HN.out; omega) (.int .i64 0) (.string ⟨#[]⟩) (.string ⟨#[]⟩) (.string ⟨#[]⟩) (.int .i64 0) (.slice none 0 0) (.slice none 0 0) (.int .i64 0) (.string ⟨#[]⟩) (.string ⟨#[]⟩) (.string ⟨#[]⟩) (.int .i64 0) (.slice none 0 0) (.slice none 0 0)
    exact Zr (u := .bool false) rfl rfl rfl rfl rfl hfin.1 hfin.2.1 (Zq HC.out hfin.2.2.1)
   | true =>
    have HC := Zz (HCk.out.trans (show Zu (⟨10, P', T', F', A', lO', lN'⟩, ⟨K, P, T, F, A, lO, lN⟩, true) = (⟨10, P', T', F', A', lO', lN'⟩, ⟨K, P, T, F, A, lO, lN⟩, true) from by unfold Zu; rw [if_pos (by simp [HE7.out, HE8.out])]))
    have HS := Zz (show (∀ w', Fr (fun k => k = w2.heap.size ∨ k = w3.heap.size) w8 w' → Fr (fun k => k = w2.heap.size ∨ k = w3.heap.size) w8 w' ∧ w'.cell? ⟨w.heap.size, 0, none⟩ = some (.int .i64 K) ∧ w'.cell? ⟨w.heap.size, 1, none⟩ = some (.string P) ∧ w'.cell? ⟨w.heap.size, 2, none⟩ = some (.string T) ∧ w'.cell? ⟨w.heap.size, 3, none⟩ = some (.string F) ∧ w'.cell? ⟨w.heap.size, 4, none⟩ = some (.int .i64 A) ∧ w'.cell? ⟨w.heap.size, 5, none⟩ = some (.slice pa no ca) ∧ w'.cell? ⟨w.heap.size, 6, none⟩ = some (.slice pb nn cb) ∧ w'.cell? ⟨w1.heap.size, 0, none⟩ = some (.int .i64 10) ∧ w'.cell? ⟨w1.heap.size, 1, none⟩ = some (.string P') ∧ w'.cell? ⟨w1.heap.size, 2, none⟩ = some (.string T') ∧ w'.cell? ⟨w1.heap.size, 3, none⟩ = some (.string F') ∧ w'.cell? ⟨w1.heap.size, 4, none⟩ = some (.int .i64 A') ∧ w'.cell? ⟨w1.heap.size, 5, none⟩ = some (.slice qa mo da) ∧ w'.cell? ⟨w1.heap.size, 6, none⟩ = some (.slice qb mn db)) from fun w' f => by
     obtain ⟨x0, x1, x2, x3, x4, x5, x6⟩ := (HBx.out.1.fr f (by have := HN.out; omega)).cells
     obtain ⟨y0, y1, y2, y3, y4, y5, y6⟩ := (HBx.out.2.1.fr f (by have := HN.out; omega)).cells
     exact ⟨f, x0, x1, x2, x3, x4, x5, x6, y0, y1, y2, y3, y4, y5, y6⟩)
    have hS0 := HS.out w8.drew (Fr.drew _ w8)
    have hS6 := HS.out (setP w8 w2.heap.size (.int .i64 10) (.string P') (.string T') (.string F') (.int .i64 A') (.slice qa mo da) (.slice qb mn db)).drew (Fr.then (Fr.setP _ (Or.inl rfl) _ _ _ _ _ _ _) (Fr.drew _ _))
    have hS7 := HS.out (setP (setP w8 w2.heap.size (.int .i64 10) (.string P') (.string T') (.string F') (.int .i64 A') (.slice qa mo da) (.slice qb mn db)) w3.heap.size (.int .i64 K) (.string P) (.string T) (.string F) (.int .i64 A) (.slice pa no ca) (.slice pb nn cb)).drew (Fr.then (Fr.then (Fr.setP _ (Or.inl rfl) _ _ _ _ _ _ _) (Fr.setP _ (Or.inr rfl) _ _ _ _ _ _ _)) (Fr.drew _ _))
    obtain ⟨c0, c1, c2, c3, c4, c5, c6⟩ := HBx.out.2.2.1.cells
    obtain ⟨d0, d1, d2, d3, d4, d5, d6⟩ := HBx.out.2.2.2.cells
    have cz := HBx.out.2.2.1.frozen
    have dz := HBx.out.2.2.2.frozen
    go_wp2_with fail
    go_region_held3 (fun w' => Fr (fun k => k = w2.heap.size ∨ k = w3.heap.size) w8 w' ∧ w'.cell? ⟨w.heap.size, 0, none⟩ = some (.int .i64 K) ∧ w'.cell? ⟨w.heap.size, 1, none⟩ = some (.string P) ∧ w'.cell? ⟨w.heap.size, 2, none⟩ = some (.string T) ∧ w'.cell? ⟨w.heap.size, 3, none⟩ = some (.string F) ∧ w'.cell? ⟨w.heap.size, 4, none⟩ = some (.int .i64 A) ∧ w'.cell? ⟨w.heap.size, 5, none⟩ = some (.slice pa no ca) ∧ w'.cell? ⟨w.heap.size, 6, none⟩ = some (.slice pb nn cb) ∧ w'.cell? ⟨w1.heap.size, 0, none⟩ = some (.int .i64 10) ∧ w'.cell? ⟨w1.heap.size, 1, none⟩ = some (.string P') ∧ w'.cell? ⟨w1.heap.size, 2, none⟩ = some (.string T') ∧ w'.cell? ⟨w1.heap.size, 3, none⟩ = some (.string F') ∧ w'.cell? ⟨w1.heap.size, 4, none⟩ = some (.int .i64 A') ∧ w'.cell? ⟨w1.heap.size, 5, none⟩ = some (.slice qa mo da) ∧ w'.cell? ⟨w1.heap.size, 6, none⟩ = some (.slice qb mn db))
     (first | with_reducible exact hS0 | with_reducible exact hS6 | with_reducible exact hS7)
     (fail)
    clear hS0 hS6 hS7 cz dz c0 c1 c2 c3 c4 c5 c6 d0 d1 d2 d3 d4 d5 d6
    go_wp2_with fail
    have hfin := Zt HWx.out HBx.out.2.2.1 HBx.out.2.2.2 n6 (by have := HN.out; omega) (by have := HN.out; omega) (.int .i64 10) (.string P') (.string T') (.string F') (.int .i64 A') (.slice qa mo da) (.slice qb mn db) (.int .i64 K) (.string P) (.string T) (.string F) (.int .i64 A) (.slice pa no ca) (.slice pb nn cb)
    have hfr := hfin.2.2.1.then7 (Fr.drew None' _)
    exact Zr rfl rfl rfl rfl rfl hfin.1.drew hfin.2.1.drew (by rw [HC.out]; exact ⟨_, _, rfl, HV.out.1, HV.out.2, hfr⟩)
theorem rcomm_10 (x y : Pr) (pa pb qa qb : Option Addr) (no nn ca cb mo mn da db : Nat) (w : World) (kx : Ys x = 1 ∧ 7 ≤ x.kind ∧ x.kind ≤ 9) (ky : Ys y = 0 ∧ y.kind ≤ 6 ∧ 1 ≤ y.kind) (hno : x.old.length = no) (hnn : x.new.length = nn) (hmo : y.old.length = mo) (hmn : y.new.length = mn) (sx : Zs x) (sy : Zs y) (fx : Zw x = true) (fy : Zw y = true)
  (HR1 : Hid (∀ w', Fr None' w w' → Calls Tryz.prog 61 #[.agg #[.int .i64 x.kind, .string x.path, .string x.dst, .string x.src, .int .i64 x.pos, .slice pa no ca, .slice pb nn cb]] w' (fun e w'' => e = .returned (.bool true) ∧ Fr None' w' w'')))
  (HR2 : Hid (∀ w', Fr None' w w' → Calls Tryz.prog 61 #[.agg #[.int .i64 y.kind, .string y.path, .string y.dst, .string y.src, .int .i64 y.pos, .slice qa mo da, .slice qb mn db]] w' (fun e w'' => e = .returned (.bool true) ∧ Fr None' w' w'')))
  (HQ1 : Hid (∀ w', Fr None' w w' → Calls Tryz.prog 61 #[.agg #[.int .i64 (Zx x y).1.kind, .string (Zx x y).1.path, .string (Zx x y).1.dst, .string (Zx x y).1.src, .int .i64 (Zx x y).1.pos, .slice qa mo da, .slice qb mn db]] w' (fun e w'' => e = .returned (.bool (Zw (Zx x y).1)) ∧ Fr None' w' w'')))
  (HQ2 : Hid (∀ w', Fr None' w w' → Calls Tryz.prog 61 #[.agg #[.int .i64 (Zx x y).2.1.kind, .string (Zx x y).2.1.path, .string (Zx x y).2.1.dst, .string (Zx x y).2.1.src, .int .i64 (Zx x y).2.1.pos, .slice pa no ca, .slice pb nn cb]] w' (fun e w'' => e = .returned (.bool (Zw (Zx x y).2.1)) ∧ Fr None' w' w'')))
  (w0 : World) (HV : Hid (Yf w0 (.agg #[.int .i64 (Zx x y).1.kind, .string (Zx x y).1.path, .string (Zx x y).1.dst, .string (Zx x y).1.src, .int .i64 (Zx x y).1.pos, .slice qa mo da, .slice qb mn db]) (Zx x y).1 ∧ Yf w0 (.agg #[.int .i64 (Zx x y).2.1.kind, .string (Zx x y).2.1.path, .string (Zx x y).2.1.dst, .string (Zx x y).2.1.src, .int .i64 (Zx x y).2.1.pos, .slice pa no ca, .slice pb nn cb]) (Zx x y).2.1)) :
  Calls Tryz.prog 57 #[.agg #[.int .i64 x.kind, .string x.path, .string x.dst, .string x.src, .int .i64 x.pos, .slice pa no ca, .slice pb nn cb], .agg #[.int .i64 y.kind, .string y.path, .string y.dst, .string y.src, .int .i64 y.pos, .slice qa mo da, .slice qb mn db]] w fun e w' => Z9 x y w0 w e w' := by
 have HCk := Zz (show Zj x y = Zu (Zx x y) from by unfold Zj; rw [if_pos (by simp [fx, fy])])
 have HRu := Zz (show Zx x y = Zx x y from rfl)
 have HLn := Zz (fun (h7 : x.kind = 7) (h7' : y.kind = 7) w' => Yh x y pa pb qa qb no nn ca cb mo mn da db w' hno hnn hmo hmn (by have := sx.old; omega) (by have := sx.new; omega) (by have := sy.old; omega) (by have := sy.new; omega) (Yt fx h7) (Yt fy h7'))
 have HCx := Zz (fun w' => Z8 x pa pb no nn ca cb w')
 have HCy := Zz (fun w' => Z8 y qa qb mo mn da db w')
 have HAx := Zz (fun w' => Zf x pa pb no nn ca cb w')
 have HAy := Zz (fun w' => Zf y qa qb mo mn da db w')
 have HP1 := Zz (fun w' => Zn x y.path pa pb no nn ca cb w' sx.path sx.dst sy.path)
 have HP2 := Zz (fun w' => Zn x y.dst pa pb no nn ca cb w' sx.path sx.dst sy.dst)
 have HP3 := Zz (fun w' => Zn y x.path qa qb mo mn da db w' sy.path sy.dst sx.path)
 have HP4 := Zz (show ∀ w', Calls Tryz.prog 63 #[.string x.path, .string y.path] w' (fun e w'' => e = .returned (.bool (apP x.path y.path)) ∧ w' = w'') from fun w' => Path.rapart_any x.path y.path w' (by have := sx.path; omega) (by have := sy.path; omega))
 have HM1 := Zz (show ∀ w', Calls Tryz.prog 80 #[.string y.path, .string x.dst, .string x.path] w' (fun e w'' => e = .returned (.tuple #[.string (moP y.path x.dst x.path), .bool (wiP y.path x.dst)]) ∧ w' = w'') from fun w' => Path.rmoved_any y.path x.dst x.path w' (by have := sy.path; omega) (by have := sx.dst; omega) (by have := sx.path; omega))
 have HM2 := Zz (show ∀ w', Calls Tryz.prog 80 #[.string x.path, .string y.path, .string y.dst] w' (fun e w'' => e = .returned (.tuple #[.string (moP x.path y.path y.dst), .bool (wiP x.path y.path)]) ∧ w' = w'') from fun w' => Path.rmoved_any x.path y.path y.dst w' (by have := sx.path; omega) (by have := sy.path; omega) (by have := sy.dst; omega))
 have HW1 := Zz (show ∀ w', Calls Tryz.prog 81 #[.string y.path, .string x.path] w' (fun e w'' => e = .returned (.bool (wiP y.path x.path)) ∧ w' = w'') from fun w' => Path.rwithin_any y.path x.path w' (by have := sy.path; omega) (by have := sx.path; omega))
 have HW2 := Zz (show ∀ w', Calls Tryz.prog 81 #[.string x.path, .string y.dst] w' (fun e w'' => e = .returned (.bool (wiP x.path y.dst)) ∧ w' = w'') from fun w' => Path.rwithin_any x.path y.dst w' (by have := sx.path; omega) (by have := sy.dst; omega))
 generalize hr : Zx x y = r at HCk HQ1 HQ2 HV
 have HRr := Zz hr
 unfold Z9
 generalize Zj x y = cc at HCk ⊢
 obtain ⟨K, P, T, F, A, lO, lN⟩ := x
 obtain ⟨K', P', T', F', A', lO', lN'⟩ := y
 simp only at hno hnn hmo hmn HR1 HR2 HLn HCx HCy HAx HAy HP1 HP2 HP3 HP4 HM1 HM2 HW1 HW2 kx ky ⊢
 clear hno hnn hmo hmn sx sy fx fy HRu
 obtain ⟨w1, hw1⟩ : ∃ w1, w.alloc (.cells #[.int .i64 K, .string P, .string T, .string F, .int .i64 A, .slice pa no ca, .slice pb nn cb] 43) = w1 := ⟨_, rfl⟩
 obtain ⟨w2, hw2⟩ : ∃ w2, w1.alloc (.cells #[.int .i64 K', .string P', .string T', .string F', .int .i64 A', .slice qa mo da, .slice qb mn db] 43) = w2 := ⟨_, rfl⟩
 obtain ⟨w3, hw3⟩ : ∃ w3, w2.alloc (.cells #[.int .i64 0, .string ⟨#[]⟩, .string ⟨#[]⟩, .string ⟨#[]⟩, .int .i64 0, .slice none 0 0, .slice none 0 0] 43) = w3 := ⟨_, rfl⟩
 obtain ⟨w4, hw4⟩ : ∃ w4, w3.alloc (.cells #[.int .i64 0, .string ⟨#[]⟩, .string ⟨#[]⟩, .string ⟨#[]⟩, .int .i64 0, .slice none 0 0, .slice none 0 0] 43) = w4 := ⟨_, rfl⟩
 have F1 : Fr None' w w1 := hw1 ▸ Fr.alloc None' w _
 have F2 : Fr None' w1 w2 := hw2 ▸ Fr.alloc None' w1 _
 have F3 : Fr None' w2 w3 := hw3 ▸ Fr.alloc None' w2 _
 have F4 : Fr None' w3 w4 := hw4 ▸ Fr.alloc None' w3 _
 have BX : Box w4 w.heap.size (.int .i64 K) (.string P) (.string T) (.string F) (.int .i64 A) (.slice pa no ca) (.slice pb nn cb) := (hw1 ▸ Box.new w _ _ _ _ _ _ _ : Box w1 _ _ _ _ _ _ _ _).kept ((F2.then7 F3).then7 F4)
 have BY : Box w4 w1.heap.size (.int .i64 K') (.string P') (.string T') (.string F') (.int .i64 A') (.slice qa mo da) (.slice qb mn db) := (hw2 ▸ Box.new w1 _ _ _ _ _ _ _ : Box w2 _ _ _ _ _ _ _ _).kept (F3.then7 F4)
 have BC : Box w4 w2.heap.size (.int .i64 0) (.string ⟨#[]⟩) (.string ⟨#[]⟩) (.string ⟨#[]⟩) (.int .i64 0) (.slice none 0 0) (.slice none 0 0) := (hw3 ▸ Box.new w2 _ _ _ _ _ _ _ : Box w3 _ _ _ _ _ _ _ _).kept F4
 have BD : Box w4 w3.heap.size (.int .i64 0) (.string ⟨#[]⟩) (.string ⟨#[]⟩) (.string ⟨#[]⟩) (.int .i64 0) (.slice none 0 0) (.slice none 0 0) := hw4 ▸ Box.new w3 _ _ _ _ _ _ _
 have s1 : w1.heap.size = w.heap.size + 1 := by rw [← hw1]; simp
 have s2 : w2.heap.size = w1.heap.size + 1 := by rw [← hw2]; simp
 have s3 : w3.heap.size = w2.heap.size + 1 := by rw [← hw3]; simp
 have HF : Hid (Fr None' w w4) := ((F1.then7 F2).then7 F3).then7 F4
 have HN : Hid (w.heap.size < w1.heap.size ∧ w1.heap.size < w2.heap.size ∧ w2.heap.size < w3.heap.size) := ⟨by omega, by omega, by omega⟩
 have n1 : ¬ w.heap.size = w1.heap.size := by omega
 have n2 : ¬ w.heap.size = w2.heap.size := by omega
 have n3 : ¬ w.heap.size = w3.heap.size := by omega
 have n4 : ¬ w1.heap.size = w2.heap.size := by omega
 have n5 : ¬ w1.heap.size = w3.heap.size := by omega
 have n6 : ¬ w2.heap.size = w3.heap.size := by omega
 have HBs : Hid (∀ w', Fr None' w4 w' → Box w' w.heap.size (.int .i64 K) (.string P) (.string T) (.string F) (.int .i64 A) (.slice pa no ca) (.slice pb nn cb) ∧ Box w' w1.heap.size (.int .i64 K') (.string P') (.string T') (.string F') (.int .i64 A') (.slice qa mo da) (.slice qb mn db) ∧ Box w' w2.heap.size (.int .i64 0) (.string ⟨#[]⟩) (.string ⟨#[]⟩) (.string ⟨#[]⟩) (.int .i64 0) (.slice none 0 0) (.slice none 0 0) ∧ Box w' w3.heap.size (.int .i64 0) (.string ⟨#[]⟩) (.string ⟨#[]⟩) (.string ⟨#[]⟩) (.int .i64 0) (.slice none 0 0) (.slice none 0 0)) := fun w' f => ⟨BX.kept f, BY.kept f, BC.kept f, BD.kept f⟩
 obtain ⟨x0, x1, x2, x3, x4, x5, x6⟩ := BX.cells
 clear F1 F2 F3 F4 BX BY BC BD s1 s2 s3
 clear n1 n2 n3 n4 n5 hr
 obtain ⟨xcl, xk1, xk2⟩ := kx
 obtain ⟨ycl, yk1, yk2⟩ := ky
 have q1 := HR1.out w4 HF.out
 go_enter Tryz.func57, Tryz.ntmps57
 go_wp2_with fail
 with_reducible refine q1.mono ?_
 rintro e w5 ⟨rfl, f5⟩
 have HF5 := Zz f5
 have q2 := HR2.out w5 (HF.out.then7 f5)
 clear q1 f5 x0 x1 x2 x3 x4 x5 x6
 obtain ⟨y0, y1, y2, y3, y4, y5, y6⟩ := (HBs.out w5 HF5.out).2.1.cells
 go_wp2_with fail
 with_reducible refine q2.mono ?_
 rintro e w6 ⟨rfl, f6⟩
 have HFc := Zz (HF5.out.then7 f6)
 clear q2 f6 HF5 y0 y1 y2 y3 y4 y5 y6 HR1 HR2
 obtain ⟨x0, x1, x2, x3, x4, x5, x6⟩ := Box.cells (HBs.out _ (Hid.out HFc)).1
 obtain ⟨y0, y1, y2, y3, y4, y5, y6⟩ := Box.cells (HBs.out _ (Hid.out HFc)).2.1
 obtain ⟨c0, c1, c2, c3, c4, c5, c6⟩ := Box.cells (HBs.out _ (Hid.out HFc)).2.2.1
 obtain ⟨d0, d1, d2, d3, d4, d5, d6⟩ := Box.cells (HBs.out _ (Hid.out HFc)).2.2.2
 have xz := Box.frozen (HBs.out _ (Hid.out HFc)).1
 have yz := Box.frozen (HBs.out _ (Hid.out HFc)).2.1
 have cz := Box.frozen (HBs.out _ (Hid.out HFc)).2.2.1
 have dz := Box.frozen (HBs.out _ (Hid.out HFc)).2.2.2
 have x10 : (K == 10) = false := beq_eq_false_iff_ne.2 (by omega)
 have xc : decide (7 ≤ K ∧ K ≤ 9) = true := by simp; omega
 have xa : decide (K ≤ 6) = false := by simp; omega
 have y7 : (K' == 7) = false := beq_eq_false_iff_ne.2 (by omega)
 have y10 : (K' == 10) = false := beq_eq_false_iff_ne.2 (by omega)
 have yc : decide (7 ≤ K' ∧ K' ≤ 9) = false := by simp; omega
 have ya : decide (K' ≤ 6) = true := by simp; omega
 rw [xc] at HCx
 rw [yc] at HCy
 rw [xa] at HAx
 rw [ya] at HAy
 have HCl := Zz (And.intro xcl ycl)
 obtain rfl : (⟨K', P', T', F', A', lO', lN'⟩, ⟨K, P, T, F, A, lO, lN⟩, decide (¬ P = P')) = r := (show Zx ⟨K, P, T, F, A, lO, lN⟩ ⟨K', P', T', F', A', lO', lN'⟩ = _ from rule_un (Or.inl HCl.out)).symm.trans HRr.out
 clear xc yc xa ya xcl ycl xk1 xk2 yk1 yk2
 by_cases h7 : K = 7
 ·subst h7
  by_cases hP : P = P'
  ·subst hP
   rw [decide_eq_false (by simp)] at *
   simp only at HQ1 HQ2 HV HCk
   go_wp2_with (first | (go_at_call 79; with_reducible (refine (HCx.out _).mono ?_); rintro e w' ⟨rfl, f⟩; replace HFc := Zz (Fr.then7 (Hid.out HFc) f); clear f x0 x1 x2 x3 x4 x5 x6 y0 y1 y2 y3 y4 y5 y6 c0 c1 c2 c3 c4 c5 c6 d0 d1 d2 d3 d4 d5 d6 xz yz cz dz; obtain ⟨x0, x1, x2, x3, x4, x5, x6⟩ := Box.cells (HBs.out _ (Hid.out HFc)).1; obtain ⟨y0, y1, y2, y3, y4, y5, y6⟩ := Box.cells (HBs.out _ (Hid.out HFc)).2.1; obtain ⟨c0, c1, c2, c3, c4, c5, c6⟩ := Box.cells (HBs.out _ (Hid.out HFc)).2.2.1; obtain ⟨d0, d1, d2, d3, d4, d5, d6⟩ := Box.cells (HBs.out _ (Hid.out HFc)).2.2.2; have xz := Box.frozen (HBs.out _ (Hid.out HFc)).1; have yz := Box.frozen (HBs.out _ (Hid.out HFc)).2.1; have cz := Box.frozen (HBs.out _ (Hid.out HFc)).2.2.1; have dz := Box.frozen (HBs.out _ (Hid.out HFc)).2.2.2) | (go_at_call 79; with_reducible (refine (HCy.out _).mono ?_); rintro e w' ⟨rfl, f⟩; replace HFc := Zz (Fr.then7 (Hid.out HFc) f); clear f x0 x1 x2 x3 x4 x5 x6 y0 y1 y2 y3 y4 y5 y6 c0 c1 c2 c3 c4 c5 c6 d0 d1 d2 d3 d4 d5 d6 xz yz cz dz; obtain ⟨x0, x1, x2, x3, x4, x5, x6⟩ := Box.cells (HBs.out _ (Hid.out HFc)).1; obtain ⟨y0, y1, y2, y3, y4, y5, y6⟩ := Box.cells (HBs.out _ (Hid.out HFc)).2.1; obtain ⟨c0, c1, c2, c3, c4, c5, c6⟩ := Box.cells (HBs.out _ (Hid.out HFc)).2.2.1; obtain ⟨d0, d1, d2, d3, d4, d5, d6⟩ := Box.cells (HBs.out _ (Hid.out HFc)).2.2.2; have xz := Box.frozen (HBs.out _ (Hid.out HFc)).1; have yz := Box.frozen (HBs.out _ (Hid.out HFc)).2.1; have cz := Box.frozen (HBs.out _ (Hid.out HFc)).2.2.1; have dz := Box.frozen (HBs.out _ (Hid.out HFc)).2.2.2) | (go_at_call 82; with_reducible (refine (HAx.out _).mono ?_); rintro e w' ⟨rfl, f⟩; replace HFc := Zz (Fr.then7 (Hid.out HFc) f); clear f x0 x1 x2 x3 x4 x5 x6 y0 y1 y2 y3 y4 y5 y6 c0 c1 c2 c3 c4 c5 c6 d0 d1 d2 d3 d4 d5 d6 xz yz cz dz; obtain ⟨x0, x1, x2, x3, x4, x5, x6⟩ := Box.cells (HBs.out _ (Hid.out HFc)).1; obtain ⟨y0, y1, y2, y3, y4, y5, y6⟩ := Box.cells (HBs.out _ (Hid.out HFc)).2.1; obtain ⟨c0, c1, c2, c3, c4, c5, c6⟩ := Box.cells (HBs.out _ (Hid.out HFc)).2.2.1; obtain ⟨d0, d1, d2, d3, d4, d5, d6⟩ := Box.cells (HBs.out _ (Hid.out HFc)).2.2.2; have xz := Box.frozen (HBs.out _ (Hid.out HFc)).1; have yz := Box.frozen (HBs.out _ (Hid.out HFc)).2.1; have cz := Box.frozen (HBs.out _ (Hid.out HFc)).2.2.1; have dz := Box.frozen (HBs.out _ (Hid.out HFc)).2.2.2) | (go_at_call 82; with_reducible (refine (HAy.out _).mono ?_); rintro e w' ⟨rfl, f⟩; replace HFc := Zz (Fr.then7 (Hid.out HFc) f); clear f x0 x1 x2 x3 x4 x5 x6 y0 y1 y2 y3 y4 y5 y6 c0 c1 c2 c3 c4 c5 c6 d0 d1 d2 d3 d4 d5 d6 xz yz cz dz; obtain ⟨x0, x1, x2, x3, x4, x5, x6⟩ := Box.cells (HBs.out _ (Hid.out HFc)).1; obtain ⟨y0, y1, y2, y3, y4, y5, y6⟩ := Box.cells (HBs.out _ (Hid.out HFc)).2.1; obtain ⟨c0, c1, c2, c3, c4, c5, c6⟩ := Box.cells (HBs.out _ (Hid.out HFc)).2.2.1; obtain ⟨d0, d1, d2, d3, d4, d5, d6⟩ := Box.cells (HBs.out _ (Hid.out HFc)).2.2.2; have xz := Box.frozen (HBs.out _ (Hid.out HFc)).1; have yz := Box.frozen (HBs.out _ (Hid.out HFc)).2.1; have cz := Box.frozen (HBs.out _ (Hid.out HFc)).2.2.1; have dz := Box.frozen (HBs.out _ (Hid.out HFc)).2.2.2) | fail)
   have HBx := Zz (HBs.out _ (Hid.out HFc))
   have HWx := Zz (HF.out.then7 (Hid.out HFc))
   have HC := Zz (HCk.out.trans (show Zu _ = Yz from by unfold Zu; rw [if_neg (by simp)]))
   have hfin := Zt HWx.out HBx.out.2.2.1 HBx.out.2.2.2 n6 (by have := HN.out; omega) (by have := HN.out; omega) (.int .i64 0) (.string ⟨#[]⟩) (.string ⟨#[]⟩) (.string ⟨#[]⟩) (.int .i64 0) (.slice none 0 0) (.slice none 0 0) (.int .i64 0) (.string ⟨#[]⟩) (.string ⟨#[]⟩) (.string ⟨#[]⟩) (.int .i64 0) (.slice none 0 0) (.slice none 0 0)
   exact Zr (u := .bool false) rfl rfl rfl rfl rfl hfin.1 hfin.2.1 (Zq HC.out hfin.2.2.1)
  ·obtain ⟨z1, z2⟩ := Lines.str_no hP
   have hb : decide (¬ P = P') = true := decide_eq_true hP
   rw [hb] at HCk
   clear hP hb
   simp only at HQ1 HQ2 HV HCk
   go_wp2_with (first | (go_at_call 79; with_reducible (refine (HCx.out _).mono ?_); rintro e w' ⟨rfl, f⟩; replace HFc := Zz (Fr.then7 (Hid.out HFc) f); clear f x0 x1 x2 x3 x4 x5 x6 y0 y1 y2 y3 y4 y5 y6 c0 c1 c2 c3 c4 c5 c6 d0 d1 d2 d3 d4 d5 d6 xz yz cz dz; obtain ⟨x0, x1, x2, x3, x4, x5, x6⟩ := Box.cells (HBs.out _ (Hid.out HFc)).1; obtain ⟨y0, y1, y2, y3, y4, y5, y6⟩ := Box.cells (HBs.out _ (Hid.out HFc)).2.1; obtain ⟨c0, c1, c2, c3, c4, c5, c6⟩ := Box.cells (HBs.out _ (Hid.out HFc)).2.2.1; obtain ⟨d0, d1, d2, d3, d4, d5, d6⟩ := Box.cells (HBs.out _ (Hid.out HFc)).2.2.2; have xz := Box.frozen (HBs.out _ (Hid.out HFc)).1; have yz := Box.frozen (HBs.out _ (Hid.out HFc)).2.1; have cz := Box.frozen (HBs.out _ (Hid.out HFc)).2.2.1; have dz := Box.frozen (HBs.out _ (Hid.out HFc)).2.2.2) | (go_at_call 79; with_reducible (refine (HCy.out _).mono ?_); rintro e w' ⟨rfl, f⟩; replace HFc := Zz (Fr.then7 (Hid.out HFc) f); clear f x0 x1 x2 x3 x4 x5 x6 y0 y1 y2 y3 y4 y5 y6 c0 c1 c2 c3 c4 c5 c6 d0 d1 d2 d3 d4 d5 d6 xz yz cz dz; obtain ⟨x0, x1, x2, x3, x4, x5, x6⟩ := Box.cells (HBs.out _ (Hid.out HFc)).1; obtain ⟨y0, y1, y2, y3, y4, y5, y6⟩ := Box.cells (HBs.out _ (Hid.out HFc)).2.1; obtain ⟨c0, c1, c2, c3, c4, c5, c6⟩ := Box.cells (HBs.out _ (Hid.out HFc)).2.2.1; obtain ⟨d0, d1, d2, d3, d4, d5, d6⟩ := Box.cells (HBs.out _ (Hid.out HFc)).2.2.2; have xz := Box.frozen (HBs.out _ (Hid.out HFc)).1; have yz := Box.frozen (HBs.out _ (Hid.out HFc)).2.1; have cz := Box.frozen (HBs.out _ (Hid.out HFc)).2.2.1; have dz := Box.frozen (HBs.out _ (Hid.out HFc)).2.2.2) | (go_at_call 82; with_reducible (refine (HAx.out _).mono ?_); rintro e w' ⟨rfl, f⟩; replace HFc := Zz (Fr.then7 (Hid.out HFc) f); clear f x0 x1 x2 x3 x4 x5 x6 y0 y1 y2 y3 y4 y5 y6 c0 c1 c2 c3 c4 c5 c6 d0 d1 d2 d3 d4 d5 d6 xz yz cz dz; obtain ⟨x0, x1, x2, x3, x4, x5, x6⟩ := Box.cells (HBs.out _ (Hid.out HFc)).1; obtain ⟨y0, y1, y2, y3, y4, y5, y6⟩ := Box.cells (HBs.out _ (Hid.out HFc)).2.1; obtain ⟨c0, c1, c2, c3, c4, c5, c6⟩ := Box.cells (HBs.out _ (Hid.out HFc)).2.2.1; obtain ⟨d0, d1, d2, d3, d4, d5, d6⟩ := Box.cells (HBs.out _ (Hid.out HFc)).2.2.2; have xz := Box.frozen (HBs.out _ (Hid.out HFc)).1; have yz := Box.frozen (HBs.out _ (Hid.out HFc)).2.1; have cz := Box.frozen (HBs.out _ (Hid.out HFc)).2.2.1; have dz := Box.frozen (HBs.out _ (Hid.out HFc)).2.2.2) | (go_at_call 82; with_reducible (refine (HAy.out _).mono ?_); rintro e w' ⟨rfl, f⟩; replace HFc := Zz (Fr.then7 (Hid.out HFc) f); clear f x0 x1 x2 x3 x4 x5 x6 y0 y1 y2 y3 y4 y5 y6 c0 c1 c2 c3 c4 c5 c6 d0 d1 d2 d3 d4 d5 d6 xz yz cz dz; obtain ⟨x0, x1, x2, x3, x4, x5, x6⟩ := Box.cells (HBs.out _ (Hid.out HFc)).1; obtain ⟨y0, y1, y2, y3, y4, y5, y6⟩ := Box.cells (HBs.out _ (Hid.out HFc)).2.1; obtain ⟨c0, c1, c2, c3, c4, c5, c6⟩ := Box.cells (HBs.out _ (Hid.out HFc)).2.2.1; obtain ⟨d0, d1, d2, d3, d4, d5, d6⟩ := Box.cells (HBs.out _ (Hid.out HFc)).2.2.2; have xz := Box.frozen (HBs.out _ (Hid.out HFc)).1; have yz := Box.frozen (HBs.out _ (Hid.out HFc)).2.1; have cz := Box.frozen (HBs.out _ (Hid.out HFc)).2.2.1; have dz := Box.frozen (HBs.out _ (Hid.out HFc)).2.2.2) | fail)
   have HBx := Zz (HBs.out _ (Hid.out HFc))
   have HWx := Zz (HF.out.then7 (Hid.out HFc))
   obtain ⟨R7, hR7⟩ : ∃ R, Zw ⟨7, P, T, F, A, lO, lN⟩ = R := ⟨_, rfl⟩
   obtain ⟨R8, hR8⟩ : ∃ R, Zw ⟨K', P', T', F', A', lO', lN'⟩ = R := ⟨_, rfl⟩
   rw [hR7] at HQ2
   rw [hR8] at HQ1
   have HE7 := Zz hR7
   have HE8 := Zz hR8
   clear hR7 hR8
   with_reducible refine (HQ2.out _ HWx.out).mono ?_
   rintro e w7 ⟨rfl, f7⟩
   have HB7 := Zz (show Box w7 w.heap.size (.int .i64 7) (.string P) (.string T) (.string F) (.int .i64 A) (.slice pa no ca) (.slice pb nn cb) ∧ Box w7 w1.heap.size (.int .i64 K') (.string P') (.string T') (.string F') (.int .i64 A') (.slice qa mo da) (.slice qb mn db) ∧ Box w7 w2.heap.size (.int .i64 0) (.string ⟨#[]⟩) (.string ⟨#[]⟩) (.string ⟨#[]⟩) (.int .i64 0) (.slice none 0 0) (.slice none 0 0) ∧ Box w7 w3.heap.size (.int .i64 0) (.string ⟨#[]⟩) (.string ⟨#[]⟩) (.string ⟨#[]⟩) (.int .i64 0) (.slice none 0 0) (.slice none 0 0) from ⟨HBx.out.1.kept f7, HBx.out.2.1.kept f7, HBx.out.2.2.1.kept f7, HBx.out.2.2.2.kept f7⟩)
   replace HWx := Zz (HWx.out.then7 f7)
   replace HBx := HB7
   clear HB7 f7 x0 x1 x2 x3 x4 x5 x6 y0 y1 y2 y3 y4 y5 y6 c0 c1 c2 c3 c4 c5 c6 d0 d1 d2 d3 d4 d5 d6 xz yz cz dz
   cases R7 with
   | false =>
    have HC := Zz (HCk.out.trans (show Zu _ = Yz from by unfold Zu; rw [if_neg (by simp [HE7.out])]))
    have HBf := Zz (show Box w7 w2.heap.size (.int .i64 0) (.string ⟨#[]⟩) (.string ⟨#[]⟩) (.string ⟨#[]⟩) (.int .i64 0) (.slice none 0 0) (.slice none 0 0) ∧ Box w7 w3.heap.size (.int .i64 0) (.string ⟨#[]⟩) (.string ⟨#[]⟩) (.string ⟨#[]⟩) (.int .i64 0) (.slice none 0 0) (.slice none 0 0) from ⟨HBx.out.2.2.1, HBx.out.2.2.2⟩)
    obtain ⟨c0, c1, c2, c3, c4, c5, c6⟩ := HBf.out.1.cells
    obtain ⟨d0, d1, d2, d3, d4, d5, d6⟩ := HBf.out.2.cells
    have cz := HBf.out.1.frozen
    have dz := HBf.out.2.frozen
    go_wp2_with fail
    have hfin := Zt HWx.out HBf.out.1 HBf.out.2 n6 (by have := HN.out; omega) (by have := HN.out; omega) (.int .i64 0) (.string ⟨#[]⟩) (.string ⟨#[]⟩) (.string ⟨#[]⟩) (.int .i64 0) (.slice none 0 0) (.slice none 0 0) (.int .i64 0) (.string ⟨#[]⟩) (.string ⟨#[]⟩) (.string ⟨#[]⟩) (.int .i64 0) (.slice none 0 0) (.slice none 0 0)
    exact Zr (u := .bool false) rfl rfl rfl rfl rfl hfin.1 hfin.2.1 (Zq HC.out hfin.2.2.1)
   | true =>
    obtain ⟨y0, y1, y2, y3, y4, y5, y6⟩ := HBx.out.2.1.cells
    go_wp2_with fail
    with_reducible refine (HQ1.out _ HWx.out).mono ?_
    rintro e w8 ⟨rfl, f8⟩
    have HB8 := Zz (show Box w8 w.heap.size (.int .i64 7) (.string P) (.string T) (.string F) (.int .i64 A) (.slice pa no ca) (.slice pb nn cb) ∧ Box w8 w1.heap.size (.int .i64 K') (.string P') (.string T') (.string F') (.int .i64 A') (.slice qa mo da) (.slice qb mn db) ∧ Box w8 w2.heap.size (.int .i64 0) (.string ⟨#[]⟩) (.string ⟨#[]⟩) (.string ⟨#[]⟩) (.int .i64 0) (.slice none 0 0) (.slice none 0 0) ∧ Box w8 w3.heap.size (.int .i64 0) (.string ⟨#[]⟩) (.string ⟨#[]⟩) (.string ⟨#[]⟩) (.int .i64 0) (.slice none 0 0) (.slice none 0 0) from ⟨HBx.out.1.kept f8, HBx.out.2.1.kept f8, HBx.out.2.2.1.kept f8, HBx.out.2.2.2.kept f8⟩)
    replace HWx := Zz (HWx.out.then7 f8)
    replace HBx := HB8
    clear HB8 f8 y0 y1 y2 y3 y4 y5 y6
    cases R8 with
    | false =>
     have HC := Zz (HCk.out.trans (show Zu _ = Yz from by unfold Zu; rw [if_neg (by simp [HE8.out])]))
     have HBf := Zz (show Box w8 w2.heap.size (.int .i64 0) (.string ⟨#[]⟩) (.string ⟨#[]⟩) (.string ⟨#[]⟩) (.int .i64 0) (.slice none 0 0) (.slice none 0 0) ∧ Box w8 w3.heap.size (.int .i64 0) (.string ⟨#[]⟩) (.string ⟨#[]⟩) (.string ⟨#[]⟩) (.int .i64 0) (.slice none 0 0) (.slice none 0 0) from ⟨HBx.out.2.2.1, HBx.out.2.2.2⟩)
     obtain ⟨c0, c1, c2, c3, c4, c5, c6⟩ := HBf.out.1.cells
     obtain ⟨d0, d1, d2, d3, d4, d5, d6⟩ := HBf.out.2.cells
     have cz := HBf.out.1.frozen
     have dz := HBf.out.2.frozen
     go_wp2_with fail
     have hfin := Zt HWx.out HBf.out.1 HBf.out.2 n6 (by have := HN.out; omega) (by have := HN.out; omega) (.int .i64 0) (.string ⟨#[]⟩) (.string ⟨#[]⟩) (.string ⟨#[]⟩) (.int .i64 0) (.slice none 0 0) (.slice none 0 0) (.int .i64 0) (.string ⟨#[]⟩) (.string ⟨#[]⟩) (.string ⟨#[]⟩) (.int .i64 0) (.slice none 0 0) (.slice none 0 0)
     exact Zr (u := .bool false) rfl rfl rfl rfl rfl hfin.1 hfin.2.1 (Zq HC.out hfin.2.2.1)
    | true =>
     have HC := Zz (HCk.out.trans (show Zu (⟨K', P', T', F', A', lO', lN'⟩, ⟨7, P, T, F, A, lO, lN⟩, true) = (⟨K', P', T', F', A', lO', lN'⟩, ⟨7, P, T, F, A, lO, lN⟩, true) from by unfold Zu; rw [if_pos (by simp [HE7.out, HE8.out])]))
     have HS := Zz (show (∀ w', Fr (fun k => k = w2.heap.size ∨ k = w3.heap.size) w8 w' → Fr (fun k => k = w2.heap.size ∨ k = w3.heap.size) w8 w' ∧ w'.cell? ⟨w.heap.size, 0, none⟩ = some (.int .i64 7) ∧ w'.cell? ⟨w.heap.size, 1, none⟩ = some (.string P) ∧ w'.cell? ⟨w.heap.size, 2, none⟩ = some (.string T) ∧ w'.cell? ⟨w.heap.size, 3, none⟩ = some (.string F) ∧ w'.cell? ⟨w.heap.size, 4, none⟩ = some (.int .i64 A) ∧ w'.cell? ⟨w.heap.size, 5, none⟩ = some (.slice pa no ca) ∧ w'.cell? ⟨w.heap.size, 6, none⟩ = some (.slice pb nn cb) ∧ w'.cell? ⟨w1.heap.size, 0, none⟩ = some (.int .i64 K') ∧ w'.cell? ⟨w1.heap.size, 1, none⟩ = some (.string P') ∧ w'.cell? ⟨w1.heap.size, 2, none⟩ = some (.string T') ∧ w'.cell? ⟨w1.heap.size, 3, none⟩ = some (.string F') ∧ w'.cell? ⟨w1.heap.size, 4, none⟩ = some (.int .i64 A') ∧ w'.cell? ⟨w1.heap.size, 5, none⟩ = some (.slice qa mo da) ∧ w'.cell? ⟨w1.heap.size, 6, none⟩ = some (.slice qb mn db)) from fun w' f => by
      obtain ⟨x0, x1, x2, x3, x4, x5, x6⟩ := (HBx.out.1.fr f (by have := HN.out; omega)).cells
      obtain ⟨y0, y1, y2, y3, y4, y5, y6⟩ := (HBx.out.2.1.fr f (by have := HN.out; omega)).cells
      exact ⟨f, x0, x1, x2, x3, x4, x5, x6, y0, y1, y2, y3, y4, y5, y6⟩)
     have hS0 := HS.out w8.drew (Fr.drew _ w8)
     have hS6 := HS.out (setP w8 w2.heap.size (.int .i64 K') (.string P') (.string T') (.string F') (.int .i64 A') (.slice qa mo da) (.slice qb mn db)).drew (Fr.then (Fr.setP _ (Or.inl rfl) _ _ _ _ _ _ _) (Fr.drew _ _))
     have hS7 := HS.out (setP (setP w8 w2.heap.size (.int .i64 K') (.string P') (.string T') (.string F') (.int .i64 A') (.slice qa mo da) (.slice qb mn db)) w3.heap.size (.int .i64 7) (.string P) (.string T) (.string F) (.int .i64 A) (.slice pa no ca) (.slice pb nn cb)).drew (Fr.then (Fr.then (Fr.setP _ (Or.inl rfl) _ _ _ _ _ _ _) (Fr.setP _ (Or.inr rfl) _ _ _ _ _ _ _)) (Fr.drew _ _))
     obtain ⟨c0, c1, c2, c3, c4, c5, c6⟩ := HBx.out.2.2.1.cells
     obtain ⟨d0, d1, d2, d3, d4, d5, d6⟩ := HBx.out.2.2.2.cells
     have cz := HBx.out.2.2.1.frozen
     have dz := HBx.out.2.2.2.frozen
     go_wp2_with fail
     go_region_held3 (fun w' => Fr (fun k => k = w2.heap.size ∨ k = w3.heap.size) w8 w' ∧ w'.cell? ⟨w.heap.size, 0, none⟩ = some (.int .i64 7) ∧ w'.cell? ⟨w.heap.size, 1, none⟩ = some (.string P) ∧ w'.cell? ⟨w.heap.size, 2, none⟩ = some (.string T) ∧ w'.cell? ⟨w.heap.size, 3, none⟩ = some (.string F) ∧ w'.cell? ⟨w.heap.size, 4, none⟩ = some (.int .i64 A) ∧ w'.cell? ⟨w.heap.size, 5, none⟩ = some (.slice pa no ca) ∧ w'.cell? ⟨w.heap.size, 6, none⟩ = some (.slice pb nn cb) ∧ w'.cell? ⟨w1.heap.size, 0, none⟩ = some (.int .i64 K') ∧ w'.cell? ⟨w1.heap.size, 1, none⟩ = some (.string P') ∧ w'.cell? ⟨w1.heap.size, 2, none⟩ = some (.string T') ∧ w'.cell? ⟨w1.heap.size, 3, none⟩ = some (.string F') ∧ w'.cell? ⟨w1.heap.size, 4, none⟩ = some (.int .i64 A') ∧ w'.cell? ⟨w1.heap.size, 5, none⟩ = some (.slice qa mo da) ∧ w'.cell? ⟨w1.heap.size, 6, none⟩ = some (.slice qb mn db))
      (first | with_reducible exact hS0 | with_reducible exact hS6 | with_reducible exact hS7)
      (fail)
     clear hS0 hS6 hS7 cz dz c0 c1 c2 c3 c4 c5 c6 d0 d1 d2 d3 d4 d5 d6
     go_wp2_with fail
     have hfin := Zt HWx.out HBx.out.2.2.1 HBx.out.2.2.2 n6 (by have := HN.out; omega) (by have := HN.out; omega) (.int .i64 K') (.string P') (.string T') (.string F') (.int .i64 A') (.slice qa mo da) (.slice qb mn db) (.int .i64 7) (.string P) (.string T) (.string F) (.int .i64 A) (.slice pa no ca) (.slice pb nn cb)
     have hfr := hfin.2.2.1.then7 (Fr.drew None' _)
     exact Zr rfl rfl rfl rfl rfl hfin.1.drew hfin.2.1.drew (by rw [HC.out]; exact ⟨_, _, rfl, HV.out.1, HV.out.2, hfr⟩)
 ·have x7 : (K == 7) = false := beq_eq_false_iff_ne.2 h7
  clear h7
  by_cases hP : P = P'
  ·subst hP
   rw [decide_eq_false (by simp)] at *
   simp only at HQ1 HQ2 HV HCk
   go_wp2_with (first | (go_at_call 79; with_reducible (refine (HCx.out _).mono ?_); rintro e w' ⟨rfl, f⟩; replace HFc := Zz (Fr.then7 (Hid.out HFc) f); clear f x0 x1 x2 x3 x4 x5 x6 y0 y1 y2 y3 y4 y5 y6 c0 c1 c2 c3 c4 c5 c6 d0 d1 d2 d3 d4 d5 d6 xz yz cz dz; obtain ⟨x0, x1, x2, x3, x4, x5, x6⟩ := Box.cells (HBs.out _ (Hid.out HFc)).1; obtain ⟨y0, y1, y2, y3, y4, y5, y6⟩ := Box.cells (HBs.out _ (Hid.out HFc)).2.1; obtain ⟨c0, c1, c2, c3, c4, c5, c6⟩ := Box.cells (HBs.out _ (Hid.out HFc)).2.2.1; obtain ⟨d0, d1, d2, d3, d4, d5, d6⟩ := Box.cells (HBs.out _ (Hid.out HFc)).2.2.2; have xz := Box.frozen (HBs.out _ (Hid.out HFc)).1; have yz := Box.frozen (HBs.out _ (Hid.out HFc)).2.1; have cz := Box.frozen (HBs.out _ (Hid.out HFc)).2.2.1; have dz := Box.frozen (HBs.out _ (Hid.out HFc)).2.2.2) | (go_at_call 79; with_reducible (refine (HCy.out _).mono ?_); rintro e w' ⟨rfl, f⟩; replace HFc := Zz (Fr.then7 (Hid.out HFc) f); clear f x0 x1 x2 x3 x4 x5 x6 y0 y1 y2 y3 y4 y5 y6 c0 c1 c2 c3 c4 c5 c6 d0 d1 d2 d3 d4 d5 d6 xz yz cz dz; obtain ⟨x0, x1, x2, x3, x4, x5, x6⟩ := Box.cells (HBs.out _ (Hid.out HFc)).1; obtain ⟨y0, y1, y2, y3, y4, y5, y6⟩ := Box.cells (HBs.out _ (Hid.out HFc)).2.1; obtain ⟨c0, c1, c2, c3, c4, c5, c6⟩ := Box.cells (HBs.out _ (Hid.out HFc)).2.2.1; obtain ⟨d0, d1, d2, d3, d4, d5, d6⟩ := Box.cells (HBs.out _ (Hid.out HFc)).2.2.2; have xz := Box.frozen (HBs.out _ (Hid.out HFc)).1; have yz := Box.frozen (HBs.out _ (Hid.out HFc)).2.1; have cz := Box.frozen (HBs.out _ (Hid.out HFc)).2.2.1; have dz := Box.frozen (HBs.out _ (Hid.out HFc)).2.2.2) | (go_at_call 82; with_reducible (refine (HAx.out _).mono ?_); rintro e w' ⟨rfl, f⟩; replace HFc := Zz (Fr.then7 (Hid.out HFc) f); clear f x0 x1 x2 x3 x4 x5 x6 y0 y1 y2 y3 y4 y5 y6 c0 c1 c2 c3 c4 c5 c6 d0 d1 d2 d3 d4 d5 d6 xz yz cz dz; obtain ⟨x0, x1, x2, x3, x4, x5, x6⟩ := Box.cells (HBs.out _ (Hid.out HFc)).1; obtain ⟨y0, y1, y2, y3, y4, y5, y6⟩ := Box.cells (HBs.out _ (Hid.out HFc)).2.1; obtain ⟨c0, c1, c2, c3, c4, c5, c6⟩ := Box.cells (HBs.out _ (Hid.out HFc)).2.2.1; obtain ⟨d0, d1, d2, d3, d4, d5, d6⟩ := Box.cells (HBs.out _ (Hid.out HFc)).2.2.2; have xz := Box.frozen (HBs.out _ (Hid.out HFc)).1; have yz := Box.frozen (HBs.out _ (Hid.out HFc)).2.1; have cz := Box.frozen (HBs.out _ (Hid.out HFc)).2.2.1; have dz := Box.frozen (HBs.out _ (Hid.out HFc)).2.2.2) | (go_at_call 82; with_reducible (refine (HAy.out _).mono ?_); rintro e w' ⟨rfl, f⟩; replace HFc := Zz (Fr.then7 (Hid.out HFc) f); clear f x0 x1 x2 x3 x4 x5 x6 y0 y1 y2 y3 y4 y5 y6 c0 c1 c2 c3 c4 c5 c6 d0 d1 d2 d3 d4 d5 d6 xz yz cz dz; obtain ⟨x0, x1, x2, x3, x4, x5, x6⟩ := Box.cells (HBs.out _ (Hid.out HFc)).1; obtain ⟨y0, y1, y2, y3, y4, y5, y6⟩ := Box.cells (HBs.out _ (Hid.out HFc)).2.1; obtain ⟨c0, c1, c2, c3, c4, c5, c6⟩ := Box.cells (HBs.out _ (Hid.out HFc)).2.2.1; obtain ⟨d0, d1, d2, d3, d4, d5, d6⟩ := Box.cells (HBs.out _ (Hid.out HFc)).2.2.2; have xz := Box.frozen (HBs.out _ (Hid.out HFc)).1; have yz := Box.frozen (HBs.out _ (Hid.out HFc)).2.1; have cz := Box.frozen (HBs.out _ (Hid.out HFc)).2.2.1; have dz := Box.frozen (HBs.out _ (Hid.out HFc)).2.2.2) | fail)
   have HBx := Zz (HBs.out _ (Hid.out HFc))
   have HWx := Zz (HF.out.then7 (Hid.out HFc))
   have HC := Zz (HCk.out.trans (show Zu _ = Yz from by unfold Zu; rw [if_neg (by simp)]))
   have hfin := Zt HWx.out HBx.out.2.2.1 HBx.out.2.2.2 n6 (by have := HN.out; omega) (by have := HN.out; omega) (.int .i64 0) (.string ⟨#[]⟩) (.string ⟨#[]⟩) (.string ⟨#[]⟩) (.int .i64 0) (.slice none 0 0) (.slice none 0 0) (.int .i64 0) (.string ⟨#[]⟩) (.string ⟨#[]⟩) (.string ⟨#[]⟩) (.int .i64 0) (.slice none 0 0) (.slice none 0 0)
   exact Zr (u := .bool false) rfl rfl rfl rfl rfl hfin.1 hfin.2.1 (Zq HC.out hfin.2.2.1)
  ·obtain ⟨z1, z2⟩ := Lines.str_no hP
   have hb : decide (¬ P = P') = true := decide_eq_true hP
   rw [hb] at HCk
   clear hP hb
   simp only at HQ1 HQ2 HV HCk
   go_wp2_with (first | (go_at_call 79; with_reducible (refine (HCx.out _).mono ?_); rintro e w' ⟨rfl, f⟩; replace HFc := Zz (Fr.then7 (Hid.out HFc) f); clear f x0 x1 x2 x3 x4 x5 x6 y0 y1 y2 y3 y4 y5 y6 c0 c1 c2 c3 c4 c5 c6 d0 d1 d2 d3 d4 d5 d6 xz yz cz dz; obtain ⟨x0, x1, x2, x3, x4, x5, x6⟩ := Box.cells (HBs.out _ (Hid.out HFc)).1; obtain ⟨y0, y1, y2, y3, y4, y5, y6⟩ := Box.cells (HBs.out _ (Hid.out HFc)).2.1; obtain ⟨c0, c1, c2, c3, c4, c5, c6⟩ := Box.cells (HBs.out _ (Hid.out HFc)).2.2.1; obtain ⟨d0, d1, d2, d3, d4, d5, d6⟩ := Box.cells (HBs.out _ (Hid.out HFc)).2.2.2; have xz := Box.frozen (HBs.out _ (Hid.out HFc)).1; have yz := Box.frozen (HBs.out _ (Hid.out HFc)).2.1; have cz := Box.frozen (HBs.out _ (Hid.out HFc)).2.2.1; have dz := Box.frozen (HBs.out _ (Hid.out HFc)).2.2.2) | (go_at_call 79; with_reducible (refine (HCy.out _).mono ?_); rintro e w' ⟨rfl, f⟩; replace HFc := Zz (Fr.then7 (Hid.out HFc) f); clear f x0 x1 x2 x3 x4 x5 x6 y0 y1 y2 y3 y4 y5 y6 c0 c1 c2 c3 c4 c5 c6 d0 d1 d2 d3 d4 d5 d6 xz yz cz dz; obtain ⟨x0, x1, x2, x3, x4, x5, x6⟩ := Box.cells (HBs.out _ (Hid.out HFc)).1; obtain ⟨y0, y1, y2, y3, y4, y5, y6⟩ := Box.cells (HBs.out _ (Hid.out HFc)).2.1; obtain ⟨c0, c1, c2, c3, c4, c5, c6⟩ := Box.cells (HBs.out _ (Hid.out HFc)).2.2.1; obtain ⟨d0, d1, d2, d3, d4, d5, d6⟩ := Box.cells (HBs.out _ (Hid.out HFc)).2.2.2; have xz := Box.frozen (HBs.out _ (Hid.out HFc)).1; have yz := Box.frozen (HBs.out _ (Hid.out HFc)).2.1; have cz := Box.frozen (HBs.out _ (Hid.out HFc)).2.2.1; have dz := Box.frozen (HBs.out _ (Hid.out HFc)).2.2.2) | (go_at_call 82; with_reducible (refine (HAx.out _).mono ?_); rintro e w' ⟨rfl, f⟩; replace HFc := Zz (Fr.then7 (Hid.out HFc) f); clear f x0 x1 x2 x3 x4 x5 x6 y0 y1 y2 y3 y4 y5 y6 c0 c1 c2 c3 c4 c5 c6 d0 d1 d2 d3 d4 d5 d6 xz yz cz dz; obtain ⟨x0, x1, x2, x3, x4, x5, x6⟩ := Box.cells (HBs.out _ (Hid.out HFc)).1; obtain ⟨y0, y1, y2, y3, y4, y5, y6⟩ := Box.cells (HBs.out _ (Hid.out HFc)).2.1; obtain ⟨c0, c1, c2, c3, c4, c5, c6⟩ := Box.cells (HBs.out _ (Hid.out HFc)).2.2.1; obtain ⟨d0, d1, d2, d3, d4, d5, d6⟩ := Box.cells (HBs.out _ (Hid.out HFc)).2.2.2; have xz := Box.frozen (HBs.out _ (Hid.out HFc)).1; have yz := Box.frozen (HBs.out _ (Hid.out HFc)).2.1; have cz := Box.frozen (HBs.out _ (Hid.out HFc)).2.2.1; have dz := Box.frozen (HBs.out _ (Hid.out HFc)).2.2.2) | (go_at_call 82; with_reducible (refine (HAy.out _).mono ?_); rintro e w' ⟨rfl, f⟩; replace HFc := Zz (Fr.then7 (Hid.out HFc) f); clear f x0 x1 x2 x3 x4 x5 x6 y0 y1 y2 y3 y4 y5 y6 c0 c1 c2 c3 c4 c5 c6 d0 d1 d2 d3 d4 d5 d6 xz yz cz dz; obtain ⟨x0, x1, x2, x3, x4, x5, x6⟩ := Box.cells (HBs.out _ (Hid.out HFc)).1; obtain ⟨y0, y1, y2, y3, y4, y5, y6⟩ := Box.cells (HBs.out _ (Hid.out HFc)).2.1; obtain ⟨c0, c1, c2, c3, c4, c5, c6⟩ := Box.cells (HBs.out _ (Hid.out HFc)).2.2.1; obtain ⟨d0, d1, d2, d3, d4, d5, d6⟩ := Box.cells (HBs.out _ (Hid.out HFc)).2.2.2; have xz := Box.frozen (HBs.out _ (Hid.out HFc)).1; have yz := Box.frozen (HBs.out _ (Hid.out HFc)).2.1; have cz := Box.frozen (HBs.out _ (Hid.out HFc)).2.2.1; have dz := Box.frozen (HBs.out _ (Hid.out HFc)).2.2.2) | fail)
   have HBx := Zz (HBs.out _ (Hid.out HFc))
   have HWx := Zz (HF.out.then7 (Hid.out HFc))
   obtain ⟨R7, hR7⟩ : ∃ R, Zw ⟨K, P, T, F, A, lO, lN⟩ = R := ⟨_, rfl⟩
   obtain ⟨R8, hR8⟩ : ∃ R, Zw ⟨K', P', T', F', A', lO', lN'⟩ = R := ⟨_, rfl⟩
   rw [hR7] at HQ2
   rw [hR8] at HQ1
   have HE7 := Zz hR7
   have HE8 := Zz hR8
   clear hR7 hR8
   with_reducible refine (HQ2.out _ HWx.out).mono ?_
   rintro e w7 ⟨rfl, f7⟩
   have HB7 := Zz (show Box w7 w.heap.size (.int .i64 K) (.string P) (.string T) (.string F) (.int .i64 A) (.slice pa no ca) (.slice pb nn cb) ∧ Box w7 w1.heap.size (.int .i64 K') (.string P') (.string T') (.string F') (.int .i64 A') (.slice qa mo da) (.slice qb mn db) ∧ Box w7 w2.heap.size (.int .i64 0) (.string ⟨#[]⟩) (.string ⟨#[]⟩) (.string ⟨#[]⟩) (.int .i64 0) (.slice none 0 0) (.slice none 0 0) ∧ Box w7 w3.heap.size (.int .i64 0) (.string ⟨#[]⟩) (.string ⟨#[]⟩) (.string ⟨#[]⟩) (.int .i64 0) (.slice none 0 0) (.slice none 0 0) from ⟨HBx.out.1.kept f7, HBx.out.2.1.kept f7, HBx.out.2.2.1.kept f7, HBx.out.2.2.2.kept f7⟩)
   replace HWx := Zz (HWx.out.then7 f7)
   replace HBx := HB7
   clear HB7 f7 x0 x1 x2 x3 x4 x5 x6 y0 y1 y2 y3 y4 y5 y6 c0 c1 c2 c3 c4 c5 c6 d0 d1 d2 d3 d4 d5 d6 xz yz cz dz
   cases R7 with
   | false =>
    have HC := Zz (HCk.out.trans (show Zu _ = Yz from by unfold Zu; rw [if_neg (by simp [HE7.out])]))
    have HBf := Zz (show Box w7 w2.heap.size (.int .i64 0) (.string ⟨#[]⟩) (.string ⟨#[]⟩) (.string ⟨#[]⟩) (.int .i64 0) (.slice none 0 0) (.slice none 0 0) ∧ Box w7 w3.heap.size (.int .i64 0) (.string ⟨#[]⟩) (.string ⟨#[]⟩) (.string ⟨#[]⟩) (.int .i64 0) (.slice none 0 0) (.slice none 0 0) from ⟨HBx.out.2.2.1, HBx.out.2.2.2⟩)
    obtain ⟨c0, c1, c2, c3, c4, c5, c6⟩ := HBf.out.1.cells
    obtain ⟨d0, d1, d2, d3, d4, d5, d6⟩ := HBf.out.2.cells
    have cz := HBf.out.1.frozen
    have dz := HBf.out.2.frozen
    go_wp2_with fail
    have hfin := Zt HWx.out HBf.out.1 HBf.out.2 n6 (by have := HN.out; omega) (by have := HN.out; omega) (.int .i64 0) (.string ⟨#[]⟩) (.string ⟨#[]⟩) (.string ⟨#[]⟩) (.int .i64 0) (.slice none 0 0) (.slice none 0 0) (.int .i64 0) (.string ⟨#[]⟩) (.string ⟨#[]⟩) (.string ⟨#[]⟩) (.int .i64 0) (.slice none 0 0) (.slice none 0 0)
    exact Zr (u := .bool false) rfl rfl rfl rfl rfl hfin.1 hfin.2.1 (Zq HC.out hfin.2.2.1)
   | true =>
    obtain ⟨y0, y1, y2, y3, y4, y5, y6⟩ := HBx.out.2.1.cells
    go_wp2_with fail
    with_reducible refine (HQ1.out _ HWx.out).mono ?_
    rintro e w8 ⟨rfl, f8⟩
    have HB8 := Zz (show Box w8 w.heap.size (.int .i64 K) (.string P) (.string T) (.string F) (.int .i64 A) (.slice pa no ca) (.slice pb nn cb) ∧ Box w8 w1.heap.size (.int .i64 K') (.string P') (.string T') (.string F') (.int .i64 A') (.slice qa mo da) (.slice qb mn db) ∧ Box w8 w2.heap.size (.int .i64 0) (.string ⟨#[]⟩) (.string ⟨#[]⟩) (.string ⟨#[]⟩) (.int .i64 0) (.slice none 0 0) (.slice none 0 0) ∧ Box w8 w3.heap.size (.int .i64 0) (.string ⟨#[]⟩) (.string ⟨#[]⟩) (.string ⟨#[]⟩) (.int .i64 0) (.slice none 0 0) (.slice none 0 0) from ⟨HBx.out.1.kept f8, HBx.out.2.1.kept f8, HBx.out.2.2.1.kept f8, HBx.out.2.2.2.kept f8⟩)
    replace HWx := Zz (HWx.out.then7 f8)
    replace HBx := HB8
    clear HB8 f8 y0 y1 y2 y3 y4 y5 y6
    cases R8 with
    | false =>
     have HC := Zz (HCk.out.trans (show Zu _ = Yz from by unfold Zu; rw [if_neg (by simp [HE8.out])]))
     have HBf := Zz (show Box w8 w2.heap.size (.int .i64 0) (.string ⟨#[]⟩) (.string ⟨#[]⟩) (.string ⟨#[]⟩) (.int .i64 0) (.slice none 0 0) (.slice none 0 0) ∧ Box w8 w3.heap.size (.int .i64 0) (.string ⟨#[]⟩) (.string ⟨#[]⟩) (.string ⟨#[]⟩) (.int .i64 0) (.slice none 0 0) (.slice none 0 0) from ⟨HBx.out.2.2.1, HBx.out.2.2.2⟩)
     obtain ⟨c0, c1, c2, c3, c4, c5, c6⟩ := HBf.out.1.cells
     obtain ⟨d0, d1, d2, d3, d4, d5, d6⟩ := HBf.out.2.cells
     have cz := HBf.out.1.frozen
     have dz := HBf.out.2.frozen
     go_wp2_with fail
     have hfin := Zt HWx.out HBf.out.1 HBf.out.2 n6 (by have := HN.out; omega) (by have := HN.out; omega) (.int .i64 0) (.string ⟨#[]⟩) (.string ⟨#[]⟩) (.string ⟨#[]⟩) (.int .i64 0) (.slice none 0 0) (.slice none 0 0) (.int .i64 0) (.string ⟨#[]⟩) (.string ⟨#[]⟩) (.string ⟨#[]⟩) (.int .i64 0) (.slice none 0 0) (.slice none 0 0)
     exact Zr (u := .bool false) rfl rfl rfl rfl rfl hfin.1 hfin.2.1 (Zq HC.out hfin.2.2.1)
    | true =>
     have HC := Zz (HCk.out.trans (show Zu (⟨K', P', T', F', A', lO', lN'⟩, ⟨K, P, T, F, A, lO, lN⟩, true) = (⟨K', P', T', F', A', lO', lN'⟩, ⟨K, P, T, F, A, lO, lN⟩, true) from by unfold Zu; rw [if_pos (by simp [HE7.out, HE8.out])]))
     have HS := Zz (show (∀ w', Fr (fun k => k = w2.heap.size ∨ k = w3.heap.size) w8 w' → Fr (fun k => k = w2.heap.size ∨ k = w3.heap.size) w8 w' ∧ w'.cell? ⟨w.heap.size, 0, none⟩ = some (.int .i64 K) ∧ w'.cell? ⟨w.heap.size, 1, none⟩ = some (.string P) ∧ w'.cell? ⟨w.heap.size, 2, none⟩ = some (.string T) ∧ w'.cell? ⟨w.heap.size, 3, none⟩ = some (.string F) ∧ w'.cell? ⟨w.heap.size, 4, none⟩ = some (.int .i64 A) ∧ w'.cell? ⟨w.heap.size, 5, none⟩ = some (.slice pa no ca) ∧ w'.cell? ⟨w.heap.size, 6, none⟩ = some (.slice pb nn cb) ∧ w'.cell? ⟨w1.heap.size, 0, none⟩ = some (.int .i64 K') ∧ w'.cell? ⟨w1.heap.size, 1, none⟩ = some (.string P') ∧ w'.cell? ⟨w1.heap.size, 2, none⟩ = some (.string T') ∧ w'.cell? ⟨w1.heap.size, 3, none⟩ = some (.string F') ∧ w'.cell? ⟨w1.heap.size, 4, none⟩ = some (.int .i64 A') ∧ w'.cell? ⟨w1.heap.size, 5, none⟩ = some (.slice qa mo da) ∧ w'.cell? ⟨w1.heap.size, 6, none⟩ = some (.slice qb mn db)) from fun w' f => by
      obtain ⟨x0, x1, x2, x3, x4, x5, x6⟩ := (HBx.out.1.fr f (by have := HN.out; omega)).cells
      obtain ⟨y0, y1, y2, y3, y4, y5, y6⟩ := (HBx.out.2.1.fr f (by have := HN.out; omega)).cells
      exact ⟨f, x0, x1, x2, x3, x4, x5, x6, y0, y1, y2, y3, y4, y5, y6⟩)
     have hS0 := HS.out w8.drew (Fr.drew _ w8)
     have hS6 := HS.out (setP w8 w2.heap.size (.int .i64 K') (.string P') (.string T') (.string F') (.int .i64 A') (.slice qa mo da) (.slice qb mn db)).drew (Fr.then (Fr.setP _ (Or.inl rfl) _ _ _ _ _ _ _) (Fr.drew _ _))
     have hS7 := HS.out (setP (setP w8 w2.heap.size (.int .i64 K') (.string P') (.string T') (.string F') (.int .i64 A') (.slice qa mo da) (.slice qb mn db)) w3.heap.size (.int .i64 K) (.string P) (.string T) (.string F) (.int .i64 A) (.slice pa no ca) (.slice pb nn cb)).drew (Fr.then (Fr.then (Fr.setP _ (Or.inl rfl) _ _ _ _ _ _ _) (Fr.setP _ (Or.inr rfl) _ _ _ _ _ _ _)) (Fr.drew _ _))
     obtain ⟨c0, c1, c2, c3, c4, c5, c6⟩ := HBx.out.2.2.1.cells
     obtain ⟨d0, d1, d2, d3, d4, d5, d6⟩ := HBx.out.2.2.2.cells
     have cz := HBx.out.2.2.1.frozen
     have dz := HBx.out.2.2.2.frozen
     go_wp2_with fail
     go_region_held3 (fun w' => Fr (fun k => k = w2.heap.size ∨ k = w3.heap.size) w8 w' ∧ w'.cell? ⟨w.heap.size, 0, none⟩ = some (.int .i64 K) ∧ w'.cell? ⟨w.heap.size, 1, none⟩ = some (.string P) ∧ w'.cell? ⟨w.heap.size, 2, none⟩ = some (.string T) ∧ w'.cell? ⟨w.heap.size, 3, none⟩ = some (.string F) ∧ w'.cell? ⟨w.heap.size, 4, none⟩ = some (.int .i64 A) ∧ w'.cell? ⟨w.heap.size, 5, none⟩ = some (.slice pa no ca) ∧ w'.cell? ⟨w.heap.size, 6, none⟩ = some (.slice pb nn cb) ∧ w'.cell? ⟨w1.heap.size, 0, none⟩ = some (.int .i64 K') ∧ w'.cell? ⟨w1.heap.size, 1, none⟩ = some (.string P') ∧ w'.cell? ⟨w1.heap.size, 2, none⟩ = some (.string T') ∧ w'.cell? ⟨w1.heap.size, 3, none⟩ = some (.string F') ∧ w'.cell? ⟨w1.heap.size, 4, none⟩ = some (.int .i64 A') ∧ w'.cell? ⟨w1.heap.size, 5, none⟩ = some (.slice qa mo da) ∧ w'.cell? ⟨w1.heap.size, 6, none⟩ = some (.slice qb mn db))
      (first | with_reducible exact hS0 | with_reducible exact hS6 | with_reducible exact hS7)
      (fail)
     clear hS0 hS6 hS7 cz dz c0 c1 c2 c3 c4 c5 c6 d0 d1 d2 d3 d4 d5 d6
     go_wp2_with fail
     have hfin := Zt HWx.out HBx.out.2.2.1 HBx.out.2.2.2 n6 (by have := HN.out; omega) (by have := HN.out; omega) (.int .i64 K') (.string P') (.string T') (.string F') (.int .i64 A') (.slice qa mo da) (.slice qb mn db) (.int .i64 K) (.string P) (.string T) (.string F) (.int .i64 A) (.slice pa no ca) (.slice pb nn cb)
     have hfr := hfin.2.2.1.then7 (Fr.drew None' _)
     exact Zr rfl rfl rfl rfl rfl hfin.1.drew hfin.2.1.drew (by rw [HC.out]; exact ⟨_, _, rfl, HV.out.1, HV.out.2, hfr⟩)
theorem rcomm_20 (x y : Pr) (pa pb qa qb : Option Addr) (no nn ca cb mo mn da db : Nat) (w : World) (kx : Ys x = 2 ∧ x.kind = 10) (ky : Ys y = 0 ∧ y.kind ≤ 6 ∧ 1 ≤ y.kind) (hno : x.old.length = no) (hnn : x.new.length = nn) (hmo : y.old.length = mo) (hmn : y.new.length = mn) (sx : Zs x) (sy : Zs y) (fx : Zw x = true) (fy : Zw y = true)
  (HR1 : Hid (∀ w', Fr None' w w' → Calls Tryz.prog 61 #[.agg #[.int .i64 x.kind, .string x.path, .string x.dst, .string x.src, .int .i64 x.pos, .slice pa no ca, .slice pb nn cb]] w' (fun e w'' => e = .returned (.bool true) ∧ Fr None' w' w'')))
  (HR2 : Hid (∀ w', Fr None' w w' → Calls Tryz.prog 61 #[.agg #[.int .i64 y.kind, .string y.path, .string y.dst, .string y.src, .int .i64 y.pos, .slice qa mo da, .slice qb mn db]] w' (fun e w'' => e = .returned (.bool true) ∧ Fr None' w' w'')))
  (HQ1 : Hid (∀ w', Fr None' w w' → Calls Tryz.prog 61 #[.agg #[.int .i64 (Zx x y).1.kind, .string (Zx x y).1.path, .string (Zx x y).1.dst, .string (Zx x y).1.src, .int .i64 (Zx x y).1.pos, .slice qa mo da, .slice qb mn db]] w' (fun e w'' => e = .returned (.bool (Zw (Zx x y).1)) ∧ Fr None' w' w'')))
  (HQ2 : Hid (∀ w', Fr None' w w' → Calls Tryz.prog 61 #[.agg #[.int .i64 (Zx x y).2.1.kind, .string (Zx x y).2.1.path, .string (Zx x y).2.1.dst, .string (Zx x y).2.1.src, .int .i64 (Zx x y).2.1.pos, .slice pa no ca, .slice pb nn cb]] w' (fun e w'' => e = .returned (.bool (Zw (Zx x y).2.1)) ∧ Fr None' w' w'')))
  (w0 : World) (HV : Hid (Yf w0 (.agg #[.int .i64 (Zx x y).1.kind, .string (Zx x y).1.path, .string (Zx x y).1.dst, .string (Zx x y).1.src, .int .i64 (Zx x y).1.pos, .slice qa mo da, .slice qb mn db]) (Zx x y).1 ∧ Yf w0 (.agg #[.int .i64 (Zx x y).2.1.kind, .string (Zx x y).2.1.path, .string (Zx x y).2.1.dst, .string (Zx x y).2.1.src, .int .i64 (Zx x y).2.1.pos, .slice pa no ca, .slice pb nn cb]) (Zx x y).2.1)) :
  Calls Tryz.prog 57 #[.agg #[.int .i64 x.kind, .string x.path, .string x.dst, .string x.src, .int .i64 x.pos, .slice pa no ca, .slice pb nn cb], .agg #[.int .i64 y.kind, .string y.path, .string y.dst, .string y.src, .int .i64 y.pos, .slice qa mo da, .slice qb mn db]] w fun e w' => Z9 x y w0 w e w' := by
 have HCk := Zz (show Zj x y = Zu (Zx x y) from by unfold Zj; rw [if_pos (by simp [fx, fy])])
 have HRu := Zz (show Zx x y = Zx x y from rfl)
 have HLn := Zz (fun (h7 : x.kind = 7) (h7' : y.kind = 7) w' => Yh x y pa pb qa qb no nn ca cb mo mn da db w' hno hnn hmo hmn (by have := sx.old; omega) (by have := sx.new; omega) (by have := sy.old; omega) (by have := sy.new; omega) (Yt fx h7) (Yt fy h7'))
 have HCx := Zz (fun w' => Z8 x pa pb no nn ca cb w')
 have HCy := Zz (fun w' => Z8 y qa qb mo mn da db w')
 have HAx := Zz (fun w' => Zf x pa pb no nn ca cb w')
 have HAy := Zz (fun w' => Zf y qa qb mo mn da db w')
 have HP1 := Zz (fun w' => Zn x y.path pa pb no nn ca cb w' sx.path sx.dst sy.path)
 have HP2 := Zz (fun w' => Zn x y.dst pa pb no nn ca cb w' sx.path sx.dst sy.dst)
 have HP3 := Zz (fun w' => Zn y x.path qa qb mo mn da db w' sy.path sy.dst sx.path)
 have HP4 := Zz (show ∀ w', Calls Tryz.prog 63 #[.string x.path, .string y.path] w' (fun e w'' => e = .returned (.bool (apP x.path y.path)) ∧ w' = w'') from fun w' => Path.rapart_any x.path y.path w' (by have := sx.path; omega) (by have := sy.path; omega))
 have HM1 := Zz (show ∀ w', Calls Tryz.prog 80 #[.string y.path, .string x.dst, .string x.path] w' (fun e w'' => e = .returned (.tuple #[.string (moP y.path x.dst x.path), .bool (wiP y.path x.dst)]) ∧ w' = w'') from fun w' => Path.rmoved_any y.path x.dst x.path w' (by have := sy.path; omega) (by have := sx.dst; omega) (by have := sx.path; omega))
 have HM2 := Zz (show ∀ w', Calls Tryz.prog 80 #[.string x.path, .string y.path, .string y.dst] w' (fun e w'' => e = .returned (.tuple #[.string (moP x.path y.path y.dst), .bool (wiP x.path y.path)]) ∧ w' = w'') from fun w' => Path.rmoved_any x.path y.path y.dst w' (by have := sx.path; omega) (by have := sy.path; omega) (by have := sy.dst; omega))
 have HW1 := Zz (show ∀ w', Calls Tryz.prog 81 #[.string y.path, .string x.path] w' (fun e w'' => e = .returned (.bool (wiP y.path x.path)) ∧ w' = w'') from fun w' => Path.rwithin_any y.path x.path w' (by have := sy.path; omega) (by have := sx.path; omega))
 have HW2 := Zz (show ∀ w', Calls Tryz.prog 81 #[.string x.path, .string y.dst] w' (fun e w'' => e = .returned (.bool (wiP x.path y.dst)) ∧ w' = w'') from fun w' => Path.rwithin_any x.path y.dst w' (by have := sx.path; omega) (by have := sy.dst; omega))
 generalize hr : Zx x y = r at HCk HQ1 HQ2 HV
 have HRr := Zz hr
 unfold Z9
 generalize Zj x y = cc at HCk ⊢
 obtain ⟨K, P, T, F, A, lO, lN⟩ := x
 obtain ⟨K', P', T', F', A', lO', lN'⟩ := y
 simp only at hno hnn hmo hmn HR1 HR2 HLn HCx HCy HAx HAy HP1 HP2 HP3 HP4 HM1 HM2 HW1 HW2 kx ky ⊢
 clear hno hnn hmo hmn sx sy fx fy HRu
 obtain ⟨w1, hw1⟩ : ∃ w1, w.alloc (.cells #[.int .i64 K, .string P, .string T, .string F, .int .i64 A, .slice pa no ca, .slice pb nn cb] 43) = w1 := ⟨_, rfl⟩
 obtain ⟨w2, hw2⟩ : ∃ w2, w1.alloc (.cells #[.int .i64 K', .string P', .string T', .string F', .int .i64 A', .slice qa mo da, .slice qb mn db] 43) = w2 := ⟨_, rfl⟩
 obtain ⟨w3, hw3⟩ : ∃ w3, w2.alloc (.cells #[.int .i64 0, .string ⟨#[]⟩, .string ⟨#[]⟩, .string ⟨#[]⟩, .int .i64 0, .slice none 0 0, .slice none 0 0] 43) = w3 := ⟨_, rfl⟩
 obtain ⟨w4, hw4⟩ : ∃ w4, w3.alloc (.cells #[.int .i64 0, .string ⟨#[]⟩, .string ⟨#[]⟩, .string ⟨#[]⟩, .int .i64 0, .slice none 0 0, .slice none 0 0] 43) = w4 := ⟨_, rfl⟩
 have F1 : Fr None' w w1 := hw1 ▸ Fr.alloc None' w _
 have F2 : Fr None' w1 w2 := hw2 ▸ Fr.alloc None' w1 _
 have F3 : Fr None' w2 w3 := hw3 ▸ Fr.alloc None' w2 _
 have F4 : Fr None' w3 w4 := hw4 ▸ Fr.alloc None' w3 _
 have BX : Box w4 w.heap.size (.int .i64 K) (.string P) (.string T) (.string F) (.int .i64 A) (.slice pa no ca) (.slice pb nn cb) := (hw1 ▸ Box.new w _ _ _ _ _ _ _ : Box w1 _ _ _ _ _ _ _ _).kept ((F2.then7 F3).then7 F4)
 have BY : Box w4 w1.heap.size (.int .i64 K') (.string P') (.string T') (.string F') (.int .i64 A') (.slice qa mo da) (.slice qb mn db) := (hw2 ▸ Box.new w1 _ _ _ _ _ _ _ : Box w2 _ _ _ _ _ _ _ _).kept (F3.then7 F4)
 have BC : Box w4 w2.heap.size (.int .i64 0) (.string ⟨#[]⟩) (.string ⟨#[]⟩) (.string ⟨#[]⟩) (.int .i64 0) (.slice none 0 0) (.slice none 0 0) := (hw3 ▸ Box.new w2 _ _ _ _ _ _ _ : Box w3 _ _ _ _ _ _ _ _).kept F4
 have BD : Box w4 w3.heap.size (.int .i64 0) (.string ⟨#[]⟩) (.string ⟨#[]⟩) (.string ⟨#[]⟩) (.int .i64 0) (.slice none 0 0) (.slice none 0 0) := hw4 ▸ Box.new w3 _ _ _ _ _ _ _
 have s1 : w1.heap.size = w.heap.size + 1 := by rw [← hw1]; simp
 have s2 : w2.heap.size = w1.heap.size + 1 := by rw [← hw2]; simp
 have s3 : w3.heap.size = w2.heap.size + 1 := by rw [← hw3]; simp
 have HF : Hid (Fr None' w w4) := ((F1.then7 F2).then7 F3).then7 F4
 have HN : Hid (w.heap.size < w1.heap.size ∧ w1.heap.size < w2.heap.size ∧ w2.heap.size < w3.heap.size) := ⟨by omega, by omega, by omega⟩
 have n1 : ¬ w.heap.size = w1.heap.size := by omega
 have n2 : ¬ w.heap.size = w2.heap.size := by omega
 have n3 : ¬ w.heap.size = w3.heap.size := by omega
 have n4 : ¬ w1.heap.size = w2.heap.size := by omega
 have n5 : ¬ w1.heap.size = w3.heap.size := by omega
 have n6 : ¬ w2.heap.size = w3.heap.size := by omega
 have HBs : Hid (∀ w', Fr None' w4 w' → Box w' w.heap.size (.int .i64 K) (.string P) (.string T) (.string F) (.int .i64 A) (.slice pa no ca) (.slice pb nn cb) ∧ Box w' w1.heap.size (.int .i64 K') (.string P') (.string T') (.string F') (.int .i64 A') (.slice qa mo da) (.slice qb mn db) ∧ Box w' w2.heap.size (.int .i64 0) (.string ⟨#[]⟩) (.string ⟨#[]⟩) (.string ⟨#[]⟩) (.int .i64 0) (.slice none 0 0) (.slice none 0 0) ∧ Box w' w3.heap.size (.int .i64 0) (.string ⟨#[]⟩) (.string ⟨#[]⟩) (.string ⟨#[]⟩) (.int .i64 0) (.slice none 0 0) (.slice none 0 0)) := fun w' f => ⟨BX.kept f, BY.kept f, BC.kept f, BD.kept f⟩
 obtain ⟨x0, x1, x2, x3, x4, x5, x6⟩ := BX.cells
 clear F1 F2 F3 F4 BX BY BC BD s1 s2 s3
 clear n1 n2 n3 n4 n5 hr
 obtain ⟨xcl, rfl⟩ := kx
 obtain ⟨ycl, yk1, yk2⟩ := ky
 have q1 := HR1.out w4 HF.out
 go_enter Tryz.func57, Tryz.ntmps57
 go_wp2_with fail
 with_reducible refine q1.mono ?_
 rintro e w5 ⟨rfl, f5⟩
 have HF5 := Zz f5
 have q2 := HR2.out w5 (HF.out.then7 f5)
 clear q1 f5 x0 x1 x2 x3 x4 x5 x6
 obtain ⟨y0, y1, y2, y3, y4, y5, y6⟩ := (HBs.out w5 HF5.out).2.1.cells
 go_wp2_with fail
 with_reducible refine q2.mono ?_
 rintro e w6 ⟨rfl, f6⟩
 have HFc := Zz (HF5.out.then7 f6)
 clear q2 f6 HF5 y0 y1 y2 y3 y4 y5 y6 HR1 HR2
 obtain ⟨x0, x1, x2, x3, x4, x5, x6⟩ := Box.cells (HBs.out _ (Hid.out HFc)).1
 obtain ⟨y0, y1, y2, y3, y4, y5, y6⟩ := Box.cells (HBs.out _ (Hid.out HFc)).2.1
 obtain ⟨c0, c1, c2, c3, c4, c5, c6⟩ := Box.cells (HBs.out _ (Hid.out HFc)).2.2.1
 obtain ⟨d0, d1, d2, d3, d4, d5, d6⟩ := Box.cells (HBs.out _ (Hid.out HFc)).2.2.2
 have xz := Box.frozen (HBs.out _ (Hid.out HFc)).1
 have yz := Box.frozen (HBs.out _ (Hid.out HFc)).2.1
 have cz := Box.frozen (HBs.out _ (Hid.out HFc)).2.2.1
 have dz := Box.frozen (HBs.out _ (Hid.out HFc)).2.2.2
 have xc : decide (7 ≤ (10 : Int) ∧ (10 : Int) ≤ 9) = false := by decide
 have xa : decide ((10 : Int) ≤ 6) = false := by decide
 have y7 : (K' == 7) = false := beq_eq_false_iff_ne.2 (by omega)
 have y10 : (K' == 10) = false := beq_eq_false_iff_ne.2 (by omega)
 have yc : decide (7 ≤ K' ∧ K' ≤ 9) = false := by simp; omega
 have ya : decide (K' ≤ 6) = true := by simp; omega
 rw [xc] at HCx
 rw [yc] at HCy
 rw [xa] at HAx
 rw [ya] at HAy
 have HCl := Zz (And.intro xcl ycl)
 obtain rfl : (⟨K', P', T', F', A', lO', lN'⟩, ⟨10, P, T, F, A, lO, lN⟩, (apP P P' && apP T P')) = r := (show Zx ⟨10, P, T, F, A, lO, lN⟩ ⟨K', P', T', F', A', lO', lN'⟩ = _ from (rule_ap (Or.inr HCl.out.1) (Or.inl HCl.out.2)).trans (by have hk : ¬ K' = 10 := (by omega); simp [Yg, Yn, hk])).symm.trans HRr.out
 clear xc yc xa ya xcl ycl yk1 yk2
 generalize (apP P P' && apP T P') = R at *
 cases R with
 | false =>
  simp only at HQ1 HQ2 HV HCk
  go_wp2_with (first | (go_at_call 78; with_reducible (refine (HP1.out _).mono ?_); rintro e w' ⟨rfl, f⟩; replace HFc := Zz (Fr.then7 (Hid.out HFc) f); clear f x0 x1 x2 x3 x4 x5 x6 y0 y1 y2 y3 y4 y5 y6 c0 c1 c2 c3 c4 c5 c6 d0 d1 d2 d3 d4 d5 d6 xz yz cz dz; obtain ⟨x0, x1, x2, x3, x4, x5, x6⟩ := Box.cells (HBs.out _ (Hid.out HFc)).1; obtain ⟨y0, y1, y2, y3, y4, y5, y6⟩ := Box.cells (HBs.out _ (Hid.out HFc)).2.1; obtain ⟨c0, c1, c2, c3, c4, c5, c6⟩ := Box.cells (HBs.out _ (Hid.out HFc)).2.2.1; obtain ⟨d0, d1, d2, d3, d4, d5, d6⟩ := Box.cells (HBs.out _ (Hid.out HFc)).2.2.2; have xz := Box.frozen (HBs.out _ (Hid.out HFc)).1; have yz := Box.frozen (HBs.out _ (Hid.out HFc)).2.1; have cz := Box.frozen (HBs.out _ (Hid.out HFc)).2.2.1; have dz := Box.frozen (HBs.out _ (Hid.out HFc)).2.2.2) | (go_at_call 79; with_reducible (refine (HCx.out _).mono ?_); rintro e w' ⟨rfl, f⟩; replace HFc := Zz (Fr.then7 (Hid.out HFc) f); clear f x0 x1 x2 x3 x4 x5 x6 y0 y1 y2 y3 y4 y5 y6 c0 c1 c2 c3 c4 c5 c6 d0 d1 d2 d3 d4 d5 d6 xz yz cz dz; obtain ⟨x0, x1, x2, x3, x4, x5, x6⟩ := Box.cells (HBs.out _ (Hid.out HFc)).1; obtain ⟨y0, y1, y2, y3, y4, y5, y6⟩ := Box.cells (HBs.out _ (Hid.out HFc)).2.1; obtain ⟨c0, c1, c2, c3, c4, c5, c6⟩ := Box.cells (HBs.out _ (Hid.out HFc)).2.2.1; obtain ⟨d0, d1, d2, d3, d4, d5, d6⟩ := Box.cells (HBs.out _ (Hid.out HFc)).2.2.2; have xz := Box.frozen (HBs.out _ (Hid.out HFc)).1; have yz := Box.frozen (HBs.out _ (Hid.out HFc)).2.1; have cz := Box.frozen (HBs.out _ (Hid.out HFc)).2.2.1; have dz := Box.frozen (HBs.out _ (Hid.out HFc)).2.2.2) | (go_at_call 79; with_reducible (refine (HCy.out _).mono ?_); rintro e w' ⟨rfl, f⟩; replace HFc := Zz (Fr.then7 (Hid.out HFc) f); clear f x0 x1 x2 x3 x4 x5 x6 y0 y1 y2 y3 y4 y5 y6 c0 c1 c2 c3 c4 c5 c6 d0 d1 d2 d3 d4 d5 d6 xz yz cz dz; obtain ⟨x0, x1, x2, x3, x4, x5, x6⟩ := Box.cells (HBs.out _ (Hid.out HFc)).1; obtain ⟨y0, y1, y2, y3, y4, y5, y6⟩ := Box.cells (HBs.out _ (Hid.out HFc)).2.1; obtain ⟨c0, c1, c2, c3, c4, c5, c6⟩ := Box.cells (HBs.out _ (Hid.out HFc)).2.2.1; obtain ⟨d0, d1, d2, d3, d4, d5, d6⟩ := Box.cells (HBs.out _ (Hid.out HFc)).2.2.2; have xz := Box.frozen (HBs.out _ (Hid.out HFc)).1; have yz := Box.frozen (HBs.out _ (Hid.out HFc)).2.1; have cz := Box.frozen (HBs.out _ (Hid.out HFc)).2.2.1; have dz := Box.frozen (HBs.out _ (Hid.out HFc)).2.2.2) | fail)
  have HBx := Zz (HBs.out _ (Hid.out HFc))
  have HWx := Zz (HF.out.then7 (Hid.out HFc))
  have HC := Zz (HCk.out.trans (show Zu _ = Yz from by unfold Zu; rw [if_neg (by simp)]))
  have hfin := Zt HWx.out HBx.out.2.2.1 HBx.out.2.2.2 n6 (by have := HN.out; omega) (by have := HN.out; omega) (.int .i64 0) (.string ⟨#[]⟩) (.string ⟨#[]⟩) (.string ⟨#[]⟩) (.int .i64 0) (.slice none 0 0) (.slice none 0 0) (.int .i64 0) (.string ⟨#[]⟩) (.string ⟨#[]⟩) (.string ⟨#[]⟩) (.int .i64 0) (.slice none 0 0) (.slice none 0 0)
  exact Zr (u := .bool false) rfl rfl rfl rfl rfl hfin.1 hfin.2.1 (Zq HC.out hfin.2.2.1)
 | true =>
  simp only at HQ1 HQ2 HV HCk
  go_wp2_with (first | (go_at_call 78; with_reducible (refine (HP1.out _).mono ?_); rintro e w' ⟨rfl, f⟩; replace HFc := Zz (Fr.then7 (Hid.out HFc) f); clear f x0 x1 x2 x3 x4 x5 x6 y0 y1 y2 y3 y4 y5 y6 c0 c1 c2 c3 c4 c5 c6 d0 d1 d2 d3 d4 d5 d6 xz yz cz dz; obtain ⟨x0, x1, x2, x3, x4, x5, x6⟩ := Box.cells (HBs.out _ (Hid.out HFc)).1; obtain ⟨y0, y1, y2, y3, y4, y5, y6⟩ := Box.cells (HBs.out _ (Hid.out HFc)).2.1; obtain ⟨c0, c1, c2, c3, c4, c5, c6⟩ := Box.cells (HBs.out _ (Hid.out HFc)).2.2.1; obtain ⟨d0, d1, d2, d3, d4, d5, d6⟩ := Box.cells (HBs.out _ (Hid.out HFc)).2.2.2; have xz := Box.frozen (HBs.out _ (Hid.out HFc)).1; have yz := Box.frozen (HBs.out _ (Hid.out HFc)).2.1; have cz := Box.frozen (HBs.out _ (Hid.out HFc)).2.2.1; have dz := Box.frozen (HBs.out _ (Hid.out HFc)).2.2.2) | (go_at_call 79; with_reducible (refine (HCx.out _).mono ?_); rintro e w' ⟨rfl, f⟩; replace HFc := Zz (Fr.then7 (Hid.out HFc) f); clear f x0 x1 x2 x3 x4 x5 x6 y0 y1 y2 y3 y4 y5 y6 c0 c1 c2 c3 c4 c5 c6 d0 d1 d2 d3 d4 d5 d6 xz yz cz dz; obtain ⟨x0, x1, x2, x3, x4, x5, x6⟩ := Box.cells (HBs.out _ (Hid.out HFc)).1; obtain ⟨y0, y1, y2, y3, y4, y5, y6⟩ := Box.cells (HBs.out _ (Hid.out HFc)).2.1; obtain ⟨c0, c1, c2, c3, c4, c5, c6⟩ := Box.cells (HBs.out _ (Hid.out HFc)).2.2.1; obtain ⟨d0, d1, d2, d3, d4, d5, d6⟩ := Box.cells (HBs.out _ (Hid.out HFc)).2.2.2; have xz := Box.frozen (HBs.out _ (Hid.out HFc)).1; have yz := Box.frozen (HBs.out _ (Hid.out HFc)).2.1; have cz := Box.frozen (HBs.out _ (Hid.out HFc)).2.2.1; have dz := Box.frozen (HBs.out _ (Hid.out HFc)).2.2.2) | (go_at_call 79; with_reducible (refine (HCy.out _).mono ?_); rintro e w' ⟨rfl, f⟩; replace HFc := Zz (Fr.then7 (Hid.out HFc) f); clear f x0 x1 x2 x3 x4 x5 x6 y0 y1 y2 y3 y4 y5 y6 c0 c1 c2 c3 c4 c5 c6 d0 d1 d2 d3 d4 d5 d6 xz yz cz dz; obtain ⟨x0, x1, x2, x3, x4, x5, x6⟩ := Box.cells (HBs.out _ (Hid.out HFc)).1; obtain ⟨y0, y1, y2, y3, y4, y5, y6⟩ := Box.cells (HBs.out _ (Hid.out HFc)).2.1; obtain ⟨c0, c1, c2, c3, c4, c5, c6⟩ := Box.cells (HBs.out _ (Hid.out HFc)).2.2.1; obtain ⟨d0, d1, d2, d3, d4, d5, d6⟩ := Box.cells (HBs.out _ (Hid.out HFc)).2.2.2; have xz := Box.frozen (HBs.out _ (Hid.out HFc)).1; have yz := Box.frozen (HBs.out _ (Hid.out HFc)).2.1; have cz := Box.frozen (HBs.out _ (Hid.out HFc)).2.2.1; have dz := Box.frozen (HBs.out _ (Hid.out HFc)).2.2.2) | fail)
  have HBx := Zz (HBs.out _ (Hid.out HFc))
  have HWx := Zz (HF.out.then7 (Hid.out HFc))
  obtain ⟨R7, hR7⟩ : ∃ R, Zw ⟨10, P, T, F, A, lO, lN⟩ = R := ⟨_, rfl⟩
  obtain ⟨R8, hR8⟩ : ∃ R, Zw ⟨K', P', T', F', A', lO', lN'⟩ = R := ⟨_, rfl⟩
  rw [hR7] at HQ2
  rw [hR8] at HQ1
  have HE7 := Zz hR7
  have HE8 := Zz hR8
  clear hR7 hR8
  with_reducible refine (HQ2.out _ HWx.out).mono ?_
  rintro e w7 ⟨rfl, f7⟩
  have HB7 := Zz (show Box w7 w.heap.size (.int .i64 10) (.string P) (.string T) (.string F) (.int .i64 A) (.slice pa no ca) (.slice pb nn cb) ∧ Box w7 w1.heap.size (.int .i64 K') (.string P') (.string T') (.string F') (.int .i64 A') (.slice qa mo da) (.slice qb mn db) ∧ Box w7 w2.heap.size (.int .i64 0) (.string ⟨#[]⟩) (.string ⟨#[]⟩) (.string ⟨#[]⟩) (.int .i64 0) (.slice none 0 0) (.slice none 0 0) ∧ Box w7 w3.heap.size (.int .i64 0) (.string ⟨#[]⟩) (.string ⟨#[]⟩) (.string ⟨#[]⟩) (.int .i64 0) (.slice none 0 0) (.slice none 0 0) from ⟨HBx.out.1.kept f7, HBx.out.2.1.kept f7, HBx.out.2.2.1.kept f7, HBx.out.2.2.2.kept f7⟩)
  replace HWx := Zz (HWx.out.then7 f7)
  replace HBx := HB7
  clear HB7 f7 x0 x1 x2 x3 x4 x5 x6 y0 y1 y2 y3 y4 y5 y6 c0 c1 c2 c3 c4 c5 c6 d0 d1 d2 d3 d4 d5 d6 xz yz cz dz
  cases R7 with
  | false =>
   have HC := Zz (HCk.out.trans (show Zu _ = Yz from by unfold Zu; rw [if_neg (by simp [HE7.out])]))
   have HBf := Zz (show Box w7 w2.heap.size (.int .i64 0) (.string ⟨#[]⟩) (.string ⟨#[]⟩) (.string ⟨#[]⟩) (.int .i64 0) (.slice none 0 0) (.slice none 0 0) ∧ Box w7 w3.heap.size (.int .i64 0) (.string ⟨#[]⟩) (.string ⟨#[]⟩) (.string ⟨#[]⟩) (.int .i64 0) (.slice none 0 0) (.slice none 0 0) from ⟨HBx.out.2.2.1, HBx.out.2.2.2⟩)
   obtain ⟨c0, c1, c2, c3, c4, c5, c6⟩ := HBf.out.1.cells
   obtain ⟨d0, d1, d2, d3, d4, d5, d6⟩ := HBf.out.2.cells
   have cz := HBf.out.1.frozen
   have dz := HBf.out.2.frozen
   go_wp2_with fail
   have hfin := Zt HWx.out HBf.out.1 HBf.out.2 n6 (by have := HN.out; omega) (by have := HN.out; omega) (.int .i64 0) (.string ⟨#[]⟩) (.string ⟨#[]⟩) (.string ⟨#[]⟩) (.int .i64 0) (.slice none 0 0) (.slice none 0 0) (.int .i64 0) (.string ⟨#[]⟩) (.string ⟨#[]⟩) (.string ⟨#[]⟩) (.int .i64 0) (.slice none 0 0) (.slice none 0 0)
   exact Zr (u := .bool false) rfl rfl rfl rfl rfl hfin.1 hfin.2.1 (Zq HC.out hfin.2.2.1)
  | true =>
   obtain ⟨y0, y1, y2, y3, y4, y5, y6⟩ := HBx.out.2.1.cells
   go_wp2_with fail
   with_reducible refine (HQ1.out _ HWx.out).mono ?_
   rintro e w8 ⟨rfl, f8⟩
   have HB8 := Zz (show Box w8 w.heap.size (.int .i64 10) (.string P) (.string T) (.string F) (.int .i64 A) (.slice pa no ca) (.slice pb nn cb) ∧ Box w8 w1.heap.size (.int .i64 K') (.string P') (.string T') (.string F') (.int .i64 A') (.slice qa mo da) (.slice qb mn db) ∧ Box w8 w2.heap.size (.int .i64 0) (.string ⟨#[]⟩) (.string ⟨#[]⟩) (.string ⟨#[]⟩) (.int .i64 0) (.slice none 0 0) (.slice none 0 0) ∧ Box w8 w3.heap.size (.int .i64 0) (.string ⟨#[]⟩) (.string ⟨#[]⟩) (.string ⟨#[]⟩) (.int .i64 0) (.slice none 0 0) (.slice none 0 0) from ⟨HBx.out.1.kept f8, HBx.out.2.1.kept f8, HBx.out.2.2.1.kept f8, HBx.out.2.2.2.kept f8⟩)
   replace HWx := Zz (HWx.out.then7 f8)
   replace HBx := HB8
   clear HB8 f8 y0 y1 y2 y3 y4 y5 y6
   cases R8 with
   | false =>
    have HC := Zz (HCk.out.trans (show Zu _ = Yz from by unfold Zu; rw [if_neg (by simp [HE8.out])]))
    have HBf := Zz (show Box w8 w2.heap.size (.int .i64 0) (.string ⟨#[]⟩) (.string ⟨#[]⟩) (.string ⟨#[]⟩) (.int .i64 0) (.slice none 0 0) (.slice none 0 0) ∧ Box w8 w3.heap.size (.int .i64 0) (.string ⟨#[]⟩) (.string ⟨#[]⟩) (.string ⟨#[]⟩) (.int .i64 0) (.slice none 0 0) (.slice none 0 0) from ⟨HBx.out.2.2.1, HBx.out.2.2.2⟩)
    obtain ⟨c0, c1, c2, c3, c4, c5, c6⟩ := HBf.out.1.cells
    obtain ⟨d0, d1, d2, d3, d4, d5, d6⟩ := HBf.out.2.cells
    have cz := HBf.out.1.frozen
    have dz := HBf.out.2.frozen
    go_wp2_with fail
    have hfin := Zt HWx.out HBf.out.1 HBf.out.2 n6 (by have := HN.out; omega) (by have := HN.out; omega) (.int .i64 0) (.string ⟨#[]⟩) (.string ⟨#[]⟩) (.string ⟨#[]⟩) (.int .i64 0) (.slice none 0 0) (.slice none 0 0) (.int .i64 0) (.string ⟨#[]⟩) (.string ⟨#[]⟩) (.string ⟨#[]⟩) (.int .i64 0) (.slice none 0 0) (.slice none 0 0)
    exact Zr (u := .bool false) rfl rfl rfl rfl rfl hfin.1 hfin.2.1 (Zq HC.out hfin.2.2.1)
   | true =>
    have HC := Zz (HCk.out.trans (show Zu (⟨K', P', T', F', A', lO', lN'⟩, ⟨10, P, T, F, A, lO, lN⟩, true) = (⟨K', P', T', F', A', lO', lN'⟩, ⟨10, P, T, F, A, lO, lN⟩, true) from by unfold Zu; rw [if_pos (by simp [HE7.out, HE8.out])]))
    have HS := Zz (show (∀ w', Fr (fun k => k = w2.heap.size ∨ k = w3.heap.size) w8 w' → Fr (fun k => k = w2.heap.size ∨ k = w3.heap.size) w8 w' ∧ w'.cell? ⟨w.heap.size, 0, none⟩ = some (.int .i64 10) ∧ w'.cell? ⟨w.heap.size, 1, none⟩ = some (.string P) ∧ w'.cell? ⟨w.heap.size, 2, none⟩ = some (.string T) ∧ w'.cell? ⟨w.heap.size, 3, none⟩ = some (.string F) ∧ w'.cell? ⟨w.heap.size, 4, none⟩ = some (.int .i64 A) ∧ w'.cell? ⟨w.heap.size, 5, none⟩ = some (.slice pa no ca) ∧ w'.cell? ⟨w.heap.size, 6, none⟩ = some (.slice pb nn cb) ∧ w'.cell? ⟨w1.heap.size, 0, none⟩ = some (.int .i64 K') ∧ w'.cell? ⟨w1.heap.size, 1, none⟩ = some (.string P') ∧ w'.cell? ⟨w1.heap.size, 2, none⟩ = some (.string T') ∧ w'.cell? ⟨w1.heap.size, 3, none⟩ = some (.string F') ∧ w'.cell? ⟨w1.heap.size, 4, none⟩ = some (.int .i64 A') ∧ w'.cell? ⟨w1.heap.size, 5, none⟩ = some (.slice qa mo da) ∧ w'.cell? ⟨w1.heap.size, 6, none⟩ = some (.slice qb mn db)) from fun w' f => by
     obtain ⟨x0, x1, x2, x3, x4, x5, x6⟩ := (HBx.out.1.fr f (by have := HN.out; omega)).cells
     obtain ⟨y0, y1, y2, y3, y4, y5, y6⟩ := (HBx.out.2.1.fr f (by have := HN.out; omega)).cells
     exact ⟨f, x0, x1, x2, x3, x4, x5, x6, y0, y1, y2, y3, y4, y5, y6⟩)
    have hS0 := HS.out w8.drew (Fr.drew _ w8)
    have hS6 := HS.out (setP w8 w2.heap.size (.int .i64 K') (.string P') (.string T') (.string F') (.int .i64 A') (.slice qa mo da) (.slice qb mn db)).drew (Fr.then (Fr.setP _ (Or.inl rfl) _ _ _ _ _ _ _) (Fr.drew _ _))
    have hS7 := HS.out (setP (setP w8 w2.heap.size (.int .i64 K') (.string P') (.string T') (.string F') (.int .i64 A') (.slice qa mo da) (.slice qb mn db)) w3.heap.size (.int .i64 10) (.string P) (.string T) (.string F) (.int .i64 A) (.slice pa no ca) (.slice pb nn cb)).drew (Fr.then (Fr.then (Fr.setP _ (Or.inl rfl) _ _ _ _ _ _ _) (Fr.setP _ (Or.inr rfl) _ _ _ _ _ _ _)) (Fr.drew _ _))
    obtain ⟨c0, c1, c2, c3, c4, c5, c6⟩ := HBx.out.2.2.1.cells
    obtain ⟨d0, d1, d2, d3, d4, d5, d6⟩ := HBx.out.2.2.2.cells
    have cz := HBx.out.2.2.1.frozen
    have dz := HBx.out.2.2.2.frozen
    go_wp2_with fail
    go_region_held3 (fun w' => Fr (fun k => k = w2.heap.size ∨ k = w3.heap.size) w8 w' ∧ w'.cell? ⟨w.heap.size, 0, none⟩ = some (.int .i64 10) ∧ w'.cell? ⟨w.heap.size, 1, none⟩ = some (.string P) ∧ w'.cell? ⟨w.heap.size, 2, none⟩ = some (.string T) ∧ w'.cell? ⟨w.heap.size, 3, none⟩ = some (.string F) ∧ w'.cell? ⟨w.heap.size, 4, none⟩ = some (.int .i64 A) ∧ w'.cell? ⟨w.heap.size, 5, none⟩ = some (.slice pa no ca) ∧ w'.cell? ⟨w.heap.size, 6, none⟩ = some (.slice pb nn cb) ∧ w'.cell? ⟨w1.heap.size, 0, none⟩ = some (.int .i64 K') ∧ w'.cell? ⟨w1.heap.size, 1, none⟩ = some (.string P') ∧ w'.cell? ⟨w1.heap.size, 2, none⟩ = some (.string T') ∧ w'.cell? ⟨w1.heap.size, 3, none⟩ = some (.string F') ∧ w'.cell? ⟨w1.heap.size, 4, none⟩ = some (.int .i64 A') ∧ w'.cell? ⟨w1.heap.size, 5, none⟩ = some (.slice qa mo da) ∧ w'.cell? ⟨w1.heap.size, 6, none⟩ = some (.slice qb mn db))
     (first | with_reducible exact hS0 | with_reducible exact hS6 | with_reducible exact hS7)
     (fail)
    clear hS0 hS6 hS7 cz dz c0 c1 c2 c3 c4 c5 c6 d0 d1 d2 d3 d4 d5 d6
    go_wp2_with fail
    have hfin := Zt HWx.out HBx.out.2.2.1 HBx.out.2.2.2 n6 (by have := HN.out; omega) (by have := HN.out; omega) (.int .i64 K') (.string P') (.string T') (.string F') (.int .i64 A') (.slice qa mo da) (.slice qb mn db) (.int .i64 10) (.string P) (.string T) (.string F) (.int .i64 A) (.slice pa no ca) (.slice pb nn cb)
    have hfr := hfin.2.2.1.then7 (Fr.drew None' _)
    exact Zr rfl rfl rfl rfl rfl hfin.1.drew hfin.2.1.drew (by rw [HC.out]; exact ⟨_, _, rfl, HV.out.1, HV.out.2, hfr⟩)
theorem rcomm_22 (x y : Pr) (pa pb qa qb : Option Addr) (no nn ca cb mo mn da db : Nat) (w : World) (kx : Ys x = 2 ∧ x.kind = 10) (ky : Ys y = 2 ∧ y.kind = 10) (hno : x.old.length = no) (hnn : x.new.length = nn) (hmo : y.old.length = mo) (hmn : y.new.length = mn) (sx : Zs x) (sy : Zs y) (fx : Zw x = true) (fy : Zw y = true)
  (HR1 : Hid (∀ w', Fr None' w w' → Calls Tryz.prog 61 #[.agg #[.int .i64 x.kind, .string x.path, .string x.dst, .string x.src, .int .i64 x.pos, .slice pa no ca, .slice pb nn cb]] w' (fun e w'' => e = .returned (.bool true) ∧ Fr None' w' w'')))
  (HR2 : Hid (∀ w', Fr None' w w' → Calls Tryz.prog 61 #[.agg #[.int .i64 y.kind, .string y.path, .string y.dst, .string y.src, .int .i64 y.pos, .slice qa mo da, .slice qb mn db]] w' (fun e w'' => e = .returned (.bool true) ∧ Fr None' w' w'')))
  (HQ1 : Hid (∀ w', Fr None' w w' → Calls Tryz.prog 61 #[.agg #[.int .i64 (Zx x y).1.kind, .string (Zx x y).1.path, .string (Zx x y).1.dst, .string (Zx x y).1.src, .int .i64 (Zx x y).1.pos, .slice qa mo da, .slice qb mn db]] w' (fun e w'' => e = .returned (.bool (Zw (Zx x y).1)) ∧ Fr None' w' w'')))
  (HQ2 : Hid (∀ w', Fr None' w w' → Calls Tryz.prog 61 #[.agg #[.int .i64 (Zx x y).2.1.kind, .string (Zx x y).2.1.path, .string (Zx x y).2.1.dst, .string (Zx x y).2.1.src, .int .i64 (Zx x y).2.1.pos, .slice pa no ca, .slice pb nn cb]] w' (fun e w'' => e = .returned (.bool (Zw (Zx x y).2.1)) ∧ Fr None' w' w'')))
  (w0 : World) (HV : Hid (Yf w0 (.agg #[.int .i64 (Zx x y).1.kind, .string (Zx x y).1.path, .string (Zx x y).1.dst, .string (Zx x y).1.src, .int .i64 (Zx x y).1.pos, .slice qa mo da, .slice qb mn db]) (Zx x y).1 ∧ Yf w0 (.agg #[.int .i64 (Zx x y).2.1.kind, .string (Zx x y).2.1.path, .string (Zx x y).2.1.dst, .string (Zx x y).2.1.src, .int .i64 (Zx x y).2.1.pos, .slice pa no ca, .slice pb nn cb]) (Zx x y).2.1)) :
  Calls Tryz.prog 57 #[.agg #[.int .i64 x.kind, .string x.path, .string x.dst, .string x.src, .int .i64 x.pos, .slice pa no ca, .slice pb nn cb], .agg #[.int .i64 y.kind, .string y.path, .string y.dst, .string y.src, .int .i64 y.pos, .slice qa mo da, .slice qb mn db]] w fun e w' => Z9 x y w0 w e w' := by
 have HCk := Zz (show Zj x y = Zu (Zx x y) from by unfold Zj; rw [if_pos (by simp [fx, fy])])
 have HRu := Zz (show Zx x y = Zx x y from rfl)
 have HLn := Zz (fun (h7 : x.kind = 7) (h7' : y.kind = 7) w' => Yh x y pa pb qa qb no nn ca cb mo mn da db w' hno hnn hmo hmn (by have := sx.old; omega) (by have := sx.new; omega) (by have := sy.old; omega) (by have := sy.new; omega) (Yt fx h7) (Yt fy h7'))
 have HCx := Zz (fun w' => Z8 x pa pb no nn ca cb w')
 have HCy := Zz (fun w' => Z8 y qa qb mo mn da db w')
 have HAx := Zz (fun w' => Zf x pa pb no nn ca cb w')
 have HAy := Zz (fun w' => Zf y qa qb mo mn da db w')
 have HP1 := Zz (fun w' => Zn x y.path pa pb no nn ca cb w' sx.path sx.dst sy.path)
 have HP2 := Zz (fun w' => Zn x y.dst pa pb no nn ca cb w' sx.path sx.dst sy.dst)
 have HP3 := Zz (fun w' => Zn y x.path qa qb mo mn da db w' sy.path sy.dst sx.path)
 have HP4 := Zz (show ∀ w', Calls Tryz.prog 63 #[.string x.path, .string y.path] w' (fun e w'' => e = .returned (.bool (apP x.path y.path)) ∧ w' = w'') from fun w' => Path.rapart_any x.path y.path w' (by have := sx.path; omega) (by have := sy.path; omega))
 have HM1 := Zz (show ∀ w', Calls Tryz.prog 80 #[.string y.path, .string x.dst, .string x.path] w' (fun e w'' => e = .returned (.tuple #[.string (moP y.path x.dst x.path), .bool (wiP y.path x.dst)]) ∧ w' = w'') from fun w' => Path.rmoved_any y.path x.dst x.path w' (by have := sy.path; omega) (by have := sx.dst; omega) (by have := sx.path; omega))
 have HM2 := Zz (show ∀ w', Calls Tryz.prog 80 #[.string x.path, .string y.path, .string y.dst] w' (fun e w'' => e = .returned (.tuple #[.string (moP x.path y.path y.dst), .bool (wiP x.path y.path)]) ∧ w' = w'') from fun w' => Path.rmoved_any x.path y.path y.dst w' (by have := sx.path; omega) (by have := sy.path; omega) (by have := sy.dst; omega))
 have HW1 := Zz (show ∀ w', Calls Tryz.prog 81 #[.string y.path, .string x.path] w' (fun e w'' => e = .returned (.bool (wiP y.path x.path)) ∧ w' = w'') from fun w' => Path.rwithin_any y.path x.path w' (by have := sy.path; omega) (by have := sx.path; omega))
 have HW2 := Zz (show ∀ w', Calls Tryz.prog 81 #[.string x.path, .string y.dst] w' (fun e w'' => e = .returned (.bool (wiP x.path y.dst)) ∧ w' = w'') from fun w' => Path.rwithin_any x.path y.dst w' (by have := sx.path; omega) (by have := sy.dst; omega))
 generalize hr : Zx x y = r at HCk HQ1 HQ2 HV
 have HRr := Zz hr
 unfold Z9
 generalize Zj x y = cc at HCk ⊢
 obtain ⟨K, P, T, F, A, lO, lN⟩ := x
 obtain ⟨K', P', T', F', A', lO', lN'⟩ := y
 simp only at hno hnn hmo hmn HR1 HR2 HLn HCx HCy HAx HAy HP1 HP2 HP3 HP4 HM1 HM2 HW1 HW2 kx ky ⊢
 clear hno hnn hmo hmn sx sy fx fy HRu
 obtain ⟨w1, hw1⟩ : ∃ w1, w.alloc (.cells #[.int .i64 K, .string P, .string T, .string F, .int .i64 A, .slice pa no ca, .slice pb nn cb] 43) = w1 := ⟨_, rfl⟩
 obtain ⟨w2, hw2⟩ : ∃ w2, w1.alloc (.cells #[.int .i64 K', .string P', .string T', .string F', .int .i64 A', .slice qa mo da, .slice qb mn db] 43) = w2 := ⟨_, rfl⟩
 obtain ⟨w3, hw3⟩ : ∃ w3, w2.alloc (.cells #[.int .i64 0, .string ⟨#[]⟩, .string ⟨#[]⟩, .string ⟨#[]⟩, .int .i64 0, .slice none 0 0, .slice none 0 0] 43) = w3 := ⟨_, rfl⟩
 obtain ⟨w4, hw4⟩ : ∃ w4, w3.alloc (.cells #[.int .i64 0, .string ⟨#[]⟩, .string ⟨#[]⟩, .string ⟨#[]⟩, .int .i64 0, .slice none 0 0, .slice none 0 0] 43) = w4 := ⟨_, rfl⟩
 have F1 : Fr None' w w1 := hw1 ▸ Fr.alloc None' w _
 have F2 : Fr None' w1 w2 := hw2 ▸ Fr.alloc None' w1 _
 have F3 : Fr None' w2 w3 := hw3 ▸ Fr.alloc None' w2 _
 have F4 : Fr None' w3 w4 := hw4 ▸ Fr.alloc None' w3 _
 have BX : Box w4 w.heap.size (.int .i64 K) (.string P) (.string T) (.string F) (.int .i64 A) (.slice pa no ca) (.slice pb nn cb) := (hw1 ▸ Box.new w _ _ _ _ _ _ _ : Box w1 _ _ _ _ _ _ _ _).kept ((F2.then7 F3).then7 F4)
 have BY : Box w4 w1.heap.size (.int .i64 K') (.string P') (.string T') (.string F') (.int .i64 A') (.slice qa mo da) (.slice qb mn db) := (hw2 ▸ Box.new w1 _ _ _ _ _ _ _ : Box w2 _ _ _ _ _ _ _ _).kept (F3.then7 F4)
 have BC : Box w4 w2.heap.size (.int .i64 0) (.string ⟨#[]⟩) (.string ⟨#[]⟩) (.string ⟨#[]⟩) (.int .i64 0) (.slice none 0 0) (.slice none 0 0) := (hw3 ▸ Box.new w2 _ _ _ _ _ _ _ : Box w3 _ _ _ _ _ _ _ _).kept F4
 have BD : Box w4 w3.heap.size (.int .i64 0) (.string ⟨#[]⟩) (.string ⟨#[]⟩) (.string ⟨#[]⟩) (.int .i64 0) (.slice none 0 0) (.slice none 0 0) := hw4 ▸ Box.new w3 _ _ _ _ _ _ _
 have s1 : w1.heap.size = w.heap.size + 1 := by rw [← hw1]; simp
 have s2 : w2.heap.size = w1.heap.size + 1 := by rw [← hw2]; simp
 have s3 : w3.heap.size = w2.heap.size + 1 := by rw [← hw3]; simp
 have HF : Hid (Fr None' w w4) := ((F1.then7 F2).then7 F3).then7 F4
 have HN : Hid (w.heap.size < w1.heap.size ∧ w1.heap.size < w2.heap.size ∧ w2.heap.size < w3.heap.size) := ⟨by omega, by omega, by omega⟩
 have n1 : ¬ w.heap.size = w1.heap.size := by omega
 have n2 : ¬ w.heap.size = w2.heap.size := by omega
 have n3 : ¬ w.heap.size = w3.heap.size := by omega
 have n4 : ¬ w1.heap.size = w2.heap.size := by omega
 have n5 : ¬ w1.heap.size = w3.heap.size := by omega
 have n6 : ¬ w2.heap.size = w3.heap.size := by omega
 have HBs : Hid (∀ w', Fr None' w4 w' → Box w' w.heap.size (.int .i64 K) (.string P) (.string T) (.string F) (.int .i64 A) (.slice pa no ca) (.slice pb nn cb) ∧ Box w' w1.heap.size (.int .i64 K') (.string P') (.string T') (.string F') (.int .i64 A') (.slice qa mo da) (.slice qb mn db) ∧ Box w' w2.heap.size (.int .i64 0) (.string ⟨#[]⟩) (.string ⟨#[]⟩) (.string ⟨#[]⟩) (.int .i64 0) (.slice none 0 0) (.slice none 0 0) ∧ Box w' w3.heap.size (.int .i64 0) (.string ⟨#[]⟩) (.string ⟨#[]⟩) (.string ⟨#[]⟩) (.int .i64 0) (.slice none 0 0) (.slice none 0 0)) := fun w' f => ⟨BX.kept f, BY.kept f, BC.kept f, BD.kept f⟩
 obtain ⟨x0, x1, x2, x3, x4, x5, x6⟩ := BX.cells
 clear F1 F2 F3 F4 BX BY BC BD s1 s2 s3
 clear n1 n2 n3 n4 n5 hr
 obtain ⟨xcl, rfl⟩ := kx
 obtain ⟨ycl, rfl⟩ := ky
 have q1 := HR1.out w4 HF.out
 go_enter Tryz.func57, Tryz.ntmps57
 go_wp2_with fail
 with_reducible refine q1.mono ?_
 rintro e w5 ⟨rfl, f5⟩
 have HF5 := Zz f5
 have q2 := HR2.out w5 (HF.out.then7 f5)
 clear q1 f5 x0 x1 x2 x3 x4 x5 x6
 obtain ⟨y0, y1, y2, y3, y4, y5, y6⟩ := (HBs.out w5 HF5.out).2.1.cells
 go_wp2_with fail
 with_reducible refine q2.mono ?_
 rintro e w6 ⟨rfl, f6⟩
 have HFc := Zz (HF5.out.then7 f6)
 clear q2 f6 HF5 y0 y1 y2 y3 y4 y5 y6 HR1 HR2
 obtain ⟨x0, x1, x2, x3, x4, x5, x6⟩ := Box.cells (HBs.out _ (Hid.out HFc)).1
 obtain ⟨y0, y1, y2, y3, y4, y5, y6⟩ := Box.cells (HBs.out _ (Hid.out HFc)).2.1
 obtain ⟨c0, c1, c2, c3, c4, c5, c6⟩ := Box.cells (HBs.out _ (Hid.out HFc)).2.2.1
 obtain ⟨d0, d1, d2, d3, d4, d5, d6⟩ := Box.cells (HBs.out _ (Hid.out HFc)).2.2.2
 have xz := Box.frozen (HBs.out _ (Hid.out HFc)).1
 have yz := Box.frozen (HBs.out _ (Hid.out HFc)).2.1
 have cz := Box.frozen (HBs.out _ (Hid.out HFc)).2.2.1
 have dz := Box.frozen (HBs.out _ (Hid.out HFc)).2.2.2
 have xc : decide (7 ≤ (10 : Int) ∧ (10 : Int) ≤ 9) = false := by decide
 have xa : decide ((10 : Int) ≤ 6) = false := by decide
 have yc : decide (7 ≤ (10 : Int) ∧ (10 : Int) ≤ 9) = false := by decide
 have ya : decide ((10 : Int) ≤ 6) = false := by decide
 rw [xc] at HCx
 rw [yc] at HCy
 rw [xa] at HAx
 rw [ya] at HAy
 have HCl := Zz (And.intro xcl ycl)
 obtain rfl : (⟨10, P', T', F', A', lO', lN'⟩, ⟨10, P, T, F, A, lO, lN⟩, (apP P P' && apP T P') && (apP P T' && apP T T')) = r := (show Zx ⟨10, P, T, F, A, lO, lN⟩ ⟨10, P', T', F', A', lO', lN'⟩ = _ from (rule_ap (Or.inr HCl.out.1) (Or.inr HCl.out.2)).trans (by simp [Yg, Yn]; cases apP P P' <;> cases apP P T' <;> cases apP T P' <;> cases apP T T' <;> rfl)).symm.trans HRr.out
 clear xc yc xa ya xcl ycl
 generalize (apP P P' && apP T P') = R1 at *
 generalize (apP P T' && apP T T') = R2 at *
 cases R1 with
 | false =>
  simp only at HQ1 HQ2 HV HCk
  go_wp2_with (first | (go_at_call 78; with_reducible (refine (HP1.out _).mono ?_); rintro e w' ⟨rfl, f⟩; replace HFc := Zz (Fr.then7 (Hid.out HFc) f); clear f x0 x1 x2 x3 x4 x5 x6 y0 y1 y2 y3 y4 y5 y6 c0 c1 c2 c3 c4 c5 c6 d0 d1 d2 d3 d4 d5 d6 xz yz cz dz; obtain ⟨x0, x1, x2, x3, x4, x5, x6⟩ := Box.cells (HBs.out _ (Hid.out HFc)).1; obtain ⟨y0, y1, y2, y3, y4, y5, y6⟩ := Box.cells (HBs.out _ (Hid.out HFc)).2.1; obtain ⟨c0, c1, c2, c3, c4, c5, c6⟩ := Box.cells (HBs.out _ (Hid.out HFc)).2.2.1; obtain ⟨d0, d1, d2, d3, d4, d5, d6⟩ := Box.cells (HBs.out _ (Hid.out HFc)).2.2.2; have xz := Box.frozen (HBs.out _ (Hid.out HFc)).1; have yz := Box.frozen (HBs.out _ (Hid.out HFc)).2.1; have cz := Box.frozen (HBs.out _ (Hid.out HFc)).2.2.1; have dz := Box.frozen (HBs.out _ (Hid.out HFc)).2.2.2) | fail)
  have HBx := Zz (HBs.out _ (Hid.out HFc))
  have HWx := Zz (HF.out.then7 (Hid.out HFc))
  have HC := Zz (HCk.out.trans (show Zu _ = Yz from by unfold Zu; rw [if_neg (by simp)]))
  have hfin := Zt HWx.out HBx.out.2.2.1 HBx.out.2.2.2 n6 (by have := HN.out; omega) (by have := HN.out; omega) (.int .i64 0) (.string ⟨#[]⟩) (.string ⟨#[]⟩) (.string ⟨#[]⟩) (.int .i64 0) (.slice none 0 0) (.slice none 0 0) (.int .i64 0) (.string ⟨#[]⟩) (.string ⟨#[]⟩) (.string ⟨#[]⟩) (.int .i64 0) (.slice none 0 0) (.slice none 0 0)
  exact Zr (u := .bool false) rfl rfl rfl rfl rfl hfin.1 hfin.2.1 (Zq HC.out hfin.2.2.1)
 | true =>
  cases R2 with
  | false =>
   simp only at HQ1 HQ2 HV HCk
   go_wp2_with (first | (go_at_call 78; with_reducible (refine (HP1.out _).mono ?_); rintro e w' ⟨rfl, f⟩; replace HFc := Zz (Fr.then7 (Hid.out HFc) f); clear f x0 x1 x2 x3 x4 x5 x6 y0 y1 y2 y3 y4 y5 y6 c0 c1 c2 c3 c4 c5 c6 d0 d1 d2 d3 d4 d5 d6 xz yz cz dz; obtain ⟨x0, x1, x2, x3, x4, x5, x6⟩ := Box.cells (HBs.out _ (Hid.out HFc)).1; obtain ⟨y0, y1, y2, y3, y4, y5, y6⟩ := Box.cells (HBs.out _ (Hid.out HFc)).2.1; obtain ⟨c0, c1, c2, c3, c4, c5, c6⟩ := Box.cells (HBs.out _ (Hid.out HFc)).2.2.1; obtain ⟨d0, d1, d2, d3, d4, d5, d6⟩ := Box.cells (HBs.out _ (Hid.out HFc)).2.2.2; have xz := Box.frozen (HBs.out _ (Hid.out HFc)).1; have yz := Box.frozen (HBs.out _ (Hid.out HFc)).2.1; have cz := Box.frozen (HBs.out _ (Hid.out HFc)).2.2.1; have dz := Box.frozen (HBs.out _ (Hid.out HFc)).2.2.2) | (go_at_call 78; with_reducible (refine (HP2.out _).mono ?_); rintro e w' ⟨rfl, f⟩; replace HFc := Zz (Fr.then7 (Hid.out HFc) f); clear f x0 x1 x2 x3 x4 x5 x6 y0 y1 y2 y3 y4 y5 y6 c0 c1 c2 c3 c4 c5 c6 d0 d1 d2 d3 d4 d5 d6 xz yz cz dz; obtain ⟨x0, x1, x2, x3, x4, x5, x6⟩ := Box.cells (HBs.out _ (Hid.out HFc)).1; obtain ⟨y0, y1, y2, y3, y4, y5, y6⟩ := Box.cells (HBs.out _ (Hid.out HFc)).2.1; obtain ⟨c0, c1, c2, c3, c4, c5, c6⟩ := Box.cells (HBs.out _ (Hid.out HFc)).2.2.1; obtain ⟨d0, d1, d2, d3, d4, d5, d6⟩ := Box.cells (HBs.out _ (Hid.out HFc)).2.2.2; have xz := Box.frozen (HBs.out _ (Hid.out HFc)).1; have yz := Box.frozen (HBs.out _ (Hid.out HFc)).2.1; have cz := Box.frozen (HBs.out _ (Hid.out HFc)).2.2.1; have dz := Box.frozen (HBs.out _ (Hid.out HFc)).2.2.2) | fail)
   have HBx := Zz (HBs.out _ (Hid.out HFc))
   have HWx := Zz (HF.out.then7 (Hid.out HFc))
   have HC := Zz (HCk.out.trans (show Zu _ = Yz from by unfold Zu; rw [if_neg (by simp)]))
   have hfin := Zt HWx.out HBx.out.2.2.1 HBx.out.2.2.2 n6 (by have := HN.out; omega) (by have := HN.out; omega) (.int .i64 0) (.string ⟨#[]⟩) (.string ⟨#[]⟩) (.string ⟨#[]⟩) (.int .i64 0) (.slice none 0 0) (.slice none 0 0) (.int .i64 0) (.string ⟨#[]⟩) (.string ⟨#[]⟩) (.string ⟨#[]⟩) (.int .i64 0) (.slice none 0 0) (.slice none 0 0)
   exact Zr (u := .bool false) rfl rfl rfl rfl rfl hfin.1 hfin.2.1 (Zq HC.out hfin.2.2.1)
  | true =>
   simp only at HQ1 HQ2 HV HCk
   go_wp2_with (first | (go_at_call 78; with_reducible (refine (HP1.out _).mono ?_); rintro e w' ⟨rfl, f⟩; replace HFc := Zz (Fr.then7 (Hid.out HFc) f); clear f x0 x1 x2 x3 x4 x5 x6 y0 y1 y2 y3 y4 y5 y6 c0 c1 c2 c3 c4 c5 c6 d0 d1 d2 d3 d4 d5 d6 xz yz cz dz; obtain ⟨x0, x1, x2, x3, x4, x5, x6⟩ := Box.cells (HBs.out _ (Hid.out HFc)).1; obtain ⟨y0, y1, y2, y3, y4, y5, y6⟩ := Box.cells (HBs.out _ (Hid.out HFc)).2.1; obtain ⟨c0, c1, c2, c3, c4, c5, c6⟩ := Box.cells (HBs.out _ (Hid.out HFc)).2.2.1; obtain ⟨d0, d1, d2, d3, d4, d5, d6⟩ := Box.cells (HBs.out _ (Hid.out HFc)).2.2.2; have xz := Box.frozen (HBs.out _ (Hid.out HFc)).1; have yz := Box.frozen (HBs.out _ (Hid.out HFc)).2.1; have cz := Box.frozen (HBs.out _ (Hid.out HFc)).2.2.1; have dz := Box.frozen (HBs.out _ (Hid.out HFc)).2.2.2) | (go_at_call 78; with_reducible (refine (HP2.out _).mono ?_); rintro e w' ⟨rfl, f⟩; replace HFc := Zz (Fr.then7 (Hid.out HFc) f); clear f x0 x1 x2 x3 x4 x5 x6 y0 y1 y2 y3 y4 y5 y6 c0 c1 c2 c3 c4 c5 c6 d0 d1 d2 d3 d4 d5 d6 xz yz cz dz; obtain ⟨x0, x1, x2, x3, x4, x5, x6⟩ := Box.cells (HBs.out _ (Hid.out HFc)).1; obtain ⟨y0, y1, y2, y3, y4, y5, y6⟩ := Box.cells (HBs.out _ (Hid.out HFc)).2.1; obtain ⟨c0, c1, c2, c3, c4, c5, c6⟩ := Box.cells (HBs.out _ (Hid.out HFc)).2.2.1; obtain ⟨d0, d1, d2, d3, d4, d5, d6⟩ := Box.cells (HBs.out _ (Hid.out HFc)).2.2.2; have xz := Box.frozen (HBs.out _ (Hid.out HFc)).1; have yz := Box.frozen (HBs.out _ (Hid.out HFc)).2.1; have cz := Box.frozen (HBs.out _ (Hid.out HFc)).2.2.1; have dz := Box.frozen (HBs.out _ (Hid.out HFc)).2.2.2) | fail)
   have HBx := Zz (HBs.out _ (Hid.out HFc))
   have HWx := Zz (HF.out.then7 (Hid.out HFc))
   obtain ⟨R7, hR7⟩ : ∃ R, Zw ⟨10, P, T, F, A, lO, lN⟩ = R := ⟨_, rfl⟩
   obtain ⟨R8, hR8⟩ : ∃ R, Zw ⟨10, P', T', F', A', lO', lN'⟩ = R := ⟨_, rfl⟩
   rw [hR7] at HQ2
   rw [hR8] at HQ1
   have HE7 := Zz hR7
   have HE8 := Zz hR8
   clear hR7 hR8
   with_reducible refine (HQ2.out _ HWx.out).mono ?_
   rintro e w7 ⟨rfl, f7⟩
   have HB7 := Zz (show Box w7 w.heap.size (.int .i64 10) (.string P) (.string T) (.string F) (.int .i64 A) (.slice pa no ca) (.slice pb nn cb) ∧ Box w7 w1.heap.size (.int .i64 10) (.string P') (.string T') (.string F') (.int .i64 A') (.slice qa mo da) (.slice qb mn db) ∧ Box w7 w2.heap.size (.int .i64 0) (.string ⟨#[]⟩) (.string ⟨#[]⟩) (.string ⟨#[]⟩) (.int .i64 0) (.slice none 0 0) (.slice none 0 0) ∧ Box w7 w3.heap.size (.int .i64 0) (.string ⟨#[]⟩) (.string ⟨#[]⟩) (.string ⟨#[]⟩) (.int .i64 0) (.slice none 0 0) (.slice none 0 0) from ⟨HBx.out.1.kept f7, HBx.out.2.1.kept f7, HBx.out.2.2.1.kept f7, HBx.out.2.2.2.kept f7⟩)
   replace HWx := Zz (HWx.out.then7 f7)
   replace HBx := HB7
   clear HB7 f7 x0 x1 x2 x3 x4 x5 x6 y0 y1 y2 y3 y4 y5 y6 c0 c1 c2 c3 c4 c5 c6 d0 d1 d2 d3 d4 d5 d6 xz yz cz dz
   cases R7 with
   | false =>
    have HC := Zz (HCk.out.trans (show Zu _ = Yz from by unfold Zu; rw [if_neg (by simp [HE7.out])]))
    have HBf := Zz (show Box w7 w2.heap.size (.int .i64 0) (.string ⟨#[]⟩) (.string ⟨#[]⟩) (.string ⟨#[]⟩) (.int .i64 0) (.slice none 0 0) (.slice none 0 0) ∧ Box w7 w3.heap.size (.int .i64 0) (.string ⟨#[]⟩) (.string ⟨#[]⟩) (.string ⟨#[]⟩) (.int .i64 0) (.slice none 0 0) (.slice none 0 0) from ⟨HBx.out.2.2.1, HBx.out.2.2.2⟩)
    obtain ⟨c0, c1, c2, c3, c4, c5, c6⟩ := HBf.out.1.cells
    obtain ⟨d0, d1, d2, d3, d4, d5, d6⟩ := HBf.out.2.cells
    have cz := HBf.out.1.frozen
    have dz := HBf.out.2.frozen
    go_wp2_with fail
    have hfin := Zt HWx.out HBf.out.1 HBf.out.2 n6 (by have := HN.out; omega) (by have := HN.out; omega) (.int .i64 0) (.string ⟨#[]⟩) (.string ⟨#[]⟩) (.string ⟨#[]⟩) (.int .i64 0) (.slice none 0 0) (.slice none 0 0) (.int .i64 0) (.string ⟨#[]⟩) (.string ⟨#[]⟩) (.string ⟨#[]⟩) (.int .i64 0) (.slice none 0 0) (.slice none 0 0)
    exact Zr (u := .bool false) rfl rfl rfl rfl rfl hfin.1 hfin.2.1 (Zq HC.out hfin.2.2.1)
   | true =>
    obtain ⟨y0, y1, y2, y3, y4, y5, y6⟩ := HBx.out.2.1.cells
    go_wp2_with fail
    with_reducible refine (HQ1.out _ HWx.out).mono ?_
    rintro e w8 ⟨rfl, f8⟩
    have HB8 := Zz (show Box w8 w.heap.size (.int .i64 10) (.string P) (.string T) (.string F) (.int .i64 A) (.slice pa no ca) (.slice pb nn cb) ∧ Box w8 w1.heap.size (.int .i64 10) (.string P') (.string T') (.string F') (.int .i64 A') (.slice qa mo da) (.slice qb mn db) ∧ Box w8 w2.heap.size (.int .i64 0) (.string ⟨#[]⟩) (.string ⟨#[]⟩) (.string ⟨#[]⟩) (.int .i64 0) (.slice none 0 0) (.slice none 0 0) ∧ Box w8 w3.heap.size (.int .i64 0) (.string ⟨#[]⟩) (.string ⟨#[]⟩) (.string ⟨#[]⟩) (.int .i64 0) (.slice none 0 0) (.slice none 0 0) from ⟨HBx.out.1.kept f8, HBx.out.2.1.kept f8, HBx.out.2.2.1.kept f8, HBx.out.2.2.2.kept f8⟩)
    replace HWx := Zz (HWx.out.then7 f8)
    replace HBx := HB8
    clear HB8 f8 y0 y1 y2 y3 y4 y5 y6
    cases R8 with
    | false =>
     have HC := Zz (HCk.out.trans (show Zu _ = Yz from by unfold Zu; rw [if_neg (by simp [HE8.out])]))
     have HBf := Zz (show Box w8 w2.heap.size (.int .i64 0) (.string ⟨#[]⟩) (.string ⟨#[]⟩) (.string ⟨#[]⟩) (.int .i64 0) (.slice none 0 0) (.slice none 0 0) ∧ Box w8 w3.heap.size (.int .i64 0) (.string ⟨#[]⟩) (.string ⟨#[]⟩) (.string ⟨#[]⟩) (.int .i64 0) (.slice none 0 0) (.slice none 0 0) from ⟨HBx.out.2.2.1, HBx.out.2.2.2⟩)
     obtain ⟨c0, c1, c2, c3, c4, c5, c6⟩ := HBf.out.1.cells
     obtain ⟨d0, d1, d2, d3, d4, d5, d6⟩ := HBf.out.2.cells
     have cz := HBf.out.1.frozen
     have dz := HBf.out.2.frozen
     go_wp2_with fail
     have hfin := Zt HWx.out HBf.out.1 HBf.out.2 n6 (by have := HN.out; omega) (by have := HN.out; omega) (.int .i64 0) (.string ⟨#[]⟩) (.string ⟨#[]⟩) (.string ⟨#[]⟩) (.int .i64 0) (.slice none 0 0) (.slice none 0 0) (.int .i64 0) (.string ⟨#[]⟩) (.string ⟨#[]⟩) (.string ⟨#[]⟩) (.int .i64 0) (.slice none 0 0) (.slice none 0 0)
     exact Zr (u := .bool false) rfl rfl rfl rfl rfl hfin.1 hfin.2.1 (Zq HC.out hfin.2.2.1)
    | true =>
     have HC := Zz (HCk.out.trans (show Zu (⟨10, P', T', F', A', lO', lN'⟩, ⟨10, P, T, F, A, lO, lN⟩, true) = (⟨10, P', T', F', A', lO', lN'⟩, ⟨10, P, T, F, A, lO, lN⟩, true) from by unfold Zu; rw [if_pos (by simp [HE7.out, HE8.out])]))
     have HS := Zz (show (∀ w', Fr (fun k => k = w2.heap.size ∨ k = w3.heap.size) w8 w' → Fr (fun k => k = w2.heap.size ∨ k = w3.heap.size) w8 w' ∧ w'.cell? ⟨w.heap.size, 0, none⟩ = some (.int .i64 10) ∧ w'.cell? ⟨w.heap.size, 1, none⟩ = some (.string P) ∧ w'.cell? ⟨w.heap.size, 2, none⟩ = some (.string T) ∧ w'.cell? ⟨w.heap.size, 3, none⟩ = some (.string F) ∧ w'.cell? ⟨w.heap.size, 4, none⟩ = some (.int .i64 A) ∧ w'.cell? ⟨w.heap.size, 5, none⟩ = some (.slice pa no ca) ∧ w'.cell? ⟨w.heap.size, 6, none⟩ = some (.slice pb nn cb) ∧ w'.cell? ⟨w1.heap.size, 0, none⟩ = some (.int .i64 10) ∧ w'.cell? ⟨w1.heap.size, 1, none⟩ = some (.string P') ∧ w'.cell? ⟨w1.heap.size, 2, none⟩ = some (.string T') ∧ w'.cell? ⟨w1.heap.size, 3, none⟩ = some (.string F') ∧ w'.cell? ⟨w1.heap.size, 4, none⟩ = some (.int .i64 A') ∧ w'.cell? ⟨w1.heap.size, 5, none⟩ = some (.slice qa mo da) ∧ w'.cell? ⟨w1.heap.size, 6, none⟩ = some (.slice qb mn db)) from fun w' f => by
      obtain ⟨x0, x1, x2, x3, x4, x5, x6⟩ := (HBx.out.1.fr f (by have := HN.out; omega)).cells
      obtain ⟨y0, y1, y2, y3, y4, y5, y6⟩ := (HBx.out.2.1.fr f (by have := HN.out; omega)).cells
      exact ⟨f, x0, x1, x2, x3, x4, x5, x6, y0, y1, y2, y3, y4, y5, y6⟩)
     have hS0 := HS.out w8.drew (Fr.drew _ w8)
     have hS6 := HS.out (setP w8 w2.heap.size (.int .i64 10) (.string P') (.string T') (.string F') (.int .i64 A') (.slice qa mo da) (.slice qb mn db)).drew (Fr.then (Fr.setP _ (Or.inl rfl) _ _ _ _ _ _ _) (Fr.drew _ _))
     have hS7 := HS.out (setP (setP w8 w2.heap.size (.int .i64 10) (.string P') (.string T') (.string F') (.int .i64 A') (.slice qa mo da) (.slice qb mn db)) w3.heap.size (.int .i64 10) (.string P) (.string T) (.string F) (.int .i64 A) (.slice pa no ca) (.slice pb nn cb)).drew (Fr.then (Fr.then (Fr.setP _ (Or.inl rfl) _ _ _ _ _ _ _) (Fr.setP _ (Or.inr rfl) _ _ _ _ _ _ _)) (Fr.drew _ _))
     obtain ⟨c0, c1, c2, c3, c4, c5, c6⟩ := HBx.out.2.2.1.cells
     obtain ⟨d0, d1, d2, d3, d4, d5, d6⟩ := HBx.out.2.2.2.cells
     have cz := HBx.out.2.2.1.frozen
     have dz := HBx.out.2.2.2.frozen
     go_wp2_with fail
     go_region_held3 (fun w' => Fr (fun k => k = w2.heap.size ∨ k = w3.heap.size) w8 w' ∧ w'.cell? ⟨w.heap.size, 0, none⟩ = some (.int .i64 10) ∧ w'.cell? ⟨w.heap.size, 1, none⟩ = some (.string P) ∧ w'.cell? ⟨w.heap.size, 2, none⟩ = some (.string T) ∧ w'.cell? ⟨w.heap.size, 3, none⟩ = some (.string F) ∧ w'.cell? ⟨w.heap.size, 4, none⟩ = some (.int .i64 A) ∧ w'.cell? ⟨w.heap.size, 5, none⟩ = some (.slice pa no ca) ∧ w'.cell? ⟨w.heap.size, 6, none⟩ = some (.slice pb nn cb) ∧ w'.cell? ⟨w1.heap.size, 0, none⟩ = some (.int .i64 10) ∧ w'.cell? ⟨w1.heap.size, 1, none⟩ = some (.string P') ∧ w'.cell? ⟨w1.heap.size, 2, none⟩ = some (.string T') ∧ w'.cell? ⟨w1.heap.size, 3, none⟩ = some (.string F') ∧ w'.cell? ⟨w1.heap.size, 4, none⟩ = some (.int .i64 A') ∧ w'.cell? ⟨w1.heap.size, 5, none⟩ = some (.slice qa mo da) ∧ w'.cell? ⟨w1.heap.size, 6, none⟩ = some (.slice qb mn db))
      (first | with_reducible exact hS0 | with_reducible exact hS6 | with_reducible exact hS7)
      (fail)
     clear hS0 hS6 hS7 cz dz c0 c1 c2 c3 c4 c5 c6 d0 d1 d2 d3 d4 d5 d6
     go_wp2_with fail
     have hfin := Zt HWx.out HBx.out.2.2.1 HBx.out.2.2.2 n6 (by have := HN.out; omega) (by have := HN.out; omega) (.int .i64 10) (.string P') (.string T') (.string F') (.int .i64 A') (.slice qa mo da) (.slice qb mn db) (.int .i64 10) (.string P) (.string T) (.string F) (.int .i64 A) (.slice pa no ca) (.slice pb nn cb)
     have hfr := hfin.2.2.1.then7 (Fr.drew None' _)
     exact Zr rfl rfl rfl rfl rfl hfin.1.drew hfin.2.1.drew (by rw [HC.out]; exact ⟨_, _, rfl, HV.out.1, HV.out.2, hfr⟩)
end Go.Proofs.YtbnfjjjdnbcehaaGreatDoor
