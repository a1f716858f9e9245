/-
  What is proved here: the contracts that the statement stands on: CommD10, Join11. Conditions: as each theorem names them.
-/
import Derived.Test.YtpfkkpghgmmijaaGreatDoorMRuleOf10
import Derived.Test.YtpfkkpghgmmijaaGreatDoorM25RFindE
import Derived.Test.YtpfkkpghgmmijaaGreatDoorM28Copy10
import Derived.Test.YtpfkkpghgmmijaaGreatDoorM20Small10
import Derived.Test.YtpfkkpghgmmijaaGreatDoorMRule8
import Derived.Test.YtpfkkpghgmmijaaGreatDoorM17PRunes
namespace Go.Proofs.YtpfkkpghgmmijaaGreatDoor
open Go.RowKit
set_option maxRecDepth 100000

def OnlyN (G : Act → World → Prop) : Exit → Act → World → Prop
  | .normal => G
  | _ => fun _ _ => False

theorem region_told {P : Program} {id : Nat} {ops : Array Oper} {Q : Exit → Act → World → Prop} {a : Act} {w : World} (G : Act → World → Prop) (h : (Code.region id ops true).wp P (OnlyN G) a w) (hn : ∀ a' w', G a' w' → Q .normal a' w') : (Code.region id ops true).wp P Q a w := by
  refine wp_mono h ?_
  intro e a' w' he
  cases e <;> first | exact he.elim | exact hn _ _ he

theorem alloc10 {w W : World} (h : Fr None' w W) (o : Obj) : Fr None' w (W.alloc o) := h.then7 (Fr.alloc None' _ _)
theorem drew10 {w W : World} (h : Fr None' w W) : Fr None' w W.drew := h.then7 (Fr.drew None' _)
theorem set10 {w W : World} (h : Fr None' w W) {b : Nat} (hb : w.heap.size ≤ b) (y0 y1 y2 y3 y4 y5 y6 : Value) : Fr None' w (setP W b y0 y1 y2 y3 y4 y5 y6) := h.trans (Fr.setP (M := fun k => k = b) W rfl _ _ _ _ _ _ _) (fun _ e => Or.inr (by omega))
theorem Box.new10 {V : World} {b : Nat} (hb : V.heap.size = b) (y0 y1 y2 y3 y4 y5 y6 : Value) : Box (V.alloc (.cells #[y0, y1, y2, y3, y4, y5, y6] 45)) b y0 y1 y2 y3 y4 y5 y6 := hb ▸ Box.new V _ _ _ _ _ _ _
theorem Box.alloc10 {V : World} {b : Nat} {y0 y1 y2 y3 y4 y5 y6 : Value} (h : Box V b y0 y1 y2 y3 y4 y5 y6) (o : Obj) : Box (V.alloc o) b y0 y1 y2 y3 y4 y5 y6 := h.kept (Fr.alloc None' _ _)

theorem all10 {V : World} {b : Nat} (h : Box V b (.int .i64 0) (.string ⟨#[]⟩) (.string ⟨#[]⟩) (.string ⟨#[]⟩) (.int .i64 0) (.slice none 0 0) (.slice none 0 0)) (y0 y1 y2 y3 y4 y5 y6 : Value) : Box (setP V b y0 y1 y2 y3 y4 y5 y6) b y0 y1 y2 y3 y4 y5 y6 := h.all _ _ _ _ _ _ _
theorem far10 {V : World} {b c : Nat} {y0 y1 y2 y3 y4 y5 y6 : Value} (h : Box V b y0 y1 y2 y3 y4 y5 y6) (hne : ¬ b = c) (z0 z1 z2 z3 z4 z5 z6 : Value) : Box (setP V c z0 z1 z2 z3 z4 z5 z6) b y0 y1 y2 y3 y4 y5 y6 := h.fr (Fr.setP (M := fun k => k = c) _ rfl _ _ _ _ _ _ _) hne

theorem copied_c (x : Pr) (vo vn : Value) (w : World) (ho : StrsAt w vo x.old) (hn : StrsAt w vn x.new) (lo : x.old.length ≤ 900000) (ln : x.new.length ≤ 900000) :
    Calls Tryz.prog 43 #[.agg #[.int .i64 x.kind, .string x.path, .string x.dst, .string x.src, .int .i64 x.pos, vo, vn]] w fun e w' => ∃ (po : Option Addr) (co : Nat) (pn : Option Addr) (cn : Nat), e = .returned (.agg #[.int .i64 x.kind, .string x.path, .string x.dst, .string x.src, .int .i64 x.pos, .slice po x.old.length co, .slice pn x.new.length cn]) ∧ Hid ((StrsAt w' (.slice po x.old.length co) x.old ∧ StrsAt w' (.slice pn x.new.length cn) x.new) ∧ (∀ k, (Value.slice po x.old.length co).ownBlock = some k → w.heap.size ≤ k) ∧ ∀ k, (Value.slice pn x.new.length cn).ownBlock = some k → w.heap.size ≤ k) ∧ Fr None' w w' := by
  refine (copied_any x vo vn w ho hn lo ln).mono ?_
  rintro e w' ⟨v, rfl, ⟨vo1, vn1, rfl, s1, s2, g1, g2⟩, f⟩
  obtain ⟨po, co, rfl⟩ := s1.as2
  obtain ⟨pn, cn, rfl⟩ := s2.as2
  exact ⟨po, co, pn, cn, rfl, ⟨⟨s1, s2⟩, g1, g2⟩, f⟩

def CommPost (x y : Pr) (w : World) (e : Ending) (w' : World) : Prop := ∃ va vb, e = .returned (.tuple #[va, vb, .bool (commP x y).2.2]) ∧ PrNew w w' va (commP x y).1 ∧ PrNew w w' vb (commP x y).2.1 ∧ Fr None' w w'

theorem zero_new (w w' : World) : PrNew w w' (.agg #[.int .i64 0, .string ⟨#[]⟩, .string ⟨#[]⟩, .string ⟨#[]⟩, .int .i64 0, .slice none 0 0, .slice none 0 0]) zeroP := ⟨_, _, rfl, ⟨none, 0, rfl, fun _ => rfl, Nat.le_refl _, Lines.Row.nil _ _⟩, ⟨none, 0, rfl, fun _ => rfl, Nat.le_refl _, Lines.Row.nil _ _⟩, (fun k e => by cases e), (fun k e => by cases e)⟩

theorem post_none {x y : Pr} {w w' : World} (h : commP x y = noneC) (f : Fr None' w w') : CommPost x y w (.returned (.tuple #[.agg #[.int .i64 0, .string ⟨#[]⟩, .string ⟨#[]⟩, .string ⟨#[]⟩, .int .i64 0, .slice none 0 0, .slice none 0 0], .agg #[.int .i64 0, .string ⟨#[]⟩, .string ⟨#[]⟩, .string ⟨#[]⟩, .int .i64 0, .slice none 0 0, .slice none 0 0], .bool false])) w' := by
  unfold CommPost
  rw [h]
  exact ⟨_, _, rfl, zero_new _ _, zero_new _ _, f⟩

def CommuteAll : Prop := ∀ (x y : Pr) (vo vn uo un : Value) (w : World), StrsAt w vo x.old → StrsAt w vn x.new → StrsAt w uo y.old → StrsAt w un y.new → SmallP x → SmallP y → Calls Tryz.prog 44 #[.agg #[.int .i64 x.kind, .string x.path, .string x.dst, .string x.src, .int .i64 x.pos, vo, vn], .agg #[.int .i64 y.kind, .string y.path, .string y.dst, .string y.src, .int .i64 y.pos, uo, un]] w fun e w' => CommPost x y w e w'

end Go.Proofs.YtpfkkpghgmmijaaGreatDoor

namespace Go.Proofs.YtpfkkpghgmmijaaGreatDoor
open Go.RowKit
set_option maxRecDepth 100000

def JoinPost (x y : Pr) (vo vn un : Value) (w : World) (e : Ending) (w' : World) : Prop := Fr None' w w' ∧ ((joinP x y = none ∧ e = .returned (.tuple #[.slice none 0 0, .bool false])) ∨ (joinP x y = some [] ∧ e = .returned (.tuple #[.slice none 0 0, .bool true])) ∨
  ∃ z g vz, joinP x y = some [z] ∧ e = .returned (.tuple #[.slice (some ⟨g, 0, none⟩) 1 1, .bool true]) ∧ Box w' g (.int .i64 z.kind) (.string z.path) (.string z.dst) (.string z.src) (.int .i64 z.pos) (vo) (vz) ∧ z.old = x.old ∧ ((vz = vn ∧ z.new = x.new) ∨ (vz = un ∧ z.new = y.new)) ∧ w.heap.size ≤ g)

theorem invert_at {x z : Pr} (hz : inv x = z) (vo vn : Value) (w : World) (ho : StrsAt w vo x.old) (hn : StrsAt w vn x.new) (lo : x.old.length ≤ 900000) (ln : x.new.length ≤ 900000) :
    Calls Tryz.prog 65 #[.agg #[.int .i64 x.kind, .string x.path, .string x.dst, .string x.src, .int .i64 x.pos, vo, vn]] w fun e w' => ∃ (po : Option Addr) (co : Nat) (pn : Option Addr) (cn : Nat), e = .returned (.agg #[.int .i64 z.kind, .string z.path, .string z.dst, .string z.src, .int .i64 z.pos, .slice po z.old.length co, .slice pn z.new.length cn]) ∧ Hid (StrsAt w' (.slice po z.old.length co) z.old ∧ StrsAt w' (.slice pn z.new.length cn) z.new) ∧ Fr None' w w' := by
  subst hz
  refine (invert_any x vo vn w ho hn lo ln).mono ?_
  rintro e w' ⟨v, rfl, ⟨vo1, vn1, rfl, s1, s2, _, _⟩, f⟩
  obtain ⟨po, co, rfl⟩ := s1.as2
  obtain ⟨pn, cn, rfl⟩ := s2.as2
  exact ⟨po, co, pn, cn, rfl, ⟨s1, s2⟩, f⟩

set_option maxHeartbeats 16000000 in
theorem joined_any (x y : Pr) (vo vn uo un : Value) (w : World) (ho : StrsAt w vo x.old) (hn : StrsAt w vn x.new) (go : StrsAt w uo y.old) (gn : StrsAt w un y.new) (sx : SmallP x) (sy : SmallP y) :
    Calls Tryz.prog 47 #[.agg #[.int .i64 x.kind, .string x.path, .string x.dst, .string x.src, .int .i64 x.pos, vo, vn], .agg #[.int .i64 y.kind, .string y.path, .string y.dst, .string y.src, .int .i64 y.pos, uo, un]] w fun e w' => JoinPost x y vo vn un w e w' := by
  have HR1 := toHid11 (fun w' (f : Fr None' w w') => qright_any x vo vn w' (ho.kept f) (hn.kept f) sx)
  have HR2 := toHid11 (fun w' (f : Fr None' w w') => qright_any y uo un w' (go.kept f) (gn.kept f) sy)
  have lx : x.old.length ≤ 900000 ∧ x.new.length ≤ 900000 ∧ y.old.length ≤ 900000 ∧ y.new.length ≤ 900000 := by have := sx.old; have := sx.new; have := sy.old; have := sy.new; omega
  obtain ⟨z, hz⟩ : ∃ z, inv x = z := ⟨_, rfl⟩
  have HIn := toHid11 (fun w' (f : Fr None' w w') => invert_at hz vo vn w' (ho.kept f) (hn.kept f) lx.1 lx.2.1)
  have HAl := toHid11 (fun w' (f : Fr None' w w') po pn co cn (s : StrsAt w' (.slice po z.old.length co) z.old ∧ StrsAt w' (.slice pn z.new.length cn) z.new) => alike_any y z _ _ _ _ w' (go.kept f) (gn.kept f) s.1 s.2 lx.2.2.1 lx.2.2.2)
  obtain ⟨RA, hRA⟩ : ∃ R, alikeP y z = R := ⟨_, rfl⟩
  obtain ⟨R1, hR1⟩ : ∃ R, rightP x = R := ⟨_, rfl⟩
  obtain ⟨R2, hR2⟩ : ∃ R, rightP y = R := ⟨_, rfl⟩
  rw [hRA] at HAl
  rw [hR1] at HR1
  rw [hR2] at HR2
  have HJ1 := toHid11 (show R1 = false → joinP x y = none from fun h => by unfold joinP; rw [hR1, h]; simp)
  have HJ2 := toHid11 (show R2 = false → joinP x y = none from fun h => by unfold joinP; rw [hR2, h]; simp)
  have HJ3 := toHid11 (show R1 = true → R2 = true → RA = true → joinP x y = some [] from fun h1 h2 h3 => by unfold joinP; rw [hz, hRA, hR1, hR2, h1, h2, h3]; rfl)
  have HJ4 := toHid11 (show R1 = true → R2 = true → RA = false → joinP x y = (if ¬ x.kind = y.kind then none else if x.kind = 9 ∧ x.path = y.path ∧ x.dst = y.src then some [{ x with dst := y.dst }] else if x.kind = 7 ∧ x.path = y.path ∧ x.pos = y.pos ∧ x.new = y.old then some [{ x with new := y.new }] else if x.kind = 10 ∧ x.dst = y.path ∧ apP x.path y.dst = true then some [{ x with dst := y.dst }] else none) from fun h1 h2 h3 => by unfold joinP; rw [hz, hRA, hR1, hR2, h1, h2, h3]; rfl)
  obtain ⟨pa, ca, rfl, _, _, r1⟩ := ho
  obtain ⟨pb, cb, rfl, _, _, r2⟩ := hn
  obtain ⟨qa, da, rfl, _, _, r3⟩ := go
  obtain ⟨qb, db, rfl, _, _, r4⟩ := gn
  have HEq := toHid11 (fun w' (f : Fr None' w w') => equalS_any pb qa cb da x.new y.old w' (r2.fr (toLN f)) (r3.fr (toLN f)) (by omega))
  obtain ⟨K, P, T, F, A, lO, lN⟩ := x
  obtain ⟨K', P', T', F', A', mO, mN⟩ := y
  simp only at HR1 HR2 HIn HAl HJ4 HEq ⊢
  obtain ⟨no, hno⟩ : ∃ n, lO.length = n := ⟨_, rfl⟩
  obtain ⟨nn, hnn⟩ : ∃ n, lN.length = n := ⟨_, rfl⟩
  obtain ⟨mo, hmo⟩ : ∃ n, mO.length = n := ⟨_, rfl⟩
  obtain ⟨mn, hmn⟩ : ∃ n, mN.length = n := ⟨_, rfl⟩
  rw [hno, hnn] at HR1 HIn
  rw [hmo, hmn] at HR2 HAl
  rw [hnn, hmo] at HEq
  rw [hno, hnn, hmo, hmn]
  obtain ⟨w1, hw1⟩ : ∃ w1, w.alloc (.cells #[.int .i64 K, .string P, .string T, .string F, .int .i64 A, .slice pa no ca, .slice pb nn cb] 45) = w1 := ⟨_, rfl⟩
  obtain ⟨w2, hw2⟩ : ∃ w2, w1.alloc (.cells #[.int .i64 K', .string P', .string T', .string F', .int .i64 A', .slice qa mo da, .slice qb mn db] 45) = w2 := ⟨_, rfl⟩
  have F1 : Fr None' w w1 := hw1 ▸ Fr.alloc None' w _
  have F2 : Fr None' w1 w2 := hw2 ▸ Fr.alloc None' w1 _
  have HF := toHid11 (F1.then7 F2)
  have HB := toHid11 (show ∀ w', Fr None' w2 w' → Box w' w.heap.size (.int .i64 K) (.string P) (.string T) (.string F) (.int .i64 A) (.slice pa no ca) (.slice pb nn cb) ∧ Box w' w1.heap.size (.int .i64 K') (.string P') (.string T') (.string F') (.int .i64 A') (.slice qa mo da) (.slice qb mn db) from fun w' f => ⟨((hw1 ▸ Box.new w _ _ _ _ _ _ _ : Box w1 _ _ _ _ _ _ _ _).kept F2).kept f, (hw2 ▸ Box.new w1 _ _ _ _ _ _ _ : Box w2 _ _ _ _ _ _ _ _).kept f⟩)
  have n12 : ¬ w.heap.size = w1.heap.size := by rw [← hw1]; simp
  have HN := toHid11 n12
  clear F1 F2 hno hnn hmo hmn r1 r2 r3 r4 lx hz hRA hR1 hR2 sx sy n12
  have q1 := HR1.out w2 HF.out
  obtain ⟨x0, x1, x2, x3, x4, x5, x6⟩ := (HB.out w2 (Fr.refl _ _)).1.cells
  go_enter Tryz.func47, Tryz.ntmps47
  go_wp2_with fail
  with_reducible refine q1.mono ?_
  rintro e w3 ⟨rfl, f3⟩
  have HF3 := toHid11 f3
  clear q1 f3 x0 x1 x2 x3 x4 x5 x6
  cases R1 with
  | false =>
    have HFW := toHid11 (HF.out.then7 HF3.out)
    clear HR2 HIn HAl HEq HJ2 HJ3 HJ4
    have HJ := toHid11 (HJ1.out rfl)
    go_wp2_with fail
    go_ret2
    exact ⟨HFW.out, Or.inl ⟨HJ.out, rfl⟩⟩
  | true =>
  have q2 := HR2.out w3 (HF.out.then7 HF3.out)
  obtain ⟨x0, x1, x2, x3, x4, x5, x6⟩ := (HB.out w3 HF3.out).2.cells
  go_wp2_with fail
  with_reducible refine q2.mono ?_
  rintro e w4 ⟨rfl, f4⟩
  have HF4 := toHid11 (HF3.out.then7 f4)
  clear q2 f4 x0 x1 x2 x3 x4 x5 x6 HR1 HR2 HJ1
  cases R2 with
  | false =>
    have HFW := toHid11 (HF.out.then7 HF4.out)
    clear HIn HAl HEq HJ3 HJ4
    have HJ := toHid11 (HJ2.out rfl)
    go_wp2_with fail
    go_ret2
    exact ⟨HFW.out, Or.inl ⟨HJ.out, rfl⟩⟩
  | true =>
  have HS := toHid11 (show ∀ w', Fr None' w4 w' → Fr None' w4 w' ∧ w'.cell? ⟨w.heap.size, 0, none⟩ = some (.int .i64 K) ∧ w'.cell? ⟨w.heap.size, 1, none⟩ = some (.string P) ∧ w'.cell? ⟨w.heap.size, 2, none⟩ = some (.string T) ∧ w'.cell? ⟨w.heap.size, 3, none⟩ = some (.string F) ∧ w'.cell? ⟨w.heap.size, 4, none⟩ = some (.int .i64 A) ∧ w'.cell? ⟨w.heap.size, 5, none⟩ = some (.slice pa no ca) ∧ w'.cell? ⟨w.heap.size, 6, none⟩ = some (.slice pb nn cb) ∧ w'.cell? ⟨w1.heap.size, 0, none⟩ = some (.int .i64 K') ∧ w'.cell? ⟨w1.heap.size, 1, none⟩ = some (.string P') ∧ w'.cell? ⟨w1.heap.size, 2, none⟩ = some (.string T') ∧ w'.cell? ⟨w1.heap.size, 3, none⟩ = some (.string F') ∧ w'.cell? ⟨w1.heap.size, 4, none⟩ = some (.int .i64 A') ∧ w'.cell? ⟨w1.heap.size, 5, none⟩ = some (.slice qa mo da) ∧ w'.cell? ⟨w1.heap.size, 6, none⟩ = some (.slice qb mn db) from fun w' f => by
    obtain ⟨x0, x1, x2, x3, x4, x5, x6⟩ := (HB.out w' (HF4.out.then7 f)).1.cells
    obtain ⟨y0, y1, y2, y3, y4, y5, y6⟩ := (HB.out w' (HF4.out.then7 f)).2.cells
    exact ⟨f, x0, x1, x2, x3, x4, x5, x6, y0, y1, y2, y3, y4, y5, y6⟩)
  have hS0 := HS.out w4.drew (Fr.drew _ w4)
  have HW4 := toHid11 (HF.out.then7 HF4.out)
  go_wp2_with fail
  go_region_held3 (fun w' => Fr None' w4 w' ∧ w'.cell? ⟨w.heap.size, 0, none⟩ = some (.int .i64 K) ∧ w'.cell? ⟨w.heap.size, 1, none⟩ = some (.string P) ∧ w'.cell? ⟨w.heap.size, 2, none⟩ = some (.string T) ∧ w'.cell? ⟨w.heap.size, 3, none⟩ = some (.string F) ∧ w'.cell? ⟨w.heap.size, 4, none⟩ = some (.int .i64 A) ∧ w'.cell? ⟨w.heap.size, 5, none⟩ = some (.slice pa no ca) ∧ w'.cell? ⟨w.heap.size, 6, none⟩ = some (.slice pb nn cb) ∧ w'.cell? ⟨w1.heap.size, 0, none⟩ = some (.int .i64 K') ∧ w'.cell? ⟨w1.heap.size, 1, none⟩ = some (.string P') ∧ w'.cell? ⟨w1.heap.size, 2, none⟩ = some (.string T') ∧ w'.cell? ⟨w1.heap.size, 3, none⟩ = some (.string F') ∧ w'.cell? ⟨w1.heap.size, 4, none⟩ = some (.int .i64 A') ∧ w'.cell? ⟨w1.heap.size, 5, none⟩ = some (.slice qa mo da) ∧ w'.cell? ⟨w1.heap.size, 6, none⟩ = some (.slice qb mn db))
    (first | with_reducible exact hS0 | with_reducible exact hS5 | with_reducible exact hS6)
    (first
      | (go_at_call 65; with_reducible (refine (HIn.out _ (Fr.then7 (Hid.out HW4) (Fr.drew None' _))).mono ?_); rintro e w5 ⟨po, co, pn, cn, rfl, HRI, f5⟩; have G5 := toHid11 (Fr.then7 (Fr.drew None' w4) f5); have hS5 := HS.out w5 (Hid.out G5); clear f5)
      | (go_at_call 64; with_reducible (refine (HAl.out w5 (Fr.then7 (Hid.out HW4) (Hid.out G5)) po pn co cn (Hid.out HRI)).mono ?_); rintro e w6 ⟨rfl, f6⟩; have G6 := toHid11 (Fr.then7 (Hid.out G5) f6); have hS6 := HS.out w6 (Hid.out G6); clear f6)
      | fail)
  clear hS0 hS5 hS6 HRI HIn HAl HJ2 HS
  have HW6 := toHid11 (HW4.out.then7 G6.out)
  have HB6 := toHid11 (HB.out w6 (HF4.out.then7 G6.out))
  clear HB HF HF3 HF4 HW4 G5 G6 hw1 hw2
  cases RA with
  | true =>
    have HFW := HW6
    clear HJ4 HEq
    have HJ := toHid11 (HJ3.out (by simp) (by simp) (by simp))
    go_wp2_with fail
    go_ret2
    exact ⟨HFW.out, Or.inr (Or.inl ⟨HJ.out, rfl⟩)⟩
  | false =>
  have HJ := toHid11 (HJ4.out (by simp) (by simp) (by simp))
  clear HJ3 HJ4
  have HFW := HW6
  obtain ⟨x0, x1, x2, x3, x4, x5, x6⟩ := HB6.out.1.cells
  obtain ⟨y0, y1, y2, y3, y4, y5, y6⟩ := HB6.out.2.cells
  have xz := HB6.out.1.frozen
  have q5 := HEq.out w6 HW6.out
  have q6 := Path.apart_any P T' w6
  have HAp := toHid11 (show Path.apart P.data.toList T'.data.toList = apP P T' from rfl)
  rw [HAp.out] at q6
  clear HEq HAp
  by_cases hK : K = K'
  case neg =>
    have z1 : (K == K') = false := beq_eq_false_iff_ne.2 hK
    have HN1 := toHid11 (show joinP ⟨K, P, T, F, A, lO, lN⟩ ⟨K', P', T', F', A', mO, mN⟩ = none from HJ.out.trans (if_pos hK))
    clear hK HJ q5 q6
    go_wp2_with fail
    go_ret2
    exact ⟨HFW.out, Or.inl ⟨HN1.out, rfl⟩⟩
  case pos =>
  subst hK
  have HJ := toHid11 (HJ.out.trans (if_neg (by simp)))
  by_cases h9 : K = 9
  · subst h9
    by_cases hP : P = P'
    case neg =>
      obtain ⟨z1, z2⟩ := Lines.str_no hP
      have HN1 := toHid11 (show joinP ⟨9, P, T, F, A, lO, lN⟩ ⟨9, P', T', F', A', mO, mN⟩ = none from HJ.out.trans (by simp [hP]))
      clear hP q5 q6 HJ
      go_wp2_with fail
      go_ret2
      exact ⟨HFW.out, Or.inl ⟨HN1.out, rfl⟩⟩
    case pos =>
    subst hP
    by_cases hT : T = F'
    case neg =>
      obtain ⟨z1, z2⟩ := Lines.str_no hT
      have HN1 := toHid11 (show joinP ⟨9, P, T, F, A, lO, lN⟩ ⟨9, P, T', F', A', mO, mN⟩ = none from HJ.out.trans (by simp [hT]))
      clear hT q5 q6 HJ
      go_wp2_with fail
      go_ret2
      exact ⟨HFW.out, Or.inl ⟨HN1.out, rfl⟩⟩
    case pos =>
    subst hT
    have HY := toHid11 (show joinP ⟨9, P, T, F, A, lO, lN⟩ ⟨9, P, T', T, A', mO, mN⟩ = some [⟨9, P, T', F, A, lO, lN⟩] from HJ.out.trans (by simp))
    clear HJ q5 q6
    have HZ := toHid11 (show Fr None' w (w6.setCell ⟨w.heap.size, 2, none⟩ (.string T')) ∧ (w6.setCell ⟨w.heap.size, 2, none⟩ (.string T')).heap.size = w6.heap.size ∧ w.heap.size ≤ w6.heap.size from ⟨HW6.out.trans (Fr.setQ _ _ _ _) (fun i e => Or.inr (by omega)), by simp [World.setCell], HW6.out.size⟩)
    go_wp2_with fail
    go_ret2
    exact ⟨HZ.out.1.then7 (Fr.alloc _ _ _), Or.inr (Or.inr ⟨_, w6.heap.size, _, HY.out, rfl, Box.new10 HZ.out.2.1 _ _ _ _ _ _ _, rfl, Or.inl ⟨rfl, rfl⟩, HZ.out.2.2⟩)⟩
  by_cases h7 : K = 7
  · subst h7
    by_cases hP : P = P'
    case neg =>
      obtain ⟨z1, z2⟩ := Lines.str_no hP
      have HN1 := toHid11 (show joinP ⟨7, P, T, F, A, lO, lN⟩ ⟨7, P', T', F', A', mO, mN⟩ = none from HJ.out.trans (by simp [hP]))
      clear hP q5 q6 HJ
      go_wp2_with fail
      go_ret2
      exact ⟨HFW.out, Or.inl ⟨HN1.out, rfl⟩⟩
    case pos =>
    subst hP
    by_cases hA : A = A'
    case neg =>
      have z1 : (A == A') = false := beq_eq_false_iff_ne.2 hA
      have HN1 := toHid11 (show joinP ⟨7, P, T, F, A, lO, lN⟩ ⟨7, P, T', F', A', mO, mN⟩ = none from HJ.out.trans (by simp [hA]))
      clear hA q5 q6 HJ
      go_wp2_with fail
      go_ret2
      exact ⟨HFW.out, Or.inl ⟨HN1.out, rfl⟩⟩
    case pos =>
    subst hA
    have HD := toHid11 (show joinP ⟨7, P, T, F, A, lO, lN⟩ ⟨7, P, T', F', A, mO, mN⟩ = if lN = mO then some [⟨7, P, T, F, A, lO, mN⟩] else none from HJ.out.trans (by simp))
    obtain ⟨R, hR⟩ : ∃ R, decide (lN = mO) = R := ⟨_, rfl⟩
    have HR := toHid11 hR
    rw [hR] at q5
    clear HJ q6 hR
    go_wp2_with fail
    with_reducible refine q5.mono ?_
    rintro e w7 ⟨rfl, f7⟩
    have HW7 := toHid11 (HW6.out.then7 f7)
    have HB7 := toHid11 (show Box w7 w.heap.size (.int .i64 7) (.string P) (.string T) (.string F) (.int .i64 A) (.slice pa no ca) (.slice pb nn cb) ∧ Box w7 w1.heap.size (.int .i64 7) (.string P) (.string T') (.string F') (.int .i64 A) (.slice qa mo da) (.slice qb mn db) from ⟨HB6.out.1.kept f7, HB6.out.2.kept f7⟩)
    clear q5 f7 x0 x1 x2 x3 x4 x5 x6 y0 y1 y2 y3 y4 y5 y6 xz
    obtain ⟨x0, x1, x2, x3, x4, x5, x6⟩ := HB7.out.1.cells
    obtain ⟨y0, y1, y2, y3, y4, y5, y6⟩ := HB7.out.2.cells
    have xz := HB7.out.1.frozen
    cases R with
    | false =>
      have HN1 := toHid11 (HD.out.trans (if_neg (of_decide_eq_false HR.out)))
      clear HD HR
      go_wp2_with fail
      go_ret2
      exact ⟨HW7.out, Or.inl ⟨HN1.out, rfl⟩⟩
    | true =>
      have HY := toHid11 (HD.out.trans (if_pos (of_decide_eq_true HR.out)))
      clear HD HR
      have HZ := toHid11 (show Fr None' w (w7.setCell ⟨w.heap.size, 6, none⟩ (.slice qb mn db)) ∧ (w7.setCell ⟨w.heap.size, 6, none⟩ (.slice qb mn db)).heap.size = w7.heap.size ∧ w.heap.size ≤ w7.heap.size from ⟨HW7.out.trans (Fr.setQ _ _ _ _) (fun i e => Or.inr (by omega)), by simp [World.setCell], HW7.out.size⟩)
      go_wp2_with fail
      go_ret2
      exact ⟨HZ.out.1.then7 (Fr.alloc _ _ _), Or.inr (Or.inr ⟨_, w7.heap.size, _, HY.out, rfl, Box.new10 HZ.out.2.1 _ _ _ _ _ _ _, rfl, Or.inr ⟨rfl, rfl⟩, HZ.out.2.2⟩)⟩
  by_cases h10 : K = 10
  · subst h10
    by_cases hP : T = P'
    case neg =>
      obtain ⟨z1, z2⟩ := Lines.str_no hP
      have HN1 := toHid11 (show joinP ⟨10, P, T, F, A, lO, lN⟩ ⟨10, P', T', F', A', mO, mN⟩ = none from HJ.out.trans (by simp [hP]))
      clear hP q5 q6 HJ
      go_wp2_with fail
      go_ret2
      exact ⟨HFW.out, Or.inl ⟨HN1.out, rfl⟩⟩
    case pos =>
    subst hP
    have HD := toHid11 (show joinP ⟨10, P, T, F, A, lO, lN⟩ ⟨10, T, T', F', A', mO, mN⟩ = if apP P T' = true then some [⟨10, P, T', F, A, lO, lN⟩] else none from HJ.out.trans (by simp))
    obtain ⟨R, hR⟩ : ∃ R, apP P T' = R := ⟨_, rfl⟩
    rw [hR] at HD q6
    clear HJ q5 hR
    go_wp2_with fail
    with_reducible refine q6.mono ?_
    rintro e w7 ⟨rfl, rfl⟩
    clear q6
    cases R with
    | false =>
      have HN1 := toHid11 (HD.out.trans (if_neg (by simp)))
      clear HD
      go_wp2_with fail
      go_ret2
      exact ⟨HFW.out, Or.inl ⟨HN1.out, rfl⟩⟩
    | true =>
      have HY := toHid11 (HD.out.trans (if_pos rfl))
      clear HD
      have HZ := toHid11 (show Fr None' w (w6.setCell ⟨w.heap.size, 2, none⟩ (.string T')) ∧ (w6.setCell ⟨w.heap.size, 2, none⟩ (.string T')).heap.size = w6.heap.size ∧ w.heap.size ≤ w6.heap.size from ⟨HW6.out.trans (Fr.setQ _ _ _ _) (fun i e => Or.inr (by omega)), by simp [World.setCell], HW6.out.size⟩)
      go_wp2_with fail
      go_ret2
      exact ⟨HZ.out.1.then7 (Fr.alloc _ _ _), Or.inr (Or.inr ⟨_, w6.heap.size, _, HY.out, rfl, Box.new10 HZ.out.2.1 _ _ _ _ _ _ _, rfl, Or.inl ⟨rfl, rfl⟩, HZ.out.2.2⟩)⟩
  have z1 : (K == 9) = false := beq_eq_false_iff_ne.2 h9
  have z2 : (K == 7) = false := beq_eq_false_iff_ne.2 h7
  have z3 : (K == 10) = false := beq_eq_false_iff_ne.2 h10
  have HN1 := toHid11 (show joinP ⟨K, P, T, F, A, lO, lN⟩ ⟨K, P', T', F', A', mO, mN⟩ = none from HJ.out.trans (by simp [h9, h7, h10]))
  clear h9 h7 h10 q5 q6 HJ
  go_wp2_with fail
  go_ret2
  exact ⟨HFW.out, Or.inl ⟨HN1.out, rfl⟩⟩

end Go.Proofs.YtpfkkpghgmmijaaGreatDoor
