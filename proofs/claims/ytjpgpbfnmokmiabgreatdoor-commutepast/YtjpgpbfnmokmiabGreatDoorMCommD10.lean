/-
  What is proved here: laws for regions whose ends are told, and for boxes; what Commute hands back. No condition.
-/
import Derived.Test.YtjpgpbfnmokmiabGreatDoorMRuleOf10
import Derived.Test.YtjpgpbfnmokmiabGreatDoorM23RFindE
import Derived.Test.YtjpgpbfnmokmiabGreatDoorMCopy10
namespace Go.Proofs.YtjpgpbfnmokmiabGreatDoor
open Go.RowKit
set_option maxRecDepth 100000

/-- Nothing but the normal end. -/
def OnlyN (G : Act → World → Prop) : Exit → Act → World → Prop
  | .normal => G
  | _ => fun _ _ => False

/-- A region whose ends are told. -/
theorem region_told {P : Program} {id : Nat} {ops : Array Oper} {Q : Exit → Act → World → Prop} {a : Act} {w : World} (G : Act → World → Prop) (h : (Code.region id ops true).wp P (OnlyN G) a w) (hn : ∀ a' w', G a' w' → Q .normal a' w') : (Code.region id ops true).wp P Q a w := by
  refine wp_mono h ?_
  intro e a' w' he
  cases e <;> first | exact he.elim | exact hn _ _ he

theorem alloc10 {w W : World} (h : Fr None' w W) (o : Obj) : Fr None' w (W.alloc o) := h.then7 (Fr.alloc None' _ _)
theorem drew10 {w W : World} (h : Fr None' w W) : Fr None' w W.drew := h.then7 (Fr.drew None' _)
theorem set10 {w W : World} (h : Fr None' w W) {b : Nat} (hb : w.heap.size ≤ b) (y0 y1 y2 y3 y4 y5 y6 : Value) : Fr None' w (setP W b y0 y1 y2 y3 y4 y5 y6) := h.trans (Fr.setP (M := fun k => k = b) W rfl _ _ _ _ _ _ _) (fun _ e => Or.inr (by omega))
theorem Box.new10 {V : World} {b : Nat} (hb : V.heap.size = b) (y0 y1 y2 y3 y4 y5 y6 : Value) : Box (V.alloc (.cells #[y0, y1, y2, y3, y4, y5, y6] 32)) b y0 y1 y2 y3 y4 y5 y6 := hb ▸ Box.new V _ _ _ _ _ _ _
theorem Box.alloc10 {V : World} {b : Nat} {y0 y1 y2 y3 y4 y5 y6 : Value} (h : Box V b y0 y1 y2 y3 y4 y5 y6) (o : Obj) : Box (V.alloc o) b y0 y1 y2 y3 y4 y5 y6 := h.kept (Fr.alloc None' _ _)

theorem all10 {V : World} {b : Nat} (h : Box V b (.int .i64 0) (.string ⟨#[]⟩) (.string ⟨#[]⟩) (.string ⟨#[]⟩) (.int .i64 0) (.slice none 0 0) (.slice none 0 0)) (y0 y1 y2 y3 y4 y5 y6 : Value) : Box (setP V b y0 y1 y2 y3 y4 y5 y6) b y0 y1 y2 y3 y4 y5 y6 := h.all _ _ _ _ _ _ _
theorem far10 {V : World} {b c : Nat} {y0 y1 y2 y3 y4 y5 y6 : Value} (h : Box V b y0 y1 y2 y3 y4 y5 y6) (hne : ¬ b = c) (z0 z1 z2 z3 z4 z5 z6 : Value) : Box (setP V c z0 z1 z2 z3 z4 z5 z6) b y0 y1 y2 y3 y4 y5 y6 := h.fr (Fr.setP (M := fun k => k = c) _ rfl _ _ _ _ _ _ _) hne

theorem copied_c (x : Pr) (vo vn : Value) (w : World) (ho : StrsAt w vo x.old) (hn : StrsAt w vn x.new) (lo : x.old.length ≤ 900000) (ln : x.new.length ≤ 900000) :
    Calls Tryz.prog 36 #[.agg #[.int .i64 x.kind, .string x.path, .string x.dst, .string x.src, .int .i64 x.pos, vo, vn]] w fun e w' => ∃ (po : Option Addr) (co : Nat) (pn : Option Addr) (cn : Nat), e = .returned (.agg #[.int .i64 x.kind, .string x.path, .string x.dst, .string x.src, .int .i64 x.pos, .slice po x.old.length co, .slice pn x.new.length cn]) ∧ Hid ((StrsAt w' (.slice po x.old.length co) x.old ∧ StrsAt w' (.slice pn x.new.length cn) x.new) ∧ (∀ k, (Value.slice po x.old.length co).ownBlock = some k → w.heap.size ≤ k) ∧ ∀ k, (Value.slice pn x.new.length cn).ownBlock = some k → w.heap.size ≤ k) ∧ Fr None' w w' := by
  refine (copied_any x vo vn w ho hn lo ln).mono ?_
  rintro e w' ⟨v, rfl, ⟨vo1, vn1, rfl, s1, s2, g1, g2⟩, f⟩
  obtain ⟨po, co, rfl⟩ := s1.as2
  obtain ⟨pn, cn, rfl⟩ := s2.as2
  exact ⟨po, co, pn, cn, rfl, ⟨⟨s1, s2⟩, g1, g2⟩, f⟩

/-- What Commute hands back. -/
def CommPost (x y : Pr) (w : World) (e : Ending) (w' : World) : Prop := ∃ va vb, e = .returned (.tuple #[va, vb, .bool (commP x y).2.2]) ∧ PrNew w w' va (commP x y).1 ∧ PrNew w w' vb (commP x y).2.1 ∧ Fr None' w w'

theorem zero_new (w w' : World) : PrNew w w' (.agg #[.int .i64 0, .string ⟨#[]⟩, .string ⟨#[]⟩, .string ⟨#[]⟩, .int .i64 0, .slice none 0 0, .slice none 0 0]) zeroP := ⟨_, _, rfl, ⟨none, 0, rfl, fun _ => rfl, Nat.le_refl _, Lines.Row.nil _ _⟩, ⟨none, 0, rfl, fun _ => rfl, Nat.le_refl _, Lines.Row.nil _ _⟩, (fun k e => by cases e), (fun k e => by cases e)⟩

theorem post_none {x y : Pr} {w w' : World} (h : commP x y = noneC) (f : Fr None' w w') : CommPost x y w (.returned (.tuple #[.agg #[.int .i64 0, .string ⟨#[]⟩, .string ⟨#[]⟩, .string ⟨#[]⟩, .int .i64 0, .slice none 0 0, .slice none 0 0], .agg #[.int .i64 0, .string ⟨#[]⟩, .string ⟨#[]⟩, .string ⟨#[]⟩, .int .i64 0, .slice none 0 0, .slice none 0 0], .bool false])) w' := by
  unfold CommPost
  rw [h]
  exact ⟨_, _, rfl, zero_new _ _, zero_new _ _, f⟩

/-- What Commute answers, of all patches of bounded size. -/
def CommuteAll : Prop := ∀ (x y : Pr) (vo vn uo un : Value) (w : World), StrsAt w vo x.old → StrsAt w vn x.new → StrsAt w uo y.old → StrsAt w un y.new → SmallP x → SmallP y → Calls Tryz.prog 21 #[.agg #[.int .i64 x.kind, .string x.path, .string x.dst, .string x.src, .int .i64 x.pos, vo, vn], .agg #[.int .i64 y.kind, .string y.path, .string y.dst, .string y.src, .int .i64 y.pos, uo, un]] w fun e w' => CommPost x y w e w'

end Go.Proofs.YtjpgpbfnmokmiabGreatDoor
