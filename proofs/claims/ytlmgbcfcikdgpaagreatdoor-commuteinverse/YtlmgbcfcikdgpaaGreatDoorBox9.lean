/-
  What is proved here: a box that holds a patch: its cells, how one of them is set, how it is set and read as a whole. No condition.
-/
import Derived.Test.YtlmgbcfcikdgpaaGreatDoorPrims
import Derived.Laws.ResultCell
namespace Go.Proofs.YtlmgbcfcikdgpaaGreatDoor
open Go.RowKit
set_option maxRecDepth 100000

/-- The seven cells of a patch's box. -/
def Box (w : World) (b : Nat) (y0 y1 y2 y3 y4 y5 y6 : Value) : Prop := w.heap[b]? = some (.cells #[y0, y1, y2, y3, y4, y5, y6] 24)

theorem Box.new (w : World) (y0 y1 y2 y3 y4 y5 y6 : Value) : Box (w.alloc (.cells #[y0, y1, y2, y3, y4, y5, y6] 24)) w.heap.size y0 y1 y2 y3 y4 y5 y6 := heap_alloc_new w _

theorem Box.fr {M : Nat → Prop} {w w' : World} {b : Nat} {y0 y1 y2 y3 y4 y5 y6 : Value} (h : Box w b y0 y1 y2 y3 y4 y5 y6) (f : Fr M w w') (hm : ¬ M b) : Box w' b y0 y1 y2 y3 y4 y5 y6 := f.at h hm

theorem Box.kept {w w' : World} {b : Nat} {y0 y1 y2 y3 y4 y5 y6 : Value} (h : Box w b y0 y1 y2 y3 y4 y5 y6) (f : Fr None' w w') : Box w' b y0 y1 y2 y3 y4 y5 y6 := h.fr f (fun e => e)

theorem Box.cells {w : World} {b : Nat} {y0 y1 y2 y3 y4 y5 y6 : Value} (h : Box w b y0 y1 y2 y3 y4 y5 y6) : w.cell? ⟨b, 0, none⟩ = some y0 ∧ w.cell? ⟨b, 1, none⟩ = some y1 ∧ w.cell? ⟨b, 2, none⟩ = some y2 ∧ w.cell? ⟨b, 3, none⟩ = some y3 ∧ w.cell? ⟨b, 4, none⟩ = some y4 ∧ w.cell? ⟨b, 5, none⟩ = some y5 ∧ w.cell? ⟨b, 6, none⟩ = some y6 := by
  unfold Box at h
  refine ⟨?_, ?_, ?_, ?_, ?_, ?_, ?_⟩ <;> (rw [World.cell?, h]; rfl)

theorem Box.frozen {w : World} {b : Nat} {y0 y1 y2 y3 y4 y5 y6 : Value} (h : Box w b y0 y1 y2 y3 y4 y5 y6) (o : Nat) : w.frozen? ⟨b, o, none⟩ = false := by
  unfold Box at h
  unfold World.frozen?
  rw [h]
  simp

theorem Box.lt {w : World} {b : Nat} {y0 y1 y2 y3 y4 y5 y6 : Value} (h : Box w b y0 y1 y2 y3 y4 y5 y6) : b < w.heap.size := (Array.getElem?_eq_some_iff.1 h).1

theorem Box.set0 {w : World} {b : Nat} {y0 y1 y2 y3 y4 y5 y6 : Value} (h : Box w b y0 y1 y2 y3 y4 y5 y6) (v : Value) : Box (w.setCell ⟨b, 0, none⟩ v) b v y1 y2 y3 y4 y5 y6 := by
  have := Go.heap_setCell_same w b 0 _ _ v h
  unfold Box
  simpa using this
theorem Box.set1 {w : World} {b : Nat} {y0 y1 y2 y3 y4 y5 y6 : Value} (h : Box w b y0 y1 y2 y3 y4 y5 y6) (v : Value) : Box (w.setCell ⟨b, 1, none⟩ v) b y0 v y2 y3 y4 y5 y6 := by
  have := Go.heap_setCell_same w b 1 _ _ v h
  unfold Box
  simpa using this
theorem Box.set2 {w : World} {b : Nat} {y0 y1 y2 y3 y4 y5 y6 : Value} (h : Box w b y0 y1 y2 y3 y4 y5 y6) (v : Value) : Box (w.setCell ⟨b, 2, none⟩ v) b y0 y1 v y3 y4 y5 y6 := by
  have := Go.heap_setCell_same w b 2 _ _ v h
  unfold Box
  simpa using this
theorem Box.set3 {w : World} {b : Nat} {y0 y1 y2 y3 y4 y5 y6 : Value} (h : Box w b y0 y1 y2 y3 y4 y5 y6) (v : Value) : Box (w.setCell ⟨b, 3, none⟩ v) b y0 y1 y2 v y4 y5 y6 := by
  have := Go.heap_setCell_same w b 3 _ _ v h
  unfold Box
  simpa using this
theorem Box.set4 {w : World} {b : Nat} {y0 y1 y2 y3 y4 y5 y6 : Value} (h : Box w b y0 y1 y2 y3 y4 y5 y6) (v : Value) : Box (w.setCell ⟨b, 4, none⟩ v) b y0 y1 y2 y3 v y5 y6 := by
  have := Go.heap_setCell_same w b 4 _ _ v h
  unfold Box
  simpa using this
theorem Box.set5 {w : World} {b : Nat} {y0 y1 y2 y3 y4 y5 y6 : Value} (h : Box w b y0 y1 y2 y3 y4 y5 y6) (v : Value) : Box (w.setCell ⟨b, 5, none⟩ v) b y0 y1 y2 y3 y4 v y6 := by
  have := Go.heap_setCell_same w b 5 _ _ v h
  unfold Box
  simpa using this
theorem Box.set6 {w : World} {b : Nat} {y0 y1 y2 y3 y4 y5 y6 : Value} (h : Box w b y0 y1 y2 y3 y4 y5 y6) (v : Value) : Box (w.setCell ⟨b, 6, none⟩ v) b y0 y1 y2 y3 y4 y5 v := by
  have := Go.heap_setCell_same w b 6 _ _ v h
  unfold Box
  simpa using this

/-- The whole of a box is set. -/
@[reducible] def setP (w : World) (b : Nat) (y0 y1 y2 y3 y4 y5 y6 : Value) : World := ((((((w.setCell ⟨b, 0, none⟩ y0).setCell ⟨b, 1, none⟩ y1).setCell ⟨b, 2, none⟩ y2).setCell ⟨b, 3, none⟩ y3).setCell ⟨b, 4, none⟩ y4).setCell ⟨b, 5, none⟩ y5).setCell ⟨b, 6, none⟩ y6

theorem Box.all {w : World} {b : Nat} {x0 x1 x2 x3 x4 x5 x6 : Value} (h : Box w b x0 x1 x2 x3 x4 x5 x6) (y0 y1 y2 y3 y4 y5 y6 : Value) : Box (setP w b y0 y1 y2 y3 y4 y5 y6) b y0 y1 y2 y3 y4 y5 y6 :=
  ((((((h.set0 y0).set1 y1).set2 y2).set3 y3).set4 y4).set5 y5).set6 y6

theorem Fr.setP {M : Nat → Prop} (w : World) {b : Nat} (hb : M b) (y0 y1 y2 y3 y4 y5 y6 : Value) : Fr M w (setP w b y0 y1 y2 y3 y4 y5 y6) :=
  ((((((Fr.setCell w (a := ⟨b, 0, none⟩) hb y0).then (Fr.setCell _ (a := ⟨b, 1, none⟩) hb y1)).then (Fr.setCell _ (a := ⟨b, 2, none⟩) hb y2)).then (Fr.setCell _ (a := ⟨b, 3, none⟩) hb y3)).then (Fr.setCell _ (a := ⟨b, 4, none⟩) hb y4)).then (Fr.setCell _ (a := ⟨b, 5, none⟩) hb y5)).then (Fr.setCell _ (a := ⟨b, 6, none⟩) hb y6)

theorem Fr.setQ (w : World) (q o : Nat) (u : Value) : Fr (fun k => k = q) w (w.setCell ⟨q, o, none⟩ u) := Fr.setCell (M := fun k => k = q) w (a := ⟨q, o, none⟩) rfl u

/-- The answer's box is set. -/
theorem fin9 {w w3 W : World} {b q : Nat} {x0 x1 x2 x3 x4 x5 x6 : Value} (hf : Fr None' w w3) (hb : Box w3 b x0 x1 x2 x3 x4 x5 x6) (f : Fr (fun k => k = q) w3 W) (hbq : ¬ b = q) (hwb : w.heap.size ≤ b) (hwq : w.heap.size ≤ q) (y0 y1 y2 y3 y4 y5 y6 : Value) :
    Box (setP W b y0 y1 y2 y3 y4 y5 y6) b y0 y1 y2 y3 y4 y5 y6 ∧ Fr None' w (setP W b y0 y1 y2 y3 y4 y5 y6) :=
  ⟨(hb.fr f hbq).all _ _ _ _ _ _ _, (hf.trans f (fun _ e => Or.inr (by omega))).trans (Fr.setP (M := fun k => k = b) W rfl _ _ _ _ _ _ _) (fun _ e => Or.inr (by omega))⟩

theorem Box.load {w : World} {b : Nat} {y0 y1 y2 y3 y4 y5 y6 : Value} (h : Box w b y0 y1 y2 y3 y4 y5 y6) : (loadVar 24 ⟨b, 0, none⟩).run Tryz.prog w = .ok (.agg #[y0, y1, y2, y3, y4, y5, y6]) w :=
  run_loadVar_row w b 24 24 _ (0, 0) _ h Tryz.underlying24 rfl (by kernel_rfl)

/-- A patch is answered. -/
theorem ret_box {fn : Func} {p : Tmp} (hres : fn.results = #[.cell p 24]) {Q : Ending → World → Prop} {a : Act} {w : World} {b : Nat} {y0 y1 y2 y3 y4 y5 y6 : Value} (hd : a.defers = []) (hp : a.tmps.getD p undef = .pointer (some ⟨b, 0, none⟩)) (h : Box w b y0 y1 y2 y3 y4 y5 y6) (hq : Q (.returned (.agg #[y0, y1, y2, y3, y4, y5, y6])) w) : bodyPost Tryz.prog fn Q .ret a w :=
  bodyPost_ret (results_cell_row hres _ _ b 24 _ (0, 0) _ hp h Tryz.underlying24 rfl (by kernel_rfl)) hd hq

end Go.Proofs.YtlmgbcfcikdgpaaGreatDoor
