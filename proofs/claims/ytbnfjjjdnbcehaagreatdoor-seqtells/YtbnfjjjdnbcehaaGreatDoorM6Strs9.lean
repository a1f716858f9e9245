/- What is proved here: contracts that SeqTells stands on. Conditions: as each theorem names them. -/
import Derived.Test.YtbnfjjjdnbcehaaGreatDoorM1Base
import Derived.Test.YtbnfjjjdnbcehaaGreatDoorM5LStrs
import Derived.Laws.ResultCell
import Derived.Deep.AppendLies
import Derived.Maps.AppendAt
import Derived.Laws.OwnMore
import Derived.Test.YtbnfjjjdnbcehaaGreatDoorM2PBase
import Derived.Test.YtbnfjjjdnbcehaaGreatDoorM3LPlain
import Derived.Deep.QuietTactic
set_option maxHeartbeats 16000000
namespace Go.Proofs.YtbnfjjjdnbcehaaGreatDoor
open Go.RowKit
set_option maxRecDepth 100000
theorem toL {M : Nat → Prop} {w w' : World} (h : Fr M w w') : Lines.Fr M w w' := ⟨h.os, h.tape, h.output, h.size, h.block⟩
theorem ofL {M : Nat → Prop} {w w' : World} (h : Lines.Fr M w w') : Fr M w w' := ⟨h.os, h.tape, h.output, h.size, h.block⟩
theorem ofLN {w w' : World} (h : Lines.Fr Lines.None' w w') : Fr None' w w' := ofL (M := Lines.None') h |>.mono (fun _ e => e)
theorem toLN {w w' : World} (h : Fr None' w w') : Lines.Fr Lines.None' w w' := toL (h.mono (fun _ e => e))
theorem ofBelow {w w' : World} (h : Below w.heap.size w w') : Fr None' w w' := ⟨h.os, h.tape, h.output, h.size, fun k hk _ => h.block k hk⟩
theorem Fr.keepCell {M : Nat → Prop} {w w' : World} (h : Fr M w w') {a : Addr} {v : Value} (hc : w.cell? a = some v) (hm : ¬ M a.block) : w'.cell? a = some v := (toL h).cell hc hm
theorem Fr.then7 {a b c : World} (h : Fr None' a b) (k : Fr None' b c) : Fr None' a c := h.trans k (fun _ e => Or.inl e)
theorem Fr.drew (M : Nat → Prop) (w : World) : Fr M w w.drew := ⟨rfl, rfl, rfl, Nat.le_refl _, fun _ _ _ => rfl⟩
def Zv (w : World) (v : Value) (l : List ByteArray) : Prop := ∃ va c, v = .slice va l.length c ∧ (va = none → c = 0) ∧ l.length ≤ c ∧ Lines.Row w va l
theorem Zv.fr {M : Nat → Prop} {w w' : World} {v : Value} {l : List ByteArray} (h : Zv w v l) (f : Fr M w w') (hm : ∀ k, v.ownBlock = some k → ¬ M k) : Zv w' v l := by
 obtain ⟨va, c, rfl, h1, h2, h3⟩ := h
 refine ⟨va, c, rfl, h1, h2, fun j x hj => ?_⟩
 obtain ⟨g, o, e, hc⟩ := h3 j x hj
 exact ⟨g, o, e, f.keepCell hc (hm g (by rw [e]; rfl))⟩
theorem Zv.kept {w w' : World} {v : Value} {l : List ByteArray} (h : Zv w v l) (f : Fr None' w w') : Zv w' v l := h.fr f (fun _ _ e => e)
theorem Zv.lt {w : World} {v : Value} {l : List ByteArray} (h : Zv w v l) (hl : l ≠ []) {k : Nat} (hk : v.ownBlock = some k) : k < w.heap.size := by
 obtain ⟨va, c, rfl, h1, h2, h3⟩ := h
 cases l with
 | nil => exact absurd rfl hl
 | cons x l =>
  obtain ⟨g, o, e, hc⟩ := h3 0 x rfl
  subst e
  cases hk
  exact cell_lt hc
theorem Zv.far {M : Nat → Prop} {w w' : World} {v : Value} {l : List ByteArray} (h : Zv w v l) (f : Fr M w w') (hm : l ≠ [] → ∀ k, v.ownBlock = some k → ¬ M k) : Zv w' v l := by
 by_cases hl : l = []
 ·subst hl
  obtain ⟨va, c, rfl, h1, h2, h3⟩ := h
  exact ⟨va, c, rfl, h1, h2, Lines.Row.nil _ _⟩
 ·exact h.fr f (hm hl)
theorem own_strs {base : Nat} {w : World} {v : Value} {l : List ByteArray} (h : w.ownsRow base 9 1 v l.length (l.map Value.string)) : Zv w v l := by
 rcases h.2 with ⟨hv, h0⟩ | ⟨g, cap, cur, hv, hb, hh, hc, _, hs, ht⟩
 ·have e : l = [] := List.length_eq_zero_iff.1 h0
  subst e
  exact ⟨none, 0, hv, fun _ => rfl, Nat.le_refl _, Lines.Row.nil _ _⟩
 ·refine ⟨_, cap, hv, fun e => by simp at e, hc, fun j x hj => ⟨g, 0, rfl, ?_⟩⟩
  have hlt := (List.getElem?_eq_some_iff.1 hj).1
  have h1 : (l.map Value.string)[j]? = some (.string x) := by rw [List.getElem?_map, hj]; rfl
  rw [← ht, List.getElem?_take, if_pos (by omega)] at h1
  rw [World.cell?, Nat.zero_add, hh]
  simpa using h1
theorem own_ge {base n : Nat} {w : World} {e : TypeId} {v : Value} {xs : List Value} (h : w.ownsRow base e 1 v n xs) {k : Nat} (hk : v.ownBlock = some k) : base ≤ k := by
 rcases h.2 with ⟨hv, _⟩ | ⟨g, cap, cur, hv, hb, _⟩
 ·rw [hv] at hk; cases hk
 ·rw [hv] at hk; cases hk; exact hb
theorem sizes_step {l : List ByteArray} {k : Nat} (hk : k < l.length) : ((l.take (k + 1)).map (·.size)).sum = ((l.take k).map (·.size)).sum + l[k].size := by
 rw [List.take_succ_eq_append_getElem hk, List.map_append, List.sum_append]
 simp
theorem Yl {a b : Bool} (h : a = b) : Ending.returned (.bool a) = .returned (.bool b) := by rw [h]
end Go.Proofs.YtbnfjjjdnbcehaaGreatDoor
namespace Go.Proofs.YtbnfjjjdnbcehaaGreatDoor
open Go.RowKit
set_option maxRecDepth 100000
structure Pr where
 kind : Int
 path : ByteArray
 dst : ByteArray
 src : ByteArray
 pos : Int
 old : List ByteArray
 new : List ByteArray
def Yr : Pr := ⟨0, ⟨#[]⟩, ⟨#[]⟩, ⟨#[]⟩, 0, [], []⟩
def inv (x : Pr) : Pr :=
 if x.kind = 1 ∨ x.kind = 3 ∨ x.kind = 5 then { x with kind := x.kind + 1 }
 else if x.kind = 2 ∨ x.kind = 4 ∨ x.kind = 6 then { x with kind := x.kind - 1 }
 else if x.kind = 7 then { x with old := x.new, new := x.old }
 else if x.kind = 8 ∨ x.kind = 9 then { x with dst := x.src, src := x.dst }
 else if x.kind = 10 then { x with path := x.dst, dst := x.path }
 else Yr
def Pr.weight (x : Pr) : Nat := x.path.size + x.dst.size + x.src.size + x.old.length + x.new.length + (x.old.map (·.size)).sum + (x.new.map (·.size)).sum
def prCells (x : Pr) (vo vn : Value) : List Value := [.int .i64 x.kind, .string x.path, .string x.dst, .string x.src, .int .i64 x.pos, vo, vn]
def Yf (w : World) (v : Value) (x : Pr) : Prop := ∃ vo vn, v = .agg #[.int .i64 x.kind, .string x.path, .string x.dst, .string x.src, .int .i64 x.pos, vo, vn] ∧ Zv w vo x.old ∧ Zv w vn x.new
theorem Yf.kept {w w' : World} {v : Value} {x : Pr} (h : Yf w v x) (f : Fr None' w w') : Yf w' v x := by
 obtain ⟨vo, vn, e, h1, h2⟩ := h
 exact ⟨vo, vn, e, h1.kept f, h2.kept f⟩
def PrNew (w0 w : World) (v : Value) (x : Pr) : Prop := ∃ vo vn, v = .agg #[.int .i64 x.kind, .string x.path, .string x.dst, .string x.src, .int .i64 x.pos, vo, vn] ∧ Zv w vo x.old ∧ Zv w vn x.new ∧ (∀ k, vo.ownBlock = some k → w0.heap.size ≤ k) ∧ ∀ k, vn.ownBlock = some k → w0.heap.size ≤ k
theorem PrNew.val {w0 w : World} {v : Value} {x : Pr} (h : PrNew w0 w v x) : Yf w v x := by
 obtain ⟨vo, vn, e, h1, h2, _⟩ := h
 exact ⟨vo, vn, e, h1, h2⟩
def PrAt (w : World) (g o : Nat) (x : Pr) : Prop := ∃ vo vn, w.cell? ⟨g, o, none⟩ = some (.int .i64 x.kind) ∧ w.cell? ⟨g, o + 1, none⟩ = some (.string x.path) ∧ w.cell? ⟨g, o + 2, none⟩ = some (.string x.dst) ∧ w.cell? ⟨g, o + 3, none⟩ = some (.string x.src) ∧ w.cell? ⟨g, o + 4, none⟩ = some (.int .i64 x.pos) ∧ w.cell? ⟨g, o + 5, none⟩ = some vo ∧ w.cell? ⟨g, o + 6, none⟩ = some vn ∧ Zv w vo x.old ∧ Zv w vn x.new
theorem PrAt.kept {w w' : World} {g o : Nat} {x : Pr} (h : PrAt w g o x) (f : Fr None' w w') : PrAt w' g o x := by
 obtain ⟨vo, vn, h0, h1, h2, h3, h4, h5, h6, h7, h8⟩ := h
 exact ⟨vo, vn, f.keepCell h0 (fun e => e), f.keepCell h1 (fun e => e), f.keepCell h2 (fun e => e), f.keepCell h3 (fun e => e), f.keepCell h4 (fun e => e), f.keepCell h5 (fun e => e), f.keepCell h6 (fun e => e), h7.kept f, h8.kept f⟩
def Zc (w : World) (va : Option Addr) (L : List Pr) : Prop := ∀ k x, L[k]? = some x → ∃ g o, va = some ⟨g, o, none⟩ ∧ PrAt w g (o + k * 7) x
theorem Zc.kept {w w' : World} {va : Option Addr} {L : List Pr} (h : Zc w va L) (f : Fr None' w w') : Zc w' va L := fun k x hk => by
 obtain ⟨g, o, e, h1⟩ := h k x hk
 exact ⟨g, o, e, h1.kept f⟩
theorem Zc.get {w : World} {va : Option Addr} {L : List Pr} (h : Zc w va L) {k : Nat} (hk : k < L.length) : ∃ g o, va = some ⟨g, o, none⟩ ∧ PrAt w g (o + k * 7) L[k] := h k _ (List.getElem?_eq_getElem hk)
end Go.Proofs.YtbnfjjjdnbcehaaGreatDoor
namespace Go.Proofs.YtbnfjjjdnbcehaaGreatDoor
open Go.RowKit
set_option maxRecDepth 100000
def Box (w : World) (b : Nat) (y0 y1 y2 y3 y4 y5 y6 : Value) : Prop := w.heap[b]? = some (.cells #[y0, y1, y2, y3, y4, y5, y6] 43)
theorem Box.new (w : World) (y0 y1 y2 y3 y4 y5 y6 : Value) : Box (w.alloc (.cells #[y0, y1, y2, y3, y4, y5, y6] 43)) w.heap.size y0 y1 y2 y3 y4 y5 y6 := heap_alloc_new w _
theorem Box.fr {M : Nat → Prop} {w w' : World} {b : Nat} {y0 y1 y2 y3 y4 y5 y6 : Value} (h : Box w b y0 y1 y2 y3 y4 y5 y6) (f : Fr M w w') (hm : ¬ M b) : Box w' b y0 y1 y2 y3 y4 y5 y6 := f.at h hm
theorem Box.kept {w w' : World} {b : Nat} {y0 y1 y2 y3 y4 y5 y6 : Value} (h : Box w b y0 y1 y2 y3 y4 y5 y6) (f : Fr None' w w') : Box w' b y0 y1 y2 y3 y4 y5 y6 := h.fr f (fun e => e)
theorem Box.cells {w : World} {b : Nat} {y0 y1 y2 y3 y4 y5 y6 : Value} (h : Box w b y0 y1 y2 y3 y4 y5 y6) : w.cell? ⟨b, 0, none⟩ = some y0 ∧ w.cell? ⟨b, 1, none⟩ = some y1 ∧ w.cell? ⟨b, 2, none⟩ = some y2 ∧ w.cell? ⟨b, 3, none⟩ = some y3 ∧ w.cell? ⟨b, 4, none⟩ = some y4 ∧ w.cell? ⟨b, 5, none⟩ = some y5 ∧ w.cell? ⟨b, 6, none⟩ = some y6 := by
 unfold Box at h
 refine ⟨?_, ?_, ?_, ?_, ?_, ?_, ?_⟩ <;> (rw [World.cell?, h]; rfl)
theorem Box.frozen {w : World} {b : Nat} {y0 y1 y2 y3 y4 y5 y6 : Value} (h : Box w b y0 y1 y2 y3 y4 y5 y6) (o : Nat) : w.frozen? ⟨b, o, none⟩ = false := by
 unfold Box at h
 unfold World.frozen?
 rw [h]
 simp
theorem Box.lt {w : World} {b : Nat} {y0 y1 y2 y3 y4 y5 y6 : Value} (h : Box w b y0 y1 y2 y3 y4 y5 y6) : b < w.heap.size := (Array.getElem?_eq_some_iff.1 h).1
theorem Box.set0 {w : World} {b : Nat} {y0 y1 y2 y3 y4 y5 y6 : Value} (h : Box w b y0 y1 y2 y3 y4 y5 y6) (v : Value) : Box (w.setCell ⟨b, 0, none⟩ v) b v y1 y2 y3 y4 y5 y6 := by
 have := Go.heap_setCell_same w b 0 _ _ v h
 unfold Box
 simpa using this
theorem Box.set1 {w : World} {b : Nat} {y0 y1 y2 y3 y4 y5 y6 : Value} (h : Box w b y0 y1 y2 y3 y4 y5 y6) (v : Value) : Box (w.setCell ⟨b, 1, none⟩ v) b y0 v y2 y3 y4 y5 y6 := by
 have := Go.heap_setCell_same w b 1 _ _ v h
 unfold Box
 simpa using this
theorem Box.set2 {w : World} {b : Nat} {y0 y1 y2 y3 y4 y5 y6 : Value} (h : Box w b y0 y1 y2 y3 y4 y5 y6) (v : Value) : Box (w.setCell ⟨b, 2, none⟩ v) b y0 y1 v y3 y4 y5 y6 := by
 have := Go.heap_setCell_same w b 2 _ _ v h
 unfold Box
 simpa using this
theorem Box.set3 {w : World} {b : Nat} {y0 y1 y2 y3 y4 y5 y6 : Value} (h : Box w b y0 y1 y2 y3 y4 y5 y6) (v : Value) : Box (w.setCell ⟨b, 3, none⟩ v) b y0 y1 y2 v y4 y5 y6 := by
 have := Go.heap_setCell_same w b 3 _ _ v h
 unfold Box
 simpa using this
theorem Box.set4 {w : World} {b : Nat} {y0 y1 y2 y3 y4 y5 y6 : Value} (h : Box w b y0 y1 y2 y3 y4 y5 y6) (v : Value) : Box (w.setCell ⟨b, 4, none⟩ v) b y0 y1 y2 y3 v y5 y6 := by
 have := Go.heap_setCell_same w b 4 _ _ v h
 unfold Box
 simpa using this
theorem Box.set5 {w : World} {b : Nat} {y0 y1 y2 y3 y4 y5 y6 : Value} (h : Box w b y0 y1 y2 y3 y4 y5 y6) (v : Value) : Box (w.setCell ⟨b, 5, none⟩ v) b y0 y1 y2 y3 y4 v y6 := by
 have := Go.heap_setCell_same w b 5 _ _ v h
 unfold Box
 simpa using this
theorem Box.set6 {w : World} {b : Nat} {y0 y1 y2 y3 y4 y5 y6 : Value} (h : Box w b y0 y1 y2 y3 y4 y5 y6) (v : Value) : Box (w.setCell ⟨b, 6, none⟩ v) b y0 y1 y2 y3 y4 y5 v := by
 have := Go.heap_setCell_same w b 6 _ _ v h
 unfold Box
 simpa using this
@[reducible] def setP (w : World) (b : Nat) (y0 y1 y2 y3 y4 y5 y6 : Value) : World := ((((((w.setCell ⟨b, 0, none⟩ y0).setCell ⟨b, 1, none⟩ y1).setCell ⟨b, 2, none⟩ y2).setCell ⟨b, 3, none⟩ y3).setCell ⟨b, 4, none⟩ y4).setCell ⟨b, 5, none⟩ y5).setCell ⟨b, 6, none⟩ y6
theorem Box.all {w : World} {b : Nat} {x0 x1 x2 x3 x4 x5 x6 : Value} (h : Box w b x0 x1 x2 x3 x4 x5 x6) (y0 y1 y2 y3 y4 y5 y6 : Value) : Box (setP w b y0 y1 y2 y3 y4 y5 y6) b y0 y1 y2 y3 y4 y5 y6 :=
 ((((((h.set0 y0).set1 y1).set2 y2).set3 y3).set4 y4).set5 y5).set6 y6
theorem Fr.setP {M : Nat → Prop} (w : World) {b : Nat} (hb : M b) (y0 y1 y2 y3 y4 y5 y6 : Value) : Fr M w (setP w b y0 y1 y2 y3 y4 y5 y6) :=
 ((((((Fr.setCell w (a := ⟨b, 0, none⟩) hb y0).then (Fr.setCell _ (a := ⟨b, 1, none⟩) hb y1)).then (Fr.setCell _ (a := ⟨b, 2, none⟩) hb y2)).then (Fr.setCell _ (a := ⟨b, 3, none⟩) hb y3)).then (Fr.setCell _ (a := ⟨b, 4, none⟩) hb y4)).then (Fr.setCell _ (a := ⟨b, 5, none⟩) hb y5)).then (Fr.setCell _ (a := ⟨b, 6, none⟩) hb y6)
theorem Fr.setQ (w : World) (q o : Nat) (u : Value) : Fr (fun k => k = q) w (w.setCell ⟨q, o, none⟩ u) := Fr.setCell (M := fun k => k = q) w (a := ⟨q, o, none⟩) rfl u
theorem fin9 {w w3 W : World} {b q : Nat} {x0 x1 x2 x3 x4 x5 x6 : Value} (hf : Fr None' w w3) (hb : Box w3 b x0 x1 x2 x3 x4 x5 x6) (f : Fr (fun k => k = q) w3 W) (hbq : ¬ b = q) (hwb : w.heap.size ≤ b) (hwq : w.heap.size ≤ q) (y0 y1 y2 y3 y4 y5 y6 : Value) :
  Box (setP W b y0 y1 y2 y3 y4 y5 y6) b y0 y1 y2 y3 y4 y5 y6 ∧ Fr None' w (setP W b y0 y1 y2 y3 y4 y5 y6) :=
 ⟨(hb.fr f hbq).all _ _ _ _ _ _ _, (hf.trans f (fun _ e => Or.inr (by omega))).trans (Fr.setP (M := fun k => k = b) W rfl _ _ _ _ _ _ _) (fun _ e => Or.inr (by omega))⟩
theorem Box.load {w : World} {b : Nat} {y0 y1 y2 y3 y4 y5 y6 : Value} (h : Box w b y0 y1 y2 y3 y4 y5 y6) : (loadVar 43 ⟨b, 0, none⟩).run Tryz.prog w = .ok (.agg #[y0, y1, y2, y3, y4, y5, y6]) w :=
 run_loadVar_row w b 43 43 _ (0, 0) _ h Tryz.underlying43 rfl (by kernel_rfl)
theorem Yi {fn : Func} {p : Tmp} (hres : fn.results = #[.cell p 43]) {Q : Ending → World → Prop} {a : Act} {w : World} {b : Nat} {y0 y1 y2 y3 y4 y5 y6 : Value} (hd : a.defers = []) (hp : a.tmps.getD p undef = .pointer (some ⟨b, 0, none⟩)) (h : Box w b y0 y1 y2 y3 y4 y5 y6) (hq : Q (.returned (.agg #[y0, y1, y2, y3, y4, y5, y6])) w) : bodyPost Tryz.prog fn Q .ret a w :=
 bodyPost_ret (results_cell_row hres _ _ b 43 _ (0, 0) _ hp h Tryz.underlying43 rfl (by kernel_rfl)) hd hq
end Go.Proofs.YtbnfjjjdnbcehaaGreatDoor
namespace Go.Proofs.YtbnfjjjdnbcehaaGreatDoor
open Go.RowKit
set_option maxRecDepth 100000
def pcells : List Pr → List (Value × Value) → List Value
 | x :: L, u :: V => prCells x u.1 u.2 ++ pcells L V
 | _, _ => []
theorem prCells_length (x : Pr) (vo vn : Value) : (prCells x vo vn).length = 7 := rfl
theorem Yc : ∀ (L : List Pr) (V : List (Value × Value)), V.length = L.length → (pcells L V).length = L.length * 7
 | [], _, _ => rfl
 | x :: L, [], e => by cases e
 | x :: L, u :: V, e => by
  simp only [pcells, List.length_cons, List.length_append, prCells_length] at e ⊢
  rw [Yc L V (by omega)]
  omega
theorem pcells_append : ∀ (L B : List Pr) (V U : List (Value × Value)), V.length = L.length → pcells (L ++ B) (V ++ U) = pcells L V ++ pcells B U
 | [], B, [], U, _ => rfl
 | [], _, _ :: _, _, e => by cases e
 | _ :: _, _, [], _, e => by cases e
 | x :: L, B, v :: V, U, e => by
  simp only [List.cons_append, pcells, List.append_assoc]
  rw [pcells_append L B V U (by simpa using e)]
theorem pcells_get : ∀ (L : List Pr) (V : List (Value × Value)) (k : Nat) (x : Pr) (u : Value × Value), L[k]? = some x → V[k]? = some u → ∀ j, j < 7 → (pcells L V)[k * 7 + j]? = (prCells x u.1 u.2)[j]?
 | [], _, k, x, vl, e, _ => by simp at e
 | y :: L, [], k, x, vl, _, e => by simp at e
 | y :: L, v :: V, 0, x, u, e1, e2 => fun j hj => by
  simp at e1 e2
  subst e1 e2
  simp only [pcells, Nat.zero_mul, Nat.zero_add]
  exact List.getElem?_append_left (by rw [prCells_length]; exact hj)
 | y :: L, v :: V, k + 1, x, u, e1, e2 => fun j hj => by
  have := pcells_get L V k x u (by simpa using e1) (by simpa using e2) j hj
  simp only [pcells]
  rw [List.getElem?_append_right (by rw [prCells_length]; omega), prCells_length, ← this]
  congr 1
  omega
theorem pcells_one : ∀ (L : List Pr) (V : List (Value × Value)), (∀ u ∈ V, u.1.oneCell' = true ∧ u.2.oneCell' = true) → ∀ c ∈ pcells L V, c.oneCell' = true
 | [], _, _ => fun c hc => by simp [pcells] at hc
 | x :: L, [], _ => fun c hc => by simp [pcells] at hc
 | x :: L, u :: V, h => fun c hc => by
  simp only [pcells, List.mem_append] at hc
  rcases hc with hc | hc
  ·simp only [prCells, List.mem_cons, List.not_mem_nil, or_false] at hc
   rcases hc with rfl | rfl | rfl | rfl | rfl | rfl | rfl
   ·rfl
   ·rfl
   ·rfl
   ·rfl
   ·rfl
   ·exact (h u (List.mem_cons_self ..)).1
   ·exact (h u (List.mem_cons_self ..)).2
  ·exact pcells_one L V (fun u hu => h u (List.mem_cons_of_mem _ hu)) c hc
theorem infoP : (Tryz.prog.info? 43).map (fun i => (i.zero, i.size, i.bytes)) = some (some (.agg #[.int .i64 0, .string ⟨#[]⟩, .string ⟨#[]⟩, .string ⟨#[]⟩, .int .i64 0, .slice none 0 0, .slice none 0 0]), 7, 112) := by kernel_rfl
def Far (v s : Value) (l : List ByteArray) : Prop := l ≠ [] → ∀ k, s.ownBlock = some k → ¬ v.ownBlock = some k
theorem Zv.one {w : World} {v : Value} {l : List ByteArray} (h : Zv w v l) : v.oneCell' = true := by
 obtain ⟨va, c, rfl, _⟩ := h
 rfl
structure Zh (base : Nat) (w : World) (v : Value) (L : List Pr) (V : List (Value × Value)) : Prop where
 len : V.length = L.length
 row : w.ownsRow base 43 7 v L.length (pcells L V)
 str : ∀ (k : Nat) (x : Pr) (u : Value × Value), L[k]? = some x → V[k]? = some u → Zv w u.1 x.old ∧ Zv w u.2 x.new ∧ Far v u.1 x.old ∧ Far v u.2 x.new
theorem Zh.nil (base : Nat) (w : World) : Zh base w (.slice none 0 0) [] [] := ⟨rfl, World.ownsRow_nil w _ _ 7, fun k x u e => by simp at e⟩
theorem Zh.ge {base : Nat} {w : World} {v : Value} {L : List Pr} {V : List (Value × Value)} (h : Zh base w v L V) {k : Nat} (hk : v.ownBlock = some k) : base ≤ k ∧ k < w.heap.size := by
 rcases h.row.2 with ⟨hv, e⟩ | ⟨g, cap, cur, hv, hb, hh, hc, _, hs, ht⟩
 ·rw [hv] at hk; cases hk
 ·rw [hv] at hk; cases hk; exact ⟨hb, (Array.getElem?_eq_some_iff.1 hh).1⟩
theorem Zh.kept {base : Nat} {w w' : World} {v : Value} {L : List Pr} {V : List (Value × Value)} (h : Zh base w v L V) (f : Fr None' w w') : Zh base w' v L V := by
 refine ⟨h.len, ⟨h.row.1, ?_⟩, fun k x u e1 e2 => ?_⟩
 ·rcases h.row.2 with h | ⟨g, cap, cur, hv, hb, hh, h⟩
  ·exact Or.inl h
  ·exact Or.inr ⟨g, cap, cur, hv, hb, f.at hh (fun e => e), h⟩
 ·obtain ⟨h1, h2, h3, h4⟩ := h.str k x u e1 e2
  exact ⟨h1.kept f, h2.kept f, h3, h4⟩
theorem Zh.fr {M : Nat → Prop} {base : Nat} {w w' : World} {v : Value} {L : List Pr} {V : List (Value × Value)} (h : Zh base w v L V) (f : Fr M w w') (hv : ∀ k, v.ownBlock = some k → ¬ M k) (hs : ∀ u ∈ V, ∀ k, (u.1.ownBlock = some k ∨ u.2.ownBlock = some k) → k < w.heap.size → ¬ M k) : Zh base w' v L V := by
 refine ⟨h.len, ⟨h.row.1, ?_⟩, fun k x u e1 e2 => ?_⟩
 ·rcases h.row.2 with h | ⟨g, cap, cur, he, hb, hh, h⟩
  ·exact Or.inl h
  ·exact Or.inr ⟨g, cap, cur, he, hb, f.at hh (hv g (by rw [he]; rfl)), h⟩
 ·obtain ⟨h1, h2, h3, h4⟩ := h.str k x u e1 e2
  have hu := List.mem_of_getElem? e2
  exact ⟨h1.far f (fun hl k e => hs u hu k (Or.inl e) (h1.lt hl e)), h2.far f (fun hl k e => hs u hu k (Or.inr e) (h2.lt hl e)), h3, h4⟩
theorem Zh.slice {base : Nat} {w : World} {v : Value} {L : List Pr} {V : List (Value × Value)} (h : Zh base w v L V) : ∃ va c, v = .slice va L.length c ∧ L.length ≤ c ∧ (va = none → c = 0) ∧ Zc w va L := by
 rcases h.row.2 with ⟨hv, e⟩ | ⟨g, cap, cur, hv, hb, hh, hc, _, hs, ht⟩
 ·have e2 : L = [] := List.length_eq_zero_iff.1 e
  subst e2
  exact ⟨none, 0, hv, Nat.le_refl _, fun _ => rfl, fun k x hk => by simp at hk⟩
 ·refine ⟨_, cap, hv, hc, fun e => by simp at e, fun k x hk => ?_⟩
  have hkl := (List.getElem?_eq_some_iff.1 hk).1
  obtain ⟨u, hp⟩ : ∃ u, V[k]? = some u := ⟨_, List.getElem?_eq_getElem (by rw [h.len]; exact hkl)⟩
  have hx := pcells_get L V k x u hk hp
  have hc' : ∀ j u, j < L.length * 7 → (pcells L V)[j]? = some u → w.cell? ⟨g, j, none⟩ = some u := fun j u hj h1 => by
   rw [← ht, List.getElem?_take, if_pos hj] at h1
   rw [World.cell?, hh]
   simpa using h1
  obtain ⟨s1, s2, _, _⟩ := h.str k x u hk hp
  refine ⟨g, 0, rfl, u.1, u.2, ?_, ?_, ?_, ?_, ?_, ?_, ?_, s1, s2⟩
  ·rw [Nat.zero_add]; exact hc' _ _ (by omega) (hx 0 (by omega))
  ·rw [Nat.zero_add]; exact hc' _ _ (by omega) (hx 1 (by omega))
  ·rw [Nat.zero_add]; exact hc' _ _ (by omega) (hx 2 (by omega))
  ·rw [Nat.zero_add]; exact hc' _ _ (by omega) (hx 3 (by omega))
  ·rw [Nat.zero_add]; exact hc' _ _ (by omega) (hx 4 (by omega))
  ·rw [Nat.zero_add]; exact hc' _ _ (by omega) (hx 5 (by omega))
  ·rw [Nat.zero_add]; exact hc' _ _ (by omega) (hx 6 (by omega))
theorem prs_cells {w : World} {g : Nat} : ∀ (B : List Pr) (o : Nat), Zc w (some ⟨g, o, none⟩) B → ∃ U : List (Value × Value), U.length = B.length ∧ (∀ j u, (pcells B U)[j]? = some u → w.cell? ⟨g, o + j, none⟩ = some u) ∧ ∀ (k : Nat) (x : Pr) (u : Value × Value), B[k]? = some x → U[k]? = some u → Zv w u.1 x.old ∧ Zv w u.2 x.new
 | [], o, _ => ⟨[], rfl, (fun j u e => by simp [pcells] at e), fun k x vl e => by simp at e⟩
 | x :: B, o, h => by
  obtain ⟨g', o', e, vo, vn, c0, c1, c2, c3, c4, c5, c6, hs1, hs2⟩ := h 0 x rfl
  cases e
  obtain ⟨U, h1, h2, h4⟩ := prs_cells B (o + 7) (fun k y hk => by
   obtain ⟨g', o', e, hy⟩ := h (k + 1) y (by simpa using hk)
   cases e
   exact ⟨_, _, rfl, by rw [show o + 7 + k * 7 = o + (k + 1) * 7 from by omega]; exact hy⟩)
  refine ⟨(vo, vn) :: U, by simp [h1], fun j u hj => ?_, fun k y vy e1 e2 => ?_⟩
  ·simp only [pcells, prCells, List.cons_append, List.nil_append] at hj
   match j, hj with
   | 0, hj => simp at hj; subst hj; simpa using c0
   | 1, hj => simp at hj; subst hj; simpa using c1
   | 2, hj => simp at hj; subst hj; simpa using c2
   | 3, hj => simp at hj; subst hj; simpa using c3
   | 4, hj => simp at hj; subst hj; simpa using c4
   | 5, hj => simp at hj; subst hj; simpa using c5
   | 6, hj => simp at hj; subst hj; simpa using c6
   | j + 7, hj =>
    have := h2 j u (by simpa using hj)
    rw [show o + (j + 7) = o + 7 + j from by omega]
    exact this
  ·cases k with
   | zero => simp at e1 e2; subst e1 e2; exact ⟨hs1, hs2⟩
   | succ k => exact h4 k y vy (by simpa using e1) (by simpa using e2)
theorem Zh.append {base : Nat} {w : World} {v : Value} {L : List Pr} {V : List (Value × Value)} (h : Zh base w v L V) {ad : Addr} {c m : Nat} {B : List Pr} {U : List (Value × Value)} (hm : B.length = m) (h1 : U.length = B.length) (h2 : ∀ j u, (pcells B U)[j]? = some u → w.cell? (ad.add j) = some u) (h4 : ∀ (k : Nat) (x : Pr) (u : Value × Value), B[k]? = some x → U[k]? = some u → Zv w u.1 x.old ∧ Zv w u.2 x.new ∧ Far v u.1 x.old ∧ Far v u.2 x.new) (hn : L.length + m ≤ 100000) (hbase : base ≤ w.heap.size) :
  ∃ v' w', (Builtin.append_ #[22, 22] 22 #[v, .slice (some ad) m c]).run Tryz.prog w = .ok v' w' ∧ Zh base w' v' (L ++ B) (V ++ U) ∧ Fr (fun k => v.ownBlock = some k) w w' ∧ (v'.ownBlock = v.ownBlock ∨ v'.ownBlock = some w.heap.size) := by
 obtain ⟨i0, hi, hz0, hz1, hz2⟩ := info_parts infoP
 obtain ⟨v', w', hr, h5, h6, _, h7⟩ := run_append_own_at (P := Tryz.prog) w base 22 22 43 i0 _ 7 112 Tryz.underlying22 hi hz0 hz1 hz2 rfl (by decide) v L.length (pcells L V) h.row ad m c (pcells B U) (by rw [Yc B U h1, hm]) h2 (pcells_one B U (fun u hu => by
   obtain ⟨j, hj, rfl⟩ := List.getElem_of_mem hu
   obtain ⟨s1, s2, _, _⟩ := h4 j (B[j]'(by omega)) U[j] (List.getElem?_eq_getElem (by omega)) (List.getElem?_eq_getElem hj)
   exact ⟨s1.one, s2.one⟩)) (by unfold maxLen; omega) (by omega) hbase
 have hf : Fr (fun k => v.ownBlock = some k) w w' := Fr.grown h6 (fun k e => e)
 refine ⟨v', w', hr, ⟨by simp [h.len, h1], by rw [pcells_append L B V U h.len, List.length_append, hm]; exact h5, fun k x u e1 e2 => ?_⟩, hf, h7⟩
 have key : Zv w u.1 x.old ∧ Zv w u.2 x.new ∧ Far v u.1 x.old ∧ Far v u.2 x.new := by
  rcases Nat.lt_or_ge k L.length with hk | hk
  ·rw [List.getElem?_append_left hk] at e1
   rw [List.getElem?_append_left (by rw [h.len]; exact hk)] at e2
   exact h.str k x u e1 e2
  ·rw [List.getElem?_append_right hk] at e1
   rw [List.getElem?_append_right (by rw [h.len]; exact hk), h.len] at e2
   exact h4 _ x u e1 e2
 obtain ⟨s1, s2, f1, f2⟩ := key
 refine ⟨s1.far hf (fun hl k e => f1 hl k e), s2.far hf (fun hl k e => f2 hl k e), fun hl k e e' => ?_, fun hl k e e' => ?_⟩
 ·rcases h7 with h7 | h7
  ·rw [h7] at e'; exact f1 hl k e e'
  ·rw [h7] at e'; cases e'; exact Nat.lt_irrefl _ (s1.lt hl e)
 ·rcases h7 with h7 | h7
  ·rw [h7] at e'; exact f2 hl k e e'
  ·rw [h7] at e'; cases e'; exact Nat.lt_irrefl _ (s2.lt hl e)
theorem Zh.addAll {base : Nat} {w0 w : World} {v : Value} {L : List Pr} {V : List (Value × Value)} (h : Zh base w v L V) {va : Option Addr} {n c : Nat} {B : List Pr} (hB : Zc w0 va B) (hn : B.length = n) (hc : va = none → c = 0) (f0 : Fr None' w0 w) (hb0 : w0.heap.size ≤ base) (hbase : base ≤ w.heap.size) (hlen : L.length + n ≤ 100000) :
  ∃ v' U w', (Builtin.append_ #[22, 22] 22 #[v, .slice va n c]).run Tryz.prog w = .ok v' w' ∧ Zh base w' v' (L ++ B) (V ++ U) ∧ Fr (fun k => v.ownBlock = some k) w w' := by
 cases va with
 | none =>
  obtain rfl := hc rfl
  cases B with
  | cons x B => obtain ⟨_, _, e, _⟩ := hB 0 x rfl; cases e
  | nil =>
   have hn0 : n = 0 := hn.symm
   subst hn0
   obtain ⟨i0, hi, _⟩ := info_parts infoP
   exact ⟨v, [], w, run_append_owned_none (P := Tryz.prog) (w := w) base 22 22 43 i0 7 Tryz.underlying22 hi v L.length (pcells L V) h.row, by simpa using h, Fr.refl _ _⟩
 | some ad =>
  obtain ⟨U, h1, h2, h4⟩ : ∃ U : List (Value × Value), U.length = B.length ∧ (∀ j u, (pcells B U)[j]? = some u → w0.cell? (ad.add j) = some u) ∧ ∀ (k : Nat) (x : Pr) (u : Value × Value), B[k]? = some x → U[k]? = some u → Zv w0 u.1 x.old ∧ Zv w0 u.2 x.new := by
   cases B with
   | nil => exact ⟨[], rfl, fun j v h => by simp [pcells] at h, fun k x u e => by simp at e⟩
   | cons x B =>
    obtain ⟨g, o, e, _⟩ := hB 0 x rfl
    cases e
    obtain ⟨U, h1, h2, h3⟩ := prs_cells (x :: B) o hB
    exact ⟨U, h1, fun j v h => by rw [show (⟨g, o, none⟩ : Addr).add j = ⟨g, o + j, none⟩ from Addr.add_lit ..]; exact h2 j v h, h3⟩
  obtain ⟨v', w', r1, r2, r3, _⟩ := h.append (c := c) hn h1 (fun j u hj => f0.keepCell (h2 j u hj) (fun e => e)) (fun k x u e1 e2 => by
   obtain ⟨s1, s2⟩ := h4 k x u e1 e2
   exact ⟨s1.kept f0, s2.kept f0, fun hl k e e' => by have := s1.lt hl e; have := (h.ge e').1; omega, fun hl k e e' => by have := s2.lt hl e; have := (h.ge e').1; omega⟩) hlen hbase
  exact ⟨v', U, w', r1, r2, r3⟩
theorem Zh.empty {base : Nat} {w : World} (hb : base ≤ w.heap.size) : Zh base (w.alloc (.cells #[] 43)) (.slice (some ⟨w.heap.size, 0, none⟩) 0 0) [] [] :=
 ⟨rfl, ⟨rfl, Or.inr ⟨w.heap.size, 0, #[], rfl, hb, heap_alloc_new w _, Nat.le_refl _, Nat.zero_le _, rfl, rfl⟩⟩, fun k x u e => by simp at e⟩
end Go.Proofs.YtbnfjjjdnbcehaaGreatDoor
namespace Go.Proofs.YtbnfjjjdnbcehaaGreatDoor
open Go.RowKit
set_option maxRecDepth 100000
def undo (k : Int) : Int := if k = 1 ∨ k = 3 ∨ k = 5 then k + 1 else if k = 2 ∨ k = 4 ∨ k = 6 then k - 1 else if k = 7 ∨ k = 8 ∨ k = 9 ∨ k = 10 then k else 0
theorem info11 : (Tryz.prog.info? 127).map (·.size) = some 11 := by kernel_rfl
theorem kinds_any (w : World) : Calls Tryz.prog 103 #[] w fun e w' => e = .returned (.agg #[.int .i64 0, .int .i64 2, .int .i64 1, .int .i64 4, .int .i64 3, .int .i64 6, .int .i64 5, .int .i64 7, .int .i64 8, .int .i64 9, .int .i64 10]) ∧ Fr None' w w' := by
 go_enter Tryz.func103, Tryz.ntmps103
 go_wp2_with fail
 exact bodyPost_ret (results_cell_row rfl _ _ w.heap.size 127 #[.int .i64 0, .int .i64 2, .int .i64 1, .int .i64 4, .int .i64 3, .int .i64 6, .int .i64 5, .int .i64 7, .int .i64 8, .int .i64 9, .int .i64 10] (0, 0) _ rfl (heap_alloc_new w _) Tryz.underlying127 rfl info11) rfl ⟨rfl, Fr.alloc _ _ _⟩
theorem eleven (k : Int) : k < 0 ∨ 11 ≤ k ∨ k = 0 ∨ k = 1 ∨ k = 2 ∨ k = 3 ∨ k = 4 ∨ k = 5 ∨ k = 6 ∨ k = 7 ∨ k = 8 ∨ k = 9 ∨ k = 10 := by omega
theorem undoing_any (k : Int) (w : World) : Calls Tryz.prog 73 #[.int .i64 k] w fun e w' => e = .returned (.int .i64 (undo k)) ∧ Fr None' w w' := by
 have q1 := kinds_any w
 have HU : Hid (k < 0 ∨ 11 ≤ k → undo k = 0) := fun h => by unfold undo; rw [if_neg (by omega), if_neg (by omega), if_neg (by omega)]
 rcases eleven k with h | h | rfl | rfl | rfl | rfl | rfl | rfl | rfl | rfl | rfl | rfl | rfl
 ·rw [HU.out (Or.inl h)]
  clear HU
  go_enter Tryz.func73, Tryz.ntmps73
  go_wp2_with fail
  with_reducible refine q1.mono ?_
  rintro e w1 ⟨rfl, f1⟩
  clear q1
  go_wp2_with fail
  go_ret
  exact ⟨rfl, f1.then7 (Fr.alloc _ _ _)⟩
 ·rw [HU.out (Or.inr h)]
  clear HU
  go_enter Tryz.func73, Tryz.ntmps73
  go_wp2_with fail
  with_reducible refine q1.mono ?_
  rintro e w1 ⟨rfl, f1⟩
  clear q1
  go_wp2_with fail
  go_ret
  exact ⟨rfl, f1.then7 (Fr.alloc _ _ _)⟩
 all_goals
  clear HU
  go_enter Tryz.func73, Tryz.ntmps73
  go_wp2_with fail
  with_reducible refine q1.mono ?_
  rintro e w1 ⟨rfl, f1⟩
  clear q1
  go_wp2_with fail
  go_ret
  exact ⟨rfl, f1.then7 (Fr.alloc _ _ _)⟩
end Go.Proofs.YtbnfjjjdnbcehaaGreatDoor
namespace Go.Proofs.YtbnfjjjdnbcehaaGreatDoor
open Go.RowKit
set_option maxRecDepth 100000
def Zp (x : Pr) : Bool := decide (x.pos = 0) && decide (x.old.length = 0) && decide (x.new.length = 0)
def Zd (x : Pr) : Bool := decide (x.dst.data.toList = []) && decide (x.src.data.toList = []) && Zp x
def Zm (x : Pr) : Bool := decide (x.dst.data.toList = []) && decide (x.src.data.toList = []) && decide (0 ≤ x.pos) && decide (x.pos ≤ 1073741824) && Lines.right (Lines.bs x.old) && Lines.right (Lines.bs x.new) && decide (0 < x.old.length + x.new.length)
def Zg (x : Pr) : Bool := Zp x && Lines.tok x.src.data.toList && Lines.tok x.dst.data.toList && decide (¬ x.src = x.dst)
def Zi (x : Pr) : Bool := Zp x && decide (¬ x.src = x.dst)
def Zb (x : Pr) : Bool := Zp x && decide (x.src.data.toList = []) && Path.right x.dst.data.toList && Path.apart x.dst.data.toList x.path.data.toList
def Ze (x : Pr) : Bool :=
 if x.kind ≤ 6 then Zd x else if x.kind = 7 then Zm x else if x.kind = 8 then Zg x else if x.kind = 9 then Zi x else Zb x
def Zw (x : Pr) : Bool := decide (1 ≤ x.kind ∧ x.kind ≤ 10) && Path.right x.path.data.toList && Ze x
theorem kinds10 {k : Int} (h : 1 ≤ k ∧ k ≤ 10) : k = 1 ∨ k = 2 ∨ k = 3 ∨ k = 4 ∨ k = 5 ∨ k = 6 ∨ k = 7 ∨ k = 8 ∨ k = 9 ∨ k = 10 := by omega
end Go.Proofs.YtbnfjjjdnbcehaaGreatDoor
namespace Go.Proofs.YtbnfjjjdnbcehaaGreatDoor
open Go.RowKit
set_option maxRecDepth 100000
theorem equalS_any (va vb : Option Addr) (ca cb : Nat) (a b : List ByteArray) (w : World) (ha : Lines.Row w va a) (hb : Lines.Row w vb b) (hl : a.length < 1000000) :
  Calls Tryz.prog 84 #[.slice va a.length ca, .slice vb b.length cb] w fun e w' => e = .returned (.bool (decide (a = b))) ∧ Fr None' w w' := by
 by_cases hn : a.length = b.length
 case neg =>
  have hR : Hid (decide (a = b) = false) := decide_eq_false (fun e => hn (by rw [e]))
  have i1 : ¬ (a.length : Int) = b.length := by omega
  rw [hR.out]
  clear ha hb hn hR
  go_enter Tryz.func84, Tryz.ntmps84
  go_wp2_with fail
  go_ret
  exact ⟨rfl, Fr.refl _ _⟩
 case pos =>
 have HN : Hid (a.length = b.length) := hn
 obtain ⟨n, hna⟩ : ∃ n, a.length = n := ⟨_, rfl⟩
 have HA : Hid (a.length = n) := hna
 rw [← hn, hna]
 have i1 : (n : Int) < 1000000 := by omega
 clear hl hn hna
 go_enter Tryz.func84, Tryz.ntmps84
 go_wp2_with fail
 go_loopw [13] (fun i wr => ∃ k : Nat, k ≤ n ∧ i = .int .i64 k ∧ Fr None' w wr ∧ Hid (a.take k = b.take k)) (fun i _ => n - (intOf i).toNat)
 case atStart => exact ⟨0, Nat.zero_le _, rfl, Fr.refl _ _, rfl⟩
 case round =>
  obtain ⟨k, hk, rfl, hF, HT⟩ := hrel
  by_cases hlt : k < n
  ·have hka : k < a.length := by rw [HA.out]; exact hlt
   have hkb : k < b.length := by rw [← HN.out]; exact hka
   obtain ⟨ga, oa, rfl, c1⟩ := (ha.fr (toLN hF)).get hka
   obtain ⟨gb, ob, rfl, c2⟩ := (hb.fr (toLN hF)).get hkb
   obtain ⟨x, hx⟩ : ∃ x, a[k] = x := ⟨_, rfl⟩
   obtain ⟨y, hy⟩ : ∃ y, b[k] = y := ⟨_, rfl⟩
   have HX : Hid (a[k] = x) := hx
   have HY : Hid (b[k] = y) := hy
   rw [hx] at c1
   rw [hy] at c2
   clear hx hy ha hb
   have i2 : (k : Int) < n := by omega
   by_cases hxy : x = y
   ·subst hxy
    go_wp2_with fail
    go_quiet (fail)
    go_wp2_with fail
    exact ⟨⟨k + 1, by omega, by go_num, hF.then7 (Fr.drewN _ _ _), Lines.list_step HN.out hka HT.out (by rw [HX.out, HY.out])⟩, by simp [intOf]; omega⟩
   ·have HE : Hid (¬ x = y) := hxy
    obtain ⟨q1, q2⟩ := Lines.str_no hxy
    clear hxy
    go_wp2_with fail
    go_quiet (fail)
    clear c1 c2
    go_wp2_with fail
    go_ret
    exact ⟨Lines.ret_bool (decide_eq_false (fun e => HE.out (by rw [← HX.out, ← HY.out]; subst e; rfl))).symm, hF.then7 (Fr.drewN _ _ _)⟩
  ·go_wp2_with fail
   go_ret
   refine ⟨Lines.ret_bool ?_, hF⟩
   have := HT.out
   rw [List.take_of_length_le (by rw [HA.out]; omega), List.take_of_length_le (by rw [← HN.out, HA.out]; omega)] at this
   exact (decide_eq_true this).symm
end Go.Proofs.YtbnfjjjdnbcehaaGreatDoor
