/-
  What is proved here: plain lemmas on worlds of which a few blocks turn, and on rows in memory. No condition.
-/
import Derived.WalkKit
import Derived.WalkSpells
import Derived.Deep.OwnRows
import Derived.Deep.QuietTactic
import Derived.BigQuiet
import Derived.StillTailTactics
import Derived.Laws.Rows
namespace Go.Proofs.YtofpkpomhdhkgaaGreatDoor
open Go.RowKit

/-- w' is w but for the blocks that M names, and for new ones. -/
structure Fr (M : Nat → Prop) (w w' : World) : Prop where
  os : w'.os = w.os
  tape : w'.tape = w.tape
  output : w'.output = w.output
  size : w.heap.size ≤ w'.heap.size
  block : ∀ k, k < w.heap.size → ¬ M k → w'.heap[k]? = w.heap[k]?

def None' : Nat → Prop := fun _ => False

theorem Fr.refl (M : Nat → Prop) (w : World) : Fr M w w := ⟨rfl, rfl, rfl, Nat.le_refl _, fun _ _ _ => rfl⟩

theorem Fr.trans {M M' : Nat → Prop} {a b c : World} (h : Fr M a b) (k : Fr M' b c) (hs : ∀ i, M' i → M i ∨ a.heap.size ≤ i) : Fr M a c :=
  ⟨k.os.trans h.os, k.tape.trans h.tape, k.output.trans h.output, Nat.le_trans h.size k.size, fun i hi hm =>
    (k.block i (Nat.lt_of_lt_of_le hi h.size) (fun e => by rcases hs i e with h1 | h1; exact hm h1; omega)).trans (h.block i hi hm)⟩

theorem Fr.then {M : Nat → Prop} {a b c : World} (h : Fr M a b) (k : Fr M b c) : Fr M a c := h.trans k (fun _ e => Or.inl e)

theorem Fr.mono {M M' : Nat → Prop} {a b : World} (h : Fr M a b) (hs : ∀ i, M i → M' i) : Fr M' a b :=
  ⟨h.os, h.tape, h.output, h.size, fun i hi hm => h.block i hi (fun e => hm (hs i e))⟩

theorem Fr.any {M : Nat → Prop} {a b : World} (h : Fr None' a b) : Fr M a b := h.mono (fun _ e => e.elim)

theorem Fr.alloc (M : Nat → Prop) (w : World) (o : Obj) : Fr M w (w.alloc o) :=
  ⟨rfl, rfl, rfl, by simp, fun k hk _ => Below.heap_alloc _ _ _ hk⟩

theorem Fr.setCell {M : Nat → Prop} (w : World) {a : Addr} (ha : M a.block) (u : Value) : Fr M w (w.setCell a u) :=
  ⟨rfl, rfl, rfl, by simp [World.setCell], fun k _ hm => Below.heap_setCell _ _ _ _ (fun e => hm (e ▸ ha))⟩

theorem Fr.grown {M : Nat → Prop} {w w' : World} {row : Option Nat} (hg : w.grownBy w' row) (hr : ∀ k, row = some k → M k) : Fr M w w' :=
  ⟨hg.os, hg.tape, hg.output, hg.size, fun k hk hm => hg.block k hk (fun e => hm (hr k e.symm))⟩

theorem Fr.drewN (M : Nat → Prop) (w : World) (n : Nat) : Fr M w (w.drewN n) := ⟨rfl, rfl, rfl, Nat.le_refl _, fun _ _ _ => rfl⟩

theorem Fr.setRow {M : Nat → Prop} (w : World) {g : Nat} (hg : M g) (c : Array Value) : Fr M w (w.setRow g c) :=
  ⟨rfl, rfl, rfl, by simp [World.setRow], fun k _ hm => by
    have hne : g ≠ k := fun e => hm (e ▸ hg)
    simp only [World.setRow]
    rw [Array.getElem?_modify, if_neg hne]⟩

theorem Fr.at {M : Nat → Prop} {w w' : World} (h : Fr M w w') {k : Nat} {o : Obj} (ho : w.heap[k]? = some o) (hm : ¬ M k) : w'.heap[k]? = some o := by
  rw [h.block k (Array.getElem?_eq_some_iff.1 ho).1 hm]; exact ho

theorem Fr.below {M : Nat → Prop} {w w' : World} (h : Fr M w w') {B : Nat} (hB : B ≤ w.heap.size) (hM : ∀ k, M k → B ≤ k) : Below B w w' :=
  ⟨h.os, h.tape, h.output, h.size, fun k hk => h.block k (by omega) (fun e => by have := hM k e; omega)⟩

theorem cell_lt {w : World} {a : Addr} {v : Value} (h : w.cell? a = some v) : a.block < w.heap.size := by
  rcases Nat.lt_or_ge a.block w.heap.size with h1 | h1
  · exact h1
  · rw [World.cell?, Array.getElem?_eq_none h1] at h; cases h

theorem Fr.cell {M : Nat → Prop} {w w' : World} (h : Fr M w w') {a : Addr} {v : Value} (hc : w.cell? a = some v) (hm : ¬ M a.block) : w'.cell? a = some v := by
  have := h.block a.block (cell_lt hc) hm
  unfold World.cell? at hc ⊢
  rw [this]; exact hc

theorem Fr.rowIs {M : Nat → Prop} {w w' : World} (h : Fr M w w') {b : Nat} {t : TypeId} {n : Nat} {f : Nat → Value} (hr : w.rowIs b t n f) (hm : ¬ M b) : w'.rowIs b t n f := hr.of_block (h.block b hr.lt hm)

/-- A region that draws its order and whose first n operations only read. -/
theorem region_tail {P : Program} {id : Nat} {Q : Exit → Act → World → Prop} {a : Act} {w : World} {l : List Oper} (n : Nat) (hm : P.follows .mixedOrders = true) (hB : Region.lexTailB .any l.toArray n = true)
    (h : wpStill P l.toArray w.drew (fun a' => wpList P l.toArray Q (l.drop n) a' w.drew) (l.take n) a) : (Code.region id l.toArray true).wp P Q a w := wp_region_still_tail n hm hB h

/-- n cells, cell i holding f i. -/
def arr (n : Nat) (f : Nat → Value) : Array Value := Array.ofFn (fun i : Fin n => f i)

theorem arr_size (n : Nat) (f : Nat → Value) : (arr n f).size = n := by simp [arr]

theorem arr_get (n : Nat) (f : Nat → Value) {i : Nat} (hi : i < n) : (arr n f)[i]? = some (f i) := by
  unfold arr
  rw [Array.getElem?_eq_getElem (by simpa using hi)]
  simp

theorem eq_arr {n : Nat} {f : Nat → Value} {c : Array Value} (hn : c.size = n) (hc : ∀ i, i < n → c[i]? = some (f i)) : c = arr n f := by
  apply Array.ext_getElem?
  intro i
  by_cases hi : i < n
  · rw [hc i hi, arr_get n f hi]
  · rw [Array.getElem?_eq_none (by omega), Array.getElem?_eq_none (by rw [arr_size]; omega)]

theorem rowIs_block {w : World} {b : Nat} {t : TypeId} {n : Nat} {f : Nat → Value} (h : w.rowIs b t n f) : w.heap[b]? = some (.cells (arr n f) t (0, 0)) := by
  obtain ⟨c, hb, hn, hc⟩ := h
  rw [hb, eq_arr hn hc]

theorem rowIs_of {w : World} {b : Nat} {t : TypeId} {n : Nat} {f : Nat → Value} (h : w.heap[b]? = some (.cells (arr n f) t (0, 0))) : w.rowIs b t n f := ⟨_, h, arr_size _ _, fun _ hi => arr_get n f hi⟩

theorem setRow_at {w : World} {g : Nat} {c c' : Array Value} {t : TypeId} (h : w.heap[g]? = some (.cells c t (0, 0))) : (w.setRow g c').heap[g]? = some (.cells c' t (0, 0)) := by
  simp only [World.setRow]
  rw [Array.getElem?_modify]
  simp [h]

theorem rowIs_setRow {w : World} {g : Nat} {t : TypeId} {n : Nat} {f g' : Nat → Value} (h : w.rowIs g t n f) : (w.setRow g (arr n g')).rowIs g t n g' :=
  rowIs_of (setRow_at (rowIs_block h))

/-- A new block that a whole row is stored into. -/
theorem new_row {w w' : World} {c : Array Value} {t : TypeId} {n : Nat} {f : Nat → Value} (_hc : c.size = n) (h : (w.alloc (.cells c t (0, 0))).setRow w.heap.size (arr n f) = w') : w'.rowIs w.heap.size t n f ∧ Fr None' w w' := by
  have e : (w.alloc (.cells c t (0, 0))).heap[w.heap.size]? = some (.cells c t (0, 0)) := heap_alloc_new w _
  subst h
  refine ⟨rowIs_of (setRow_at e), (Fr.alloc None' w _).trans (Fr.setRow (M := fun i => i = w.heap.size) _ rfl _) (fun i e => Or.inr (by omega))⟩

theorem arr_one {n : Nat} {f : Nat → Value} (h : ∀ i, i < n → (f i).oneCell' = true) : (arr n f).all (·.oneCell') = true := by
  rw [Array.all_eq_true_iff_forall_mem]
  intro v hv
  obtain ⟨i, hi, rfl⟩ := Array.getElem_of_mem hv
  have hi' : i < n := by simpa [arr] using hi
  simpa [arr] using h i hi'

/-- A whole array out of a row, into a row, and out of the answer's row. -/
theorem load_arr {P : Program} {ops : Array Oper} {rest : List Oper} {o : Oper} {a : Act} {w : World} {Q : Exit → Act → World → Prop} {ty e : TypeId} {n : Nat} (hu : P.underlying ty = some (.array n e)) (hi : (P.info? ty).map (·.size) = some n)
    (g : Nat) {t : TypeId} {f : Nat → Value} (hr : w.rowIs g t n f) (x : Operand) (ho : o.op = .load ty x) (hgd : o.guard = none) (hx : a.eval x = .pointer (some ⟨g, 0, none⟩))
    (h : wpList P ops Q rest (a.put o.dst (.agg (arr n f))) w) : wpList P ops Q (o :: rest) a w :=
  wpList_load_row hgd ty x ho g hx t _ (0, 0) _ (rowIs_block hr) hu rfl (by rw [arr_size]; exact hi) h

theorem store_arr {P : Program} {ops : Array Oper} {rest : List Oper} {o : Oper} {a : Act} {w : World} {Q : Exit → Act → World → Prop} {ty : TypeId} {n : Nat} (hi : (P.info? ty).map (·.size) = some n)
    (g : Nat) {t : TypeId} {f0 f : Nat → Value} (hr : w.rowIs g t n f0) (h1 : ∀ i, i < n → (f i).oneCell' = true) (x y : Operand) (ho : o.op = .store ty x y) (hgd : o.guard = none) (hx : a.eval x = .pointer (some ⟨g, 0, none⟩)) (hy : a.eval y = .agg (arr n f)) (hd : o.dst = none)
    (h : wpList P ops Q rest a (w.setRow g (arr n f))) : wpList P ops Q (o :: rest) a w :=
  wpList_store_row hgd ty x y ho g _ hx hy t _ (rowIs_block hr) (by rw [arr_size]; exact hi) (by rw [arr_size, arr_size]) (arr_one h1) (by rw [hd]; exact h)

theorem result_arr {P : Program} {fn : Func} {p : Tmp} {ty e : TypeId} {n : Nat} (hu : P.underlying ty = some (.array n e)) (hi : (P.info? ty).map (·.size) = some n) (h : fn.results = #[.cell p ty]) (tmps : Array Value) {w : World} {g : Nat} {t : TypeId} {f : Nat → Value}
    (hp : tmps.getD p undef = .pointer (some ⟨g, 0, none⟩)) (hr : w.rowIs g t n f) : (results fn tmps).run P w = .ok (.agg (arr n f)) w :=
  results_cell_row h tmps w g t _ (0, 0) _ hp (rowIs_block hr) hu rfl (by rw [arr_size]; exact hi)

/-- Numbers of 32 bits in a row; bytes in a row. -/
def n32 (f : Nat → Int) : Nat → Value := fun i => .int .u32 (f i)
def n8 (f : Nat → Int) : Nat → Value := fun i => .int .u8 (f i)

end Go.Proofs.YtofpkpomhdhkgaaGreatDoor
