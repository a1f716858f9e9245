/-
  What is proved here: the contracts that the statement stands on: Base, AnyR, AnyG. Conditions: as each theorem names them.
-/
import Derived.WalkKit
import Derived.WalkSpells
import Derived.Deep.OwnRows
import Derived.Deep.QuietTactic
import Derived.BigQuiet
import Derived.StillTailTactics
import Derived.Laws.Rows
import Derived.OrdersIn
namespace Go.Proofs.YtbiilnhefoplkaaGreatDoor
open Go.RowKit

/-- w' is w but for the blocks that M names, and for new ones. -/
structure Fr (M : Nat → Prop) (w w' : World) : Prop where
  os : w'.os = w.os
  tape : w'.tape = w.tape
  output : w'.output = w.output
  size : w.heap.size ≤ w'.heap.size
  block : ∀ k, k < w.heap.size → ¬ M k → w'.heap[k]? = w.heap[k]?

def None' : Nat → Prop := fun _ => False

theorem Fr.refl (M : Nat → Prop) (w : World) : Fr M w w := ⟨rfl, rfl, rfl, Nat.le_refl _, fun _ _ _ => rfl⟩

theorem Fr.trans {M M' : Nat → Prop} {a b c : World} (h : Fr M a b) (k : Fr M' b c) (hs : ∀ i, M' i → M i ∨ a.heap.size ≤ i) : Fr M a c :=
  ⟨k.os.trans h.os, k.tape.trans h.tape, k.output.trans h.output, Nat.le_trans h.size k.size, fun i hi hm =>
    (k.block i (Nat.lt_of_lt_of_le hi h.size) (fun e => by rcases hs i e with h1 | h1; exact hm h1; omega)).trans (h.block i hi hm)⟩

theorem Fr.then {M : Nat → Prop} {a b c : World} (h : Fr M a b) (k : Fr M b c) : Fr M a c := h.trans k (fun _ e => Or.inl e)

theorem Fr.mono {M M' : Nat → Prop} {a b : World} (h : Fr M a b) (hs : ∀ i, M i → M' i) : Fr M' a b :=
  ⟨h.os, h.tape, h.output, h.size, fun i hi hm => h.block i hi (fun e => hm (hs i e))⟩

theorem Fr.any {M : Nat → Prop} {a b : World} (h : Fr None' a b) : Fr M a b := h.mono (fun _ e => e.elim)

theorem Fr.alloc (M : Nat → Prop) (w : World) (o : Obj) : Fr M w (w.alloc o) :=
  ⟨rfl, rfl, rfl, by simp, fun k hk _ => Below.heap_alloc _ _ _ hk⟩

theorem Fr.setCell {M : Nat → Prop} (w : World) {a : Addr} (ha : M a.block) (u : Value) : Fr M w (w.setCell a u) :=
  ⟨rfl, rfl, rfl, by simp [World.setCell], fun k _ hm => Below.heap_setCell _ _ _ _ (fun e => hm (e ▸ ha))⟩

theorem Fr.grown {M : Nat → Prop} {w w' : World} {row : Option Nat} (hg : w.grownBy w' row) (hr : ∀ k, row = some k → M k) : Fr M w w' :=
  ⟨hg.os, hg.tape, hg.output, hg.size, fun k hk hm => hg.block k hk (fun e => hm (hr k e.symm))⟩

theorem Fr.drewN (M : Nat → Prop) (w : World) (n : Nat) : Fr M w (w.drewN n) := ⟨rfl, rfl, rfl, Nat.le_refl _, fun _ _ _ => rfl⟩

theorem Fr.setRow {M : Nat → Prop} (w : World) {g : Nat} (hg : M g) (c : Array Value) : Fr M w (w.setRow g c) :=
  ⟨rfl, rfl, rfl, by simp [World.setRow], fun k _ hm => by
    have hne : g ≠ k := fun e => hm (e ▸ hg)
    simp only [World.setRow]
    rw [Array.getElem?_modify, if_neg hne]⟩

theorem Fr.at {M : Nat → Prop} {w w' : World} (h : Fr M w w') {k : Nat} {o : Obj} (ho : w.heap[k]? = some o) (hm : ¬ M k) : w'.heap[k]? = some o := by
  rw [h.block k (Array.getElem?_eq_some_iff.1 ho).1 hm]; exact ho

theorem Fr.below {M : Nat → Prop} {w w' : World} (h : Fr M w w') {B : Nat} (hB : B ≤ w.heap.size) (hM : ∀ k, M k → B ≤ k) : Below B w w' :=
  ⟨h.os, h.tape, h.output, h.size, fun k hk => h.block k (by omega) (fun e => by have := hM k e; omega)⟩

theorem cell_lt {w : World} {a : Addr} {v : Value} (h : w.cell? a = some v) : a.block < w.heap.size := by
  rcases Nat.lt_or_ge a.block w.heap.size with h1 | h1
  · exact h1
  · rw [World.cell?, Array.getElem?_eq_none h1] at h; cases h

theorem Fr.cell {M : Nat → Prop} {w w' : World} (h : Fr M w w') {a : Addr} {v : Value} (hc : w.cell? a = some v) (hm : ¬ M a.block) : w'.cell? a = some v := by
  have := h.block a.block (cell_lt hc) hm
  unfold World.cell? at hc ⊢
  rw [this]; exact hc

theorem Fr.rowIs {M : Nat → Prop} {w w' : World} (h : Fr M w w') {b : Nat} {t : TypeId} {n : Nat} {f : Nat → Value} (hr : w.rowIs b t n f) (hm : ¬ M b) : w'.rowIs b t n f := hr.of_block (h.block b hr.lt hm)

/-- A region that draws its order and whose first n operations only read. -/
theorem region_tail {P : Program} {id : Nat} {Q : Exit → Act → World → Prop} {a : Act} {w : World} {l : List Oper} (n : Nat) (hm : P.follows .mixedOrders = true) (hB : Region.lexTailB .any l.toArray n = true)
    (h : wpStill P l.toArray w.drew (fun a' => wpList P l.toArray Q (l.drop n) a' w.drew) (l.take n) a) : (Code.region id l.toArray true).wp P Q a w := wp_region_still_tail n hm hB h

/-- n cells, cell i holding f i. -/
def arr (n : Nat) (f : Nat → Value) : Array Value := Array.ofFn (fun i : Fin n => f i)

theorem arr_size (n : Nat) (f : Nat → Value) : (arr n f).size = n := by simp [arr]

theorem arr_get (n : Nat) (f : Nat → Value) {i : Nat} (hi : i < n) : (arr n f)[i]? = some (f i) := by
  unfold arr
  rw [Array.getElem?_eq_getElem (by simpa using hi)]
  simp

theorem eq_arr {n : Nat} {f : Nat → Value} {c : Array Value} (hn : c.size = n) (hc : ∀ i, i < n → c[i]? = some (f i)) : c = arr n f := by
  apply Array.ext_getElem?
  intro i
  by_cases hi : i < n
  · rw [hc i hi, arr_get n f hi]
  · rw [Array.getElem?_eq_none (by omega), Array.getElem?_eq_none (by rw [arr_size]; omega)]

theorem rowIs_block {w : World} {b : Nat} {t : TypeId} {n : Nat} {f : Nat → Value} (h : w.rowIs b t n f) : w.heap[b]? = some (.cells (arr n f) t (0, 0)) := by
  obtain ⟨c, hb, hn, hc⟩ := h
  rw [hb, eq_arr hn hc]

theorem rowIs_of {w : World} {b : Nat} {t : TypeId} {n : Nat} {f : Nat → Value} (h : w.heap[b]? = some (.cells (arr n f) t (0, 0))) : w.rowIs b t n f := ⟨_, h, arr_size _ _, fun _ hi => arr_get n f hi⟩

theorem setRow_at {w : World} {g : Nat} {c c' : Array Value} {t : TypeId} (h : w.heap[g]? = some (.cells c t (0, 0))) : (w.setRow g c').heap[g]? = some (.cells c' t (0, 0)) := by
  simp only [World.setRow]
  rw [Array.getElem?_modify]
  simp [h]

theorem rowIs_setRow {w : World} {g : Nat} {t : TypeId} {n : Nat} {f g' : Nat → Value} (h : w.rowIs g t n f) : (w.setRow g (arr n g')).rowIs g t n g' :=
  rowIs_of (setRow_at (rowIs_block h))

/-- A new block that a whole row is stored into. -/
theorem new_row {w w' : World} {c : Array Value} {t : TypeId} {n : Nat} {f : Nat → Value} (_hc : c.size = n) (h : (w.alloc (.cells c t (0, 0))).setRow w.heap.size (arr n f) = w') : w'.rowIs w.heap.size t n f ∧ Fr None' w w' := by
  have e : (w.alloc (.cells c t (0, 0))).heap[w.heap.size]? = some (.cells c t (0, 0)) := heap_alloc_new w _
  subst h
  refine ⟨rowIs_of (setRow_at e), (Fr.alloc None' w _).trans (Fr.setRow (M := fun i => i = w.heap.size) _ rfl _) (fun i e => Or.inr (by omega))⟩

theorem arr_one {n : Nat} {f : Nat → Value} (h : ∀ i, i < n → (f i).oneCell' = true) : (arr n f).all (·.oneCell') = true := by
  rw [Array.all_eq_true_iff_forall_mem]
  intro v hv
  obtain ⟨i, hi, rfl⟩ := Array.getElem_of_mem hv
  have hi' : i < n := by simpa [arr] using hi
  simpa [arr] using h i hi'

/-- A whole array out of a row, into a row, and out of the answer's row. -/
theorem load_arr {P : Program} {ops : Array Oper} {rest : List Oper} {o : Oper} {a : Act} {w : World} {Q : Exit → Act → World → Prop} {ty e : TypeId} {n : Nat} (hu : P.underlying ty = some (.array n e)) (hi : (P.info? ty).map (·.size) = some n)
    (g : Nat) {t : TypeId} {f : Nat → Value} (hr : w.rowIs g t n f) (x : Operand) (ho : o.op = .load ty x) (hgd : o.guard = none) (hx : a.eval x = .pointer (some ⟨g, 0, none⟩))
    (h : wpList P ops Q rest (a.put o.dst (.agg (arr n f))) w) : wpList P ops Q (o :: rest) a w :=
  wpList_load_row hgd ty x ho g hx t _ (0, 0) _ (rowIs_block hr) hu rfl (by rw [arr_size]; exact hi) h

theorem store_arr {P : Program} {ops : Array Oper} {rest : List Oper} {o : Oper} {a : Act} {w : World} {Q : Exit → Act → World → Prop} {ty : TypeId} {n : Nat} (hi : (P.info? ty).map (·.size) = some n)
    (g : Nat) {t : TypeId} {f0 f : Nat → Value} (hr : w.rowIs g t n f0) (h1 : ∀ i, i < n → (f i).oneCell' = true) (x y : Operand) (ho : o.op = .store ty x y) (hgd : o.guard = none) (hx : a.eval x = .pointer (some ⟨g, 0, none⟩)) (hy : a.eval y = .agg (arr n f)) (hd : o.dst = none)
    (h : wpList P ops Q rest a (w.setRow g (arr n f))) : wpList P ops Q (o :: rest) a w :=
  wpList_store_row hgd ty x y ho g _ hx hy t _ (rowIs_block hr) (by rw [arr_size]; exact hi) (by rw [arr_size, arr_size]) (arr_one h1) (by rw [hd]; exact h)

theorem result_arr {P : Program} {fn : Func} {p : Tmp} {ty e : TypeId} {n : Nat} (hu : P.underlying ty = some (.array n e)) (hi : (P.info? ty).map (·.size) = some n) (h : fn.results = #[.cell p ty]) (tmps : Array Value) {w : World} {g : Nat} {t : TypeId} {f : Nat → Value}
    (hp : tmps.getD p undef = .pointer (some ⟨g, 0, none⟩)) (hr : w.rowIs g t n f) : (results fn tmps).run P w = .ok (.agg (arr n f)) w :=
  results_cell_row h tmps w g t _ (0, 0) _ hp (rowIs_block hr) hu rfl (by rw [arr_size]; exact hi)

/-- Numbers of 32 bits in a row; bytes in a row. -/
def n32 (f : Nat → Int) : Nat → Value := fun i => .int .u32 (f i)
def n8 (f : Nat → Int) : Nat → Value := fun i => .int .u8 (f i)

end Go.Proofs.YtbiilnhefoplkaaGreatDoor

namespace Go.Proofs.YtbiilnhefoplkaaGreatDoor
open Go.RowKit
set_option maxRecDepth 100000

theorem getD_set {listed : Array Bool} {i j : Nat} (hi : i < listed.size) : (listed.setIfInBounds i true).getD j false = if j = i then true else listed.getD j false := by
  by_cases h : j = i
  · subst h
    rw [if_pos rfl]
    simp [Array.getD_eq_getD_getElem?, hi]
  · rw [if_neg h]
    simp [Array.getD_eq_getD_getElem?, Ne.symm h]

theorem ready_none {md : Region.Mode} {ops : Array Oper} {listed : Array Bool} (hs : listed.size = ops.size) (hord : ∀ (i : Nat) (o : Oper), ops[i]? = some o → ∀ e ∈ o.after, Region.binds md e = true → e.on < i) (hr : Region.ready md ops listed = []) : ∀ i, i < ops.size → listed.getD i false = true := by
  intro i
  induction i using Nat.strongRecOn with
  | ind i ih =>
    intro hi
    cases hb : listed.getD i false with
    | true => rfl
    | false =>
      exfalso
      have : i ∈ Region.ready md ops listed := by
        unfold Region.ready
        rw [List.mem_filter]
        refine ⟨List.mem_range.2 hi, ?_⟩
        have h1 : listed.getD i true = false := by
          simp only [Array.getD_eq_getD_getElem?] at hb ⊢
          rw [Array.getElem?_eq_getElem (by omega)] at hb ⊢
          exact hb
        rw [h1, Array.getElem?_eq_getElem hi]
        simp only [Bool.not_false, Bool.true_and, Option.map_some, Option.getD_some]
        rw [Array.all_eq_true_iff_forall_mem]
        intro e he
        cases hbd : Region.binds md e with
        | false => rfl
        | true => 
          have hlt := hord i _ (Array.getElem?_eq_getElem hi) e he hbd
          rw [ih e.on hlt (by omega)]
          rfl
      rw [hr] at this
      cases this

theorem ready_spec {md : Region.Mode} {ops : Array Oper} {listed : Array Bool} (hs : listed.size = ops.size) {i : Nat} (h : i ∈ Region.ready md ops listed) : i < ops.size ∧ listed.getD i false = false ∧ ∀ o, ops[i]? = some o → ∀ e ∈ o.after, Region.binds md e = true → listed.getD e.on false = true := by
  unfold Region.ready at h
  rw [List.mem_filter] at h
  obtain ⟨h1, h2⟩ := h
  have hi := List.mem_range.1 h1
  simp only [Bool.and_eq_true, Bool.not_eq_true'] at h2
  obtain ⟨h2, h3⟩ := h2
  refine ⟨hi, ?_, fun o ho e he hb => ?_⟩
  · simp only [Array.getD_eq_getD_getElem?] at h2 ⊢
    rw [Array.getElem?_eq_getElem (by omega)] at h2 ⊢
    exact h2
  · rw [ho] at h3
    simp only [Option.map_some, Option.getD_some] at h3
    have := (Array.all_eq_true_iff_forall_mem.1 h3) e he
    rw [hb] at this
    simpa using this

/-- How many are not listed yet. -/
def left (listed : Array Bool) : Nat := listed.toList.countP (fun b => !b)

theorem left_set {listed : Array Bool} {i : Nat} (hi : i < listed.size) (h : listed.getD i false = false) : left (listed.setIfInBounds i true) + 1 = left listed := by
  unfold left
  obtain ⟨l⟩ := listed
  simp only [List.setIfInBounds_toArray] at *
  have hi' : i < l.length := by simpa using hi
  have hx : l[i] = false := by
    simp only [Array.getD_eq_getD_getElem?, List.getElem?_toArray, List.getElem?_eq_getElem hi', Option.getD_some] at h
    exact h
  clear h hi
  induction l generalizing i with
  | nil => simp at hi'
  | cons x l ih =>
    cases i with
    | zero =>
      simp only [List.getElem_cons_zero] at hx
      subst hx
      simp
    | succ i =>
      have := ih (i := i) (by simpa using hi') (by simpa using hx)
      simp only [List.set_cons_succ, List.countP_cons] at this ⊢
      omega

/-- The law. -/
theorem any_inv {F : Fence} {n : Nat} {P : Program} {md : Region.Mode} {ops : Array Oper} {Q : Exit → Act → World → Prop} (Inv : (Nat → Bool) → Act → World → Prop) (hg : ∀ (i : Nat) (o : Oper), ops[i]? = some o → o.guard = none) (hord : ∀ (i : Nat) (o : Oper), ops[i]? = some o → ∀ e ∈ o.after, Region.binds md e = true → e.on < i)
    (hstep : ∀ (S : Nat → Bool) (a : Act) (w : World) (i : Nat) (o : Oper), Inv S a w → ops[i]? = some o → S i = false → (∀ e ∈ o.after, Region.binds md e = true → S e.on = true) → o.wpIn F n P a w (fun a' w' => Inv (fun j => if j = i then true else S j) a' w') Q)
    (hdone : ∀ (S : Nat → Bool) (a : Act) (w : World), Inv S a w → (∀ i, i < ops.size → S i = true) → Q .normal a w) :
    ∀ (fuel : Nat) (listed : Array Bool) (a : Act) (w : World), listed.size = ops.size → left listed ≤ fuel → Inv (fun j => listed.getD j false) a w → wpAnyIn F n P md ops Q fuel listed a w
  | 0, listed, a, w, hs, hl, hI => by
    have hr : Region.ready md ops listed = [] := by
      cases hr : Region.ready md ops listed with
      | nil => rfl
      | cons i rs =>
        exfalso
        obtain ⟨h1, h2, _⟩ := ready_spec hs (i := i) (by rw [hr]; exact List.mem_cons_self ..)
        have := left_set (listed := listed) (by omega) h2
        omega
    exact ⟨hr, hdone _ a w hI (ready_none hs hord hr)⟩
  | fuel + 1, listed, a, w, hs, hl, hI => by
    refine ⟨fun hr => hdone _ a w hI (ready_none hs hord hr), fun i hi => ?_⟩
    obtain ⟨h1, h2, h3⟩ := ready_spec hs hi
    have ho := Array.getElem?_eq_getElem h1
    refine wpOpIn_step ho (fun K' hK => ?_)
    rw [if_pos (by simp [Region.wanted, hg i _ ho])]
    refine Oper.wpIn_mono (fun a' w' h' => hK a' w' ?_) (hstep _ a w i _ hI ho h2 (h3 _ ho))
    refine any_inv Inv hg hord hstep hdone fuel _ a' w' (by simpa using hs) ?_ ?_
    · have := left_set (listed := listed) (by omega) h2
      omega
    · have e : (fun j => (listed.setIfInBounds i true).getD j false) = fun j => if j = i then true else listed.getD j false := funext fun j => getD_set (by omega)
      rw [e]
      exact h'

theorem left_none (n : Nat) : left (Array.replicate n false) = n := by
  simp [left, List.countP_replicate]

/-- No operation of the region has a guard; what one stands behind has a lesser number. -/
def plainOps (ops : Array Oper) : Bool := ops.all (fun o => o.guard.isNone) && (List.range ops.size).all fun i => match ops[i]? with | some o => o.after.all fun e => !Region.binds .any e || decide (e.on < i) | none => true

theorem plain_guard {ops : Array Oper} (h : plainOps ops = true) (i : Nat) (o : Oper) (ho : ops[i]? = some o) : o.guard = none := by
  unfold plainOps at h
  rw [Bool.and_eq_true] at h
  have := (Array.all_eq_true_iff_forall_mem.1 h.1) o (Array.mem_of_getElem? ho)
  simpa using this

theorem plain_ord {ops : Array Oper} (h : plainOps ops = true) (i : Nat) (o : Oper) (ho : ops[i]? = some o) (e : Edge) (he : e ∈ o.after) (hb : Region.binds .any e = true) : e.on < i := by
  unfold plainOps at h
  rw [Bool.and_eq_true] at h
  have h2 := List.all_eq_true.1 h.2 i (List.mem_range.2 (Array.getElem?_eq_some_iff.1 ho).1)
  rw [ho] at h2
  have := (Array.all_eq_true_iff_forall_mem.1 h2) e he
  rw [hb] at this
  simpa using this

/-- One more is done. -/
def upd (S : Nat → Bool) (i : Nat) : Nat → Bool := fun j => if j = i then true else S j

/-- Each operation of a row, the first of which has the number i, by itself. -/
def StepsL (F : Fence) (n : Nat) (P : Program) (Q : Exit → Act → World → Prop) (Inv : (Nat → Bool) → Act → World → Prop) (S : Nat → Bool) (a : Act) (w : World) (l : List Oper) (i : Nat) : Prop :=
  ∀ j o, l[j]? = some o → S (i + j) = false → (∀ e ∈ o.after, Region.binds .any e = true → S e.on = true) → o.wpIn F n P a w (Inv (upd S (i + j))) Q

theorem StepsL.nil {F : Fence} {n : Nat} {P : Program} {Q : Exit → Act → World → Prop} {Inv : (Nat → Bool) → Act → World → Prop} {S : Nat → Bool} {a : Act} {w : World} {i : Nat} : StepsL F n P Q Inv S a w [] i := fun j o h => by simp at h

theorem StepsL.cons {F : Fence} {n : Nat} {P : Program} {Q : Exit → Act → World → Prop} {Inv : (Nat → Bool) → Act → World → Prop} {S : Nat → Bool} {a : Act} {w : World} {i : Nat} {o : Oper} {l : List Oper} (h : S i = false → (∀ e ∈ o.after, Region.binds .any e = true → S e.on = true) → o.wpIn F n P a w (Inv (upd S i)) Q) (hs : StepsL F n P Q Inv S a w l (i + 1)) : StepsL F n P Q Inv S a w (o :: l) i := fun j o' hj => by
  cases j with
  | zero => simp at hj; subst hj; exact h
  | succ j =>
    have := hs j o' (by simpa using hj)
    rwa [show i + 1 + j = i + (j + 1) from by omega] at this

/-- A region that draws its order. -/
theorem region_inv {F : Fence} {n : Nat} {P : Program} {id : Nat} {l : List Oper} {Q : Exit → Act → World → Prop} {a : Act} {w : World} (hm : P.follows .mixedOrders = true) (hp : plainOps l.toArray = true) (Inv : (Nat → Bool) → Act → World → Prop)
    (h0 : Inv (fun _ => false) a w.drew)
    (hstep : ∀ (S : Nat → Bool) (a : Act) (w : World), Inv S a w → StepsL F n P Q Inv S a w l 0)
    (hdone : ∀ (S : Nat → Bool) (a : Act) (w : World), Inv S a w → (∀ i, i < l.length → S i = true) → Q .normal a w) : (Code.region id l.toArray true).wpIn F n P Q a w := by
  refine wpIn_region_any hm (any_inv Inv (plain_guard hp) (plain_ord hp) (fun S a w i o hI ho hS hd => ?_) (fun S a w hI h => hdone S a w hI (by simpa using h)) _ _ _ _ (by simp) (by rw [left_none]; exact Nat.le_refl _) ?_)
  · have := hstep S a w hI i o (by simpa using ho) (by simpa using hS) hd
    rw [Nat.zero_add] at this
    exact this
  · have e : (fun j => (Array.replicate l.toArray.size false).getD j false) = fun _ => false := funext fun j => by
      simp [Array.getD_eq_getD_getElem?, Array.getElem?_replicate]
      split <;> rfl
    rw [e]
    exact h0

end Go.Proofs.YtbiilnhefoplkaaGreatDoor

namespace Go.Proofs.YtbiilnhefoplkaaGreatDoor
open Go.RowKit
set_option maxRecDepth 100000

/-- One operation, guard and all. -/
def StepG (F : Fence) (n : Nat) (P : Program) (ops : Array Oper) (o : Oper) (a : Act) (w : World) (K : Act → World → Prop) (Q : Exit → Act → World → Prop) : Prop :=
  if Region.wanted o (yielded ops a.tmps) = true then o.wpIn F n P a w K Q else (∀ f, o.about P w a.eval = some f → F.fn f) ∧ K (a.put o.dst undef) w

theorem any_inv_g {F : Fence} {n : Nat} {P : Program} {md : Region.Mode} {ops : Array Oper} {Q : Exit → Act → World → Prop} (Inv : (Nat → Bool) → Act → World → Prop) (hord : ∀ (i : Nat) (o : Oper), ops[i]? = some o → ∀ e ∈ o.after, Region.binds md e = true → e.on < i)
    (hstep : ∀ (S : Nat → Bool) (a : Act) (w : World) (i : Nat) (o : Oper), Inv S a w → ops[i]? = some o → S i = false → (∀ e ∈ o.after, Region.binds md e = true → S e.on = true) → StepG F n P ops o a w (fun a' w' => Inv (fun j => if j = i then true else S j) a' w') Q)
    (hdone : ∀ (S : Nat → Bool) (a : Act) (w : World), Inv S a w → (∀ i, i < ops.size → S i = true) → Q .normal a w) :
    ∀ (fuel : Nat) (listed : Array Bool) (a : Act) (w : World), listed.size = ops.size → left listed ≤ fuel → Inv (fun j => listed.getD j false) a w → wpAnyIn F n P md ops Q fuel listed a w
  | 0, listed, a, w, hs, hl, hI => by
    have hr : Region.ready md ops listed = [] := by
      cases hr : Region.ready md ops listed with
      | nil => rfl
      | cons i rs =>
        exfalso
        obtain ⟨h1, h2, _⟩ := ready_spec hs (i := i) (by rw [hr]; exact List.mem_cons_self ..)
        have := left_set (listed := listed) (by omega) h2
        omega
    exact ⟨hr, hdone _ a w hI (ready_none hs hord hr)⟩
  | fuel + 1, listed, a, w, hs, hl, hI => by
    refine ⟨fun hr => hdone _ a w hI (ready_none hs hord hr), fun i hi => ?_⟩
    obtain ⟨h1, h2, h3⟩ := ready_spec hs hi
    have ho := Array.getElem?_eq_getElem h1
    have hgo : ∀ a' w', Inv (fun j => if j = i then true else listed.getD j false) a' w' → wpAnyIn F n P md ops Q fuel (listed.setIfInBounds i true) a' w' := fun a' w' h' => by
      refine any_inv_g Inv hord hstep hdone fuel _ a' w' (by simpa using hs) ?_ ?_
      · have := left_set (listed := listed) (by omega) h2
        omega
      · have e : (fun j => (listed.setIfInBounds i true).getD j false) = fun j => if j = i then true else listed.getD j false := funext fun j => getD_set (by omega)
        rw [e]
        exact h'
    refine wpOpIn_step ho (fun K' hK => ?_)
    have hst := hstep _ a w i _ hI ho h2 (h3 _ ho)
    unfold StepG at hst
    by_cases hw : Region.wanted ops[i] (yielded ops a.tmps) = true
    · rw [if_pos hw] at hst ⊢
      exact Oper.wpIn_mono (fun a' w' h' => hK a' w' (hgo a' w' h')) hst
    · rw [if_neg hw] at hst ⊢
      exact ⟨hst.1, hK _ _ (hgo _ _ hst.2)⟩

def ordOps (ops : Array Oper) : Bool := (List.range ops.size).all fun i => match ops[i]? with | some o => o.after.all fun e => !Region.binds .any e || decide (e.on < i) | none => true

theorem ord_ord {ops : Array Oper} (h : ordOps ops = true) (i : Nat) (o : Oper) (ho : ops[i]? = some o) (e : Edge) (he : e ∈ o.after) (hb : Region.binds .any e = true) : e.on < i := by
  unfold ordOps at h
  have h2 := List.all_eq_true.1 h i (List.mem_range.2 (Array.getElem?_eq_some_iff.1 ho).1)
  rw [ho] at h2
  have := (Array.all_eq_true_iff_forall_mem.1 h2) e he
  rw [hb] at this
  simpa using this

/-- Each operation of a row, the first of which has the number i, by itself. -/
def StepsG (F : Fence) (n : Nat) (P : Program) (ops : Array Oper) (Q : Exit → Act → World → Prop) (Inv : (Nat → Bool) → Act → World → Prop) (S : Nat → Bool) (a : Act) (w : World) (l : List Oper) (i : Nat) : Prop :=
  ∀ j o, l[j]? = some o → S (i + j) = false → (∀ e ∈ o.after, Region.binds .any e = true → S e.on = true) → StepG F n P ops o a w (Inv (upd S (i + j))) Q

theorem StepsG.nil {F : Fence} {n : Nat} {P : Program} {ops : Array Oper} {Q : Exit → Act → World → Prop} {Inv : (Nat → Bool) → Act → World → Prop} {S : Nat → Bool} {a : Act} {w : World} {i : Nat} : StepsG F n P ops Q Inv S a w [] i := fun j o h => by simp at h

theorem StepsG.cons {F : Fence} {n : Nat} {P : Program} {ops : Array Oper} {Q : Exit → Act → World → Prop} {Inv : (Nat → Bool) → Act → World → Prop} {S : Nat → Bool} {a : Act} {w : World} {i : Nat} {o : Oper} {l : List Oper} (h : S i = false → (∀ e ∈ o.after, Region.binds .any e = true → S e.on = true) → StepG F n P ops o a w (Inv (upd S i)) Q) (hs : StepsG F n P ops Q Inv S a w l (i + 1)) : StepsG F n P ops Q Inv S a w (o :: l) i := fun j o' hj => by
  cases j with
  | zero => simp at hj; subst hj; exact h
  | succ j =>
    have := hs j o' (by simpa using hj)
    rwa [show i + 1 + j = i + (j + 1) from by omega] at this

theorem StepG.want {F : Fence} {n : Nat} {P : Program} {ops : Array Oper} {o : Oper} {a : Act} {w : World} {K : Act → World → Prop} {Q : Exit → Act → World → Prop} (h : Region.wanted o (yielded ops a.tmps) = true) (hk : o.wpIn F n P a w K Q) : StepG F n P ops o a w K Q := by
  unfold StepG
  rw [if_pos h]
  exact hk

theorem StepG.none {n : Nat} {P : Program} {ops : Array Oper} {o : Oper} {a : Act} {w : World} {K : Act → World → Prop} {Q : Exit → Act → World → Prop} (h : Region.wanted o (yielded ops a.tmps) = false) (hk : K (a.put o.dst undef) w) : StepG Fence.wide n P ops o a w K Q := by
  unfold StepG
  rw [if_neg (by rw [h]; decide)]
  exact ⟨fun _ _ => trivial, hk⟩

/-- A region that draws its order. -/
theorem region_inv_g {F : Fence} {n : Nat} {P : Program} {id : Nat} {ops : Array Oper} {l : List Oper} {Q : Exit → Act → World → Prop} {a : Act} {w : World} (hm : P.follows .mixedOrders = true) (hl : ops.toList = l) (hp : ordOps ops = true) (Inv : (Nat → Bool) → Act → World → Prop)
    (h0 : Inv (fun _ => false) a w.drew)
    (hstep : ∀ (S : Nat → Bool) (a : Act) (w : World), Inv S a w → StepsG F n P ops Q Inv S a w l 0)
    (hdone : ∀ (S : Nat → Bool) (a : Act) (w : World), Inv S a w → (∀ i, i < l.length → S i = true) → Q .normal a w) : (Code.region id ops true).wpIn F n P Q a w := by
  subst hl
  refine wpIn_region_any hm (any_inv_g Inv (ord_ord hp) (fun S a w i o hI ho hS hd => ?_) (fun S a w hI h => hdone S a w hI (by simpa using h)) _ _ _ _ (by simp) (by rw [left_none]; exact Nat.le_refl _) ?_)
  · have := hstep S a w hI i o (by simpa using ho) (by simpa using hS) hd
    rw [Nat.zero_add] at this
    exact this
  · have e : (fun j => (Array.replicate ops.size false).getD j false) = fun _ => false := funext fun j => by
      simp [Array.getD_eq_getD_getElem?, Array.getElem?_replicate]
      split <;> rfl
    rw [e]
    exact h0

end Go.Proofs.YtbiilnhefoplkaaGreatDoor
