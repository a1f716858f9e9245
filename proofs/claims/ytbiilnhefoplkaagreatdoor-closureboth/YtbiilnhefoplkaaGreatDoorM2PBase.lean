/-
  What is proved here: the contracts that the statement stands on: PBase, PPlain, PRange. Conditions: as each theorem names them.
-/
import Derived.WalkKit
import Derived.WalkSpells
import Derived.Deep.OwnRows
import Derived.Deep.QuietTactic
import Derived.BigQuiet
import Derived.StillTailTactics
import Derived.Laws.Rows
import Derived.RangeFuncNested
import Derived.RangeFuncBound
import Derived.RangeFuncCalls
import Derived.RangeFuncLeaves
namespace Go.Proofs.YtbiilnhefoplkaaGreatDoor.Path
open Go.RowKit

/-- w' is w but for the blocks that M names, and for new ones. -/
structure Fr (M : Nat → Prop) (w w' : World) : Prop where
  os : w'.os = w.os
  tape : w'.tape = w.tape
  output : w'.output = w.output
  size : w.heap.size ≤ w'.heap.size
  block : ∀ k, k < w.heap.size → ¬ M k → w'.heap[k]? = w.heap[k]?

def None' : Nat → Prop := fun _ => False

theorem Fr.refl (M : Nat → Prop) (w : World) : Fr M w w := ⟨rfl, rfl, rfl, Nat.le_refl _, fun _ _ _ => rfl⟩

theorem Fr.trans {M M' : Nat → Prop} {a b c : World} (h : Fr M a b) (k : Fr M' b c) (hs : ∀ i, M' i → M i ∨ a.heap.size ≤ i) : Fr M a c :=
  ⟨k.os.trans h.os, k.tape.trans h.tape, k.output.trans h.output, Nat.le_trans h.size k.size, fun i hi hm =>
    (k.block i (Nat.lt_of_lt_of_le hi h.size) (fun e => by rcases hs i e with h1 | h1; exact hm h1; omega)).trans (h.block i hi hm)⟩

theorem Fr.then {M : Nat → Prop} {a b c : World} (h : Fr M a b) (k : Fr M b c) : Fr M a c := h.trans k (fun _ e => Or.inl e)

theorem Fr.mono {M M' : Nat → Prop} {a b : World} (h : Fr M a b) (hs : ∀ i, M i → M' i) : Fr M' a b :=
  ⟨h.os, h.tape, h.output, h.size, fun i hi hm => h.block i hi (fun e => hm (hs i e))⟩

theorem Fr.any {M : Nat → Prop} {a b : World} (h : Fr None' a b) : Fr M a b := h.mono (fun _ e => e.elim)

theorem Fr.alloc (M : Nat → Prop) (w : World) (o : Obj) : Fr M w (w.alloc o) :=
  ⟨rfl, rfl, rfl, by simp, fun k hk _ => Below.heap_alloc _ _ _ hk⟩

theorem Fr.setCell {M : Nat → Prop} (w : World) {a : Addr} (ha : M a.block) (u : Value) : Fr M w (w.setCell a u) :=
  ⟨rfl, rfl, rfl, by simp [World.setCell], fun k _ hm => Below.heap_setCell _ _ _ _ (fun e => hm (e ▸ ha))⟩

theorem Fr.grown {M : Nat → Prop} {w w' : World} {row : Option Nat} (hg : w.grownBy w' row) (hr : ∀ k, row = some k → M k) : Fr M w w' :=
  ⟨hg.os, hg.tape, hg.output, hg.size, fun k hk hm => hg.block k hk (fun e => hm (hr k e.symm))⟩

theorem Fr.drewN (M : Nat → Prop) (w : World) (n : Nat) : Fr M w (w.drewN n) := ⟨rfl, rfl, rfl, Nat.le_refl _, fun _ _ _ => rfl⟩

theorem Fr.setRow {M : Nat → Prop} (w : World) {g : Nat} (hg : M g) (c : Array Value) : Fr M w (w.setRow g c) :=
  ⟨rfl, rfl, rfl, by simp [World.setRow], fun k _ hm => by
    have hne : g ≠ k := fun e => hm (e ▸ hg)
    simp only [World.setRow]
    rw [Array.getElem?_modify, if_neg hne]⟩

theorem Fr.at {M : Nat → Prop} {w w' : World} (h : Fr M w w') {k : Nat} {o : Obj} (ho : w.heap[k]? = some o) (hm : ¬ M k) : w'.heap[k]? = some o := by
  rw [h.block k (Array.getElem?_eq_some_iff.1 ho).1 hm]; exact ho

theorem Fr.below {M : Nat → Prop} {w w' : World} (h : Fr M w w') {B : Nat} (hB : B ≤ w.heap.size) (hM : ∀ k, M k → B ≤ k) : Below B w w' :=
  ⟨h.os, h.tape, h.output, h.size, fun k hk => h.block k (by omega) (fun e => by have := hM k e; omega)⟩

theorem cell_lt {w : World} {a : Addr} {v : Value} (h : w.cell? a = some v) : a.block < w.heap.size := by
  rcases Nat.lt_or_ge a.block w.heap.size with h1 | h1
  · exact h1
  · rw [World.cell?, Array.getElem?_eq_none h1] at h; cases h

theorem Fr.cell {M : Nat → Prop} {w w' : World} (h : Fr M w w') {a : Addr} {v : Value} (hc : w.cell? a = some v) (hm : ¬ M a.block) : w'.cell? a = some v := by
  have := h.block a.block (cell_lt hc) hm
  unfold World.cell? at hc ⊢
  rw [this]; exact hc

theorem Fr.rowIs {M : Nat → Prop} {w w' : World} (h : Fr M w w') {b : Nat} {t : TypeId} {n : Nat} {f : Nat → Value} (hr : w.rowIs b t n f) (hm : ¬ M b) : w'.rowIs b t n f := hr.of_block (h.block b hr.lt hm)

/-- A region that draws its order and whose first n operations only read. -/
theorem region_tail {P : Program} {id : Nat} {Q : Exit → Act → World → Prop} {a : Act} {w : World} {l : List Oper} (n : Nat) (hm : P.follows .mixedOrders = true) (hB : Region.lexTailB .any l.toArray n = true)
    (h : wpStill P l.toArray w.drew (fun a' => wpList P l.toArray Q (l.drop n) a' w.drew) (l.take n) a) : (Code.region id l.toArray true).wp P Q a w := wp_region_still_tail n hm hB h

/-- n cells, cell i holding f i. -/
def arr (n : Nat) (f : Nat → Value) : Array Value := Array.ofFn (fun i : Fin n => f i)

theorem arr_size (n : Nat) (f : Nat → Value) : (arr n f).size = n := by simp [arr]

theorem arr_get (n : Nat) (f : Nat → Value) {i : Nat} (hi : i < n) : (arr n f)[i]? = some (f i) := by
  unfold arr
  rw [Array.getElem?_eq_getElem (by simpa using hi)]
  simp

theorem eq_arr {n : Nat} {f : Nat → Value} {c : Array Value} (hn : c.size = n) (hc : ∀ i, i < n → c[i]? = some (f i)) : c = arr n f := by
  apply Array.ext_getElem?
  intro i
  by_cases hi : i < n
  · rw [hc i hi, arr_get n f hi]
  · rw [Array.getElem?_eq_none (by omega), Array.getElem?_eq_none (by rw [arr_size]; omega)]

theorem rowIs_block {w : World} {b : Nat} {t : TypeId} {n : Nat} {f : Nat → Value} (h : w.rowIs b t n f) : w.heap[b]? = some (.cells (arr n f) t (0, 0)) := by
  obtain ⟨c, hb, hn, hc⟩ := h
  rw [hb, eq_arr hn hc]

theorem rowIs_of {w : World} {b : Nat} {t : TypeId} {n : Nat} {f : Nat → Value} (h : w.heap[b]? = some (.cells (arr n f) t (0, 0))) : w.rowIs b t n f := ⟨_, h, arr_size _ _, fun _ hi => arr_get n f hi⟩

theorem setRow_at {w : World} {g : Nat} {c c' : Array Value} {t : TypeId} (h : w.heap[g]? = some (.cells c t (0, 0))) : (w.setRow g c').heap[g]? = some (.cells c' t (0, 0)) := by
  simp only [World.setRow]
  rw [Array.getElem?_modify]
  simp [h]

theorem rowIs_setRow {w : World} {g : Nat} {t : TypeId} {n : Nat} {f g' : Nat → Value} (h : w.rowIs g t n f) : (w.setRow g (arr n g')).rowIs g t n g' :=
  rowIs_of (setRow_at (rowIs_block h))

/-- A new block that a whole row is stored into. -/
theorem new_row {w w' : World} {c : Array Value} {t : TypeId} {n : Nat} {f : Nat → Value} (_hc : c.size = n) (h : (w.alloc (.cells c t (0, 0))).setRow w.heap.size (arr n f) = w') : w'.rowIs w.heap.size t n f ∧ Fr None' w w' := by
  have e : (w.alloc (.cells c t (0, 0))).heap[w.heap.size]? = some (.cells c t (0, 0)) := heap_alloc_new w _
  subst h
  refine ⟨rowIs_of (setRow_at e), (Fr.alloc None' w _).trans (Fr.setRow (M := fun i => i = w.heap.size) _ rfl _) (fun i e => Or.inr (by omega))⟩

theorem arr_one {n : Nat} {f : Nat → Value} (h : ∀ i, i < n → (f i).oneCell' = true) : (arr n f).all (·.oneCell') = true := by
  rw [Array.all_eq_true_iff_forall_mem]
  intro v hv
  obtain ⟨i, hi, rfl⟩ := Array.getElem_of_mem hv
  have hi' : i < n := by simpa [arr] using hi
  simpa [arr] using h i hi'

/-- A whole array out of a row, into a row, and out of the answer's row. -/
theorem load_arr {P : Program} {ops : Array Oper} {rest : List Oper} {o : Oper} {a : Act} {w : World} {Q : Exit → Act → World → Prop} {ty e : TypeId} {n : Nat} (hu : P.underlying ty = some (.array n e)) (hi : (P.info? ty).map (·.size) = some n)
    (g : Nat) {t : TypeId} {f : Nat → Value} (hr : w.rowIs g t n f) (x : Operand) (ho : o.op = .load ty x) (hgd : o.guard = none) (hx : a.eval x = .pointer (some ⟨g, 0, none⟩))
    (h : wpList P ops Q rest (a.put o.dst (.agg (arr n f))) w) : wpList P ops Q (o :: rest) a w :=
  wpList_load_row hgd ty x ho g hx t _ (0, 0) _ (rowIs_block hr) hu rfl (by rw [arr_size]; exact hi) h

theorem store_arr {P : Program} {ops : Array Oper} {rest : List Oper} {o : Oper} {a : Act} {w : World} {Q : Exit → Act → World → Prop} {ty : TypeId} {n : Nat} (hi : (P.info? ty).map (·.size) = some n)
    (g : Nat) {t : TypeId} {f0 f : Nat → Value} (hr : w.rowIs g t n f0) (h1 : ∀ i, i < n → (f i).oneCell' = true) (x y : Operand) (ho : o.op = .store ty x y) (hgd : o.guard = none) (hx : a.eval x = .pointer (some ⟨g, 0, none⟩)) (hy : a.eval y = .agg (arr n f)) (hd : o.dst = none)
    (h : wpList P ops Q rest a (w.setRow g (arr n f))) : wpList P ops Q (o :: rest) a w :=
  wpList_store_row hgd ty x y ho g _ hx hy t _ (rowIs_block hr) (by rw [arr_size]; exact hi) (by rw [arr_size, arr_size]) (arr_one h1) (by rw [hd]; exact h)

theorem result_arr {P : Program} {fn : Func} {p : Tmp} {ty e : TypeId} {n : Nat} (hu : P.underlying ty = some (.array n e)) (hi : (P.info? ty).map (·.size) = some n) (h : fn.results = #[.cell p ty]) (tmps : Array Value) {w : World} {g : Nat} {t : TypeId} {f : Nat → Value}
    (hp : tmps.getD p undef = .pointer (some ⟨g, 0, none⟩)) (hr : w.rowIs g t n f) : (results fn tmps).run P w = .ok (.agg (arr n f)) w :=
  results_cell_row h tmps w g t _ (0, 0) _ hp (rowIs_block hr) hu rfl (by rw [arr_size]; exact hi)

/-- Numbers of 32 bits in a row; bytes in a row. -/
def n32 (f : Nat → Int) : Nat → Value := fun i => .int .u32 (f i)
def n8 (f : Nat → Int) : Nat → Value := fun i => .int .u8 (f i)

end Go.Proofs.YtbiilnhefoplkaaGreatDoor.Path

namespace Go.Proofs.YtbiilnhefoplkaaGreatDoor.Path

abbrev Bs := List UInt8

def good (c : UInt8) : Bool := decide (c.toNat = 46) || decide (c.toNat = 95) || decide (c.toNat = 45) || (decide (97 ≤ c.toNat) && decide (c.toNat ≤ 122)) || (decide (48 ≤ c.toNat) && decide (c.toNat ≤ 57))

def goodPart (l : Bs) : Bool := decide (1 ≤ l.length) && decide (l.length ≤ 16) && !(decide (l = [46])) && !(decide (l = [46, 46])) && l.all good

def parts : Bs → List Bs
  | [] => [[]]
  | c :: r => if c = 47 then [] :: parts r else (match parts r with | [] => [[c]] | h :: t => (c :: h) :: t)

def right (p : Bs) : Bool := decide ((parts p).length ≤ 8) && (parts p).all goodPart

def opens : Bs → Bool
  | [] => true
  | c :: _ => decide (c = 47)

def within (p q : Bs) : Bool := q.isPrefixOf p && opens (p.drop q.length)

def apart (p q : Bs) : Bool := !within p q && !within q p

def parent : Bs → Option Bs
  | [] => none
  | c :: r => match parent r with | some a => some (c :: a) | none => if c = 47 then some [] else none

theorem parts_ne (p : Bs) : parts p ≠ [] := by
  cases p with
  | nil => simp [parts]
  | cons c r =>
    unfold parts
    split
    · simp
    · split <;> simp

theorem parts_cons {p : Bs} : ∃ h t, parts p = h :: t := by
  cases e : parts p with
  | nil => exact absurd e (parts_ne p)
  | cons h t => exact ⟨h, t, rfl⟩

theorem parts_slash (p : Bs) : parts (47 :: p) = [] :: parts p := by simp [parts]

theorem parts_other {c : UInt8} (hc : c ≠ 47) {p h : Bs} {t : List Bs} (e : parts p = h :: t) : parts (c :: p) = (c :: h) :: t := by
  rw [parts, if_neg hc, e]

theorem parts_one {p : Bs} (h : (47 : UInt8) ∉ p) : parts p = [p] := by
  induction p with
  | nil => rfl
  | cons c r ih =>
    simp only [List.mem_cons, not_or] at h
    exact parts_other (fun e => h.1 e.symm) (ih h.2)

theorem parts_join (p q : Bs) : parts (p ++ 47 :: q) = parts p ++ parts q := by
  induction p with
  | nil => simp [parts]
  | cons c r ih =>
    by_cases hc : c = 47
    · subst hc; simp [parts_slash, ih]
    · obtain ⟨h, t, e⟩ := parts_cons (p := r)
      rw [List.cons_append, parts_other hc e, parts_other (h := h) (t := t ++ parts q) hc (by rw [ih, e]; rfl)]
      rfl

theorem parts_length (p : Bs) : (parts p).length = p.count 47 + 1 := by
  induction p with
  | nil => rfl
  | cons c r ih =>
    by_cases hc : c = 47
    · subst hc; simp [parts_slash, ih]
    · obtain ⟨h, t, e⟩ := parts_cons (p := r)
      rw [parts_other hc e, List.count_cons_of_ne hc, ← ih, e]; rfl

/-- The last part is what ends the text. -/
theorem parts_snoc (p : Bs) (c : UInt8) (hc : c ≠ 47) : ∃ t l, parts (p ++ [c]) = t ++ [l ++ [c]] := by
  induction p with
  | nil => exact ⟨[], [], by rw [List.nil_append, parts_other hc (p := []) (h := []) (t := []) rfl]; rfl⟩
  | cons d r ih =>
    obtain ⟨t, l, e⟩ := ih
    by_cases hd : d = 47
    · subst hd
      exact ⟨[] :: t, l, by rw [List.cons_append, parts_slash, e]; rfl⟩
    · cases t with
      | nil => exact ⟨[], d :: l, by rw [List.cons_append, parts_other hd (p := r ++ [c]) (h := l ++ [c]) (t := []) (by simpa using e)]; rfl⟩
      | cons h t => exact ⟨(d :: h) :: t, l, by rw [List.cons_append, parts_other hd (p := r ++ [c]) (h := h) (t := t ++ [l ++ [c]]) (by simpa using e)]; rfl⟩

theorem right_iff (p : Bs) : right p = true ↔ (parts p).length ≤ 8 ∧ ∀ l ∈ parts p, goodPart l = true := by
  simp [right]

theorem goodPart_nil : goodPart [] = false := rfl

theorem goodPart_ends {l : Bs} {c : UInt8} (h : good c = false) : goodPart (l ++ [c]) = false := by
  simp [goodPart, h]

theorem right_join {p q : Bs} : right (p ++ 47 :: q) = true ↔ (parts p).length + (parts q).length ≤ 8 ∧ (∀ l ∈ parts p, goodPart l = true) ∧ (∀ l ∈ parts q, goodPart l = true) := by
  rw [right_iff, parts_join, List.length_append]
  simp only [List.mem_append]
  constructor
  · rintro ⟨h1, h2⟩; exact ⟨h1, fun l hl => h2 l (.inl hl), fun l hl => h2 l (.inr hl)⟩
  · rintro ⟨h1, h2, h3⟩; exact ⟨h1, fun l hl => hl.elim (h2 l) (h3 l)⟩

theorem not_right_end (p : Bs) : right (p ++ [47]) = false := by
  cases h : right (p ++ [47]) with
  | false => rfl
  | true =>
    have := (right_join (p := p) (q := [])).1 h
    exact absurd (this.2.2 [] (by simp [parts])) (by decide)

theorem not_right_head (p : Bs) : right (47 :: p) = false := by
  cases h : right (47 :: p) with
  | false => rfl
  | true => exact absurd ((right_iff _).1 h).2 (fun k => absurd (k [] (by simp [parts_slash])) (by decide))

theorem not_right_odd (p : Bs) {c : UInt8} (hc : c ≠ 47) (hg : good c = false) : right (p ++ [c]) = false := by
  cases h : right (p ++ [c]) with
  | false => rfl
  | true =>
    obtain ⟨t, l, e⟩ := parts_snoc p c hc
    have := ((right_iff _).1 h).2 (l ++ [c]) (by rw [e]; simp)
    rw [goodPart_ends hg] at this; cases this

/-- With a right part behind. -/
theorem right_part {p r : Bs} (hp : right p = true) (hr : (47 : UInt8) ∉ r) : right (p ++ 47 :: r) = (right r && decide (p.count 47 + 1 < 8)) := by
  have h1 := (right_iff p).1 hp
  rw [Bool.eq_iff_iff, right_join, Bool.and_eq_true, right_iff, parts_one hr, parts_length]
  simp only [List.length_singleton, List.mem_singleton, forall_eq, decide_eq_true_eq]
  constructor
  · rintro ⟨h2, _, h4⟩; exact ⟨⟨by omega, h4⟩, by omega⟩
  · rintro ⟨⟨_, h4⟩, h5⟩; exact ⟨by omega, h1.2, h4⟩

theorem parent_some {p a : Bs} (h : parent p = some a) : ∃ b, p = a ++ 47 :: b ∧ (47 : UInt8) ∉ b := by
  induction p generalizing a with
  | nil => cases h
  | cons c r ih =>
    unfold parent at h
    cases e : parent r with
    | some a' => rw [e] at h; cases h; obtain ⟨b, e1, e2⟩ := ih e; exact ⟨b, by rw [e1]; rfl, e2⟩
    | none =>
      rw [e] at h
      by_cases hc : c = 47
      · subst hc
        simp at h
        subst h
        refine ⟨r, rfl, fun hm => ?_⟩
        clear ih
        induction r with
        | nil => cases hm
        | cons d s ih2 =>
          unfold parent at e
          cases e2 : parent s with
          | some _ => rw [e2] at e; cases e
          | none =>
            rw [e2] at e
            by_cases hd : d = 47
            · simp [hd] at e
            · exact ih2 e2 (by simpa [Ne.symm hd] using hm)
      · simp [hc] at h

theorem parent_none {p : Bs} (h : (47 : UInt8) ∉ p) : parent p = none := by
  induction p with
  | nil => rfl
  | cons c r ih =>
    simp only [List.mem_cons, not_or] at h
    rw [parent, ih h.2]
    simp [Ne.symm h.1]

theorem parent_join (a : Bs) {b : Bs} (h : (47 : UInt8) ∉ b) : parent (a ++ 47 :: b) = some a := by
  induction a with
  | nil => rw [List.nil_append, parent, parent_none h]; simp
  | cons c r ih => rw [List.cons_append, parent, ih]

theorem within_iff (p q : Bs) : within p q = true ↔ p = q ∨ ∃ r, p = q ++ 47 :: r := by
  unfold within
  rw [Bool.and_eq_true, List.isPrefixOf_iff_prefix]
  constructor
  · rintro ⟨⟨r, rfl⟩, h⟩
    rw [List.drop_left] at h
    cases r with
    | nil => exact .inl (by simp)
    | cons c r =>
      simp [opens] at h
      subst h
      exact .inr ⟨r, rfl⟩
  · rintro (rfl | ⟨r, rfl⟩)
    · exact ⟨List.prefix_refl _, by simp [opens]⟩
    · exact ⟨List.prefix_append _ _, by rw [List.drop_left]; rfl⟩

theorem within_refl (p : Bs) : within p p = true := (within_iff _ _).2 (.inl rfl)

theorem within_trans {p q s : Bs} (h : within p q = true) (k : within q s = true) : within p s = true := by
  rw [within_iff] at *
  rcases h with rfl | ⟨r, rfl⟩
  · exact k
  · rcases k with rfl | ⟨t, rfl⟩
    · exact .inr ⟨r, rfl⟩
    · exact .inr ⟨t ++ 47 :: r, by simp⟩

theorem within_long {p q : Bs} (h : within p q = true) : p = q ∨ q.length < p.length := by
  rcases (within_iff _ _).1 h with rfl | ⟨r, rfl⟩
  · exact .inl rfl
  · exact .inr (by simp)

theorem within_both {p q : Bs} (h : within p q = true) (k : within q p = true) : p = q := by
  rcases within_long h with e | e
  · exact e
  · rcases within_long k with e' | e'
    · exact e'.symm
    · omega

theorem within_join (p r : Bs) : within (p ++ 47 :: r) p = true := (within_iff _ _).2 (.inr ⟨r, rfl⟩)

theorem not_within_join (p r : Bs) : within p (p ++ 47 :: r) = false := by
  cases h : within p (p ++ 47 :: r) with
  | false => rfl
  | true => rcases within_long h with e | e <;> simp at e; omega

theorem within_same (p a b : Bs) : within (p ++ 47 :: a) (p ++ 47 :: b) = within a b := by
  rw [Bool.eq_iff_iff, within_iff, within_iff]
  simp [List.append_assoc]

theorem right_parent {p a : Bs} (hp : right p = true) (h : parent p = some a) : right a = true ∧ within p a = true ∧ within a p = false := by
  obtain ⟨b, rfl, hb⟩ := parent_some h
  obtain ⟨h1, h2, _⟩ := right_join.1 hp
  exact ⟨(right_iff _).2 ⟨by omega, h2⟩, within_join _ _, not_within_join _ _⟩

theorem apart_comm (p q : Bs) : apart p q = apart q p := by simp [apart, Bool.and_comm]

theorem apart_self (p : Bs) : apart p p = false := by simp [apart, within_refl]

theorem apart_same (p a b : Bs) : apart (p ++ 47 :: a) (p ++ 47 :: b) = apart a b := by simp [apart, within_same]

def moved (p q t : Bs) : Bs := if within p q then t ++ p.drop q.length else []

theorem moved_join (q r t : Bs) : moved (q ++ 47 :: r) q t = t ++ 47 :: r := by
  rw [moved, if_pos (within_join _ _), List.drop_left]

theorem moved_self (q t : Bs) : moved q q t = t := by
  rw [moved, if_pos (within_refl _)]; simp

end Go.Proofs.YtbiilnhefoplkaaGreatDoor.Path

namespace Go.Proofs.YtbiilnhefoplkaaGreatDoor.Path
open Go.RowKit

/-- J abides whatever is done to the blocks that M names, and new ones. -/
def Abide {β : Type} (M : Nat → Prop) (J : β → World → Prop) : Prop := ∀ s A B, J s A → Fr M A B → J s B

/-- The contract of an iterator that may turn the blocks of M between two rounds; Kp: what a round keeps. -/
def SeqM {α : Type} (F : Fence) (n : Nat) (P : Program) (g : Nat) (lb : Array Value) (encs : α → Array Value) (M : Nat → Prop) (Kp : World → World → Prop) (S Sp : List α → Prop) (St : World → Prop) : Prop :=
  ∀ (l : Nat) (J Jx : List α → World → Prop) (W : World), St W → Abide M J → Abide M Jx →
    (∀ pre x W1, J pre W1 → YieldAt F (n - 1) P l (encs x) W1 fun e W' =>
      (e = .returned (.bool true) ∧ J (pre ++ [x]) W' ∧ Kp W1 W') ∨ (e = .returned (.bool false) ∧ Jx (pre ++ [x]) W')) →
    J [] W →
    CallsIn F n P g (#[.func (.yield l) #[] #[]] ++ lb) W fun e W' => (∃ v, e = .returned v) ∧ ((∃ xs, S xs ∧ J xs W') ∨ (∃ pre, Sp pre ∧ Jx pre W'))

theorem Fr.putObj {M : Nat → Prop} (w : World) {l : Nat} (hl : M l) (o : Obj) : Fr M w (w.putObj l o) :=
  ⟨rfl, rfl, rfl, by simp, fun k _ hm => World.putObj_heap_other (fun e => hm (e ▸ hl))⟩

variable {F : Fence} {n : Nat} {P : Program}

theorem range_own {α : Type} {g : Operand} {ps : Array Tmp} {assign body : Code} {Q : Exit → Act → World → Prop} {a : Act} {w : World}
    (hro : F.round = none) (h1 : 1 ≤ n) {gf : Nat} {lb : Array Value} (hg : a.eval g = .func (.func gf) #[] lb) (hFg : F.fn gf) (eg : ∀ args w, (callFunc gf args).run P w = .ok (.enter gf args) w)
    {encs : α → Array Value} {M : Nat → Prop} {Kp : World → World → Prop} {S Sp : List α → Prop} {St : World → Prop} (hseq : SeqM F (n - 1) P gf lb encs M Kp S Sp St)
    (hM : ∀ k, M k → k < w.heap.size) (hSt : ∀ W, Below w.heap.size w W → St W)
    (hKt : ∀ {A B C : World}, Kp A B → Kp B C → Kp A C) (hKb : ∀ (W : World) (l : Nat) (o' : Obj), w.heap.size ≤ l → Kp W (W.putObj l o'))
    (hps : ∀ x, (encs x).size = ps.size)
    (I : List α → World → Prop) (Ix : Code → List α → World → Prop) (hI : Abide (fun k => M k ∨ w.heap.size ≤ k) I) (hIx : ∀ c, Abide (fun k => M k ∨ w.heap.size ≤ k) (Ix c)) (h0 : I [] w) (a₁ : α → Act)
    (hassign : ∀ (l : Nat) (x : α) (W : World) (K : Act → World → Prop), K (a₁ x) W →
      assign.wpIn (F.inRound l) (n - 1 - 1) P (Exit.then K (fun _ _ _ => False)) { tmps := (ps.zip (encs x)).foldl (fun t (p, v) => t.setIfInBounds p v) a.tmps, defers := [] } W)
    (hbody : ∀ (l : Nat) (pre : List α) (x : α) (W : World), I pre W → w.heap.size ≤ l → body.wpIn (F.inRound l) (n - 1 - 1) P (ownPostK Kp I Ix (pre ++ [x]) W) (a₁ x) W)
    (hdone : ∀ (D : Nat) (xs : List α) (W : World), S xs → I xs W → W.heap[D]? = some (.deferred (some [])) → w.heap.size ≤ D → Q .normal { a with defers := { target := .collected D, args := #[] } :: a.defers } W)
    (hstop : ∀ (D : Nat) (c : Code) (pre : List α) (W : World), Sp pre → Ix c pre W → W.heap[D]? = some (.deferred (some [])) → w.heap.size ≤ D → c.wpIn F n P Q { a with defers := { target := .collected D, args := #[] } :: a.defers } W) :
    (Code.rangeFunc g ps assign body).wpIn F n P Q a w := by
  refine wpIn_rangeFunc fun fn hfn => ?_
  rw [hro]
  obtain ⟨R, hR⟩ : ∃ R : LoopState → Option Code → Loop, R = fun st pe => { state := st, pending := pe, fn, tmps := a.tmps, params := ps, assign, body, defers := w.heap.size } := ⟨_, rfl⟩
  obtain ⟨V, hV⟩ : ∃ V, (w.alloc (.deferred (some []))).alloc (.loop (R .ready none)) = V := ⟨_, rfl⟩
  have hL : V.heap[w.heap.size + 1]? = some (.loop (R .ready none)) := by
    rw [← hV]; simpa using World.alloc_heap_new (w.alloc (.deferred (some []))) (.loop (R .ready none))
  have hD : V.heap[w.heap.size]? = some (.deferred (some [])) := by
    rw [← hV]; exact (Below.heap_alloc _ _ _ (by simp)).trans (World.alloc_heap_new w _)
  have hIV : I [] V := by
    rw [← hV]; exact hI _ _ _ (hI _ _ _ h0 (Fr.alloc _ _ _)) (Fr.alloc _ _ _)
  have hBV : Below w.heap.size w V := by rw [← hV]; exact ((Below.refl _ w).alloc (Nat.le_refl _) _).alloc (by simp) _
  -- what the law itself does to its two blocks
  have far : ∀ {W : World} {k : Nat} (o : Obj), w.heap.size ≤ k → Fr (fun k => M k ∨ w.heap.size ≤ k) W (W.putObj k o) := fun o hk => Fr.putObj _ (.inr hk) o
  have wide : ∀ {A B : World}, Fr M A B → Fr (fun k => M k ∨ w.heap.size ≤ k) A B := fun h => h.mono (fun _ e => .inl e)
  have nM : ∀ {k : Nat}, w.heap.size ≤ k → ¬ M k := fun hk hm => by have := hM _ hm; omega
  refine ⟨w.heap.size + 1, [{ target := .collected w.heap.size, args := #[] }], V, { target := .fn (.func gf) lb, args := #[.func (.yield (w.heap.size + 1)) #[] #[]] }, V, gf,
    #[.func (.yield (w.heap.size + 1)) #[] #[]] ++ lb, V, by rw [← hV, hR]; exact run_enterLoop_outer _ _ _ _ _, by simp only [resolve, hg]; simp [go_sem], ?_, by simp [invoke, go_sem, eg], fun _ => h1, ?_⟩
  · intro f' hf'; simp [Target.leads] at hf'; subst hf'; exact hFg
  refine (hseq (w.heap.size + 1)
    (fun pre W => I pre W ∧ W.heap[w.heap.size + 1]? = some (.loop (R .ready none)) ∧ W.heap[w.heap.size]? = some (.deferred (some [])))
    (fun pre W => ∃ c, Ix c pre W ∧ W.heap[w.heap.size + 1]? = some (.loop (R .done (some c))) ∧ W.heap[w.heap.size]? = some (.deferred (some [])))
    V (hSt _ hBV)
    (fun s A B hs hf => ⟨hI _ _ _ hs.1 (wide hf), hf.at hs.2.1 (nM (by omega)), hf.at hs.2.2 (nM (by omega))⟩)
    (fun s A B ⟨c, hc, hl, hk⟩ hf => ⟨c, hIx c _ _ _ hc (wide hf), hf.at hl (nM (by omega)), hf.at hk (nM (by omega))⟩)
    ?_ ⟨hIV, hL, hD⟩).mono ?_
  · rintro pre x W ⟨hi, hl, hk⟩
    have hy := run_yield (P := P) (args := encs x) hl (by rw [hR]; exact hps x)
    rw [hR] at hy
    refine ⟨fn, _, assign, body, hy, roundIn_of_wpIn hfn (hassign _ x W _ ⟨_, run_beginRound hl (by rw [hR]), ?_⟩)⟩
    obtain ⟨W2, hW2⟩ : ∃ W2, W.putObj (w.heap.size + 1) (.loop { R .ready none with state := .busy }) = W2 := ⟨_, rfl⟩
    have hl2 : W2.heap[w.heap.size + 1]? = some (.loop { R .ready none with state := .busy }) := by
      rw [← hW2]; exact World.putObj_heap_same (Array.getElem?_eq_some_iff.1 hl).1
    have hk2 : W2.heap[w.heap.size]? = some (.deferred (some [])) := by rw [← hW2]; exact (World.putObj_heap_other (by omega)).trans hk
    have hp2 : Kp W W2 := by rw [← hW2]; exact hKb _ _ _ (by omega)
    have hi2 : I pre W2 := by rw [← hW2]; exact hI _ _ _ hi (far _ (by omega))
    rw [hW2]
    refine wpIn_mono (hbody _ pre x W2 hi2 (by omega)) ?_
    have fin : ∀ (jump : Option Code) (W3 : World), KeepsOthers W2 W3 →
        (Instr.endRound (w.heap.size + 1) jump).run P W3 = .ok (.bool jump.isNone) (W3.putObj (w.heap.size + 1) (.loop (R (if jump.isNone then .ready else .done) jump))) ∧
        (W3.putObj (w.heap.size + 1) (.loop (R (if jump.isNone then .ready else .done) jump))).heap[w.heap.size + 1]? = some (.loop (R (if jump.isNone then .ready else .done) jump)) ∧
        (W3.putObj (w.heap.size + 1) (.loop (R (if jump.isNone then .ready else .done) jump))).heap[w.heap.size]? = some (.deferred (some [])) := fun jump W3 h3 => by
      have hl3 := h3.same _ _ hl2 rfl
      have := run_endRound (P := P) jump hl3
      rw [hR] at this ⊢
      exact ⟨this, World.putObj_heap_same (Array.getElem?_eq_some_iff.1 hl3).1, (World.putObj_heap_other (by omega)).trans (h3.same _ _ hk2 rfl)⟩
    rintro e a3 W3 hp
    cases e with
    | normal =>
      obtain ⟨h3, hkp, hi3⟩ := hp
      obtain ⟨hr, hl4, hk4⟩ := fin none W3 h3
      exact ⟨_, _, hr, .inl ⟨rfl, ⟨hI _ _ _ hi3 (far _ (by omega)), hl4, hk4⟩, hKt (hKt hp2 hkp) (hKb _ _ _ (by omega))⟩⟩
    | ret =>
      obtain ⟨h3, hi3⟩ := hp
      obtain ⟨hr, hl4, hk4⟩ := fin (some .ret) W3 h3
      exact ⟨_, _, hr, .inr ⟨rfl, .ret, hIx _ _ _ _ hi3 (far _ (by omega)), hl4, hk4⟩⟩
    | exit id =>
      obtain ⟨h3, hi3⟩ := hp
      obtain ⟨hr, hl4, hk4⟩ := fin (some (.exit id)) W3 h3
      exact ⟨_, _, hr, .inr ⟨rfl, .exit id, hIx _ _ _ _ hi3 (far _ (by omega)), hl4, hk4⟩⟩
    | goto t =>
      obtain ⟨h3, hi3⟩ := hp
      obtain ⟨hr, hl4, hk4⟩ := fin (some (.goto t)) W3 h3
      exact ⟨_, _, hr, .inr ⟨rfl, .goto t, hIx _ _ _ _ hi3 (far _ (by omega)), hl4, hk4⟩⟩
    | panic ch => exact hp.elim
    | outgrown => exact hp.elim
  · rintro e W2 ⟨⟨v, rfl⟩, (⟨xs, hS, hi, hl, hk⟩ | ⟨pre, hSp, c, hi, hl, hk⟩)⟩
    · exact ⟨none, _, by have := run_endLoop (P := P) hl (by rw [hR]; simp); rw [hR] at this; exact this, hdone _ xs _ hS (hI _ _ _ hi (far _ (by omega))) ((World.putObj_heap_other (by omega)).trans hk) (by omega)⟩
    · exact ⟨some c, _, by have := run_endLoop (P := P) hl (by rw [hR]; simp); rw [hR] at this; exact this, hstop _ c pre _ hSp (hIx c _ _ _ hi (far _ (by omega))) ((World.putObj_heap_other (by omega)).trans hk) (by omega)⟩

end Go.Proofs.YtbiilnhefoplkaaGreatDoor.Path
