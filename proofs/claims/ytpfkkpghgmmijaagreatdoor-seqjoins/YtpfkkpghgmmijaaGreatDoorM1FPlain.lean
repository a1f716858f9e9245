/-
  What is proved here: the contracts that the statement stands on: FPlain, FBase, FVals, FPut, FRange, FBack. Conditions: as each theorem names them.
-/
import Derived.KernelRfl
import Derived.WalkKit
import Derived.WalkSpells
import Derived.Deep.OwnRows
import Derived.Deep.QuietTactic
import Derived.BigQuiet
import Derived.StillTailTactics
import Derived.Laws.Rows
import Derived.Test.YtpfkkpghgmmijaaGreatDoorProg
import Derived.Maps.AppendAt
import Derived.Laws.AppendOwnNone
import Derived.OwnWalk
import Derived.Deep.AppendLies
import Derived.Laws.FloatArith
import Derived.RangeFuncNested
import Derived.RangeFuncBound
import Derived.RangeFuncCalls
import Derived.RangeFuncLeaves
import Derived.Shelf.Abstract
import Derived.Shelf.RegionOpen
import Derived.OwnWalkIn
import Derived.TacticsInMore
import Derived.LoopNIn
import Derived.LoopIn
namespace Go.Proofs.YtpfkkpghgmmijaaGreatDoor.Diff

section
variable {α : Type} [DecidableEq α]
set_option linter.unusedSectionVars false

/-- A hunk: where, what goes, what comes. -/
structure Hk (α : Type) where
  at' : Nat
  o : List α
  n : List α
  deriving DecidableEq

/-- What a hunk makes of lines. -/
def apply1 (l : List α) (h : Hk α) : Option (List α) := if h.at' ≤ l.length ∧ (l.drop h.at').take h.o.length = h.o then some (l.take h.at' ++ h.n ++ l.drop (h.at' + h.o.length)) else none

end

/-- Numbers that can be kept, with minus infinity: none. -/
def kmax : Option Nat → Option Nat → Option Nat
  | none, v => v
  | some u, none => some u
  | some u, some v => some (max u v)

def klt : Option Nat → Option Nat → Bool
  | _, none => false
  | none, some _ => true
  | some u, some v => decide (u < v)

def kept : List Int → List Int → Option Nat
  | [], [] => some 0
  | [], _ :: _ => none
  | _ :: _, [] => none
  | x :: a, y :: b => if x = y then (kept a b).map (· + 1) else kmax (kept (x :: a) b) (kept a (y :: b))
termination_by a b => a.length + b.length

end Go.Proofs.YtpfkkpghgmmijaaGreatDoor.Diff

namespace Go.Proofs.YtpfkkpghgmmijaaGreatDoor.Diff
open Go.RowKit

/-- w' is w but for the blocks that M names, and for new ones. -/
structure Fr (M : Nat → Prop) (w w' : World) : Prop where
  os : w'.os = w.os
  tape : w'.tape = w.tape
  output : w'.output = w.output
  size : w.heap.size ≤ w'.heap.size
  block : ∀ k, k < w.heap.size → ¬ M k → w'.heap[k]? = w.heap[k]?

def None' : Nat → Prop := fun _ => False

theorem Fr.refl (M : Nat → Prop) (w : World) : Fr M w w := ⟨rfl, rfl, rfl, Nat.le_refl _, fun _ _ _ => rfl⟩

theorem Fr.trans {M M' : Nat → Prop} {a b c : World} (h : Fr M a b) (k : Fr M' b c) (hs : ∀ i, M' i → M i ∨ a.heap.size ≤ i) : Fr M a c :=
  ⟨k.os.trans h.os, k.tape.trans h.tape, k.output.trans h.output, Nat.le_trans h.size k.size, fun i hi hm =>
    (k.block i (Nat.lt_of_lt_of_le hi h.size) (fun e => by rcases hs i e with h1 | h1; exact hm h1; omega)).trans (h.block i hi hm)⟩

theorem Fr.then {M : Nat → Prop} {a b c : World} (h : Fr M a b) (k : Fr M b c) : Fr M a c := h.trans k (fun _ e => Or.inl e)

theorem Fr.mono {M M' : Nat → Prop} {a b : World} (h : Fr M a b) (hs : ∀ i, M i → M' i) : Fr M' a b :=
  ⟨h.os, h.tape, h.output, h.size, fun i hi hm => h.block i hi (fun e => hm (hs i e))⟩

theorem Fr.any {M : Nat → Prop} {a b : World} (h : Fr None' a b) : Fr M a b := h.mono (fun _ e => e.elim)

theorem Fr.alloc (M : Nat → Prop) (w : World) (o : Obj) : Fr M w (w.alloc o) :=
  ⟨rfl, rfl, rfl, by simp, fun k hk _ => Below.heap_alloc _ _ _ hk⟩

theorem Fr.setCell {M : Nat → Prop} (w : World) {a : Addr} (ha : M a.block) (u : Value) : Fr M w (w.setCell a u) :=
  ⟨rfl, rfl, rfl, by simp [World.setCell], fun k _ hm => Below.heap_setCell _ _ _ _ (fun e => hm (e ▸ ha))⟩

theorem Fr.grown {M : Nat → Prop} {w w' : World} {row : Option Nat} (hg : w.grownBy w' row) (hr : ∀ k, row = some k → M k) : Fr M w w' :=
  ⟨hg.os, hg.tape, hg.output, hg.size, fun k hk hm => hg.block k hk (fun e => hm (hr k e.symm))⟩

theorem Fr.drewN (M : Nat → Prop) (w : World) (n : Nat) : Fr M w (w.drewN n) := ⟨rfl, rfl, rfl, Nat.le_refl _, fun _ _ _ => rfl⟩

theorem Fr.setRow {M : Nat → Prop} (w : World) {g : Nat} (hg : M g) (c : Array Value) : Fr M w (w.setRow g c) :=
  ⟨rfl, rfl, rfl, by simp [World.setRow], fun k _ hm => by
    have hne : g ≠ k := fun e => hm (e ▸ hg)
    simp only [World.setRow]
    rw [Array.getElem?_modify, if_neg hne]⟩

theorem Fr.at {M : Nat → Prop} {w w' : World} (h : Fr M w w') {k : Nat} {o : Obj} (ho : w.heap[k]? = some o) (hm : ¬ M k) : w'.heap[k]? = some o := by
  rw [h.block k (Array.getElem?_eq_some_iff.1 ho).1 hm]; exact ho

theorem Fr.below {M : Nat → Prop} {w w' : World} (h : Fr M w w') {B : Nat} (hB : B ≤ w.heap.size) (hM : ∀ k, M k → B ≤ k) : Below B w w' :=
  ⟨h.os, h.tape, h.output, h.size, fun k hk => h.block k (by omega) (fun e => by have := hM k e; omega)⟩

theorem cell_lt {w : World} {a : Addr} {v : Value} (h : w.cell? a = some v) : a.block < w.heap.size := by
  rcases Nat.lt_or_ge a.block w.heap.size with h1 | h1
  · exact h1
  · rw [World.cell?, Array.getElem?_eq_none h1] at h; cases h

theorem Fr.cell {M : Nat → Prop} {w w' : World} (h : Fr M w w') {a : Addr} {v : Value} (hc : w.cell? a = some v) (hm : ¬ M a.block) : w'.cell? a = some v := by
  have := h.block a.block (cell_lt hc) hm
  unfold World.cell? at hc ⊢
  rw [this]; exact hc

theorem setRow_at {w : World} {g : Nat} {c c' : Array Value} {t : TypeId} (h : w.heap[g]? = some (.cells c t (0, 0))) : (w.setRow g c').heap[g]? = some (.cells c' t (0, 0)) := by
  simp only [World.setRow]
  rw [Array.getElem?_modify]
  simp [h]

end Go.Proofs.YtpfkkpghgmmijaaGreatDoor.Diff

namespace Go.Proofs.YtpfkkpghgmmijaaGreatDoor.Diff
open Go.RowKit
set_option maxRecDepth 100000

theorem ret_int {k : IntKind} {a b : Int} (h : a = b) : Ending.returned (.int k a) = .returned (.int k b) := by rw [h]
theorem ret_bool {a b : Bool} (h : a = b) : Ending.returned (.bool a) = .returned (.bool b) := by rw [h]

theorem len_eq (s : ByteArray) : s.data.toList.length = s.size := by cases s; rfl

theorem str_of {s : ByteArray} {l : List UInt8} (h : s.data.toList = l) : s = ⟨l.toArray⟩ := by
  cases s with | mk d => cases d; simp at h; subst h; rfl

theorem str_no {x y : ByteArray} (h : ¬ x = y) : (¬ x.toList = y.toList) ∧ (x.toList == y.toList) = false := by
  rw [ByteArray.toList_eq, ByteArray.toList_eq]
  have : ¬ x.data.toList = y.data.toList := fun e => h (by rw [str_of e])
  exact ⟨this, by simpa using this⟩

theorem Grew.of {w w' : World} (h : Below w.heap.size w w') : Fr None' w w' := ⟨h.os, h.tape, h.output, h.size, fun k hk _ => h.block k hk⟩

theorem Grew.below {w w' : World} (h : Fr None' w w') : Below w.heap.size w w' := Fr.below h (Nat.le_refl _) (fun _ e => e.elim)

/-- A slice's cells hold these values. -/
def RowV (W : World) (ad : Option Addr) (vs : List Value) : Prop := ∀ j v, vs[j]? = some v → ∃ g o, ad = some ⟨g, o, none⟩ ∧ W.cell? ⟨g, o + j, none⟩ = some v

/-- .. all of them in blocks that M does not name. -/
def Off (M : Nat → Prop) (ad : Option Addr) : Prop := ∀ a, ad = some a → ¬ M a.block

theorem RowV.fr {M : Nat → Prop} {W W' : World} {ad : Option Addr} {vs : List Value} (h : RowV W ad vs) (f : Fr M W W') (hm : Off M ad) : RowV W' ad vs := fun j x hj => by
  obtain ⟨g, o, e, hc⟩ := h j x hj
  exact ⟨g, o, e, f.cell hc (hm ⟨g, o, none⟩ e)⟩

theorem Off.no (ad : Option Addr) : Off None' ad := fun _ _ e => e

theorem RowV.nil (W : World) (ad : Option Addr) : RowV W ad [] := fun j x h => by simp at h

theorem RowV.get {W : World} {ad : Option Addr} {vs : List Value} (h : RowV W ad vs) {k : Nat} (hk : k < vs.length) : ∃ g o, ad = some ⟨g, o, none⟩ ∧ W.cell? ⟨g, o + k, none⟩ = some vs[k] := h k _ (List.getElem?_eq_getElem hk)

/-- Texts in a row. -/
def Row (W : World) (ad : Option Addr) (ss : List ByteArray) : Prop := ∀ j x, ss[j]? = some x → ∃ g o, ad = some ⟨g, o, none⟩ ∧ W.cell? ⟨g, o + j, none⟩ = some (.string x)

theorem Row.frM {M : Nat → Prop} {W W' : World} {ad : Option Addr} {ss : List ByteArray} (h : Row W ad ss) (f : Fr M W W') (hm : Off M ad) : Row W' ad ss := fun j x hj => by
  obtain ⟨g, o, e, hc⟩ := h j x hj
  exact ⟨g, o, e, f.cell hc (hm ⟨g, o, none⟩ e)⟩

theorem Row.fr {W W' : World} {ad : Option Addr} {ss : List ByteArray} (h : Row W ad ss) (f : Fr None' W W') : Row W' ad ss := h.frM f (Off.no ad)

theorem Row.nil (W : World) (ad : Option Addr) : Row W ad [] := fun j x h => by simp at h

theorem Row.get {W : World} {ad : Option Addr} {ss : List ByteArray} (h : Row W ad ss) {k : Nat} (hk : k < ss.length) : ∃ g o, ad = some ⟨g, o, none⟩ ∧ W.cell? ⟨g, o + k, none⟩ = some (.string ss[k]) := h k _ (List.getElem?_eq_getElem hk)

theorem Row.vals {W : World} {ad : Option Addr} {ss : List ByteArray} (h : Row W ad ss) : RowV W ad (ss.map .string) := fun j v hj => by
  rw [List.getElem?_map] at hj
  cases hm : ss[j]? with
  | none => rw [hm] at hj; cases hj
  | some y => rw [hm] at hj; cases hj; exact h j y hm

theorem RowV.row {W : World} {ad : Option Addr} {ss : List ByteArray} (h : RowV W ad (ss.map .string)) : Row W ad ss := fun j x hj => h j _ (by rw [List.getElem?_map, hj]; rfl)

/-- A part of a row. -/
theorem RowV.part {W : World} {g o : Nat} {vs : List Value} (h : RowV W (some ⟨g, o, none⟩) vs) (k n : Nat) : RowV W (some ⟨g, o + k, none⟩) ((vs.drop k).take n) := fun j x hj => by
  have hj' : vs[k + j]? = some x := by
    rw [List.getElem?_take] at hj
    split at hj
    · rw [List.getElem?_drop] at hj; exact hj
    · cases hj
  obtain ⟨g', o', e, hc⟩ := h (k + j) x hj'
  cases e
  exact ⟨g, o + k, rfl, by rw [Nat.add_assoc]; exact hc⟩

theorem Row.part {W : World} {g o : Nat} {ss : List ByteArray} (h : Row W (some ⟨g, o, none⟩) ss) (k n : Nat) : Row W (some ⟨g, o + k, none⟩) ((ss.drop k).take n) := by
  have := h.vals.part k n
  rw [← List.map_drop, ← List.map_take] at this
  exact this.row

/-- v is a row of the values vs, in a block of its own at or beyond base. -/
def OwnV (base : Nat) (w : World) (e : TypeId) (v : Value) (vs : List Value) : Prop := w.ownsRow base e 1 v vs.length vs

theorem OwnV.slice {base : Nat} {w : World} {e : TypeId} {v : Value} {vs : List Value} (h : OwnV base w e v vs) : ∃ va c, v = .slice va vs.length c ∧ vs.length ≤ c ∧ (va = none → c = 0) ∧ RowV w va vs ∧ (∀ a, va = some a → base ≤ a.block ∧ a.off = 0 ∧ a.spot = none ∧ a.block < w.heap.size) := by
  rcases h.2 with ⟨hv, h0⟩ | ⟨g, cap, cur, hv, hb, hh, hc, _, hs, ht⟩
  · refine ⟨none, 0, by rw [hv, h0], by omega, fun _ => rfl, fun j x hj => ?_, fun a e => by cases e⟩
    have := (List.getElem?_eq_some_iff.1 hj).1
    omega
  · refine ⟨_, cap, hv, hc, fun e => by simp at e, fun i x hi => ⟨g, 0, rfl, ?_⟩, fun a e => by cases e; exact ⟨hb, rfl, rfl, (Array.getElem?_eq_some_iff.1 hh).1⟩⟩
    have hlt := (List.getElem?_eq_some_iff.1 hi).1
    rw [← ht, List.getElem?_take, if_pos (by omega)] at hi
    rw [World.cell?, Nat.zero_add, hh]
    simpa using hi

/-- The block of v, if it has one. -/
def Own1 (v : Value) : Nat → Prop := fun k => v.ownBlock = some k

theorem OwnV.fr {M : Nat → Prop} {base : Nat} {w w' : World} {e : TypeId} {v : Value} {vs : List Value} (h : OwnV base w e v vs) (f : Fr M w w') (hm : ∀ k, Own1 v k → ¬ M k) : OwnV base w' e v vs := by
  refine ⟨h.1, ?_⟩
  rcases h.2 with h | ⟨g, cap, cur, hv, hb, hh, h⟩
  · exact Or.inl h
  · exact Or.inr ⟨g, cap, cur, hv, hb, f.at hh (hm g (by rw [Own1, hv]; rfl)), h⟩

theorem OwnV.kept {base : Nat} {w w' : World} {e : TypeId} {v : Value} {vs : List Value} (h : OwnV base w e v vs) (f : Fr None' w w') : OwnV base w' e v vs := h.fr f (fun _ _ e => e)

theorem OwnV.nil (base : Nat) (w : World) (e : TypeId) : OwnV base w e (.slice none 0 0) [] := World.ownsRow_nil w _ e 1

theorem OwnV.lt {base : Nat} {w : World} {e : TypeId} {v : Value} {vs : List Value} (h : OwnV base w e v vs) {k : Nat} (hk : Own1 v k) : base ≤ k ∧ k < w.heap.size := by
  rcases h.2 with ⟨hv, _⟩ | ⟨g, cap, cur, hv, hb, hh, _⟩
  · rw [Own1, hv] at hk; cases hk
  · rw [Own1, hv] at hk; cases hk; exact ⟨hb, (Array.getElem?_eq_some_iff.1 hh).1⟩

/-- The row's head of no elements, its room kept. -/
theorem OwnV.zero {base : Nat} {w : World} {e : TypeId} {va : Option Addr} {c : Nat} {vs : List Value} (h : OwnV base w e (.slice va vs.length c) vs) : OwnV base w e (.slice va 0 c) [] := by
  rcases h.2 with ⟨hv, _⟩ | ⟨g, cap, cur, hv, hb, hh, hc, hm, hs, _⟩
  · simp only [Value.slice.injEq] at hv
    obtain ⟨rfl, _, rfl⟩ := hv
    exact OwnV.nil _ _ _
  · simp only [Value.slice.injEq] at hv
    obtain ⟨rfl, _, rfl⟩ := hv
    exact ⟨rfl, Or.inr ⟨g, c, cur, rfl, hb, hh, Nat.zero_le _, hm, hs, by simp⟩⟩

/-- '[]T{}': an empty row of no room. -/
theorem OwnV.empty {base : Nat} {w : World} (e : TypeId) (hb : base ≤ w.heap.size) : OwnV base (w.alloc (.cells #[] e)) e (.slice (some ⟨w.heap.size, 0, none⟩) 0 0) [] :=
  ⟨rfl, Or.inr ⟨w.heap.size, 0, #[], rfl, hb, heap_alloc_new w _, Nat.le_refl _, Nat.zero_le _, rfl, rfl⟩⟩

/-- A type whose values are one cell each. -/
structure One (e t : TypeId) (bytes : Nat) : Prop where
  ty : Tryz.prog.underlying t = some (.slice e)
  info : ∃ i z, Tryz.prog.info? e = some i ∧ i.zero = some z ∧ i.size = 1 ∧ i.bytes = bytes ∧ z.cells.size = 1
  small : bytes ≤ 24

theorem one_mk {e t : TypeId} {z : Value} {bytes : Nat} (ht : Tryz.prog.underlying t = some (.slice e)) (h : (Tryz.prog.info? e).map (fun i => (i.zero, i.size, i.bytes)) = some (some z, 1, bytes)) (hz : z.cells.size = 1) (hb : bytes ≤ 24) : One e t bytes := by
  obtain ⟨i0, hi, hz0, hz1, hz2⟩ := info_parts h
  exact ⟨ht, ⟨i0, z, hi, hz0, hz1, hz2, hz⟩, hb⟩

theorem oneS : One 9 43 16 := one_mk (z := (.string ⟨#[]⟩)) Tryz.underlying43 (by kernel_rfl) rfl (by decide)

/-- 'append(s, x...)', s the call's own. -/
theorem append_run {e t : TypeId} {bytes : Nat} (h1 : One e t bytes) (ty : TypeId) {base : Nat} {w : World} {v : Value} {vs : List Value} (hown : OwnV base w e v vs) {va : Option Addr} {c k : Nat} {m : List Value} (hk : m.length = k) (hl : RowV w va m) (hn : va = none → c = 0) (hm : ∀ u ∈ m, u.oneCell' = true) (hbig : vs.length + m.length ≤ 1000000000) (hb : base ≤ w.heap.size) :
    ∃ v' w', (Builtin.append_ #[t, t] ty #[v, .slice va k c]).run Tryz.prog w = .ok v' w' ∧ OwnV base w' e v' (vs ++ m) ∧ Fr (Own1 v) w w' ∧ (v'.ownBlock = v.ownBlock ∨ v'.ownBlock = some w.heap.size) := by
  obtain ⟨i0, z, hi, hz0, hz1, hz2, hz3⟩ := h1.info
  have hbb := h1.small
  subst hk
  cases va with
  | none =>
    obtain rfl := hn rfl
    have hn0 : m = [] := by
      cases m with
      | nil => rfl
      | cons y m => obtain ⟨_, _, e, _⟩ := hl 0 y rfl; cases e
    subst hn0
    exact ⟨v, w, run_append_owned_none (P := Tryz.prog) (w := w) base t ty e i0 1 h1.ty hi v _ _ hown, by simpa using hown, Fr.refl _ _, Or.inl rfl⟩
  | some ad =>
    have hnews : ∀ j u, m[j]? = some u → w.cell? (ad.add j) = some u := fun j u hj => by
      obtain ⟨b, o, e, hc⟩ := hl j u hj
      cases e
      have hadd : (⟨b, o, none⟩ : Addr).add j = ⟨b, o + j, none⟩ := by unfold Addr.add; split <;> simp_all
      rw [hadd, hc]
    obtain ⟨v', w', hr, h2, h3, _, h5⟩ := run_append_own_at (P := Tryz.prog) w base t ty e i0 z 1 bytes h1.ty hi hz0 hz1 hz2 hz3 (by decide) v _ _ hown ad m.length c m (by simp) hnews hm (by unfold maxLen; omega) (by
      have : (vs.length + m.length) * bytes ≤ 1000000000 * 24 := Nat.mul_le_mul hbig hbb
      omega) hb
    refine ⟨v', w', hr, ?_, Fr.grown h3 (fun k e => e), h5⟩
    unfold OwnV
    rw [List.length_append]
    exact h2

theorem append_one {e t : TypeId} {bytes : Nat} (h1 : One e t bytes) {ops : Array Oper} {rest : List Oper} {o : Oper} {a : Act} {w : World} {Q : Exit → Act → World → Prop} (hgd : o.guard = none) (s x : Operand)
    (ho : o.op = .call { callee := .builtin .append, args := #[s, x], argTypes := #[t, t] })
    {base : Nat} {v : Value} {vs : List Value} (hs : a.eval s = v) (hown : OwnV base w e v vs) {va : Option Addr} {c k : Nat} {m : List Value} (hx : a.eval x = .slice va k c) (hk : m.length = k) (hl : RowV w va m) (hn : va = none → c = 0) (hm : ∀ u ∈ m, u.oneCell' = true) (hbig : vs.length + m.length ≤ 1000000000) (hb : base ≤ w.heap.size)
    (h : ∀ v' w', OwnV base w' e v' (vs ++ m) → Fr (Own1 v) w w' → (v'.ownBlock = v.ownBlock ∨ v'.ownBlock = some w.heap.size) → wpList Tryz.prog ops Q rest (a.put o.dst v') w') : wpList Tryz.prog ops Q (o :: rest) a w := by
  refine wpList_plain hgd fun K hK => ?_
  obtain ⟨v', w', hr, h2, h3, h4⟩ := append_run h1 o.type hown hk hl hn hm hbig hb
  unfold Oper.wp execOp
  simp only [ho, resolve, invoke, builtin, Sem.run_bind, Sem.run_pure, Result.andThen_ok, List.map_toArray, List.map_cons, List.map_nil, hs, hx, hr]
  exact hK _ _ (h v' w' h2 h3 h4)

theorem own_fr {M : Nat → Prop} {e : TypeId} {v : Value} {vs : List Value} {w wr wx w1 : World} (h : OwnV w.heap.size wr e v vs) (hF : Fr M w wr) (f0 : Fr None' wr wx) (f : Fr (Own1 v) wx w1) : Fr M w w1 ∧ Fr (Own1 v) wr w1 := by
  have f2 : Fr (Own1 v) wr w1 := (f0.mono (fun _ e => e.elim)).then f
  exact ⟨hF.trans f2 (fun i e => Or.inr (h.lt e).1), f2⟩

theorem strs_one (l : List ByteArray) : ∀ u ∈ l.map Value.string, u.oneCell' = true := fun u hu => by
  obtain ⟨z, _, rfl⟩ := List.mem_map.1 hu; rfl

end Go.Proofs.YtpfkkpghgmmijaaGreatDoor.Diff

namespace Go.Proofs.YtpfkkpghgmmijaaGreatDoor.Diff
open Go.RowKit
set_option maxRecDepth 100000

end Go.Proofs.YtpfkkpghgmmijaaGreatDoor.Diff

namespace Go.Proofs.YtpfkkpghgmmijaaGreatDoor.Diff
open Go.RowKit

/-- J abides whatever is done to the blocks that M names, and new ones. -/
def Abide {β : Type} (M : Nat → Prop) (J : β → World → Prop) : Prop := ∀ s A B, J s A → Fr M A B → J s B

def NoCells (A : World) (k : Nat) : Prop := ∀ c t f, A.heap[k]? ≠ some (.cells c t f)

/-- .. and to what is no cells. -/
def AbideN {β : Type} (base : Nat) (M : Nat → Prop) (J : β → World → Prop) : Prop := ∀ s A B, J s A → Fr (fun k => M k ∨ (base ≤ k ∧ NoCells A k)) A B → J s B

/-- The contract of an iterator that may turn the blocks of M between two rounds; Kp: what a round keeps. -/
def SeqM {α : Type} (F : Fence) (n : Nat) (P : Program) (g : Nat) (lb : Array Value) (encs : α → Array Value) (M : Nat → Prop) (Kp : World → World → Prop) (S Sp : List α → Prop) (St : World → Prop) : Prop :=
  ∀ (l : Nat) (J Jx : List α → World → Prop) (W : World), St W → Abide M J → Abide M Jx →
    (∀ pre x W1, J pre W1 → Sp (pre ++ [x]) → YieldAt F (n - 1) P l (encs x) W1 fun e W' =>
      (e = .returned (.bool true) ∧ J (pre ++ [x]) W' ∧ Kp W1 W') ∨ (e = .returned (.bool false) ∧ Jx (pre ++ [x]) W')) →
    J [] W →
    CallsIn F n P g (#[.func (.yield l) #[] #[]] ++ lb) W fun e W' => (∃ v, e = .returned v) ∧ ((∃ xs, S xs ∧ J xs W') ∨ (∃ pre, Sp pre ∧ Jx pre W'))

theorem Fr.putObj {M : Nat → Prop} (w : World) {l : Nat} (hl : M l) (o : Obj) : Fr M w (w.putObj l o) :=
  ⟨rfl, rfl, rfl, by simp, fun k _ hm => World.putObj_heap_other (fun e => hm (e ▸ hl))⟩

variable {F : Fence} {n : Nat} {P : Program}

theorem range_own {α : Type} {g : Operand} {ps : Array Tmp} {assign body : Code} {Q : Exit → Act → World → Prop} {a : Act} {w : World}
    (hro : F.round = none) (h1 : 1 ≤ n) {gf : Nat} {lb : Array Value} (hg : a.eval g = .func (.func gf) #[] lb) (hFg : F.fn gf) (eg : ∀ args w, (callFunc gf args).run P w = .ok (.enter gf args) w)
    {encs : α → Array Value} {M : Nat → Prop} {Kp : World → World → Prop} {S Sp : List α → Prop} {St : World → Prop} (hseq : SeqM F (n - 1) P gf lb encs M Kp S Sp St)
    (hM : ∀ k, M k → k < w.heap.size) (hSt : ∀ W, Below w.heap.size w W → St W)
    (hKt : ∀ {A B C : World}, Kp A B → Kp B C → Kp A C) (hKb : ∀ (W : World) (l : Nat) (o' : Obj), w.heap.size ≤ l → Kp W (W.putObj l o'))
    (hps : ∀ x, (encs x).size = ps.size)
    (I : List α → World → Prop) (Ix : Code → List α → World → Prop) (hI : AbideN w.heap.size M I) (hIx : ∀ c, AbideN w.heap.size M (Ix c)) (h0 : I [] w) (a₁ : α → Act)
    (hassign : ∀ (l : Nat) (x : α) (W : World) (K : Act → World → Prop), K (a₁ x) W →
      assign.wpIn (F.inRound l) (n - 1 - 1) P (Exit.then K (fun _ _ _ => False)) { tmps := (ps.zip (encs x)).foldl (fun t (p, v) => t.setIfInBounds p v) a.tmps, defers := [] } W)
    (hbody : ∀ (l : Nat) (pre : List α) (x : α) (W : World), I pre W → Sp (pre ++ [x]) → w.heap.size ≤ l → (∃ r, W.heap[l]? = some (.loop r)) → body.wpIn (F.inRound l) (n - 1 - 1) P (ownPostK Kp I Ix (pre ++ [x]) W) (a₁ x) W)
    (hdone : ∀ (D : Nat) (xs : List α) (W : World), S xs → I xs W → W.heap[D]? = some (.deferred (some [])) → w.heap.size ≤ D → Q .normal { a with defers := { target := .collected D, args := #[] } :: a.defers } W)
    (hstop : ∀ (D : Nat) (c : Code) (pre : List α) (W : World), Sp pre → Ix c pre W → W.heap[D]? = some (.deferred (some [])) → w.heap.size ≤ D → c.wpIn F n P Q { a with defers := { target := .collected D, args := #[] } :: a.defers } W) :
    (Code.rangeFunc g ps assign body).wpIn F n P Q a w := by
  refine wpIn_rangeFunc fun fn hfn => ?_
  rw [hro]
  obtain ⟨R, hR⟩ : ∃ R : LoopState → Option Code → Loop, R = fun st pe => { state := st, pending := pe, fn, tmps := a.tmps, params := ps, assign, body, defers := w.heap.size } := ⟨_, rfl⟩
  obtain ⟨V, hV⟩ : ∃ V, (w.alloc (.deferred (some []))).alloc (.loop (R .ready none)) = V := ⟨_, rfl⟩
  have hL : V.heap[w.heap.size + 1]? = some (.loop (R .ready none)) := by
    rw [← hV]; simpa using World.alloc_heap_new (w.alloc (.deferred (some []))) (.loop (R .ready none))
  have hD : V.heap[w.heap.size]? = some (.deferred (some [])) := by
    rw [← hV]; exact (Below.heap_alloc _ _ _ (by simp)).trans (World.alloc_heap_new w _)
  have hIV : I [] V := by
    rw [← hV]; exact hI _ _ _ (hI _ _ _ h0 (Fr.alloc _ _ _)) (Fr.alloc _ _ _)
  have hBV : Below w.heap.size w V := by rw [← hV]; exact ((Below.refl _ w).alloc (Nat.le_refl _) _).alloc (by simp) _
  -- what the law itself does to its two blocks
  have far : ∀ {W : World} {k : Nat} {r : Loop} (o : Obj), W.heap[k]? = some (.loop r) → w.heap.size ≤ k → Fr (fun k => M k ∨ (w.heap.size ≤ k ∧ NoCells W k)) W (W.putObj k o) := fun o hk hle => Fr.putObj _ (.inr ⟨hle, fun c t f e => by rw [hk] at e; cases e⟩) o
  have wide : ∀ {A B : World}, Fr M A B → Fr (fun k => M k ∨ (w.heap.size ≤ k ∧ NoCells A k)) A B := fun h => h.mono (fun _ e => .inl e)
  have nM : ∀ {k : Nat}, w.heap.size ≤ k → ¬ M k := fun hk hm => by have := hM _ hm; omega
  refine ⟨w.heap.size + 1, [{ target := .collected w.heap.size, args := #[] }], V, { target := .fn (.func gf) lb, args := #[.func (.yield (w.heap.size + 1)) #[] #[]] }, V, gf,
    #[.func (.yield (w.heap.size + 1)) #[] #[]] ++ lb, V, by rw [← hV, hR]; exact run_enterLoop_outer _ _ _ _ _, by simp only [resolve, hg]; simp [go_sem], ?_, by simp [invoke, go_sem, eg], fun _ => h1, ?_⟩
  · intro f' hf'; simp [Target.leads] at hf'; subst hf'; exact hFg
  refine (hseq (w.heap.size + 1)
    (fun pre W => I pre W ∧ W.heap[w.heap.size + 1]? = some (.loop (R .ready none)) ∧ W.heap[w.heap.size]? = some (.deferred (some [])))
    (fun pre W => ∃ c, Ix c pre W ∧ W.heap[w.heap.size + 1]? = some (.loop (R .done (some c))) ∧ W.heap[w.heap.size]? = some (.deferred (some [])))
    V (hSt _ hBV)
    (fun s A B hs hf => ⟨hI _ _ _ hs.1 (wide hf), hf.at hs.2.1 (nM (by omega)), hf.at hs.2.2 (nM (by omega))⟩)
    (fun s A B ⟨c, hc, hl, hk⟩ hf => ⟨c, hIx c _ _ _ hc (wide hf), hf.at hl (nM (by omega)), hf.at hk (nM (by omega))⟩)
    ?_ ⟨hIV, hL, hD⟩).mono ?_
  · rintro pre x W ⟨hi, hl, hk⟩ hsp
    have hy := run_yield (P := P) (args := encs x) hl (by rw [hR]; exact hps x)
    rw [hR] at hy
    refine ⟨fn, _, assign, body, hy, roundIn_of_wpIn hfn (hassign _ x W _ ⟨_, run_beginRound hl (by rw [hR]), ?_⟩)⟩
    obtain ⟨W2, hW2⟩ : ∃ W2, W.putObj (w.heap.size + 1) (.loop { R .ready none with state := .busy }) = W2 := ⟨_, rfl⟩
    have hl2 : W2.heap[w.heap.size + 1]? = some (.loop { R .ready none with state := .busy }) := by
      rw [← hW2]; exact World.putObj_heap_same (Array.getElem?_eq_some_iff.1 hl).1
    have hk2 : W2.heap[w.heap.size]? = some (.deferred (some [])) := by rw [← hW2]; exact (World.putObj_heap_other (by omega)).trans hk
    have hp2 : Kp W W2 := by rw [← hW2]; exact hKb _ _ _ (by omega)
    have hi2 : I pre W2 := by rw [← hW2]; exact hI _ _ _ hi (far _ hl (by omega))
    rw [hW2]
    refine wpIn_mono (hbody _ pre x W2 hi2 hsp (by omega) ⟨_, hl2⟩) ?_
    have fin : ∀ (jump : Option Code) (W3 : World), KeepsOthers W2 W3 → W3.heap[w.heap.size + 1]? = some (.loop { R .ready none with state := .busy }) ∧
        (Instr.endRound (w.heap.size + 1) jump).run P W3 = .ok (.bool jump.isNone) (W3.putObj (w.heap.size + 1) (.loop (R (if jump.isNone then .ready else .done) jump))) ∧
        (W3.putObj (w.heap.size + 1) (.loop (R (if jump.isNone then .ready else .done) jump))).heap[w.heap.size + 1]? = some (.loop (R (if jump.isNone then .ready else .done) jump)) ∧
        (W3.putObj (w.heap.size + 1) (.loop (R (if jump.isNone then .ready else .done) jump))).heap[w.heap.size]? = some (.deferred (some [])) := fun jump W3 h3 => by
      have hl3 := h3.same _ _ hl2 rfl
      have := run_endRound (P := P) jump hl3
      rw [hR] at this ⊢
      exact ⟨by rw [hR] at hl3; exact hl3, this, World.putObj_heap_same (Array.getElem?_eq_some_iff.1 hl3).1, (World.putObj_heap_other (by omega)).trans (h3.same _ _ hk2 rfl)⟩
    rintro e a3 W3 hp
    cases e with
    | normal =>
      obtain ⟨h3, hkp, hi3⟩ := hp
      obtain ⟨hl3, hr, hl4, hk4⟩ := fin none W3 h3
      exact ⟨_, _, hr, .inl ⟨rfl, ⟨hI _ _ _ hi3 (far _ hl3 (by omega)), hl4, hk4⟩, hKt (hKt hp2 hkp) (hKb _ _ _ (by omega))⟩⟩
    | ret =>
      obtain ⟨h3, hi3⟩ := hp
      obtain ⟨hl3, hr, hl4, hk4⟩ := fin (some .ret) W3 h3
      exact ⟨_, _, hr, .inr ⟨rfl, .ret, hIx _ _ _ _ hi3 (far _ hl3 (by omega)), hl4, hk4⟩⟩
    | exit id =>
      obtain ⟨h3, hi3⟩ := hp
      obtain ⟨hl3, hr, hl4, hk4⟩ := fin (some (.exit id)) W3 h3
      exact ⟨_, _, hr, .inr ⟨rfl, .exit id, hIx _ _ _ _ hi3 (far _ hl3 (by omega)), hl4, hk4⟩⟩
    | goto t =>
      obtain ⟨h3, hi3⟩ := hp
      obtain ⟨hl3, hr, hl4, hk4⟩ := fin (some (.goto t)) W3 h3
      exact ⟨_, _, hr, .inr ⟨rfl, .goto t, hIx _ _ _ _ hi3 (far _ hl3 (by omega)), hl4, hk4⟩⟩
    | panic ch => exact hp.elim
    | outgrown => exact hp.elim
  · rintro e W2 ⟨⟨v, rfl⟩, (⟨xs, hS, hi, hl, hk⟩ | ⟨pre, hSp, c, hi, hl, hk⟩)⟩
    · exact ⟨none, _, by have := run_endLoop (P := P) hl (by rw [hR]; simp); rw [hR] at this; exact this, hdone _ xs _ hS (hI _ _ _ hi (far _ hl (by omega))) ((World.putObj_heap_other (by omega)).trans hk) (by omega)⟩
    · exact ⟨some c, _, by have := run_endLoop (P := P) hl (by rw [hR]; simp); rw [hR] at this; exact this, hstop _ c pre _ hSp (hIx c _ _ _ hi (far _ hl (by omega))) ((World.putObj_heap_other (by omega)).trans hk) (by omega)⟩

/-- A contract of an iterator goes into a round as it is. -/
theorem SeqM.inRound {α : Type} {g : Nat} {lb : Array Value} {encs : α → Array Value} {M : Nat → Prop} {Kp : World → World → Prop} {S Sp : List α → Prop} {St : World → Prop} (l : Nat)
    (h : SeqM F n P g lb encs M Kp S Sp St) : SeqM (F.inRound l) n P g lb encs M Kp S Sp St := h

end Go.Proofs.YtpfkkpghgmmijaaGreatDoor.Diff

namespace Go.Proofs.YtpfkkpghgmmijaaGreatDoor.Diff
open Go.RowKit Go.Shelf
set_option maxRecDepth 100000
attribute [local go_sem] Oper.semAt_some

/-- The blocks that R names lie as they lay. -/
structure KeepB (R : Nat → Prop) (W W' : World) : Prop where
  size : W.heap.size ≤ W'.heap.size
  same : ∀ k, R k → k < W.heap.size → W'.heap[k]? = W.heap[k]?

theorem KeepB.refl (R : Nat → Prop) (W : World) : KeepB R W W := ⟨Nat.le_refl _, fun _ _ _ => rfl⟩
theorem KeepB.trans {R : Nat → Prop} {A B C : World} (h : KeepB R A B) (k : KeepB R B C) : KeepB R A C := ⟨Nat.le_trans h.size k.size, fun i hi hl => (k.same i hi (by have := h.size; omega)).trans (h.same i hi hl)⟩
theorem KeepB.put {R : Nat → Prop} (W : World) {l : Nat} (hl : ∀ k, R k → k ≠ l) (o : Obj) : KeepB R W (W.putObj l o) := ⟨by simp, fun k hk _ => World.putObj_heap_other (fun e => hl k hk e)⟩
theorem KeepB.of {R M : Nat → Prop} {W W' : World} (f : Fr M W W') (h : ∀ k, R k → ¬ M k) : KeepB R W W' := ⟨f.size, fun k hk hl => f.block k hl (h k hk)⟩
theorem KeepB.cell {R : Nat → Prop} {W W' : World} (h : KeepB R W W') {a : Addr} {v : Value} (hc : W.cell? a = some v) (hr : R a.block) : W'.cell? a = some v := by
  have := h.same a.block hr (cell_lt hc)
  unfold World.cell? at hc ⊢
  rw [this]; exact hc
theorem KeepB.row {R : Nat → Prop} {W W' : World} (h : KeepB R W W') {va : Option Addr} {L : List Value} (hr : RowV W va L) (hR : ∀ a, va = some a → R a.block) : RowV W' va L := fun j v hj => by
  obtain ⟨g, o, e, hc⟩ := hr j v hj
  exact ⟨g, o, e, h.cell hc (hR ⟨g, o, none⟩ e)⟩

/-- The t-th from behind, and the first m of them. -/
def elB (L : List Value) (t : Nat) : Nat × Value := (L.length - 1 - t, L[L.length - 1 - t]?.getD (.bool false))
def uptoB (L : List Value) (m : Nat) : List (Nat × Value) := (List.range m).map (elB L)

theorem uptoB_succ (L : List Value) (m : Nat) : uptoB L (m + 1) = uptoB L m ++ [elB L m] := by
  simp [uptoB, List.range_succ]

theorem uptoB_length (L : List Value) (m : Nat) : (uptoB L m).length = m := by simp [uptoB]

theorem uptoB_snoc {L : List Value} {pre : List (Nat × Value)} {x : Nat × Value} {m : Nat} (h : pre ++ [x] = uptoB L m) : ∃ t, m = t + 1 ∧ pre = uptoB L t ∧ x = elB L t := by
  have hl := congrArg List.length h
  rw [uptoB_length, List.length_append] at hl
  cases m with
  | zero => simp at hl
  | succ t =>
    rw [uptoB_succ] at h
    obtain ⟨h1, h2⟩ := List.append_inj' h rfl
    exact ⟨t, rfl, h1, by simpa using h2⟩

theorem elB_get {L : List Value} {t k : Nat} (h : t + k + 1 = L.length) : elB L t = (k, L[k]'(by omega)) := by
  unfold elB
  rw [show L.length - 1 - t = k by omega, List.getElem?_eq_getElem (by omega)]
  rfl

end Go.Proofs.YtpfkkpghgmmijaaGreatDoor.Diff
