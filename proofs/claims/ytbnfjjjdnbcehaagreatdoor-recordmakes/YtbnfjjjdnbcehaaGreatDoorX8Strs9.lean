/- What is proved here: contracts for RecordMakes. Conditions: as named. -/
import Derived.Test.YtbnfjjjdnbcehaaGreatDoorX2Base
import Derived.Test.YtbnfjjjdnbcehaaGreatDoorX7LStrs
import Derived.Maps.RangeWalk
import Derived.Maps.AppendAt
import Derived.Maps.Ext
import Derived.Maps.OwnSet
import Derived.Test.YtbnfjjjdnbcehaaGreatDoorX4PBase
import Derived.Test.YtbnfjjjdnbcehaaGreatDoorX3LPlain
import Derived.Sort.Walk0
import Derived.Deep.QuietTactic
set_option maxHeartbeats 16000000
namespace Go.Proofs.YtbnfjjjdnbcehaaGreatDoor
open Go.RowKit
set_option maxRecDepth 100000
theorem toL {M : Nat → Prop} {w w' : World} (h : Fr M w w') : Lines.Fr M w w' := ⟨h.os, h.tape, h.output, h.size, h.block⟩
theorem ofL {M : Nat → Prop} {w w' : World} (h : Lines.Fr M w w') : Fr M w w' := ⟨h.os, h.tape, h.output, h.size, h.block⟩
theorem ofLN {w w' : World} (h : Lines.Fr Lines.None' w w') : Fr None' w w' := ofL (M := Lines.None') h |>.mono (fun _ e => e)
theorem toLN {w w' : World} (h : Fr None' w w') : Lines.Fr Lines.None' w w' := toL (h.mono (fun _ e => e))
theorem ofBelow {w w' : World} (h : Below w.heap.size w w') : Fr None' w w' := ⟨h.os, h.tape, h.output, h.size, fun k hk _ => h.block k hk⟩
theorem Fr.keepCell {M : Nat → Prop} {w w' : World} (h : Fr M w w') {a : Addr} {v : Value} (hc : w.cell? a = some v) (hm : ¬ M a.block) : w'.cell? a = some v := (toL h).cell hc hm
theorem Fr.then7 {a b c : World} (h : Fr None' a b) (k : Fr None' b c) : Fr None' a c := h.trans k (fun _ e => Or.inl e)
theorem Fr.drew (M : Nat → Prop) (w : World) : Fr M w w.drew := ⟨rfl, rfl, rfl, Nat.le_refl _, fun _ _ _ => rfl⟩
def Zy (w : World) (v : Value) (l : List ByteArray) : Prop := ∃ va c, v = .slice va l.length c ∧ (va = none → c = 0) ∧ l.length ≤ c ∧ Lines.Row w va l
theorem Zy.fr {M : Nat → Prop} {w w' : World} {v : Value} {l : List ByteArray} (h : Zy w v l) (f : Fr M w w') (hm : ∀ k, v.ownBlock = some k → ¬ M k) : Zy w' v l := by
 obtain ⟨va, c, rfl, h1, h2, h3⟩ := h
 refine ⟨va, c, rfl, h1, h2, fun j x hj => ?_⟩
 obtain ⟨g, o, e, hc⟩ := h3 j x hj
 exact ⟨g, o, e, f.keepCell hc (hm g (by rw [e]; rfl))⟩
theorem Zy.kept {w w' : World} {v : Value} {l : List ByteArray} (h : Zy w v l) (f : Fr None' w w') : Zy w' v l := h.fr f (fun _ _ e => e)
theorem Zy.lt {w : World} {v : Value} {l : List ByteArray} (h : Zy w v l) (hl : l ≠ []) {k : Nat} (hk : v.ownBlock = some k) : k < w.heap.size := by
 obtain ⟨va, c, rfl, h1, h2, h3⟩ := h
 cases l with
 | nil => exact absurd rfl hl
 | cons x l =>
  obtain ⟨g, o, e, hc⟩ := h3 0 x rfl
  subst e
  cases hk
  exact Zq hc
theorem Zy.far {M : Nat → Prop} {w w' : World} {v : Value} {l : List ByteArray} (h : Zy w v l) (f : Fr M w w') (hm : l ≠ [] → ∀ k, v.ownBlock = some k → ¬ M k) : Zy w' v l := by
 by_cases hl : l = []
 ·subst hl
  obtain ⟨va, c, rfl, h1, h2, h3⟩ := h
  exact ⟨va, c, rfl, h1, h2, Lines.Row.nil _ _⟩
 ·exact h.fr f (hm hl)
theorem size_mem {l : List ByteArray} {x : ByteArray} (h : x ∈ l) : x.size ≤ (l.map (·.size)).sum := by
 induction l with
 | nil => cases h
 | cons y l ih =>
  simp only [List.map_cons, List.sum_cons]
  rcases List.mem_cons.1 h with e | e
  ·subst e; omega
  ·have := ih e; omega
theorem own_strs {base : Nat} {w : World} {v : Value} {l : List ByteArray} (h : w.ownsRow base 9 1 v l.length (l.map Value.string)) : Zy w v l := by
 rcases h.2 with ⟨hv, h0⟩ | ⟨g, cap, cur, hv, hb, hh, hc, _, hs, ht⟩
 ·have e : l = [] := List.length_eq_zero_iff.1 h0
  subst e
  exact ⟨none, 0, hv, fun _ => rfl, Nat.le_refl _, Lines.Row.nil _ _⟩
 ·refine ⟨_, cap, hv, fun e => by simp at e, hc, fun j x hj => ⟨g, 0, rfl, ?_⟩⟩
  have hlt := (List.getElem?_eq_some_iff.1 hj).1
  have h1 : (l.map Value.string)[j]? = some (.string x) := by rw [List.getElem?_map, hj]; rfl
  rw [← ht, List.getElem?_take, if_pos (by omega)] at h1
  rw [World.cell?, Nat.zero_add, hh]
  simpa using h1
theorem own_ge {base n : Nat} {w : World} {e : TypeId} {v : Value} {xs : List Value} (h : w.ownsRow base e 1 v n xs) {k : Nat} (hk : v.ownBlock = some k) : base ≤ k := by
 rcases h.2 with ⟨hv, _⟩ | ⟨g, cap, cur, hv, hb, _⟩
 ·rw [hv] at hk; cases hk
 ·rw [hv] at hk; cases hk; exact hb
theorem sizes_step {l : List ByteArray} {k : Nat} (hk : k < l.length) : ((l.take (k + 1)).map (·.size)).sum = ((l.take k).map (·.size)).sum + l[k].size := by
 rw [List.take_succ_eq_append_getElem hk, List.map_append, List.sum_append]
 simp
theorem ret_bool7 {a b : Bool} (h : a = b) : Ending.returned (.bool a) = .returned (.bool b) := by rw [h]
structure Pr where
 kind : Int
 path : ByteArray
 dst : ByteArray
 src : ByteArray
 pos : Int
 old : List ByteArray
 new : List ByteArray
def zeroP : Pr := ⟨0, ⟨#[]⟩, ⟨#[]⟩, ⟨#[]⟩, 0, [], []⟩
def inv (x : Pr) : Pr :=
 if x.kind = 1 ∨ x.kind = 3 ∨ x.kind = 5 then { x with kind := x.kind + 1 }
 else if x.kind = 2 ∨ x.kind = 4 ∨ x.kind = 6 then { x with kind := x.kind - 1 }
 else if x.kind = 7 then { x with old := x.new, new := x.old }
 else if x.kind = 8 ∨ x.kind = 9 then { x with dst := x.src, src := x.dst }
 else if x.kind = 10 then { x with path := x.dst, dst := x.path }
 else zeroP
def Pr.weight (x : Pr) : Nat := x.path.size + x.dst.size + x.src.size + x.old.length + x.new.length + (x.old.map (·.size)).sum + (x.new.map (·.size)).sum
def prCells (x : Pr) (vo vn : Value) : List Value := [.int .i64 x.kind, .string x.path, .string x.dst, .string x.src, .int .i64 x.pos, vo, vn]
def PrVal (w : World) (v : Value) (x : Pr) : Prop := ∃ vo vn, v = .agg #[.int .i64 x.kind, .string x.path, .string x.dst, .string x.src, .int .i64 x.pos, vo, vn] ∧ Zy w vo x.old ∧ Zy w vn x.new
theorem PrVal.kept {w w' : World} {v : Value} {x : Pr} (h : PrVal w v x) (f : Fr None' w w') : PrVal w' v x := by
 obtain ⟨vo, vn, e, h1, h2⟩ := h
 exact ⟨vo, vn, e, h1.kept f, h2.kept f⟩
def PrNew (w0 w : World) (v : Value) (x : Pr) : Prop := ∃ vo vn, v = .agg #[.int .i64 x.kind, .string x.path, .string x.dst, .string x.src, .int .i64 x.pos, vo, vn] ∧ Zy w vo x.old ∧ Zy w vn x.new ∧ (∀ k, vo.ownBlock = some k → w0.heap.size ≤ k) ∧ ∀ k, vn.ownBlock = some k → w0.heap.size ≤ k
theorem PrNew.val {w0 w : World} {v : Value} {x : Pr} (h : PrNew w0 w v x) : PrVal w v x := by
 obtain ⟨vo, vn, e, h1, h2, _⟩ := h
 exact ⟨vo, vn, e, h1, h2⟩
def PrAt (w : World) (g o : Nat) (x : Pr) : Prop := ∃ vo vn, w.cell? ⟨g, o, none⟩ = some (.int .i64 x.kind) ∧ w.cell? ⟨g, o + 1, none⟩ = some (.string x.path) ∧ w.cell? ⟨g, o + 2, none⟩ = some (.string x.dst) ∧ w.cell? ⟨g, o + 3, none⟩ = some (.string x.src) ∧ w.cell? ⟨g, o + 4, none⟩ = some (.int .i64 x.pos) ∧ w.cell? ⟨g, o + 5, none⟩ = some vo ∧ w.cell? ⟨g, o + 6, none⟩ = some vn ∧ Zy w vo x.old ∧ Zy w vn x.new
theorem PrAt.kept {w w' : World} {g o : Nat} {x : Pr} (h : PrAt w g o x) (f : Fr None' w w') : PrAt w' g o x := by
 obtain ⟨vo, vn, h0, h1, h2, h3, h4, h5, h6, h7, h8⟩ := h
 exact ⟨vo, vn, f.keepCell h0 (fun e => e), f.keepCell h1 (fun e => e), f.keepCell h2 (fun e => e), f.keepCell h3 (fun e => e), f.keepCell h4 (fun e => e), f.keepCell h5 (fun e => e), f.keepCell h6 (fun e => e), h7.kept f, h8.kept f⟩
def PrsAt (w : World) (va : Option Addr) (L : List Pr) : Prop := ∀ k x, L[k]? = some x → ∃ g o, va = some ⟨g, o, none⟩ ∧ PrAt w g (o + k * 7) x
theorem PrsAt.kept {w w' : World} {va : Option Addr} {L : List Pr} (h : PrsAt w va L) (f : Fr None' w w') : PrsAt w' va L := fun k x hk => by
 obtain ⟨g, o, e, h1⟩ := h k x hk
 exact ⟨g, o, e, h1.kept f⟩
theorem PrsAt.get {w : World} {va : Option Addr} {L : List Pr} (h : PrsAt w va L) {k : Nat} (hk : k < L.length) : ∃ g o, va = some ⟨g, o, none⟩ ∧ PrAt w g (o + k * 7) L[k] := h k _ (List.getElem?_eq_getElem hk)
end Go.Proofs.YtbnfjjjdnbcehaaGreatDoor
namespace Go.Proofs.YtbnfjjjdnbcehaaGreatDoor
open Go.RowKit Go.Maps Go.WideMaps
set_option maxRecDepth 100000
theorem Fr.turned {M : Nat → Prop} {w w' : World} {b : Nat} (ht : w.mapTurned w' b) (hb : M b) : Fr M w w' :=
 Fr.grown ht.grown (fun k e => by cases e; exact hb)
theorem Fr.map {M : Nat → Prop} {w w' : World} (h : Fr M w w') {H : Type} {P : Program} {k : TypeId} {R : Value → Option (DataW H × List MemPlace)} {b n : Nat} {D : DataW H} (hm : w.ownsMap P k R b n D) (hb : ¬ M b) : w'.ownsMap P k R b n D := by
 obtain ⟨es, clock, h1, h2, h3, h4⟩ := hm
 exact ⟨es, clock, h.at h1 hb, h2, h3, h4⟩
theorem Fr.row {M : Nat → Prop} {w w' : World} (h : Fr M w w') {base : Nat} {e : TypeId} {size : Nat} {v : Value} {n : Nat} {xs : List Value} (hr : w.ownsRow base e size v n xs) (hb : ∀ g, v.ownBlock = some g → ¬ M g) : w'.ownsRow base e size v n xs := by
 obtain ⟨h1, h2⟩ := hr
 refine ⟨h1, ?_⟩
 rcases h2 with h2 | ⟨g, cap, cur, hv, hg, hh, r⟩
 ·exact Or.inl h2
 ·exact Or.inr ⟨g, cap, cur, hv, hg, h.at hh (hb g (by rw [hv]; rfl)), r⟩
theorem Fr.ranges {M : Nat → Prop} {w w' : World} (h : Fr M w w') {H : Type} {P : Program} {k : TypeId} {R : Value → Option (DataW H × List MemPlace)} {b r n : Nat} {D : DataW H} {left : Lit → Bool} {cnt : Nat} (hm : w.ranges P k R b r n D left cnt) (hb : ¬ M b) (hr : ¬ M r) : w'.ranges P k R b r n D left cnt := by
 obtain ⟨es, clock, since, seen, c0, h1, h2, h3, h4, h5, h6⟩ := hm
 exact ⟨es, clock, since, seen, c0, h.at h1 hb, h2, h3, h4, h.at h5 hr, h6⟩
theorem lt_of_some {w : World} {k : Nat} {o : Obj} (ho : w.heap[k]? = some o) : k < w.heap.size := (Array.getElem?_eq_some_iff.1 ho).1
theorem lawS : Keyed Tryz.prog 9 := string_keyed Tryz.underlying9
theorem keyOf_string_inv {key : Value} {kl : Lit} (h : keyOf Tryz.prog 9 key = some kl) : ∃ x : ByteArray, key = .string x ∧ kl = .string x.data.toList := by
 cases key <;> simp [keyOf, Tryz.underlying9, mapKey] at h
 exact ⟨_, rfl, h.2.symm⟩
theorem turned_cell {w w' : World} {b : Nat} {a : Addr} {u : Value} (ht : w.mapTurned w' b) (h : w.cell? a = some u) : w'.cell? a = some u := by
 have hg := ht.grown
 obtain ⟨es, clock, _, _, hb, _⟩ := ht
 have hk : ∃ o, w.heap[a.block]? = some o ∧ ∀ es c, o ≠ .map es c := by
  unfold World.cell? at h
  split at h
  ·rename_i hk; exact ⟨_, hk, by simp⟩
  ·cases h
 obtain ⟨o, hk, hne⟩ := hk
 rw [World.cell?_of_block (w := w) (hg.block a.block (lt_of_some hk) (fun e => by
  have e' : a.block = b := by simpa using e
  rw [e', hb] at hk
  cases hk
  exact hne _ _ rfl))]
 exact h
end Go.Proofs.YtbnfjjjdnbcehaaGreatDoor
namespace Go.Proofs.YtbnfjjjdnbcehaaGreatDoor
open Go.RowKit
set_option maxRecDepth 100000
structure En where
 path : ByteArray
 kind : Int
 lines : List ByteArray
 data : ByteArray
def EnAt (w : World) (g o : Nat) (x : En) : Prop := ∃ vl, w.cell? ⟨g, o, none⟩ = some (.string x.path) ∧ w.cell? ⟨g, o + 1, none⟩ = some (.int .i64 x.kind) ∧ w.cell? ⟨g, o + 2, none⟩ = some vl ∧ w.cell? ⟨g, o + 3, none⟩ = some (.string x.data) ∧ Zy w vl x.lines
theorem EnAt.kept {w w' : World} {g o : Nat} {x : En} (h : EnAt w g o x) (f : Fr None' w w') : EnAt w' g o x := by
 obtain ⟨vl, h0, h1, h2, h3, h4⟩ := h
 exact ⟨vl, f.keepCell h0 (fun e => e), f.keepCell h1 (fun e => e), f.keepCell h2 (fun e => e), f.keepCell h3 (fun e => e), h4.kept f⟩
def Z0 (w : World) (va : Option Addr) (L : List En) : Prop := ∀ k x, L[k]? = some x → ∃ g o, va = some ⟨g, o, none⟩ ∧ EnAt w g (o + k * 4) x
theorem Z0.kept {w w' : World} {va : Option Addr} {L : List En} (h : Z0 w va L) (f : Fr None' w w') : Z0 w' va L := fun k x hk => by
 obtain ⟨g, o, e, h1⟩ := h k x hk
 exact ⟨g, o, e, h1.kept f⟩
theorem Z0.get {w : World} {va : Option Addr} {L : List En} (h : Z0 w va L) {k : Nat} (hk : k < L.length) : ∃ g o, va = some ⟨g, o, none⟩ ∧ EnAt w g (o + k * 4) L[k] := h k _ (List.getElem?_eq_getElem hk)
def En.weight (x : En) : Nat := 5 + x.lines.length + x.data.size + x.path.size + (x.lines.map (·.size)).sum
def weight (L : List En) : Nat := (L.map En.weight).sum
theorem weight_mem {L : List En} {x : En} (h : x ∈ L) : x.weight ≤ weight L := by
 induction L with
 | nil => cases h
 | cons y L ih =>
  unfold weight at *
  simp only [List.map_cons, List.sum_cons]
  rcases List.mem_cons.1 h with e | e
  ·subst e; omega
  ·have := ih e; omega
theorem weight_len (L : List En) : 5 * L.length ≤ weight L := by
 induction L with
 | nil => exact Nat.zero_le _
 | cons x L ih =>
  unfold weight at *
  simp only [List.map_cons, List.sum_cons, List.length_cons]
  unfold En.weight at *
  omega
end Go.Proofs.YtbnfjjjdnbcehaaGreatDoor
namespace Go.Proofs.YtbnfjjjdnbcehaaGreatDoor
set_option maxRecDepth 100000
def bl (s : ByteArray) : List UInt8 := s.data.toList
def thing (x : En) : Bool := if x.kind = 1 then decide (x.lines = []) && decide (x.data.size = 0) else if x.kind = 2 then Lines.right (Lines.bs x.lines) && decide (x.data.size = 0) else if x.kind = 3 then decide (x.lines = []) else false
def rises (seen : List En) (x : En) : Bool := match seen.getLast? with
 | none => true
 | some y => decide (bl y.path < bl x.path)
def isDir (seen : List En) (p : List UInt8) : Bool := seen.any (fun y => decide (y.kind = 1) && decide (bl y.path = p))
def parentOk (seen : List En) (x : En) : Bool := match Path.parent (bl x.path) with
 | none => true
 | some p => isDir seen p
def okAt (seen : List En) (x : En) : Bool := Path.right (bl x.path) && rises seen x && thing x && parentOk seen x
def Zw (L : List En) : Bool := decide (L.length ≤ 1024) && (List.range L.length).all (fun j => match L[j]? with
 | none => true
 | some x => okAt (L.take j) x)
theorem treeRight_iff (L : List En) : Zw L = true ↔ L.length ≤ 1024 ∧ ∀ j (h : j < L.length), okAt (L.take j) L[j] = true := by
 unfold Zw
 rw [Bool.and_eq_true, decide_eq_true_eq, List.all_eq_true]
 constructor
 ·rintro ⟨h1, h2⟩
  refine ⟨h1, fun j h => ?_⟩
  have := h2 j (List.mem_range.2 h)
  rw [List.getElem?_eq_getElem h] at this
  exact this
 ·rintro ⟨h1, h2⟩
  refine ⟨h1, fun j h => ?_⟩
  have hj := List.mem_range.1 h
  rw [List.getElem?_eq_getElem hj]
  exact h2 j hj
theorem treeRight_no {L : List En} {j : Nat} (h : j < L.length) (hn : okAt (L.take j) L[j] = false) : Zw L = false := by
 cases e : Zw L with
 | false => rfl
 | true =>
  have := ((treeRight_iff L).1 e).2 j h
  rw [hn] at this
  cases this
theorem treeRight_long {L : List En} (h : 1024 < L.length) : Zw L = false := by
 unfold Zw
 rw [decide_eq_false (by omega), Bool.false_and]
theorem isDir_snoc (seen : List En) (x : En) (p : List UInt8) : isDir (seen ++ [x]) p = (isDir seen p || (decide (x.kind = 1) && decide (bl x.path = p))) := by
 unfold isDir
 rw [List.any_append]
 simp
def Zt (L : List En) (p : List UInt8) : Option En := L.find? (fun y => decide (bl y.path = p))
def ahead (L : List En) (j : Nat) (x : En) : Bool := match j with
 | 0 => true
 | i + 1 => match L[i]? with
  | none => true
  | some y => decide (bl y.path < bl x.path)
def okD (L : List En) (j : Nat) (x : En) : Bool := Path.right (bl x.path) && ahead L j x && decide (1 ≤ x.kind) && decide (x.kind ≤ 3) && Lines.right (Lines.bs x.lines) && (decide (x.kind = 2) || decide (x.lines = [])) && (decide (x.kind = 3) || decide (x.data.size = 0)) && (match Path.parent (bl x.path) with
 | none => true
 | some p => match Zt L p with
  | none => false
  | some d => decide (d.kind = 1))
theorem thing_iff (x : En) : thing x = true ↔ (1 ≤ x.kind ∧ x.kind ≤ 3) ∧ Lines.right (Lines.bs x.lines) = true ∧ (x.kind = 2 ∨ x.lines = []) ∧ (x.kind = 3 ∨ x.data.size = 0) := by
 unfold thing
 by_cases h1 : x.kind = 1
 ·rw [if_pos h1]
  simp only [Bool.and_eq_true, decide_eq_true_eq]
  constructor
  ·rintro ⟨a, b⟩
   exact ⟨by omega, by rw [a]; rfl, Or.inr a, Or.inr b⟩
  ·rintro ⟨_, _, c, d⟩
   exact ⟨c.resolve_left (by omega), d.resolve_left (by omega)⟩
 ·rw [if_neg h1]
  by_cases h2 : x.kind = 2
  ·rw [if_pos h2]
   simp only [Bool.and_eq_true, decide_eq_true_eq]
   constructor
   ·rintro ⟨a, b⟩
    exact ⟨by omega, a, Or.inl h2, Or.inr b⟩
   ·rintro ⟨_, b, _, d⟩
    exact ⟨b, d.resolve_left (by omega)⟩
  ·rw [if_neg h2]
   by_cases h3 : x.kind = 3
   ·rw [if_pos h3]
    simp only [decide_eq_true_eq]
    constructor
    ·intro a
     exact ⟨by omega, by rw [a]; rfl, Or.inr a, Or.inl h3⟩
    ·rintro ⟨_, _, c, _⟩
     exact c.resolve_left h2
   ·rw [if_neg h3]
    constructor
    ·intro h; cases h
    ·rintro ⟨a, _⟩; omega
theorem getLast_take {L : List En} {j : Nat} (h : j < L.length) : (L.take j).getLast? = match j with
 | 0 => none
 | i + 1 => L[i]? := by
 cases j with
 | zero => simp
 | succ i =>
  rw [List.getLast?_eq_getElem?, List.length_take]
  have : min (i + 1) L.length - 1 = i := by omega
  rw [this, List.getElem?_take, if_pos (by omega)]
theorem rises_eq {L : List En} {j : Nat} (h : j < L.length) (x : En) : rises (L.take j) x = ahead L j x := by
 unfold rises ahead
 rw [getLast_take h]
 cases j <;> rfl
theorem rising {L : List En} (h : ∀ j (hj : j < L.length), rises (L.take j) L[j] = true) : ∀ i j (hi : i < L.length) (hj : j < L.length), i < j → bl L[i].path < bl L[j].path := by
 intro i j hi hj hij
 induction j with
 | zero => omega
 | succ j ih =>
  have h1 := h (j + 1) hj
  rw [rises_eq hj] at h1
  simp only [ahead, List.getElem?_eq_getElem (show j < L.length by omega), decide_eq_true_eq] at h1
  rcases Nat.lt_or_ge i j with h2 | h2
  ·exact List.lt_trans (ih (by omega) h2) h1
  ·have e : i = j := by omega
   subst e
   exact h1
theorem parent_less {p a : List UInt8} (h : Path.parent p = some a) : a < p := by
 obtain ⟨b, rfl, _⟩ := Path.parent_some h
 clear h
 induction a with
 | nil => exact List.nil_lt_cons _ _
 | cons c a ih => exact List.cons_lt_cons_self.2 ih
theorem okD_of_okAt {L : List En} (h : ∀ j (hj : j < L.length), okAt (L.take j) L[j] = true) (j : Nat) (hj : j < L.length) : okD L j L[j] = true := by
 have hr : ∀ j (hj : j < L.length), rises (L.take j) L[j] = true := fun j hj => by
  have := h j hj
  unfold okAt at this
  simp only [Bool.and_eq_true] at this
  exact this.1.1.2
 have hris := rising hr
 have h1 := h j hj
 unfold okAt at h1
 simp only [Bool.and_eq_true] at h1
 obtain ⟨⟨⟨a1, a2⟩, a3⟩, a4⟩ := h1
 unfold parentOk at a4
 rw [rises_eq hj] at a2
 obtain ⟨⟨b1, b2⟩, b3, b4, b5⟩ := (thing_iff _).1 a3
 unfold okD
 simp only [Bool.and_eq_true, Bool.or_eq_true, decide_eq_true_eq]
 refine ⟨⟨⟨⟨⟨⟨⟨a1, a2⟩, b1⟩, b2⟩, b3⟩, b4⟩, b5⟩, ?_⟩
 cases hp : Path.parent (bl L[j].path) with
 | none => rfl
 | some p =>
  rw [hp] at a4
  simp only at a4 ⊢
  unfold isDir at a4
  rw [List.any_eq_true] at a4
  obtain ⟨y, hy, hk⟩ := a4
  simp only [Bool.and_eq_true, decide_eq_true_eq] at hk
  have hyL : y ∈ L := List.mem_of_mem_take hy
  obtain ⟨i, hi, rfl⟩ := List.getElem_of_mem hyL
  cases hf : Zt L p with
  | none =>
   unfold Zt at hf
   rw [List.find?_eq_none] at hf
   exact absurd hk.2 (by simpa using hf _ hyL)
  | some d =>
   unfold Zt at hf
   have hd1 := List.find?_some hf
   have hd2 := List.mem_of_find?_eq_some hf
   simp only [decide_eq_true_eq] at hd1
   obtain ⟨i', hi', rfl⟩ := List.getElem_of_mem hd2
   have e : i' = i := by
    rcases Nat.lt_trichotomy i i' with h2 | h2 | h2
    ·have := hris i i' hi hi' h2
     rw [hk.2, hd1] at this
     exact absurd this (List.lt_irrefl _)
    ·exact h2.symm
    ·have := hris i' i hi' hi h2
     rw [hk.2, hd1] at this
     exact absurd this (List.lt_irrefl _)
   subst e
   simpa using hk.1
theorem okAt_of_okD {L : List En} (h : ∀ j (hj : j < L.length), okD L j L[j] = true) (j : Nat) (hj : j < L.length) : okAt (L.take j) L[j] = true := by
 have hr : ∀ j (hj : j < L.length), rises (L.take j) L[j] = true := fun j hj => by
  have := h j hj
  unfold okD at this
  simp only [Bool.and_eq_true] at this
  rw [rises_eq hj]
  exact this.1.1.1.1.1.1.2
 have hris := rising hr
 have h1 := h j hj
 unfold okD at h1
 simp only [Bool.and_eq_true, Bool.or_eq_true, decide_eq_true_eq] at h1
 obtain ⟨⟨⟨⟨⟨⟨⟨a1, a2⟩, b1⟩, b2⟩, b3⟩, b4⟩, b5⟩, a4⟩ := h1
 unfold okAt
 simp only [Bool.and_eq_true]
 refine ⟨⟨⟨a1, hr j hj⟩, (thing_iff _).2 ⟨⟨b1, b2⟩, b3, b4, b5⟩⟩, ?_⟩
 unfold parentOk
 cases hp : Path.parent (bl L[j].path) with
 | none => rfl
 | some p =>
  rw [hp] at a4
  simp only at a4 ⊢
  cases hf : Zt L p with
  | none => rw [hf] at a4; cases a4
  | some d =>
   rw [hf] at a4
   simp only [decide_eq_true_eq] at a4
   unfold Zt at hf
   have hd1 := List.find?_some hf
   have hd2 := List.mem_of_find?_eq_some hf
   simp only [decide_eq_true_eq] at hd1
   obtain ⟨i, hi, rfl⟩ := List.getElem_of_mem hd2
   have hlt := parent_less hp
   have hij : i < j := by
    rcases Nat.lt_trichotomy i j with h2 | h2 | h2
    ·exact h2
    ·subst h2
     rw [hd1] at hlt
     exact absurd hlt (List.lt_irrefl _)
    ·have := hris j i hj hi h2
     rw [hd1] at this
     exact absurd (List.lt_trans hlt this) (List.lt_irrefl _)
   unfold isDir
   rw [List.any_eq_true]
   refine ⟨L[i], ?_, by simp [a4, hd1]⟩
   rw [List.mem_take_iff_getElem]
   exact ⟨i, by omega, rfl⟩
theorem treeRight_D (L : List En) : Zw L = true ↔ L.length ≤ 1024 ∧ ∀ j (h : j < L.length), okD L j L[j] = true := by
 rw [treeRight_iff]
 exact and_congr_right fun _ => ⟨fun h j hj => okD_of_okAt h j hj, fun h j hj => okAt_of_okD h j hj⟩
theorem treeRight_noD {L : List En} {j : Nat} (h : j < L.length) (hn : okD L j L[j] = false) : Zw L = false := by
 cases e : Zw L with
 | false => rfl
 | true =>
  have := ((treeRight_D L).1 e).2 j h
  rw [hn] at this
  cases this
end Go.Proofs.YtbnfjjjdnbcehaaGreatDoor
namespace Go.Proofs.YtbnfjjjdnbcehaaGreatDoor
open Go.RowKit
set_option maxRecDepth 100000
def insE (x : En) : List En → List En
 | [] => [x]
 | y :: r => if bl x.path < bl y.path then x :: y :: r else y :: insE x r
theorem insE_perm (x : En) : ∀ o : List En, (insE x o).Perm (x :: o)
 | [] => List.Perm.refl _
 | y :: r => by
  rw [insE]
  split
  ·exact List.Perm.refl _
  ·exact ((insE_perm x r).cons y).trans (List.Perm.swap x y r)
def Weak (L : List En) : Prop := L.Pairwise (fun a b => ¬ bl b.path < bl a.path)
def Zp (L : List En) : Prop := L.Pairwise (fun a b => bl a.path < bl b.path)
theorem right_strict {L : List En} (h : Zw L = true) : Zp L := by
 have h1 := ((treeRight_iff L).1 h).2
 refine List.pairwise_iff_getElem.2 fun i j hi hj hij => rising (fun j hj => ?_) i j hi hj hij
 have h2 := h1 j hj
 unfold okAt at h2
 simp only [Bool.and_eq_true] at h2
 exact h2.1.1.2
theorem weak_unique : ∀ {A B : List En}, A.Perm B → Zp A → Weak B → A = B
 | [], B, hp, _, _ => (List.Perm.nil_eq hp)
 | a :: A, [], hp, _, _ => by have := hp.length_eq; simp at this
 | a :: A, b :: B, hp, hA, hB => by
  obtain ⟨a1, a2⟩ := List.pairwise_cons.1 hA
  obtain ⟨b1, b2⟩ := List.pairwise_cons.1 hB
  have e : a = b := Classical.byContradiction fun hne => by
   have hb : b ∈ A := by
    rcases List.mem_cons.1 (hp.mem_iff.2 (List.mem_cons_self ..)) with e | e
    ·exact absurd e.symm hne
    ·exact e
   have ha : a ∈ B := by
    rcases List.mem_cons.1 (hp.mem_iff.1 (List.mem_cons_self ..)) with e | e
    ·exact absurd e hne
    ·exact e
   exact b1 a ha (a1 b hb)
  subst e
  rw [weak_unique hp.cons_inv a2 b2]
def ownOk (x : En) : Prop := Path.right (bl x.path) = true ∧ thing x = true
theorem Yy {L : List En} {p : List UInt8} {d : En} (h : Zt L p = some d) : d ∈ L ∧ bl d.path = p := by
 refine ⟨List.mem_of_find?_eq_some h, ?_⟩
 have := List.find?_some h
 simpa using this
theorem strict_inj {L : List En} (h : Zp L) {x y : En} (hx : x ∈ L) (hy : y ∈ L) (e : bl x.path = bl y.path) : x = y := by
 induction L with
 | nil => cases hx
 | cons z L ih =>
  obtain ⟨h1, h2⟩ := List.pairwise_cons.1 h
  rcases List.mem_cons.1 hx with e1 | hx'
  ·rcases List.mem_cons.1 hy with e2 | hy'
   ·rw [e1, e2]
   ·subst e1
    have := h1 y hy'
    rw [e] at this
    exact absurd this (List.lt_irrefl _)
  ·rcases List.mem_cons.1 hy with e2 | hy'
   ·subst e2
    have := h1 x hx'
    rw [e] at this
    exact absurd this (List.lt_irrefl _)
   ·exact ih h2 hx' hy'
theorem find_of_mem {L : List En} (h : Zp L) {d : En} (hd : d ∈ L) : Zt L (bl d.path) = some d := by
 cases hf : Zt L (bl d.path) with
 | none =>
  unfold Zt at hf
  have := List.find?_eq_none.1 hf d hd
  simp at this
 | some y =>
  obtain ⟨h1, h2⟩ := Yy hf
  rw [strict_inj h h1 hd h2]
theorem strict_rises {L : List En} (h : Zp L) (j : Nat) (hj : j < L.length) : rises (L.take j) L[j] = true := by
 unfold rises
 rw [getLast_take hj]
 cases j with
 | zero => rfl
 | succ i =>
  simp only
  rw [List.getElem?_eq_getElem (by omega)]
  simp only [decide_eq_true_eq]
  exact List.pairwise_iff_getElem.1 h i (i + 1) (by omega) hj (by omega)
theorem treeRight_set (L : List En) : Zw L = true ↔ L.length ≤ 1024 ∧ Zp L ∧ (∀ x ∈ L, ownOk x) ∧ ∀ x ∈ L, ∀ p, Path.parent (bl x.path) = some p → ∃ d ∈ L, bl d.path = p ∧ d.kind = 1 := by
 constructor
 ·intro h
  have hs := right_strict h
  have h1 := (treeRight_iff L).1 h
  refine ⟨h1.1, hs, fun x hx => ?_, fun x hx p hp => ?_⟩
  ·obtain ⟨j, hj, rfl⟩ := List.getElem_of_mem hx
   have := h1.2 j hj
   unfold okAt at this
   simp only [Bool.and_eq_true] at this
   exact ⟨this.1.1.1, this.1.2⟩
  ·obtain ⟨j, hj, rfl⟩ := List.getElem_of_mem hx
   have := h1.2 j hj
   unfold okAt parentOk at this
   rw [hp] at this
   simp only [Bool.and_eq_true] at this
   have h2 := this.2
   unfold isDir at h2
   obtain ⟨d, hd, hk⟩ := List.any_eq_true.1 h2
   simp only [Bool.and_eq_true, decide_eq_true_eq] at hk
   exact ⟨d, List.mem_of_mem_take hd, hk.2, hk.1⟩
 ·rintro ⟨h0, hs, h1, h2⟩
  refine (treeRight_D L).2 ⟨h0, fun j hj => ?_⟩
  have hm := List.getElem_mem hj
  obtain ⟨a1, a2⟩ := h1 _ hm
  obtain ⟨⟨b1, b2⟩, b3, b4, b5⟩ := (thing_iff _).1 a2
  unfold okD
  rw [← rises_eq hj, strict_rises hs j hj, a1, b3]
  simp only [Bool.and_eq_true, Bool.or_eq_true, decide_eq_true_eq]
  refine ⟨⟨⟨⟨⟨⟨⟨trivial, trivial⟩, b1⟩, b2⟩, trivial⟩, b4⟩, b5⟩, ?_⟩
  cases hp : Path.parent (bl L[j].path) with
  | none => rfl
  | some p =>
   obtain ⟨d, hd, hdp, hdk⟩ := h2 _ hm p hp
   have := find_of_mem hs hd
   rw [hdp] at this
   simp only [this]
   exact decide_eq_true hdk
def undo (k : Int) : Int := if k = 1 ∨ k = 3 ∨ k = 5 then k + 1 else if k = 2 ∨ k = 4 ∨ k = 6 then k - 1 else if k = 7 ∨ k = 8 ∨ k = 9 ∨ k = 10 then k else 0
theorem info11 : (Tryz.prog.info? 127).map (·.size) = some 11 := by kernel_rfl
theorem kinds_any (w : World) : Calls Tryz.prog 103 #[] w fun e w' => e = .returned (.agg #[.int .i64 0, .int .i64 2, .int .i64 1, .int .i64 4, .int .i64 3, .int .i64 6, .int .i64 5, .int .i64 7, .int .i64 8, .int .i64 9, .int .i64 10]) ∧ Fr None' w w' := by
 go_enter Tryz.func103, Tryz.ntmps103
 go_wp2_with fail
 exact bodyPost_ret (results_cell_row rfl _ _ w.heap.size 127 #[.int .i64 0, .int .i64 2, .int .i64 1, .int .i64 4, .int .i64 3, .int .i64 6, .int .i64 5, .int .i64 7, .int .i64 8, .int .i64 9, .int .i64 10] (0, 0) _ rfl (heap_alloc_new w _) Tryz.underlying127 rfl info11) rfl ⟨rfl, Fr.alloc _ _ _⟩
theorem eleven (k : Int) : k < 0 ∨ 11 ≤ k ∨ k = 0 ∨ k = 1 ∨ k = 2 ∨ k = 3 ∨ k = 4 ∨ k = 5 ∨ k = 6 ∨ k = 7 ∨ k = 8 ∨ k = 9 ∨ k = 10 := by omega
theorem undoing_any (k : Int) (w : World) : Calls Tryz.prog 73 #[.int .i64 k] w fun e w' => e = .returned (.int .i64 (undo k)) ∧ Fr None' w w' := by
 have q1 := kinds_any w
 have HU : Hid (k < 0 ∨ 11 ≤ k → undo k = 0) := fun h => by unfold undo; rw [if_neg (by omega), if_neg (by omega), if_neg (by omega)]
 rcases eleven k with h | h | rfl | rfl | rfl | rfl | rfl | rfl | rfl | rfl | rfl | rfl | rfl
 ·rw [HU.out (Or.inl h)]
  clear HU
  go_enter Tryz.func73, Tryz.ntmps73
  go_wp2_with fail
  with_reducible refine q1.mono ?_
  rintro e w1 ⟨rfl, f1⟩
  clear q1
  go_wp2_with fail
  go_ret
  exact ⟨rfl, f1.then7 (Fr.alloc _ _ _)⟩
 ·rw [HU.out (Or.inr h)]
  clear HU
  go_enter Tryz.func73, Tryz.ntmps73
  go_wp2_with fail
  with_reducible refine q1.mono ?_
  rintro e w1 ⟨rfl, f1⟩
  clear q1
  go_wp2_with fail
  go_ret
  exact ⟨rfl, f1.then7 (Fr.alloc _ _ _)⟩
 all_goals
  clear HU
  go_enter Tryz.func73, Tryz.ntmps73
  go_wp2_with fail
  with_reducible refine q1.mono ?_
  rintro e w1 ⟨rfl, f1⟩
  clear q1
  go_wp2_with fail
  go_ret
  exact ⟨rfl, f1.then7 (Fr.alloc _ _ _)⟩
def Zc (x : Pr) : Bool := decide (x.pos = 0) && decide (x.old.length = 0) && decide (x.new.length = 0)
def bareP (x : Pr) : Bool := decide (x.dst.data.toList = []) && decide (x.src.data.toList = []) && Zc x
def linesP (x : Pr) : Bool := decide (x.dst.data.toList = []) && decide (x.src.data.toList = []) && decide (0 ≤ x.pos) && decide (x.pos ≤ 1073741824) && Lines.right (Lines.bs x.old) && Lines.right (Lines.bs x.new) && decide (0 < x.old.length + x.new.length)
def tokenP (x : Pr) : Bool := Zc x && Lines.tok x.src.data.toList && Lines.tok x.dst.data.toList && decide (¬ x.src = x.dst)
def bytesP (x : Pr) : Bool := Zc x && decide (¬ x.src = x.dst)
def moveP (x : Pr) : Bool := Zc x && decide (x.src.data.toList = []) && Path.right x.dst.data.toList && Path.apart x.dst.data.toList x.path.data.toList
def Yn (x : Pr) : Bool :=
 if x.kind ≤ 6 then bareP x else if x.kind = 7 then linesP x else if x.kind = 8 then tokenP x else if x.kind = 9 then bytesP x else moveP x
def Zv (x : Pr) : Bool := decide (1 ≤ x.kind ∧ x.kind ≤ 10) && Path.right x.path.data.toList && Yn x
theorem kinds10 {k : Int} (h : 1 ≤ k ∧ k ≤ 10) : k = 1 ∨ k = 2 ∨ k = 3 ∨ k = 4 ∨ k = 5 ∨ k = 6 ∨ k = 7 ∨ k = 8 ∨ k = 9 ∨ k = 10 := by omega
theorem right_inv {x : Pr} (h : Zv x = true) : Zv (inv x) = true := by
 obtain ⟨K, P, T, F, A, lO, lN⟩ := x
 unfold Zv at h
 simp only [Bool.and_eq_true, decide_eq_true_eq] at h
 obtain ⟨⟨hk, hp⟩, hr⟩ := h
 rcases kinds10 hk with rfl | rfl | rfl | rfl | rfl | rfl | rfl | rfl | rfl | rfl
 case inr.inr.inr.inr.inr.inr.inl =>
  simp [Yn, linesP] at hr
  simp [inv, Zv, Yn, linesP, hp, hr]
  omega
 case inr.inr.inr.inr.inr.inr.inr.inl =>
  simp [Yn, tokenP, Zc] at hr
  simp [inv, Zv, Yn, tokenP, Zc, hp, hr]
  exact fun e => hr.2 e.symm
 case inr.inr.inr.inr.inr.inr.inr.inr.inl =>
  simp [Yn, bytesP, Zc] at hr
  simp [inv, Zv, Yn, bytesP, Zc, hp, hr]
  exact fun e => hr.2 e.symm
 case inr.inr.inr.inr.inr.inr.inr.inr.inr =>
  simp [Yn, moveP, Zc] at hr
  have hc := hr.2
  rw [Path.apart_comm] at hc
  simp [inv, Zv, Yn, moveP, Zc, hp, hr, hc]
 all_goals
  simp [Yn, bareP, Zc] at hr
  simp [inv, Zv, Yn, bareP, Zc, hp, hr]
theorem equalS_any (va vb : Option Addr) (ca cb : Nat) (a b : List ByteArray) (w : World) (ha : Lines.Row w va a) (hb : Lines.Row w vb b) (hl : a.length < 1000000) :
  Calls Tryz.prog 84 #[.slice va a.length ca, .slice vb b.length cb] w fun e w' => e = .returned (.bool (decide (a = b))) ∧ Fr None' w w' := by
 by_cases hn : a.length = b.length
 case neg =>
  have hR : Hid (decide (a = b) = false) := decide_eq_false (fun e => hn (by rw [e]))
  have i1 : ¬ (a.length : Int) = b.length := by omega
  rw [hR.out]
  clear ha hb hn hR
  go_enter Tryz.func84, Tryz.ntmps84
  go_wp2_with fail
  go_ret
  exact ⟨rfl, Fr.refl _ _⟩
 case pos =>
 have HN : Hid (a.length = b.length) := hn
 obtain ⟨n, hna⟩ : ∃ n, a.length = n := ⟨_, rfl⟩
 have HA : Hid (a.length = n) := hna
 rw [← hn, hna]
 have i1 : (n : Int) < 1000000 := by omega
 clear hl hn hna
 go_enter Tryz.func84, Tryz.ntmps84
 go_wp2_with fail
 go_loopw [13] (fun i wr => ∃ k : Nat, k ≤ n ∧ i = .int .i64 k ∧ Fr None' w wr ∧ Hid (a.take k = b.take k)) (fun i _ => n - (intOf i).toNat)
 case atStart => exact ⟨0, Nat.zero_le _, rfl, Fr.refl _ _, rfl⟩
 case round =>
  obtain ⟨k, hk, rfl, hF, HT⟩ := hrel
  by_cases hlt : k < n
  ·have hka : k < a.length := by rw [HA.out]; exact hlt
   have hkb : k < b.length := by rw [← HN.out]; exact hka
   obtain ⟨ga, oa, rfl, c1⟩ := (ha.fr (toLN hF)).get hka
   obtain ⟨gb, ob, rfl, c2⟩ := (hb.fr (toLN hF)).get hkb
   obtain ⟨x, hx⟩ : ∃ x, a[k] = x := ⟨_, rfl⟩
   obtain ⟨y, hy⟩ : ∃ y, b[k] = y := ⟨_, rfl⟩
   have HX : Hid (a[k] = x) := hx
   have HY : Hid (b[k] = y) := hy
   rw [hx] at c1
   rw [hy] at c2
   clear hx hy ha hb
   have i2 : (k : Int) < n := by omega
   by_cases hxy : x = y
   ·subst hxy
    go_wp2_with fail
    go_quiet (fail)
    go_wp2_with fail
    exact ⟨⟨k + 1, by omega, by go_num, hF.then7 (Fr.drewN _ _ _), Lines.list_step HN.out hka HT.out (by rw [HX.out, HY.out])⟩, by simp [intOf]; omega⟩
   ·have HE : Hid (¬ x = y) := hxy
    obtain ⟨q1, q2⟩ := Lines.str_no hxy
    clear hxy
    go_wp2_with fail
    go_quiet (fail)
    clear c1 c2
    go_wp2_with fail
    go_ret
    exact ⟨Lines.ret_bool (decide_eq_false (fun e => HE.out (by rw [← HX.out, ← HY.out]; subst e; rfl))).symm, hF.then7 (Fr.drewN _ _ _)⟩
  ·go_wp2_with fail
   go_ret
   refine ⟨Lines.ret_bool ?_, hF⟩
   have := HT.out
   rw [List.take_of_length_le (by rw [HA.out]; omega), List.take_of_length_le (by rw [← HN.out, HA.out]; omega)] at this
   exact (decide_eq_true this).symm
end Go.Proofs.YtbnfjjjdnbcehaaGreatDoor
