/-
  What is proved here: the contracts that the statement stands on: Bod13, AnyR. Conditions: as each theorem names them.
-/
import Derived.Test.YtofpkpomhdhkgaaGreatDoorMCutW13
import Derived.OrdersIn
import Derived.Test.YtofpkpomhdhkgaaGreatDoorMBase
namespace Go.Proofs.YtofpkpomhdhkgaaGreatDoor
open Go.RowKit
set_option maxRecDepth 100000

theorem depsB_more (n : B13) (d : B13) : ∀ (last : B13) (l : List B13), depsB n last (l ++ [d]) = (depsB n last l && (labelB d && decide (l.getLast?.getD last < d) && !decide (d = n)))
  | last, [] => by
    show (labelB d && decide (last < d) && !decide (d = n) && true) = (true && (labelB d && decide (last < d) && !decide (d = n)))
    rw [Bool.and_true, Bool.true_and]
  | last, x :: l => by
    have h := depsB_more n d x l
    have e : (x :: l).getLast?.getD last = l.getLast?.getD x := by
      cases l with
      | nil => rfl
      | cons y l => simp [List.getLast?_cons]
    rw [List.cons_append, depsB, h, depsB, e]
    simp only [Bool.and_assoc]

theorem right_change {p : Pa} (h : rightPa p = true) (hl : p.body.length < 256) (x : Pr) : rightPa { p with body := p.body ++ [x] } = rightP x := by
  unfold rightPa at h ⊢
  simp only [Bool.and_eq_true, decide_eq_true_eq] at h
  obtain ⟨⟨h1, h2, h3⟩, _, h4⟩ := h
  have e : decide (p.body.length + 1 ≤ 256) = true := decide_eq_true (by omega)
  simp only [h1, h3, decide_eq_true h2, List.length_append, List.length_singleton, List.all_append, h4, e, Bool.true_and, List.all_cons, List.all_nil, Bool.and_true]

theorem right_dep {p : Pa} (h : rightPa p = true) (hl : p.deps.length < 256) (d : ByteArray) : rightPa { p with deps := p.deps ++ [d] } = (labelB (unB d) && decide (((p.deps.map unB).getLast?.getD []) < unB d) && !decide (unB d = unB p.name)) := by
  unfold rightPa at h ⊢
  simp only [Bool.and_eq_true, decide_eq_true_eq] at h
  obtain ⟨⟨h1, h2, h3⟩, h5, h4⟩ := h
  have e : decide (p.deps.length + 1 ≤ 256) = true := decide_eq_true (by omega)
  simp only [h1, h4, decide_eq_true h5, List.length_append, List.length_singleton, List.map_append, List.map_cons, List.map_nil, depsB_more, h3, e, Bool.true_and, Bool.and_true]

/-- Texts put behind a row of the call's own. -/
theorem OwnS13.addAll {B : Nat} {w : World} {v : Value} {l : List ByteArray} (h : OwnS13 B w v l) {va : Option Addr} {n c : Nat} {m : List ByteArray} (hm : StrsAt w (.slice va n c) m) (hB : B ≤ w.heap.size) (hl : l.length + m.length ≤ 2000000000) :
    ∃ v' w', (Builtin.append_ #[22, 22] 22 #[v, .slice va n c]).run Tryz.prog w = .ok v' w' ∧ OwnS13 B w' v' (l ++ m) ∧ Fr (fun k => v.ownBlock = some k) w w' := by
  obtain ⟨i0, hi, hz0, hz1, hz2⟩ := info_parts Lines.Tryz.infoS
  obtain ⟨va', c', e, h1, h2, h3⟩ := hm
  cases e
  cases va with
  | none =>
    have hc := h1 rfl
    subst hc
    obtain rfl : m = [] := List.length_eq_zero_iff.1 (by omega)
    refine ⟨v, w, run_append_owned_none (P := Tryz.prog) (w := w) B 22 22 9 i0 1 Tryz.underlying22 hi v l.length _ h, ?_, Fr.refl _ _⟩
    rw [List.append_nil]
    exact h
  | some a =>
    obtain ⟨v', w', hr, h5, h6, _, _⟩ := run_append_own_at (P := Tryz.prog) w B 22 22 9 i0 (.string ⟨#[]⟩) 1 16 Tryz.underlying22 hi hz0 hz1 hz2 rfl (by decide) v l.length _ h a m.length c (m.map Value.string) (by rw [List.length_map, Nat.mul_one]) (fun j u hj => by
      rw [List.getElem?_map] at hj
      cases hx : m[j]? with
      | none => rw [hx] at hj; cases hj
      | some x =>
        rw [hx] at hj
        cases hj
        obtain ⟨g, o, e1, e2⟩ := h3 j x hx
        cases e1
        have e3 : (Addr.mk g o none).add j = ⟨g, o + j, none⟩ := by simp only [Addr.add]; split <;> simp_all
        rw [e3]; exact e2) (fun u hu => by
      obtain ⟨x, _, rfl⟩ := List.mem_map.1 hu
      rfl) (by unfold maxLen; omega) (by omega) hB
    refine ⟨v', w', hr, ?_, Fr.grown h6 (fun k e => e)⟩
    unfold OwnS13
    rw [List.length_append, List.map_append]
    exact h5

/-- 'append(append([]string{}, m...), x)': both runs. -/
theorem texts_run (w : World) {va : Option Addr} {n c : Nat} {m : List ByteArray} (hm : StrsAt w (.slice va n c) m) (hl : m.length ≤ 1000000000) (x : ByteArray) :
    ∃ v1 w1 v2 w2, (Builtin.append_ #[22, 22] 22 #[.slice (some ⟨w.heap.size, 0, none⟩) 0 0, .slice va n c]).run Tryz.prog (w.alloc (.cells #[] 9)) = .ok v1 w1 ∧ (Builtin.append_ #[22, 22] 22 #[v1, .slice (some ⟨w1.heap.size, 0, none⟩) 1 1]).run Tryz.prog (w1.alloc (.cells #[.string x] 9)) = .ok v2 w2 ∧ StrsAt w2 v2 (m ++ [x]) ∧ Fr None' w w2 ∧ ∀ k, v2.ownBlock = some k → w.heap.size ≤ k := by
  have F0 : Fr None' w (w.alloc (.cells #[] 9)) := Fr.alloc None' w _
  have s0 := F0.size
  have o0 : OwnS13 w.heap.size (w.alloc (.cells #[] 9)) (.slice (some ⟨w.heap.size, 0, none⟩) 0 0) [] :=
    ⟨rfl, .inr ⟨w.heap.size, 0, #[], rfl, Nat.le_refl _, heap_alloc_new w _, Nat.le_refl _, Nat.zero_le _, rfl, rfl⟩⟩
  obtain ⟨v1, w1, r1, o1, f1⟩ := o0.addAll (hm.kept F0) s0 (by simp; omega)
  rw [List.nil_append] at o1
  have F1 : Fr None' w w1 := F0.trans f1 (fun i e => Or.inr (by cases e; exact Nat.le_refl _))
  obtain ⟨v2, w2, r2, o2, f2⟩ := o1.push x F1.size (by omega)
  obtain ⟨va2, c2, e2, hb2, hs2⟩ := o2.slice
  obtain ⟨va1, c1, e1, hb1, -⟩ := o1.slice
  refine ⟨v1, w1, v2, w2, r1, r2, hs2, F1.trans f2 (fun i e => Or.inr ?_), fun k e => ?_⟩
  · subst e1
    cases va1 with
    | none => cases e
    | some a => cases e; exact hb1 a rfl
  · subst e2
    cases va2 with
    | none => cases e
    | some a => cases e; exact hb2 a rfl

theorem small_change {p : Pa} (h : FewPa p) {x : Pr} (hx : x.weight < 4000) : SmallPa ⟨p.name, p.deps, p.body ++ [x]⟩ := by
  have hs := h.small
  obtain ⟨k1, k2, k3⟩ := weight_small hx
  refine ⟨hs.name, hs.deps, ⟨?_, fun y hy => ?_⟩, fun y hy => ?_⟩
  · have := h.body.1
    show (p.body ++ [x]).length ≤ _
    rw [List.length_append, List.length_singleton]
    omega
  · rcases List.mem_append.1 hy with hy | hy
    · exact hs.body.2 y hy
    · rw [List.mem_singleton.1 hy]; exact k1
  · rcases List.mem_append.1 hy with hy | hy
    · exact hs.lines y hy
    · rw [List.mem_singleton.1 hy]
      exact ⟨fun z hz => by have := k2 z hz; omega, fun z hz => by have := k3 z hz; omega⟩

theorem small_dep {p : Pa} (h : FewPa p) {d : ByteArray} (hd : d.size ≤ 1000) : SmallPa ⟨p.name, p.deps ++ [d], p.body⟩ := by
  have hs := h.small
  refine ⟨hs.name, ⟨?_, fun y hy => ?_⟩, hs.body, hs.lines⟩
  · have := h.deps.1
    show (p.deps ++ [d]).length ≤ _
    rw [List.length_append, List.length_singleton]
    omega
  · rcases List.mem_append.1 hy with hy | hy
    · exact hs.deps.2 y hy
    · rw [List.mem_singleton.1 hy]; omega

end Go.Proofs.YtofpkpomhdhkgaaGreatDoor

namespace Go.Proofs.YtofpkpomhdhkgaaGreatDoor
open Go.RowKit
set_option maxRecDepth 100000

theorem getD_set {listed : Array Bool} {i j : Nat} (hi : i < listed.size) : (listed.setIfInBounds i true).getD j false = if j = i then true else listed.getD j false := by
  by_cases h : j = i
  · subst h
    rw [if_pos rfl]
    simp [Array.getD_eq_getD_getElem?, hi]
  · rw [if_neg h]
    simp [Array.getD_eq_getD_getElem?, Ne.symm h]

theorem ready_none {md : Region.Mode} {ops : Array Oper} {listed : Array Bool} (hs : listed.size = ops.size) (hord : ∀ (i : Nat) (o : Oper), ops[i]? = some o → ∀ e ∈ o.after, Region.binds md e = true → e.on < i) (hr : Region.ready md ops listed = []) : ∀ i, i < ops.size → listed.getD i false = true := by
  intro i
  induction i using Nat.strongRecOn with
  | ind i ih =>
    intro hi
    cases hb : listed.getD i false with
    | true => rfl
    | false =>
      exfalso
      have : i ∈ Region.ready md ops listed := by
        unfold Region.ready
        rw [List.mem_filter]
        refine ⟨List.mem_range.2 hi, ?_⟩
        have h1 : listed.getD i true = false := by
          simp only [Array.getD_eq_getD_getElem?] at hb ⊢
          rw [Array.getElem?_eq_getElem (by omega)] at hb ⊢
          exact hb
        rw [h1, Array.getElem?_eq_getElem hi]
        simp only [Bool.not_false, Bool.true_and, Option.map_some, Option.getD_some]
        rw [Array.all_eq_true_iff_forall_mem]
        intro e he
        cases hbd : Region.binds md e with
        | false => rfl
        | true => 
          have hlt := hord i _ (Array.getElem?_eq_getElem hi) e he hbd
          rw [ih e.on hlt (by omega)]
          rfl
      rw [hr] at this
      cases this

theorem ready_spec {md : Region.Mode} {ops : Array Oper} {listed : Array Bool} (hs : listed.size = ops.size) {i : Nat} (h : i ∈ Region.ready md ops listed) : i < ops.size ∧ listed.getD i false = false ∧ ∀ o, ops[i]? = some o → ∀ e ∈ o.after, Region.binds md e = true → listed.getD e.on false = true := by
  unfold Region.ready at h
  rw [List.mem_filter] at h
  obtain ⟨h1, h2⟩ := h
  have hi := List.mem_range.1 h1
  simp only [Bool.and_eq_true, Bool.not_eq_true'] at h2
  obtain ⟨h2, h3⟩ := h2
  refine ⟨hi, ?_, fun o ho e he hb => ?_⟩
  · simp only [Array.getD_eq_getD_getElem?] at h2 ⊢
    rw [Array.getElem?_eq_getElem (by omega)] at h2 ⊢
    exact h2
  · rw [ho] at h3
    simp only [Option.map_some, Option.getD_some] at h3
    have := (Array.all_eq_true_iff_forall_mem.1 h3) e he
    rw [hb] at this
    simpa using this

/-- How many are not listed yet. -/
def left (listed : Array Bool) : Nat := listed.toList.countP (fun b => !b)

theorem left_set {listed : Array Bool} {i : Nat} (hi : i < listed.size) (h : listed.getD i false = false) : left (listed.setIfInBounds i true) + 1 = left listed := by
  unfold left
  obtain ⟨l⟩ := listed
  simp only [List.setIfInBounds_toArray] at *
  have hi' : i < l.length := by simpa using hi
  have hx : l[i] = false := by
    simp only [Array.getD_eq_getD_getElem?, List.getElem?_toArray, List.getElem?_eq_getElem hi', Option.getD_some] at h
    exact h
  clear h hi
  induction l generalizing i with
  | nil => simp at hi'
  | cons x l ih =>
    cases i with
    | zero =>
      simp only [List.getElem_cons_zero] at hx
      subst hx
      simp
    | succ i =>
      have := ih (i := i) (by simpa using hi') (by simpa using hx)
      simp only [List.set_cons_succ, List.countP_cons] at this ⊢
      omega

/-- The law. -/
theorem any_inv {F : Fence} {n : Nat} {P : Program} {md : Region.Mode} {ops : Array Oper} {Q : Exit → Act → World → Prop} (Inv : (Nat → Bool) → Act → World → Prop) (hg : ∀ (i : Nat) (o : Oper), ops[i]? = some o → o.guard = none) (hord : ∀ (i : Nat) (o : Oper), ops[i]? = some o → ∀ e ∈ o.after, Region.binds md e = true → e.on < i)
    (hstep : ∀ (S : Nat → Bool) (a : Act) (w : World) (i : Nat) (o : Oper), Inv S a w → ops[i]? = some o → S i = false → (∀ e ∈ o.after, Region.binds md e = true → S e.on = true) → o.wpIn F n P a w (fun a' w' => Inv (fun j => if j = i then true else S j) a' w') Q)
    (hdone : ∀ (S : Nat → Bool) (a : Act) (w : World), Inv S a w → (∀ i, i < ops.size → S i = true) → Q .normal a w) :
    ∀ (fuel : Nat) (listed : Array Bool) (a : Act) (w : World), listed.size = ops.size → left listed ≤ fuel → Inv (fun j => listed.getD j false) a w → wpAnyIn F n P md ops Q fuel listed a w
  | 0, listed, a, w, hs, hl, hI => by
    have hr : Region.ready md ops listed = [] := by
      cases hr : Region.ready md ops listed with
      | nil => rfl
      | cons i rs =>
        exfalso
        obtain ⟨h1, h2, _⟩ := ready_spec hs (i := i) (by rw [hr]; exact List.mem_cons_self ..)
        have := left_set (listed := listed) (by omega) h2
        omega
    exact ⟨hr, hdone _ a w hI (ready_none hs hord hr)⟩
  | fuel + 1, listed, a, w, hs, hl, hI => by
    refine ⟨fun hr => hdone _ a w hI (ready_none hs hord hr), fun i hi => ?_⟩
    obtain ⟨h1, h2, h3⟩ := ready_spec hs hi
    have ho := Array.getElem?_eq_getElem h1
    refine wpOpIn_step ho (fun K' hK => ?_)
    rw [if_pos (by simp [Region.wanted, hg i _ ho])]
    refine Oper.wpIn_mono (fun a' w' h' => hK a' w' ?_) (hstep _ a w i _ hI ho h2 (h3 _ ho))
    refine any_inv Inv hg hord hstep hdone fuel _ a' w' (by simpa using hs) ?_ ?_
    · have := left_set (listed := listed) (by omega) h2
      omega
    · have e : (fun j => (listed.setIfInBounds i true).getD j false) = fun j => if j = i then true else listed.getD j false := funext fun j => getD_set (by omega)
      rw [e]
      exact h'

theorem left_none (n : Nat) : left (Array.replicate n false) = n := by
  simp [left, List.countP_replicate]

/-- No operation of the region has a guard; what one stands behind has a lesser number. -/
def plainOps (ops : Array Oper) : Bool := ops.all (fun o => o.guard.isNone) && (List.range ops.size).all fun i => match ops[i]? with | some o => o.after.all fun e => !Region.binds .any e || decide (e.on < i) | none => true

theorem plain_guard {ops : Array Oper} (h : plainOps ops = true) (i : Nat) (o : Oper) (ho : ops[i]? = some o) : o.guard = none := by
  unfold plainOps at h
  rw [Bool.and_eq_true] at h
  have := (Array.all_eq_true_iff_forall_mem.1 h.1) o (Array.mem_of_getElem? ho)
  simpa using this

theorem plain_ord {ops : Array Oper} (h : plainOps ops = true) (i : Nat) (o : Oper) (ho : ops[i]? = some o) (e : Edge) (he : e ∈ o.after) (hb : Region.binds .any e = true) : e.on < i := by
  unfold plainOps at h
  rw [Bool.and_eq_true] at h
  have h2 := List.all_eq_true.1 h.2 i (List.mem_range.2 (Array.getElem?_eq_some_iff.1 ho).1)
  rw [ho] at h2
  have := (Array.all_eq_true_iff_forall_mem.1 h2) e he
  rw [hb] at this
  simpa using this

/-- One more is done. -/
def upd (S : Nat → Bool) (i : Nat) : Nat → Bool := fun j => if j = i then true else S j

/-- Each operation of a row, the first of which has the number i, by itself. -/
def StepsL (F : Fence) (n : Nat) (P : Program) (Q : Exit → Act → World → Prop) (Inv : (Nat → Bool) → Act → World → Prop) (S : Nat → Bool) (a : Act) (w : World) (l : List Oper) (i : Nat) : Prop :=
  ∀ j o, l[j]? = some o → S (i + j) = false → (∀ e ∈ o.after, Region.binds .any e = true → S e.on = true) → o.wpIn F n P a w (Inv (upd S (i + j))) Q

theorem StepsL.nil {F : Fence} {n : Nat} {P : Program} {Q : Exit → Act → World → Prop} {Inv : (Nat → Bool) → Act → World → Prop} {S : Nat → Bool} {a : Act} {w : World} {i : Nat} : StepsL F n P Q Inv S a w [] i := fun j o h => by simp at h

theorem StepsL.cons {F : Fence} {n : Nat} {P : Program} {Q : Exit → Act → World → Prop} {Inv : (Nat → Bool) → Act → World → Prop} {S : Nat → Bool} {a : Act} {w : World} {i : Nat} {o : Oper} {l : List Oper} (h : S i = false → (∀ e ∈ o.after, Region.binds .any e = true → S e.on = true) → o.wpIn F n P a w (Inv (upd S i)) Q) (hs : StepsL F n P Q Inv S a w l (i + 1)) : StepsL F n P Q Inv S a w (o :: l) i := fun j o' hj => by
  cases j with
  | zero => simp at hj; subst hj; exact h
  | succ j =>
    have := hs j o' (by simpa using hj)
    rwa [show i + 1 + j = i + (j + 1) from by omega] at this

/-- A region that draws its order. -/
theorem region_inv {F : Fence} {n : Nat} {P : Program} {id : Nat} {l : List Oper} {Q : Exit → Act → World → Prop} {a : Act} {w : World} (hm : P.follows .mixedOrders = true) (hp : plainOps l.toArray = true) (Inv : (Nat → Bool) → Act → World → Prop)
    (h0 : Inv (fun _ => false) a w.drew)
    (hstep : ∀ (S : Nat → Bool) (a : Act) (w : World), Inv S a w → StepsL F n P Q Inv S a w l 0)
    (hdone : ∀ (S : Nat → Bool) (a : Act) (w : World), Inv S a w → (∀ i, i < l.length → S i = true) → Q .normal a w) : (Code.region id l.toArray true).wpIn F n P Q a w := by
  refine wpIn_region_any hm (any_inv Inv (plain_guard hp) (plain_ord hp) (fun S a w i o hI ho hS hd => ?_) (fun S a w hI h => hdone S a w hI (by simpa using h)) _ _ _ _ (by simp) (by rw [left_none]; exact Nat.le_refl _) ?_)
  · have := hstep S a w hI i o (by simpa using ho) (by simpa using hS) hd
    rw [Nat.zero_add] at this
    exact this
  · have e : (fun j => (Array.replicate l.toArray.size false).getD j false) = fun _ => false := funext fun j => by
      simp [Array.getD_eq_getD_getElem?, Array.getElem?_replicate]
      split <;> rfl
    rw [e]
    exact h0

end Go.Proofs.YtofpkpomhdhkgaaGreatDoor
