/- What is proved here: contracts for RecordMakes. Conditions: as named. -/
import Derived.KernelRfl
import Derived.WalkKit
import Derived.WalkSpells
import Derived.Deep.OwnRows
import Derived.Deep.QuietTactic
import Derived.BigQuiet
import Derived.StillTailTactics
import Derived.Laws.Rows
import Derived.RangeFuncNested
import Derived.RangeFuncBound
import Derived.RangeFuncCalls
import Derived.RangeFuncLeaves
set_option maxHeartbeats 16000000
namespace Go.Proofs.YtbnfjjjdnbcehaaGreatDoor.Lines
abbrev Bs := List UInt8
def inB (c : Int) : Bool := decide (97 ≤ c ∧ c ≤ 122) || decide (65 ≤ c ∧ c ≤ 90) || decide (48 ≤ c ∧ c ≤ 57) || decide (c = 95)
def tokB (c : UInt8) : Bool := inB (c.toNat : Int)
def tok (s : Bs) : Bool := !s.isEmpty && s.all tokB
def text (s : Bs) : Bool := s.isEmpty || s.getLast? == some 10
def right (l : List Bs) : Bool := l.all (fun x => !x.contains 10)
def run (b : Bool) : Bs → Nat
 | [] => 0
 | c :: r => if tokB c = b then run b r + 1 else 0
theorem run_le (b : Bool) : ∀ l, run b l ≤ l.length
 | [] => Nat.le_refl _
 | c :: r => by
  have := run_le b r
  unfold run
  split
  ·simp; omega
  ·omega
def Zm : Bs → Nat
 | [] => 0
 | c :: r => run (tokB c) r + 1
theorem firstLen_le : ∀ l, Zm l ≤ l.length
 | [] => Nat.le_refl _
 | c :: r => by have := run_le (tokB c) r; simp only [Zm, List.length_cons]; omega
def pieces (s : Bs) : List Bs :=
 match s with
 | [] => []
 | c :: r => (c :: r).take (Zm (c :: r)) :: pieces ((c :: r).drop (Zm (c :: r)))
termination_by s.length
decreasing_by simp [Zm]; omega
theorem pieces_nil : pieces [] = [] := by rw [pieces]
theorem pieces_cut {s : Bs} (h : s ≠ []) : pieces s = s.take (Zm s) :: pieces (s.drop (Zm s)) := by
 cases s with
 | nil => exact absurd rfl h
 | cons c r => rw [pieces]
def rep (f t : Bs) (p : Bs) : Bs := if p = f then t else p
def replace (s f t : Bs) : Bs := if tok f then ((pieces s).map (rep f t)).flatten else s
def Unif (p : Bs) : Prop := p ≠ [] ∧ ∀ c ∈ p, tokB c = tok p
def Good : List Bs → Prop
 | [] => True
 | [p] => Unif p
 | p :: q :: r => Unif p ∧ tok p ≠ tok q ∧ Good (q :: r)
theorem unif_of {p : Bs} {b : Bool} (h0 : p ≠ []) (h : ∀ c ∈ p, tokB c = b) : Unif p ∧ tok p = b := by
 have : tok p = b := by
  cases p with
  | nil => exact absurd rfl h0
  | cons c r =>
   cases b with
   | true => simp only [tok, List.isEmpty_cons, Bool.not_false, Bool.true_and, List.all_eq_true]; exact h
   | false =>
    simp only [tok, List.isEmpty_cons, Bool.not_false, Bool.true_and, List.all_cons]
    rw [h c (by simp)]; rfl
 exact ⟨⟨h0, fun c hc => by rw [this]; exact h c hc⟩, this⟩
theorem take_run (b : Bool) : ∀ l : Bs, ∀ c ∈ l.take (run b l), tokB c = b
 | [], c, h => by simp at h
 | d :: r, c, h => by
  unfold run at h
  split at h
  ·rename_i hd
   rw [List.take_succ_cons, List.mem_cons] at h
   rcases h with rfl | h
   ·exact hd
   ·exact take_run b r c h
  ·simp at h
theorem drop_run (b : Bool) : ∀ (l : Bs) (c : UInt8) (r : Bs), l.drop (run b l) = c :: r → tokB c ≠ b
 | [], c, r, h => by simp at h
 | d :: l, c, r, h => by
  unfold run at h
  split at h
  ·rw [List.drop_succ_cons] at h; exact drop_run b l c r h
  ·rename_i hd
   simp at h
   rw [← h.1]; exact hd
theorem first_unif {s : Bs} (h : s ≠ []) : Unif (s.take (Zm s)) ∧ tok (s.take (Zm s)) = tokB (s.head h) := by
 cases s with
 | nil => exact absurd rfl h
 | cons c r =>
  refine unif_of (by simp [Zm]) (fun d hd => ?_)
  rw [Zm, List.take_succ_cons, List.mem_cons] at hd
  rcases hd with rfl | hd
  ·rfl
  ·exact take_run _ r d hd
theorem first_next {s : Bs} (h : s ≠ []) {c : UInt8} {r : Bs} (e : s.drop (Zm s) = c :: r) : tokB c ≠ tokB (s.head h) := by
 cases s with
 | nil => exact absurd rfl h
 | cons d l => rw [Zm, List.drop_succ_cons] at e; exact drop_run _ l c r e
theorem firstLen_pos {s : Bs} (h : s ≠ []) : 0 < Zm s := by
 cases s with
 | nil => exact absurd rfl h
 | cons c r => simp [Zm]
theorem pieces_all (s : Bs) : Good (pieces s) ∧ (pieces s).flatten = s := by
 generalize hn : s.length = n
 induction n using Nat.strongRecOn generalizing s with
 | ind n ih =>
  by_cases h : s = []
  ·subst h; rw [pieces_nil]; exact ⟨trivial, rfl⟩
  ·have hp := firstLen_pos h
   have hlen : 0 < s.length := List.length_pos_iff.2 h
   obtain ⟨g, f⟩ := ih (s.drop (Zm s)).length (by rw [List.length_drop]; omega) _ rfl
   obtain ⟨u, k⟩ := first_unif h
   rw [pieces_cut h, List.flatten_cons, f, List.take_append_drop]
   refine ⟨?_, rfl⟩
   by_cases e : s.drop (Zm s) = []
   ·rw [e, pieces_nil]; exact u
   ·rw [pieces_cut e] at g ⊢
    refine ⟨u, ?_, g⟩
    obtain ⟨c, r, hc⟩ := List.exists_cons_of_ne_nil e
    rw [k, (first_unif e).2]
    have := first_next h hc
    simp only [hc, List.head_cons]
    exact fun e => this e.symm
theorem good_tail {p : Bs} {l : List Bs} (h : Good (p :: l)) : Unif p ∧ Good l := by
 cases l with
 | nil => exact ⟨h, trivial⟩
 | cons q r => exact ⟨h.1, h.2.2⟩
theorem good_ahead {p q : Bs} {l m : List Bs} (hp : Good (p :: l)) (hq : Good (q :: m)) (e : (p :: l).flatten = (q :: m).flatten) : ¬ p.length < q.length := fun hlt => by
 rw [List.flatten_cons, List.flatten_cons] at e
 have h1 : p = q.take p.length := by
  have := congrArg (List.take p.length) e
  rwa [List.take_left, List.take_append_of_le_length (by omega)] at this
 have h2 : l.flatten = q.drop p.length ++ m.flatten := by
  have := congrArg (List.drop p.length) e
  rwa [List.drop_left, List.drop_append_of_le_length (by omega)] at this
 have uq := (good_tail hq).1
 cases l with
 | nil =>
  have := congrArg List.length h2
  simp at this
  omega
 | cons p' l =>
  obtain ⟨up, ne, hl⟩ := hp
  have up' := (good_tail hl).1
  obtain ⟨c, t, hc⟩ := List.exists_cons_of_ne_nil up'.1
  obtain ⟨d, t', hd⟩ := List.exists_cons_of_ne_nil up.1
  have hcq : c ∈ q := by
   have h3 : q.drop p.length ≠ [] := fun e => by have := congrArg List.length e; simp at this; omega
   obtain ⟨c', t'', h4⟩ := List.exists_cons_of_ne_nil h3
   rw [List.flatten_cons, hc, h4] at h2
   simp only [List.cons_append, List.cons.injEq] at h2
   rw [h2.1]
   exact List.mem_of_mem_drop (by rw [h4]; simp)
  have hdq : d ∈ q := by
   have : d ∈ p := by rw [hd]; simp
   rw [h1] at this
   exact List.mem_of_mem_take this
  have e1 := uq.2 c hcq
  have e2 := uq.2 d hdq
  have e3 := up'.2 c (by rw [hc]; simp)
  have e4 := up.2 d (by rw [hd]; simp)
  exact ne (by rw [← e4, ← e3, e1, e2])
theorem good_one : ∀ (a b : List Bs), Good a → Good b → a.flatten = b.flatten → a = b
 | [], [], _, _, _ => rfl
 | [], q :: m, _, hq, e => by
  have := (good_tail hq).1.1
  rw [List.flatten_cons] at e
  exact absurd (by simpa using e.symm : q = [] ∧ _).1 this
 | p :: l, [], hp, _, e => by
  have := (good_tail hp).1.1
  rw [List.flatten_cons] at e
  exact absurd (by simpa using e : p = [] ∧ _).1 this
 | p :: l, q :: m, hp, hq, e => by
  have h1 := good_ahead hp hq e
  have h2 := good_ahead hq hp e.symm
  have hl : p.length = q.length := by omega
  rw [List.flatten_cons, List.flatten_cons] at e
  obtain ⟨rfl, e'⟩ := List.append_inj e hl
  rw [good_one l m (good_tail hp).2 (good_tail hq).2 e']
theorem pieces_of {l : List Bs} (h : Good l) : pieces l.flatten = l := good_one _ _ (pieces_all _).1 h (pieces_all _).2
theorem tok_unif {f : Bs} (h : tok f = true) : Unif f := by
 simp only [tok, Bool.and_eq_true, Bool.not_eq_true', List.isEmpty_eq_false_iff, List.all_eq_true] at h
 exact (unif_of (b := true) h.1 h.2).1
theorem good_rep {f t : Bs} (hf : tok f = true) (ht : tok t = true) : ∀ l : List Bs, Good l → Good (l.map (rep f t))
 | [], _ => trivial
 | [p], h => by
  show Unif (rep f t p)
  unfold rep
  split
  ·exact tok_unif ht
  ·exact h
 | p :: q :: r, h => by
  have hk : ∀ x, tok (rep f t x) = tok x := fun x => by
   unfold rep
   split
   ·rename_i e; rw [e, hf, ht]
   ·rfl
  have hu : Unif (rep f t p) := by
   unfold rep
   split
   ·exact tok_unif ht
   ·exact h.1
  refine ⟨hu, ?_, good_rep hf ht (q :: r) h.2.2⟩
  rw [hk, hk]; exact h.2.1
theorem pieces_rep {s f t : Bs} (hf : tok f = true) (ht : tok t = true) : pieces (replace s f t) = (pieces s).map (rep f t) := by
 rw [replace, if_pos hf]
 exact pieces_of (good_rep hf ht _ (pieces_all s).1)
theorem rep_gone {f t p : Bs} (h : f ≠ t) : rep f t p ≠ f := by
 unfold rep
 split
 ·exact fun e => h e.symm
 ·rename_i h'; exact h'
theorem rep_back {f t p : Bs} (h : p ≠ t) : rep t f (rep f t p) = p := by
 unfold rep
 by_cases e : p = f
 ·simp [e]
 ·simp [e, h]
theorem replace_back {s f t : Bs} (hf : tok f = true) (ht : tok t = true) (h : t ∉ pieces s) : replace (replace s f t) t f = s := by
 have hp := pieces_rep (s := s) hf ht
 rw [replace, if_pos ht, hp, List.map_map]
 have : (pieces s).map (rep t f ∘ rep f t) = pieces s := by
  rw [List.map_congr_left (g := id) (fun p hp => ?_), List.map_id]
  exact rep_back (fun e => h (e ▸ hp))
 rw [this, (pieces_all s).2]
theorem run_eq (b : Bool) : ∀ (l : Bs) (n : Nat), n ≤ l.length → (∀ j (h : j < l.length), j < n → tokB l[j] = b) → (∀ h : n < l.length, tokB l[n] ≠ b) → run b l = n
 | [], n, hn, _, _ => by simp at hn; rw [hn]; rfl
 | c :: r, 0, _, _, h2 => by
  have := h2 (by simp)
  rw [run, if_neg (by simpa using this)]
 | c :: r, n + 1, hn, h1, h2 => by
  have h0 : tokB c = b := h1 0 (by simp) (by omega)
  rw [run, if_pos h0, run_eq b r n (by simpa using hn) (fun j hj hjn => h1 (j + 1) (by rw [List.length_cons]; omega) (by omega)) (fun h => h2 (by rw [List.length_cons]; omega))]
theorem firstLen_eq (l : Bs) (n : Nat) (h0 : 0 < n) (hn : n ≤ l.length) (b : Bool) (h1 : ∀ j (h : j < l.length), j < n → tokB l[j] = b) (h2 : ∀ h : n < l.length, tokB l[n] ≠ b) : Zm l = n := by
 cases l with
 | nil => simp at hn; omega
 | cons c r =>
  obtain ⟨m, rfl⟩ : ∃ m, n = m + 1 := ⟨n - 1, by omega⟩
  have hc : tokB c = b := h1 0 (by simp) (by omega)
  rw [Zm, hc, run_eq b r m (by simpa using hn) (fun j hj hjn => h1 (j + 1) (by rw [List.length_cons]; omega) (by omega)) (fun h => h2 (by rw [List.length_cons]; omega))]
theorem tok_first {c : UInt8} {r : Bs} : tok (c :: r) = (tokB c && decide (Zm (c :: r) = (c :: r).length)) := by
 have hf := first_unif (s := c :: r) (by simp)
 rw [List.head_cons] at hf
 by_cases h : Zm (c :: r) = (c :: r).length
 ·rw [h, List.take_length] at hf
  rw [hf.2, decide_eq_true h, Bool.and_true]
 ·rw [decide_eq_false h, Bool.and_false]
  cases ht : tok (c :: r)
  ·rfl
  ·exfalso
   have hall : ∀ d ∈ c :: r, tokB d = true := by
    simp only [tok, Bool.and_eq_true, List.all_eq_true] at ht; exact ht.2
   exact h (firstLen_eq _ _ (by simp) (Nat.le_refl _) true (fun j hj _ => hall _ (List.getElem_mem hj)) (fun h => absurd h (Nat.lt_irrefl _)))
theorem good_some {l : List Bs} (h : Good l) : ∀ p ∈ l, p ≠ [] := by
 induction l with
 | nil => intro p hp; cases hp
 | cons q l ih =>
  intro p hp
  obtain ⟨u, g⟩ := good_tail h
  rcases List.mem_cons.1 hp with rfl | hp
  ·exact u.1
  ·exact ih g p hp
end Go.Proofs.YtbnfjjjdnbcehaaGreatDoor.Lines
namespace Go.Proofs.YtbnfjjjdnbcehaaGreatDoor.Lines
open Go.RowKit
structure Fr (M : Nat → Prop) (w w' : World) : Prop where
 os : w'.os = w.os
 tape : w'.tape = w.tape
 output : w'.output = w.output
 size : w.heap.size ≤ w'.heap.size
 block : ∀ k, k < w.heap.size → ¬ M k → w'.heap[k]? = w.heap[k]?
def None' : Nat → Prop := fun _ => False
theorem Fr.refl (M : Nat → Prop) (w : World) : Fr M w w := ⟨rfl, rfl, rfl, Nat.le_refl _, fun _ _ _ => rfl⟩
theorem Fr.trans {M M' : Nat → Prop} {a b c : World} (h : Fr M a b) (k : Fr M' b c) (hs : ∀ i, M' i → M i ∨ a.heap.size ≤ i) : Fr M a c :=
 ⟨k.os.trans h.os, k.tape.trans h.tape, k.output.trans h.output, Nat.le_trans h.size k.size, fun i hi hm =>
  (k.block i (Nat.lt_of_lt_of_le hi h.size) (fun e => by rcases hs i e with h1 | h1; exact hm h1; omega)).trans (h.block i hi hm)⟩
theorem Fr.then {M : Nat → Prop} {a b c : World} (h : Fr M a b) (k : Fr M b c) : Fr M a c := h.trans k (fun _ e => Or.inl e)
theorem Fr.mono {M M' : Nat → Prop} {a b : World} (h : Fr M a b) (hs : ∀ i, M i → M' i) : Fr M' a b :=
 ⟨h.os, h.tape, h.output, h.size, fun i hi hm => h.block i hi (fun e => hm (hs i e))⟩
theorem Fr.any {M : Nat → Prop} {a b : World} (h : Fr None' a b) : Fr M a b := h.mono (fun _ e => e.elim)
theorem Fr.alloc (M : Nat → Prop) (w : World) (o : Obj) : Fr M w (w.alloc o) :=
 ⟨rfl, rfl, rfl, by simp, fun k hk _ => Below.heap_alloc _ _ _ hk⟩
theorem Fr.setCell {M : Nat → Prop} (w : World) {a : Addr} (ha : M a.block) (u : Value) : Fr M w (w.setCell a u) :=
 ⟨rfl, rfl, rfl, by simp [World.setCell], fun k _ hm => Below.heap_setCell _ _ _ _ (fun e => hm (e ▸ ha))⟩
theorem Fr.grown {M : Nat → Prop} {w w' : World} {row : Option Nat} (hg : w.grownBy w' row) (hr : ∀ k, row = some k → M k) : Fr M w w' :=
 ⟨hg.os, hg.tape, hg.output, hg.size, fun k hk hm => hg.block k hk (fun e => hm (hr k e.symm))⟩
theorem Fr.drewN (M : Nat → Prop) (w : World) (n : Nat) : Fr M w (w.drewN n) := ⟨rfl, rfl, rfl, Nat.le_refl _, fun _ _ _ => rfl⟩
theorem Fr.setRow {M : Nat → Prop} (w : World) {g : Nat} (hg : M g) (c : Array Value) : Fr M w (w.setRow g c) :=
 ⟨rfl, rfl, rfl, by simp [World.setRow], fun k _ hm => by
  have hne : g ≠ k := fun e => hm (e ▸ hg)
  simp only [World.setRow]
  rw [Array.getElem?_modify, if_neg hne]⟩
theorem Fr.at {M : Nat → Prop} {w w' : World} (h : Fr M w w') {k : Nat} {o : Obj} (ho : w.heap[k]? = some o) (hm : ¬ M k) : w'.heap[k]? = some o := by
 rw [h.block k (Array.getElem?_eq_some_iff.1 ho).1 hm]; exact ho
theorem Fr.below {M : Nat → Prop} {w w' : World} (h : Fr M w w') {B : Nat} (hB : B ≤ w.heap.size) (hM : ∀ k, M k → B ≤ k) : Below B w w' :=
 ⟨h.os, h.tape, h.output, h.size, fun k hk => h.block k (by omega) (fun e => by have := hM k e; omega)⟩
theorem Zq {w : World} {a : Addr} {v : Value} (h : w.cell? a = some v) : a.block < w.heap.size := by
 rcases Nat.lt_or_ge a.block w.heap.size with h1 | h1
 ·exact h1
 ·rw [World.cell?, Array.getElem?_eq_none h1] at h; cases h
theorem Fr.cell {M : Nat → Prop} {w w' : World} (h : Fr M w w') {a : Addr} {v : Value} (hc : w.cell? a = some v) (hm : ¬ M a.block) : w'.cell? a = some v := by
 have := h.block a.block (Zq hc) hm
 unfold World.cell? at hc ⊢
 rw [this]; exact hc
theorem Fr.rowIs {M : Nat → Prop} {w w' : World} (h : Fr M w w') {b : Nat} {t : TypeId} {n : Nat} {f : Nat → Value} (hr : w.rowIs b t n f) (hm : ¬ M b) : w'.rowIs b t n f := hr.of_block (h.block b hr.lt hm)
theorem setRow_at {w : World} {g : Nat} {c c' : Array Value} {t : TypeId} (h : w.heap[g]? = some (.cells c t (0, 0))) : (w.setRow g c').heap[g]? = some (.cells c' t (0, 0)) := by
 simp only [World.setRow]
 rw [Array.getElem?_modify]
 simp [h]
def n8 (f : Nat → Int) : Nat → Value := fun i => .int .u8 (f i)
def Abide {β : Type} (M : Nat → Prop) (J : β → World → Prop) : Prop := ∀ s A B, J s A → Fr M A B → J s B
def Za (A : World) (k : Nat) : Prop := ∀ c t f, A.heap[k]? ≠ some (.cells c t f)
def AbideN {β : Type} (base : Nat) (M : Nat → Prop) (J : β → World → Prop) : Prop := ∀ s A B, J s A → Fr (fun k => M k ∨ (base ≤ k ∧ Za A k)) A B → J s B
def SeqM {α : Type} (F : Fence) (n : Nat) (P : Program) (g : Nat) (lb : Array Value) (encs : α → Array Value) (M : Nat → Prop) (Kp : World → World → Prop) (S Sp : List α → Prop) (St : World → Prop) : Prop :=
 ∀ (l : Nat) (J Jx : List α → World → Prop) (W : World), St W → Abide M J → Abide M Jx →
  (∀ pre x W1, J pre W1 → Sp (pre ++ [x]) → YieldAt F (n - 1) P l (encs x) W1 fun e W' =>
   (e = .returned (.bool true) ∧ J (pre ++ [x]) W' ∧ Kp W1 W') ∨ (e = .returned (.bool false) ∧ Jx (pre ++ [x]) W')) →
  J [] W →
  CallsIn F n P g (#[.func (.yield l) #[] #[]] ++ lb) W fun e W' => (∃ v, e = .returned v) ∧ ((∃ xs, S xs ∧ J xs W') ∨ (∃ pre, Sp pre ∧ Jx pre W'))
theorem Fr.putObj {M : Nat → Prop} (w : World) {l : Nat} (hl : M l) (o : Obj) : Fr M w (w.putObj l o) :=
 ⟨rfl, rfl, rfl, by simp, fun k _ hm => World.putObj_heap_other (fun e => hm (e ▸ hl))⟩
variable {F : Fence} {n : Nat} {P : Program}
theorem range_own {α : Type} {g : Operand} {ps : Array Tmp} {assign body : Code} {Q : Exit → Act → World → Prop} {a : Act} {w : World}
  (hro : F.round = none) (h1 : 1 ≤ n) {gf : Nat} {lb : Array Value} (hg : a.eval g = .func (.func gf) #[] lb) (hFg : F.fn gf) (eg : ∀ args w, (callFunc gf args).run P w = .ok (.enter gf args) w)
  {encs : α → Array Value} {M : Nat → Prop} {Kp : World → World → Prop} {S Sp : List α → Prop} {St : World → Prop} (hseq : SeqM F (n - 1) P gf lb encs M Kp S Sp St)
  (hM : ∀ k, M k → k < w.heap.size) (hSt : ∀ W, Below w.heap.size w W → St W)
  (hKt : ∀ {A B C : World}, Kp A B → Kp B C → Kp A C) (hKb : ∀ (W : World) (l : Nat) (o' : Obj), w.heap.size ≤ l → Kp W (W.putObj l o'))
  (hps : ∀ x, (encs x).size = ps.size)
  (I : List α → World → Prop) (Ix : Code → List α → World → Prop) (hI : AbideN w.heap.size M I) (hIx : ∀ c, AbideN w.heap.size M (Ix c)) (h0 : I [] w) (a₁ : α → Act)
  (hassign : ∀ (l : Nat) (x : α) (W : World) (K : Act → World → Prop), K (a₁ x) W →
   assign.wpIn (F.inRound l) (n - 1 - 1) P (Exit.then K (fun _ _ _ => False)) { tmps := (ps.zip (encs x)).foldl (fun t (p, v) => t.setIfInBounds p v) a.tmps, defers := [] } W)
  (hbody : ∀ (l : Nat) (pre : List α) (x : α) (W : World), I pre W → Sp (pre ++ [x]) → w.heap.size ≤ l → body.wpIn (F.inRound l) (n - 1 - 1) P (ownPostK Kp I Ix (pre ++ [x]) W) (a₁ x) W)
  (hdone : ∀ (D : Nat) (xs : List α) (W : World), S xs → I xs W → W.heap[D]? = some (.deferred (some [])) → w.heap.size ≤ D → Q .normal { a with defers := { target := .collected D, args := #[] } :: a.defers } W)
  (hstop : ∀ (D : Nat) (c : Code) (pre : List α) (W : World), Sp pre → Ix c pre W → W.heap[D]? = some (.deferred (some [])) → w.heap.size ≤ D → c.wpIn F n P Q { a with defers := { target := .collected D, args := #[] } :: a.defers } W) :
  (Code.rangeFunc g ps assign body).wpIn F n P Q a w := by
 refine wpIn_rangeFunc fun fn hfn => ?_
 rw [hro]
 obtain ⟨R, hR⟩ : ∃ R : LoopState → Option Code → Loop, R = fun st pe => { state := st, pending := pe, fn, tmps := a.tmps, params := ps, assign, body, defers := w.heap.size } := ⟨_, rfl⟩
 obtain ⟨V, hV⟩ : ∃ V, (w.alloc (.deferred (some []))).alloc (.loop (R .ready none)) = V := ⟨_, rfl⟩
 have hL : V.heap[w.heap.size + 1]? = some (.loop (R .ready none)) := by
  rw [← hV]; simpa using World.alloc_heap_new (w.alloc (.deferred (some []))) (.loop (R .ready none))
 have hD : V.heap[w.heap.size]? = some (.deferred (some [])) := by
  rw [← hV]; exact (Below.heap_alloc _ _ _ (by simp)).trans (World.alloc_heap_new w _)
 have hIV : I [] V := by
  rw [← hV]; exact hI _ _ _ (hI _ _ _ h0 (Fr.alloc _ _ _)) (Fr.alloc _ _ _)
 have hBV : Below w.heap.size w V := by rw [← hV]; exact ((Below.refl _ w).alloc (Nat.le_refl _) _).alloc (by simp) _
 have far : ∀ {W : World} {k : Nat} {r : Loop} (o : Obj), W.heap[k]? = some (.loop r) → w.heap.size ≤ k → Fr (fun k => M k ∨ (w.heap.size ≤ k ∧ Za W k)) W (W.putObj k o) := fun o hk hle => Fr.putObj _ (.inr ⟨hle, fun c t f e => by rw [hk] at e; cases e⟩) o
 have wide : ∀ {A B : World}, Fr M A B → Fr (fun k => M k ∨ (w.heap.size ≤ k ∧ Za A k)) A B := fun h => h.mono (fun _ e => .inl e)
 have nM : ∀ {k : Nat}, w.heap.size ≤ k → ¬ M k := fun hk hm => by have := hM _ hm; omega
 refine ⟨w.heap.size + 1, [{ target := .collected w.heap.size, args := #[] }], V, { target := .fn (.func gf) lb, args := #[.func (.yield (w.heap.size + 1)) #[] #[]] }, V, gf,
  #[.func (.yield (w.heap.size + 1)) #[] #[]] ++ lb, V, by rw [← hV, hR]; exact run_enterLoop_outer _ _ _ _ _, by simp only [resolve, hg]; simp [go_sem], ?_, by simp [invoke, go_sem, eg], fun _ => h1, ?_⟩
 ·intro f' hf'; simp [Target.leads] at hf'; subst hf'; exact hFg
 refine (hseq (w.heap.size + 1)
  (fun pre W => I pre W ∧ W.heap[w.heap.size + 1]? = some (.loop (R .ready none)) ∧ W.heap[w.heap.size]? = some (.deferred (some [])))
  (fun pre W => ∃ c, Ix c pre W ∧ W.heap[w.heap.size + 1]? = some (.loop (R .done (some c))) ∧ W.heap[w.heap.size]? = some (.deferred (some [])))
  V (hSt _ hBV)
  (fun s A B hs hf => ⟨hI _ _ _ hs.1 (wide hf), hf.at hs.2.1 (nM (by omega)), hf.at hs.2.2 (nM (by omega))⟩)
  (fun s A B ⟨c, hc, hl, hk⟩ hf => ⟨c, hIx c _ _ _ hc (wide hf), hf.at hl (nM (by omega)), hf.at hk (nM (by omega))⟩)
  ?_ ⟨hIV, hL, hD⟩).mono ?_
 ·rintro pre x W ⟨hi, hl, hk⟩ hsp
  have hy := run_yield (P := P) (args := encs x) hl (by rw [hR]; exact hps x)
  rw [hR] at hy
  refine ⟨fn, _, assign, body, hy, roundIn_of_wpIn hfn (hassign _ x W _ ⟨_, run_beginRound hl (by rw [hR]), ?_⟩)⟩
  obtain ⟨W2, hW2⟩ : ∃ W2, W.putObj (w.heap.size + 1) (.loop { R .ready none with state := .busy }) = W2 := ⟨_, rfl⟩
  have hl2 : W2.heap[w.heap.size + 1]? = some (.loop { R .ready none with state := .busy }) := by
   rw [← hW2]; exact World.putObj_heap_same (Array.getElem?_eq_some_iff.1 hl).1
  have hk2 : W2.heap[w.heap.size]? = some (.deferred (some [])) := by rw [← hW2]; exact (World.putObj_heap_other (by omega)).trans hk
  have hp2 : Kp W W2 := by rw [← hW2]; exact hKb _ _ _ (by omega)
  have hi2 : I pre W2 := by rw [← hW2]; exact hI _ _ _ hi (far _ hl (by omega))
  rw [hW2]
  refine wpIn_mono (hbody _ pre x W2 hi2 hsp (by omega)) ?_
  have fin : ∀ (jump : Option Code) (W3 : World), KeepsOthers W2 W3 → W3.heap[w.heap.size + 1]? = some (.loop { R .ready none with state := .busy }) ∧
    (Instr.endRound (w.heap.size + 1) jump).run P W3 = .ok (.bool jump.isNone) (W3.putObj (w.heap.size + 1) (.loop (R (if jump.isNone then .ready else .done) jump))) ∧
    (W3.putObj (w.heap.size + 1) (.loop (R (if jump.isNone then .ready else .done) jump))).heap[w.heap.size + 1]? = some (.loop (R (if jump.isNone then .ready else .done) jump)) ∧
    (W3.putObj (w.heap.size + 1) (.loop (R (if jump.isNone then .ready else .done) jump))).heap[w.heap.size]? = some (.deferred (some [])) := fun jump W3 h3 => by
   have hl3 := h3.same _ _ hl2 rfl
   have := run_endRound (P := P) jump hl3
   rw [hR] at this ⊢
   exact ⟨by rw [hR] at hl3; exact hl3, this, World.putObj_heap_same (Array.getElem?_eq_some_iff.1 hl3).1, (World.putObj_heap_other (by omega)).trans (h3.same _ _ hk2 rfl)⟩
  rintro e a3 W3 hp
  cases e with
  | normal =>
   obtain ⟨h3, hkp, hi3⟩ := hp
   obtain ⟨hl3, hr, hl4, hk4⟩ := fin none W3 h3
   exact ⟨_, _, hr, .inl ⟨rfl, ⟨hI _ _ _ hi3 (far _ hl3 (by omega)), hl4, hk4⟩, hKt (hKt hp2 hkp) (hKb _ _ _ (by omega))⟩⟩
  | ret =>
   obtain ⟨h3, hi3⟩ := hp
   obtain ⟨hl3, hr, hl4, hk4⟩ := fin (some .ret) W3 h3
   exact ⟨_, _, hr, .inr ⟨rfl, .ret, hIx _ _ _ _ hi3 (far _ hl3 (by omega)), hl4, hk4⟩⟩
  | exit id =>
   obtain ⟨h3, hi3⟩ := hp
   obtain ⟨hl3, hr, hl4, hk4⟩ := fin (some (.exit id)) W3 h3
   exact ⟨_, _, hr, .inr ⟨rfl, .exit id, hIx _ _ _ _ hi3 (far _ hl3 (by omega)), hl4, hk4⟩⟩
  | goto t =>
   obtain ⟨h3, hi3⟩ := hp
   obtain ⟨hl3, hr, hl4, hk4⟩ := fin (some (.goto t)) W3 h3
   exact ⟨_, _, hr, .inr ⟨rfl, .goto t, hIx _ _ _ _ hi3 (far _ hl3 (by omega)), hl4, hk4⟩⟩
  | panic ch => exact hp.elim
  | outgrown => exact hp.elim
 ·rintro e W2 ⟨⟨v, rfl⟩, (⟨xs, hS, hi, hl, hk⟩ | ⟨pre, hSp, c, hi, hl, hk⟩)⟩
  ·exact ⟨none, _, by have := run_endLoop (P := P) hl (by rw [hR]; simp); rw [hR] at this; exact this, hdone _ xs _ hS (hI _ _ _ hi (far _ hl (by omega))) ((World.putObj_heap_other (by omega)).trans hk) (by omega)⟩
  ·exact ⟨some c, _, by have := run_endLoop (P := P) hl (by rw [hR]; simp); rw [hR] at this; exact this, hstop _ c pre _ hSp (hIx c _ _ _ hi (far _ hl (by omega))) ((World.putObj_heap_other (by omega)).trans hk) (by omega)⟩
end Go.Proofs.YtbnfjjjdnbcehaaGreatDoor.Lines
