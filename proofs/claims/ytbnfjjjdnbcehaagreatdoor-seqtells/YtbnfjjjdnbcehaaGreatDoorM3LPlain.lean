/- What is proved here: contracts that SeqTells stands on. Conditions: as each theorem names them. -/
import Derived.KernelRfl
import Derived.WalkKit
import Derived.WalkSpells
import Derived.Deep.OwnRows
import Derived.Deep.QuietTactic
import Derived.BigQuiet
import Derived.StillTailTactics
import Derived.Laws.Rows
set_option maxHeartbeats 16000000
namespace Go.Proofs.YtbnfjjjdnbcehaaGreatDoor.Lines
abbrev Bs := List UInt8
def inB (c : Int) : Bool := decide (97 ≤ c ∧ c ≤ 122) || decide (65 ≤ c ∧ c ≤ 90) || decide (48 ≤ c ∧ c ≤ 57) || decide (c = 95)
def tokB (c : UInt8) : Bool := inB (c.toNat : Int)
def tok (s : Bs) : Bool := !s.isEmpty && s.all tokB
def text (s : Bs) : Bool := s.isEmpty || s.getLast? == some 10
def right (l : List Bs) : Bool := l.all (fun x => !x.contains 10)
def run (b : Bool) : Bs → Nat
 | [] => 0
 | c :: r => if tokB c = b then run b r + 1 else 0
def Ym : Bs → Nat
 | [] => 0
 | c :: r => run (tokB c) r + 1
def pieces (s : Bs) : List Bs :=
 match s with
 | [] => []
 | c :: r => (c :: r).take (Ym (c :: r)) :: pieces ((c :: r).drop (Ym (c :: r)))
termination_by s.length
decreasing_by simp [Ym]; omega
theorem pieces_nil : pieces [] = [] := by rw [pieces]
theorem pieces_cut {s : Bs} (h : s ≠ []) : pieces s = s.take (Ym s) :: pieces (s.drop (Ym s)) := by
 cases s with
 | nil => exact absurd rfl h
 | cons c r => rw [pieces]
def rep (f t : Bs) (p : Bs) : Bs := if p = f then t else p
def replace (s f t : Bs) : Bs := if tok f then ((pieces s).map (rep f t)).flatten else s
def Unif (p : Bs) : Prop := p ≠ [] ∧ ∀ c ∈ p, tokB c = tok p
theorem unif_of {p : Bs} {b : Bool} (h0 : p ≠ []) (h : ∀ c ∈ p, tokB c = b) : Unif p ∧ tok p = b := by
 have : tok p = b := by
  cases p with
  | nil => exact absurd rfl h0
  | cons c r =>
   cases b with
   | true => simp only [tok, List.isEmpty_cons, Bool.not_false, Bool.true_and, List.all_eq_true]; exact h
   | false =>
    simp only [tok, List.isEmpty_cons, Bool.not_false, Bool.true_and, List.all_cons]
    rw [h c (by simp)]; rfl
 exact ⟨⟨h0, fun c hc => by rw [this]; exact h c hc⟩, this⟩
theorem take_run (b : Bool) : ∀ l : Bs, ∀ c ∈ l.take (run b l), tokB c = b
 | [], c, h => by simp at h
 | d :: r, c, h => by
  unfold run at h
  split at h
  ·rename_i hd
   rw [List.take_succ_cons, List.mem_cons] at h
   rcases h with rfl | h
   ·exact hd
   ·exact take_run b r c h
  ·simp at h
theorem first_unif {s : Bs} (h : s ≠ []) : Unif (s.take (Ym s)) ∧ tok (s.take (Ym s)) = tokB (s.head h) := by
 cases s with
 | nil => exact absurd rfl h
 | cons c r =>
  refine unif_of (by simp [Ym]) (fun d hd => ?_)
  rw [Ym, List.take_succ_cons, List.mem_cons] at hd
  rcases hd with rfl | hd
  ·rfl
  ·exact take_run _ r d hd
theorem run_eq (b : Bool) : ∀ (l : Bs) (n : Nat), n ≤ l.length → (∀ j (h : j < l.length), j < n → tokB l[j] = b) → (∀ h : n < l.length, tokB l[n] ≠ b) → run b l = n
 | [], n, hn, _, _ => by simp at hn; rw [hn]; rfl
 | c :: r, 0, _, _, h2 => by
  have := h2 (by simp)
  rw [run, if_neg (by simpa using this)]
 | c :: r, n + 1, hn, h1, h2 => by
  have h0 : tokB c = b := h1 0 (by simp) (by omega)
  rw [run, if_pos h0, run_eq b r n (by simpa using hn) (fun j hj hjn => h1 (j + 1) (by rw [List.length_cons]; omega) (by omega)) (fun h => h2 (by rw [List.length_cons]; omega))]
theorem firstLen_eq (l : Bs) (n : Nat) (h0 : 0 < n) (hn : n ≤ l.length) (b : Bool) (h1 : ∀ j (h : j < l.length), j < n → tokB l[j] = b) (h2 : ∀ h : n < l.length, tokB l[n] ≠ b) : Ym l = n := by
 cases l with
 | nil => simp at hn; omega
 | cons c r =>
  obtain ⟨m, rfl⟩ : ∃ m, n = m + 1 := ⟨n - 1, by omega⟩
  have hc : tokB c = b := h1 0 (by simp) (by omega)
  rw [Ym, hc, run_eq b r m (by simpa using hn) (fun j hj hjn => h1 (j + 1) (by rw [List.length_cons]; omega) (by omega)) (fun h => h2 (by rw [List.length_cons]; omega))]
theorem tok_first {c : UInt8} {r : Bs} : tok (c :: r) = (tokB c && decide (Ym (c :: r) = (c :: r).length)) := by
 have hf := first_unif (s := c :: r) (by simp)
 rw [List.head_cons] at hf
 by_cases h : Ym (c :: r) = (c :: r).length
 ·rw [h, List.take_length] at hf
  rw [hf.2, decide_eq_true h, Bool.and_true]
 ·rw [decide_eq_false h, Bool.and_false]
  cases ht : tok (c :: r)
  ·rfl
  ·exfalso
   have hall : ∀ d ∈ c :: r, tokB d = true := by
    simp only [tok, Bool.and_eq_true, List.all_eq_true] at ht; exact ht.2
   exact h (firstLen_eq _ _ (by simp) (Nat.le_refl _) true (fun j hj _ => hall _ (List.getElem_mem hj)) (fun h => absurd h (Nat.lt_irrefl _)))
theorem pieces_at {s : Bs} {a b : Nat} (hab : a < b) (hb : b ≤ s.length) (k : Bool) (h1 : ∀ j (h : j < s.length), a ≤ j → j < b → tokB s[j] = k) (h2 : ∀ h : b < s.length, tokB s[b] ≠ k) :
  pieces (s.drop a) = (s.drop a).take (b - a) :: pieces (s.drop b) := by
 have hne : s.drop a ≠ [] := fun e => by have := congrArg List.length e; simp at this; omega
 have hl : Ym (s.drop a) = b - a := firstLen_eq _ _ (by omega) (by simp; omega) k
  (fun j hj hjn => by rw [List.getElem_drop]; exact h1 _ _ (by omega) (by omega))
  (fun h => by rw [List.getElem_drop]; simp only [show a + (b - a) = b by omega]; exact h2 _)
 rw [pieces_cut hne, hl, List.drop_drop, show a + (b - a) = b by omega]
end Go.Proofs.YtbnfjjjdnbcehaaGreatDoor.Lines
namespace Go.Proofs.YtbnfjjjdnbcehaaGreatDoor.Lines
open Go.RowKit
structure Fr (M : Nat → Prop) (w w' : World) : Prop where
 os : w'.os = w.os
 tape : w'.tape = w.tape
 output : w'.output = w.output
 size : w.heap.size ≤ w'.heap.size
 block : ∀ k, k < w.heap.size → ¬ M k → w'.heap[k]? = w.heap[k]?
def None' : Nat → Prop := fun _ => False
theorem Fr.refl (M : Nat → Prop) (w : World) : Fr M w w := ⟨rfl, rfl, rfl, Nat.le_refl _, fun _ _ _ => rfl⟩
theorem Fr.trans {M M' : Nat → Prop} {a b c : World} (h : Fr M a b) (k : Fr M' b c) (hs : ∀ i, M' i → M i ∨ a.heap.size ≤ i) : Fr M a c :=
 ⟨k.os.trans h.os, k.tape.trans h.tape, k.output.trans h.output, Nat.le_trans h.size k.size, fun i hi hm =>
  (k.block i (Nat.lt_of_lt_of_le hi h.size) (fun e => by rcases hs i e with h1 | h1; exact hm h1; omega)).trans (h.block i hi hm)⟩
theorem Fr.then {M : Nat → Prop} {a b c : World} (h : Fr M a b) (k : Fr M b c) : Fr M a c := h.trans k (fun _ e => Or.inl e)
theorem Fr.mono {M M' : Nat → Prop} {a b : World} (h : Fr M a b) (hs : ∀ i, M i → M' i) : Fr M' a b :=
 ⟨h.os, h.tape, h.output, h.size, fun i hi hm => h.block i hi (fun e => hm (hs i e))⟩
theorem Fr.any {M : Nat → Prop} {a b : World} (h : Fr None' a b) : Fr M a b := h.mono (fun _ e => e.elim)
theorem Fr.alloc (M : Nat → Prop) (w : World) (o : Obj) : Fr M w (w.alloc o) :=
 ⟨rfl, rfl, rfl, by simp, fun k hk _ => Below.heap_alloc _ _ _ hk⟩
theorem Fr.setCell {M : Nat → Prop} (w : World) {a : Addr} (ha : M a.block) (u : Value) : Fr M w (w.setCell a u) :=
 ⟨rfl, rfl, rfl, by simp [World.setCell], fun k _ hm => Below.heap_setCell _ _ _ _ (fun e => hm (e ▸ ha))⟩
theorem Fr.grown {M : Nat → Prop} {w w' : World} {row : Option Nat} (hg : w.grownBy w' row) (hr : ∀ k, row = some k → M k) : Fr M w w' :=
 ⟨hg.os, hg.tape, hg.output, hg.size, fun k hk hm => hg.block k hk (fun e => hm (hr k e.symm))⟩
theorem Fr.drewN (M : Nat → Prop) (w : World) (n : Nat) : Fr M w (w.drewN n) := ⟨rfl, rfl, rfl, Nat.le_refl _, fun _ _ _ => rfl⟩
theorem Fr.setRow {M : Nat → Prop} (w : World) {g : Nat} (hg : M g) (c : Array Value) : Fr M w (w.setRow g c) :=
 ⟨rfl, rfl, rfl, by simp [World.setRow], fun k _ hm => by
  have hne : g ≠ k := fun e => hm (e ▸ hg)
  simp only [World.setRow]
  rw [Array.getElem?_modify, if_neg hne]⟩
theorem Fr.at {M : Nat → Prop} {w w' : World} (h : Fr M w w') {k : Nat} {o : Obj} (ho : w.heap[k]? = some o) (hm : ¬ M k) : w'.heap[k]? = some o := by
 rw [h.block k (Array.getElem?_eq_some_iff.1 ho).1 hm]; exact ho
theorem Fr.below {M : Nat → Prop} {w w' : World} (h : Fr M w w') {B : Nat} (hB : B ≤ w.heap.size) (hM : ∀ k, M k → B ≤ k) : Below B w w' :=
 ⟨h.os, h.tape, h.output, h.size, fun k hk => h.block k (by omega) (fun e => by have := hM k e; omega)⟩
theorem cell_lt {w : World} {a : Addr} {v : Value} (h : w.cell? a = some v) : a.block < w.heap.size := by
 rcases Nat.lt_or_ge a.block w.heap.size with h1 | h1
 ·exact h1
 ·rw [World.cell?, Array.getElem?_eq_none h1] at h; cases h
theorem Fr.cell {M : Nat → Prop} {w w' : World} (h : Fr M w w') {a : Addr} {v : Value} (hc : w.cell? a = some v) (hm : ¬ M a.block) : w'.cell? a = some v := by
 have := h.block a.block (cell_lt hc) hm
 unfold World.cell? at hc ⊢
 rw [this]; exact hc
theorem setRow_at {w : World} {g : Nat} {c c' : Array Value} {t : TypeId} (h : w.heap[g]? = some (.cells c t (0, 0))) : (w.setRow g c').heap[g]? = some (.cells c' t (0, 0)) := by
 simp only [World.setRow]
 rw [Array.getElem?_modify]
 simp [h]
end Go.Proofs.YtbnfjjjdnbcehaaGreatDoor.Lines
