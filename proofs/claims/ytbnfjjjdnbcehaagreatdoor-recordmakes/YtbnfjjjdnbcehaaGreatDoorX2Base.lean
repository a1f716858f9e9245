/- What is proved here: contracts for RecordMakes. Conditions: as named. -/
import Derived.WalkKit
import Derived.WalkSpells
import Derived.Deep.OwnRows
import Derived.Deep.QuietTactic
import Derived.BigQuiet
import Derived.StillTailTactics
import Derived.Laws.Rows
import Derived.RangeFuncNested
import Derived.RangeFuncBound
import Derived.RangeFuncCalls
import Derived.RangeFuncLeaves
import Derived.OrdersIn
set_option maxHeartbeats 16000000
namespace Go.Proofs.YtbnfjjjdnbcehaaGreatDoor
open Go.RowKit
structure Fr (M : Nat → Prop) (w w' : World) : Prop where
 os : w'.os = w.os
 tape : w'.tape = w.tape
 output : w'.output = w.output
 size : w.heap.size ≤ w'.heap.size
 block : ∀ k, k < w.heap.size → ¬ M k → w'.heap[k]? = w.heap[k]?
def None' : Nat → Prop := fun _ => False
theorem Fr.refl (M : Nat → Prop) (w : World) : Fr M w w := ⟨rfl, rfl, rfl, Nat.le_refl _, fun _ _ _ => rfl⟩
theorem Fr.trans {M M' : Nat → Prop} {a b c : World} (h : Fr M a b) (k : Fr M' b c) (hs : ∀ i, M' i → M i ∨ a.heap.size ≤ i) : Fr M a c :=
 ⟨k.os.trans h.os, k.tape.trans h.tape, k.output.trans h.output, Nat.le_trans h.size k.size, fun i hi hm =>
  (k.block i (Nat.lt_of_lt_of_le hi h.size) (fun e => by rcases hs i e with h1 | h1; exact hm h1; omega)).trans (h.block i hi hm)⟩
theorem Fr.then {M : Nat → Prop} {a b c : World} (h : Fr M a b) (k : Fr M b c) : Fr M a c := h.trans k (fun _ e => Or.inl e)
theorem Fr.mono {M M' : Nat → Prop} {a b : World} (h : Fr M a b) (hs : ∀ i, M i → M' i) : Fr M' a b :=
 ⟨h.os, h.tape, h.output, h.size, fun i hi hm => h.block i hi (fun e => hm (hs i e))⟩
theorem Fr.any {M : Nat → Prop} {a b : World} (h : Fr None' a b) : Fr M a b := h.mono (fun _ e => e.elim)
theorem Fr.alloc (M : Nat → Prop) (w : World) (o : Obj) : Fr M w (w.alloc o) :=
 ⟨rfl, rfl, rfl, by simp, fun k hk _ => Below.heap_alloc _ _ _ hk⟩
theorem Fr.setCell {M : Nat → Prop} (w : World) {a : Addr} (ha : M a.block) (u : Value) : Fr M w (w.setCell a u) :=
 ⟨rfl, rfl, rfl, by simp [World.setCell], fun k _ hm => Below.heap_setCell _ _ _ _ (fun e => hm (e ▸ ha))⟩
theorem Fr.grown {M : Nat → Prop} {w w' : World} {row : Option Nat} (hg : w.grownBy w' row) (hr : ∀ k, row = some k → M k) : Fr M w w' :=
 ⟨hg.os, hg.tape, hg.output, hg.size, fun k hk hm => hg.block k hk (fun e => hm (hr k e.symm))⟩
theorem Fr.drewN (M : Nat → Prop) (w : World) (n : Nat) : Fr M w (w.drewN n) := ⟨rfl, rfl, rfl, Nat.le_refl _, fun _ _ _ => rfl⟩
theorem Fr.setRow {M : Nat → Prop} (w : World) {g : Nat} (hg : M g) (c : Array Value) : Fr M w (w.setRow g c) :=
 ⟨rfl, rfl, rfl, by simp [World.setRow], fun k _ hm => by
  have hne : g ≠ k := fun e => hm (e ▸ hg)
  simp only [World.setRow]
  rw [Array.getElem?_modify, if_neg hne]⟩
theorem Fr.at {M : Nat → Prop} {w w' : World} (h : Fr M w w') {k : Nat} {o : Obj} (ho : w.heap[k]? = some o) (hm : ¬ M k) : w'.heap[k]? = some o := by
 rw [h.block k (Array.getElem?_eq_some_iff.1 ho).1 hm]; exact ho
theorem Fr.below {M : Nat → Prop} {w w' : World} (h : Fr M w w') {B : Nat} (hB : B ≤ w.heap.size) (hM : ∀ k, M k → B ≤ k) : Below B w w' :=
 ⟨h.os, h.tape, h.output, h.size, fun k hk => h.block k (by omega) (fun e => by have := hM k e; omega)⟩
theorem Zq {w : World} {a : Addr} {v : Value} (h : w.cell? a = some v) : a.block < w.heap.size := by
 rcases Nat.lt_or_ge a.block w.heap.size with h1 | h1
 ·exact h1
 ·rw [World.cell?, Array.getElem?_eq_none h1] at h; cases h
theorem Fr.cell {M : Nat → Prop} {w w' : World} (h : Fr M w w') {a : Addr} {v : Value} (hc : w.cell? a = some v) (hm : ¬ M a.block) : w'.cell? a = some v := by
 have := h.block a.block (Zq hc) hm
 unfold World.cell? at hc ⊢
 rw [this]; exact hc
theorem Fr.rowIs {M : Nat → Prop} {w w' : World} (h : Fr M w w') {b : Nat} {t : TypeId} {n : Nat} {f : Nat → Value} (hr : w.rowIs b t n f) (hm : ¬ M b) : w'.rowIs b t n f := hr.of_block (h.block b hr.lt hm)
theorem setRow_at {w : World} {g : Nat} {c c' : Array Value} {t : TypeId} (h : w.heap[g]? = some (.cells c t (0, 0))) : (w.setRow g c').heap[g]? = some (.cells c' t (0, 0)) := by
 simp only [World.setRow]
 rw [Array.getElem?_modify]
 simp [h]
def n8 (f : Nat → Int) : Nat → Value := fun i => .int .u8 (f i)
def Abide {β : Type} (M : Nat → Prop) (J : β → World → Prop) : Prop := ∀ s A B, J s A → Fr M A B → J s B
def Za (A : World) (k : Nat) : Prop := ∀ c t f, A.heap[k]? ≠ some (.cells c t f)
def AbideN {β : Type} (base : Nat) (M : Nat → Prop) (J : β → World → Prop) : Prop := ∀ s A B, J s A → Fr (fun k => M k ∨ (base ≤ k ∧ Za A k)) A B → J s B
def SeqM {α : Type} (F : Fence) (n : Nat) (P : Program) (g : Nat) (lb : Array Value) (encs : α → Array Value) (M : Nat → Prop) (Kp : World → World → Prop) (S Sp : List α → Prop) (St : World → Prop) : Prop :=
 ∀ (l : Nat) (J Jx : List α → World → Prop) (W : World), St W → Abide M J → Abide M Jx →
  (∀ pre x W1, J pre W1 → Sp (pre ++ [x]) → YieldAt F (n - 1) P l (encs x) W1 fun e W' =>
   (e = .returned (.bool true) ∧ J (pre ++ [x]) W' ∧ Kp W1 W') ∨ (e = .returned (.bool false) ∧ Jx (pre ++ [x]) W')) →
  J [] W →
  CallsIn F n P g (#[.func (.yield l) #[] #[]] ++ lb) W fun e W' => (∃ v, e = .returned v) ∧ ((∃ xs, S xs ∧ J xs W') ∨ (∃ pre, Sp pre ∧ Jx pre W'))
theorem Fr.putObj {M : Nat → Prop} (w : World) {l : Nat} (hl : M l) (o : Obj) : Fr M w (w.putObj l o) :=
 ⟨rfl, rfl, rfl, by simp, fun k _ hm => World.putObj_heap_other (fun e => hm (e ▸ hl))⟩
variable {F : Fence} {n : Nat} {P : Program}
theorem range_own {α : Type} {g : Operand} {ps : Array Tmp} {assign body : Code} {Q : Exit → Act → World → Prop} {a : Act} {w : World}
  (hro : F.round = none) (h1 : 1 ≤ n) {gf : Nat} {lb : Array Value} (hg : a.eval g = .func (.func gf) #[] lb) (hFg : F.fn gf) (eg : ∀ args w, (callFunc gf args).run P w = .ok (.enter gf args) w)
  {encs : α → Array Value} {M : Nat → Prop} {Kp : World → World → Prop} {S Sp : List α → Prop} {St : World → Prop} (hseq : SeqM F (n - 1) P gf lb encs M Kp S Sp St)
  (hM : ∀ k, M k → k < w.heap.size) (hSt : ∀ W, Below w.heap.size w W → St W)
  (hKt : ∀ {A B C : World}, Kp A B → Kp B C → Kp A C) (hKb : ∀ (W : World) (l : Nat) (o' : Obj), w.heap.size ≤ l → Kp W (W.putObj l o'))
  (hps : ∀ x, (encs x).size = ps.size)
  (I : List α → World → Prop) (Ix : Code → List α → World → Prop) (hI : AbideN w.heap.size M I) (hIx : ∀ c, AbideN w.heap.size M (Ix c)) (h0 : I [] w) (a₁ : α → Act)
  (hassign : ∀ (l : Nat) (x : α) (W : World) (K : Act → World → Prop), K (a₁ x) W →
   assign.wpIn (F.inRound l) (n - 1 - 1) P (Exit.then K (fun _ _ _ => False)) { tmps := (ps.zip (encs x)).foldl (fun t (p, v) => t.setIfInBounds p v) a.tmps, defers := [] } W)
  (hbody : ∀ (l : Nat) (pre : List α) (x : α) (W : World), I pre W → Sp (pre ++ [x]) → w.heap.size ≤ l → body.wpIn (F.inRound l) (n - 1 - 1) P (ownPostK Kp I Ix (pre ++ [x]) W) (a₁ x) W)
  (hdone : ∀ (D : Nat) (xs : List α) (W : World), S xs → I xs W → W.heap[D]? = some (.deferred (some [])) → w.heap.size ≤ D → Q .normal { a with defers := { target := .collected D, args := #[] } :: a.defers } W)
  (hstop : ∀ (D : Nat) (c : Code) (pre : List α) (W : World), Sp pre → Ix c pre W → W.heap[D]? = some (.deferred (some [])) → w.heap.size ≤ D → c.wpIn F n P Q { a with defers := { target := .collected D, args := #[] } :: a.defers } W) :
  (Code.rangeFunc g ps assign body).wpIn F n P Q a w := by
 refine wpIn_rangeFunc fun fn hfn => ?_
 rw [hro]
 obtain ⟨R, hR⟩ : ∃ R : LoopState → Option Code → Loop, R = fun st pe => { state := st, pending := pe, fn, tmps := a.tmps, params := ps, assign, body, defers := w.heap.size } := ⟨_, rfl⟩
 obtain ⟨V, hV⟩ : ∃ V, (w.alloc (.deferred (some []))).alloc (.loop (R .ready none)) = V := ⟨_, rfl⟩
 have hL : V.heap[w.heap.size + 1]? = some (.loop (R .ready none)) := by
  rw [← hV]; simpa using World.alloc_heap_new (w.alloc (.deferred (some []))) (.loop (R .ready none))
 have hD : V.heap[w.heap.size]? = some (.deferred (some [])) := by
  rw [← hV]; exact (Below.heap_alloc _ _ _ (by simp)).trans (World.alloc_heap_new w _)
 have hIV : I [] V := by
  rw [← hV]; exact hI _ _ _ (hI _ _ _ h0 (Fr.alloc _ _ _)) (Fr.alloc _ _ _)
 have hBV : Below w.heap.size w V := by rw [← hV]; exact ((Below.refl _ w).alloc (Nat.le_refl _) _).alloc (by simp) _
 have far : ∀ {W : World} {k : Nat} {r : Loop} (o : Obj), W.heap[k]? = some (.loop r) → w.heap.size ≤ k → Fr (fun k => M k ∨ (w.heap.size ≤ k ∧ Za W k)) W (W.putObj k o) := fun o hk hle => Fr.putObj _ (.inr ⟨hle, fun c t f e => by rw [hk] at e; cases e⟩) o
 have wide : ∀ {A B : World}, Fr M A B → Fr (fun k => M k ∨ (w.heap.size ≤ k ∧ Za A k)) A B := fun h => h.mono (fun _ e => .inl e)
 have nM : ∀ {k : Nat}, w.heap.size ≤ k → ¬ M k := fun hk hm => by have := hM _ hm; omega
 refine ⟨w.heap.size + 1, [{ target := .collected w.heap.size, args := #[] }], V, { target := .fn (.func gf) lb, args := #[.func (.yield (w.heap.size + 1)) #[] #[]] }, V, gf,
  #[.func (.yield (w.heap.size + 1)) #[] #[]] ++ lb, V, by rw [← hV, hR]; exact run_enterLoop_outer _ _ _ _ _, by simp only [resolve, hg]; simp [go_sem], ?_, by simp [invoke, go_sem, eg], fun _ => h1, ?_⟩
 ·intro f' hf'; simp [Target.leads] at hf'; subst hf'; exact hFg
 refine (hseq (w.heap.size + 1)
  (fun pre W => I pre W ∧ W.heap[w.heap.size + 1]? = some (.loop (R .ready none)) ∧ W.heap[w.heap.size]? = some (.deferred (some [])))
  (fun pre W => ∃ c, Ix c pre W ∧ W.heap[w.heap.size + 1]? = some (.loop (R .done (some c))) ∧ W.heap[w.heap.size]? = some (.deferred (some [])))
  V (hSt _ hBV)
  (fun s A B hs hf => ⟨hI _ _ _ hs.1 (wide hf), hf.at hs.2.1 (nM (by omega)), hf.at hs.2.2 (nM (by omega))⟩)
  (fun s A B ⟨c, hc, hl, hk⟩ hf => ⟨c, hIx c _ _ _ hc (wide hf), hf.at hl (nM (by omega)), hf.at hk (nM (by omega))⟩)
  ?_ ⟨hIV, hL, hD⟩).mono ?_
 ·rintro pre x W ⟨hi, hl, hk⟩ hsp
  have hy := run_yield (P := P) (args := encs x) hl (by rw [hR]; exact hps x)
  rw [hR] at hy
  refine ⟨fn, _, assign, body, hy, roundIn_of_wpIn hfn (hassign _ x W _ ⟨_, run_beginRound hl (by rw [hR]), ?_⟩)⟩
  obtain ⟨W2, hW2⟩ : ∃ W2, W.putObj (w.heap.size + 1) (.loop { R .ready none with state := .busy }) = W2 := ⟨_, rfl⟩
  have hl2 : W2.heap[w.heap.size + 1]? = some (.loop { R .ready none with state := .busy }) := by
   rw [← hW2]; exact World.putObj_heap_same (Array.getElem?_eq_some_iff.1 hl).1
  have hk2 : W2.heap[w.heap.size]? = some (.deferred (some [])) := by rw [← hW2]; exact (World.putObj_heap_other (by omega)).trans hk
  have hp2 : Kp W W2 := by rw [← hW2]; exact hKb _ _ _ (by omega)
  have hi2 : I pre W2 := by rw [← hW2]; exact hI _ _ _ hi (far _ hl (by omega))
  rw [hW2]
  refine wpIn_mono (hbody _ pre x W2 hi2 hsp (by omega)) ?_
  have fin : ∀ (jump : Option Code) (W3 : World), KeepsOthers W2 W3 → W3.heap[w.heap.size + 1]? = some (.loop { R .ready none with state := .busy }) ∧
    (Instr.endRound (w.heap.size + 1) jump).run P W3 = .ok (.bool jump.isNone) (W3.putObj (w.heap.size + 1) (.loop (R (if jump.isNone then .ready else .done) jump))) ∧
    (W3.putObj (w.heap.size + 1) (.loop (R (if jump.isNone then .ready else .done) jump))).heap[w.heap.size + 1]? = some (.loop (R (if jump.isNone then .ready else .done) jump)) ∧
    (W3.putObj (w.heap.size + 1) (.loop (R (if jump.isNone then .ready else .done) jump))).heap[w.heap.size]? = some (.deferred (some [])) := fun jump W3 h3 => by
   have hl3 := h3.same _ _ hl2 rfl
   have := run_endRound (P := P) jump hl3
   rw [hR] at this ⊢
   exact ⟨by rw [hR] at hl3; exact hl3, this, World.putObj_heap_same (Array.getElem?_eq_some_iff.1 hl3).1, (World.putObj_heap_other (by omega)).trans (h3.same _ _ hk2 rfl)⟩
  rintro e a3 W3 hp
  cases e with
  | normal =>
   obtain ⟨h3, hkp, hi3⟩ := hp
   obtain ⟨hl3, hr, hl4, hk4⟩ := fin none W3 h3
   exact ⟨_, _, hr, .inl ⟨rfl, ⟨hI _ _ _ hi3 (far _ hl3 (by omega)), hl4, hk4⟩, hKt (hKt hp2 hkp) (hKb _ _ _ (by omega))⟩⟩
  | ret =>
   obtain ⟨h3, hi3⟩ := hp
   obtain ⟨hl3, hr, hl4, hk4⟩ := fin (some .ret) W3 h3
   exact ⟨_, _, hr, .inr ⟨rfl, .ret, hIx _ _ _ _ hi3 (far _ hl3 (by omega)), hl4, hk4⟩⟩
  | exit id =>
   obtain ⟨h3, hi3⟩ := hp
   obtain ⟨hl3, hr, hl4, hk4⟩ := fin (some (.exit id)) W3 h3
   exact ⟨_, _, hr, .inr ⟨rfl, .exit id, hIx _ _ _ _ hi3 (far _ hl3 (by omega)), hl4, hk4⟩⟩
  | goto t =>
   obtain ⟨h3, hi3⟩ := hp
   obtain ⟨hl3, hr, hl4, hk4⟩ := fin (some (.goto t)) W3 h3
   exact ⟨_, _, hr, .inr ⟨rfl, .goto t, hIx _ _ _ _ hi3 (far _ hl3 (by omega)), hl4, hk4⟩⟩
  | panic ch => exact hp.elim
  | outgrown => exact hp.elim
 ·rintro e W2 ⟨⟨v, rfl⟩, (⟨xs, hS, hi, hl, hk⟩ | ⟨pre, hSp, c, hi, hl, hk⟩)⟩
  ·exact ⟨none, _, by have := run_endLoop (P := P) hl (by rw [hR]; simp); rw [hR] at this; exact this, hdone _ xs _ hS (hI _ _ _ hi (far _ hl (by omega))) ((World.putObj_heap_other (by omega)).trans hk) (by omega)⟩
  ·exact ⟨some c, _, by have := run_endLoop (P := P) hl (by rw [hR]; simp); rw [hR] at this; exact this, hstop _ c pre _ hSp (hIx c _ _ _ hi (far _ hl (by omega))) ((World.putObj_heap_other (by omega)).trans hk) (by omega)⟩
variable {F : Fence} {n : Nat} {P : Program}
theorem range_box {α : Type} {g : Operand} {ps : Array Tmp} {assign body : Code} {Q : Exit → Act → World → Prop} {a : Act} {w : World}
  (hro : F.round = none) (h1 : 1 ≤ n) {gf : Nat} {lb : Array Value} (hg : a.eval g = .func (.func gf) #[] lb) (hFg : F.fn gf) (eg : ∀ args w, (callFunc gf args).run P w = .ok (.enter gf args) w)
  {encs : α → Array Value} {M : Nat → Prop} {Kp : World → World → Prop} {S Sp : List α → Prop} {St : World → Prop} (hseq : SeqM F (n - 1) P gf lb encs M Kp S Sp St)
  (hM : ∀ k, M k → k < w.heap.size) (hSt : ∀ W, Below w.heap.size w W → St W)
  (hKt : ∀ {A B C : World}, Kp A B → Kp B C → Kp A C) (hKb : ∀ (W : World) (l : Nat) (o' : Obj), w.heap.size ≤ l → Kp W (W.putObj l o'))
  (hps : ∀ x, (encs x).size = ps.size)
  (I : List α → World → Prop) (Ix : Code → List α → World → Prop) (hI : AbideN w.heap.size M I) (hIx : ∀ c, AbideN w.heap.size M (Ix c)) (h0 : I [] w) (Bx : α → Act → World → Prop) (hKa : ∀ A B, Fr None' A B → Kp A B) (hBk : ∀ x a' A B, Bx x a' A → Fr (fun k => Za A k) A B → Bx x a' B)
  (hassign : ∀ (l : Nat) (pre : List α) (x : α) (W : World) (K : Act → World → Prop), Sp (pre ++ [x]) → (∀ a' W1, Fr None' W W1 → Bx x a' W1 → K a' W1) →
   assign.wpIn (F.inRound l) (n - 1 - 1) P (Exit.then K (fun _ _ _ => False)) { tmps := (ps.zip (encs x)).foldl (fun t (p, v) => t.setIfInBounds p v) a.tmps, defers := [] } W)
  (hbody : ∀ (l : Nat) (pre : List α) (x : α) (a' : Act) (W : World), I pre W → Sp (pre ++ [x]) → Bx x a' W → w.heap.size ≤ l → body.wpIn (F.inRound l) (n - 1 - 1) P (ownPostK Kp I Ix (pre ++ [x]) W) a' W)
  (hdone : ∀ (D : Nat) (xs : List α) (W : World), S xs → I xs W → W.heap[D]? = some (.deferred (some [])) → w.heap.size ≤ D → Q .normal { a with defers := { target := .collected D, args := #[] } :: a.defers } W)
  (hstop : ∀ (D : Nat) (c : Code) (pre : List α) (W : World), Sp pre → Ix c pre W → W.heap[D]? = some (.deferred (some [])) → w.heap.size ≤ D → c.wpIn F n P Q { a with defers := { target := .collected D, args := #[] } :: a.defers } W) :
  (Code.rangeFunc g ps assign body).wpIn F n P Q a w := by
 refine wpIn_rangeFunc fun fn hfn => ?_
 rw [hro]
 obtain ⟨R, hR⟩ : ∃ R : LoopState → Option Code → Loop, R = fun st pe => { state := st, pending := pe, fn, tmps := a.tmps, params := ps, assign, body, defers := w.heap.size } := ⟨_, rfl⟩
 obtain ⟨V, hV⟩ : ∃ V, (w.alloc (.deferred (some []))).alloc (.loop (R .ready none)) = V := ⟨_, rfl⟩
 have hL : V.heap[w.heap.size + 1]? = some (.loop (R .ready none)) := by
  rw [← hV]; simpa using World.alloc_heap_new (w.alloc (.deferred (some []))) (.loop (R .ready none))
 have hD : V.heap[w.heap.size]? = some (.deferred (some [])) := by
  rw [← hV]; exact (Below.heap_alloc _ _ _ (by simp)).trans (World.alloc_heap_new w _)
 have hIV : I [] V := by
  rw [← hV]; exact hI _ _ _ (hI _ _ _ h0 (Fr.alloc _ _ _)) (Fr.alloc _ _ _)
 have hBV : Below w.heap.size w V := by rw [← hV]; exact ((Below.refl _ w).alloc (Nat.le_refl _) _).alloc (by simp) _
 have far : ∀ {W : World} {k : Nat} {r : Loop} (o : Obj), W.heap[k]? = some (.loop r) → w.heap.size ≤ k → Fr (fun k => M k ∨ (w.heap.size ≤ k ∧ Za W k)) W (W.putObj k o) := fun o hk hle => Fr.putObj _ (.inr ⟨hle, fun c t f e => by rw [hk] at e; cases e⟩) o
 have wide : ∀ {A B : World}, Fr M A B → Fr (fun k => M k ∨ (w.heap.size ≤ k ∧ Za A k)) A B := fun h => h.mono (fun _ e => .inl e)
 have nM : ∀ {k : Nat}, w.heap.size ≤ k → ¬ M k := fun hk hm => by have := hM _ hm; omega
 refine ⟨w.heap.size + 1, [{ target := .collected w.heap.size, args := #[] }], V, { target := .fn (.func gf) lb, args := #[.func (.yield (w.heap.size + 1)) #[] #[]] }, V, gf,
  #[.func (.yield (w.heap.size + 1)) #[] #[]] ++ lb, V, by rw [← hV, hR]; exact run_enterLoop_outer _ _ _ _ _, by simp only [resolve, hg]; simp [go_sem], ?_, by simp [invoke, go_sem, eg], fun _ => h1, ?_⟩
 ·intro f' hf'; simp [Target.leads] at hf'; subst hf'; exact hFg
 refine (hseq (w.heap.size + 1)
  (fun pre W => I pre W ∧ W.heap[w.heap.size + 1]? = some (.loop (R .ready none)) ∧ W.heap[w.heap.size]? = some (.deferred (some [])))
  (fun pre W => ∃ c, Ix c pre W ∧ W.heap[w.heap.size + 1]? = some (.loop (R .done (some c))) ∧ W.heap[w.heap.size]? = some (.deferred (some [])))
  V (hSt _ hBV)
  (fun s A B hs hf => ⟨hI _ _ _ hs.1 (wide hf), hf.at hs.2.1 (nM (by omega)), hf.at hs.2.2 (nM (by omega))⟩)
  (fun s A B ⟨c, hc, hl, hk⟩ hf => ⟨c, hIx c _ _ _ hc (wide hf), hf.at hl (nM (by omega)), hf.at hk (nM (by omega))⟩)
  ?_ ⟨hIV, hL, hD⟩).mono ?_
 ·rintro pre x W ⟨hi, hl, hk⟩ hsp
  have hy := run_yield (P := P) (args := encs x) hl (by rw [hR]; exact hps x)
  rw [hR] at hy
  refine ⟨fn, _, assign, body, hy, roundIn_of_wpIn hfn (hassign _ pre x W _ hsp (fun a' W1 f1 hb1 => ⟨_, run_beginRound (f1.at hl (fun e => e)) (by rw [hR]), ?_⟩))⟩
  have hl := f1.at hl (fun e => e)
  have hk := f1.at hk (fun e => e)
  have hi : I pre W1 := hI _ _ _ hi (f1.mono (fun _ e => e.elim))
  have hp1 : Kp W W1 := hKa _ _ f1
  have hnc : Za W1 (w.heap.size + 1) := fun c t f e => by rw [hl] at e; cases e
  obtain ⟨W2, hW2⟩ : ∃ W2, W1.putObj (w.heap.size + 1) (.loop { R .ready none with state := .busy }) = W2 := ⟨_, rfl⟩
  have hl2 : W2.heap[w.heap.size + 1]? = some (.loop { R .ready none with state := .busy }) := by
   rw [← hW2]; exact World.putObj_heap_same (Array.getElem?_eq_some_iff.1 hl).1
  have hk2 : W2.heap[w.heap.size]? = some (.deferred (some [])) := by rw [← hW2]; exact (World.putObj_heap_other (by omega)).trans hk
  have hp2 : Kp W W2 := by rw [← hW2]; exact hKt hp1 (hKb _ _ _ (by omega))
  have hi2 : I pre W2 := by rw [← hW2]; exact hI _ _ _ hi (far _ hl (by omega))
  have hb2 : Bx x a' W2 := by rw [← hW2]; exact hBk _ _ _ _ hb1 (Fr.putObj (M := fun k => Za W1 k) _ hnc _)
  rw [hW2]
  refine wpIn_mono (hbody _ pre x a' W2 hi2 hsp hb2 (by omega)) ?_
  have fin : ∀ (jump : Option Code) (W3 : World), KeepsOthers W2 W3 → W3.heap[w.heap.size + 1]? = some (.loop { R .ready none with state := .busy }) ∧
    (Instr.endRound (w.heap.size + 1) jump).run P W3 = .ok (.bool jump.isNone) (W3.putObj (w.heap.size + 1) (.loop (R (if jump.isNone then .ready else .done) jump))) ∧
    (W3.putObj (w.heap.size + 1) (.loop (R (if jump.isNone then .ready else .done) jump))).heap[w.heap.size + 1]? = some (.loop (R (if jump.isNone then .ready else .done) jump)) ∧
    (W3.putObj (w.heap.size + 1) (.loop (R (if jump.isNone then .ready else .done) jump))).heap[w.heap.size]? = some (.deferred (some [])) := fun jump W3 h3 => by
   have hl3 := h3.same _ _ hl2 rfl
   have := run_endRound (P := P) jump hl3
   rw [hR] at this ⊢
   exact ⟨by rw [hR] at hl3; exact hl3, this, World.putObj_heap_same (Array.getElem?_eq_some_iff.1 hl3).1, (World.putObj_heap_other (by omega)).trans (h3.same _ _ hk2 rfl)⟩
  rintro e a3 W3 hp
  cases e with
  | normal =>
   obtain ⟨h3, hkp, hi3⟩ := hp
   obtain ⟨hl3, hr, hl4, hk4⟩ := fin none W3 h3
   exact ⟨_, _, hr, .inl ⟨rfl, ⟨hI _ _ _ hi3 (far _ hl3 (by omega)), hl4, hk4⟩, hKt (hKt hp2 hkp) (hKb _ _ _ (by omega))⟩⟩
  | ret =>
   obtain ⟨h3, hi3⟩ := hp
   obtain ⟨hl3, hr, hl4, hk4⟩ := fin (some .ret) W3 h3
   exact ⟨_, _, hr, .inr ⟨rfl, .ret, hIx _ _ _ _ hi3 (far _ hl3 (by omega)), hl4, hk4⟩⟩
  | exit id =>
   obtain ⟨h3, hi3⟩ := hp
   obtain ⟨hl3, hr, hl4, hk4⟩ := fin (some (.exit id)) W3 h3
   exact ⟨_, _, hr, .inr ⟨rfl, .exit id, hIx _ _ _ _ hi3 (far _ hl3 (by omega)), hl4, hk4⟩⟩
  | goto t =>
   obtain ⟨h3, hi3⟩ := hp
   obtain ⟨hl3, hr, hl4, hk4⟩ := fin (some (.goto t)) W3 h3
   exact ⟨_, _, hr, .inr ⟨rfl, .goto t, hIx _ _ _ _ hi3 (far _ hl3 (by omega)), hl4, hk4⟩⟩
  | panic ch => exact hp.elim
  | outgrown => exact hp.elim
 ·rintro e W2 ⟨⟨v, rfl⟩, (⟨xs, hS, hi, hl, hk⟩ | ⟨pre, hSp, c, hi, hl, hk⟩)⟩
  ·exact ⟨none, _, by have := run_endLoop (P := P) hl (by rw [hR]; simp); rw [hR] at this; exact this, hdone _ xs _ hS (hI _ _ _ hi (far _ hl (by omega))) ((World.putObj_heap_other (by omega)).trans hk) (by omega)⟩
  ·exact ⟨some c, _, by have := run_endLoop (P := P) hl (by rw [hR]; simp); rw [hR] at this; exact this, hstop _ c pre _ hSp (hIx c _ _ _ hi (far _ hl (by omega))) ((World.putObj_heap_other (by omega)).trans hk) (by omega)⟩
end Go.Proofs.YtbnfjjjdnbcehaaGreatDoor
namespace Go.Proofs.YtbnfjjjdnbcehaaGreatDoor
open Go.RowKit
set_option maxRecDepth 100000
theorem getD_set {listed : Array Bool} {i j : Nat} (hi : i < listed.size) : (listed.setIfInBounds i true).getD j false = if j = i then true else listed.getD j false := by
 by_cases h : j = i
 ·subst h
  rw [if_pos rfl]
  simp [Array.getD_eq_getD_getElem?, hi]
 ·rw [if_neg h]
  simp [Array.getD_eq_getD_getElem?, Ne.symm h]
theorem ready_none {md : Region.Mode} {ops : Array Oper} {listed : Array Bool} (hs : listed.size = ops.size) (hord : ∀ (i : Nat) (o : Oper), ops[i]? = some o → ∀ e ∈ o.after, Region.binds md e = true → e.on < i) (hr : Region.ready md ops listed = []) : ∀ i, i < ops.size → listed.getD i false = true := by
 intro i
 induction i using Nat.strongRecOn with
 | ind i ih =>
  intro hi
  cases hb : listed.getD i false with
  | true => rfl
  | false =>
   exfalso
   have : i ∈ Region.ready md ops listed := by
    unfold Region.ready
    rw [List.mem_filter]
    refine ⟨List.mem_range.2 hi, ?_⟩
    have h1 : listed.getD i true = false := by
     simp only [Array.getD_eq_getD_getElem?] at hb ⊢
     rw [Array.getElem?_eq_getElem (by omega)] at hb ⊢
     exact hb
    rw [h1, Array.getElem?_eq_getElem hi]
    simp only [Bool.not_false, Bool.true_and, Option.map_some, Option.getD_some]
    rw [Array.all_eq_true_iff_forall_mem]
    intro e he
    cases hbd : Region.binds md e with
    | false => rfl
    | true =>
     have hlt := hord i _ (Array.getElem?_eq_getElem hi) e he hbd
     rw [ih e.on hlt (by omega)]
     rfl
   rw [hr] at this
   cases this
theorem ready_spec {md : Region.Mode} {ops : Array Oper} {listed : Array Bool} (hs : listed.size = ops.size) {i : Nat} (h : i ∈ Region.ready md ops listed) : i < ops.size ∧ listed.getD i false = false ∧ ∀ o, ops[i]? = some o → ∀ e ∈ o.after, Region.binds md e = true → listed.getD e.on false = true := by
 unfold Region.ready at h
 rw [List.mem_filter] at h
 obtain ⟨h1, h2⟩ := h
 have hi := List.mem_range.1 h1
 simp only [Bool.and_eq_true, Bool.not_eq_true'] at h2
 obtain ⟨h2, h3⟩ := h2
 refine ⟨hi, ?_, fun o ho e he hb => ?_⟩
 ·simp only [Array.getD_eq_getD_getElem?] at h2 ⊢
  rw [Array.getElem?_eq_getElem (by omega)] at h2 ⊢
  exact h2
 ·rw [ho] at h3
  simp only [Option.map_some, Option.getD_some] at h3
  have := (Array.all_eq_true_iff_forall_mem.1 h3) e he
  rw [hb] at this
  simpa using this
def left (listed : Array Bool) : Nat := listed.toList.countP (fun b => !b)
theorem left_set {listed : Array Bool} {i : Nat} (hi : i < listed.size) (h : listed.getD i false = false) : left (listed.setIfInBounds i true) + 1 = left listed := by
 unfold left
 obtain ⟨l⟩ := listed
 simp only [List.setIfInBounds_toArray] at *
 have hi' : i < l.length := by simpa using hi
 have hx : l[i] = false := by
  simp only [Array.getD_eq_getD_getElem?, List.getElem?_toArray, List.getElem?_eq_getElem hi', Option.getD_some] at h
  exact h
 clear h hi
 induction l generalizing i with
 | nil => simp at hi'
 | cons x l ih =>
  cases i with
  | zero =>
   simp only [List.getElem_cons_zero] at hx
   subst hx
   simp
  | succ i =>
   have := ih (i := i) (by simpa using hi') (by simpa using hx)
   simp only [List.set_cons_succ, List.countP_cons] at this ⊢
   omega
theorem any_inv {F : Fence} {n : Nat} {P : Program} {md : Region.Mode} {ops : Array Oper} {Q : Exit → Act → World → Prop} (Inv : (Nat → Bool) → Act → World → Prop) (hg : ∀ (i : Nat) (o : Oper), ops[i]? = some o → o.guard = none) (hord : ∀ (i : Nat) (o : Oper), ops[i]? = some o → ∀ e ∈ o.after, Region.binds md e = true → e.on < i)
  (hstep : ∀ (S : Nat → Bool) (a : Act) (w : World) (i : Nat) (o : Oper), Inv S a w → ops[i]? = some o → S i = false → (∀ e ∈ o.after, Region.binds md e = true → S e.on = true) → o.wpIn F n P a w (fun a' w' => Inv (fun j => if j = i then true else S j) a' w') Q)
  (hdone : ∀ (S : Nat → Bool) (a : Act) (w : World), Inv S a w → (∀ i, i < ops.size → S i = true) → Q .normal a w) :
  ∀ (fuel : Nat) (listed : Array Bool) (a : Act) (w : World), listed.size = ops.size → left listed ≤ fuel → Inv (fun j => listed.getD j false) a w → wpAnyIn F n P md ops Q fuel listed a w
 | 0, listed, a, w, hs, hl, hI => by
  have hr : Region.ready md ops listed = [] := by
   cases hr : Region.ready md ops listed with
   | nil => rfl
   | cons i rs =>
    exfalso
    obtain ⟨h1, h2, _⟩ := ready_spec hs (i := i) (by rw [hr]; exact List.mem_cons_self ..)
    have := left_set (listed := listed) (by omega) h2
    omega
  exact ⟨hr, hdone _ a w hI (ready_none hs hord hr)⟩
 | fuel + 1, listed, a, w, hs, hl, hI => by
  refine ⟨fun hr => hdone _ a w hI (ready_none hs hord hr), fun i hi => ?_⟩
  obtain ⟨h1, h2, h3⟩ := ready_spec hs hi
  have ho := Array.getElem?_eq_getElem h1
  refine wpOpIn_step ho (fun K' hK => ?_)
  rw [if_pos (by simp [Region.wanted, hg i _ ho])]
  refine Oper.wpIn_mono (fun a' w' h' => hK a' w' ?_) (hstep _ a w i _ hI ho h2 (h3 _ ho))
  refine any_inv Inv hg hord hstep hdone fuel _ a' w' (by simpa using hs) ?_ ?_
  ·have := left_set (listed := listed) (by omega) h2
   omega
  ·have e : (fun j => (listed.setIfInBounds i true).getD j false) = fun j => if j = i then true else listed.getD j false := funext fun j => getD_set (by omega)
   rw [e]
   exact h'
theorem left_none (n : Nat) : left (Array.replicate n false) = n := by
 simp [left, List.countP_replicate]
def plainOps (ops : Array Oper) : Bool := ops.all (fun o => o.guard.isNone) && (List.range ops.size).all fun i => match ops[i]? with | some o => o.after.all fun e => !Region.binds .any e || decide (e.on < i) | none => true
theorem plain_guard {ops : Array Oper} (h : plainOps ops = true) (i : Nat) (o : Oper) (ho : ops[i]? = some o) : o.guard = none := by
 unfold plainOps at h
 rw [Bool.and_eq_true] at h
 have := (Array.all_eq_true_iff_forall_mem.1 h.1) o (Array.mem_of_getElem? ho)
 simpa using this
theorem plain_ord {ops : Array Oper} (h : plainOps ops = true) (i : Nat) (o : Oper) (ho : ops[i]? = some o) (e : Edge) (he : e ∈ o.after) (hb : Region.binds .any e = true) : e.on < i := by
 unfold plainOps at h
 rw [Bool.and_eq_true] at h
 have h2 := List.all_eq_true.1 h.2 i (List.mem_range.2 (Array.getElem?_eq_some_iff.1 ho).1)
 rw [ho] at h2
 have := (Array.all_eq_true_iff_forall_mem.1 h2) e he
 rw [hb] at this
 simpa using this
def upd (S : Nat → Bool) (i : Nat) : Nat → Bool := fun j => if j = i then true else S j
def Zn (F : Fence) (n : Nat) (P : Program) (Q : Exit → Act → World → Prop) (Inv : (Nat → Bool) → Act → World → Prop) (S : Nat → Bool) (a : Act) (w : World) (l : List Oper) (i : Nat) : Prop :=
 ∀ j o, l[j]? = some o → S (i + j) = false → (∀ e ∈ o.after, Region.binds .any e = true → S e.on = true) → o.wpIn F n P a w (Inv (upd S (i + j))) Q
theorem Zn.nil {F : Fence} {n : Nat} {P : Program} {Q : Exit → Act → World → Prop} {Inv : (Nat → Bool) → Act → World → Prop} {S : Nat → Bool} {a : Act} {w : World} {i : Nat} : Zn F n P Q Inv S a w [] i := fun j o h => by simp at h
theorem Zn.cons {F : Fence} {n : Nat} {P : Program} {Q : Exit → Act → World → Prop} {Inv : (Nat → Bool) → Act → World → Prop} {S : Nat → Bool} {a : Act} {w : World} {i : Nat} {o : Oper} {l : List Oper} (h : S i = false → (∀ e ∈ o.after, Region.binds .any e = true → S e.on = true) → o.wpIn F n P a w (Inv (upd S i)) Q) (hs : Zn F n P Q Inv S a w l (i + 1)) : Zn F n P Q Inv S a w (o :: l) i := fun j o' hj => by
 cases j with
 | zero => simp at hj; subst hj; exact h
 | succ j =>
  have := hs j o' (by simpa using hj)
  rwa [show i + 1 + j = i + (j + 1) from by omega] at this
theorem region_inv {F : Fence} {n : Nat} {P : Program} {id : Nat} {l : List Oper} {Q : Exit → Act → World → Prop} {a : Act} {w : World} (hm : P.follows .mixedOrders = true) (hp : plainOps l.toArray = true) (Inv : (Nat → Bool) → Act → World → Prop)
  (h0 : Inv (fun _ => false) a w.drew)
  (hstep : ∀ (S : Nat → Bool) (a : Act) (w : World), Inv S a w → Zn F n P Q Inv S a w l 0)
  (hdone : ∀ (S : Nat → Bool) (a : Act) (w : World), Inv S a w → (∀ i, i < l.length → S i = true) → Q .normal a w) : (Code.region id l.toArray true).wpIn F n P Q a w := by
 refine wpIn_region_any hm (any_inv Inv (plain_guard hp) (plain_ord hp) (fun S a w i o hI ho hS hd => ?_) (fun S a w hI h => hdone S a w hI (by simpa using h)) _ _ _ _ (by simp) (by rw [left_none]; exact Nat.le_refl _) ?_)
 ·have := hstep S a w hI i o (by simpa using ho) (by simpa using hS) hd
  rw [Nat.zero_add] at this
  exact this
 ·have e : (fun j => (Array.replicate l.toArray.size false).getD j false) = fun _ => false := funext fun j => by
   simp [Array.getD_eq_getD_getElem?, Array.getElem?_replicate]
   split <;> rfl
  rw [e]
  exact h0
end Go.Proofs.YtbnfjjjdnbcehaaGreatDoor
