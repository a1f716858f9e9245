/-
  What is proved here: the contracts that the statement stands on: LPlain, LBase. Conditions: as each theorem names them.
-/
import Derived.KernelRfl
import Derived.WalkKit
import Derived.WalkSpells
import Derived.Deep.OwnRows
import Derived.Deep.QuietTactic
import Derived.BigQuiet
import Derived.StillTailTactics
import Derived.Laws.Rows
namespace Go.Proofs.YtbiilnhefoplkaaGreatDoor.Lines

abbrev Bs := List UInt8

/-- May a token have the byte c? -/
def inB (c : Int) : Bool := decide (97 ≤ c ∧ c ≤ 122) || decide (65 ≤ c ∧ c ≤ 90) || decide (48 ≤ c ∧ c ≤ 57) || decide (c = 95)

def tokB (c : UInt8) : Bool := inB (c.toNat : Int)

def tok (s : Bs) : Bool := !s.isEmpty && s.all tokB

def text (s : Bs) : Bool := s.isEmpty || s.getLast? == some 10

/-- The lines of a text. -/
def lns : Bs → List Bs
  | [] => []
  | c :: r => if c = 10 then [] :: lns r else match lns r with
    | [] => [[c]]
    | x :: xs => (c :: x) :: xs

def join (l : List Bs) : Bs := l.flatMap (· ++ [10])

def right (l : List Bs) : Bool := l.all (fun x => !x.contains 10)

def run (b : Bool) : Bs → Nat
  | [] => 0
  | c :: r => if tokB c = b then run b r + 1 else 0

theorem run_le (b : Bool) : ∀ l, run b l ≤ l.length
  | [] => Nat.le_refl _
  | c :: r => by
    have := run_le b r
    unfold run
    split
    · simp; omega
    · omega

/-- How long the first piece is. -/
def firstLen : Bs → Nat
  | [] => 0
  | c :: r => run (tokB c) r + 1

theorem firstLen_le : ∀ l, firstLen l ≤ l.length
  | [] => Nat.le_refl _
  | c :: r => by have := run_le (tokB c) r; simp only [firstLen, List.length_cons]; omega

def pieces (s : Bs) : List Bs :=
  match s with
  | [] => []
  | c :: r => (c :: r).take (firstLen (c :: r)) :: pieces ((c :: r).drop (firstLen (c :: r)))
termination_by s.length
decreasing_by simp [firstLen]; omega

theorem pieces_nil : pieces [] = [] := by rw [pieces]

theorem pieces_cut {s : Bs} (h : s ≠ []) : pieces s = s.take (firstLen s) :: pieces (s.drop (firstLen s)) := by
  cases s with
  | nil => exact absurd rfl h
  | cons c r => rw [pieces]

def rep (f t : Bs) (p : Bs) : Bs := if p = f then t else p

def replace (s f t : Bs) : Bs := if tok f then ((pieces s).map (rep f t)).flatten else s

/-! ## Lines -/

theorem text_nil : text [] = true := rfl

theorem text_snoc (a : Bs) : text (a ++ [10]) = true := by simp [text]

theorem text_cons (c : UInt8) (r : Bs) (h : r ≠ []) : text (c :: r) = text r := by
  cases r with
  | nil => exact absurd rfl h
  | cons d r => simp [text, List.getLast?_cons_cons]

theorem lns_cut : ∀ (a b : Bs), a.contains 10 = false → lns (a ++ 10 :: b) = a :: lns b
  | [], b, _ => by simp [lns]
  | c :: a, b, h => by
    simp only [List.contains_cons, Bool.or_eq_false_iff] at h
    have hc : c ≠ 10 := by rintro rfl; simp at h
    rw [List.cons_append, lns, if_neg hc, lns_cut a b h.2]

theorem right_lns : ∀ s : Bs, right (lns s) = true
  | [] => rfl
  | c :: r => by
    have ih := right_lns r
    rw [lns]
    by_cases h : c = 10
    · rw [if_pos h]; simp only [right, List.all_cons] at ih ⊢; rw [ih]; rfl
    · rw [if_neg h]
      cases e : lns r with
      | nil => simp [right]; exact fun e => h e.symm
      | cons x xs =>
        rw [e] at ih
        simp only [right, List.all_cons, Bool.and_eq_true] at ih ⊢
        refine ⟨?_, ih.2⟩
        have := ih.1
        simp at this ⊢
        exact ⟨fun e => h e.symm, this⟩

theorem lns_ne {s : Bs} (h : s ≠ []) : lns s ≠ [] := by
  cases s with
  | nil => exact absurd rfl h
  | cons c r =>
    rw [lns]
    split
    · simp
    · split <;> simp

theorem join_lns : ∀ s : Bs, text s = true → join (lns s) = s
  | [], _ => rfl
  | c :: r, h => by
    by_cases hr : r = []
    · subst hr
      have hc : c = 10 := by simpa [text] using h
      subst hc; rfl
    · rw [text_cons c r hr] at h
      have ih := join_lns r h
      rw [lns]
      by_cases hc : c = 10
      · rw [if_pos hc]; subst hc; simp only [join, List.flatMap_cons] at ih ⊢; rw [ih]; rfl
      · rw [if_neg hc]
        cases e : lns r with
        | nil => exact absurd e (lns_ne hr)
        | cons x xs => rw [e] at ih; simp only [join, List.flatMap_cons] at ih ⊢; rw [← ih]; simp

theorem join_cons (x : Bs) (l : List Bs) : join (x :: l) = x ++ 10 :: join l := by simp [join]

theorem join_append (a b : List Bs) : join (a ++ b) = join a ++ join b := by simp [join]

theorem join_snoc (l : List Bs) (x : Bs) : join (l ++ [x]) = join l ++ x ++ [10] := by rw [join_append, join_cons]; simp [join]

theorem right_cons {x : Bs} {l : List Bs} : right (x :: l) = (!x.contains 10 && right l) := by simp [right]

theorem lns_join : ∀ l : List Bs, right l = true → lns (join l) = l
  | [], _ => rfl
  | x :: l, h => by
    rw [right_cons, Bool.and_eq_true] at h
    rw [join_cons, lns_cut x (join l) (by simpa using h.1), lns_join l h.2]

theorem text_join : ∀ l : List Bs, text (join l) = true
  | [] => rfl
  | x :: l => by
    rw [join_cons]
    cases e : join l with
    | nil => exact text_snoc x
    | cons c r =>
      have := text_join l
      rw [e] at this
      simp only [text, List.isEmpty_cons, Bool.false_or, List.getLast?_append, List.getLast?_cons_cons] at this ⊢
      simp at this
      simp [this]

theorem text_append {a b : Bs} (ha : text a = true) (hb : text b = true) : text (a ++ b) = true := by
  rw [← join_lns a ha, ← join_lns b hb, ← join_append]; exact text_join _

theorem text_right {a b : Bs} (h : text (a ++ b) = true) : text b = true := by
  cases b with
  | nil => rfl
  | cons c r =>
    simp only [text, List.getLast?_append] at h ⊢
    cases e : (c :: r).getLast? with
    | none => simp at e
    | some x => rw [e] at h; simp at h; simp [h]

theorem lns_append {a b : Bs} (ha : text a = true) (hb : text b = true) : lns (a ++ b) = lns a ++ lns b := by
  have h1 : right (lns a ++ lns b) = true := by
    simp only [right, List.all_append, Bool.and_eq_true]; exact ⟨right_lns a, right_lns b⟩
  have := lns_join _ h1
  rwa [join_append, join_lns a ha, join_lns b hb] at this

theorem count_noline : ∀ x : Bs, x.contains 10 = false → x.count 10 = 0 := fun x h => by
  rw [List.count_eq_zero]; simpa using h

theorem lns_length {s : Bs} (h : text s = true) : (lns s).length = s.count 10 := by
  have e := join_lns s h
  have r := right_lns s
  generalize lns s = l at e r
  subst e
  clear h
  induction l with
  | nil => rfl
  | cons x l ih =>
    rw [right_cons, Bool.and_eq_true] at r
    rw [join_cons, List.count_append, List.count_cons_self, List.length_cons, ih r.2, count_noline x (by simpa using r.1)]
    omega

/-! ## Pieces -/

/-- One kind of bytes alone, and not none. -/
def Unif (p : Bs) : Prop := p ≠ [] ∧ ∀ c ∈ p, tokB c = tok p

def Good : List Bs → Prop
  | [] => True
  | [p] => Unif p
  | p :: q :: r => Unif p ∧ tok p ≠ tok q ∧ Good (q :: r)

theorem unif_of {p : Bs} {b : Bool} (h0 : p ≠ []) (h : ∀ c ∈ p, tokB c = b) : Unif p ∧ tok p = b := by
  have : tok p = b := by
    cases p with
    | nil => exact absurd rfl h0
    | cons c r =>
      cases b with
      | true => simp only [tok, List.isEmpty_cons, Bool.not_false, Bool.true_and, List.all_eq_true]; exact h
      | false =>
        simp only [tok, List.isEmpty_cons, Bool.not_false, Bool.true_and, List.all_cons]
        rw [h c (by simp)]; rfl
  exact ⟨⟨h0, fun c hc => by rw [this]; exact h c hc⟩, this⟩

theorem take_run (b : Bool) : ∀ l : Bs, ∀ c ∈ l.take (run b l), tokB c = b
  | [], c, h => by simp at h
  | d :: r, c, h => by
    unfold run at h
    split at h
    · rename_i hd
      rw [List.take_succ_cons, List.mem_cons] at h
      rcases h with rfl | h
      · exact hd
      · exact take_run b r c h
    · simp at h

theorem drop_run (b : Bool) : ∀ (l : Bs) (c : UInt8) (r : Bs), l.drop (run b l) = c :: r → tokB c ≠ b
  | [], c, r, h => by simp at h
  | d :: l, c, r, h => by
    unfold run at h
    split at h
    · rw [List.drop_succ_cons] at h; exact drop_run b l c r h
    · rename_i hd
      simp at h
      rw [← h.1]; exact hd

theorem first_unif {s : Bs} (h : s ≠ []) : Unif (s.take (firstLen s)) ∧ tok (s.take (firstLen s)) = tokB (s.head h) := by
  cases s with
  | nil => exact absurd rfl h
  | cons c r =>
    refine unif_of (by simp [firstLen]) (fun d hd => ?_)
    rw [firstLen, List.take_succ_cons, List.mem_cons] at hd
    rcases hd with rfl | hd
    · rfl
    · exact take_run _ r d hd

theorem first_next {s : Bs} (h : s ≠ []) {c : UInt8} {r : Bs} (e : s.drop (firstLen s) = c :: r) : tokB c ≠ tokB (s.head h) := by
  cases s with
  | nil => exact absurd rfl h
  | cons d l => rw [firstLen, List.drop_succ_cons] at e; exact drop_run _ l c r e

theorem firstLen_pos {s : Bs} (h : s ≠ []) : 0 < firstLen s := by
  cases s with
  | nil => exact absurd rfl h
  | cons c r => simp [firstLen]

theorem pieces_all (s : Bs) : Good (pieces s) ∧ (pieces s).flatten = s := by
  generalize hn : s.length = n
  induction n using Nat.strongRecOn generalizing s with
  | ind n ih =>
    by_cases h : s = []
    · subst h; rw [pieces_nil]; exact ⟨trivial, rfl⟩
    · have hp := firstLen_pos h
      have hlen : 0 < s.length := List.length_pos_iff.2 h
      obtain ⟨g, f⟩ := ih (s.drop (firstLen s)).length (by rw [List.length_drop]; omega) _ rfl
      obtain ⟨u, k⟩ := first_unif h
      rw [pieces_cut h, List.flatten_cons, f, List.take_append_drop]
      refine ⟨?_, rfl⟩
      by_cases e : s.drop (firstLen s) = []
      · rw [e, pieces_nil]; exact u
      · rw [pieces_cut e] at g ⊢
        refine ⟨u, ?_, g⟩
        obtain ⟨c, r, hc⟩ := List.exists_cons_of_ne_nil e
        rw [k, (first_unif e).2]
        have := first_next h hc
        simp only [hc, List.head_cons]
        exact fun e => this e.symm

theorem good_tail {p : Bs} {l : List Bs} (h : Good (p :: l)) : Unif p ∧ Good l := by
  cases l with
  | nil => exact ⟨h, trivial⟩
  | cons q r => exact ⟨h.1, h.2.2⟩

/-- What one begins with, where another piece ends sooner. -/
theorem good_ahead {p q : Bs} {l m : List Bs} (hp : Good (p :: l)) (hq : Good (q :: m)) (e : (p :: l).flatten = (q :: m).flatten) : ¬ p.length < q.length := fun hlt => by
  rw [List.flatten_cons, List.flatten_cons] at e
  have h1 : p = q.take p.length := by
    have := congrArg (List.take p.length) e
    rwa [List.take_left, List.take_append_of_le_length (by omega)] at this
  have h2 : l.flatten = q.drop p.length ++ m.flatten := by
    have := congrArg (List.drop p.length) e
    rwa [List.drop_left, List.drop_append_of_le_length (by omega)] at this
  have uq := (good_tail hq).1
  cases l with
  | nil =>
    have := congrArg List.length h2
    simp at this
    omega
  | cons p' l =>
    obtain ⟨up, ne, hl⟩ := hp
    have up' := (good_tail hl).1
    obtain ⟨c, t, hc⟩ := List.exists_cons_of_ne_nil up'.1
    obtain ⟨d, t', hd⟩ := List.exists_cons_of_ne_nil up.1
    have hcq : c ∈ q := by
      have h3 : q.drop p.length ≠ [] := fun e => by have := congrArg List.length e; simp at this; omega
      obtain ⟨c', t'', h4⟩ := List.exists_cons_of_ne_nil h3
      rw [List.flatten_cons, hc, h4] at h2
      simp only [List.cons_append, List.cons.injEq] at h2
      rw [h2.1]
      exact List.mem_of_mem_drop (by rw [h4]; simp)
    have hdq : d ∈ q := by
      have : d ∈ p := by rw [hd]; simp
      rw [h1] at this
      exact List.mem_of_mem_take this
    have e1 := uq.2 c hcq
    have e2 := uq.2 d hdq
    have e3 := up'.2 c (by rw [hc]; simp)
    have e4 := up.2 d (by rw [hd]; simp)
    exact ne (by rw [← e4, ← e3, e1, e2])

theorem good_one : ∀ (a b : List Bs), Good a → Good b → a.flatten = b.flatten → a = b
  | [], [], _, _, _ => rfl
  | [], q :: m, _, hq, e => by
    have := (good_tail hq).1.1
    rw [List.flatten_cons] at e
    exact absurd (by simpa using e.symm : q = [] ∧ _).1 this
  | p :: l, [], hp, _, e => by
    have := (good_tail hp).1.1
    rw [List.flatten_cons] at e
    exact absurd (by simpa using e : p = [] ∧ _).1 this
  | p :: l, q :: m, hp, hq, e => by
    have h1 := good_ahead hp hq e
    have h2 := good_ahead hq hp e.symm
    have hl : p.length = q.length := by omega
    rw [List.flatten_cons, List.flatten_cons] at e
    obtain ⟨rfl, e'⟩ := List.append_inj e hl
    rw [good_one l m (good_tail hp).2 (good_tail hq).2 e']

theorem pieces_of {l : List Bs} (h : Good l) : pieces l.flatten = l := good_one _ _ (pieces_all _).1 h (pieces_all _).2

theorem pieces_tok {f : Bs} (h : tok f = true) : pieces f = [f] := by
  have hu : Unif f := by
    simp only [tok, Bool.and_eq_true, Bool.not_eq_true', List.isEmpty_eq_false_iff, List.all_eq_true] at h
    exact (unif_of (b := true) h.1 h.2).1
  have : Good [f] := hu
  simpa using pieces_of this

theorem tok_ne {f : Bs} (h : tok f = true) : f ≠ [] := by
  rintro rfl; simp [tok] at h

theorem tok_unif {f : Bs} (h : tok f = true) : Unif f := by
  simp only [tok, Bool.and_eq_true, Bool.not_eq_true', List.isEmpty_eq_false_iff, List.all_eq_true] at h
  exact (unif_of (b := true) h.1 h.2).1

/-- With tokens in place of tokens the pieces are pieces still. -/
theorem good_rep {f t : Bs} (hf : tok f = true) (ht : tok t = true) : ∀ l : List Bs, Good l → Good (l.map (rep f t))
  | [], _ => trivial
  | [p], h => by
    show Unif (rep f t p)
    unfold rep
    split
    · exact tok_unif ht
    · exact h
  | p :: q :: r, h => by
    have hk : ∀ x, tok (rep f t x) = tok x := fun x => by
      unfold rep
      split
      · rename_i e; rw [e, hf, ht]
      · rfl
    have hu : Unif (rep f t p) := by
      unfold rep
      split
      · exact tok_unif ht
      · exact h.1
    refine ⟨hu, ?_, good_rep hf ht (q :: r) h.2.2⟩
    rw [hk, hk]; exact h.2.1

theorem pieces_rep {s f t : Bs} (hf : tok f = true) (ht : tok t = true) : pieces (replace s f t) = (pieces s).map (rep f t) := by
  rw [replace, if_pos hf]
  exact pieces_of (good_rep hf ht _ (pieces_all s).1)

theorem rep_self (f : Bs) (p : Bs) : rep f f p = p := by unfold rep; split <;> simp_all

theorem replace_self (s f : Bs) : replace s f f = s := by
  unfold replace
  split
  · have : (pieces s).map (rep f f) = pieces s := by
      rw [List.map_congr_left (g := id) (fun p _ => rep_self f p), List.map_id]
    rw [this, (pieces_all s).2]
  · rfl

theorem rep_gone {f t p : Bs} (h : f ≠ t) : rep f t p ≠ f := by
  unfold rep
  split
  · exact fun e => h e.symm
  · rename_i h'; exact h'

theorem rep_back {f t p : Bs} (h : p ≠ t) : rep t f (rep f t p) = p := by
  unfold rep
  by_cases e : p = f
  · simp [e]
  · simp [e, h]

theorem replace_back {s f t : Bs} (hf : tok f = true) (ht : tok t = true) (h : t ∉ pieces s) : replace (replace s f t) t f = s := by
  have hp := pieces_rep (s := s) hf ht
  rw [replace, if_pos ht, hp, List.map_map]
  have : (pieces s).map (rep t f ∘ rep f t) = pieces s := by
    rw [List.map_congr_left (g := id) (fun p hp => ?_), List.map_id]
    exact rep_back (fun e => h (e ▸ hp))
  rw [this, (pieces_all s).2]

theorem replace_none {s f t : Bs} (h : f ∉ pieces s) : replace s f t = s := by
  unfold replace
  split
  · have : (pieces s).map (rep f t) = pieces s := by
      rw [List.map_congr_left (g := id) (fun p hp => ?_), List.map_id]
      have hne : p ≠ f := fun e => h (e ▸ hp)
      unfold rep
      rw [if_neg hne]
      rfl
    rw [this, (pieces_all s).2]
  · rfl

theorem rep_inj_len {f t : Bs} (hl : t.length = f.length) : ∀ l : List Bs, ((l.map (rep f t)).flatten = l.flatten) → f ∈ l → t = f
  | [], _, h => by cases h
  | p :: l, e, h => by
    rw [List.map_cons, List.flatten_cons, List.flatten_cons] at e
    have hlen : (rep f t p).length = p.length := by
      unfold rep
      split
      · rename_i e; rw [e, hl]
      · rfl
    obtain ⟨e1, e2⟩ := List.append_inj e hlen
    by_cases hp : p = f
    · rw [rep, if_pos hp] at e1; rw [e1, hp]
    · exact rep_inj_len hl l e2 (by rcases List.mem_cons.1 h with h | h; exact absurd h.symm hp; exact h)

theorem rep_len (f t : Bs) : ∀ l : List Bs, (((l.map (rep f t)).flatten.length : Int) = l.flatten.length + ((t.length : Int) - f.length) * (l.count f : Int))
  | [] => by simp
  | p :: l => by
    have ih := rep_len f t l
    rw [List.map_cons, List.flatten_cons, List.flatten_cons, List.length_append, List.length_append, Int.natCast_add, Int.natCast_add, ih]
    by_cases hp : p = f
    · subst hp
      rw [rep, if_pos rfl, List.count_cons_self, Int.natCast_add, Int.mul_add]
      simp
      omega
    · rw [rep, if_neg hp, List.count_cons_of_ne (by simpa using hp)]
      omega

/-- Something is replaced by something else: the line is another one. -/
theorem replace_other {s f t : Bs} (hf : tok f = true) (h : f ∈ pieces s) (e : replace s f t = s) : f = t := by
  rw [replace, if_pos hf] at e
  have e' : ((pieces s).map (rep f t)).flatten = (pieces s).flatten := by rw [e, (pieces_all s).2]
  have hl := rep_len f t (pieces s)
  rw [e'] at hl
  have hc : 0 < (pieces s).count f := List.count_pos_iff.2 h
  have h0 : ((t.length : Int) - f.length) * ((pieces s).count f : Int) = 0 := by omega
  have : (t.length : Int) - f.length = 0 := by
    rcases Int.mul_eq_zero.1 h0 with h | h
    · exact h
    · omega
  exact (rep_inj_len (by omega) _ e' h).symm

/-- How long the first piece is, by what stands there. -/
theorem run_eq (b : Bool) : ∀ (l : Bs) (n : Nat), n ≤ l.length → (∀ j (h : j < l.length), j < n → tokB l[j] = b) → (∀ h : n < l.length, tokB l[n] ≠ b) → run b l = n
  | [], n, hn, _, _ => by simp at hn; rw [hn]; rfl
  | c :: r, 0, _, _, h2 => by
    have := h2 (by simp)
    rw [run, if_neg (by simpa using this)]
  | c :: r, n + 1, hn, h1, h2 => by
    have h0 : tokB c = b := h1 0 (by simp) (by omega)
    rw [run, if_pos h0, run_eq b r n (by simpa using hn) (fun j hj hjn => h1 (j + 1) (by rw [List.length_cons]; omega) (by omega)) (fun h => h2 (by rw [List.length_cons]; omega))]

theorem firstLen_eq (l : Bs) (n : Nat) (h0 : 0 < n) (hn : n ≤ l.length) (b : Bool) (h1 : ∀ j (h : j < l.length), j < n → tokB l[j] = b) (h2 : ∀ h : n < l.length, tokB l[n] ≠ b) : firstLen l = n := by
  cases l with
  | nil => simp at hn; omega
  | cons c r =>
    obtain ⟨m, rfl⟩ : ∃ m, n = m + 1 := ⟨n - 1, by omega⟩
    have hc : tokB c = b := h1 0 (by simp) (by omega)
    rw [firstLen, hc, run_eq b r m (by simpa using hn) (fun j hj hjn => h1 (j + 1) (by rw [List.length_cons]; omega) (by omega)) (fun h => h2 (by rw [List.length_cons]; omega))]

/-- A token, by its first byte, and how long its first piece is. -/
theorem tok_first {c : UInt8} {r : Bs} : tok (c :: r) = (tokB c && decide (firstLen (c :: r) = (c :: r).length)) := by
  have hf := first_unif (s := c :: r) (by simp)
  rw [List.head_cons] at hf
  by_cases h : firstLen (c :: r) = (c :: r).length
  · rw [h, List.take_length] at hf
    rw [hf.2, decide_eq_true h, Bool.and_true]
  · rw [decide_eq_false h, Bool.and_false]
    cases ht : tok (c :: r)
    · rfl
    · exfalso
      have hall : ∀ d ∈ c :: r, tokB d = true := by
        simp only [tok, Bool.and_eq_true, List.all_eq_true] at ht; exact ht.2
      exact h (firstLen_eq _ _ (by simp) (Nat.le_refl _) true (fun j hj _ => hall _ (List.getElem_mem hj)) (fun h => absurd h (Nat.lt_irrefl _)))

/-- A piece of the line from a place on. -/
theorem pieces_at {s : Bs} {a b : Nat} (hab : a < b) (hb : b ≤ s.length) (k : Bool) (h1 : ∀ j (h : j < s.length), a ≤ j → j < b → tokB s[j] = k) (h2 : ∀ h : b < s.length, tokB s[b] ≠ k) :
    pieces (s.drop a) = (s.drop a).take (b - a) :: pieces (s.drop b) := by
  have hne : s.drop a ≠ [] := fun e => by have := congrArg List.length e; simp at this; omega
  have hl : firstLen (s.drop a) = b - a := firstLen_eq _ _ (by omega) (by simp; omega) k
    (fun j hj hjn => by rw [List.getElem_drop]; exact h1 _ _ (by omega) (by omega))
    (fun h => by rw [List.getElem_drop]; simp only [show a + (b - a) = b by omega]; exact h2 _)
  rw [pieces_cut hne, hl, List.drop_drop, show a + (b - a) = b by omega]

/-- A line of the text from a place on. -/
theorem lns_at {s : Bs} {a b : Nat} (hab : a ≤ b) (hb : b < s.length) (h1 : ∀ j (h : j < s.length), a ≤ j → j < b → s[j] ≠ 10) (h2 : s[b] = 10) :
    lns (s.drop a) = (s.drop a).take (b - a) :: lns (s.drop (b + 1)) := by
  have e : s.drop a = (s.drop a).take (b - a) ++ 10 :: s.drop (b + 1) := by
    have h3 : s.drop b = 10 :: s.drop (b + 1) := by rw [List.drop_eq_getElem_cons hb, h2]
    rw [← h3]
    have := List.take_append_drop (b - a) (s.drop a)
    rw [List.drop_drop, show a + (b - a) = b by omega] at this
    exact this.symm
  have hn : ((s.drop a).take (b - a)).contains 10 = false := by
    rw [Bool.eq_false_iff, ne_eq, List.contains_iff_mem]
    intro hm
    obtain ⟨j, hj, hv⟩ := List.getElem_of_mem hm
    rw [List.getElem_take, List.getElem_drop] at hv
    simp at hj
    exact h1 _ _ (by omega) (by omega) hv
  conv => lhs; rw [e]
  exact lns_cut _ _ hn

theorem good_alt {l : List Bs} : Good l → ∀ i (h : i + 1 < l.length), tok l[i + 1] ≠ tok l[i] := by
  induction l with
  | nil => intro _ i h; simp at h
  | cons p l ih =>
    intro hg i h
    cases l with
    | nil => simp at h
    | cons q r =>
      cases i with
      | zero => exact fun e => hg.2.1 e.symm
      | succ i => exact ih hg.2.2 i (by simp only [List.length_cons] at h ⊢; omega)

theorem good_some {l : List Bs} (h : Good l) : ∀ p ∈ l, p ≠ [] := by
  induction l with
  | nil => intro p hp; cases hp
  | cons q l ih =>
    intro p hp
    obtain ⟨u, g⟩ := good_tail h
    rcases List.mem_cons.1 hp with rfl | hp
    · exact u.1
    · exact ih g p hp

end Go.Proofs.YtbiilnhefoplkaaGreatDoor.Lines

namespace Go.Proofs.YtbiilnhefoplkaaGreatDoor.Lines
open Go.RowKit

/-- w' is w but for the blocks that M names, and for new ones. -/
structure Fr (M : Nat → Prop) (w w' : World) : Prop where
  os : w'.os = w.os
  tape : w'.tape = w.tape
  output : w'.output = w.output
  size : w.heap.size ≤ w'.heap.size
  block : ∀ k, k < w.heap.size → ¬ M k → w'.heap[k]? = w.heap[k]?

def None' : Nat → Prop := fun _ => False

theorem Fr.refl (M : Nat → Prop) (w : World) : Fr M w w := ⟨rfl, rfl, rfl, Nat.le_refl _, fun _ _ _ => rfl⟩

theorem Fr.trans {M M' : Nat → Prop} {a b c : World} (h : Fr M a b) (k : Fr M' b c) (hs : ∀ i, M' i → M i ∨ a.heap.size ≤ i) : Fr M a c :=
  ⟨k.os.trans h.os, k.tape.trans h.tape, k.output.trans h.output, Nat.le_trans h.size k.size, fun i hi hm =>
    (k.block i (Nat.lt_of_lt_of_le hi h.size) (fun e => by rcases hs i e with h1 | h1; exact hm h1; omega)).trans (h.block i hi hm)⟩

theorem Fr.then {M : Nat → Prop} {a b c : World} (h : Fr M a b) (k : Fr M b c) : Fr M a c := h.trans k (fun _ e => Or.inl e)

theorem Fr.mono {M M' : Nat → Prop} {a b : World} (h : Fr M a b) (hs : ∀ i, M i → M' i) : Fr M' a b :=
  ⟨h.os, h.tape, h.output, h.size, fun i hi hm => h.block i hi (fun e => hm (hs i e))⟩

theorem Fr.any {M : Nat → Prop} {a b : World} (h : Fr None' a b) : Fr M a b := h.mono (fun _ e => e.elim)

theorem Fr.alloc (M : Nat → Prop) (w : World) (o : Obj) : Fr M w (w.alloc o) :=
  ⟨rfl, rfl, rfl, by simp, fun k hk _ => Below.heap_alloc _ _ _ hk⟩

theorem Fr.setCell {M : Nat → Prop} (w : World) {a : Addr} (ha : M a.block) (u : Value) : Fr M w (w.setCell a u) :=
  ⟨rfl, rfl, rfl, by simp [World.setCell], fun k _ hm => Below.heap_setCell _ _ _ _ (fun e => hm (e ▸ ha))⟩

theorem Fr.grown {M : Nat → Prop} {w w' : World} {row : Option Nat} (hg : w.grownBy w' row) (hr : ∀ k, row = some k → M k) : Fr M w w' :=
  ⟨hg.os, hg.tape, hg.output, hg.size, fun k hk hm => hg.block k hk (fun e => hm (hr k e.symm))⟩

theorem Fr.drewN (M : Nat → Prop) (w : World) (n : Nat) : Fr M w (w.drewN n) := ⟨rfl, rfl, rfl, Nat.le_refl _, fun _ _ _ => rfl⟩

theorem Fr.setRow {M : Nat → Prop} (w : World) {g : Nat} (hg : M g) (c : Array Value) : Fr M w (w.setRow g c) :=
  ⟨rfl, rfl, rfl, by simp [World.setRow], fun k _ hm => by
    have hne : g ≠ k := fun e => hm (e ▸ hg)
    simp only [World.setRow]
    rw [Array.getElem?_modify, if_neg hne]⟩

theorem Fr.at {M : Nat → Prop} {w w' : World} (h : Fr M w w') {k : Nat} {o : Obj} (ho : w.heap[k]? = some o) (hm : ¬ M k) : w'.heap[k]? = some o := by
  rw [h.block k (Array.getElem?_eq_some_iff.1 ho).1 hm]; exact ho

theorem Fr.below {M : Nat → Prop} {w w' : World} (h : Fr M w w') {B : Nat} (hB : B ≤ w.heap.size) (hM : ∀ k, M k → B ≤ k) : Below B w w' :=
  ⟨h.os, h.tape, h.output, h.size, fun k hk => h.block k (by omega) (fun e => by have := hM k e; omega)⟩

theorem cell_lt {w : World} {a : Addr} {v : Value} (h : w.cell? a = some v) : a.block < w.heap.size := by
  rcases Nat.lt_or_ge a.block w.heap.size with h1 | h1
  · exact h1
  · rw [World.cell?, Array.getElem?_eq_none h1] at h; cases h

theorem Fr.cell {M : Nat → Prop} {w w' : World} (h : Fr M w w') {a : Addr} {v : Value} (hc : w.cell? a = some v) (hm : ¬ M a.block) : w'.cell? a = some v := by
  have := h.block a.block (cell_lt hc) hm
  unfold World.cell? at hc ⊢
  rw [this]; exact hc

theorem Fr.rowIs {M : Nat → Prop} {w w' : World} (h : Fr M w w') {b : Nat} {t : TypeId} {n : Nat} {f : Nat → Value} (hr : w.rowIs b t n f) (hm : ¬ M b) : w'.rowIs b t n f := hr.of_block (h.block b hr.lt hm)

/-- A region that draws its order and whose first n operations only read. -/
theorem region_tail {P : Program} {id : Nat} {Q : Exit → Act → World → Prop} {a : Act} {w : World} {l : List Oper} (n : Nat) (hm : P.follows .mixedOrders = true) (hB : Region.lexTailB .any l.toArray n = true)
    (h : wpStill P l.toArray w.drew (fun a' => wpList P l.toArray Q (l.drop n) a' w.drew) (l.take n) a) : (Code.region id l.toArray true).wp P Q a w := wp_region_still_tail n hm hB h

/-- n cells, cell i holding f i. -/
def arr (n : Nat) (f : Nat → Value) : Array Value := Array.ofFn (fun i : Fin n => f i)

theorem arr_size (n : Nat) (f : Nat → Value) : (arr n f).size = n := by simp [arr]

theorem arr_get (n : Nat) (f : Nat → Value) {i : Nat} (hi : i < n) : (arr n f)[i]? = some (f i) := by
  unfold arr
  rw [Array.getElem?_eq_getElem (by simpa using hi)]
  simp

theorem eq_arr {n : Nat} {f : Nat → Value} {c : Array Value} (hn : c.size = n) (hc : ∀ i, i < n → c[i]? = some (f i)) : c = arr n f := by
  apply Array.ext_getElem?
  intro i
  by_cases hi : i < n
  · rw [hc i hi, arr_get n f hi]
  · rw [Array.getElem?_eq_none (by omega), Array.getElem?_eq_none (by rw [arr_size]; omega)]

theorem rowIs_block {w : World} {b : Nat} {t : TypeId} {n : Nat} {f : Nat → Value} (h : w.rowIs b t n f) : w.heap[b]? = some (.cells (arr n f) t (0, 0)) := by
  obtain ⟨c, hb, hn, hc⟩ := h
  rw [hb, eq_arr hn hc]

theorem rowIs_of {w : World} {b : Nat} {t : TypeId} {n : Nat} {f : Nat → Value} (h : w.heap[b]? = some (.cells (arr n f) t (0, 0))) : w.rowIs b t n f := ⟨_, h, arr_size _ _, fun _ hi => arr_get n f hi⟩

theorem setRow_at {w : World} {g : Nat} {c c' : Array Value} {t : TypeId} (h : w.heap[g]? = some (.cells c t (0, 0))) : (w.setRow g c').heap[g]? = some (.cells c' t (0, 0)) := by
  simp only [World.setRow]
  rw [Array.getElem?_modify]
  simp [h]

theorem rowIs_setRow {w : World} {g : Nat} {t : TypeId} {n : Nat} {f g' : Nat → Value} (h : w.rowIs g t n f) : (w.setRow g (arr n g')).rowIs g t n g' :=
  rowIs_of (setRow_at (rowIs_block h))

/-- A new block that a whole row is stored into. -/
theorem new_row {w w' : World} {c : Array Value} {t : TypeId} {n : Nat} {f : Nat → Value} (_hc : c.size = n) (h : (w.alloc (.cells c t (0, 0))).setRow w.heap.size (arr n f) = w') : w'.rowIs w.heap.size t n f ∧ Fr None' w w' := by
  have e : (w.alloc (.cells c t (0, 0))).heap[w.heap.size]? = some (.cells c t (0, 0)) := heap_alloc_new w _
  subst h
  refine ⟨rowIs_of (setRow_at e), (Fr.alloc None' w _).trans (Fr.setRow (M := fun i => i = w.heap.size) _ rfl _) (fun i e => Or.inr (by omega))⟩

theorem arr_one {n : Nat} {f : Nat → Value} (h : ∀ i, i < n → (f i).oneCell' = true) : (arr n f).all (·.oneCell') = true := by
  rw [Array.all_eq_true_iff_forall_mem]
  intro v hv
  obtain ⟨i, hi, rfl⟩ := Array.getElem_of_mem hv
  have hi' : i < n := by simpa [arr] using hi
  simpa [arr] using h i hi'

/-- A whole array out of a row, into a row, and out of the answer's row. -/
theorem load_arr {P : Program} {ops : Array Oper} {rest : List Oper} {o : Oper} {a : Act} {w : World} {Q : Exit → Act → World → Prop} {ty e : TypeId} {n : Nat} (hu : P.underlying ty = some (.array n e)) (hi : (P.info? ty).map (·.size) = some n)
    (g : Nat) {t : TypeId} {f : Nat → Value} (hr : w.rowIs g t n f) (x : Operand) (ho : o.op = .load ty x) (hgd : o.guard = none) (hx : a.eval x = .pointer (some ⟨g, 0, none⟩))
    (h : wpList P ops Q rest (a.put o.dst (.agg (arr n f))) w) : wpList P ops Q (o :: rest) a w :=
  wpList_load_row hgd ty x ho g hx t _ (0, 0) _ (rowIs_block hr) hu rfl (by rw [arr_size]; exact hi) h

theorem store_arr {P : Program} {ops : Array Oper} {rest : List Oper} {o : Oper} {a : Act} {w : World} {Q : Exit → Act → World → Prop} {ty : TypeId} {n : Nat} (hi : (P.info? ty).map (·.size) = some n)
    (g : Nat) {t : TypeId} {f0 f : Nat → Value} (hr : w.rowIs g t n f0) (h1 : ∀ i, i < n → (f i).oneCell' = true) (x y : Operand) (ho : o.op = .store ty x y) (hgd : o.guard = none) (hx : a.eval x = .pointer (some ⟨g, 0, none⟩)) (hy : a.eval y = .agg (arr n f)) (hd : o.dst = none)
    (h : wpList P ops Q rest a (w.setRow g (arr n f))) : wpList P ops Q (o :: rest) a w :=
  wpList_store_row hgd ty x y ho g _ hx hy t _ (rowIs_block hr) (by rw [arr_size]; exact hi) (by rw [arr_size, arr_size]) (arr_one h1) (by rw [hd]; exact h)

theorem result_arr {P : Program} {fn : Func} {p : Tmp} {ty e : TypeId} {n : Nat} (hu : P.underlying ty = some (.array n e)) (hi : (P.info? ty).map (·.size) = some n) (h : fn.results = #[.cell p ty]) (tmps : Array Value) {w : World} {g : Nat} {t : TypeId} {f : Nat → Value}
    (hp : tmps.getD p undef = .pointer (some ⟨g, 0, none⟩)) (hr : w.rowIs g t n f) : (results fn tmps).run P w = .ok (.agg (arr n f)) w :=
  results_cell_row h tmps w g t _ (0, 0) _ hp (rowIs_block hr) hu rfl (by rw [arr_size]; exact hi)

/-- Numbers of 32 bits in a row; bytes in a row. -/
def n32 (f : Nat → Int) : Nat → Value := fun i => .int .u32 (f i)
def n8 (f : Nat → Int) : Nat → Value := fun i => .int .u8 (f i)

end Go.Proofs.YtbiilnhefoplkaaGreatDoor.Lines
