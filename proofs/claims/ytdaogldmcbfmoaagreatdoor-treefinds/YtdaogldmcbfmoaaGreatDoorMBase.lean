/-
  What is proved here: plain lemmas on worlds of which a few blocks turn, on lists of named files, and on the maps that hold such lists. No condition.
-/
import Derived.Maps.RangeWalk
import Derived.Maps.AppendAt
import Derived.WalkKit
import Derived.WalkSpells
namespace Go.Proofs.YtdaogldmcbfmoaaGreatDoor
open Go.RowKit Go.Maps

/-- w' is w but for the blocks that M names, and for new ones. -/
structure Fr (M : Nat → Prop) (w w' : World) : Prop where
  os : w'.os = w.os
  tape : w'.tape = w.tape
  output : w'.output = w.output
  size : w.heap.size ≤ w'.heap.size
  block : ∀ k, k < w.heap.size → ¬ M k → w'.heap[k]? = w.heap[k]?

theorem Fr.refl (M : Nat → Prop) (w : World) : Fr M w w := ⟨rfl, rfl, rfl, Nat.le_refl _, fun _ _ _ => rfl⟩

theorem Fr.trans {M M' : Nat → Prop} {a b c : World} (h : Fr M a b) (k : Fr M' b c) (hs : ∀ i, M' i → M i ∨ a.heap.size ≤ i) : Fr M a c :=
  ⟨k.os.trans h.os, k.tape.trans h.tape, k.output.trans h.output, Nat.le_trans h.size k.size, fun i hi hm =>
    (k.block i (Nat.lt_of_lt_of_le hi h.size) (fun e => by rcases hs i e with h1 | h1; exact hm h1; omega)).trans (h.block i hi hm)⟩

theorem Fr.mono {M M' : Nat → Prop} {a b : World} (h : Fr M a b) (hs : ∀ i, M i → M' i) : Fr M' a b :=
  ⟨h.os, h.tape, h.output, h.size, fun i hi hm => h.block i hi (fun e => hm (hs i e))⟩

theorem Fr.alloc (M : Nat → Prop) (w : World) (o : Obj) : Fr M w (w.alloc o) :=
  ⟨rfl, rfl, rfl, by simp, fun k hk _ => Below.heap_alloc _ _ _ hk⟩

theorem Fr.setCell {M : Nat → Prop} (w : World) {a : Addr} (ha : M a.block) (u : Value) : Fr M w (w.setCell a u) :=
  ⟨rfl, rfl, rfl, by simp [World.setCell], fun k _ hm => Below.heap_setCell _ _ _ _ (fun e => hm (e ▸ ha))⟩

theorem Fr.grown {M : Nat → Prop} {w w' : World} {row : Option Nat} (hg : w.grownBy w' row) (hr : ∀ k, row = some k → M k) : Fr M w w' :=
  ⟨hg.os, hg.tape, hg.output, hg.size, fun k hk hm => hg.block k hk (fun e => hm (hr k e.symm))⟩

theorem Fr.turned {M : Nat → Prop} {w w' : World} {b : Nat} (ht : w.mapTurned w' b) (hb : M b) : Fr M w w' :=
  Fr.grown ht.grown (fun k e => by cases e; exact hb)

theorem Fr.drew (M : Nat → Prop) (w : World) : Fr M w w.drew := ⟨rfl, rfl, rfl, Nat.le_refl _, fun _ _ _ => rfl⟩

theorem Fr.below {M : Nat → Prop} {w w' : World} (h : Fr M w w') {B : Nat} (hB : B ≤ w.heap.size) (hM : ∀ k, M k → B ≤ k) : Below B w w' :=
  ⟨h.os, h.tape, h.output, h.size, fun k hk => h.block k (by omega) (fun e => by have := hM k e; omega)⟩

theorem Fr.of_below {B : Nat} {M : Nat → Prop} {w w' : World} (h : Below B w w') (hM : ∀ k, B ≤ k → k < w.heap.size → M k) : Fr M w w' :=
  ⟨h.os, h.tape, h.output, h.size, fun k hk hm => h.block k (by
    rcases Nat.lt_or_ge k B with h1 | h1
    · exact h1
    · exact absurd (hM k h1 hk) hm)⟩

theorem Fr.at {M : Nat → Prop} {w w' : World} (h : Fr M w w') {k : Nat} {o : Obj} (ho : w.heap[k]? = some o) (hm : ¬ M k) : w'.heap[k]? = some o := by
  rw [h.block k (Array.getElem?_eq_some_iff.1 ho).1 hm]; exact ho

theorem Fr.map {M : Nat → Prop} {w w' : World} (h : Fr M w w') {H : Type} {P : Program} {k : TypeId} {R : Value → Option (DataW H × List MemPlace)} {b n : Nat} {D : DataW H} (hm : w.ownsMap P k R b n D) (hb : ¬ M b) : w'.ownsMap P k R b n D := by
  obtain ⟨es, clock, h1, r⟩ := hm
  exact ⟨es, clock, h.at h1 hb, r⟩

theorem Fr.row {M : Nat → Prop} {w w' : World} (h : Fr M w w') {base : Nat} {e : TypeId} {size : Nat} {v : Value} {n : Nat} {xs : List Value} (hr : w.ownsRow base e size v n xs) (hb : ∀ g, v.ownBlock = some g → ¬ M g) : w'.ownsRow base e size v n xs := by
  obtain ⟨h1, h2⟩ := hr
  refine ⟨h1, ?_⟩
  rcases h2 with h2 | ⟨g, cap, cur, hv, hg, hh, r⟩
  · exact Or.inl h2
  · exact Or.inr ⟨g, cap, cur, hv, hg, h.at hh (hb g (by rw [hv]; rfl)), r⟩

theorem lt_of_some {w : World} {k : Nat} {o : Obj} (ho : w.heap[k]? = some o) : k < w.heap.size := (Array.getElem?_eq_some_iff.1 ho).1

/-! ### files by their names -/

/-- A named file: its name's bytes, the slice that holds it, its bytes. -/
structure Tri where
  k : List UInt8
  v : Value
  b : List UInt8

def ent (t : Tri) : Lit × DataW Value := (.string t.k, .held t.v)
def toD (T : List Tri) : DataW Value := .map (T.map ent)
def ins (x : Tri) : List Tri → List Tri
  | [] => [x]
  | y :: r => if Lit.before (.string x.k) (.string y.k) then x :: y :: r else y :: ins x r
def del (T : List Tri) (k : List UInt8) : List Tri := T.filter (fun t => !(t.k == k))
def put (T : List Tri) (x : Tri) : List Tri := ins x (del T x.k)
def get (T : List Tri) (k : List UInt8) : Option Tri := T.find? (fun t => t.k == k)
def used (T : List Tri) : Nat := (T.map (fun t => t.b.length)).sum

/-- How an element of the map reads: as the slice that it is. -/
def heldR : Value → Option (DataW Value × List MemPlace)
  | .slice a n c => some (.held (.slice a n c), [])
  | _ => none

theorem heldR_inv {v : Value} {y : DataW Value × List MemPlace} (h : heldR v = some y) : ∃ c : Option Addr × Nat × Nat, v = .slice c.1 c.2.1 c.2.2 := by
  cases v <;> simp [heldR] at h
  rename_i a n c
  exact ⟨(a, n, c), rfl⟩

theorem heldR_eq {v : Value} {d : DataW Value} {ps : List MemPlace} (h : heldR v = some (d, ps)) : d = .held v := by
  cases v <;> simp [heldR] at h
  exact h.1.symm

theorem ent_insert (x : Tri) : ∀ T : List Tri, (ins x T).map ent = DataW.insert (ent x) (T.map ent)
  | [] => rfl
  | y :: r => by
    simp only [ins, List.map_cons, DataW.insert]
    have e : (ent x).1.before (ent y).1 = Lit.before (.string x.k) (.string y.k) := rfl
    rw [e]
    split
    · rfl
    · simp [ent_insert x r]

theorem ent_filter (T : List Tri) (k : List UInt8) : (del T k).map ent = (T.map ent).filter (fun p => !p.1.sameKey (.string k)) := by
  unfold del
  rw [List.filter_map]
  rfl

theorem toD_del (T : List Tri) (k : List UInt8) : (toD T).del (.string k) = toD (del T k) := by
  unfold toD
  rw [ent_filter]
  rfl

theorem toD_put (T : List Tri) (x : Tri) : (toD T).put (.string x.k) (.held x.v) = toD (put T x) := by
  unfold toD put
  rw [ent_insert, ent_filter]
  rfl

theorem has_toD (T : List Tri) (k : List UInt8) : Maps.has (toD T) (.string k) = (get T k).isSome := by
  unfold toD get
  rw [Maps.has_eq, List.any_map]
  have e : ((fun p : Lit × DataW Value => p.fst.sameKey (Lit.string k)) ∘ ent) = fun t : Tri => t.k == k := rfl
  rw [e]
  induction T with
  | nil => rfl
  | cons x r ih =>
    rw [List.any_cons, List.find?_cons]
    cases hx : (x.k == k)
    · simpa using ih
    · simp

theorem find_map {α β : Type} (f : α → β) (p : β → Bool) : ∀ l : List α, (l.map f).find? p = (l.find? (fun x => p (f x))).map f
  | [] => rfl
  | x :: r => by
    simp only [List.map_cons, List.find?_cons]
    cases p (f x) <;> simp [find_map f p r]

theorem atKey_toD (T : List Tri) (k : List UInt8) (z : DataW Value) : (toD T).atKey (.string k) z = (match get T k with | some t => .held t.v | none => z) := by
  unfold toD DataW.atKey get
  simp only
  rw [find_map]
  have e : (fun x => (ent x).1.sameKey (.string k)) = fun t : Tri => t.k == k := rfl
  rw [e]
  cases T.find? (fun t => t.k == k) <;> rfl

theorem size_toD (T : List Tri) : Maps.size (toD T) = T.length := by simp [toD, Maps.size]

def Apart (T : List Tri) : Prop := T.Pairwise (fun a b => a.k ≠ b.k)

theorem apart_of_tidy {T : List Tri} (h : Tidy (toD T)) : Apart T := by
  obtain ⟨es, e, hp⟩ := h
  cases e
  rw [List.pairwise_map] at hp
  exact hp.imp (fun {a b} hne e => hne (by simp [ent, e]))

theorem get_mem {T : List Tri} {k : List UInt8} {t : Tri} (h : get T k = some t) : t ∈ T ∧ t.k = k := by
  refine ⟨List.mem_of_find?_eq_some h, ?_⟩
  have := List.find?_some h
  simpa using this

theorem get_of_mem {T : List Tri} (hA : Apart T) {t : Tri} (h : t ∈ T) : get T t.k = some t := by
  unfold get
  induction T with
  | nil => simp at h
  | cons x r ih =>
    obtain ⟨h1, h2⟩ := List.pairwise_cons.1 hA
    rcases List.mem_cons.1 h with rfl | h'
    · simp
    · have hne : (x.k == t.k) = false := by simpa using h1 t h'
      rw [List.find?_cons, hne]
      exact ih h2 h'

theorem mem_ins {x y : Tri} : ∀ {T : List Tri}, y ∈ ins x T ↔ y = x ∨ y ∈ T
  | [] => by simp [ins]
  | z :: r => by
    unfold ins
    split
    · simp
    · simp only [List.mem_cons, mem_ins (T := r)]
      constructor
      · rintro (h | h | h)
        · exact Or.inr (Or.inl h)
        · exact Or.inl h
        · exact Or.inr (Or.inr h)
      · rintro (h | h | h)
        · exact Or.inr (Or.inl h)
        · exact Or.inl h
        · exact Or.inr (Or.inr h)

theorem mem_del {T : List Tri} {k : List UInt8} {y : Tri} : y ∈ del T k ↔ y ∈ T ∧ y.k ≠ k := by simp [del]

theorem mem_put {T : List Tri} {x y : Tri} : y ∈ put T x ↔ y = x ∨ (y ∈ T ∧ y.k ≠ x.k) := by
  unfold put; rw [mem_ins, mem_del]

theorem get_put_same (T : List Tri) (x : Tri) : get (put T x) x.k = some x := by
  unfold get put
  have : ∀ l : List Tri, (∀ t ∈ l, (t.k == x.k) = false) → (ins x l).find? (fun t => t.k == x.k) = some x := by
    intro l
    induction l with
    | nil => intro _; simp [ins]
    | cons y r ih =>
      intro h
      unfold ins
      split
      · simp
      · rw [List.find?_cons, h y (by simp)]
        exact ih (fun t ht => h t (by simp [ht]))
  exact this _ (fun t ht => by simpa using (mem_del.1 ht).2)

theorem get_ins_other {x : Tri} {k : List UInt8} (hk : x.k ≠ k) : ∀ T : List Tri, get (ins x T) k = get T k
  | [] => by simp [get, ins, hk]
  | y :: r => by
    unfold ins
    split
    · simp [get, List.find?_cons, hk]
    · have := get_ins_other hk r
      unfold get at this ⊢
      rw [List.find?_cons, List.find?_cons, this]

theorem get_del_other {T : List Tri} {k k' : List UInt8} (h : k' ≠ k) : get (del T k) k' = get T k' := by
  unfold get del
  rw [List.find?_filter]
  congr 1
  funext t
  by_cases e : t.k = k'
  · simp [e, h]
  · simp [e]

theorem get_del_same (T : List Tri) (k : List UInt8) : get (del T k) k = none := by
  unfold get
  rw [List.find?_eq_none]
  intro t ht
  simpa using (mem_del.1 ht).2

theorem get_put_other {T : List Tri} {x : Tri} {k : List UInt8} (h : k ≠ x.k) : get (put T x) k = get T k := by
  unfold put
  rw [get_ins_other (Ne.symm h), get_del_other h]

theorem used_ins (x : Tri) : ∀ T : List Tri, used (ins x T) = x.b.length + used T
  | [] => by simp [used, ins]
  | y :: r => by
    unfold ins
    split
    · simp [used]
    · have := used_ins x r
      simp [used] at this ⊢
      omega

theorem used_del {T : List Tri} (hA : Apart T) (k : List UInt8) : used (del T k) + (match get T k with | some t => t.b.length | none => 0) = used T := by
  induction T with
  | nil => rfl
  | cons x r ih =>
    obtain ⟨h1, h2⟩ := List.pairwise_cons.1 hA
    have := ih h2
    by_cases e : x.k = k
    · have hg : get r k = none := by
        unfold get; rw [List.find?_eq_none]; intro t ht
        have := h1 t ht
        simpa [← e] using Ne.symm this
      rw [hg] at this
      have hd : del (x :: r) k = del r k := by simp [del, e]
      have hx : get (x :: r) k = some x := by simp [get, e]
      rw [hd, hx]
      simp [used] at this ⊢
      omega
    · have hd : del (x :: r) k = x :: del r k := by simp [del, e]
      have hx : get (x :: r) k = get r k := by
        have e' : (x.k == k) = false := by simpa using e
        simp only [get, List.find?_cons, e']
      rw [hd, hx]
      simp [used] at this ⊢
      omega

/-- What the files that a range has met have together. -/
def met (left : Lit → Bool) (T : List Tri) : Nat := ((T.filter (fun t => !left (.string t.k))).map (fun t => t.b.length)).sum

theorem met_start {T : List Tri} : met (Maps.has (toD T)) T = 0 := by
  unfold met
  rw [List.filter_eq_nil_iff.2]
  · rfl
  · intro t ht
    rw [has_toD]
    have : (get T t.k).isSome = true := by
      unfold get; rw [List.find?_isSome]; exact ⟨t, ht, by simp⟩
    simp [this]

theorem met_end {left : Lit → Bool} {T : List Tri} (h : ∀ kl, left kl = false) : met left T = used T := by
  unfold met used
  rw [List.filter_eq_self.2]
  intro t _
  simp [h]

theorem met_step {left : Lit → Bool} : ∀ {T : List Tri}, Apart T → ∀ {t : Tri}, t ∈ T → left (.string t.k) = true →
    met (fun z => left z && !z.sameKey (.string t.k)) T = met left T + t.b.length
  | [], _, t, ht, _ => by simp at ht
  | x :: r, hA, t, ht, hl => by
    obtain ⟨h1, h2⟩ := List.pairwise_cons.1 hA
    rcases List.mem_cons.1 ht with rfl | h'
    · have e : r.filter (fun z => !(left (.string z.k) && !(Lit.string z.k).sameKey (.string t.k))) = r.filter (fun z => !left (.string z.k)) := by
        apply List.filter_congr
        intro z hz
        have : (Lit.string z.k).sameKey (.string t.k) = false := Maps.sameKey_ne (fun e => h1 z hz (by injection e with e; exact e.symm))
        rw [this]; simp
      have hs : (Lit.string t.k).sameKey (.string t.k) = true := by simp [Lit.sameKey]
      unfold met
      rw [List.filter_cons, List.filter_cons, e]
      simp [hl, hs]
      omega
    · have hne : (Lit.string x.k).sameKey (.string t.k) = false := Maps.sameKey_ne (fun e => h1 t h' (by injection e))
      have := met_step h2 h' hl
      unfold met at this ⊢
      rw [List.filter_cons, List.filter_cons]
      simp only [hne]
      cases left (.string x.k) <;> simp at this ⊢ <;> omega

end Go.Proofs.YtdaogldmcbfmoaaGreatDoor
