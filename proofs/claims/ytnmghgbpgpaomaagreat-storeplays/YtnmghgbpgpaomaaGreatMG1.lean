/-
  What is proved here: the program's disk: what lies in memory, and what each call does to it. Conditions: as each theorem names them.
-/
import Derived.Maps.RangeWalk
import Derived.Maps.AppendAt
import Derived.WalkKit
import Derived.WalkSpells
import Derived.Test.YtnmghgbpgpaomaaGreatRows
import Derived.Deep.RegionHeld3
import Derived.Laws.IdiomStrings
namespace Go.Proofs.YtnmghgbpgpaomaaGreat
open Go.RowKit Go.Maps

/-- w' is w but for the blocks that M names, and for new ones. -/
structure Fr (M : Nat → Prop) (w w' : World) : Prop where
  os : w'.os = w.os
  tape : w'.tape = w.tape
  output : w'.output = w.output
  size : w.heap.size ≤ w'.heap.size
  block : ∀ k, k < w.heap.size → ¬ M k → w'.heap[k]? = w.heap[k]?

theorem Fr.refl (M : Nat → Prop) (w : World) : Fr M w w := ⟨rfl, rfl, rfl, Nat.le_refl _, fun _ _ _ => rfl⟩

theorem Fr.trans {M M' : Nat → Prop} {a b c : World} (h : Fr M a b) (k : Fr M' b c) (hs : ∀ i, M' i → M i ∨ a.heap.size ≤ i) : Fr M a c :=
  ⟨k.os.trans h.os, k.tape.trans h.tape, k.output.trans h.output, Nat.le_trans h.size k.size, fun i hi hm =>
    (k.block i (Nat.lt_of_lt_of_le hi h.size) (fun e => by rcases hs i e with h1 | h1; exact hm h1; omega)).trans (h.block i hi hm)⟩

theorem Fr.mono {M M' : Nat → Prop} {a b : World} (h : Fr M a b) (hs : ∀ i, M i → M' i) : Fr M' a b :=
  ⟨h.os, h.tape, h.output, h.size, fun i hi hm => h.block i hi (fun e => hm (hs i e))⟩

theorem Fr.alloc (M : Nat → Prop) (w : World) (o : Obj) : Fr M w (w.alloc o) :=
  ⟨rfl, rfl, rfl, by simp, fun k hk _ => Below.heap_alloc _ _ _ hk⟩

theorem Fr.setCell {M : Nat → Prop} (w : World) {a : Addr} (ha : M a.block) (u : Value) : Fr M w (w.setCell a u) :=
  ⟨rfl, rfl, rfl, by simp [World.setCell], fun k _ hm => Below.heap_setCell _ _ _ _ (fun e => hm (e ▸ ha))⟩

theorem Fr.grown {M : Nat → Prop} {w w' : World} {row : Option Nat} (hg : w.grownBy w' row) (hr : ∀ k, row = some k → M k) : Fr M w w' :=
  ⟨hg.os, hg.tape, hg.output, hg.size, fun k hk hm => hg.block k hk (fun e => hm (hr k e.symm))⟩

theorem Fr.turned {M : Nat → Prop} {w w' : World} {b : Nat} (ht : w.mapTurned w' b) (hb : M b) : Fr M w w' :=
  Fr.grown ht.grown (fun k e => by cases e; exact hb)

theorem Fr.drew (M : Nat → Prop) (w : World) : Fr M w w.drew := ⟨rfl, rfl, rfl, Nat.le_refl _, fun _ _ _ => rfl⟩

theorem Fr.below {M : Nat → Prop} {w w' : World} (h : Fr M w w') {B : Nat} (hB : B ≤ w.heap.size) (hM : ∀ k, M k → B ≤ k) : Below B w w' :=
  ⟨h.os, h.tape, h.output, h.size, fun k hk => h.block k (by omega) (fun e => by have := hM k e; omega)⟩

theorem Fr.of_below {B : Nat} {M : Nat → Prop} {w w' : World} (h : Below B w w') (hM : ∀ k, B ≤ k → k < w.heap.size → M k) : Fr M w w' :=
  ⟨h.os, h.tape, h.output, h.size, fun k hk hm => h.block k (by
    rcases Nat.lt_or_ge k B with h1 | h1
    · exact h1
    · exact absurd (hM k h1 hk) hm)⟩

theorem Fr.at {M : Nat → Prop} {w w' : World} (h : Fr M w w') {k : Nat} {o : Obj} (ho : w.heap[k]? = some o) (hm : ¬ M k) : w'.heap[k]? = some o := by
  rw [h.block k (Array.getElem?_eq_some_iff.1 ho).1 hm]; exact ho

theorem Fr.map {M : Nat → Prop} {w w' : World} (h : Fr M w w') {H : Type} {P : Program} {k : TypeId} {R : Value → Option (DataW H × List MemPlace)} {b n : Nat} {D : DataW H} (hm : w.ownsMap P k R b n D) (hb : ¬ M b) : w'.ownsMap P k R b n D := by
  obtain ⟨es, clock, h1, r⟩ := hm
  exact ⟨es, clock, h.at h1 hb, r⟩

theorem Fr.row {M : Nat → Prop} {w w' : World} (h : Fr M w w') {base : Nat} {e : TypeId} {size : Nat} {v : Value} {n : Nat} {xs : List Value} (hr : w.ownsRow base e size v n xs) (hb : ∀ g, v.ownBlock = some g → ¬ M g) : w'.ownsRow base e size v n xs := by
  obtain ⟨h1, h2⟩ := hr
  refine ⟨h1, ?_⟩
  rcases h2 with h2 | ⟨g, cap, cur, hv, hg, hh, r⟩
  · exact Or.inl h2
  · exact Or.inr ⟨g, cap, cur, hv, hg, h.at hh (hb g (by rw [hv]; rfl)), r⟩

theorem lt_of_some {w : World} {k : Nat} {o : Obj} (ho : w.heap[k]? = some o) : k < w.heap.size := (Array.getElem?_eq_some_iff.1 ho).1

/-! ### files by their names -/

/-- A named file: its name's bytes, the slice that holds it, its bytes. -/
structure Tri where
  k : List UInt8
  v : Value
  b : List UInt8

def ent (t : Tri) : Lit × DataW Value := (.string t.k, .held t.v)
def toD (T : List Tri) : DataW Value := .map (T.map ent)
def ins (x : Tri) : List Tri → List Tri
  | [] => [x]
  | y :: r => if Lit.before (.string x.k) (.string y.k) then x :: y :: r else y :: ins x r
def del (T : List Tri) (k : List UInt8) : List Tri := T.filter (fun t => !(t.k == k))
def put (T : List Tri) (x : Tri) : List Tri := ins x (del T x.k)
def get (T : List Tri) (k : List UInt8) : Option Tri := T.find? (fun t => t.k == k)
def used (T : List Tri) : Nat := (T.map (fun t => t.b.length)).sum

/-- How an element of the map reads: as the slice that it is. -/
def heldR : Value → Option (DataW Value × List MemPlace)
  | .slice a n c => some (.held (.slice a n c), [])
  | _ => none

theorem heldR_inv {v : Value} {y : DataW Value × List MemPlace} (h : heldR v = some y) : ∃ c : Option Addr × Nat × Nat, v = .slice c.1 c.2.1 c.2.2 := by
  cases v <;> simp [heldR] at h
  rename_i a n c
  exact ⟨(a, n, c), rfl⟩

theorem heldR_eq {v : Value} {d : DataW Value} {ps : List MemPlace} (h : heldR v = some (d, ps)) : d = .held v := by
  cases v <;> simp [heldR] at h
  exact h.1.symm

theorem ent_insert (x : Tri) : ∀ T : List Tri, (ins x T).map ent = DataW.insert (ent x) (T.map ent)
  | [] => rfl
  | y :: r => by
    simp only [ins, List.map_cons, DataW.insert]
    have e : (ent x).1.before (ent y).1 = Lit.before (.string x.k) (.string y.k) := rfl
    rw [e]
    split
    · rfl
    · simp [ent_insert x r]

theorem ent_filter (T : List Tri) (k : List UInt8) : (del T k).map ent = (T.map ent).filter (fun p => !p.1.sameKey (.string k)) := by
  unfold del
  rw [List.filter_map]
  rfl

theorem toD_del (T : List Tri) (k : List UInt8) : (toD T).del (.string k) = toD (del T k) := by
  unfold toD
  rw [ent_filter]
  rfl

theorem toD_put (T : List Tri) (x : Tri) : (toD T).put (.string x.k) (.held x.v) = toD (put T x) := by
  unfold toD put
  rw [ent_insert, ent_filter]
  rfl

theorem has_toD (T : List Tri) (k : List UInt8) : Maps.has (toD T) (.string k) = (get T k).isSome := by
  unfold toD get
  rw [Maps.has_eq, List.any_map]
  have e : ((fun p : Lit × DataW Value => p.fst.sameKey (Lit.string k)) ∘ ent) = fun t : Tri => t.k == k := rfl
  rw [e]
  induction T with
  | nil => rfl
  | cons x r ih =>
    rw [List.any_cons, List.find?_cons]
    cases hx : (x.k == k)
    · simpa using ih
    · simp

theorem find_map {α β : Type} (f : α → β) (p : β → Bool) : ∀ l : List α, (l.map f).find? p = (l.find? (fun x => p (f x))).map f
  | [] => rfl
  | x :: r => by
    simp only [List.map_cons, List.find?_cons]
    cases p (f x) <;> simp [find_map f p r]

theorem atKey_toD (T : List Tri) (k : List UInt8) (z : DataW Value) : (toD T).atKey (.string k) z = (match get T k with | some t => .held t.v | none => z) := by
  unfold toD DataW.atKey get
  simp only
  rw [find_map]
  have e : (fun x => (ent x).1.sameKey (.string k)) = fun t : Tri => t.k == k := rfl
  rw [e]
  cases T.find? (fun t => t.k == k) <;> rfl

theorem size_toD (T : List Tri) : Maps.size (toD T) = T.length := by simp [toD, Maps.size]

def Apart (T : List Tri) : Prop := T.Pairwise (fun a b => a.k ≠ b.k)

theorem apart_of_tidy {T : List Tri} (h : Tidy (toD T)) : Apart T := by
  obtain ⟨es, e, hp⟩ := h
  cases e
  rw [List.pairwise_map] at hp
  exact hp.imp (fun {a b} hne e => hne (by simp [ent, e]))

theorem get_mem {T : List Tri} {k : List UInt8} {t : Tri} (h : get T k = some t) : t ∈ T ∧ t.k = k := by
  refine ⟨List.mem_of_find?_eq_some h, ?_⟩
  have := List.find?_some h
  simpa using this

theorem get_of_mem {T : List Tri} (hA : Apart T) {t : Tri} (h : t ∈ T) : get T t.k = some t := by
  unfold get
  induction T with
  | nil => simp at h
  | cons x r ih =>
    obtain ⟨h1, h2⟩ := List.pairwise_cons.1 hA
    rcases List.mem_cons.1 h with rfl | h'
    · simp
    · have hne : (x.k == t.k) = false := by simpa using h1 t h'
      rw [List.find?_cons, hne]
      exact ih h2 h'

theorem mem_ins {x y : Tri} : ∀ {T : List Tri}, y ∈ ins x T ↔ y = x ∨ y ∈ T
  | [] => by simp [ins]
  | z :: r => by
    unfold ins
    split
    · simp
    · simp only [List.mem_cons, mem_ins (T := r)]
      constructor
      · rintro (h | h | h)
        · exact Or.inr (Or.inl h)
        · exact Or.inl h
        · exact Or.inr (Or.inr h)
      · rintro (h | h | h)
        · exact Or.inr (Or.inl h)
        · exact Or.inl h
        · exact Or.inr (Or.inr h)

theorem mem_del {T : List Tri} {k : List UInt8} {y : Tri} : y ∈ del T k ↔ y ∈ T ∧ y.k ≠ k := by simp [del]

theorem mem_put {T : List Tri} {x y : Tri} : y ∈ put T x ↔ y = x ∨ (y ∈ T ∧ y.k ≠ x.k) := by
  unfold put; rw [mem_ins, mem_del]

theorem get_put_same (T : List Tri) (x : Tri) : get (put T x) x.k = some x := by
  unfold get put
  have : ∀ l : List Tri, (∀ t ∈ l, (t.k == x.k) = false) → (ins x l).find? (fun t => t.k == x.k) = some x := by
    intro l
    induction l with
    | nil => intro _; simp [ins]
    | cons y r ih =>
      intro h
      unfold ins
      split
      · simp
      · rw [List.find?_cons, h y (by simp)]
        exact ih (fun t ht => h t (by simp [ht]))
  exact this _ (fun t ht => by simpa using (mem_del.1 ht).2)

theorem get_ins_other {x : Tri} {k : List UInt8} (hk : x.k ≠ k) : ∀ T : List Tri, get (ins x T) k = get T k
  | [] => by simp [get, ins, hk]
  | y :: r => by
    unfold ins
    split
    · simp [get, List.find?_cons, hk]
    · have := get_ins_other hk r
      unfold get at this ⊢
      rw [List.find?_cons, List.find?_cons, this]

theorem get_del_other {T : List Tri} {k k' : List UInt8} (h : k' ≠ k) : get (del T k) k' = get T k' := by
  unfold get del
  rw [List.find?_filter]
  congr 1
  funext t
  by_cases e : t.k = k'
  · simp [e, h]
  · simp [e]

theorem get_del_same (T : List Tri) (k : List UInt8) : get (del T k) k = none := by
  unfold get
  rw [List.find?_eq_none]
  intro t ht
  simpa using (mem_del.1 ht).2

theorem get_put_other {T : List Tri} {x : Tri} {k : List UInt8} (h : k ≠ x.k) : get (put T x) k = get T k := by
  unfold put
  rw [get_ins_other (Ne.symm h), get_del_other h]

theorem used_ins (x : Tri) : ∀ T : List Tri, used (ins x T) = x.b.length + used T
  | [] => by simp [used, ins]
  | y :: r => by
    unfold ins
    split
    · simp [used]
    · have := used_ins x r
      simp [used] at this ⊢
      omega

theorem used_del {T : List Tri} (hA : Apart T) (k : List UInt8) : used (del T k) + (match get T k with | some t => t.b.length | none => 0) = used T := by
  induction T with
  | nil => rfl
  | cons x r ih =>
    obtain ⟨h1, h2⟩ := List.pairwise_cons.1 hA
    have := ih h2
    by_cases e : x.k = k
    · have hg : get r k = none := by
        unfold get; rw [List.find?_eq_none]; intro t ht
        have := h1 t ht
        simpa [← e] using Ne.symm this
      rw [hg] at this
      have hd : del (x :: r) k = del r k := by simp [del, e]
      have hx : get (x :: r) k = some x := by simp [get, e]
      rw [hd, hx]
      simp [used] at this ⊢
      omega
    · have hd : del (x :: r) k = x :: del r k := by simp [del, e]
      have hx : get (x :: r) k = get r k := by
        have e' : (x.k == k) = false := by simpa using e
        simp only [get, List.find?_cons, e']
      rw [hd, hx]
      simp [used] at this ⊢
      omega

/-- What the files that a range has met have together. -/
def met (left : Lit → Bool) (T : List Tri) : Nat := ((T.filter (fun t => !left (.string t.k))).map (fun t => t.b.length)).sum

theorem met_start {T : List Tri} : met (Maps.has (toD T)) T = 0 := by
  unfold met
  rw [List.filter_eq_nil_iff.2]
  · rfl
  · intro t ht
    rw [has_toD]
    have : (get T t.k).isSome = true := by
      unfold get; rw [List.find?_isSome]; exact ⟨t, ht, by simp⟩
    simp [this]

theorem met_end {left : Lit → Bool} {T : List Tri} (h : ∀ kl, left kl = false) : met left T = used T := by
  unfold met used
  rw [List.filter_eq_self.2]
  intro t _
  simp [h]

theorem met_step {left : Lit → Bool} : ∀ {T : List Tri}, Apart T → ∀ {t : Tri}, t ∈ T → left (.string t.k) = true →
    met (fun z => left z && !z.sameKey (.string t.k)) T = met left T + t.b.length
  | [], _, t, ht, _ => by simp at ht
  | x :: r, hA, t, ht, hl => by
    obtain ⟨h1, h2⟩ := List.pairwise_cons.1 hA
    rcases List.mem_cons.1 ht with rfl | h'
    · have e : r.filter (fun z => !(left (.string z.k) && !(Lit.string z.k).sameKey (.string t.k))) = r.filter (fun z => !left (.string z.k)) := by
        apply List.filter_congr
        intro z hz
        have : (Lit.string z.k).sameKey (.string t.k) = false := Maps.sameKey_ne (fun e => h1 z hz (by injection e with e; exact e.symm))
        rw [this]; simp
      have hs : (Lit.string t.k).sameKey (.string t.k) = true := by simp [Lit.sameKey]
      unfold met
      rw [List.filter_cons, List.filter_cons, e]
      simp [hl, hs]
      omega
    · have hne : (Lit.string x.k).sameKey (.string t.k) = false := Maps.sameKey_ne (fun e => h1 t h' (by injection e))
      have := met_step h2 h' hl
      unfold met at this ⊢
      rw [List.filter_cons, List.filter_cons]
      simp only [hne]
      cases left (.string x.k) <;> simp at this ⊢ <;> omega

end Go.Proofs.YtnmghgbpgpaomaaGreat

namespace Go.Proofs.YtnmghgbpgpaomaaGreat
open Go.RowKit Go.Maps

/-- A change, as plain data: a name is written, renamed or removed. -/
abbrev Ch : Type := Sum Tri (Sum (List UInt8 × List UInt8) (List UInt8))
abbrev Ch.wr (t : Tri) : Ch := Sum.inl t
abbrev Ch.mv (a b : List UInt8) : Ch := Sum.inr (Sum.inl (a, b))
abbrev Ch.rm (k : List UInt8) : Ch := Sum.inr (Sum.inr k)

theorem Ch.three (c : Ch) : (∃ t, c = Ch.wr t) ∨ (∃ a b, c = Ch.mv a b) ∨ (∃ k, c = Ch.rm k) := by
  rcases c with t | ⟨a, b⟩ | k
  · exact Or.inl ⟨t, rfl⟩
  · exact Or.inr (Or.inl ⟨a, b, rfl⟩)
  · exact Or.inr (Or.inr ⟨k, rfl⟩)

def Ch.app : Ch → List Tri → List Tri
  | Sum.inl t, T => put T t
  | Sum.inr (Sum.inl (a, b)), T => match get T a with
    | none => T
    | some t => put (del T a) { t with k := b }
  | Sum.inr (Sum.inr k), T => del T k

/-- What a disk is, as plain data. -/
structure St where
  room : Int
  n : Nat
  F : List Tri
  Y : List Tri
  ch : List Ch
  acts : Int
  fuse : Int
  down : Bool

def u8s (b : List UInt8) : List Value := b.map (fun c => .int .u8 c.toNat)

/-- The slice v holds the bytes b, and is a row of its own. -/
def Data (w : World) (v : Value) (b : List UInt8) : Prop := w.ownsRow 0 5 1 v b.length (u8s b)

def AllData (w : World) (T : List Tri) : Prop := ∀ t ∈ T, Data w t.v t.b

def Named (w : World) (b : Nat) (k : List UInt8) : Prop := ∃ s : ByteArray, w.heap[b]? = some (.cells #[.string s] 9) ∧ s.data.toList = k ∧ s.size ≤ maxLen

/-- The function value f does the change c. -/
def Clo (w : World) (f : Value) : Ch → Prop
  | Sum.inl t => ∃ b1 b2, f = .func (.func 74) #[] #[.pointer (some ⟨b1, 0, none⟩), .pointer (some ⟨b2, 0, none⟩)] ∧ w.heap[b1]? = some (.cells #[t.v] 31) ∧ Named w b2 t.k ∧ Data w t.v t.b
  | Sum.inr (Sum.inl (a, b)) => ∃ b1 b2, f = .func (.func 80) #[] #[.pointer (some ⟨b1, 0, none⟩), .pointer (some ⟨b2, 0, none⟩)] ∧ Named w b1 a ∧ Named w b2 b
  | Sum.inr (Sum.inr k) => ∃ b1, f = .func (.func 85) #[] #[.pointer (some ⟨b1, 0, none⟩)] ∧ Named w b1 k

def Clos (w : World) : List Value → List Ch → Prop
  | [], [] => True
  | f :: fs, c :: cs => Clo w f c ∧ Clos w fs cs
  | _, _ => False

def cellsOf (S : St) (bf bs : Nat) (ca : Value) : Array Value := #[.int .i64 S.room, .map (some bf), .map (some bs), ca, .int .i64 S.acts, .int .i64 S.fuse, .bool S.down]

/-- Block p of w is the disk S; its files lie in the map bf, those that were synced in bs, its changes in ca. -/
structure DiskAt (w : World) (p bf bs : Nat) (ca : Value) (S : St) : Prop where
  own : w.heap[p]? = some (.cells (cellsOf S bf bs ca) 67)
  files : w.ownsMap Tryz.prog 9 heldR bf S.n (toD S.F)
  synced : w.ownsMap Tryz.prog 9 heldR bs S.n (toD S.Y)
  ne : bf ≠ bs
  changes : ∃ fs, w.ownsRow 0 87 1 ca S.ch.length fs ∧ Clos w fs S.ch
  dataF : AllData w S.F
  dataY : AllData w S.Y

/-- The blocks of a disk that turn. -/
def Mut (p bf : Nat) (ca : Value) (k : Nat) : Prop := k = p ∨ k = bf ∨ ca.ownBlock = some k

def Disk (w : World) (p : Nat) (M : Nat → Prop) (S : St) : Prop := ∃ bf bs ca, DiskAt w p bf bs ca S ∧ M = Mut p bf ca

/-- A call that has made the disk be S'. -/
def Stepped (M : Nat → Prop) (w : World) (p : Nat) (S' : St) (w' : World) : Prop := ∃ M', Disk w' p M' S' ∧ Fr M w w' ∧ ∀ k, M' k → M k ∨ w.heap.size ≤ k

theorem Clos.length {w : World} : ∀ {fs : List Value} {cs : List Ch}, Clos w fs cs → fs.length = cs.length
  | [], [], _ => rfl
  | _ :: _, _ :: _, h => by simp [Clos.length h.2]
  | [], _ :: _, h => h.elim
  | _ :: _, [], h => h.elim

theorem Clos.get {w : World} : ∀ {fs : List Value} {cs : List Ch}, Clos w fs cs → ∀ {i : Nat} {f : Value}, fs[i]? = some f → ∃ c, cs[i]? = some c ∧ Clo w f c
  | [], [], _, i, f, h => by simp at h
  | g :: fs, c :: cs, h, 0, f, hf => by simp at hf; subst hf; exact ⟨c, rfl, h.1⟩
  | g :: fs, c :: cs, h, i + 1, f, hf => by simpa using Clos.get h.2 (by simpa using hf)
  | [], _ :: _, h, _, _, _ => h.elim
  | _ :: _, [], h, _, _, _ => h.elim

theorem Clos.snoc {w : World} : ∀ {fs : List Value} {cs : List Ch}, Clos w fs cs → ∀ {f : Value} {c : Ch}, Clo w f c → Clos w (fs ++ [f]) (cs ++ [c])
  | [], [], _, _, _, h => ⟨h, trivial⟩
  | _ :: _, _ :: _, h, _, _, h' => ⟨h.1, h.2.snoc h'⟩
  | [], _ :: _, h, _, _, _ => h.elim
  | _ :: _, [], h, _, _, _ => h.elim

/-- What lies in blocks that do not turn stays. -/
def Still (M : Nat → Prop) (w : World) : Prop := ∀ k c e f, w.heap[k]? = some (.cells c e f) → M k → e = 67 ∨ e = 87

theorem DiskAt.still {w : World} {p bf bs : Nat} {ca : Value} {S : St} (h : DiskAt w p bf bs ca S) : Still (Mut p bf ca) w := by
  intro k c e f hk hm
  rcases hm with rfl | rfl | hm
  · rw [h.own] at hk; cases hk; exact Or.inl rfl
  · obtain ⟨es, cl, hb, _⟩ := h.files
    rw [hb] at hk; cases hk
  · obtain ⟨fs, hr, _⟩ := h.changes
    rcases hr.2 with ⟨hv, _⟩ | ⟨g, cap, cur, hv, _, hh, _⟩
    · rw [hv] at hm; cases hm
    · rw [hv] at hm; cases hm
      rw [hh] at hk; cases hk; exact Or.inr rfl

theorem Disk.still {w : World} {p : Nat} {M : Nat → Prop} {S : St} (h : Disk w p M S) : Still M w := by
  obtain ⟨bf, bs, ca, h, rfl⟩ := h
  exact h.still

section
variable {M : Nat → Prop} {w w' : World}

theorem Fr.cellsAt (h : Fr M w w') (hs : Still M w) {k : Nat} {c : Array Value} {e : TypeId} {f : Nat × Nat} (hk : w.heap[k]? = some (.cells c e f)) (h1 : e ≠ 67) (h2 : e ≠ 87) : w'.heap[k]? = some (.cells c e f) :=
  h.at hk (fun hm => by rcases hs k c e f hk hm with e1 | e1; exact h1 e1; exact h2 e1)

theorem Fr.data (h : Fr M w w') (hs : Still M w) {v : Value} {b : List UInt8} (hd : Data w v b) : Data w' v b := by
  obtain ⟨h1, h2⟩ := hd
  refine ⟨h1, ?_⟩
  rcases h2 with h2 | ⟨g, cap, cur, hv, hg, hh, r⟩
  · exact Or.inl h2
  · exact Or.inr ⟨g, cap, cur, hv, hg, h.cellsAt hs hh (by decide) (by decide), r⟩

theorem Fr.allData (h : Fr M w w') (hs : Still M w) {T : List Tri} (hd : AllData w T) : AllData w' T := fun t ht => h.data hs (hd t ht)

theorem Fr.named (h : Fr M w w') (hs : Still M w) {b : Nat} {k : List UInt8} (hd : Named w b k) : Named w' b k := by
  obtain ⟨s, h1, r⟩ := hd
  exact ⟨s, h.cellsAt hs h1 (by decide) (by decide), r⟩

theorem Fr.clo (h : Fr M w w') (hs : Still M w) {f : Value} {c : Ch} (hd : Clo w f c) : Clo w' f c := by
  rcases c.three with ⟨t, rfl⟩ | ⟨a, b, rfl⟩ | ⟨k, rfl⟩
  · obtain ⟨b1, b2, e, h1, h2, h3⟩ := hd; exact ⟨b1, b2, e, h.cellsAt hs h1 (by decide) (by decide), h.named hs h2, h.data hs h3⟩
  · obtain ⟨b1, b2, e, h1, h2⟩ := hd; exact ⟨b1, b2, e, h.named hs h1, h.named hs h2⟩
  · obtain ⟨b1, e, h1⟩ := hd; exact ⟨b1, e, h.named hs h1⟩

theorem Fr.clos (h : Fr M w w') (hs : Still M w) : ∀ {fs : List Value} {cs : List Ch}, Clos w fs cs → Clos w' fs cs
  | [], [], _ => trivial
  | _ :: _, _ :: _, hd => ⟨h.clo hs hd.1, Fr.clos h hs hd.2⟩
  | [], _ :: _, hd => hd.elim
  | _ :: _, [], hd => hd.elim
end

theorem heap_setCell_same {w : World} {p i : Nat} {c : Array Value} {e : TypeId} {f : Nat × Nat} (h : w.heap[p]? = some (.cells c e f)) (u : Value) :
    (w.setCell ⟨p, i, none⟩ u).heap[p]? = some (.cells (c.setIfInBounds i u) e f) := by
  simp [World.setCell, Array.getElem?_modify, h]

/-- The cells of a disk, for a walk. -/
theorem DiskAt.cells {w : World} {p bf bs : Nat} {ca : Value} {S : St} (h : DiskAt w p bf bs ca S) :
    w.cell? ⟨p, 0, none⟩ = some (.int .i64 S.room) ∧ w.cell? ⟨p, 1, none⟩ = some (.map (some bf)) ∧ w.cell? ⟨p, 2, none⟩ = some (.map (some bs)) ∧ w.cell? ⟨p, 3, none⟩ = some ca ∧
    w.cell? ⟨p, 4, none⟩ = some (.int .i64 S.acts) ∧ w.cell? ⟨p, 5, none⟩ = some (.int .i64 S.fuse) ∧ w.cell? ⟨p, 6, none⟩ = some (.bool S.down) ∧ ∀ i, w.frozen? ⟨p, i, none⟩ = false := by
  have := h.own
  refine ⟨?_, ?_, ?_, ?_, ?_, ?_, ?_, ?_⟩ <;> simp [World.cell?, World.frozen?, this, cellsOf]

end Go.Proofs.YtnmghgbpgpaomaaGreat

namespace Go.Proofs.YtnmghgbpgpaomaaGreat
open Go.RowKit Go.Maps Go.WideMaps
set_option maxRecDepth 100000

theorem lawS : Keyed Tryz.prog 9 := string_keyed Tryz.underlying9
theorem zeroBS (w : World) : (zeroValue 31).run Tryz.prog w = .ok (.slice none 0 0) w := by kernel_rfl

theorem power_any (p bf bs : Nat) (ca : Value) (S : St) (w : World) (h : DiskAt w p bf bs ca S) :
    Calls Tryz.prog 71 #[.pointer (some ⟨p, 0, none⟩)] w fun e w' =>
      (S.fuse = 0 ∧ e = .returned (.int .i64 13) ∧ w' = w.setCell ⟨p, 6, none⟩ (.bool true)) ∨
      (S.fuse ≠ 0 ∧ S.down = true ∧ e = .returned (.int .i64 13) ∧ w' = w) ∨
      (S.fuse ≠ 0 ∧ S.down = false ∧ e = .returned (.int .i64 0) ∧ w' = w) := by
  obtain ⟨c0, c1, c2, c3, c4, c5, c6, z⟩ := h.cells
  have z6 := z 6
  clear z h
  by_cases hf : S.fuse = 0
  · have hf' : (S.fuse == 0) = true := by simpa using hf
    go_enter Tryz.func71, Tryz.ntmps71
    go_wp2
    go_ret
    exact Or.inl ⟨hf, rfl, rfl⟩
  · have hf' : (S.fuse == 0) = false := by simpa using hf
    cases hd : S.down <;> rw [hd] at c6
    · go_enter Tryz.func71, Tryz.ntmps71
      go_wp2
      go_ret
      exact Or.inr (Or.inr ⟨hf, trivial, rfl, rfl⟩)
    · go_enter Tryz.func71, Tryz.ntmps71
      go_wp2
      go_ret
      exact Or.inr (Or.inl ⟨hf, trivial, rfl, rfl⟩)

theorem count_any (p bf bs : Nat) (ca : Value) (S : St) (w : World) (h : DiskAt w p bf bs ca S) (ha : 0 ≤ S.acts) (ha' : S.acts < 1000000000) (hf2 : S.fuse ≤ 9223372036854775807) :
    Calls Tryz.prog 79 #[.pointer (some ⟨p, 0, none⟩)] w fun e w' => e = .returned (.tuple #[]) ∧
      w' = if 0 < S.fuse then (w.setCell ⟨p, 4, none⟩ (.int .i64 (S.acts + 1))).setCell ⟨p, 5, none⟩ (.int .i64 (S.fuse - 1)) else w.setCell ⟨p, 4, none⟩ (.int .i64 (S.acts + 1)) := by
  obtain ⟨c0, c1, c2, c3, c4, c5, c6, z⟩ := h.cells
  have z4 := z 4
  have z5 := z 5
  clear z h
  by_cases hf : 0 < S.fuse
  · rw [if_pos hf]
    go_enter Tryz.func79, Tryz.ntmps79
    go_wp2
    go_end0
    exact ⟨rfl, rfl⟩
  · rw [if_neg hf]
    go_enter Tryz.func79, Tryz.ntmps79
    go_wp2
    go_end0
    exact ⟨rfl, rfl⟩

theorem acts_any (p bf bs : Nat) (ca : Value) (S : St) (w : World) (h : DiskAt w p bf bs ca S) :
    Calls Tryz.prog 24 #[.pointer (some ⟨p, 0, none⟩)] w fun e w' => e = .returned (.int .i64 S.acts) ∧ w' = w := by
  obtain ⟨c0, c1, c2, c3, c4, c5, c6, z⟩ := h.cells
  go_enter Tryz.func24, Tryz.ntmps24
  go_wp2
  go_ret
  exact ⟨rfl, rfl⟩

theorem has_any (p bf bs : Nat) (ca : Value) (S : St) (w : World) (h : DiskAt w p bf bs ca S) (s : ByteArray) (hs : s.size ≤ maxLen) :
    Calls Tryz.prog 30 #[.pointer (some ⟨p, 0, none⟩), .string s] w fun e w' => e = .returned (.bool (get S.F s.data.toList).isSome) ∧ w' = w := by
  obtain ⟨c0, c1, c2, c3, c4, c5, c6, z⟩ := h.cells
  have hown := h.files
  obtain ⟨v, ps, hrun, _⟩ := hown.look_ok lawS Tryz.underlying64 (zeroBS _) (zd := .held (.slice none 0 0)) (zp := []) rfl (keyOf_string_mk Tryz.underlying9 hs)
  rw [has_toD] at hrun
  clear hown h z
  go_enter Tryz.func30, Tryz.ntmps30
  go_wp2
  go_ret
  exact ⟨rfl, rfl⟩

end Go.Proofs.YtnmghgbpgpaomaaGreat

namespace Go.Proofs.YtnmghgbpgpaomaaGreat
open Go.RowKit Go.Maps Go.WideMaps
set_option maxRecDepth 100000

theorem keyOf_string_inv {key : Value} {kl : Lit} (h : keyOf Tryz.prog 9 key = some kl) : ∃ x : ByteArray, key = .string x ∧ kl = .string x.data.toList := by
  cases key <;> simp [keyOf, Tryz.underlying9, mapKey] at h
  exact ⟨_, rfl, h.2.symm⟩

theorem met_le (left : Lit → Bool) (T : List Tri) : met left T ≤ used T := by
  unfold met used
  induction T with
  | nil => simp
  | cons x r ih =>
    rw [List.filter_cons]
    split
    · simp; omega
    · simp; omega

theorem Data.len {w : World} {a : Option Addr} {n c : Nat} {b : List UInt8} (h : Data w (.slice a n c) b) : n = b.length := by
  rcases h.2 with ⟨hv, h0⟩ | ⟨g, cap, cur, hv, _⟩
  · cases hv; exact h0.symm
  · cases hv; rfl

/-- What a range over the files has met. -/
theorem hit {T : List Tri} {k : List UInt8} {v : Value} {ps : List MemPlace} {y : DataW Value × List MemPlace} (hv : heldR v = some y) (hy : y = (y.1, ps)) (hat : ∀ zd, (toD T).atKey (.string k) zd = y.1) : ∃ t, get T k = some t ∧ t.v = v := by
  have e := heldR_eq (hv.trans (by rw [hy]))
  have h0 := hat .nil
  rw [atKey_toD] at h0
  cases hg : get T k with
  | none => rw [hg, e] at h0; simp at h0
  | some t => rw [hg, e] at h0; simp at h0; exact ⟨t, rfl, h0⟩

def None' (_ : Nat) : Prop := False

set_option maxHeartbeats 1000000 in
theorem used_any (p bf bs : Nat) (ca : Value) (S : St) (w : World) (h : DiskAt w p bf bs ca S) (hu : used S.F < 4611686018427387904) :
    Calls Tryz.prog 94 #[.pointer (some ⟨p, 0, none⟩)] w fun e w' => e = .returned (.int .i64 (used S.F)) ∧ Fr None' w w' := by
  obtain ⟨c0, c1, c2, c3, c4, c5, c6, z⟩ := h.cells
  have hown := h.files
  have hA := apart_of_tidy (hown.tidy lawS)
  have hD := h.dataF
  have hlt := hown.lt
  clear z h c0 c2 c3 c4 c5 c6
  go_enter Tryz.func94, Tryz.ntmps94
  go_wp2_with (first
    | (at_range; refine wpList_range_own _ rfl _ 64 rfl 9 31 lawS Tryz.underlying64 _ bf S.n _ rfl hown ?_; intro w0 hrg0 hg0 hs0)
    | go_in)
  go_frame
  go_loopw [3] (fun n wr => ∃ left cnt, wr.ranges Tryz.prog 9 heldR bf w.heap.size S.n (toD S.F) left cnt ∧ n = .int .i64 (met left S.F) ∧ w.grownBy wr none) (fun _ wr => wr.rangeLeft bf w.heap.size)
  case atStart => exact ⟨_, _, hrg0, by rw [met_start]; rfl, hg0⟩
  case round =>
    obtain ⟨left, cnt, hrg, rfl, hgw⟩ := hrel
    have hml := met_le left S.F
    go_wp2_with (first
      | (at_next; refine wpList_next_ranges _ rfl _ rfl 9 lawS heldR Value.string (fun c : Option Addr × Nat × Nat => Value.slice c.1 c.2.1 c.2.2) (fun key kl hk => by obtain ⟨x, hx, _⟩ := keyOf_string_inv hk; exact ⟨x, hx⟩) (fun v y hv => heldR_inv hv) bf w.heap.size S.n _ _ _ rfl hrg ?_ ?_)
      | go_in)
    · intro _ hl0
      have he := met_end (T := S.F) hl0
      go_wp2
      go_ret
      exact ⟨by rw [← he]; rfl, Fr.grown hgw (by simp)⟩
    · intro x a n cap kl d ps w1 cnt1 hkey hlk hv hat hrg1 hlt1 hg1 hs1 hen
      obtain ⟨x', ex, hkl⟩ := keyOf_string_inv hkey
      cases ex
      subst hkl
      obtain ⟨t, ht, htv⟩ := hit (ps := ps) hv rfl hat
      obtain ⟨htm, htk⟩ := get_mem ht
      have hd := hD t htm
      rw [htv] at hd
      have hn := hd.len
      have hst := met_step hA htm (by rw [htk]; exact hlk)
      rw [htk] at hst
      have hml2 := met_le (fun z => left z && !z.sameKey (.string x.data.toList)) S.F
      have Hst : Hid (met (fun z => left z && !z.sameKey (.string x.data.toList)) S.F = met left S.F + n) := by rw [hn]; exact hst
      have hb : met left S.F + n < 4611686018427387904 := by rw [hn]; omega
      clear hst hn hd htv ht htm htk hat hv hkey hlk
      go_wp2
      go_roundw
      case rel =>
        refine ⟨_, _, hrg1, ?_, hgw.andThen hg1 (fun j e => by cases e; exact Or.inl (Nat.le_refl _))⟩
        rw [Hst.out]
        go_num
      case measure => rw [hrg1.left_eq, hrg.left_eq]; omega
end Go.Proofs.YtnmghgbpgpaomaaGreat

namespace Go.Proofs.YtnmghgbpgpaomaaGreat
open Go.RowKit Go.Maps Go.WideMaps
set_option maxRecDepth 100000

/-- The slice v, whoever made it, holds the bytes b. -/
def Bytes (w : World) (v : Value) (b : List UInt8) : Prop :=
  (v = .slice none 0 0 ∧ b = []) ∨ ∃ ad c, v = .slice (some ad) b.length c ∧ ∀ j u, (u8s b)[j]? = some u → w.cell? (ad.add j) = some u

theorem Data.bytes {w : World} {v : Value} {b : List UInt8} (h : Data w v b) : Bytes w v b := by
  rcases h.2 with ⟨hv, h0⟩ | ⟨g, cap, cur, hv, _, hh, _, _, _, ht⟩
  · exact Or.inl ⟨hv, by simpa using h0⟩
  · refine Or.inr ⟨_, _, hv, fun j u hj => ?_⟩
    rw [← ht] at hj
    have hj' : cur.toList[j]? = some u := by
      rw [List.getElem?_take] at hj
      split at hj
      · exact hj
      · cases hj
    have e : (⟨g, 0, none⟩ : Addr).add j = ⟨g, j, none⟩ := by unfold Addr.add; split <;> simp_all
    rw [e]
    simp [World.cell?, hh]
    simpa using hj'

theorem cell_alloc {w : World} {a : Addr} {u : Value} (h : w.cell? a = some u) (o : Obj) : (w.alloc o).cell? a = some u := by
  have hlt : a.block < w.heap.size := by
    unfold World.cell? at h
    split at h
    · rename_i hk; exact lt_of_some hk
    · cases h
  rw [World.cell?_of_block (w := w) (Below.heap_alloc _ _ _ hlt)]
  exact h

theorem Data.nil (w : World) : Data w (.slice none 0 0) [] := ⟨rfl, Or.inl ⟨rfl, rfl⟩⟩

theorem Tryz.infoU : (Tryz.prog.info? 5).map (fun i => (i.zero, i.size, i.bytes)) = some (some (.int .u8 0), 1, 1) := by kernel_rfl
theorem Tryz.infoC : (Tryz.prog.info? 87).map (fun i => (i.zero, i.size, i.bytes)) = some (some .nilFunc, 1, 8) := by kernel_rfl

theorem u8s_one (b : List UInt8) : ∀ u ∈ u8s b, u.oneCell' = true := by
  intro u hu
  obtain ⟨c, _, rfl⟩ := List.mem_map.1 hu
  rfl

set_option maxHeartbeats 1000000 in
theorem bclone_any (v : Value) (b : List UInt8) (w : World) (h : Bytes w v b) (hb : b.length ≤ 70368744177664) :
    Calls Tryz.prog 31 #[v] w fun e w' => ∃ v', e = .returned v' ∧ Data w' v' b ∧ Fr None' w w' := by
  have hq := fun (w : World) (a : Option Addr) (n c : Nat) => Lib.run_eql_slice_nil (P := Tryz.prog) w 31 5 a n c 0 0 Tryz.underlying31
  obtain ⟨i0, hi, hz0, hz1, hz2⟩ := info_parts Tryz.infoU
  rcases h with ⟨rfl, rfl⟩ | ⟨ad, c, rfl, hc⟩
  · go_enter Tryz.func31, Tryz.ntmps31
    go_wp2
    go_ret
    exact ⟨_, rfl, Data.nil _, Fr.refl _ _⟩
  · have hlen : (u8s b).length = b.length * 1 := by simp [u8s]
    have hcell : ∀ o j u, (u8s b)[j]? = some u → (w.alloc o).cell? (ad.add j) = some u := fun o j u hj => cell_alloc (hc j u hj) o
    have hone := u8s_one b
    have hown : ∀ e, (w.alloc (.cells #[] e)).ownsRow 0 e 1 (.slice (some ⟨w.heap.size, 0, none⟩) 0 0) 0 [] := fun e =>
      ⟨rfl, Or.inr ⟨w.heap.size, 0, #[], rfl, Nat.zero_le _, (MapKept.heap_alloc w _).1, Nat.le_refl _, Nat.zero_le _, rfl, rfl⟩⟩
    clear hc
    go_enter Tryz.func31, Tryz.ntmps31
    go_wp2_with (first
      | (at_builtin; refine wpList_append_own_at _ rfl _ _ 31 rfl 0 5 i0 (.int .u8 0) 1 1 Tryz.underlying31 hi hz0 hz1 hz2 rfl (by decide) _ 0 [] rfl (hown _) ad b.length c (u8s b) rfl hlen (hcell _) hone (by unfold maxLen; omega) (by omega) (Nat.zero_le _) ?_; intro v' w1 hown1 hg1 hnil hloc)
      | go_in)
    go_ret
    refine ⟨_, rfl, ?_, ?_⟩
    · simpa [Data] using hown1
    · exact (Fr.alloc _ _ _).trans (M' := fun k => w.heap.size ≤ k) (Fr.grown hg1 (fun k e => by cases e; exact Nat.le_refl _)) (fun i hi => Or.inr hi)

end Go.Proofs.YtnmghgbpgpaomaaGreat

namespace Go.Proofs.YtnmghgbpgpaomaaGreat
open Go.RowKit Go.Maps Go.WideMaps
set_option maxRecDepth 100000

/-- May this byte be in a name? -/
def okc (c : UInt8) : Bool := decide ((97 ≤ c.toNat ∧ c.toNat ≤ 122) ∨ (48 ≤ c.toNat ∧ c.toNat ≤ 57) ∨ c.toNat = 46 ∨ c.toNat = 45)
/-- Are these bytes a name? -/
def right (l : List UInt8) : Bool := decide (1 ≤ l.length) && decide (l.length ≤ 70) && l.all okc

theorem okc_t {c : UInt8} (h : (97 ≤ c.toNat ∧ c.toNat ≤ 122) ∨ (48 ≤ c.toNat ∧ c.toNat ≤ 57) ∨ c.toNat = 46 ∨ c.toNat = 45) : okc c = true := by simpa [okc] using h
theorem okc_f {c : UInt8} (h : ¬ ((97 ≤ c.toNat ∧ c.toNat ≤ 122) ∨ (48 ≤ c.toNat ∧ c.toNat ≤ 57) ∨ c.toNat = 46 ∨ c.toNat = 45)) : okc c = false := by simpa [okc] using h

theorem ret_bool {a b : Bool} (h : a = b) : Ending.returned (.bool a) = .returned (.bool b) := by rw [h]

set_option maxHeartbeats 1000000 in
theorem inName_any (c : UInt8) (w : World) : Calls Tryz.prog 64 #[.int .u8 c.toNat] w fun e w' => e = .returned (.bool (okc c)) ∧ w' = w := by
  go_enter Tryz.func64, Tryz.ntmps64
  go_wp2
  all_goals go_ret
  all_goals refine ⟨ret_bool ?_, rfl⟩
  all_goals first | exact (okc_t (by omega)).symm | (rw [Bool.eq_iff_iff]; simp [okc]; omega)

theorem take_snoc (s : ByteArray) (k : Nat) (h : k < s.size) : s.data.toList.take (k + 1) = s.data.toList.take k ++ [s[k]] := by
  rw [List.take_succ_eq_append_getElem (by simpa using h)]; rfl

theorem all_step {s : ByteArray} {k : Nat} (h : k < s.size) (ha : (s.data.toList.take k).all okc = true) (hc : okc s[k] = true) : (s.data.toList.take (k + 1)).all okc = true := by
  rw [take_snoc s k h, List.all_append, ha]
  simp [hc]

theorem all_no {s : ByteArray} {k : Nat} (h : k < s.size) (hc : okc s[k] = false) : s.data.toList.all okc = false := by
  rw [List.all_eq_false]
  exact ⟨s[k], List.getElem_mem (l := s.data.toList) (n := k) (by rw [show s.data.toList.length = s.size from by cases s; rfl]; exact h), by simp [hc]⟩

theorem right_no {s : ByteArray} (h : s.size < 1 ∨ 70 < s.size) : right s.data.toList = false := by
  have e : s.data.toList.length = s.size := by cases s; rfl
  unfold right; rw [e]
  rcases h with h | h
  · have : decide (1 ≤ s.size) = false := by simpa using h
    simp [this]
  · have : decide (s.size ≤ 70) = false := by simpa using h
    simp [this]

set_option maxHeartbeats 1000000 in
theorem isName_any (s : ByteArray) (w : World) (hs : s.size ≤ maxLen) : Calls Tryz.prog 29 #[.string s] w fun e w' => e = .returned (.bool (right s.data.toList)) ∧ w' = w := by
  have e : s.data.toList.length = s.size := by cases s; rfl
  unfold maxLen at hs
  by_cases h1 : s.size < 1
  · have hr := right_no (Or.inl h1)
    go_enter Tryz.func29, Tryz.ntmps29
    go_wp2
    go_ret
    exact ⟨by first | rfl | (rw [hr]; rfl), rfl⟩
  by_cases h2 : 70 < s.size
  · have hr := right_no (Or.inr h2)
    go_enter Tryz.func29, Tryz.ntmps29
    go_wp2
    go_ret
    exact ⟨by first | rfl | (rw [hr]; rfl), rfl⟩
  have hR : Hid (right s.data.toList = s.data.toList.all okc) := by
    unfold Hid right; rw [e]
    simp; omega
  clear e
  go_enter Tryz.func29, Tryz.ntmps29
  go_wp2
  go_loop [14] (fun i => ∃ k : Nat, k ≤ s.size ∧ i = .int .i64 k ∧ (s.data.toList.take k).all okc = true) (fun i => s.size - (intOf i).toNat)
  case atStart => exact ⟨0, Nat.zero_le _, rfl, rfl⟩
  case round =>
    obtain ⟨k, hk, rfl, hall⟩ := hrel
    have HA : Hid ((s.data.toList.take k).all okc = true) := hall
    clear hall
    by_cases hlt : k < s.size
    · cases hc : okc s[k]
      · go_wp2_with (go_at_call 64; refine (inName_any _ _).mono ?_; rintro e w' ⟨rfl, rfl⟩)
        go_ret
        refine ⟨?_, rfl⟩
        rw [hR.out, all_no hlt hc]
        rfl
      · go_wp2_with (go_at_call 64; refine (inName_any _ _).mono ?_; rintro e w' ⟨rfl, rfl⟩)
        go_round
        case rel => exact ⟨k + 1, by omega, by go_num, all_step hlt HA.out hc⟩
        case measure => simp [intOf]; omega
    · go_wp2
      go_ret
      refine ⟨?_, rfl⟩
      have ht := HA.out
      rw [List.take_of_length_le (by rw [show s.data.toList.length = s.size from by cases s; rfl]; omega)] at ht
      rw [hR.out, ht]
      rfl

end Go.Proofs.YtnmghgbpgpaomaaGreat

namespace Go.Proofs.YtnmghgbpgpaomaaGreat
open Go.RowKit Go.Maps Go.WideMaps
set_option maxRecDepth 100000

theorem eql_map_nil (w : World) (p : Option Nat) : (binOp .eql 64 (.map p) (.map none)).run Tryz.prog w = .ok (.bool p.isNone) w :=
  run_eql_map_nil (P := Tryz.prog) w 64 9 31 p Tryz.underlying64

theorem assert_map (w : World) (v : Value) : (Instr.typeAssert (.iface 64 v) 20 64 false).run Tryz.prog w = .ok v w := by
  simp [Instr.typeAssert, run_underlying Tryz.underlying64, go_sem, Result.andThen]

theorem clone_run {w : World} {r : Nat} {es : Array MapEntry} {clock : Nat} (hb : w.heap[r]? = some (.map es clock)) :
    (Extern.MapsClone.clone #[.iface 64 (.map (some r))]).run Tryz.prog w = .ok (.iface 64 (.map (some w.heap.size))) (w.alloc (.map es clock)) := by
  obtain ⟨s, e⟩ : ∃ s, Extern.MapsClone.clone #[.iface 64 (.map (some r))] = (getObj r >>= fun o => match o with
      | .map a c => (newObj (.map a c) >>= fun n => pure (.iface 64 (.map (some n))))
      | _ => stuck s) := ⟨_, rfl⟩
  rw [e]
  simp [MapKept.run_getObj_map hb, Result.andThen, go_sem]

set_option maxHeartbeats 1000000 in
theorem mclone_any (b n : Nat) (D : DataW Value) (w : World) (h : w.ownsMap Tryz.prog 9 heldR b n D) :
    Calls Tryz.prog 60 #[.map (some b)] w fun e w' => e = .returned (.map (some w.heap.size)) ∧ ∃ o, w' = w.alloc o ∧ w'.ownsMap Tryz.prog 9 heldR w.heap.size n D := by
  obtain ⟨es, clock, hb, F, hs, hD⟩ := h
  have hq := fun w => eql_map_nil w (some b)
  go_enter Tryz.func60, Tryz.ntmps60
  go_wp2
  rw [run_callFunc_extern Tryz.func86 (by kernel_rfl) (by kernel_rfl) (by kernel_rfl) (e := Extern.MapsClone.clone) (by kernel_rfl), clone_run hb]
  simp only [Result.andThen]
  rw [Oper.upon_value]
  go_wp2
  rw [assert_map]
  simp only [Result.andThen]
  rw [Oper.upon_value]
  go_wp2
  go_ret
  exact ⟨rfl, _, rfl, es, clock, (MapKept.heap_alloc w _).1, F, hs, hD⟩

/-- A disk behind a store into its own block. -/
theorem DiskAt.stored {w : World} {p bf bs bf' bs' : Nat} {ca ca' : Value} {S S' : St} {i : Nat} {u : Value} (h : DiskAt w p bf bs ca S)
    (he : (cellsOf S bf bs ca).setIfInBounds i u = cellsOf S' bf' bs' ca')
    (hf : (w.setCell ⟨p, i, none⟩ u).ownsMap Tryz.prog 9 heldR bf' S'.n (toD S'.F)) (hy : (w.setCell ⟨p, i, none⟩ u).ownsMap Tryz.prog 9 heldR bs' S'.n (toD S'.Y)) (hne : bf' ≠ bs')
    (hc : ∃ fs, (w.setCell ⟨p, i, none⟩ u).ownsRow 0 87 1 ca' S'.ch.length fs ∧ Clos w fs S'.ch) (hdF : AllData w S'.F) (hdY : AllData w S'.Y) :
    DiskAt (w.setCell ⟨p, i, none⟩ u) p bf' bs' ca' S' := by
  have hfr : Fr (Mut p bf ca) w (w.setCell ⟨p, i, none⟩ u) := Fr.setCell w (a := ⟨p, i, none⟩) (Or.inl rfl) u
  obtain ⟨fs, h1, h2⟩ := hc
  exact ⟨by rw [heap_setCell_same h.own, he], hf, hy, hne, ⟨fs, h1, hfr.clos h.still h2⟩, hfr.allData h.still hdF, hfr.allData h.still hdY⟩

theorem DiskAt.p_map {w : World} {p bf bs : Nat} {ca : Value} {S : St} (h : DiskAt w p bf bs ca S) {b n : Nat} {D : DataW Value} (hm : w.ownsMap Tryz.prog 9 heldR b n D) : b ≠ p := by
  intro e
  obtain ⟨es, cl, hb, _⟩ := hm
  rw [e, h.own] at hb
  cases hb

theorem DiskAt.p_row {w : World} {p bf bs : Nat} {ca : Value} {S : St} (h : DiskAt w p bf bs ca S) : ca.ownBlock ≠ some p := by
  intro e
  obtain ⟨fs, hr, _⟩ := h.changes
  rcases hr.2 with ⟨hv, _⟩ | ⟨g, cap, cur, hv, _, hh, _⟩
  · rw [hv] at e; cases e
  · rw [hv] at e; cases e
    rw [h.own] at hh; cases hh

/-- The fields that are no memory are written. -/
theorem DiskAt.field {w : World} {p bf bs : Nat} {ca : Value} {S S' : St} {i : Nat} {u : Value} (h : DiskAt w p bf bs ca S)
    (he : (cellsOf S bf bs ca).setIfInBounds i u = cellsOf S' bf bs ca) (hF : S'.F = S.F) (hY : S'.Y = S.Y) (hch : S'.ch = S.ch) (hn : S'.n = S.n) : DiskAt (w.setCell ⟨p, i, none⟩ u) p bf bs ca S' := by
  refine h.stored he ?_ ?_ h.ne ?_ (hF ▸ h.dataF) (hY ▸ h.dataY)
  · rw [hF, hn]; exact h.files.setCell (h.p_map h.files) _
  · rw [hY, hn]; exact h.synced.setCell (h.p_map h.synced) _
  · obtain ⟨fs, h1, h2⟩ := h.changes
    rw [hch]
    refine ⟨fs, (Fr.setCell (M := fun k => k = p) w (a := ⟨p, i, none⟩) rfl u).row h1 (fun g e e' => h.p_row (e' ▸ e)), h2⟩

/-- Blocks turn that are not the disk's. -/
theorem DiskAt.kept {w w' : World} {p bf bs : Nat} {ca : Value} {S : St} {M : Nat → Prop} (h : DiskAt w p bf bs ca S) (hfr : Fr M w w') (hs : Still M w) (hM : ∀ k, Mut p bf ca k ∨ k = bs → ¬ M k) : DiskAt w' p bf bs ca S := by
  obtain ⟨fs, h1, h2⟩ := h.changes
  exact ⟨hfr.at h.own (hM _ (Or.inl (Or.inl rfl))), hfr.map h.files (hM _ (Or.inl (Or.inr (Or.inl rfl)))), hfr.map h.synced (hM _ (Or.inr rfl)), h.ne,
    ⟨fs, hfr.row h1 (fun g e => hM _ (Or.inl (Or.inr (Or.inr e)))), hfr.clos hs h2⟩, hfr.allData hs h.dataF, hfr.allData hs h.dataY⟩

theorem DiskAt.fresh {w w' : World} {p bf bs : Nat} {ca : Value} {S : St} (h : DiskAt w p bf bs ca S) (hfr : Fr None' w w') : DiskAt w' p bf bs ca S :=
  h.kept hfr (fun _ _ _ _ _ hm => hm.elim) (fun _ _ hm => hm)

def St.settled (S : St) : St := { S with Y := S.F, ch := [] }

set_option maxHeartbeats 1000000 in
theorem settle_any (p bf bs : Nat) (ca : Value) (S : St) (w : World) (h : DiskAt w p bf bs ca S) :
    Calls Tryz.prog 32 #[.pointer (some ⟨p, 0, none⟩)] w fun e w' => e = .returned (.tuple #[]) ∧ DiskAt w' p bf w.heap.size (.slice none 0 0) S.settled ∧ Fr (fun k => k = p) w w' := by
  obtain ⟨c0, c1, c2, c3, c4, c5, c6, z⟩ := h.cells
  have hp := lt_of_some h.own
  have hown := h.files
  clear z c0 c2 c3 c4 c5 c6
  go_enter Tryz.func32, Tryz.ntmps32
  go_wp2_with (go_at_call 60; refine (mclone_any _ _ _ _ hown).mono ?_; rintro e w1 ⟨rfl, o, hw1, hcl⟩; have hf : Fr (fun k => k = p) w w1 := hw1 ▸ Fr.alloc _ _ _; have h1 : DiskAt w1 p bf bs ca S := h.fresh (hw1 ▸ Fr.alloc _ _ _); clear hw1; obtain ⟨_, _, d2, d3, _, _, _, z⟩ := h1.cells; have z2 := z 2; have z3 := z 3; clear z)
  go_end0
  refine ⟨rfl, ?_, (hf.trans (M' := fun k => k = p) (Fr.setCell w1 (a := ⟨p, 2, none⟩) (by rfl) _) (fun _ h => Or.inl h)).trans (M' := fun k => k = p) (Fr.setCell _ (a := ⟨p, 3, none⟩) (by rfl) _) (fun _ h => Or.inl h)⟩
  have hne : bf ≠ w.heap.size := Nat.ne_of_lt hown.lt
  have h2 : DiskAt (w1.setCell ⟨p, 2, none⟩ (.map (some w.heap.size))) p bf w.heap.size ca { S with Y := S.F } :=
    h1.stored rfl (h1.files.setCell (h1.p_map h1.files) _) (hcl.setCell (h1.p_map hcl) _) hne (by
      obtain ⟨fs, a1, a2⟩ := h1.changes
      exact ⟨fs, (Fr.setCell (M := fun k => k = p) _ (a := ⟨p, 2, none⟩) rfl _).row a1 (fun g e e' => h.p_row (e' ▸ e)), a2⟩) h1.dataF h1.dataF
  exact h2.stored rfl (h2.files.setCell (h2.p_map h2.files) _) (h2.synced.setCell (h2.p_map h2.synced) _) hne ⟨[], World.ownsRow_nil _ _ _ _, trivial⟩ h2.dataF h2.dataY

/-! ### Sync -/
def St.counted (S : St) : St := { S with acts := S.acts + 1, fuse := if 0 < S.fuse then S.fuse - 1 else S.fuse }

/-- The power is asked. -/
def St.asked (S : St) : St := { S with down := S.down || S.fuse == 0 }

structure St.fine (S : St) : Prop where
  a0 : 0 ≤ S.acts
  a1 : S.acts < 1000000000
  f1 : S.fuse ≤ 9223372036854775807
  n1 : S.n < 1000000000
  c1 : S.ch.length < 1000000000

theorem DiskAt.counted {w : World} {p bf bs : Nat} {ca : Value} {S : St} (h : DiskAt w p bf bs ca S) (ha0 : 0 ≤ S.acts) (ha1 : S.acts < 1000000000) (hf1 : S.fuse ≤ 9223372036854775807) :
    Calls Tryz.prog 79 #[.pointer (some ⟨p, 0, none⟩)] w fun e w' => e = .returned (.tuple #[]) ∧ DiskAt w' p bf bs ca S.counted ∧ Fr (fun k => k = p) w w' := by
  refine (count_any p bf bs ca S w h ha0 ha1 hf1).mono ?_
  rintro e w' ⟨rfl, rfl⟩
  refine ⟨rfl, ?_⟩
  have h1 : DiskAt (w.setCell ⟨p, 4, none⟩ (.int .i64 (S.acts + 1))) p bf bs ca { S with acts := S.acts + 1 } := h.field rfl rfl rfl rfl rfl
  unfold St.counted
  split
  · exact ⟨h1.field rfl rfl rfl rfl rfl, (Fr.setCell _ (by rfl) _).trans (M' := fun k => k = p) (Fr.setCell _ (by rfl) _) (fun _ h => Or.inl h)⟩
  · exact ⟨h1, Fr.setCell _ (by rfl) _⟩

theorem DiskAt.asked {w : World} {p bf bs : Nat} {ca : Value} {S : St} (h : DiskAt w p bf bs ca S) :
    Calls Tryz.prog 71 #[.pointer (some ⟨p, 0, none⟩)] w fun e w' => e = .returned (.int .i64 (if S.asked.down then 13 else 0)) ∧ DiskAt w' p bf bs ca S.asked ∧ Fr (fun k => k = p) w w' := by
  refine (power_any p bf bs ca S w h).mono ?_
  rintro e w' (⟨hf, rfl, rfl⟩ | ⟨hf, hd, rfl, rfl⟩ | ⟨hf, hd, rfl, rfl⟩)
  · have e1 : S.asked = { S with down := true } := by simp [St.asked, hf]
    rw [e1]
    exact ⟨rfl, h.field rfl rfl rfl rfl rfl, Fr.setCell _ (by rfl) _⟩
  · have e1 : S.asked = S := by cases S; simp_all [St.asked]
    rw [e1, hd]
    exact ⟨rfl, h, Fr.refl _ _⟩
  · have e1 : S.asked = S := by cases S; simp_all [St.asked]
    rw [e1, hd]
    exact ⟨rfl, h, Fr.refl _ _⟩

/-- Sync. -/
def St.sync (S : St) : Int × St := if S.asked.down then (13, S.asked) else (0, S.asked.settled.counted)

theorem DiskAt.disk {w : World} {p bf bs : Nat} {ca : Value} {S : St} (h : DiskAt w p bf bs ca S) : Disk w p (Mut p bf ca) S := ⟨bf, bs, ca, h, rfl⟩

theorem fine_asked {S : St} (h : S.fine) : S.asked.fine := ⟨h.a0, h.a1, h.f1, h.n1, h.c1⟩
theorem fine_settled {S : St} (h : S.fine) : S.settled.fine := ⟨h.a0, h.a1, h.f1, h.n1, by simp [St.settled]⟩

set_option maxHeartbeats 1000000 in
theorem sync_any (p : Nat) (M : Nat → Prop) (S : St) (w : World) (h : Disk w p M S) (hS : S.fine) :
    Calls Tryz.prog 49 #[.pointer (some ⟨p, 0, none⟩)] w fun e w' => e = .returned (.int .i64 S.sync.1) ∧ Stepped M w p S.sync.2 w' := by
  obtain ⟨bf, bs, ca, h, rfl⟩ := h
  unfold St.sync
  have hmp : ∀ k, k = p → Mut p bf ca k := fun k e => Or.inl e
  cases hd : S.asked.down
  · have hA := h.asked
    rw [hd] at hA
    go_enter Tryz.func49, Tryz.ntmps49
    go_wp2_with (first
      | (go_at_call 71; refine hA.mono ?_; rintro e w1 ⟨rfl, h1, f1⟩)
      | (go_at_call 32; refine (settle_any _ _ _ _ _ _ h1).mono ?_; rintro e w2 ⟨rfl, h2, f2⟩)
      | (go_at_call 79; refine (h2.counted hS.a0 hS.a1 hS.f1).mono ?_; rintro e w3 ⟨rfl, h3, f3⟩))
    go_ret
    refine ⟨rfl, _, h3.disk, ((f1.trans f2 (fun _ h => Or.inl h)).trans f3 (fun _ h => Or.inl h)).mono hmp, ?_⟩
    intro k hk
    rcases hk with hk | hk | hk
    · exact Or.inl (Or.inl hk)
    · exact Or.inl (Or.inr (Or.inl hk))
    · cases hk
  · have hA := h.asked
    rw [hd] at hA
    go_enter Tryz.func49, Tryz.ntmps49
    go_wp2_with (first
      | (go_at_call 71; refine hA.mono ?_; rintro e w1 ⟨rfl, h1, f1⟩))
    go_ret
    exact ⟨rfl, _, h1.disk, f1.mono hmp, fun k hk => Or.inl hk⟩

end Go.Proofs.YtnmghgbpgpaomaaGreat

namespace Go.Proofs.YtnmghgbpgpaomaaGreat
open Go.RowKit Go.Maps Go.WideMaps
set_option maxRecDepth 100000

theorem heldR_data {w : World} {v : Value} {b : List UInt8} (h : Data w v b) : heldR v = some (.held v, []) := by
  rcases h.2 with ⟨hv, _⟩ | ⟨g, cap, cur, hv, _⟩ <;> rw [hv] <;> rfl

theorem named_cell {w : World} {b : Nat} {k : List UInt8} (h : Named w b k) : ∃ s : ByteArray, w.cell? ⟨b, 0, none⟩ = some (.string s) ∧ keyOf Tryz.prog 9 (.string s) = some (.string k) := by
  obtain ⟨s, h1, h2, h3⟩ := h
  exact ⟨s, by simp [World.cell?, h1], by rw [← h2]; exact keyOf_string_mk Tryz.underlying9 h3⟩

theorem turned_cell {w w' : World} {b : Nat} {a : Addr} {u : Value} (ht : w.mapTurned w' b) (h : w.cell? a = some u) : w'.cell? a = some u := by
  have hg := ht.grown
  obtain ⟨es, clock, _, _, hb, _⟩ := ht
  have hk : ∃ o, w.heap[a.block]? = some o ∧ ∀ es c, o ≠ .map es c := by
    unfold World.cell? at h
    split at h
    · rename_i hk; exact ⟨_, hk, by simp⟩
    · cases h
  obtain ⟨o, hk, hne⟩ := hk
  rw [World.cell?_of_block (w := w) (hg.block a.block (lt_of_some hk) (fun e => by
    have e' : a.block = b := by simpa using e
    rw [e', hb] at hk
    cases hk
    exact hne _ _ rfl))]
  exact h

/-- A write, done once more on the map bm. -/
theorem w1_any (bm n b1 b2 : Nat) (t : Tri) (T : List Tri) (w : World) (h1 : w.heap[b1]? = some (.cells #[t.v] 31)) (h2 : Named w b2 t.k) (h3 : Data w t.v t.b) (hm : w.ownsMap Tryz.prog 9 heldR bm n (toD T)) (hn : n < maxLen) :
    Calls Tryz.prog 74 #[.map (some bm), .pointer (some ⟨b1, 0, none⟩), .pointer (some ⟨b2, 0, none⟩)] w fun e w' => e = .returned (.tuple #[]) ∧ w'.ownsMap Tryz.prog 9 heldR bm (n + 1) (toD (put T t)) ∧ w.mapTurned w' bm := by
  obtain ⟨s, c2, hkey⟩ := named_cell h2
  have c1 : w.cell? ⟨b1, 0, none⟩ = some t.v := by simp [World.cell?, h1]
  have hv := heldR_data h3
  clear h1 h2 h3
  go_enter Tryz.func74, Tryz.ntmps74
  go_wp2_with (first
    | (at_mapUpdate; refine wpList_mapUpdate_in _ rfl _ _ _ 64 rfl 9 31 lawS Tryz.underlying64 _ bm n _ rfl hm hn _ _ _ rfl rfl hkey _ [] hv ?_; intro w1 hown1 hturn1)
    | go_in)
  go_end0
  exact ⟨rfl, toD_put T t ▸ hown1, hturn1⟩

set_option maxHeartbeats 1000000 in
/-- A rename, done once more on the map bm. -/
theorem r1_any (bm n b1 b2 : Nat) (x y : List UInt8) (T : List Tri) (w : World) (h1 : Named w b1 x) (h2 : Named w b2 y) (hm : w.ownsMap Tryz.prog 9 heldR bm n (toD T)) (hn : n < maxLen) :
    Calls Tryz.prog 80 #[.map (some bm), .pointer (some ⟨b1, 0, none⟩), .pointer (some ⟨b2, 0, none⟩)] w fun e w' => e = .returned (.tuple #[]) ∧ w'.ownsMap Tryz.prog 9 heldR bm (n + 1) (toD (Ch.app (Ch.mv x y) T)) ∧ w.mapTurned w' bm := by
  obtain ⟨s, c1, hkx⟩ := named_cell h1
  obtain ⟨s', c2, hky⟩ := named_cell h2
  obtain ⟨v, ps, hrun, hv⟩ := hm.look_ok lawS Tryz.underlying64 (zeroBS _) (zd := .held (.slice none 0 0)) (zp := []) rfl hkx
  rw [has_toD] at hrun
  rw [atKey_toD] at hv
  clear h1 h2
  cases hg : get T x with
  | none =>
    rw [hg] at hrun
    have e1 : Ch.app (Ch.mv x y) T = T := by simp [Ch.app, hg]
    rw [e1]
    have ht := hm.turned_refl
    have hm' := hm.mono (Nat.le_succ n)
    clear hv e1 hm
    go_enter Tryz.func80, Tryz.ntmps80
    go_wp2
    exact bodyPost_ret (v := .tuple #[]) (by simp [results, Tryz.results80, go_sem]) rfl ⟨rfl, hm', ht⟩
  | some t =>
    rw [hg] at hrun hv
    have e1 : Ch.app (Ch.mv x y) T = put (del T x) { t with k := y } := by simp [Ch.app, hg]
    rw [e1]
    have e2 := heldR_eq hv
    simp only at e2
    cases e2
    have hv' : heldR t.v = some (.held t.v, []) := by
      cases hh : t.v <;> rw [hh] at hv <;> simp [heldR] at hv ⊢
    clear hv
    go_enter Tryz.func80, Tryz.ntmps80
    go_wp2_with (first
      | (at_delete; refine wpList_delete_own _ rfl _ _ 64 9 rfl 31 lawS Tryz.underlying64 _ bm n _ rfl hm _ _ rfl hkx ?_; intro w1 hown1 hturn1; have c3 := turned_cell hturn1 c2)
      | (at_mapUpdate; refine wpList_mapUpdate_in _ rfl _ _ _ 64 rfl 9 31 lawS Tryz.underlying64 _ bm n _ rfl hown1 hn _ _ _ rfl rfl hky _ [] hv' ?_; intro w2 hown2 hturn2)
      | go_in)
    go_end0
    refine ⟨rfl, ?_, hturn1.trans hturn2⟩
    rw [toD_del] at hown2
    exact toD_put (del T x) ⟨y, t.v, t.b⟩ ▸ hown2

/-- A removal, done once more on the map bm. -/
theorem rm1_any (bm n b1 : Nat) (x : List UInt8) (T : List Tri) (w : World) (h1 : Named w b1 x) (hm : w.ownsMap Tryz.prog 9 heldR bm n (toD T)) :
    Calls Tryz.prog 85 #[.map (some bm), .pointer (some ⟨b1, 0, none⟩)] w fun e w' => e = .returned (.tuple #[]) ∧ w'.ownsMap Tryz.prog 9 heldR bm (n + 1) (toD (Ch.app (Ch.rm x) T)) ∧ w.mapTurned w' bm := by
  obtain ⟨s, c1, hkx⟩ := named_cell h1
  clear h1
  go_enter Tryz.func85, Tryz.ntmps85
  go_wp2_with (first
    | (at_delete; refine wpList_delete_own _ rfl _ _ 64 9 rfl 31 lawS Tryz.underlying64 _ bm n _ rfl hm _ _ rfl hkx ?_; intro w1 hown1 hturn1)
    | go_in)
  go_end0
  rw [toD_del] at hown1
  exact ⟨rfl, hown1.mono (Nat.le_succ n), hturn1⟩

/-- The files turn. -/
theorem DiskAt.turned {w w' : World} {p bf bs n : Nat} {ca : Value} {S : St} {F : List Tri} (h : DiskAt w p bf bs ca S) (ht : w.mapTurned w' bf) (hn : S.n ≤ n) (hf : w'.ownsMap Tryz.prog 9 heldR bf n (toD F)) (hd : AllData w F) :
    DiskAt w' p bf bs ca { S with F := F, n := n } := by
  have hfr : Fr (Mut p bf ca) w w' := Fr.turned ht (Or.inr (Or.inl rfl))
  have hfr' : Fr (fun k => k = bf) w w' := Fr.turned ht rfl
  have hs := h.still
  obtain ⟨fs, h1, h2⟩ := h.changes
  refine ⟨hfr'.at h.own (fun e => h.p_map h.files e.symm), hf, (hfr'.map h.synced (fun e => h.ne e.symm)).mono hn, h.ne, ⟨fs, hfr'.row h1 (fun g e e' => ?_), hfr.clos hs h2⟩, hfr.allData hs hd, hfr.allData hs h.dataY⟩
  subst e'
  rcases h1.2 with ⟨hv, _⟩ | ⟨g', cap, cur, hv, _, hh, _⟩
  · rw [hv] at e; cases e
  · rw [hv] at e; cases e
    obtain ⟨es, cl, hb, _⟩ := h.files
    rw [hb] at hh; cases hh

theorem allData_app {w : World} {f : Value} {c : Ch} {T : List Tri} (hc : Clo w f c) (h : AllData w T) : AllData w (c.app T) := by
  intro t ht
  rcases c.three with ⟨x, rfl⟩ | ⟨a, b, rfl⟩ | ⟨k, rfl⟩
  · obtain ⟨_, _, _, _, _, hd⟩ := hc
    rcases mem_put.1 ht with rfl | ⟨h1, _⟩
    · exact hd
    · exact h t h1
  · simp only [Ch.app] at ht
    split at ht
    · exact h t ht
    · rename_i x hx
      rcases mem_put.1 ht with rfl | ⟨h1, _⟩
      · exact h x (get_mem hx).1
      · exact h t (mem_del.1 h1).1
  · exact h t (mem_del.1 ht).1

def St.did (S : St) (c : Ch) : St := { S with F := c.app S.F, n := S.n + 1, ch := S.ch ++ [c] }.counted

theorem DiskAt.appended {w w2 : World} {p bf bs : Nat} {ca v' f : Value} {S : St} {c : Ch} {fs : List Value} (h : DiskAt w p bf bs ca S) (hfs : Clos w fs S.ch) (hc : Clo w f c) (hg : w.grownBy w2 ca.ownBlock)
    (hr : w2.ownsRow 0 87 1 v' (S.ch.length + 1) (fs ++ [f])) (hloc : v'.ownBlock = ca.ownBlock ∨ v'.ownBlock = some w.heap.size) :
    DiskAt (w2.setCell ⟨p, 3, none⟩ v') p bf bs v' { S with ch := S.ch ++ [c] } := by
  have hs := h.still
  have hfr : Fr (Mut p bf ca) w w2 := Fr.grown hg (fun k e => Or.inr (Or.inr e))
  have hfr' : Fr (fun k => ca.ownBlock = some k) w w2 := Fr.grown hg (fun k e => e)
  have ho := hfr'.at h.own h.p_row
  have hb : ∀ {b n : Nat} {D : DataW Value}, w.ownsMap Tryz.prog 9 heldR b n D → ca.ownBlock ≠ some b := fun {b n D} hm e => by
    obtain ⟨fs', hr', _⟩ := h.changes
    obtain ⟨es, cl, hb, _⟩ := hm
    rcases hr'.2 with ⟨hv, _⟩ | ⟨g', cap, cur, hv, _, hh, _⟩
    · rw [hv] at e; cases e
    · rw [hv] at e; cases e
      rw [hb] at hh; cases hh
  have hf := hfr'.map h.files (hb h.files)
  have hy := hfr'.map h.synced (hb h.synced)
  have hvp : v'.ownBlock ≠ some p := by
    rcases hloc with e | e <;> rw [e]
    · exact h.p_row
    · have := lt_of_some h.own
      intro e'; injection e' with e'; omega
  have hset : Fr (fun k => k = p) w2 (w2.setCell ⟨p, 3, none⟩ v') := Fr.setCell w2 (a := ⟨p, 3, none⟩) (by rfl) v'
  have hall : Fr (Mut p bf ca) w (w2.setCell ⟨p, 3, none⟩ v') := hfr.trans hset (fun i e => Or.inl (Or.inl e))
  refine ⟨by rw [heap_setCell_same ho]; rfl, hset.map hf (h.p_map h.files), hset.map hy (h.p_map h.synced), h.ne, ⟨fs ++ [f], ?_, (hall.clos hs hfs).snoc (hall.clo hs hc)⟩, hall.allData hs h.dataF, hall.allData hs h.dataY⟩
  have := hset.row hr (fun g e e' => hvp (e' ▸ e))
  simpa using this

theorem row_slice {w : World} {base : Nat} {e : TypeId} {size : Nat} {v : Value} {n : Nat} {xs : List Value} (h : w.ownsRow base e size v n xs) : ∃ a c, v = .slice a n c := by
  rcases h.2 with ⟨hv, h0⟩ | ⟨g, cap, cur, hv, _⟩
  · exact ⟨none, 0, by rw [hv, h0]⟩
  · exact ⟨_, _, hv⟩

set_option maxHeartbeats 2000000 in
theorem do_any (p bf bs : Nat) (ca f : Value) (S : St) (c : Ch) (w : World) (h : DiskAt w p bf bs ca S) (hc : Clo w f c) (hS : S.fine) :
    Calls Tryz.prog 73 #[.pointer (some ⟨p, 0, none⟩), f] w fun e w' => e = .returned (.tuple #[]) ∧ ∃ ca', DiskAt w' p bf bs ca' (S.did c) ∧ Fr (Mut p bf ca) w w' ∧ ∀ k, Mut p bf ca' k → Mut p bf ca k ∨ w.heap.size ≤ k := by
  obtain ⟨i0, hi, hz0, hz1, hz2⟩ := info_parts Tryz.infoC
  obtain ⟨_, c1, _⟩ := h.cells
  have hn : S.n < maxLen := by have := hS.n1; unfold maxLen; omega
  have hl := hS.c1
  have hcl : (∃ t b1 b2, c = Ch.wr t ∧ f = .func (.func 74) #[] #[.pointer (some ⟨b1, 0, none⟩), .pointer (some ⟨b2, 0, none⟩)] ∧ w.heap[b1]? = some (.cells #[t.v] 31) ∧ Named w b2 t.k ∧ Data w t.v t.b) ∨
      (∃ a b b1 b2, c = Ch.mv a b ∧ f = .func (.func 80) #[] #[.pointer (some ⟨b1, 0, none⟩), .pointer (some ⟨b2, 0, none⟩)] ∧ Named w b1 a ∧ Named w b2 b)
      ∨ (∃ k b1, c = Ch.rm k ∧ f = .func (.func 85) #[] #[.pointer (some ⟨b1, 0, none⟩)] ∧ Named w b1 k)
      := by
    rcases c.three with ⟨t, rfl⟩ | ⟨a, b, rfl⟩ | ⟨k, rfl⟩
    · obtain ⟨b1, b2, r⟩ := hc; exact Or.inl ⟨t, b1, b2, rfl, r⟩
    · obtain ⟨b1, b2, r⟩ := hc; exact Or.inr (Or.inl ⟨a, b, b1, b2, rfl, r⟩)
    · obtain ⟨b1, r⟩ := hc; exact Or.inr (Or.inr ⟨k, b1, rfl, r⟩)
  have hdata := allData_app hc h.dataF
  -- what follows the change
  have after : ∀ w1, w1.ownsMap Tryz.prog 9 heldR bf (S.n + 1) (toD (c.app S.F)) → w.mapTurned w1 bf →
      ∃ fs, DiskAt w1 p bf bs ca { S with F := c.app S.F, n := S.n + 1 } ∧ Fr (Mut p bf ca) w w1 ∧ w1.ownsRow 0 87 1 ca S.ch.length fs ∧ Clos w1 fs S.ch ∧ Clo w1 f c := fun w1 hm ht => by
    have h1 := h.turned ht (Nat.le_succ _) hm hdata
    have f1 : Fr (Mut p bf ca) w w1 := Fr.turned ht (Or.inr (Or.inl rfl))
    obtain ⟨fs, a1, a2⟩ := h1.changes
    exact ⟨fs, h1, f1, a1, a2, f1.clo h.still hc⟩
  have then2 : ∀ w1 o v' w2 fs, DiskAt w1 p bf bs ca { S with F := c.app S.F, n := S.n + 1 } → Fr (Mut p bf ca) w w1 → Clos w1 fs S.ch → Clo w1 f c → (w1.alloc o).grownBy w2 ca.ownBlock → w2.ownsRow 0 87 1 v' (S.ch.length + 1) (fs ++ [f]) →
      (v'.ownBlock = ca.ownBlock ∨ v'.ownBlock = some (w1.alloc o).heap.size) →
      w2.cell? ⟨p, 3, none⟩ = some ca ∧ w2.frozen? ⟨p, 3, none⟩ = false ∧ DiskAt (w2.setCell ⟨p, 3, none⟩ v') p bf bs v' { S with F := c.app S.F, n := S.n + 1, ch := S.ch ++ [c] } ∧
        (Fr (Mut p bf ca) w (w2.setCell ⟨p, 3, none⟩ v') ∧ ∀ k, Mut p bf v' k → Mut p bf ca k ∨ w.heap.size ≤ k) := by
    intro w1 o v' w2 fs h1 f1 hfs k1 hg hr hloc
    have hA : DiskAt (w1.alloc o) p bf bs ca { S with F := c.app S.F, n := S.n + 1 } := h1.fresh (Fr.alloc _ _ _)
    have fA : Fr None' w1 (w1.alloc o) := Fr.alloc _ _ _
    have sA : Still None' w1 := fun _ _ _ _ _ hm => hm.elim
    have hfr : Fr (Mut p bf ca) (w1.alloc o) w2 := Fr.grown hg (fun k e => Or.inr (Or.inr e))
    have hfr' : Fr (fun k => ca.ownBlock = some k) (w1.alloc o) w2 := Fr.grown hg (fun k e => e)
    have ho := hfr'.at hA.own hA.p_row
    refine ⟨by simp [World.cell?, ho, cellsOf], by simp [World.frozen?, ho], hA.appended (fA.clos sA hfs) (fA.clo sA k1) hg hr hloc, ?_, ?_⟩
    · exact (f1.trans (M' := Mut p bf ca) ((fA.mono (fun _ e => e.elim)).trans hfr (fun i e => Or.inl e)) (fun i e => Or.inl e)).trans (M' := fun k => k = p) (Fr.setCell w2 (a := ⟨p, 3, none⟩) (by rfl) v') (fun i e => Or.inl (Or.inl e))
    · intro k hk
      rcases hk with hk | hk | hk
      · exact Or.inl (Or.inl hk)
      · exact Or.inl (Or.inr (Or.inl hk))
      · rcases hloc with e | e
        · exact Or.inl (Or.inr (Or.inr (e ▸ hk)))
        · rw [e] at hk
          injection hk with hk
          have := f1.size
          simp at hk
          exact Or.inr (by omega)
  rcases hcl with ⟨t, b1, b2, rfl, rfl, q1, q2, q3⟩ | ⟨a, b, b1, b2, rfl, rfl, q1, q2⟩ | ⟨x, b1, rfl, rfl, q1⟩
  · go_enter Tryz.func73, Tryz.ntmps73
    go_wp2_with (first
      | (go_at_call 74; refine (w1_any bf S.n b1 b2 t S.F _ q1 q2 q3 h.files hn).mono ?_; rintro e w1 ⟨rfl, hm, ht⟩; obtain ⟨fs, h1, f1, hrow, hfs, k1⟩ := after w1 hm ht; obtain ⟨_, _, _, d3, _⟩ := h1.cells; clear hm ht after)
      | (at_builtin; refine wpList_append_own_at _ rfl _ _ 65 rfl 0 87 i0 .nilFunc 1 8 Tryz.underlying65 hi hz0 hz1 hz2 rfl (by decide) _ _ _ rfl (hrow.alloc _) ⟨w1.heap.size, 0, none⟩ 1 1 [.func (.func 74) #[] #[.pointer (some ⟨b1, 0, none⟩), .pointer (some ⟨b2, 0, none⟩)]] rfl rfl (cell_one_new _ _ _) (fun u hu => by simp at hu; subst hu; rfl) (by unfold maxLen; omega) (by omega) (Nat.zero_le _) ?_; intro v' w2 hown2 hg2 hnil hloc; obtain ⟨va, vc, rfl⟩ := row_slice hown2; obtain ⟨e3, z3, h2, hk2⟩ := then2 w1 _ _ w2 fs h1 f1 hfs k1 hg2 hown2 hloc; clear hg2 hown2 hloc hnil d3)
      | (go_at_call 79; refine (h2.counted hS.a0 hS.a1 hS.f1).mono ?_; rintro e w3 ⟨rfl, h3, f3⟩))
    go_end0
    exact ⟨rfl, _, h3, hk2.1.trans f3 (fun i e => Or.inl (Or.inl e)), hk2.2⟩
  · go_enter Tryz.func73, Tryz.ntmps73
    go_wp2_with (first
      | (go_at_call 80; refine (r1_any bf S.n b1 b2 a b S.F _ q1 q2 h.files hn).mono ?_; rintro e w1 ⟨rfl, hm, ht⟩; obtain ⟨fs, h1, f1, hrow, hfs, k1⟩ := after w1 hm ht; obtain ⟨_, _, _, d3, _⟩ := h1.cells; clear hm ht after)
      | (at_builtin; refine wpList_append_own_at _ rfl _ _ 65 rfl 0 87 i0 .nilFunc 1 8 Tryz.underlying65 hi hz0 hz1 hz2 rfl (by decide) _ _ _ rfl (hrow.alloc _) ⟨w1.heap.size, 0, none⟩ 1 1 [.func (.func 80) #[] #[.pointer (some ⟨b1, 0, none⟩), .pointer (some ⟨b2, 0, none⟩)]] rfl rfl (cell_one_new _ _ _) (fun u hu => by simp at hu; subst hu; rfl) (by unfold maxLen; omega) (by omega) (Nat.zero_le _) ?_; intro v' w2 hown2 hg2 hnil hloc; obtain ⟨va, vc, rfl⟩ := row_slice hown2; obtain ⟨e3, z3, h2, hk2⟩ := then2 w1 _ _ w2 fs h1 f1 hfs k1 hg2 hown2 hloc; clear hg2 hown2 hloc hnil d3)
      | (go_at_call 79; refine (h2.counted hS.a0 hS.a1 hS.f1).mono ?_; rintro e w3 ⟨rfl, h3, f3⟩))
    go_end0
    exact ⟨rfl, _, h3, hk2.1.trans f3 (fun i e => Or.inl (Or.inl e)), hk2.2⟩
  · go_enter Tryz.func73, Tryz.ntmps73
    go_wp2_with (first
      | (go_at_call 85; refine (rm1_any bf S.n b1 x S.F _ q1 h.files).mono ?_; rintro e w1 ⟨rfl, hm, ht⟩; obtain ⟨fs, h1, f1, hrow, hfs, k1⟩ := after w1 hm ht; obtain ⟨_, _, _, d3, _⟩ := h1.cells; clear hm ht after)
      | (at_builtin; refine wpList_append_own_at _ rfl _ _ 65 rfl 0 87 i0 .nilFunc 1 8 Tryz.underlying65 hi hz0 hz1 hz2 rfl (by decide) _ _ _ rfl (hrow.alloc _) ⟨w1.heap.size, 0, none⟩ 1 1 [.func (.func 85) #[] #[.pointer (some ⟨b1, 0, none⟩)]] rfl rfl (cell_one_new _ _ _) (fun u hu => by simp at hu; subst hu; rfl) (by unfold maxLen; omega) (by omega) (Nat.zero_le _) ?_; intro v' w2 hown2 hg2 hnil hloc; obtain ⟨va, vc, rfl⟩ := row_slice hown2; obtain ⟨e3, z3, h2, hk2⟩ := then2 w1 _ _ w2 fs h1 f1 hfs k1 hg2 hown2 hloc; clear hg2 hown2 hloc hnil d3)
      | (go_at_call 79; refine (h2.counted hS.a0 hS.a1 hS.f1).mono ?_; rintro e w3 ⟨rfl, h3, f3⟩))
    go_end0
    exact ⟨rfl, _, h3, hk2.1.trans f3 (fun i e => Or.inl (Or.inl e)), hk2.2⟩

end Go.Proofs.YtnmghgbpgpaomaaGreat

namespace Go.Proofs.YtnmghgbpgpaomaaGreat
open Go.RowKit Go.Maps Go.WideMaps
set_option maxRecDepth 100000

def lenAt (T : List Tri) (k : List UInt8) : Nat := match get T k with | some t => t.b.length | none => 0

def St.refuse (S : St) (k : List UInt8) (size : Nat) : Int :=
  if right k = false then 1 else if 65536 < size ∨ (get S.F k = none ∧ 512 ≤ S.F.length) then 2 else if S.room < (used S.F : Int) - lenAt S.F k + size then 11 else 0

theorem lenAt_le {T : List Tri} (hA : Apart T) (k : List UInt8) : lenAt T k ≤ used T := by
  have := used_del hA k
  unfold lenAt
  cases hg : get T k <;> simp [hg] at this ⊢
  omega

theorem DiskAt.drew {w : World} {p bf bs : Nat} {ca : Value} {S : St} (h : DiskAt w p bf bs ca S) : DiskAt w.drew p bf bs ca S := h.fresh (Fr.drew _ _)

theorem wrap_small {x : Int} (h0 : -4611686018427387904 ≤ x) (h1 : x ≤ 4611686018427387904) : IntKind.i64.wrap x = x := by
  rw [IntKind.wrap_i64]; omega

/-- The slice at a name. -/
theorem look_any {w : World} {p bf bs : Nat} {ca : Value} {S : St} (h : DiskAt w p bf bs ca S) (s : ByteArray) (hs : s.size ≤ maxLen) :
    ∃ a c, ∀ w', DiskAt w' p bf bs ca S → (Instr.lookup 64 (.map (some bf)) (.string s) false).run Tryz.prog w' = .ok (.slice a (lenAt S.F s.data.toList) c) w' := by
  have key : ∀ w', DiskAt w' p bf bs ca S → ∃ v ps, (Instr.lookup 64 (.map (some bf)) (.string s) false).run Tryz.prog w' = .ok v w' ∧ heldR v = some ((match get S.F s.data.toList with | some t => .held t.v | none => .held (.slice none 0 0)), ps) := fun w' h' => by
    obtain ⟨v, ps, hrun, hv⟩ := h'.files.lookup lawS Tryz.underlying64 (zeroBS _) (zd := .held (.slice none 0 0)) (zp := []) rfl (keyOf_string_mk Tryz.underlying9 hs)
    rw [atKey_toD] at hv
    exact ⟨v, ps, hrun, hv⟩
  unfold lenAt
  cases hg : get S.F s.data.toList with
  | none =>
    refine ⟨none, 0, fun w' h' => ?_⟩
    obtain ⟨v, ps, hrun, hv⟩ := key w' h'
    have e := heldR_eq hv
    rw [hg] at e; simp at e; subst e; exact hrun
  | some t =>
    obtain ⟨a, c, hvv⟩ := row_slice (h.dataF t (get_mem hg).1)
    refine ⟨a, c, fun w' h' => ?_⟩
    obtain ⟨v, ps, hrun, hv⟩ := key w' h'
    have e := heldR_eq hv
    rw [hg] at e; simp at e
    rw [← e, hvv] at hrun
    exact hrun

set_option maxHeartbeats 2000000 in
theorem refusal_any (p bf bs : Nat) (ca : Value) (S : St) (s : ByteArray) (size : Nat) (w : World) (h : DiskAt w p bf bs ca S) (hs : s.size ≤ maxLen) (hu : used S.F < 35184372088832) (hsz : size < 35184372088832) :
    Calls Tryz.prog 72 #[.pointer (some ⟨p, 0, none⟩), .string s, .int .i64 size] w fun e w' => e = .returned (.int .i64 (S.refuse s.data.toList size)) ∧ Fr None' w w' := by
  have hN := isName_any s w hs
  cases hr : right s.data.toList
  · have hret : S.refuse s.data.toList size = 1 := by simp [St.refuse, hr]
    rw [hr] at hN
    go_enter Tryz.func72, Tryz.ntmps72
    go_wp2_with (first
      | (go_at_call 29; refine hN.mono ?_; rintro e w' ⟨rfl, rfl⟩))
    go_ret
    exact ⟨by first | rfl | (rw [hret]; rfl), Fr.refl _ _⟩
  rw [hr] at hN
  by_cases hbig : 65536 < size
  · have hret : S.refuse s.data.toList size = 2 := by simp [St.refuse, hr, hbig]
    go_enter Tryz.func72, Tryz.ntmps72
    go_wp2_with (first
      | (go_at_call 29; refine hN.mono ?_; rintro e w' ⟨rfl, rfl⟩))
    go_ret
    exact ⟨by first | rfl | (rw [hret]; rfl), Fr.refl _ _⟩
  have hH := has_any p bf bs ca S w h s hs
  have hlen := fun ty => h.files.len Tryz.underlying64 ty
  rw [size_toD] at hlen
  obtain ⟨c0, c1, _⟩ := h.cells
  by_cases hmany : get S.F s.data.toList = none ∧ 512 ≤ S.F.length
  · have hret : S.refuse s.data.toList size = 2 := by simp [St.refuse, hr, hmany.1, hmany.2]
    obtain ⟨hg, hl⟩ := hmany
    rw [hg] at hH
    go_enter Tryz.func72, Tryz.ntmps72
    go_wp2_with (first
      | (go_at_call 29; refine hN.mono ?_; rintro e w' ⟨rfl, rfl⟩)
      | (go_at_call 30; refine hH.mono ?_; rintro e w' ⟨rfl, rfl⟩))
    go_ret
    exact ⟨by first | rfl | (rw [hret]; rfl), Fr.refl _ _⟩
  obtain ⟨la, lc, hlook⟩ := look_any h s hs
  have hA := apart_of_tidy (h.files.tidy lawS)
  have hle := lenAt_le hA s.data.toList
  have hret : S.refuse s.data.toList size = if S.room < (used S.F : Int) - lenAt S.F s.data.toList + size then 11 else 0 := by
    unfold St.refuse
    rw [if_neg (by simp [hr]), if_neg (by rintro (h1 | h1); exact hbig h1; exact hmany h1)]
  have hU : ∀ w', DiskAt w' p bf bs ca S → Calls Tryz.prog 94 #[.pointer (some ⟨p, 0, none⟩)] w' fun e w'' => e = .returned (.int .i64 (used S.F)) ∧ Fr None' w' w'' ∧ DiskAt w'' p bf bs ca S := fun w' h' =>
    (used_any p bf bs ca S w' h' (by omega)).mono fun e w'' ⟨h1, h2⟩ => ⟨h1, h2, h'.fresh h2⟩
  have hcells : ∀ w', DiskAt w' p bf bs ca S → w'.cell? ⟨p, 0, none⟩ = some (.int .i64 S.room) ∧ w'.cell? ⟨p, 1, none⟩ = some (.map (some bf)) := fun w' h' => ⟨h'.cells.1, h'.cells.2.1⟩
  have hK : ∀ w', DiskAt w' p bf bs ca S → DiskAt w' p bf bs ca S ∧ w'.cell? ⟨p, 0, none⟩ = some (.int .i64 S.room) ∧ w'.cell? ⟨p, 1, none⟩ = some (.map (some bf)) ∧ (Instr.lookup 64 (.map (some bf)) (.string s) false).run Tryz.prog w' = .ok (.slice la (lenAt S.F s.data.toList) lc) w' :=
    fun w' h' => ⟨h', (hcells w' h').1, (hcells w' h').2, hlook w' h'⟩
  clear hcells hlook
  rw [hret]
  clear hret
  generalize hL : lenAt S.F s.data.toList = L at *
  generalize hUU : used S.F = U at *
  have hwrap : IntKind.i64.wrap (IntKind.i64.wrap ((U : Int) - L) + size) = U - L + size := by
    have e1 : IntKind.i64.wrap ((U : Int) - L) = U - L := wrap_small (by omega) (by omega)
    rw [e1]
    exact wrap_small (by omega) (by omega)
  have fin : ∀ w2, Fr None' w.drew w2 → Fr None' w w2 ∧ Fr None' w w2.drew := fun w2 f => ⟨(Fr.drew _ _).trans f (fun _ e => Or.inl e), ((Fr.drew _ _).trans f (fun _ e => Or.inl e)).trans (Fr.drew _ _) (fun _ (e : None' _) => Or.inl e)⟩
  by_cases hroom : S.room < (U : Int) - L + size
  · rw [if_pos hroom]
    cases hg : (get S.F s.data.toList).isSome
    · rw [hg] at hH
      have hl : S.F.length < 512 := by
        rcases Nat.lt_or_ge S.F.length 512 with h1 | h1
        · exact h1
        · exact absurd ⟨by simpa using hg, h1⟩ hmany
      clear hmany hg hL hUU hA
      go_enter Tryz.func72, Tryz.ntmps72
      go_wp2_with (first
        | (go_at_call 29; refine hN.mono ?_; rintro e w1 ⟨rfl, hw⟩; have hw := hw.symm; subst hw)
        | (go_at_call 30; refine hH.mono ?_; rintro e w1 ⟨rfl, hw⟩; have hw := hw.symm; subst hw))
      go_region_held3 (fun w' => DiskAt w' p bf bs ca S ∧ w'.cell? ⟨p, 0, none⟩ = some (.int .i64 S.room) ∧ w'.cell? ⟨p, 1, none⟩ = some (.map (some bf)) ∧ (Instr.lookup 64 (.map (some bf)) (.string s) false).run Tryz.prog w' = .ok (.slice la L lc) w')
        (first | exact hK _ (by assumption) | exact hK _ (DiskAt.drew (by assumption)))
        (first | (go_at_call 94; refine (hU _ ?_).mono ?_; (first | assumption | exact DiskAt.drew (by assumption)); rintro e w2 ⟨rfl, f2, h2⟩))
      all_goals go_wp2
      all_goals go_ret
      all_goals exact ⟨rfl, by first | exact (fin _ f2).1 | exact (fin _ f2).2⟩
    · rw [hg] at hH
      clear hmany hg hL hUU hA
      go_enter Tryz.func72, Tryz.ntmps72
      go_wp2_with (first
        | (go_at_call 29; refine hN.mono ?_; rintro e w1 ⟨rfl, hw⟩; have hw := hw.symm; subst hw)
        | (go_at_call 30; refine hH.mono ?_; rintro e w1 ⟨rfl, hw⟩; have hw := hw.symm; subst hw))
      go_region_held3 (fun w' => DiskAt w' p bf bs ca S ∧ w'.cell? ⟨p, 0, none⟩ = some (.int .i64 S.room) ∧ w'.cell? ⟨p, 1, none⟩ = some (.map (some bf)) ∧ (Instr.lookup 64 (.map (some bf)) (.string s) false).run Tryz.prog w' = .ok (.slice la L lc) w')
        (first | exact hK _ (by assumption) | exact hK _ (DiskAt.drew (by assumption)))
        (first | (go_at_call 94; refine (hU _ ?_).mono ?_; (first | assumption | exact DiskAt.drew (by assumption)); rintro e w2 ⟨rfl, f2, h2⟩))
      all_goals go_wp2
      all_goals go_ret
      all_goals exact ⟨rfl, by first | exact (fin _ f2).1 | exact (fin _ f2).2⟩
  · rw [if_neg hroom]
    cases hg : (get S.F s.data.toList).isSome
    · rw [hg] at hH
      have hl : S.F.length < 512 := by
        rcases Nat.lt_or_ge S.F.length 512 with h1 | h1
        · exact h1
        · exact absurd ⟨by simpa using hg, h1⟩ hmany
      clear hmany hg hL hUU hA
      go_enter Tryz.func72, Tryz.ntmps72
      go_wp2_with (first
        | (go_at_call 29; refine hN.mono ?_; rintro e w1 ⟨rfl, hw⟩; have hw := hw.symm; subst hw)
        | (go_at_call 30; refine hH.mono ?_; rintro e w1 ⟨rfl, hw⟩; have hw := hw.symm; subst hw))
      go_region_held3 (fun w' => DiskAt w' p bf bs ca S ∧ w'.cell? ⟨p, 0, none⟩ = some (.int .i64 S.room) ∧ w'.cell? ⟨p, 1, none⟩ = some (.map (some bf)) ∧ (Instr.lookup 64 (.map (some bf)) (.string s) false).run Tryz.prog w' = .ok (.slice la L lc) w')
        (first | exact hK _ (by assumption) | exact hK _ (DiskAt.drew (by assumption)))
        (first | (go_at_call 94; refine (hU _ ?_).mono ?_; (first | assumption | exact DiskAt.drew (by assumption)); rintro e w2 ⟨rfl, f2, h2⟩))
      all_goals go_wp2
      all_goals go_ret
      all_goals exact ⟨rfl, by first | exact (fin _ f2).1 | exact (fin _ f2).2⟩
    · rw [hg] at hH
      clear hmany hg hL hUU hA
      go_enter Tryz.func72, Tryz.ntmps72
      go_wp2_with (first
        | (go_at_call 29; refine hN.mono ?_; rintro e w1 ⟨rfl, hw⟩; have hw := hw.symm; subst hw)
        | (go_at_call 30; refine hH.mono ?_; rintro e w1 ⟨rfl, hw⟩; have hw := hw.symm; subst hw))
      go_region_held3 (fun w' => DiskAt w' p bf bs ca S ∧ w'.cell? ⟨p, 0, none⟩ = some (.int .i64 S.room) ∧ w'.cell? ⟨p, 1, none⟩ = some (.map (some bf)) ∧ (Instr.lookup 64 (.map (some bf)) (.string s) false).run Tryz.prog w' = .ok (.slice la L lc) w')
        (first | exact hK _ (by assumption) | exact hK _ (DiskAt.drew (by assumption)))
        (first | (go_at_call 94; refine (hU _ ?_).mono ?_; (first | assumption | exact DiskAt.drew (by assumption)); rintro e w2 ⟨rfl, f2, h2⟩))
      all_goals go_wp2
      all_goals go_ret
      all_goals exact ⟨rfl, by first | exact (fin _ f2).1 | exact (fin _ f2).2⟩

end Go.Proofs.YtnmghgbpgpaomaaGreat

namespace Go.Proofs.YtnmghgbpgpaomaaGreat
open Go.RowKit Go.Maps Go.WideMaps
set_option maxRecDepth 100000

def Out (M : Nat → Prop) (v : Value) : Prop := ∀ ad n c, v = .slice (some ad) n c → n ≠ 0 → ¬ M ad.block

theorem add_block (a : Addr) (j : Nat) : (a.add j).block = a.block := by unfold Addr.add; split <;> rfl

theorem Bytes.kept {M : Nat → Prop} {w w' : World} {v : Value} {b : List UInt8} (h : Bytes w v b) (hf : Fr M w w') (hM : Out M v) : Bytes w' v b := by
  rcases h with h | ⟨ad, c, hv, hc⟩
  · exact Or.inl h
  · refine Or.inr ⟨ad, c, hv, fun j u hj => ?_⟩
    have h1 := hc j u hj
    have hlt : (ad.add j).block < w.heap.size := by
      unfold World.cell? at h1
      split at h1
      · rename_i hk; exact lt_of_some hk
      · cases h1
    rw [World.cell?_of_block (w := w) (hf.block _ hlt (by rw [add_block]; exact hM ad _ _ hv (fun e0 => by have := (List.getElem?_eq_some_iff.1 hj).1; simp [u8s] at this; omega)))]
    exact h1

/-- Write. -/
def St.write (S : St) (t : Tri) : Int × St :=
  if S.asked.down then (13, S.asked) else if S.asked.refuse t.k t.b.length = 0 then (0, S.asked.did (Ch.wr t)) else (S.asked.refuse t.k t.b.length, S.asked)

theorem makeFunc_run : ∀ (fn : Fn) (first cap : Array Value) (w : World), (Instr.makeFunc fn first cap).run Tryz.prog w = .ok (.func fn first cap) w := fun _ _ _ _ => rfl

theorem named_new (w : World) (s : ByteArray) (hs : s.size ≤ maxLen) : Named (w.alloc (.cells #[.string s] 9)) w.heap.size s.data.toList := ⟨s, (MapKept.heap_alloc w _).1, rfl, hs⟩

theorem named_cell' {w : World} {b : Nat} {s : ByteArray} (h : w.heap[b]? = some (.cells #[.string s] 9)) : w.cell? ⟨b, 0, none⟩ = some (.string s) := by simp [World.cell?, h]

theorem clo_new {w : World} {nb : Nat} (s : ByteArray) (b : List UInt8) (a : Option Addr) (c : Nat) (hs : s.size ≤ maxLen) (hn : w.heap[nb]? = some (.cells #[.string s] 9)) (hd : Data w (.slice a b.length c) b) :
    Clo (w.alloc (.cells #[.slice a b.length c] 31)) (.func (.func 74) #[] #[.pointer (some ⟨w.heap.size, 0, none⟩), .pointer (some ⟨nb, 0, none⟩)]) (Ch.wr ⟨s.data.toList, .slice a b.length c, b⟩) :=
  ⟨_, _, rfl, (MapKept.heap_alloc w _).1, ⟨s, (Fr.alloc None' w _).at hn (fun e => e), rfl, hs⟩, (Fr.alloc None' w _).data (fun _ _ _ _ _ hm => hm.elim) hd⟩

set_option maxHeartbeats 2000000 in
theorem write_any (p : Nat) (M : Nat → Prop) (S : St) (s : ByteArray) (v : Value) (b : List UInt8) (w : World) (h : Disk w p M S) (hS : S.fine) (hs : s.size ≤ maxLen) (hv : Bytes w v b) (hM : Out M v)
    (hu : used S.F < 35184372088832) (hb : b.length < 35184372088832) :
    Calls Tryz.prog 42 #[.pointer (some ⟨p, 0, none⟩), .string s, v] w fun e w' => ∃ v', e = .returned (.int .i64 (S.write ⟨s.data.toList, v', b⟩).1) ∧ Stepped M w p (S.write ⟨s.data.toList, v', b⟩).2 w' := by
  obtain ⟨bf, bs, ca, h, rfl⟩ := h
  have hmf := makeFunc_run
  have hmp : ∀ k, k = p → Mut p bf ca k := fun k e => Or.inl e
  obtain ⟨w0, hw0⟩ : ∃ w0, w0 = w.alloc (.cells #[.string s] 9) := ⟨_, rfl⟩
  have f0 : Fr (Mut p bf ca) w w0 := hw0 ▸ Fr.alloc _ _ _
  have h0 : DiskAt w0 p bf bs ca S := h.fresh (hw0 ▸ Fr.alloc _ _ _)
  have n0 : w0.heap[w.heap.size]? = some (.cells #[.string s] 9) := hw0 ▸ (MapKept.heap_alloc w _).1
  have hA := h0.asked
  have v0 := hv.kept f0 hM
  cases hd : S.asked.down
  · rw [hd] at hA
    obtain ⟨va, vc, hvs⟩ : ∃ va vc, v = .slice va b.length vc := by
      rcases hv with ⟨e1, e2⟩ | ⟨ad, c, e1, _⟩
      · exact ⟨none, 0, by rw [e1, e2]; rfl⟩
      · exact ⟨_, _, e1⟩
    by_cases hr : S.asked.refuse s.data.toList b.length = 0
    · have hw : ∀ v', S.write ⟨s.data.toList, v', b⟩ = (0, S.asked.did (Ch.wr ⟨s.data.toList, v', b⟩)) := fun v' => by simp [St.write, hd, hr]
      simp only [hw]
      have hR := fun w1 (h1 : DiskAt w1 p bf bs ca S.asked) => refusal_any p bf bs ca S.asked s b.length w1 h1 hs hu hb
      simp only [hr] at hR
      subst hvs
      clear hw hv hd hr
      subst hw0
      go_enter Tryz.func42, Tryz.ntmps42
      go_wp2_with (first
        | (go_at_call 71; refine hA.mono ?_; rintro e w1 ⟨rfl, h1, f1⟩; have n1 := (f1.mono hmp).cellsAt h0.still n0 (by decide) (by decide); have cn := named_cell' n1; have v1 := v0.kept (f1.mono hmp) hM)
        | (go_at_call 72; refine (hR w1 h1).mono ?_; rintro e w2 ⟨rfl, f2⟩; have h2 := h1.fresh f2; have n2 := f2.at n1 (fun e => e); have v2 := v1.kept f2 (fun _ _ _ _ _ e => e))
        | (go_at_call 31; refine (bclone_any _ _ _ v2 (by omega)).mono ?_; rintro e w3 ⟨v', rfl, d3, f3⟩; have h3 := h2.fresh f3; have n3 := f3.at n2 (fun e => e); obtain ⟨a3, c3, rfl⟩ := row_slice d3; have h4 : DiskAt (w3.alloc (.cells #[.slice a3 b.length c3] 31)) p bf bs ca S.asked := h3.fresh (Fr.alloc _ _ _); have k4 := clo_new s b a3 c3 hs n3 d3)
        | (go_at_call 73; refine (do_any p bf bs ca _ S.asked _ _ h4 k4 (fine_asked hS)).mono ?_; rintro e w4 ⟨rfl, ca', h5, f5, g5⟩))
      go_ret
      have hall : Fr (Mut p bf ca) w (w3.alloc (.cells #[.slice a3 b.length c3] 31)) :=
        (((f0.trans (f1.mono hmp) (fun _ e => Or.inl e)).trans f2 (fun _ e => e.elim)).trans f3 (fun _ e => e.elim)).trans (Fr.alloc None' _ _) (fun _ e => e.elim)
      exact ⟨_, rfl, _, h5.disk, hall.trans f5 (fun _ e => Or.inl e), fun k hk => (g5 k hk).imp id (fun e => Nat.le_trans hall.size e)⟩
    · have hw : ∀ v', S.write ⟨s.data.toList, v', b⟩ = (S.asked.refuse s.data.toList b.length, S.asked) := fun v' => by simp [St.write, hd, hr]
      simp only [hw]
      have hR := fun w1 (h1 : DiskAt w1 p bf bs ca S.asked) => refusal_any p bf bs ca S.asked s b.length w1 h1 hs hu hb
      generalize S.asked.refuse s.data.toList b.length = r at hr hR ⊢
      have hr' : (r == 0) = false := by simpa using hr
      subst hvs
      clear hw hv hd hr
      subst hw0
      go_enter Tryz.func42, Tryz.ntmps42
      go_wp2_with (first
        | (go_at_call 71; refine hA.mono ?_; rintro e w1 ⟨rfl, h1, f1⟩; have n1 := (f1.mono hmp).cellsAt h0.still n0 (by decide) (by decide); have cn := named_cell' n1; have v1 := v0.kept (f1.mono hmp) hM)
        | (go_at_call 72; refine (hR w1 h1).mono ?_; rintro e w2 ⟨rfl, f2⟩; have h2 := h1.fresh f2))
      go_ret
      exact ⟨.slice none 0 0, rfl, _, h2.disk, (f0.trans (f1.mono hmp) (fun _ e => Or.inl e)).trans f2 (fun _ e => e.elim), fun k hk => Or.inl hk⟩
  · rw [hd] at hA
    have hw : ∀ v', S.write ⟨s.data.toList, v', b⟩ = (13, S.asked) := fun v' => by simp [St.write, hd]
    simp only [hw]
    clear hw hv hd
    subst hw0
    go_enter Tryz.func42, Tryz.ntmps42
    go_wp2_with (first
      | (go_at_call 71; refine hA.mono ?_; rintro e w1 ⟨rfl, h1, f1⟩))
    go_ret
    exact ⟨.slice none 0 0, rfl, _, h1.disk, f0.trans (f1.mono hmp) (fun _ e => Or.inl e), fun k hk => Or.inl hk⟩

end Go.Proofs.YtnmghgbpgpaomaaGreat

namespace Go.Proofs.YtnmghgbpgpaomaaGreat
open Go.RowKit Go.Maps Go.WideMaps
set_option maxRecDepth 100000

/-- Rename. -/
def St.rename (S : St) (a b : List UInt8) : Int × St :=
  if S.asked.down then (13, S.asked) else if right b = false then (1, S.asked) else if (get S.F a).isSome = false then (12, S.asked) else (0, S.asked.did (Ch.mv a b))

set_option maxHeartbeats 2000000 in
theorem rename_any (p : Nat) (M : Nat → Prop) (S : St) (s s' : ByteArray) (w : World) (h : Disk w p M S) (hS : S.fine) (hs : s.size ≤ maxLen) (hs' : s'.size ≤ maxLen) :
    Calls Tryz.prog 52 #[.pointer (some ⟨p, 0, none⟩), .string s, .string s'] w fun e w' => e = .returned (.int .i64 (S.rename s.data.toList s'.data.toList).1) ∧ Stepped M w p (S.rename s.data.toList s'.data.toList).2 w' := by
  obtain ⟨bf, bs, ca, h, rfl⟩ := h
  have hmf := makeFunc_run
  have hmp : ∀ k, k = p → Mut p bf ca k := fun k e => Or.inl e
  obtain ⟨w0, hw0⟩ : ∃ w0, w0 = (w.alloc (.cells #[.string s] 9)).alloc (.cells #[.string s'] 9) := ⟨_, rfl⟩
  have f0 : Fr None' w w0 := hw0 ▸ (Fr.alloc None' _ _).trans (Fr.alloc None' _ _) (fun _ e => Or.inl e)
  have h0 : DiskAt w0 p bf bs ca S := h.fresh f0
  have fM : Fr (Mut p bf ca) w w0 := f0.mono (fun _ e => e.elim)
  have n0 : w0.heap[w.heap.size]? = some (.cells #[.string s] 9) := hw0 ▸ (Fr.alloc None' _ _).at (MapKept.heap_alloc w _).1 (fun e => e)
  have m0 : w0.heap[w.heap.size + 1]? = some (.cells #[.string s'] 9) := by
    have := (MapKept.heap_alloc (w.alloc (.cells #[.string s] 9)) (.cells #[.string s'] 9)).1
    rw [hw0]; simpa using this
  have hA := h0.asked
  unfold St.rename
  cases hd : S.asked.down
  · rw [hd] at hA
    simp only [Bool.false_eq_true, if_false]
    have hN := fun w1 => isName_any s' w1 hs'
    cases hr : right s'.data.toList
    · simp only [if_true]
      simp only [hr] at hN
      clear hd hr
      subst hw0
      go_enter Tryz.func52, Tryz.ntmps52
      go_wp2_with (first
        | (go_at_call 71; refine hA.mono ?_; rintro e w1 ⟨rfl, h1, f1⟩; have m1 := (f1.mono hmp).cellsAt h0.still m0 (by decide) (by decide); have cm := named_cell' m1)
        | (go_at_call 29; refine (hN _).mono ?_; rintro e w2 ⟨rfl, hw⟩; have hw := hw.symm; subst hw))
      go_ret
      exact ⟨rfl, _, h1.disk, fM.trans (f1.mono hmp) (fun _ e => Or.inl e), fun k hk => Or.inl hk⟩
    · simp only [Bool.true_eq_false, if_false]
      simp only [hr] at hN
      have hH := fun w1 (h1 : DiskAt w1 p bf bs ca S.asked) => has_any p bf bs ca S.asked w1 h1 s hs
      have eF : S.asked.F = S.F := rfl
      rw [eF] at hH
      cases hg : (get S.F s.data.toList).isSome
      · simp only [if_true]
        simp only [hg] at hH
        clear hd hr hg
        subst hw0
        go_enter Tryz.func52, Tryz.ntmps52
        go_wp2_with (first
          | (go_at_call 71; refine hA.mono ?_; rintro e w1 ⟨rfl, h1, f1⟩; have m1 := (f1.mono hmp).cellsAt h0.still m0 (by decide) (by decide); have cm := named_cell' m1; have n1 := (f1.mono hmp).cellsAt h0.still n0 (by decide) (by decide); have cn := named_cell' n1)
          | (go_at_call 29; refine (hN _).mono ?_; rintro e w2 ⟨rfl, hw⟩; have hw := hw.symm; subst hw)
          | (go_at_call 30; refine (hH _ h1).mono ?_; rintro e w2 ⟨rfl, hw⟩; have hw := hw.symm; subst hw))
        go_ret
        exact ⟨rfl, _, h1.disk, fM.trans (f1.mono hmp) (fun _ e => Or.inl e), fun k hk => Or.inl hk⟩
      · simp only [Bool.true_eq_false, if_false]
        simp only [hg] at hH
        clear hd hr hg
        subst hw0
        go_enter Tryz.func52, Tryz.ntmps52
        go_wp2_with (first
          | (go_at_call 71; refine hA.mono ?_; rintro e w1 ⟨rfl, h1, f1⟩; have m1 := (f1.mono hmp).cellsAt h0.still m0 (by decide) (by decide); have cm := named_cell' m1; have n1 := (f1.mono hmp).cellsAt h0.still n0 (by decide) (by decide); have cn := named_cell' n1)
          | (go_at_call 29; refine (hN _).mono ?_; rintro e w2 ⟨rfl, hw⟩; have hw := hw.symm; subst hw)
          | (go_at_call 30; refine (hH _ h1).mono ?_; rintro e w2 ⟨rfl, hw⟩; have hw := hw.symm; subst hw)
          | (go_at_call 73; refine (do_any p bf bs ca _ S.asked (Ch.mv s.data.toList s'.data.toList) _ h1 ⟨_, _, rfl, ⟨s, n1, rfl, hs⟩, ⟨s', m1, rfl, hs'⟩⟩ (fine_asked hS)).mono ?_; rintro e w4 ⟨rfl, ca', h5, f5, g5⟩))
        go_ret
        have hall := fM.trans (f1.mono hmp) (fun _ e => Or.inl e)
        exact ⟨rfl, _, h5.disk, hall.trans f5 (fun _ e => Or.inl e), fun k hk => (g5 k hk).imp id (fun e => Nat.le_trans hall.size e)⟩
  · rw [hd] at hA
    simp only [if_true]
    clear hd
    subst hw0
    go_enter Tryz.func52, Tryz.ntmps52
    go_wp2_with (first
      | (go_at_call 71; refine hA.mono ?_; rintro e w1 ⟨rfl, h1, f1⟩))
    go_ret
    exact ⟨rfl, _, h1.disk, fM.trans (f1.mono hmp) (fun _ e => Or.inl e), fun k hk => Or.inl hk⟩

/-- Read. -/
def St.read (S : St) (k : List UInt8) : List UInt8 × Int :=
  if S.down then ([], 13) else match get S.F k with
    | none => ([], 12)
    | some t => (t.b, 0)

set_option maxHeartbeats 2000000 in
theorem read_any (p : Nat) (M : Nat → Prop) (S : St) (s : ByteArray) (w : World) (h : Disk w p M S) (hs : s.size ≤ maxLen) (hu : used S.F < 35184372088832) :
    Calls Tryz.prog 39 #[.pointer (some ⟨p, 0, none⟩), .string s] w fun e w' => ∃ v, e = .returned (.tuple #[v, .int .i64 (S.read s.data.toList).2]) ∧ Data w' v (S.read s.data.toList).1 ∧ Fr None' w w' := by
  obtain ⟨bf, bs, ca, h, rfl⟩ := h
  obtain ⟨c0, c1, c2, c3, c4, c5, c6, z⟩ := h.cells
  unfold St.read
  cases hd : S.down <;> rw [hd] at c6
  · simp only [Bool.false_eq_true, if_false]
    obtain ⟨v, ps, hrun, hv⟩ := h.files.look_ok lawS Tryz.underlying64 (zeroBS _) (zd := .held (.slice none 0 0)) (zp := []) rfl (keyOf_string_mk Tryz.underlying9 hs)
    rw [has_toD] at hrun
    rw [atKey_toD] at hv
    have e := heldR_eq hv
    cases hg : get S.F s.data.toList with
    | none =>
      rw [hg] at hrun
      clear hv e hg hd z
      go_enter Tryz.func39, Tryz.ntmps39
      go_wp2
      go_ret2
      exact ⟨_, rfl, Data.nil _, Fr.refl _ _⟩
    | some t =>
      rw [hg] at hrun e
      simp at e
      subst e
      have hd := h.dataF t (get_mem hg).1
      have hlb : t.b.length ≤ used S.F := by
        have := lenAt_le (apart_of_tidy (h.files.tidy lawS)) s.data.toList
        simpa [lenAt, hg] using this
      clear hv hg z
      go_enter Tryz.func39, Tryz.ntmps39
      go_wp2_with (first
        | (go_at_call 31; refine (bclone_any _ _ _ hd.bytes (by omega)).mono ?_; rintro e w3 ⟨v', rfl, d3, f3⟩))
      go_ret2
      exact ⟨_, rfl, d3, f3⟩
  · simp only [if_true]
    clear hd z
    go_enter Tryz.func39, Tryz.ntmps39
    go_wp2
    go_ret2
    exact ⟨_, rfl, Data.nil _, Fr.refl _ _⟩

/-- New. -/
def St.new (room : Int) : St := { room := max room 0, n := 0, F := [], Y := [], ch := [], acts := 0, fuse := -1, down := false }

theorem new_disk (room r : Int) (w : World) (hr : max room 0 = r) :
    let w' := ((w.alloc (.map #[] 0)).alloc (.map #[] 0)).alloc (.cells #[.int .i64 r, .map (some w.heap.size), .map (some (w.heap.size + 1)), .slice none 0 0, .int .i64 0, .int .i64 (-1), .bool false] 67)
    Disk w' (w.heap.size + 1 + 1) (Mut (w.heap.size + 1 + 1) w.heap.size (.slice none 0 0)) (St.new room) ∧ Fr None' w w' ∧ ∀ k, Mut (w.heap.size + 1 + 1) w.heap.size (.slice none 0 0) k → w.heap.size ≤ k := by
  intro w'
  have m1 := World.ownsMap_made w Tryz.prog 9 heldR
  have m2 := World.ownsMap_made (w.alloc (.map #[] 0)) Tryz.prog 9 heldR
  have e : (w.alloc (.map #[] 0)).heap.size = w.heap.size + 1 := by simp
  rw [e] at m2
  refine ⟨⟨w.heap.size, w.heap.size + 1, _, ⟨?_, (m1.alloc _).alloc _, m2.alloc _, by omega, ⟨[], World.ownsRow_nil _ _ _ _, trivial⟩, fun t ht => by simp [St.new] at ht, fun t ht => by simp [St.new] at ht⟩, rfl⟩, ?_, ?_⟩
  · have := (MapKept.heap_alloc ((w.alloc (.map #[] 0)).alloc (.map #[] 0)) (.cells #[.int .i64 r, .map (some w.heap.size), .map (some (w.heap.size + 1)), .slice none 0 0, .int .i64 0, .int .i64 (-1), .bool false] 67)).1
    rw [show ((w.alloc (.map #[] 0)).alloc (.map #[] 0)).heap.size = w.heap.size + 1 + 1 by simp] at this
    rw [this, ← hr]
    rfl
  · exact ((Fr.alloc None' _ _).trans (Fr.alloc None' _ _) (fun _ e => Or.inl e)).trans (Fr.alloc None' _ _) (fun _ e => Or.inl e)
  · rintro k (h | h | h)
    · omega
    · omega
    · cases h

set_option maxHeartbeats 2000000 in
theorem new_any (room : Int) (w : World) :
    Calls Tryz.prog 28 #[.int .i64 room] w fun e w' => ∃ p M, e = .returned (.pointer (some ⟨p, 0, none⟩)) ∧ Disk w' p M (St.new room) ∧ Fr None' w w' ∧ ∀ k, M k → w.heap.size ≤ k := by
  have hmm := @run_makeMap Tryz.prog
  go_enter Tryz.func28, Tryz.ntmps28
  go_wp2
  all_goals go_ret
  · exact ⟨_, rfl, _, new_disk room 0 w (by omega)⟩
  · exact ⟨_, rfl, _, new_disk room room w (by omega)⟩

end Go.Proofs.YtnmghgbpgpaomaaGreat

namespace Go.Proofs.YtnmghgbpgpaomaaGreat
open Go.RowKit Go.Maps Go.WideMaps
set_option maxRecDepth 100000

/-- The slice v holds these truths. -/
def Bools (w : World) (v : Value) (l : List Bool) : Prop :=
  (v = .slice none 0 0 ∧ l = []) ∨ ∃ ad c, v = .slice (some ad) l.length c ∧ ∀ j u, l[j]? = some u → ad.spot = none ∧ w.cell? ⟨ad.block, ad.off + j, none⟩ = some (.bool u)

/-- The first i changes, of which those are done that are kept. -/
def rep (ch : List Ch) (keep : List Bool) (Y : List Tri) : Nat → List Tri
  | 0 => Y
  | i + 1 => match ch[i]?, keep[i]? with
    | some c, some true => c.app (rep ch keep Y i)
    | _, _ => rep ch keep Y i

def St.crash (S : St) (keep : List Bool) : St :=
  { S with F := rep S.ch keep S.Y S.ch.length, Y := rep S.ch keep S.Y S.ch.length, ch := [], fuse := -1, down := false, n := S.n + S.ch.length }

theorem DiskAt.more {w : World} {p bf bs n : Nat} {ca : Value} {S : St} (h : DiskAt w p bf bs ca S) (hn : S.n ≤ n) : DiskAt w p bf bs ca { S with n := n } :=
  ⟨h.own, h.files.mono hn, h.synced.mono hn, h.ne, h.changes, h.dataF, h.dataY⟩

theorem row_cell {w : World} {e : TypeId} {g n cap : Nat} {xs : List Value} (h : w.ownsRow 0 e 1 (.slice (some ⟨g, 0, none⟩) n cap) n xs) {k : Nat} {u : Value} (hk : xs[k]? = some u) : w.cell? ⟨g, k, none⟩ = some u := by
  rcases h.2 with ⟨hv, _⟩ | ⟨g', cap', cur, hv, _, hh, _, _, _, ht⟩
  · cases hv
  · cases hv
    rw [← ht] at hk
    have hk' : cur.toList[k]? = some u := by
      rw [List.getElem?_take] at hk
      split at hk
      · exact hk
      · cases hk
    simp [World.cell?, hh]
    simpa using hk'

/-- The files that were synced are the files. -/
theorem DiskAt.back {w w1 : World} {p bf bs : Nat} {ca : Value} {S : St} (h : DiskAt w p bf bs ca S) (hf : Fr None' w w1) (hm : w1.ownsMap Tryz.prog 9 heldR w.heap.size S.n (toD S.Y)) :
    DiskAt (w1.setCell ⟨p, 1, none⟩ (.map (some w.heap.size))) p w.heap.size bs ca { S with F := S.Y } ∧ Fr (fun k => k = p) w (w1.setCell ⟨p, 1, none⟩ (.map (some w.heap.size))) := by
  have h1 := h.fresh hf
  refine ⟨h1.stored rfl (hm.setCell (h1.p_map hm) _) (h1.synced.setCell (h1.p_map h1.synced) _) (fun e => ?_) ?_ h1.dataY h1.dataY, (hf.mono (fun _ e => e.elim)).trans (Fr.setCell w1 (M := fun k => k = p) (a := ⟨p, 1, none⟩) (by rfl) _) (fun _ e => Or.inl e)⟩
  · have := h.synced.lt; omega
  · obtain ⟨fs, a1, a2⟩ := h1.changes
    exact ⟨fs, (Fr.setCell (M := fun k => k = p) _ (a := ⟨p, 1, none⟩) rfl _).row a1 (fun g e e' => h1.p_row (e' ▸ e)), a2⟩

theorem DiskAt.stillp {w : World} {p bf bs : Nat} {ca : Value} {S : St} (h : DiskAt w p bf bs ca S) : Still (fun k => k = p) w := fun k c e f hk hm => h.still k c e f hk (Or.inl hm)

/-- One change more, done or not. -/
theorem rep_done {ch : List Ch} {keep : List Bool} {Y : List Tri} {k : Nat} {c : Ch} (h1 : ch[k]? = some c) (h2 : keep[k]? = some true) : rep ch keep Y (k + 1) = c.app (rep ch keep Y k) := by
  simp [rep, h1, h2]
theorem rep_not {ch : List Ch} {keep : List Bool} {Y : List Tri} {k : Nat} (h2 : keep[k]? ≠ some true) : rep ch keep Y (k + 1) = rep ch keep Y k := by
  rw [rep]
  split
  · rename_i h; exact absurd h h2
  · rfl

set_option maxHeartbeats 4000000 in
theorem crash_any (p : Nat) (M : Nat → Prop) (S : St) (v : Value) (keep : List Bool) (w : World) (h : Disk w p M S) (hS : S.fine) (hv : Bools w v keep) (hM : Out M v) :
    Calls Tryz.prog 20 #[.pointer (some ⟨p, 0, none⟩), v] w fun e w' => e = .returned (.tuple #[]) ∧ Stepped M w p (S.crash keep) w' := by
  obtain ⟨bf, bs, ca, h, rfl⟩ := h
  obtain ⟨_, _, c2, _⟩ := h.cells
  obtain ⟨fs, hrow, hfs⟩ := h.changes
  have hlen := hfs.length
  have hS1 := hS.n1
  have hS2 := hS.c1
  obtain ⟨ca0, cap, rfl⟩ := row_slice hrow
  have hat : ∀ wr, Fr (fun k => k = p) w wr → ∀ k f, fs[k]? = some f → ∃ g, ca0 = some ⟨g, 0, none⟩ ∧ wr.cell? ⟨g, k, none⟩ = some f := fun wr fwr k f hf => by
    have hr := fwr.row hrow (fun g e e' => h.p_row (e' ▸ e))
    rcases hrow.2 with ⟨hv, h0⟩ | ⟨g, cap', cur, hv, _⟩
    · have := (List.getElem?_eq_some_iff.1 hf).1; omega
    · cases hv; exact ⟨g, rfl, row_cell hr hf⟩
  obtain ⟨va, vc, rfl, hva⟩ : ∃ va vc, v = .slice va keep.length vc ∧ ∀ wr, Fr (fun k => k = p) w wr → ∀ k u, keep[k]? = some u → ∃ g off, va = some ⟨g, off, none⟩ ∧ wr.cell? ⟨g, off + k, none⟩ = some (.bool u) := by
    rcases hv with ⟨rfl, rfl⟩ | ⟨ad, c, rfl, hc⟩
    · exact ⟨none, 0, rfl, fun _ _ k u hu => by simp at hu⟩
    · refine ⟨_, c, rfl, fun wr fwr k u hu => ?_⟩
      obtain ⟨h0, h1⟩ := hc k u hu
      have hlt : ad.block < w.heap.size := by
        unfold World.cell? at h1
        split at h1
        · rename_i hk; exact lt_of_some hk
        · cases h1
      refine ⟨ad.block, ad.off, by rw [← h0], ?_⟩
      rw [World.cell?_of_block (w := w) (a := ⟨ad.block, ad.off + k, none⟩) (fwr.block _ hlt (fun e => hM ad _ _ rfl (fun e0 => by have := (List.getElem?_eq_some_iff.1 hu).1; omega) (Or.inl e)))]
      exact h1
  have hsp := h.stillp
  clear hv
  go_enter Tryz.func20, Tryz.ntmps20
  go_wp2_with (first
    | (go_at_call 60; refine (mclone_any _ _ _ _ h.synced).mono ?_; rintro e w1 ⟨rfl, o, hw1, hcl⟩; have f1 : Fr None' w w1 := hw1 ▸ Fr.alloc _ _ _; clear hw1; have h1 := h.fresh f1; obtain ⟨_, d1, _, d3, _, _, _, z⟩ := h1.cells; have z1 := z 1; clear z; obtain ⟨h2, f2⟩ := h.back f1 hcl))
  go_loopw [19] (fun i wr => ∃ k : Nat, k ≤ S.ch.length ∧ i = .int .i64 k ∧ DiskAt wr p w.heap.size bs (.slice ca0 S.ch.length cap) { S with F := rep S.ch keep S.Y k, n := S.n + k } ∧ Fr (fun k => k = p) w wr) (fun i _ => S.ch.length - (intOf i).toNat)
  case atStart => exact ⟨0, Nat.zero_le _, rfl, h2, f2⟩
  case round =>
    obtain ⟨k, hk, rfl, hwr, fwr⟩ := hrel
    obtain ⟨_, e1, _⟩ := hwr.cells
    clear h2 f2 h1 f1 d1 d3 z1 hcl c2
    by_cases hlt : k < S.ch.length
    · obtain ⟨f, hf⟩ : ∃ f, fs[k]? = some f := ⟨fs[k]'(by omega), by simp⟩
      obtain ⟨c, hc, hclo⟩ := (fwr.clos hsp hfs).get hf
      obtain ⟨g, rfl, hcell⟩ := hat wr fwr k f hf
      clear hat
      by_cases hkeep : keep[k]? = some true
      · have hkl : k < keep.length := (List.getElem?_eq_some_iff.1 hkeep).1
        obtain ⟨g2, off2, rfl, hc2⟩ := hva wr fwr k true hkeep
        have hrep := rep_done (Y := S.Y) hc hkeep
        have hdat := allData_app hclo hwr.dataF
        have hn : S.n + k < maxLen := by unfold maxLen; omega
        have done : ∀ w3, w3.ownsMap Tryz.prog 9 heldR w.heap.size (S.n + k + 1) (toD (c.app (rep S.ch keep S.Y k))) → wr.mapTurned w3 w.heap.size →
            DiskAt w3 p w.heap.size bs (.slice (some ⟨g, 0, none⟩) S.ch.length cap) { S with F := rep S.ch keep S.Y (k + 1), n := S.n + (k + 1) } ∧ Fr (fun k => k = p) w w3 := fun w3 hm ht => by
          refine ⟨?_, fwr.trans (Fr.turned (M := fun i => i = w.heap.size) ht rfl) (fun i e => Or.inr (by omega))⟩
          rw [hrep]
          exact hwr.turned ht (by simp) hm hdat
        clear hva hrep hdat
        rcases c.three with ⟨t, rfl⟩ | ⟨x, y, rfl⟩ | ⟨x, rfl⟩
        · obtain ⟨b1, b2, rfl, q1, q2, q3⟩ := hclo
          go_wp2_with (first
            | (go_at_call 74; refine (w1_any w.heap.size (S.n + k) b1 b2 t _ _ q1 q2 q3 hwr.files hn).mono ?_; rintro e w3 ⟨rfl, hm, ht⟩; obtain ⟨r1, r2⟩ := done w3 hm ht; clear hm ht done))
          go_roundw
          case rel => exact ⟨k + 1, by omega, by go_num, r1, r2⟩
          case measure => simp [intOf]; omega
        · obtain ⟨b1, b2, rfl, q1, q2⟩ := hclo
          go_wp2_with (first
            | (go_at_call 80; refine (r1_any w.heap.size (S.n + k) b1 b2 x y _ _ q1 q2 hwr.files hn).mono ?_; rintro e w3 ⟨rfl, hm, ht⟩; obtain ⟨r1, r2⟩ := done w3 hm ht; clear hm ht done))
          go_roundw
          case rel => exact ⟨k + 1, by omega, by go_num, r1, r2⟩
          case measure => simp [intOf]; omega
        · obtain ⟨b1, rfl, q1⟩ := hclo
          go_wp2_with (first
            | (go_at_call 85; refine (rm1_any w.heap.size (S.n + k) b1 x _ _ q1 hwr.files).mono ?_; rintro e w3 ⟨rfl, hm, ht⟩; obtain ⟨r1, r2⟩ := done w3 hm ht; clear hm ht done))
          go_roundw
          case rel => exact ⟨k + 1, by omega, by go_num, r1, r2⟩
          case measure => simp [intOf]; omega
      · have hrep := rep_not (ch := S.ch) (Y := S.Y) hkeep
        by_cases hkl : k < keep.length
        · obtain ⟨g2, off2, rfl, hc2⟩ := hva wr fwr k false (by
            cases hb : keep[k] with
            | false => rw [List.getElem?_eq_getElem hkl, hb]
            | true => exact absurd (by rw [List.getElem?_eq_getElem hkl, hb]) hkeep)
          have hrel' : DiskAt wr p w.heap.size bs (.slice (some ⟨g, 0, none⟩) S.ch.length cap) { S with F := rep S.ch keep S.Y (k + 1), n := S.n + (k + 1) } := by
            rw [hrep]; exact hwr.more (by simp)
          clear hva hrep hkeep
          go_wp2
          go_roundw
          case rel => exact ⟨k + 1, by omega, by go_num, hrel', fwr⟩
          case measure => simp [intOf]; omega
        · have hrel' : DiskAt wr p w.heap.size bs (.slice (some ⟨g, 0, none⟩) S.ch.length cap) { S with F := rep S.ch keep S.Y (k + 1), n := S.n + (k + 1) } := by
            rw [hrep]; exact hwr.more (by simp)
          clear hva hrep hkeep
          go_wp2
          go_roundw
          case rel => exact ⟨k + 1, by omega, by go_num, hrel', fwr⟩
          case measure => simp [intOf]; omega
    · have hkk : k = S.ch.length := by omega
      subst hkk
      clear hat hva
      go_wp2_with (first
        | (go_at_call 32; refine (settle_any _ _ _ _ _ _ hwr).mono ?_; rintro e w3 ⟨rfl, h3, f3⟩; obtain ⟨_, _, _, _, _, d5, d6, z⟩ := h3.cells; have z5 := z 5; have z6 := z 6; clear z))
      go_end0
      have fin : DiskAt ((w3.setCell ⟨p, 5, none⟩ (.int .i64 (-1))).setCell ⟨p, 6, none⟩ (.bool false)) p w.heap.size wr.heap.size (.slice none 0 0) (S.crash keep) :=
        (h3.field (S' := { (St.settled { S with F := rep S.ch keep S.Y S.ch.length, n := S.n + S.ch.length }) with fuse := -1 }) rfl rfl rfl rfl rfl).field rfl rfl rfl rfl rfl
      refine ⟨rfl, _, fin.disk, ?_, ?_⟩
      · exact (((fwr.trans f3 (fun _ e => Or.inl e)).trans (M' := fun k => k = p) (Fr.setCell w3 (a := ⟨p, 5, none⟩) (by rfl) _) (fun _ e => Or.inl e)).trans (M' := fun k => k = p) (Fr.setCell _ (a := ⟨p, 6, none⟩) (by rfl) _) (fun _ e => Or.inl e)).mono (fun _ e => Or.inl e)
      · rintro k (e | e | e)
        · exact Or.inl (Or.inl e)
        · exact Or.inr (by omega)
        · cases e

end Go.Proofs.YtnmghgbpgpaomaaGreat

namespace Go.Proofs.YtnmghgbpgpaomaaGreat
open Go.RowKit Go.Maps Go.WideMaps
set_option maxRecDepth 100000

/-- In wi lies a disk S at p, made since w; nothing of w has turned. -/
def Live (w wi : World) (p : Nat) (S : St) : Prop := ∃ M, Disk wi p M S ∧ Fr None' w wi ∧ ∀ k, M k → w.heap.size ≤ k

theorem Disk.lt {w : World} {p : Nat} {M : Nat → Prop} {S : St} (h : Disk w p M S) {k : Nat} (hk : M k) : k < w.heap.size := by
  obtain ⟨bf, bs, ca, h, rfl⟩ := h
  rcases hk with rfl | rfl | hk
  · exact lt_of_some h.own
  · exact h.files.lt
  · obtain ⟨fs, hr, _⟩ := h.changes
    rcases hr.2 with ⟨hv, _⟩ | ⟨g, cap, cur, hv, _, hh, _⟩
    · rw [hv] at hk; cases hk
    · rw [hv] at hk; cases hk; exact lt_of_some hh

theorem Disk.fresh {w w' : World} {p : Nat} {M : Nat → Prop} {S : St} (h : Disk w p M S) (hf : Fr None' w w') : Disk w' p M S := by
  obtain ⟨bf, bs, ca, h, rfl⟩ := h
  exact ⟨bf, bs, ca, h.fresh hf, rfl⟩

theorem Fr.then {a b c : World} (h : Fr None' a b) (k : Fr None' b c) : Fr None' a c := h.trans k (fun _ e => Or.inl e)

theorem Live.fresh {w wi wj : World} {p : Nat} {S : St} (h : Live w wi p S) (hf : Fr None' wi wj) : Live w wj p S := by
  obtain ⟨M, h1, h2, h3⟩ := h
  exact ⟨M, h1.fresh hf, h2.then hf, h3⟩

theorem Live.step {w wi wj : World} {p : Nat} {M : Nat → Prop} {S' : St} (h2 : Fr None' w wi) (h3 : ∀ k, M k → w.heap.size ≤ k) (hs : Stepped M wi p S' wj) : Live w wj p S' := by
  obtain ⟨M', h4, h5, h6⟩ := hs
  refine ⟨M', h4, h2.trans h5 (fun i e => Or.inr (h3 i e)), fun k hk => ?_⟩
  rcases h6 k hk with e | e
  · exact h3 k e
  · exact Nat.le_trans h2.size e

/-- The slice v lies below w, or was laid since w0. -/
def Aside (w w0 : World) (v : Value) : Prop := ∀ ad n c, v = .slice (some ad) n c → n ≠ 0 → ad.block < w.heap.size ∨ w0.heap.size ≤ ad.block

theorem Aside.out {w w0 : World} {v : Value} {p : Nat} {M : Nat → Prop} {S : St} (h : Aside w w0 v) (hd : Disk w0 p M S) (h3 : ∀ k, M k → w.heap.size ≤ k) : Out M v := by
  intro ad n c hv h0 hm
  have := hd.lt hm
  have := h3 _ hm
  rcases h ad n c hv h0 with e | e <;> omega

theorem live_new (room : Int) (w : World) : Calls Tryz.prog 28 #[.int .i64 room] w fun e w' => ∃ p, e = .returned (.pointer (some ⟨p, 0, none⟩)) ∧ Live w w' p (St.new room) :=
  (new_any room w).mono fun _ _ ⟨p, M, h1, h2, h3, h4⟩ => ⟨p, h1, M, h2, h3, h4⟩

theorem live_write {w w0 wi : World} {p : Nat} {S : St} (h : Live w w0 p S) (hf : Fr None' w0 wi) (hS : S.fine) (s : ByteArray) (hs : s.size ≤ maxLen) (v : Value) (b : List UInt8) (hv : Bytes wi v b) (hO : Aside w w0 v)
    (hu : used S.F < 35184372088832) (hb : b.length < 35184372088832) :
    Calls Tryz.prog 42 #[.pointer (some ⟨p, 0, none⟩), .string s, v] wi fun e w' => ∃ v', e = .returned (.int .i64 (S.write ⟨s.data.toList, v', b⟩).1) ∧ Live w w' p (S.write ⟨s.data.toList, v', b⟩).2 := by
  obtain ⟨M, h1, h2, h3⟩ := h
  refine (write_any p M S s v b wi (h1.fresh hf) hS hs hv (hO.out h1 h3) hu hb).mono ?_
  rintro e w' ⟨v', e1, hst⟩
  exact ⟨v', e1, Live.step (h2.then hf) h3 hst⟩

theorem live_rename {w wi : World} {p : Nat} {S : St} (h : Live w wi p S) (hS : S.fine) (s s' : ByteArray) (hs : s.size ≤ maxLen) (hs' : s'.size ≤ maxLen) :
    Calls Tryz.prog 52 #[.pointer (some ⟨p, 0, none⟩), .string s, .string s'] wi fun e w' => e = .returned (.int .i64 (S.rename s.data.toList s'.data.toList).1) ∧ Live w w' p (S.rename s.data.toList s'.data.toList).2 := by
  obtain ⟨M, h1, h2, h3⟩ := h
  exact (rename_any p M S s s' wi h1 hS hs hs').mono fun _ _ ⟨e1, hst⟩ => ⟨e1, Live.step h2 h3 hst⟩

theorem live_sync {w wi : World} {p : Nat} {S : St} (h : Live w wi p S) (hS : S.fine) :
    Calls Tryz.prog 49 #[.pointer (some ⟨p, 0, none⟩)] wi fun e w' => e = .returned (.int .i64 S.sync.1) ∧ Live w w' p S.sync.2 := by
  obtain ⟨M, h1, h2, h3⟩ := h
  exact (sync_any p M S wi h1 hS).mono fun _ _ ⟨e1, hst⟩ => ⟨e1, Live.step h2 h3 hst⟩

theorem live_crash {w w0 wi : World} {p : Nat} {S : St} (h : Live w w0 p S) (hf : Fr None' w0 wi) (hS : S.fine) (v : Value) (keep : List Bool) (hv : Bools wi v keep) (hO : Aside w w0 v) :
    Calls Tryz.prog 20 #[.pointer (some ⟨p, 0, none⟩), v] wi fun e w' => e = .returned (.tuple #[]) ∧ Live w w' p (S.crash keep) := by
  obtain ⟨M, h1, h2, h3⟩ := h
  exact (crash_any p M S v keep wi (h1.fresh hf) hS hv (hO.out h1 h3)).mono fun _ _ ⟨e1, hst⟩ => ⟨e1, Live.step (h2.then hf) h3 hst⟩

theorem live_read {w wi : World} {p : Nat} {S : St} (h : Live w wi p S) (s : ByteArray) (hs : s.size ≤ maxLen) (hu : used S.F < 35184372088832) :
    Calls Tryz.prog 39 #[.pointer (some ⟨p, 0, none⟩), .string s] wi fun e w' => ∃ v, e = .returned (.tuple #[v, .int .i64 (S.read s.data.toList).2]) ∧ Bytes w' v (S.read s.data.toList).1 ∧ Live w w' p S ∧ Fr None' wi w' := by
  have hL := h
  obtain ⟨M, h1, h2, h3⟩ := h
  exact (read_any p M S s wi h1 hs hu).mono fun _ _ ⟨v, e1, hd, hf⟩ => ⟨v, e1, hd.bytes, hL.fresh hf, hf⟩

theorem live_used {w wi : World} {p : Nat} {S : St} (h : Live w wi p S) (hu : used S.F < 35184372088832) :
    Calls Tryz.prog 94 #[.pointer (some ⟨p, 0, none⟩)] wi fun e w' => e = .returned (.int .i64 (used S.F)) ∧ Live w w' p S ∧ Fr None' wi w' := by
  have hL := h
  obtain ⟨M, ⟨bf, bs, ca, h1, _⟩, h2, h3⟩ := h
  exact (used_any p bf bs ca S wi h1 (by omega)).mono fun _ _ ⟨e1, hf⟩ => ⟨e1, hL.fresh hf, hf⟩

theorem live_acts {w wi : World} {p : Nat} {S : St} (h : Live w wi p S) : Calls Tryz.prog 24 #[.pointer (some ⟨p, 0, none⟩)] wi fun e w' => e = .returned (.int .i64 S.acts) ∧ wi = w' := by
  obtain ⟨M, ⟨bf, bs, ca, h1, _⟩, h2, h3⟩ := h
  exact (acts_any p bf bs ca S wi h1).mono fun _ _ ⟨e1, hf⟩ => ⟨e1, hf.symm⟩

/-- string(v). -/
theorem str_any {w : World} {v : Value} {b : List UInt8} (h : Bytes w v b) : (convert 31 9 v).run Tryz.prog w = .ok (.string ⟨b.toArray⟩) w := by
  rcases h with ⟨rfl, rfl⟩ | ⟨ad, c, rfl, hc⟩
  · rw [run_convert_bytes_string w 31 9 5 none 0 0 Tryz.underlying31 Tryz.underlying5 Tryz.underlying9]
    rfl
  · exact run_convert_bytes_back w 31 9 5 ad c b Tryz.underlying31 Tryz.underlying5 Tryz.underlying9 (fun j hj => hc j _ (by simp [u8s, List.getElem?_eq_getElem hj]))

/-- A slice that has just been laid. -/
theorem bytes_new (w : World) (b : List UInt8) (c : Nat) (fr : Nat × Nat) : Bytes (w.alloc (.cells (u8s b).toArray 5 fr)) (.slice (some ⟨w.heap.size, 0, none⟩) b.length c) b := by
  refine Or.inr ⟨_, _, rfl, fun j u hj => ?_⟩
  have e : (⟨w.heap.size, 0, none⟩ : Addr).add j = ⟨w.heap.size, j, none⟩ := by unfold Addr.add; split <;> simp_all
  rw [e]
  have hh := (MapKept.heap_alloc w (.cells (u8s b).toArray 5 fr)).1
  unfold World.cell?
  simp only [hh]
  simpa using hj

theorem bools_new (w : World) (l : List Bool) (c : Nat) : Bools (w.alloc (.cells (l.map Value.bool).toArray 4)) (.slice (some ⟨w.heap.size, 0, none⟩) l.length c) l := by
  refine Or.inr ⟨_, _, rfl, fun j u hj => ⟨rfl, ?_⟩⟩
  have hh := (MapKept.heap_alloc w (.cells (l.map Value.bool).toArray 4)).1
  unfold World.cell?
  simp only [hh]
  simp [hj]

theorem aside_new (w w0 : World) (n c : Nat) : Aside w w0 (.slice (some ⟨w0.heap.size, 0, none⟩) n c) := by
  intro ad n' c' e _
  cases e
  exact Or.inr (Nat.le_refl _)

end Go.Proofs.YtnmghgbpgpaomaaGreat
