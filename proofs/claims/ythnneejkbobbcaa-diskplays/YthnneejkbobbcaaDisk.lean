/-
  What is proved here: what a disk is in memory, and that it stays so while blocks that are not its own turn. No condition.
-/
import Derived.Test.YthnneejkbobbcaaBase
import Derived.Test.YthnneejkbobbcaaRows
namespace Go.Proofs.Ythnneejkbobbcaa
open Go.RowKit Go.Maps

/-- A change, as plain data: a name is written, renamed or removed. -/
abbrev Ch : Type := Sum Tri (Sum (List UInt8 × List UInt8) (List UInt8))
abbrev Ch.wr (t : Tri) : Ch := Sum.inl t
abbrev Ch.mv (a b : List UInt8) : Ch := Sum.inr (Sum.inl (a, b))
abbrev Ch.rm (k : List UInt8) : Ch := Sum.inr (Sum.inr k)

theorem Ch.three (c : Ch) : (∃ t, c = Ch.wr t) ∨ (∃ a b, c = Ch.mv a b) ∨ (∃ k, c = Ch.rm k) := by
  rcases c with t | ⟨a, b⟩ | k
  · exact Or.inl ⟨t, rfl⟩
  · exact Or.inr (Or.inl ⟨a, b, rfl⟩)
  · exact Or.inr (Or.inr ⟨k, rfl⟩)

def Ch.app : Ch → List Tri → List Tri
  | Sum.inl t, T => put T t
  | Sum.inr (Sum.inl (a, b)), T => match get T a with
    | none => T
    | some t => put (del T a) { t with k := b }
  | Sum.inr (Sum.inr k), T => del T k

/-- What a disk is, as plain data. -/
structure St where
  room : Int
  n : Nat
  F : List Tri
  Y : List Tri
  ch : List Ch
  acts : Int
  fuse : Int
  down : Bool

def u8s (b : List UInt8) : List Value := b.map (fun c => .int .u8 c.toNat)

/-- The slice v holds the bytes b, and is a row of its own. -/
def Data (w : World) (v : Value) (b : List UInt8) : Prop := w.ownsRow 0 5 1 v b.length (u8s b)

def AllData (w : World) (T : List Tri) : Prop := ∀ t ∈ T, Data w t.v t.b

def Named (w : World) (b : Nat) (k : List UInt8) : Prop := ∃ s : ByteArray, w.heap[b]? = some (.cells #[.string s] 9) ∧ s.data.toList = k ∧ s.size ≤ maxLen

/-- The function value f does the change c. -/
def Clo (w : World) (f : Value) : Ch → Prop
  | Sum.inl t => ∃ b1 b2, f = .func (.func 46) #[] #[.pointer (some ⟨b1, 0, none⟩), .pointer (some ⟨b2, 0, none⟩)] ∧ w.heap[b1]? = some (.cells #[t.v] 33) ∧ Named w b2 t.k ∧ Data w t.v t.b
  | Sum.inr (Sum.inl (a, b)) => ∃ b1 b2, f = .func (.func 48) #[] #[.pointer (some ⟨b1, 0, none⟩), .pointer (some ⟨b2, 0, none⟩)] ∧ Named w b1 a ∧ Named w b2 b
  | Sum.inr (Sum.inr k) => ∃ b1, f = .func (.func 52) #[] #[.pointer (some ⟨b1, 0, none⟩)] ∧ Named w b1 k

def Clos (w : World) : List Value → List Ch → Prop
  | [], [] => True
  | f :: fs, c :: cs => Clo w f c ∧ Clos w fs cs
  | _, _ => False

def cellsOf (S : St) (bf bs : Nat) (ca : Value) : Array Value := #[.int .i64 S.room, .map (some bf), .map (some bs), ca, .int .i64 S.acts, .int .i64 S.fuse, .bool S.down]

/-- Block p of w is the disk S; its files lie in the map bf, those that were synced in bs, its changes in ca. -/
structure DiskAt (w : World) (p bf bs : Nat) (ca : Value) (S : St) : Prop where
  own : w.heap[p]? = some (.cells (cellsOf S bf bs ca) 59)
  files : w.ownsMap Try.prog 9 heldR bf S.n (toD S.F)
  synced : w.ownsMap Try.prog 9 heldR bs S.n (toD S.Y)
  ne : bf ≠ bs
  changes : ∃ fs, w.ownsRow 0 75 1 ca S.ch.length fs ∧ Clos w fs S.ch
  dataF : AllData w S.F
  dataY : AllData w S.Y

/-- The blocks of a disk that turn. -/
def Mut (p bf : Nat) (ca : Value) (k : Nat) : Prop := k = p ∨ k = bf ∨ ca.ownBlock = some k

def Disk (w : World) (p : Nat) (M : Nat → Prop) (S : St) : Prop := ∃ bf bs ca, DiskAt w p bf bs ca S ∧ M = Mut p bf ca

/-- A call that has made the disk be S'. -/
def Stepped (M : Nat → Prop) (w : World) (p : Nat) (S' : St) (w' : World) : Prop := ∃ M', Disk w' p M' S' ∧ Fr M w w' ∧ ∀ k, M' k → M k ∨ w.heap.size ≤ k

theorem Clos.length {w : World} : ∀ {fs : List Value} {cs : List Ch}, Clos w fs cs → fs.length = cs.length
  | [], [], _ => rfl
  | _ :: _, _ :: _, h => by simp [Clos.length h.2]
  | [], _ :: _, h => h.elim
  | _ :: _, [], h => h.elim

theorem Clos.get {w : World} : ∀ {fs : List Value} {cs : List Ch}, Clos w fs cs → ∀ {i : Nat} {f : Value}, fs[i]? = some f → ∃ c, cs[i]? = some c ∧ Clo w f c
  | [], [], _, i, f, h => by simp at h
  | g :: fs, c :: cs, h, 0, f, hf => by simp at hf; subst hf; exact ⟨c, rfl, h.1⟩
  | g :: fs, c :: cs, h, i + 1, f, hf => by simpa using Clos.get h.2 (by simpa using hf)
  | [], _ :: _, h, _, _, _ => h.elim
  | _ :: _, [], h, _, _, _ => h.elim

theorem Clos.snoc {w : World} : ∀ {fs : List Value} {cs : List Ch}, Clos w fs cs → ∀ {f : Value} {c : Ch}, Clo w f c → Clos w (fs ++ [f]) (cs ++ [c])
  | [], [], _, _, _, h => ⟨h, trivial⟩
  | _ :: _, _ :: _, h, _, _, h' => ⟨h.1, h.2.snoc h'⟩
  | [], _ :: _, h, _, _, _ => h.elim
  | _ :: _, [], h, _, _, _ => h.elim

/-- What lies in blocks that do not turn stays. -/
def Still (M : Nat → Prop) (w : World) : Prop := ∀ k c e f, w.heap[k]? = some (.cells c e f) → M k → e = 59 ∨ e = 75

theorem DiskAt.still {w : World} {p bf bs : Nat} {ca : Value} {S : St} (h : DiskAt w p bf bs ca S) : Still (Mut p bf ca) w := by
  intro k c e f hk hm
  rcases hm with rfl | rfl | hm
  · rw [h.own] at hk; cases hk; exact Or.inl rfl
  · obtain ⟨es, cl, hb, _⟩ := h.files
    rw [hb] at hk; cases hk
  · obtain ⟨fs, hr, _⟩ := h.changes
    rcases hr.2 with ⟨hv, _⟩ | ⟨g, cap, cur, hv, _, hh, _⟩
    · rw [hv] at hm; cases hm
    · rw [hv] at hm; cases hm
      rw [hh] at hk; cases hk; exact Or.inr rfl

theorem Disk.still {w : World} {p : Nat} {M : Nat → Prop} {S : St} (h : Disk w p M S) : Still M w := by
  obtain ⟨bf, bs, ca, h, rfl⟩ := h
  exact h.still

section
variable {M : Nat → Prop} {w w' : World}

theorem Fr.cellsAt (h : Fr M w w') (hs : Still M w) {k : Nat} {c : Array Value} {e : TypeId} {f : Nat × Nat} (hk : w.heap[k]? = some (.cells c e f)) (h1 : e ≠ 59) (h2 : e ≠ 75) : w'.heap[k]? = some (.cells c e f) :=
  h.at hk (fun hm => by rcases hs k c e f hk hm with e1 | e1; exact h1 e1; exact h2 e1)

theorem Fr.data (h : Fr M w w') (hs : Still M w) {v : Value} {b : List UInt8} (hd : Data w v b) : Data w' v b := by
  obtain ⟨h1, h2⟩ := hd
  refine ⟨h1, ?_⟩
  rcases h2 with h2 | ⟨g, cap, cur, hv, hg, hh, r⟩
  · exact Or.inl h2
  · exact Or.inr ⟨g, cap, cur, hv, hg, h.cellsAt hs hh (by decide) (by decide), r⟩

theorem Fr.allData (h : Fr M w w') (hs : Still M w) {T : List Tri} (hd : AllData w T) : AllData w' T := fun t ht => h.data hs (hd t ht)

theorem Fr.named (h : Fr M w w') (hs : Still M w) {b : Nat} {k : List UInt8} (hd : Named w b k) : Named w' b k := by
  obtain ⟨s, h1, r⟩ := hd
  exact ⟨s, h.cellsAt hs h1 (by decide) (by decide), r⟩

theorem Fr.clo (h : Fr M w w') (hs : Still M w) {f : Value} {c : Ch} (hd : Clo w f c) : Clo w' f c := by
  rcases c.three with ⟨t, rfl⟩ | ⟨a, b, rfl⟩ | ⟨k, rfl⟩
  · obtain ⟨b1, b2, e, h1, h2, h3⟩ := hd; exact ⟨b1, b2, e, h.cellsAt hs h1 (by decide) (by decide), h.named hs h2, h.data hs h3⟩
  · obtain ⟨b1, b2, e, h1, h2⟩ := hd; exact ⟨b1, b2, e, h.named hs h1, h.named hs h2⟩
  · obtain ⟨b1, e, h1⟩ := hd; exact ⟨b1, e, h.named hs h1⟩

theorem Fr.clos (h : Fr M w w') (hs : Still M w) : ∀ {fs : List Value} {cs : List Ch}, Clos w fs cs → Clos w' fs cs
  | [], [], _ => trivial
  | _ :: _, _ :: _, hd => ⟨h.clo hs hd.1, Fr.clos h hs hd.2⟩
  | [], _ :: _, hd => hd.elim
  | _ :: _, [], hd => hd.elim
end

theorem heap_setCell_same {w : World} {p i : Nat} {c : Array Value} {e : TypeId} {f : Nat × Nat} (h : w.heap[p]? = some (.cells c e f)) (u : Value) :
    (w.setCell ⟨p, i, none⟩ u).heap[p]? = some (.cells (c.setIfInBounds i u) e f) := by
  simp [World.setCell, Array.getElem?_modify, h]

/-- The cells of a disk, for a walk. -/
theorem DiskAt.cells {w : World} {p bf bs : Nat} {ca : Value} {S : St} (h : DiskAt w p bf bs ca S) :
    w.cell? ⟨p, 0, none⟩ = some (.int .i64 S.room) ∧ w.cell? ⟨p, 1, none⟩ = some (.map (some bf)) ∧ w.cell? ⟨p, 2, none⟩ = some (.map (some bs)) ∧ w.cell? ⟨p, 3, none⟩ = some ca ∧
    w.cell? ⟨p, 4, none⟩ = some (.int .i64 S.acts) ∧ w.cell? ⟨p, 5, none⟩ = some (.int .i64 S.fuse) ∧ w.cell? ⟨p, 6, none⟩ = some (.bool S.down) ∧ ∀ i, w.frozen? ⟨p, i, none⟩ = false := by
  have := h.own
  refine ⟨?_, ?_, ?_, ?_, ?_, ?_, ?_, ?_⟩ <;> simp [World.cell?, World.frozen?, this, cellsOf]

end Go.Proofs.Ythnneejkbobbcaa
