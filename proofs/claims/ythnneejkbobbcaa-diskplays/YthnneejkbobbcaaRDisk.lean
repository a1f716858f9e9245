/-
  What is proved here: what the document's disk is in memory, and what its power, did, Fuse and Sync do. Condition: the disk lies in memory, and its counts are small.
-/
import Derived.Test.YthnneejkbobbcaaRChanged
namespace Go.Proofs.Ythnneejkbobbcaa
open Go.RowKit Go.Maps Go.WideMaps
set_option maxRecDepth 100000

/-- The document's disk, as plain data. -/
structure RSt where
  room : Int
  L : List Tri
  Y : List Tri
  ch : List RCh
  done : Int
  fused : Bool
  left : Int
  off : Bool

def chCells (c : RCh) : List Value := [.string c.frm, .string c.to, c.v]
def rcells (R : RSt) (vL vO vC : Value) : Array Value := #[.int .i64 R.room, vL, vO, vC, .int .i64 R.done, .bool R.fused, .int .i64 R.left, .bool R.off]

/-- Block p of w is the document's disk R; its files are the row vL, those that were synced vO, its changes vC. -/
structure RAt (w : World) (p : Nat) (vL vO vC : Value) (R : RSt) : Prop where
  own : w.heap[p]? = some (.cells (rcells R vL vO vC) 43)
  files : FilesRes w vL R.L
  old : FilesRes w vO R.Y
  row : w.ownsRow 0 80 3 vC R.ch.length (R.ch.flatMap chCells)
  data : ∀ c ∈ R.ch, Data w c.v c.b

/-- The blocks of it that turn. -/
def RMut (p : Nat) (vC : Value) (k : Nat) : Prop := k = p ∨ vC.ownBlock = some k

def RDisk (w : World) (p : Nat) (M : Nat → Prop) (R : RSt) : Prop := ∃ vL vO vC, RAt w p vL vO vC R ∧ M = RMut p vC

/-- A call that has made it be R'. -/
def RStepped (M : Nat → Prop) (w : World) (p : Nat) (R' : RSt) (w' : World) : Prop := ∃ M', RDisk w' p M' R' ∧ Fr M w w' ∧ ∀ k, M' k → M k ∨ w.heap.size ≤ k

/-- What lies in blocks that do not turn stays. -/
def RStill (M : Nat → Prop) (w : World) : Prop := ∀ k c e f, w.heap[k]? = some (.cells c e f) → M k → e = 43 ∨ e = 80

theorem RAt.still {w : World} {p : Nat} {vL vO vC : Value} {R : RSt} (h : RAt w p vL vO vC R) : RStill (RMut p vC) w := by
  intro k c e f hk hm
  rcases hm with rfl | hm
  · rw [h.own] at hk; cases hk; exact Or.inl rfl
  · rcases h.row.2 with ⟨hv, _⟩ | ⟨g, cap, cur, hv, _, hh, _⟩
    · rw [hv] at hm; cases hm
    · rw [hv] at hm; cases hm
      rw [hh] at hk; cases hk; exact Or.inr rfl

section
variable {M : Nat → Prop} {w w' : World}

theorem Fr.other (h : Fr M w w') (hs : RStill M w) {k : Nat} {c : Array Value} {e : TypeId} {f : Nat × Nat} (hk : w.heap[k]? = some (.cells c e f)) (h1 : e ≠ 43) (h2 : e ≠ 80) : w'.heap[k]? = some (.cells c e f) :=
  h.at hk (fun hm => by rcases hs k c e f hk hm with e1 | e1; exact h1 e1; exact h2 e1)

theorem Fr.otherRow (h : Fr M w w') (hs : RStill M w) {base : Nat} {e : TypeId} {size : Nat} {v : Value} {n : Nat} {xs : List Value} (hr : w.ownsRow base e size v n xs) (h1 : e ≠ 43) (h2 : e ≠ 80) : w'.ownsRow base e size v n xs := by
  refine ⟨hr.1, ?_⟩
  rcases hr.2 with h3 | ⟨g, cap, cur, hv, hg, hh, r⟩
  · exact Or.inl h3
  · exact Or.inr ⟨g, cap, cur, hv, hg, h.other hs hh h1 h2, r⟩

theorem Fr.otherData (h : Fr M w w') (hs : RStill M w) {v : Value} {b : List UInt8} (hd : Data w v b) : Data w' v b := h.otherRow hs hd (by decide) (by decide)

theorem Fr.otherFiles (h : Fr M w w') (hs : RStill M w) {v : Value} {L : List Tri} (hd : FilesRes w v L) : FilesRes w' v L :=
  ⟨h.otherRow hs hd.1 (by decide) (by decide), fun t ht => h.otherData hs (hd.2 t ht)⟩
end

theorem RAt.p_row {w : World} {p : Nat} {vL vO vC : Value} {R : RSt} (h : RAt w p vL vO vC R) : vC.ownBlock ≠ some p := by
  intro e
  rcases h.row.2 with ⟨hv, _⟩ | ⟨g, cap, cur, hv, _, hh, _⟩
  · rw [hv] at e; cases e
  · rw [hv] at e; cases e
    rw [h.own] at hh; cases hh

theorem fr_cell (w : World) (p i : Nat) (u : Value) : Fr (fun k => k = p) w (w.setCell ⟨p, i, none⟩ u) := Fr.setCell (M := fun k => k = p) w rfl u

theorem fr_cells {w w1 w2 : World} {p : Nat} (h : Fr (fun k => k = p) w w1) (h' : Fr (fun k => k = p) w1 w2) : Fr (fun k => k = p) w w2 := h.trans h' (fun _ e => Or.inl e)

/-- One cell of it is stored. -/
theorem RAt.stored {w : World} {p : Nat} {vL vO vC vL' vO' vC' : Value} {R R' : RSt} {i : Nat} {u : Value} (h : RAt w p vL vO vC R) (hc : (rcells R vL vO vC).setIfInBounds i u = rcells R' vL' vO' vC')
    (hL : FilesRes w vL' R'.L) (hO : FilesRes w vO' R'.Y) (hr : w.ownsRow 0 80 3 vC' R'.ch.length (R'.ch.flatMap chCells)) (hd : ∀ c ∈ R'.ch, Data w c.v c.b) (hp : vC'.ownBlock ≠ some p) : RAt (w.setCell ⟨p, i, none⟩ u) p vL' vO' vC' R' := by
  have fr := fr_cell w p i u
  have st : RStill (fun k => k = p) w := fun k c e f hk hm => h.still k c e f hk (Or.inl hm)
  refine ⟨?_, fr.otherFiles st hL, fr.otherFiles st hO, fr.row hr (fun g hg e => hp (e ▸ hg)), fun c hc' => fr.otherData st (hd c hc')⟩
  rw [heap_setCell_same h.own, hc]

theorem RAt.field {w : World} {p : Nat} {vL vO vC : Value} {R R' : RSt} {i : Nat} {u : Value} (h : RAt w p vL vO vC R) (hc : (rcells R vL vO vC).setIfInBounds i u = rcells R' vL vO vC) (h1 : R'.L = R.L) (h2 : R'.Y = R.Y) (h3 : R'.ch = R.ch) : RAt (w.setCell ⟨p, i, none⟩ u) p vL vO vC R' :=
  h.stored hc (h1 ▸ h.files) (h2 ▸ h.old) (h3 ▸ h.row) (h3 ▸ h.data) h.p_row

theorem RAt.fresh {w w' : World} {p : Nat} {vL vO vC : Value} {R : RSt} (h : RAt w p vL vO vC R) (hf : Fr None' w w') : RAt w' p vL vO vC R :=
  ⟨hf.at h.own (fun e => e), h.files.kept hf (stillN _), h.old.kept hf (stillN _), hf.row h.row (fun _ _ e => e), fun c hc => hf.row (h.data c hc) (fun _ _ e => e)⟩

/-- The cells, for a walk. -/
theorem RAt.cells {w : World} {p : Nat} {vL vO vC : Value} {R : RSt} (h : RAt w p vL vO vC R) :
    w.cell? ⟨p, 0, none⟩ = some (.int .i64 R.room) ∧ w.cell? ⟨p, 1, none⟩ = some vL ∧ w.cell? ⟨p, 2, none⟩ = some vO ∧ w.cell? ⟨p, 3, none⟩ = some vC ∧
    w.cell? ⟨p, 4, none⟩ = some (.int .i64 R.done) ∧ w.cell? ⟨p, 5, none⟩ = some (.bool R.fused) ∧ w.cell? ⟨p, 6, none⟩ = some (.int .i64 R.left) ∧ w.cell? ⟨p, 7, none⟩ = some (.bool R.off) ∧ ∀ i, w.frozen? ⟨p, i, none⟩ = false := by
  have := h.own
  refine ⟨?_, ?_, ?_, ?_, ?_, ?_, ?_, ?_, ?_⟩ <;> simp [World.cell?, World.frozen?, this, rcells]

/-- The power is asked. -/
def RSt.asked (R : RSt) : RSt := { R with off := R.off || (R.fused && R.left == 0) }
def RSt.counted (R : RSt) : RSt := { R with done := R.done + 1, left := if R.fused then R.left - 1 else R.left }

theorem rpower_any (p : Nat) (vL vO vC : Value) (R : RSt) (w : World) (h : RAt w p vL vO vC R) :
    Calls Try.prog 53 #[.pointer (some ⟨p, 0, none⟩)] w fun e w' => e = .returned (.bool (!R.asked.off)) ∧ RAt w' p vL vO vC R.asked ∧ Fr (fun k => k = p) w w' := by
  obtain ⟨c0, c1, c2, c3, c4, c5, c6, c7, z⟩ := h.cells
  have z7 := z 7
  clear z c0 c1 c2 c3 c4
  cases hf : R.fused
  · have e1 : R.asked = R := by cases R; simp_all [RSt.asked]
    rw [e1]
    rw [hf] at c5
    go_enter Try.func53, Try.ntmps53
    go_wp2
    go_ret
    exact ⟨rfl, h, Fr.refl _ _⟩
  · rw [hf] at c5
    by_cases h0 : R.left = 0
    · have e1 : R.asked = { R with off := true } := by cases R; simp_all [RSt.asked]
      rw [e1]
      rw [h0] at c6
      go_enter Try.func53, Try.ntmps53
      go_wp2
      go_ret
      exact ⟨rfl, h.field rfl rfl rfl rfl, fr_cell _ _ _ _⟩
    · have e1 : R.asked = R := by cases R; simp_all [RSt.asked]
      rw [e1]
      go_enter Try.func53, Try.ntmps53
      go_wp2
      go_ret
      exact ⟨rfl, h, Fr.refl _ _⟩

theorem rdid_any (p : Nat) (vL vO vC : Value) (R : RSt) (w : World) (h : RAt w p vL vO vC R) (h0 : 0 ≤ R.done) (h1 : R.done < 1000000) (h2 : -1000000 < R.left) (h3 : R.left ≤ 9223372036854775807) :
    Calls Try.prog 55 #[.pointer (some ⟨p, 0, none⟩)] w fun e w' => e = .returned (.int .i64 0) ∧ RAt w' p vL vO vC R.counted ∧ Fr (fun k => k = p) w w' := by
  obtain ⟨c0, c1, c2, c3, c4, c5, c6, c7, z⟩ := h.cells
  have z4 := z 4
  have z6 := z 6
  have w1 : IntKind.i64.wrap (R.done + 1) = R.done + 1 := by rw [IntKind.wrap_i64]; omega
  have w2 : IntKind.i64.wrap (R.left - 1) = R.left - 1 := by rw [IntKind.wrap_i64]; omega
  clear z c0 c1 c2 c3 c7
  cases hf : R.fused
  · have e1 : R.counted = { R with done := R.done + 1 } := by cases R; simp_all [RSt.counted]
    rw [e1]
    rw [hf] at c5
    clear h0 h1 h2 h3
    go_enter Try.func55, Try.ntmps55
    go_wp2
    go_ret
    exact ⟨rfl, h.field rfl rfl rfl rfl, fr_cell _ _ _ _⟩
  · have e1 : R.counted = { R with done := R.done + 1, left := R.left - 1 } := by cases R; simp_all [RSt.counted]
    rw [e1]
    rw [hf] at c5
    clear h0 h1 h2 h3
    go_enter Try.func55, Try.ntmps55
    go_wp2
    go_ret
    have a1 : RAt _ p vL vO vC { R with done := R.done + 1 } := h.field (i := 4) (u := .int .i64 (R.done + 1)) rfl rfl rfl rfl
    exact ⟨rfl, a1.field rfl rfl rfl rfl, fr_cells (fr_cell _ _ _ _) (fr_cell _ _ _ _)⟩
end Go.Proofs.Ythnneejkbobbcaa
