/-
  What is proved here: the program's disk and the document's lie apart: what the one turns, the other keeps. No condition.
-/
import Derived.Test.YthnneejkbobbcaaRRel
namespace Go.Proofs.Ythnneejkbobbcaa
open Go.RowKit Go.Maps Go.WideMaps
set_option maxRecDepth 100000

/-- All blocks of M are the document's disk's. -/
def RCells (M : Nat → Prop) (w : World) : Prop := ∀ k, M k → ∃ c e f, w.heap[k]? = some (.cells c e f) ∧ (e = 43 ∨ e = 80)

theorem RAt.held {w : World} {p : Nat} {vL vO vC : Value} {R : RSt} (h : RAt w p vL vO vC R) : RCells (RMut p vC) w := by
  rintro k (rfl | hm)
  · exact ⟨_, _, _, h.own, Or.inl rfl⟩
  · rcases h.row.2 with ⟨hv, _⟩ | ⟨g, cap, cur, hv, _, hh, _⟩
    · rw [hv] at hm; cases hm
    · rw [hv] at hm; cases hm
      exact ⟨_, _, _, hh, Or.inr rfl⟩

theorem RDisk.held {w : World} {p : Nat} {M : Nat → Prop} {R : RSt} (h : RDisk w p M R) : RCells M w := by
  obtain ⟨vL, vO, vC, h, rfl⟩ := h
  exact h.held

theorem RCells.still {M : Nat → Prop} {w : World} (h : RCells M w) : RStill M w := fun k c e f hk hm => by
  obtain ⟨c', e', f', h1, h2⟩ := h k hm
  rw [h1] at hk
  cases hk
  exact h2

section
variable {M : Nat → Prop} {w w' : World}

theorem Fr.namedR (h : Fr M w w') (hs : RStill M w) {b : Nat} {k : List UInt8} (hd : Named w b k) : Named w' b k := by
  obtain ⟨s, h1, h2, h3⟩ := hd
  exact ⟨s, h.other hs h1 (by decide) (by decide), h2, h3⟩

theorem Fr.cloR (h : Fr M w w') (hs : RStill M w) {f : Value} {c : Ch} (hd : Clo w f c) : Clo w' f c := by
  rcases c.three with ⟨t, rfl⟩ | ⟨a, b, rfl⟩ | ⟨k, rfl⟩
  · obtain ⟨b1, b2, e, h1, h2, h3⟩ := hd; exact ⟨b1, b2, e, h.other hs h1 (by decide) (by decide), h.namedR hs h2, h.otherData hs h3⟩
  · obtain ⟨b1, b2, e, h1, h2⟩ := hd; exact ⟨b1, b2, e, h.namedR hs h1, h.namedR hs h2⟩
  · obtain ⟨b1, e, h1⟩ := hd; exact ⟨b1, e, h.namedR hs h1⟩

theorem Fr.closR (h : Fr M w w') (hs : RStill M w) : ∀ {fs : List Value} {cs : List Ch}, Clos w fs cs → Clos w' fs cs
  | [], [], _ => trivial
  | _ :: _, _ :: _, hd => ⟨h.cloR hs hd.1, Fr.closR h hs hd.2⟩
  | [], _ :: _, hd => hd.elim
  | _ :: _, [], hd => hd.elim

theorem Fr.mapR (h : Fr M w w') (hc : RCells M w) {b n : Nat} {D : DataW Value} (hm : w.ownsMap Try.prog 9 heldR b n D) : w'.ownsMap Try.prog 9 heldR b n D := by
  refine h.map hm (fun hb => ?_)
  obtain ⟨c, e, f, h1, _⟩ := hc b hb
  obtain ⟨es, cl, h2, _⟩ := hm
  rw [h1] at h2
  cases h2

/-- The program's disk stays while the document's turns. -/
theorem Disk.keptR {p : Nat} {N : Nat → Prop} {S : St} (hd : Disk w p N S) (h : Fr M w w') (hc : RCells M w) : Disk w' p N S := by
  obtain ⟨bf, bs, ca, hd, rfl⟩ := hd
  have hs := hc.still
  obtain ⟨fs, h1, h2⟩ := hd.changes
  exact ⟨bf, bs, ca, ⟨h.other hs hd.own (by decide) (by decide), h.mapR hc hd.files, h.mapR hc hd.synced, hd.ne, ⟨fs, h.otherRow hs h1 (by decide) (by decide), h.closR hs h2⟩, fun t ht => h.otherData hs (hd.dataF t ht), fun t ht => h.otherData hs (hd.dataY t ht)⟩, rfl⟩

theorem Fr.rowD (h : Fr M w w') (hs : Still M w) {base : Nat} {e : TypeId} {size : Nat} {v : Value} {n : Nat} {xs : List Value} (hr : w.ownsRow base e size v n xs) (h1 : e ≠ 59) (h2 : e ≠ 75) : w'.ownsRow base e size v n xs := by
  refine ⟨hr.1, ?_⟩
  rcases hr.2 with h3 | ⟨g, cap, cur, hv, hg, hh, r⟩
  · exact Or.inl h3
  · exact Or.inr ⟨g, cap, cur, hv, hg, h.cellsAt hs hh h1 h2, r⟩

/-- The document's disk stays while the program's turns. -/
theorem RDisk.keptD {p : Nat} {N : Nat → Prop} {R : RSt} (hd : RDisk w p N R) (h : Fr M w w') (hs : Still M w) : RDisk w' p N R := by
  obtain ⟨vL, vO, vC, hd, rfl⟩ := hd
  exact ⟨vL, vO, vC, ⟨h.cellsAt hs hd.own (by decide) (by decide), hd.files.kept h hs, hd.old.kept h hs, h.rowD hs hd.row (by decide) (by decide), fun c hc => h.data hs (hd.data c hc)⟩, rfl⟩
end
end Go.Proofs.Ythnneejkbobbcaa
