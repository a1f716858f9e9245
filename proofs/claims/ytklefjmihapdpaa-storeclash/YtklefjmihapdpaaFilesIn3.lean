/-
  What is proved here: what a row of files is in memory. No condition.
-/
import Derived.Test.YtklefjmihapdpaaHead3
namespace Go.Proofs.Ytklefjmihapdpaa
open Go.RowKit Go.Maps Go.WideMaps
set_option maxRecDepth 100000

theorem bytes_slice {w : World} {v : Value} {b : List UInt8} (h : Bytes w v b) : ∃ a c, v = .slice a b.length c := by
  rcases h with ⟨rfl, rfl⟩ | ⟨ad, c, rfl, _⟩
  · exact ⟨none, 0, rfl⟩
  · exact ⟨_, _, rfl⟩

/-- A slice that lies below block B. -/
def LowN (B : Nat) (v : Value) : Prop := ∀ ad n c, v = .slice (some ad) n c → n ≠ 0 → ad.block < B

theorem LowN.out {B : Nat} {v : Value} {M : Nat → Prop} (h : LowN B v) (hM : ∀ k, M k → B ≤ k) : Out M v := fun ad n c e h0 hm => by
  have h1 := h ad n c e h0
  have h2 := hM _ hm
  omega

/-- A file, as plain data. -/
structure FileD where
  name : ByteArray
  b : List UInt8

/-- The data of a file that came in, below block B. -/
def FileVal (w : World) (B : Nat) (f : FileD) (vb : Value) : Prop := Bytes w vb f.b ∧ LowN B vb ∧ f.name.size ≤ maxLen

theorem FileVal.kept {w w' : World} {B : Nat} {M : Nat → Prop} {f : FileD} {vb : Value} (h : FileVal w B f vb) (hf : Fr M w w') (hM : ∀ k, M k → B ≤ k) : FileVal w' B f vb :=
  ⟨h.1.kept hf (h.2.1.out hM), h.2⟩

/-- The slice v holds these files, below block B. -/
def FilesAt (w : World) (B : Nat) (v : Value) (L : List FileD) : Prop :=
  (v = .slice none 0 0 ∧ L = []) ∨ ∃ ad c, v = .slice (some ad) L.length c ∧ ∀ i f, L[i]? = some f → ad.spot = none ∧ ad.block < B ∧ ∃ vb, FileVal w B f vb ∧
    w.cell? ⟨ad.block, ad.off + i * 2, none⟩ = some (.string f.name) ∧ w.cell? ⟨ad.block, ad.off + i * 2 + 1, none⟩ = some vb

theorem FilesAt.kept {w w' : World} {B : Nat} {v : Value} {L : List FileD} {M : Nat → Prop} (h : FilesAt w B v L) (hf : Fr M w w') (hM : ∀ k, M k → B ≤ k) (hB : B ≤ w.heap.size) : FilesAt w' B v L := by
  rcases h with h | ⟨ad, c, hv, hc⟩
  · exact Or.inl h
  · refine Or.inr ⟨ad, c, hv, fun i o hi => ?_⟩
    obtain ⟨h0, h1, vb, h2, c0, c1⟩ := hc i o hi
    have hk : ∀ off, w'.cell? ⟨ad.block, off, none⟩ = w.cell? ⟨ad.block, off, none⟩ := fun off =>
      World.cell?_of_block (w := w) (a := ⟨ad.block, off, none⟩) (hf.block ad.block (by omega) (fun e => by have := hM _ e; omega))
    exact ⟨h0, h1, vb, h2.kept hf hM, (hk _).trans c0, (hk _).trans c1⟩

theorem FilesAt.shape {w : World} {B : Nat} {v : Value} {L : List FileD} (h : FilesAt w B v L) : ∃ va vc, v = .slice va L.length vc ∧ ∀ i f, L[i]? = some f → ∃ g off vb, va = some ⟨g, off, none⟩ ∧ g < B ∧ FileVal w B f vb ∧
    w.cell? ⟨g, off + i * 2, none⟩ = some (.string f.name) ∧ w.cell? ⟨g, off + i * 2 + 1, none⟩ = some vb := by
  rcases h with ⟨rfl, rfl⟩ | ⟨ad, c, rfl, hc⟩
  · exact ⟨none, 0, rfl, fun i o hi => by simp at hi⟩
  · refine ⟨_, c, rfl, fun i o hi => ?_⟩
    obtain ⟨h0, h1, vb, r⟩ := hc i o hi
    exact ⟨ad.block, ad.off, vb, by rw [← h0], h1, r⟩
end Go.Proofs.Ytklefjmihapdpaa
