/-
  What is proved here: what arguments that are rows of rows of bytes, and of truths, are in memory. No condition but that they can be read.
-/
import Derived.Test.YtklefjmihapdpaaArgs3
import Derived.Deep.Slices
namespace Go.Proofs.Ytklefjmihapdpaa
open Go.ChangeShapes Go.WideShapes Go.ChangeAt Go.RowKit Go.Maps Go.Deep
set_option maxRecDepth 100000

def boolOf : Value → Bool
  | .bool b => b
  | _ => false

theorem add_at {w : World} {a : Addr} {j : Nat} {u : Value} (h0 : a.spot = none) (h : w.cell? (a.add j) = some u) : w.cell? ⟨a.block, a.off + j, none⟩ = some u := by
  have e : a.add j = ⟨a.block, a.off + j, none⟩ := by
    unfold Addr.add
    split
    · rename_i hj; subst hj; rw [← h0]; rfl
    · rfl
  rw [← e]; exact h

theorem trod_bools {H : Type} {enc : TypeId × Value → H} {W : World} {sp : Nat → Bool} {held : Bool} {a : Option Addr} {n c : Nat} {d : DataW H} {ps : List MemPlace} (h : DataW.Trod enc Try.prog W 0 sp held 24 (.slice a n c) d ps) :
    ∃ l, Bools W (.slice a n c) l ∧ Low W (.slice a n c) := by
  obtain ⟨fuel, hf⟩ := h
  rcases open_slice1 Try.underlying24 (by kernel_rfl) hf with ⟨hcs, _⟩ | ⟨ad, len, cap, m, n', V, D, Pl, hcs, _, hl, hm, hmm, _, hx⟩
  · have e : Value.slice a n c = .slice none 0 0 := by simpa [Value.cells] using hcs
    rw [e]
    exact ⟨[], Or.inl ⟨rfl, rfl⟩, fun _ _ _ e => by cases e⟩
  · have e : Value.slice a n c = .slice (some ad) len cap := by simpa [Value.cells] using hcs
    rw [e]
    have hlm : len ≤ m := by rw [hmm]; split <;> omega
    have hV : ∀ i, i < len → W.cell? (ad.add i) = some (.bool (boolOf (V i))) := fun i hi => by
      obtain ⟨h1, h2⟩ := hx i (by omega)
      obtain ⟨b, hb, _⟩ := DataW.trod_bool Try.underlying4 h2
      simp only [List.cons.injEq, and_true] at hb
      rw [h1, hb]; rfl
    have hsp : 0 < len → ad.spot = none := fun h0 => by
      have := spot_none (hV 0 h0)
      simpa [Addr.add] using this
    refine ⟨(List.range len).map (fun i => boolOf (V i)), Or.inr ⟨ad, cap, by simp, fun j u hj => ?_⟩, fun ad' n' c' e h0 => ?_⟩
    · have hjl : j < len := by
        have := (List.getElem?_eq_some_iff.1 hj).1
        simpa using this
      have e : boolOf (V j) = u := by simpa [hjl] using hj
      exact ⟨hsp (by omega), add_at (hsp (by omega)) (e ▸ hV j hjl)⟩
    · cases e
      have h1 := hV 0 (by omega)
      rw [show ad.add 0 = ad from rfl] at h1
      exact Sha.cell_lt h1

/-- The slice v holds these rows of bytes. -/
def MoreAt (w : World) (va : Option Addr) (L : List (List UInt8)) : Prop :=
  ∀ i b, L[i]? = some b → ∃ g off sv, va = some ⟨g, off, none⟩ ∧ g < w.heap.size ∧ w.cell? ⟨g, off + i, none⟩ = some sv ∧ Arg w sv b ∧ Low w sv

theorem trod_more {H : Type} {enc : TypeId × Value → H} {W : World} {sp : Nat → Bool} {held : Bool} {a : Option Addr} {n c : Nat} {d : DataW H} {ps : List MemPlace} (h : DataW.Trod enc Try.prog W 0 sp held 23 (.slice a n c) d ps) :
    ∃ L, MoreAt W a L ∧ n = L.length := by
  obtain ⟨fuel, hf⟩ := h
  rcases open_slice1 Try.underlying23 (by kernel_rfl) hf with ⟨hcs, _⟩ | ⟨ad, len, cap, m, n', V, D, Pl, hcs, _, hl, hm, hmm, _, hx⟩
  · have e : Value.slice a n c = .slice none 0 0 := by simpa [Value.cells] using hcs
    cases e
    exact ⟨[], fun i b hi => by simp at hi, rfl⟩
  · have e : Value.slice a n c = .slice (some ad) len cap := by simpa [Value.cells] using hcs
    cases e
    have hlm : n ≤ m := by rw [hmm]; split <;> omega
    have hV : ∀ i, i < n → ∃ b : List UInt8, W.cell? (ad.add i) = some (V i) ∧ Arg W (V i) b ∧ Low W (V i) := fun i hi => by
      obtain ⟨h1, h2⟩ := hx i (by omega)
      obtain ⟨v, b, hb, h3, h4⟩ := trod_bytes h2
      simp only [List.cons.injEq, and_true] at hb
      rw [hb] at h1 ⊢
      exact ⟨b, h1, h3, h4⟩
    obtain ⟨B, hB⟩ := choose_lt hV
    refine ⟨(List.range n).map B, fun i b hi => ?_, by simp⟩
    have hil : i < n := by
      have := (List.getElem?_eq_some_iff.1 hi).1
      simpa using this
    have e : B i = b := by simpa [hil] using hi
    have hsp : ad.spot = none := by
      have := spot_none (hB 0 (by omega)).1
      simpa [Addr.add] using this
    obtain ⟨h1, h2, h3⟩ := hB i hil
    refine ⟨ad.block, ad.off, V i, by rw [← hsp], ?_, add_at hsp h1, e ▸ h2, h3⟩
    have := Sha.cell_lt (hB 0 (by omega)).1
    rw [show ad.add 0 = ad from rfl] at this
    exact this
end Go.Proofs.Ytklefjmihapdpaa
