/-
  What is proved here: what an argument that is a row of texts is in memory. No condition but that it can be read.
-/
import Derived.Test.YtoophkpmbinmlaaHunks
import Derived.Test.YtoophkpmbinmlaaChecked
import Derived.Deep.Strs
import Derived.ProofKit
import Derived.OpenShut
import Derived.ShutString
import Derived.ChangeOld
import Derived.Below
namespace Go.Proofs.Ytoophkpmbinmlaa
open Go.ChangeShapes Go.WideShapes Go.ChangeAt Go.RowKit
set_option maxRecDepth 100000

theorem own : ownKnob Try.prog.godebug = none := by kernel_rfl
theorem laidOut : laidOutB Try.prog = true := by kernel_rfl

/-- A row of texts as an argument is. -/
structure ArgS (W : World) (a : Option Addr) (n c : Nat) (l : List ByteArray) : Prop where
  row : Row W a l
  len : l.length = n
  le : n ≤ c
  no : a = none → c = 0
  top : (c : Int) ≤ 9223372036854775807
  lt : ∀ x, a = some x → x.block < W.heap.size

theorem ArgS.kept {W W' : World} {a : Option Addr} {n c : Nat} {l : List ByteArray} (h : ArgS W a n c l) (f : Fr None' W W') : ArgS W' a n c l := ⟨h.row.fr f, h.len, h.le, h.no, h.top, fun x e => Nat.lt_of_lt_of_le (h.lt x e) f.size⟩

theorem add_none {a : Addr} (h : a.spot = none) (i : Nat) : a.add i = ⟨a.block, a.off + i, none⟩ := by
  obtain ⟨b, o, s⟩ := a
  simp only at h
  subst h
  unfold Addr.add
  split <;> simp_all

theorem spot_none {w : World} {a : Addr} {u : Value} (h : w.cell? a = some u) : a.spot = none := by
  unfold World.cell? at h
  split at h
  · split at h
    · cases h
    · rename_i h1; simpa using h1
  · cases h

theorem shape_lt {w : World} {b : Nat} {x : TypeId × Nat} (h : w.shape? b = some x) : b < w.heap.size := by
  rcases Nat.lt_or_ge b w.heap.size with h1 | h1
  · exact h1
  · unfold World.shape? at h
    rw [Array.getElem?_eq_none h1] at h
    cases h

theorem arg_strs {H : Type} {enc : TypeId × Value → H} {W : World} {sp : Nat → Bool} {held : Bool} {base : Nat} {v : Value} {d : DataW H} {ps : List MemPlace} (hv : Value.okWide Try.prog W .any base 22 v) (h : DataW.Trod enc Try.prog W 0 sp held 22 v d ps) :
    ∃ a n c l, v = .slice a n c ∧ ArgS W a n c l := by
  have hv' := hv
  obtain ⟨a, n, c, rfl⟩ := okWide_slice Try.underlying22 hv
  obtain ⟨fuel, hf⟩ := h
  rcases Deep.open_strs Try.underlying22 Try.underlying9 (by kernel_rfl) hf with ⟨hcs, _⟩ | ⟨ad, len, cap, m, Sx, hcs, _, hl, hm, hmm, _, hcell⟩
  · simp only [Value.cells, List.cons.injEq, Value.slice.injEq, and_true] at hcs
    obtain ⟨rfl, rfl, rfl⟩ := hcs
    exact ⟨none, 0, 0, [], rfl, Row.nil _ _, rfl, Nat.le_refl _, fun _ => rfl, by omega, fun x e => by cases e⟩
  · simp only [Value.cells, List.cons.injEq, Value.slice.injEq, and_true] at hcs
    obtain ⟨rfl, rfl, rfl⟩ := hcs
    have hlm : n ≤ m := by rw [hmm]; split <;> omega
    refine ⟨some ad, n, c, (List.range n).map Sx, rfl, fun j x hj => ?_, by simp, hl, (fun e => by cases e), by unfold maxLen at hm; omega, fun x e => ?_⟩
    · have hjn : j < n := by simpa using (List.getElem?_eq_some_iff.1 hj).1
      have hx : Sx j = x := by simpa [hjn] using hj
      have h0 := spot_none (hcell 0 (by omega)).1
      rw [show ad.add 0 = ad from rfl] at h0
      refine ⟨ad.block, ad.off, ?_, ?_⟩
      · obtain ⟨b, o, s⟩ := ad
        simp_all
      · rw [← add_none h0, ← hx]
        exact (hcell j (by omega)).1
    · cases e
      simp only [Value.okWide, Try.underlying22, Cell.okWide, Cell.ok] at hv'
      obtain ⟨_, _, _, _, row, cells, hsh, _⟩ := hv'
      exact shape_lt hsh

end Go.Proofs.Ytoophkpmbinmlaa
