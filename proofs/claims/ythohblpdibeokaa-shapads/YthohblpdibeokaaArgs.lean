/-
  What is proved here: what an argument that is a row of bytes is in memory. No condition but that it can be read.
-/
import Derived.Test.YthohblpdibeokaaHead
import Derived.ProofKit
import Derived.OpenShut
import Derived.ShutString
import Derived.ChangeOld
import Derived.Below
namespace Go.Proofs.Ythohblpdibeokaa
open Go.ChangeShapes Go.WideShapes Go.ChangeAt Go.RowKit
set_option maxRecDepth 100000

theorem own : ownKnob Try.prog.godebug = none := by kernel_rfl
theorem laidOut : laidOutB Try.prog = true := by kernel_rfl

theorem add_none {a : Addr} (h : a.spot = none) (i : Nat) : a.add i = ⟨a.block, a.off + i, none⟩ := by
  obtain ⟨b, o, s⟩ := a
  simp only at h
  subst h
  unfold Addr.add
  split <;> simp_all

theorem spot_none {w : World} {a : Addr} {u : Value} (h : w.cell? a = some u) : a.spot = none := by
  unfold World.cell? at h
  split at h
  · split at h
    · cases h
    · rename_i h1; simpa using h1
  · cases h

theorem trod_byt {H : Type} {enc : TypeId × Value → H} {W : World} {sp : Nat → Bool} {held : Bool} {a : Option Addr} {n c : Nat} {d : DataW H} {ps : List MemPlace} (h : DataW.Trod enc Try.prog W 0 sp held 22 (.slice a n c) d ps) :
    ∃ m, Byt W (.slice a n c) n m ∧ (a = none → c = 0) ∧ ∀ i, i < n → 0 ≤ m i ∧ m i ≤ 255 := by
  obtain ⟨fuel, hf⟩ := h
  rcases open_ints Try.underlying22 Try.underlying5 (by kernel_rfl) hf with ⟨hcs, _⟩ | ⟨ad, l, c', zs, hcs, _, hl, hm, hz, _, hcell, hwz⟩
  · simp only [Value.cells, List.cons.injEq, Value.slice.injEq, and_true] at hcs
    obtain ⟨rfl, rfl, rfl⟩ := hcs
    exact ⟨fun _ => 0, ⟨_, _, rfl, by omega, fun i hi => by omega⟩, fun _ => rfl, fun i hi => by omega⟩
  · simp only [Value.cells, List.cons.injEq, Value.slice.injEq, and_true] at hcs
    obtain ⟨rfl, rfl, rfl⟩ := hcs
    have hlz : n ≤ zs.length := by rw [hz]; split <;> omega
    refine ⟨fun i => zs.getD i 0, ⟨_, _, rfl, hl, fun i hi => ⟨ad.block, ad.off, ?_, ?_⟩⟩, (fun e => by cases e), fun i hi => ?_⟩
    · have := spot_none (hcell 0 (by omega))
      rw [show ad.add 0 = ad from rfl] at this
      obtain ⟨b, o, s⟩ := ad
      simp_all
    · have h0 := spot_none (hcell 0 (by omega))
      rw [show ad.add 0 = ad from rfl] at h0
      rw [← add_none h0]
      exact hcell i (by omega)
    · have : zs.getD i 0 ∈ zs := by
        rw [List.getD_eq_getElem?_getD, List.getElem?_eq_getElem (by omega)]
        exact List.getElem_mem _
      have := bounds_u8 (hwz _ this)
      show 0 ≤ zs.getD i 0 ∧ zs.getD i 0 ≤ 255
      omega
end Go.Proofs.Ythohblpdibeokaa
