/-
  What is proved here: what an argument that is a row of bytes, or of truths, is in memory. No condition but that it can be read.
-/
import Derived.Test.YthnneejkbobbcaaEqs
import Derived.ProofKit
import Derived.OpenShut
import Derived.ShutString
import Derived.ChangeOld
import Derived.Below
namespace Go.Proofs.Ythnneejkbobbcaa
open Go.ChangeShapes Go.WideShapes Go.ChangeAt Go.RowKit Go.Maps
set_option maxRecDepth 100000

theorem own : ownKnob Try.prog.godebug = none := by kernel_rfl
theorem laidOut : laidOutB Try.prog = true := by kernel_rfl

/-- A slice that lies below w. -/
def Low (w : World) (v : Value) : Prop := ∀ ad n c, v = .slice (some ad) n c → n ≠ 0 → ad.block < w.heap.size

theorem low {w w1 w0 : World} {v : Value} (h : Low w v) (hf : Fr None' w w1) : Aside w1 w0 v := fun ad n c e h0 => Or.inl (Nat.lt_of_lt_of_le (h ad n c e h0) hf.size)

theorem bytes_slice {w : World} {v : Value} {b : List UInt8} (h : Bytes w v b) : ∃ a c, v = .slice a b.length c := by
  rcases h with ⟨rfl, rfl⟩ | ⟨ad, c, rfl, _⟩
  · exact ⟨none, 0, rfl⟩
  · exact ⟨_, _, rfl⟩

theorem u8_back {z : Int} (h : (Lit.int .u8 z).wf = true) : (((UInt8.ofNat z.toNat).toNat : Nat) : Int) = z := by
  have := bounds_u8 h
  simp
  omega

theorem block_lt {w : World} {a : Addr} {j : Nat} {u : Value} (h : w.cell? (a.add j) = some u) : a.block < w.heap.size := by
  unfold World.cell? at h
  rw [add_block] at h
  split at h
  · rename_i hk; exact lt_of_some hk
  · cases h

theorem trod_bytes {H : Type} {enc : TypeId × Value → H} {W : World} {fuel : Nat} {sp : Nat → Bool} {held : Bool} {cs : List Value} {x : DataW H × List MemPlace} (h : DataW.trod enc Try.prog W 0 sp held fuel 33 cs = some x) :
    ∃ v b, cs = [v] ∧ Bytes W v b ∧ Low W v := by
  rcases open_ints Try.underlying33 Try.underlying5 (by kernel_rfl) h with ⟨hcs, _⟩ | ⟨a, l, c, zs, hcs, _, hl, hm, hz, _, hcell, hwz⟩
  · exact ⟨_, [], hcs, Or.inl ⟨rfl, rfl⟩, fun _ _ _ e => by cases e⟩
  · have hcc : ∀ j u, (u8s ((zs.take l).map (fun z => UInt8.ofNat z.toNat)))[j]? = some u → W.cell? (a.add j) = some u := fun j u hj => by
      simp only [u8s, List.map_map, List.getElem?_map] at hj
      obtain ⟨z, hz1, hz2⟩ := Option.map_eq_some_iff.1 hj
      have hjl : j < zs.length := by
        have := (List.getElem?_eq_some_iff.1 hz1).1
        simp at this; omega
      have hzz : zs[j]? = some z := by
        rw [List.getElem?_take] at hz1
        split at hz1
        · exact hz1
        · cases hz1
      rw [hcell j hjl, ← hz2]
      have e : zs.getD j 0 = z := by simp [List.getD, hzz]
      rw [e]
      have := u8_back (hwz z (List.mem_of_getElem? hzz))
      simp only [Function.comp]
      rw [this]
    have hlz : l ≤ zs.length := by rw [hz]; split <;> omega
    have hlen : ((zs.take l).map (fun z => UInt8.ofNat z.toNat)).length = l := by simp; omega
    refine ⟨_, (zs.take l).map (fun z => UInt8.ofNat z.toNat), hcs, Or.inr ⟨a, c, by rw [hlen], hcc⟩, fun ad n c' e h0 => ?_⟩
    cases e
    have h1 := hcell 0 (by omega)
    exact block_lt (a := a) h1


theorem trod_arg {H : Type} {enc : TypeId × Value → H} {W : World} {sp : Nat → Bool} {held : Bool} {a : Option Addr} {n c : Nat} {d : DataW H} {ps : List MemPlace} (h : DataW.Trod enc Try.prog W 0 sp held 33 (.slice a n c) d ps) :
    ∃ b, Bytes W (.slice a n c) b ∧ Low W (.slice a n c) := by
  obtain ⟨fuel, hf⟩ := h
  obtain ⟨v', b, hcs, h1, h2⟩ := trod_bytes hf
  obtain rfl : .slice a n c = v' := by simpa [Value.cells] using hcs
  exact ⟨b, h1, h2⟩

end Go.Proofs.Ythnneejkbobbcaa
