/-
  What is proved here: what an argument that is a row of bytes is in memory. No condition but that it can be read.
-/
import Derived.Test.YtklefjmihapdpaaHead3
import Derived.ProofKit
import Derived.OpenShut
import Derived.ShutString
import Derived.ChangeOld
import Derived.Below
import Derived.ChangeMaps5
namespace Go.Proofs.Ytklefjmihapdpaa
open Go.ChangeShapes Go.WideShapes Go.ChangeAt Go.RowKit Go.Maps
set_option maxRecDepth 100000

theorem own : ownKnob Try.prog.godebug = none := by kernel_rfl
theorem laidOut : laidOutB Try.prog = true := by kernel_rfl

/-- A slice that lies below w. -/
def Low (w : World) (v : Value) : Prop := ∀ ad n c, v = .slice (some ad) n c → n ≠ 0 → ad.block < w.heap.size

theorem low {w w1 w0 : World} {v : Value} (h : Low w v) (hf : Fr None' w w1) : Aside w1 w0 v := fun ad n c e h0 => Or.inl (Nat.lt_of_lt_of_le (h ad n c e h0) hf.size)

theorem u8_back {z : Int} (h : (Lit.int .u8 z).wf = true) : (((UInt8.ofNat z.toNat).toNat : Nat) : Int) = z := by
  have := bounds_u8 h
  simp
  omega

theorem spot_none {w : World} {a : Addr} {u : Value} (h : w.cell? a = some u) : a.spot = none := by
  unfold World.cell? at h
  split at h
  · split at h
    · cases h
    · rename_i h1; simpa using h1
  · cases h

theorem trod_bytes {H : Type} {enc : TypeId × Value → H} {W : World} {fuel : Nat} {sp : Nat → Bool} {held : Bool} {cs : List Value} {x : DataW H × List MemPlace} (h : DataW.trod enc Try.prog W 0 sp held fuel 22 cs = some x) :
    ∃ v b, cs = [v] ∧ Arg W v b ∧ Low W v := by
  rcases open_ints Try.underlying22 Try.underlying5 (by kernel_rfl) h with ⟨hcs, _⟩ | ⟨a, l, c, zs, hcs, _, hl, hm, hz, _, hcell, hwz⟩
  · exact ⟨_, [], hcs, (Data.nil W).arg, fun _ _ _ e => by cases e⟩
  · have hlz : l ≤ zs.length := by rw [hz]; split <;> omega
    have hlen : ((zs.take l).map (fun z => UInt8.ofNat z.toNat)).length = l := by simp; omega
    have hat : ∀ j, j < l → ((zs.take l).map (fun z => UInt8.ofNat z.toNat))[j]? = some (UInt8.ofNat (zs.getD j 0).toNat) := fun j hj => by
      rw [List.getElem?_map, List.getElem?_take, if_pos hj, List.getElem?_eq_getElem (by omega), List.getD_eq_getElem?_getD, List.getElem?_eq_getElem (by omega)]
      rfl
    have hb : ∀ j, j < l → W.cell? (a.add j) = some (.int .u8 ((UInt8.ofNat (zs.getD j 0).toNat).toNat : Nat)) := fun j hj => by
      rw [u8_back (hwz _ (by
        rw [List.getD_eq_getElem?_getD, List.getElem?_eq_getElem (by omega)]
        exact List.getElem_mem _))]
      exact hcell j (by omega)
    refine ⟨_, (zs.take l).map (fun z => UInt8.ofNat z.toNat), hcs, ⟨Or.inr ⟨a, c, by rw [hlen], fun j u hj => ?_⟩, ?_⟩, fun ad n c' e h0 => ?_⟩
    · have hjl : j < l := by
        have := (List.getElem?_eq_some_iff.1 hj).1
        simp [u8s] at this
        omega
      rw [hb j hjl]
      simp only [u8s, List.getElem?_map] at hj
      have := hat j hjl
      rw [List.getElem?_map] at this
      rw [this] at hj
      simpa using hj
    · rw [hlen]
      refine ⟨_, _, rfl, hl, fun i hi => ⟨a.block, a.off, ?_, ?_⟩⟩
      · have := spot_none (hcell 0 (by omega))
        rw [show a.add 0 = a from rfl] at this
        obtain ⟨b, o, s⟩ := a
        simp_all
      · have h0 := spot_none (hcell 0 (by omega))
        rw [show a.add 0 = a from rfl] at h0
        have e : a.add i = ⟨a.block, a.off + i, none⟩ := by
          obtain ⟨b, o, s⟩ := a
          simp only at h0
          subst h0
          unfold Addr.add
          split <;> simp_all
        rw [← e, hb i hi]
        unfold mOf
        have e2 : ((zs.take l).map (fun z => UInt8.ofNat z.toNat)).getD i 0 = UInt8.ofNat (zs.getD i 0).toNat := by
          rw [List.getD_eq_getElem?_getD, hat i hi]
          rfl
        rw [e2]
    · cases e
      have h1 := hb 0 (by omega)
      rw [show a.add 0 = a from rfl] at h1
      exact Sha.cell_lt h1

theorem trod_arg {H : Type} {enc : TypeId × Value → H} {W : World} {sp : Nat → Bool} {held : Bool} {a : Option Addr} {n c : Nat} {d : DataW H} {ps : List MemPlace} (h : DataW.Trod enc Try.prog W 0 sp held 22 (.slice a n c) d ps) :
    ∃ b, Arg W (.slice a n c) b ∧ Low W (.slice a n c) ∧ n = b.length := by
  obtain ⟨fuel, hf⟩ := h
  obtain ⟨v', b, hcs, h1, h2⟩ := trod_bytes hf
  obtain rfl : .slice a n c = v' := by simpa [Value.cells] using hcs
  refine ⟨b, h1, h2, ?_⟩
  obtain ⟨_, _, e, _⟩ := h1.byt
  cases e
  rfl
end Go.Proofs.Ytklefjmihapdpaa
