/-
  What is proved here: what mixBlocks does to the eight numbers. Condition: they, the constants and the bytes lie in memory.
-/
import Derived.Test.YtklefjmihapdpaaSParts
namespace Go.Proofs.Ytklefjmihapdpaa.Sha
open Go.RowKit
set_option maxRecDepth 100000

set_option maxHeartbeats 4000000 in
theorem mixBlocks_any (ps pr : Nat) (va : Option Addr) (len cap nb : Nat) (v k m : Nat → Int) (w : World) (hl : len = 64 * nb) (hcap : len ≤ cap) (hbig : len ≤ 1000000)
  (hv : w.rowIs ps 80 8 (n32 v)) (hk : w.rowIs pr 78 64 (n32 k)) (hpr : pr ≠ ps)
  (hc : ∀ i : Nat, i < len → ∃ b o, va = some ⟨b, o, none⟩ ∧ b ≠ ps ∧ w.cell? ⟨b, o + i, none⟩ = some (.int .u8 (m i))) :
   Calls Try.prog 59 #[.pointer (some ⟨ps, 0, none⟩), .pointer (some ⟨pr, 0, none⟩), .slice va len cap] w fun e w' => e = .returned (.tuple #[]) ∧ w'.rowIs ps 80 8 (n32 (blks k m v nb)) ∧ Fr (fun i => i = ps) w w' := by
  have hq : (len : Int) / 64 = nb := by omega
  have hb : (nb : Int) ≤ 1000000 := by omega
  have HL : Hid (len = 64 * nb) := hl
  clear hl
  go_enter Try.func59, Try.ntmps59
  go_wp2_with fail
  go_loopw [10] (fun i wr => ∃ j : Nat, j ≤ nb ∧ i = .int .i64 j ∧ wr.rowIs ps 80 8 (n32 (blks k m v j)) ∧ Fr (fun i => i = ps) w wr) (fun i _ => nb - (intOf i).toNat)
  case atStart => exact ⟨0, by omega, rfl, hv, Fr.refl _ _⟩
  case round =>
    obtain ⟨j, hj, rfl, q, fr⟩ := hrel
    have hl := HL.out
    by_cases hlt : j < nb
    · obtain ⟨b, o, rfl, hbs, _⟩ := hc (64 * j) (by omega)
      have i0 : (j : Int) < nb := by omega
      have l1 : (64 * (j : Int)) ≤ (len : Int) := by omega
      have l2 : (len : Int) ≤ (cap : Int) := by omega
      have hm := mix_any ps pr b (o + 64 * j) (len - 64 * j) (cap - 64 * j) (blks k m v j) k (fun i => m (64 * j + i)) wr (by omega) (by omega) q (fr.rowIs hk hpr) (fun i hi => by
        obtain ⟨b', o', e, hb', hcc⟩ := hc (64 * j + i) (by omega)
        cases e
        rw [Nat.add_assoc]
        exact fr.cell hcc hb')
      clear hc hv hk hl
      go_wp2_with fail
      refine hm.mono ?_
      rintro e w2 ⟨rfl, q', f2⟩
      clear hm q
      go_wp2
      go_roundw
      case rel => exact ⟨j + 1, by omega, by go_num, q', fr.then f2⟩
      case measure => simp [intOf]; omega
    · have i0 : (nb : Int) ≤ (j : Int) := by omega
      have hjn : j = nb := by omega
      have q' := hjn ▸ q
      clear hc hv hk hl q hjn hlt
      go_wp2
      go_end0
      exact ⟨rfl, q', fr⟩
end Go.Proofs.Ytklefjmihapdpaa.Sha
