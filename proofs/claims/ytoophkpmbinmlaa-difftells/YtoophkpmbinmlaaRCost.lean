/-
  What is proved here: what the document's Cost and Same answer. Conditions: the hunks lie in memory, and cost at most 1000000.
-/
import Derived.Test.YtoophkpmbinmlaaCost
import Derived.Test.YtoophkpmbinmlaaSame
namespace Go.Proofs.Ytoophkpmbinmlaa
open Go.RowKit
set_option maxRecDepth 100000

set_option maxHeartbeats 1000000 in
theorem rcost_any (v : Value) (L : List (Hk ByteArray)) (w : World) (hv : HunksAt w v L) (hc : cost L ≤ 1000000) (hl : L.length ≤ 1000000) :
    Calls Try.prog 19 #[v] w fun e w' => e = .returned (.int .i64 (cost L : Nat)) ∧ Fr None' w w' := by
  obtain ⟨va, c, rfl, _, hk⟩ := hv
  obtain ⟨n, hn⟩ : ∃ n, L.length = n := ⟨_, rfl⟩
  have HN : Hid (L.length = n) := hn
  rw [hn]
  rw [hn] at hl
  have i1 : (n : Int) ≤ 1000000 := by omega
  have HC : Hid (cost L ≤ 1000000) := hc
  clear hn hc
  go_enter Try.func19, Try.ntmps19
  go_wp2_with fail
  go_loopw [3, 4] (fun s i wr => ∃ k : Nat, k ≤ n ∧ i = .int .i64 k ∧ s = .int .i64 (cost (L.take k) : Nat) ∧ Fr None' w wr) (fun _ i _ => n - (intOf i).toNat)
  case atStart => exact ⟨0, Nat.zero_le _, rfl, rfl, Fr.refl _ _⟩
  case round =>
    obtain ⟨k, hkn, rfl, rfl, hF⟩ := hrel
    by_cases hlt : k < n
    · have hkL : k < L.length := by rw [HN.out]; exact hlt
      obtain ⟨g, o, vo, vn, rfl, c1, c2, c3, s1, s2⟩ := hk k L[k] (List.getElem?_eq_getElem hkL)
      obtain ⟨po, co, rfl, _⟩ := s1
      obtain ⟨pn, cn, rfl, _⟩ := s2
      have d1 := hF.cell c1 (fun e => e)
      have d2 := hF.cell c2 (fun e => e)
      have d3 := hF.cell c3 (fun e => e)
      have e1 := cost_take hkL
      have e2 := cost_le (L := L) (k + 1)
      obtain ⟨a, ha⟩ : ∃ a, L[k].o.length = a := ⟨_, rfl⟩
      obtain ⟨b, hb⟩ : ∃ b, L[k].n.length = b := ⟨_, rfl⟩
      obtain ⟨t, ht⟩ : ∃ t, cost (L.take k) = t := ⟨_, rfl⟩
      obtain ⟨x, hx⟩ : ∃ x, (L[k].at' : Int) = x := ⟨_, rfl⟩
      rw [ha] at d2 e1
      rw [hb] at d3 e1
      rw [ht] at e1
      rw [hx] at d1
      rw [ht]
      have HE : Hid (cost (L.take (k + 1)) = t + (a + b)) := e1
      have i2 : (t : Int) + ((a : Int) + (b : Int)) ≤ 1000000 := by have := HC.out; omega
      have i3 : (k : Int) < (n : Int) := by omega
      have i4 : (0 : Int) ≤ (k : Int) := by omega
      have i5 : (0 : Int) ≤ (t : Int) := by omega
      have i6 : (0 : Int) ≤ (a : Int) := by omega
      have i7 : (0 : Int) ≤ (b : Int) := by omega
      clear hk c1 c2 c3 e1 e2 ha hb ht hx
      have r1 : IntKind.i64.wrap ((t : Int) + (a : Int)) = (t : Int) + (a : Int) := by rw [IntKind.wrap_i64]; omega
      have r2 : IntKind.i64.wrap ((t : Int) + (a : Int) + (b : Int)) = (t : Int) + (a : Int) + (b : Int) := by rw [IntKind.wrap_i64]; omega
      have HV : Hid ((t : Int) + (a : Int) + (b : Int) = ((t + (a + b) : Nat) : Int)) := by show _ = _; omega
      go_wp2_with fail
      go_quiet (fail)
      go_wp2_with fail
      exact ⟨⟨k + 1, by omega, by go_num, by rw [HE.out, HV.out], hF.then (Fr.drewN None' _ _)⟩, by simp [intOf]; omega⟩
    · have e : k = n := by omega
      subst e
      have HT : Hid (cost (L.take k) = cost L) := by
        show _ = _
        rw [List.take_of_length_le (by rw [HN.out]; exact Nat.le_refl _)]
      rw [HT.out]
      clear hk
      go_wp2_with fail
      go_ret
      exact ⟨rfl, hF⟩

end Go.Proofs.Ytoophkpmbinmlaa
