/-
  What is proved here: what Cost, and the document's, answer of hunks at any place. Conditions: the hunks lie in memory, and cost at most 1000000.
-/
import Derived.Test.YtoophkpmbinmlaaHunks
namespace Go.Proofs.Ytoophkpmbinmlaa
open Go.RowKit
set_option maxRecDepth 100000

/-- A hunk at any place. -/
structure HI where
  x : Int
  o : List ByteArray
  n : List ByteArray

def costI (l : List HI) : Nat := (l.map (fun h => h.o.length + h.n.length)).sum

def HIsAt (w : World) (v : Value) (L : List HI) : Prop := ∃ va c, v = .slice va L.length c ∧ (va = none → c = 0) ∧ ∀ k h, L[k]? = some h → ∃ g o vo vn, va = some ⟨g, o, none⟩ ∧ w.cell? ⟨g, o + k * 3, none⟩ = some (.int .i64 h.x) ∧ w.cell? ⟨g, o + k * 3 + 1, none⟩ = some vo ∧ w.cell? ⟨g, o + k * 3 + 2, none⟩ = some vn ∧ StrAt w vo h.o ∧ StrAt w vn h.n

theorem HIsAt.kept {w w' : World} {v : Value} {L : List HI} (h : HIsAt w v L) (f : Fr None' w w') : HIsAt w' v L := by
  obtain ⟨va, c, h1, h2, h3⟩ := h
  refine ⟨va, c, h1, h2, fun k x hk => ?_⟩
  obtain ⟨g, o, vo, vn, e, c1, c2, c3, s1, s2⟩ := h3 k x hk
  exact ⟨g, o, vo, vn, e, f.cell c1 (fun e => e), f.cell c2 (fun e => e), f.cell c3 (fun e => e), s1.kept f, s2.kept f⟩

theorem costI_take {L : List HI} {k : Nat} (h : k < L.length) : costI (L.take (k + 1)) = costI (L.take k) + (L[k].o.length + L[k].n.length) := by
  rw [List.take_succ_eq_append_getElem h]
  unfold costI
  rw [List.map_append, List.sum_append]
  simp only [List.map_cons, List.map_nil, List.sum_cons, List.sum_nil, Nat.add_zero]

theorem costI_le {L : List HI} (k : Nat) : costI (L.take k) ≤ costI L := by
  have : costI L = costI (L.take k) + costI (L.drop k) := by
    conv => lhs; rw [← List.take_append_drop k L]
    unfold costI
    rw [List.map_append, List.sum_append]
  omega

set_option maxHeartbeats 1000000 in
theorem costI_any (v : Value) (L : List HI) (w : World) (hv : HIsAt w v L) (hc : costI L ≤ 1000000) (hl : L.length ≤ 1000000) :
    Calls Try.prog 18 #[v] w fun e w' => e = .returned (.int .i64 (costI L : Nat)) ∧ Fr None' w w' := by
  obtain ⟨va, c, rfl, _, hk⟩ := hv
  obtain ⟨n, hn⟩ : ∃ n, L.length = n := ⟨_, rfl⟩
  have HN : Hid (L.length = n) := hn
  rw [hn]
  rw [hn] at hl
  have i1 : (n : Int) ≤ 1000000 := by omega
  have HC : Hid (costI L ≤ 1000000) := hc
  clear hn hc
  go_enter Try.func18, Try.ntmps18
  go_wp2_with fail
  go_loopw [3, 8] (fun s i wr => ∃ k : Nat, k ≤ n ∧ i = .int .i64 k ∧ s = .int .i64 (costI (L.take k) : Nat) ∧ Fr None' w wr) (fun _ i _ => n - (intOf i).toNat)
  case atStart => exact ⟨0, Nat.zero_le _, rfl, rfl, Fr.refl _ _⟩
  case round =>
    obtain ⟨k, hkn, rfl, rfl, hF⟩ := hrel
    by_cases hlt : k < n
    · have hkL : k < L.length := by rw [HN.out]; exact hlt
      obtain ⟨g, o, vo, vn, rfl, c1, c2, c3, s1, s2⟩ := hk k L[k] (List.getElem?_eq_getElem hkL)
      obtain ⟨po, co, rfl, _⟩ := s1
      obtain ⟨pn, cn, rfl, _⟩ := s2
      have d1 := hF.cell c1 (fun e => e)
      have d2 := hF.cell c2 (fun e => e)
      have d3 := hF.cell c3 (fun e => e)
      have e1 := costI_take hkL
      have e2 := costI_le (L := L) (k + 1)
      obtain ⟨a, ha⟩ : ∃ a, L[k].o.length = a := ⟨_, rfl⟩
      obtain ⟨b, hb⟩ : ∃ b, L[k].n.length = b := ⟨_, rfl⟩
      obtain ⟨t, ht⟩ : ∃ t, costI (L.take k) = t := ⟨_, rfl⟩
      obtain ⟨x, hx⟩ : ∃ x, L[k].x = x := ⟨_, rfl⟩
      rw [ha] at d2 e1
      rw [hb] at d3 e1
      rw [ht] at e1
      rw [hx] at d1
      rw [ht]
      have HE : Hid (costI (L.take (k + 1)) = t + (a + b)) := e1
      have i2 : (t : Int) + ((a : Int) + (b : Int)) ≤ 1000000 := by have := HC.out; omega
      have i3 : (k : Int) < (n : Int) := by omega
      have i4 : (0 : Int) ≤ (k : Int) := by omega
      have i5 : (0 : Int) ≤ (t : Int) := by omega
      have i6 : (0 : Int) ≤ (a : Int) := by omega
      have i7 : (0 : Int) ≤ (b : Int) := by omega
      clear hk c1 c2 c3 e1 e2 ha hb ht hx
      go_wp2_with fail
      exact ⟨⟨k + 1, by omega, by go_num, by rw [HE.out]; go_num, hF.then (Fr.alloc None' _ _)⟩, by simp [intOf]; omega⟩
    · have e : k = n := by omega
      subst e
      have HT : Hid (costI (L.take k) = costI L) := by
        show _ = _
        rw [List.take_of_length_le (by rw [HN.out]; exact Nat.le_refl _)]
      rw [HT.out]
      clear hk
      go_wp2_with fail
      go_ret
      exact ⟨rfl, hF⟩

set_option maxHeartbeats 1000000 in
theorem rcostI_any (v : Value) (L : List HI) (w : World) (hv : HIsAt w v L) (hc : costI L ≤ 1000000) (hl : L.length ≤ 1000000) :
    Calls Try.prog 19 #[v] w fun e w' => e = .returned (.int .i64 (costI L : Nat)) ∧ Fr None' w w' := by
  obtain ⟨va, c, rfl, _, hk⟩ := hv
  obtain ⟨n, hn⟩ : ∃ n, L.length = n := ⟨_, rfl⟩
  have HN : Hid (L.length = n) := hn
  rw [hn]
  rw [hn] at hl
  have i1 : (n : Int) ≤ 1000000 := by omega
  have HC : Hid (costI L ≤ 1000000) := hc
  clear hn hc
  go_enter Try.func19, Try.ntmps19
  go_wp2_with fail
  go_loopw [3, 4] (fun s i wr => ∃ k : Nat, k ≤ n ∧ i = .int .i64 k ∧ s = .int .i64 (costI (L.take k) : Nat) ∧ Fr None' w wr) (fun _ i _ => n - (intOf i).toNat)
  case atStart => exact ⟨0, Nat.zero_le _, rfl, rfl, Fr.refl _ _⟩
  case round =>
    obtain ⟨k, hkn, rfl, rfl, hF⟩ := hrel
    by_cases hlt : k < n
    · have hkL : k < L.length := by rw [HN.out]; exact hlt
      obtain ⟨g, o, vo, vn, rfl, c1, c2, c3, s1, s2⟩ := hk k L[k] (List.getElem?_eq_getElem hkL)
      obtain ⟨po, co, rfl, _⟩ := s1
      obtain ⟨pn, cn, rfl, _⟩ := s2
      have d1 := hF.cell c1 (fun e => e)
      have d2 := hF.cell c2 (fun e => e)
      have d3 := hF.cell c3 (fun e => e)
      have e1 := costI_take hkL
      have e2 := costI_le (L := L) (k + 1)
      obtain ⟨a, ha⟩ : ∃ a, L[k].o.length = a := ⟨_, rfl⟩
      obtain ⟨b, hb⟩ : ∃ b, L[k].n.length = b := ⟨_, rfl⟩
      obtain ⟨t, ht⟩ : ∃ t, costI (L.take k) = t := ⟨_, rfl⟩
      obtain ⟨x, hx⟩ : ∃ x, L[k].x = x := ⟨_, rfl⟩
      rw [ha] at d2 e1
      rw [hb] at d3 e1
      rw [ht] at e1
      rw [hx] at d1
      rw [ht]
      have HE : Hid (costI (L.take (k + 1)) = t + (a + b)) := e1
      have i2 : (t : Int) + ((a : Int) + (b : Int)) ≤ 1000000 := by have := HC.out; omega
      have i3 : (k : Int) < (n : Int) := by omega
      have i4 : (0 : Int) ≤ (k : Int) := by omega
      have i5 : (0 : Int) ≤ (t : Int) := by omega
      have i6 : (0 : Int) ≤ (a : Int) := by omega
      have i7 : (0 : Int) ≤ (b : Int) := by omega
      clear hk c1 c2 c3 e1 e2 ha hb ht hx
      have r1 : IntKind.i64.wrap ((t : Int) + (a : Int)) = (t : Int) + (a : Int) := by rw [IntKind.wrap_i64]; omega
      have r2 : IntKind.i64.wrap ((t : Int) + (a : Int) + (b : Int)) = (t : Int) + (a : Int) + (b : Int) := by rw [IntKind.wrap_i64]; omega
      have HV : Hid ((t : Int) + (a : Int) + (b : Int) = ((t + (a + b) : Nat) : Int)) := by show _ = _; omega
      go_wp2_with fail
      go_quiet (fail)
      go_wp2_with fail
      exact ⟨⟨k + 1, by omega, by go_num, by rw [HE.out, HV.out], hF.then (Fr.drewN None' _ _)⟩, by simp [intOf]; omega⟩
    · have e : k = n := by omega
      subst e
      have HT : Hid (costI (L.take k) = costI L) := by
        show _ = _
        rw [List.take_of_length_le (by rw [HN.out]; exact Nat.le_refl _)]
      rw [HT.out]
      clear hk
      go_wp2_with fail
      go_ret
      exact ⟨rfl, hF⟩

end Go.Proofs.Ytoophkpmbinmlaa
