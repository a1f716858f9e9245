/-
  What is proved here: what slices.Equal and the document's two Same answer. Conditions: the rows lie in memory.
-/
import Derived.Test.YtcpjneejlfgkeaaGreatDoorM1FPlain
namespace Go.Proofs.YtcpjneejlfgkeaaGreatDoor.Diff
open Go.RowKit
set_option maxRecDepth 100000

theorem list_step {a b : List ByteArray} {k : Nat} (hn : a.length = b.length) (hk : k < a.length) (h : a.take k = b.take k) (e : a[k] = b[k]'(hn ▸ hk)) : a.take (k + 1) = b.take (k + 1) := by
  rw [List.take_succ_eq_append_getElem hk, List.take_succ_eq_append_getElem (hn ▸ hk), h, e]

set_option maxHeartbeats 2000000 in
theorem lSame_any (va vb : Option Addr) (ca cb : Nat) (a b : List ByteArray) (w : World) (ha : Row w va a) (hb : Row w vb b) (hl : a.length < 1000000000) :
    Calls Tryz.prog 37 #[.slice va a.length ca, .slice vb b.length cb] w fun e w' => e = .returned (.bool (decide (a = b))) ∧ Fr None' w w' := by
  by_cases hn : a.length = b.length
  case neg =>
    have hR : Hid (decide (a = b) = false) := decide_eq_false (fun e => hn (by rw [e]))
    have i1 : ¬ (a.length : Int) = b.length := by omega
    rw [hR.out]
    clear ha hb hn hR
    go_enter Tryz.func37, Tryz.ntmps37
    go_wp2_with fail
    go_ret
    exact ⟨rfl, Fr.refl _ _⟩
  case pos =>
  have HN : Hid (a.length = b.length) := hn
  obtain ⟨n, hna⟩ : ∃ n, a.length = n := ⟨_, rfl⟩
  have HA : Hid (a.length = n) := hna
  rw [← hn, hna]
  have i1 : (n : Int) < 1000000000 := by omega
  clear hl hn hna
  go_enter Tryz.func37, Tryz.ntmps37
  go_wp2_with fail
  go_loopw [5] (fun i wr => ∃ k : Nat, k ≤ n ∧ i = .int .i64 k ∧ Fr None' w wr ∧ Hid (a.take k = b.take k)) (fun i _ => n - (intOf i).toNat)
  case atStart => exact ⟨0, Nat.zero_le _, rfl, Fr.refl _ _, rfl⟩
  case round =>
    obtain ⟨k, hk, rfl, hF, HT⟩ := hrel
    by_cases hlt : k < n
    · have hka : k < a.length := by rw [HA.out]; exact hlt
      have hkb : k < b.length := by rw [← HN.out]; exact hka
      obtain ⟨ga, oa, rfl, c1⟩ := (ha.fr hF).get hka
      obtain ⟨gb, ob, rfl, c2⟩ := (hb.fr hF).get hkb
      obtain ⟨x, hx⟩ : ∃ x, a[k] = x := ⟨_, rfl⟩
      obtain ⟨y, hy⟩ : ∃ y, b[k] = y := ⟨_, rfl⟩
      have HX : Hid (a[k] = x) := hx
      have HY : Hid (b[k] = y) := hy
      rw [hx] at c1
      rw [hy] at c2
      clear hx hy ha hb
      have i2 : (k : Int) < n := by omega
      by_cases hxy : x = y
      · subst hxy
        go_wp2_with fail
        go_quiet (fail)
        go_wp2_with fail
        exact ⟨⟨k + 1, by omega, by go_num, hF.then (Fr.drewN _ _ _), list_step HN.out hka HT.out (by rw [HX.out, HY.out])⟩, by simp [intOf]; omega⟩
      · have HE : Hid (¬ x = y) := hxy
        obtain ⟨q1, q2⟩ := str_no hxy
        clear hxy
        go_wp2_with fail
        go_quiet (fail)
        clear c1 c2
        go_wp2_with fail
        go_ret
        exact ⟨ret_bool (decide_eq_false (fun e => HE.out (by rw [← HX.out, ← HY.out]; subst e; rfl))).symm, hF.then (Fr.drewN _ _ _)⟩
    · go_wp2_with fail
      go_ret
      refine ⟨ret_bool ?_, hF⟩
      have := HT.out
      rw [List.take_of_length_le (by rw [HA.out]; omega), List.take_of_length_le (by rw [← HN.out, HA.out]; omega)] at this
      exact (decide_eq_true this).symm

set_option maxHeartbeats 2000000 in
theorem equal_any (va vb : Option Addr) (ca cb : Nat) (a b : List ByteArray) (w : World) (ha : Row w va a) (hb : Row w vb b) (hl : a.length < 1000000000) :
    Calls Tryz.prog 101 #[.slice va a.length ca, .slice vb b.length cb] w fun e w' => e = .returned (.bool (decide (a = b))) ∧ Fr None' w w' := by
  by_cases hn : a.length = b.length
  case neg =>
    have hR : Hid (decide (a = b) = false) := decide_eq_false (fun e => hn (by rw [e]))
    have i1 : ¬ (a.length : Int) = b.length := by omega
    rw [hR.out]
    clear ha hb hn hR
    go_enter Tryz.func101, Tryz.ntmps101
    go_wp2_with fail
    go_ret
    exact ⟨rfl, Fr.refl _ _⟩
  case pos =>
  have HN : Hid (a.length = b.length) := hn
  obtain ⟨n, hna⟩ : ∃ n, a.length = n := ⟨_, rfl⟩
  have HA : Hid (a.length = n) := hna
  rw [← hn, hna]
  have i1 : (n : Int) < 1000000000 := by omega
  clear hl hn hna
  go_enter Tryz.func101, Tryz.ntmps101
  go_wp2_with fail
  go_loopw [13] (fun i wr => ∃ k : Nat, k ≤ n ∧ i = .int .i64 k ∧ Fr None' w wr ∧ Hid (a.take k = b.take k)) (fun i _ => n - (intOf i).toNat)
  case atStart => exact ⟨0, Nat.zero_le _, rfl, Fr.refl _ _, rfl⟩
  case round =>
    obtain ⟨k, hk, rfl, hF, HT⟩ := hrel
    by_cases hlt : k < n
    · have hka : k < a.length := by rw [HA.out]; exact hlt
      have hkb : k < b.length := by rw [← HN.out]; exact hka
      obtain ⟨ga, oa, rfl, c1⟩ := (ha.fr hF).get hka
      obtain ⟨gb, ob, rfl, c2⟩ := (hb.fr hF).get hkb
      obtain ⟨x, hx⟩ : ∃ x, a[k] = x := ⟨_, rfl⟩
      obtain ⟨y, hy⟩ : ∃ y, b[k] = y := ⟨_, rfl⟩
      have HX : Hid (a[k] = x) := hx
      have HY : Hid (b[k] = y) := hy
      rw [hx] at c1
      rw [hy] at c2
      clear hx hy ha hb
      have i2 : (k : Int) < n := by omega
      by_cases hxy : x = y
      · subst hxy
        go_wp2_with fail
        go_quiet (fail)
        go_wp2_with fail
        exact ⟨⟨k + 1, by omega, by go_num, hF.then (Fr.drewN _ _ _), list_step HN.out hka HT.out (by rw [HX.out, HY.out])⟩, by simp [intOf]; omega⟩
      · have HE : Hid (¬ x = y) := hxy
        obtain ⟨q1, q2⟩ := str_no hxy
        clear hxy
        go_wp2_with fail
        go_quiet (fail)
        clear c1 c2
        go_wp2_with fail
        go_ret
        exact ⟨ret_bool (decide_eq_false (fun e => HE.out (by rw [← HX.out, ← HY.out]; subst e; rfl))).symm, hF.then (Fr.drewN _ _ _)⟩
    · go_wp2_with fail
      go_ret
      refine ⟨ret_bool ?_, hF⟩
      have := HT.out
      rw [List.take_of_length_le (by rw [HA.out]; omega), List.take_of_length_le (by rw [← HN.out, HA.out]; omega)] at this
      exact (decide_eq_true this).symm

end Go.Proofs.YtcpjneejlfgkeaaGreatDoor.Diff
