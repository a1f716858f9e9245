/-
  What is proved here: what isName tells of any string. Condition: its size is one of a string.
-/
import Derived.Test.YthnneejkbobbcaaClone
namespace Go.Proofs.Ythnneejkbobbcaa
open Go.RowKit Go.Maps Go.WideMaps
set_option maxRecDepth 100000

/-- May this byte be in a name? -/
def okc (c : UInt8) : Bool := decide ((97 ≤ c.toNat ∧ c.toNat ≤ 122) ∨ (48 ≤ c.toNat ∧ c.toNat ≤ 57) ∨ c.toNat = 46 ∨ c.toNat = 45)
/-- Are these bytes a name? -/
def right (l : List UInt8) : Bool := decide (1 ≤ l.length) && decide (l.length ≤ 70) && l.all okc

theorem okc_t {c : UInt8} (h : (97 ≤ c.toNat ∧ c.toNat ≤ 122) ∨ (48 ≤ c.toNat ∧ c.toNat ≤ 57) ∨ c.toNat = 46 ∨ c.toNat = 45) : okc c = true := by simpa [okc] using h
theorem okc_f {c : UInt8} (h : ¬ ((97 ≤ c.toNat ∧ c.toNat ≤ 122) ∨ (48 ≤ c.toNat ∧ c.toNat ≤ 57) ∨ c.toNat = 46 ∨ c.toNat = 45)) : okc c = false := by simpa [okc] using h

theorem ret_bool {a b : Bool} (h : a = b) : Ending.returned (.bool a) = .returned (.bool b) := by rw [h]

set_option maxHeartbeats 1000000 in
theorem inName_any (c : UInt8) (w : World) : Calls Try.prog 50 #[.int .u8 c.toNat] w fun e w' => e = .returned (.bool (okc c)) ∧ w' = w := by
  go_enter Try.func50, Try.ntmps50
  go_wp2
  all_goals go_ret
  all_goals refine ⟨ret_bool ?_, rfl⟩
  all_goals first | exact (okc_t (by omega)).symm | (rw [Bool.eq_iff_iff]; simp [okc]; omega)

theorem take_snoc (s : ByteArray) (k : Nat) (h : k < s.size) : s.data.toList.take (k + 1) = s.data.toList.take k ++ [s[k]] := by
  rw [List.take_succ_eq_append_getElem (by simpa using h)]; rfl

theorem all_step {s : ByteArray} {k : Nat} (h : k < s.size) (ha : (s.data.toList.take k).all okc = true) (hc : okc s[k] = true) : (s.data.toList.take (k + 1)).all okc = true := by
  rw [take_snoc s k h, List.all_append, ha]
  simp [hc]

theorem all_no {s : ByteArray} {k : Nat} (h : k < s.size) (hc : okc s[k] = false) : s.data.toList.all okc = false := by
  rw [List.all_eq_false]
  exact ⟨s[k], List.getElem_mem (l := s.data.toList) (n := k) (by rw [show s.data.toList.length = s.size from by cases s; rfl]; exact h), by simp [hc]⟩

theorem right_no {s : ByteArray} (h : s.size < 1 ∨ 70 < s.size) : right s.data.toList = false := by
  have e : s.data.toList.length = s.size := by cases s; rfl
  unfold right; rw [e]
  rcases h with h | h
  · have : decide (1 ≤ s.size) = false := by simpa using h
    simp [this]
  · have : decide (s.size ≤ 70) = false := by simpa using h
    simp [this]

set_option maxHeartbeats 1000000 in
theorem isName_any (s : ByteArray) (w : World) (hs : s.size ≤ maxLen) : Calls Try.prog 25 #[.string s] w fun e w' => e = .returned (.bool (right s.data.toList)) ∧ w' = w := by
  have e : s.data.toList.length = s.size := by cases s; rfl
  unfold maxLen at hs
  by_cases h1 : s.size < 1
  · have hr := right_no (Or.inl h1)
    go_enter Try.func25, Try.ntmps25
    go_wp2
    go_ret
    exact ⟨by first | rfl | (rw [hr]; rfl), rfl⟩
  by_cases h2 : 70 < s.size
  · have hr := right_no (Or.inr h2)
    go_enter Try.func25, Try.ntmps25
    go_wp2
    go_ret
    exact ⟨by first | rfl | (rw [hr]; rfl), rfl⟩
  have hR : Hid (right s.data.toList = s.data.toList.all okc) := by
    unfold Hid right; rw [e]
    simp; omega
  clear e
  go_enter Try.func25, Try.ntmps25
  go_wp2
  go_loop [14] (fun i => ∃ k : Nat, k ≤ s.size ∧ i = .int .i64 k ∧ (s.data.toList.take k).all okc = true) (fun i => s.size - (intOf i).toNat)
  case atStart => exact ⟨0, Nat.zero_le _, rfl, rfl⟩
  case round =>
    obtain ⟨k, hk, rfl, hall⟩ := hrel
    have HA : Hid ((s.data.toList.take k).all okc = true) := hall
    clear hall
    by_cases hlt : k < s.size
    · cases hc : okc s[k]
      · go_wp2_with (go_at_call 50; refine (inName_any _ _).mono ?_; rintro e w' ⟨rfl, rfl⟩)
        go_ret
        refine ⟨?_, rfl⟩
        rw [hR.out, all_no hlt hc]
        rfl
      · go_wp2_with (go_at_call 50; refine (inName_any _ _).mono ?_; rintro e w' ⟨rfl, rfl⟩)
        go_round
        case rel => exact ⟨k + 1, by omega, by go_num, all_step hlt HA.out hc⟩
        case measure => simp [intOf]; omega
    · go_wp2
      go_ret
      refine ⟨?_, rfl⟩
      have ht := HA.out
      rw [List.take_of_length_le (by rw [show s.data.toList.length = s.size from by cases s; rfl]; omega)] at ht
      rw [hR.out, ht]
      rfl

end Go.Proofs.Ythnneejkbobbcaa
