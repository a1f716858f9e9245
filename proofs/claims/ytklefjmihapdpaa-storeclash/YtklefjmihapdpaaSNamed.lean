/-
  What is proved here: what Named answers. No condition.
-/
import Derived.Test.YtklefjmihapdpaaSName
namespace Go.Proofs.Ytklefjmihapdpaa.Sha
open Go.RowKit
set_option maxRecDepth 100000

/-- Is a byte a digit of a name? Are these bytes a name? -/
def okd (c : UInt8) : Bool := decide ((48 ≤ (c.toNat : Int) ∧ (c.toNat : Int) ≤ 57) ∨ (97 ≤ (c.toNat : Int) ∧ (c.toNat : Int) ≤ 102))
def namedB (l : List UInt8) : Bool := decide (l.length = 64) && l.all okd

theorem isDigit_is (c : UInt8) (w : World) : Calls Try.prog 44 #[.int .u8 c.toNat] w fun e w' => e = .returned (.bool (okd c)) ∧ w = w' := isDigit_any c.toNat w

theorem take_snoc (s : ByteArray) (k : Nat) (h : k < s.size) : s.data.toList.take (k + 1) = s.data.toList.take k ++ [s[k]] := by
  rw [List.take_succ_eq_append_getElem (by simpa using h)]; rfl

theorem all_step {s : ByteArray} {k : Nat} (h : k < s.size) (ha : (s.data.toList.take k).all okd = true) (hc : okd s[k] = true) : (s.data.toList.take (k + 1)).all okd = true := by
  rw [take_snoc s k h, List.all_append, ha]
  simp [hc]

theorem all_no {s : ByteArray} {k : Nat} (h : k < s.size) (hc : okd s[k] = false) : s.data.toList.all okd = false := by
  rw [List.all_eq_false]
  exact ⟨s[k], List.getElem_mem (l := s.data.toList) (n := k) (by rw [show s.data.toList.length = s.size from by cases s; rfl]; exact h), by simp [hc]⟩

set_option maxHeartbeats 1000000 in
theorem named_any (s : ByteArray) (w : World) (hs : s.size ≤ maxLen) : Calls Try.prog 25 #[.string s] w fun e w' => e = .returned (.bool (namedB s.data.toList)) ∧ w = w' := by
  have e : s.data.toList.length = s.size := by cases s; rfl
  unfold maxLen at hs
  by_cases h1 : s.size = 64
  · have hR : Hid (namedB s.data.toList = s.data.toList.all okd) := by
      unfold Hid namedB; rw [e, h1]; simp
    have hsz : (s.size : Int) = 64 := by omega
    have HZ : Hid (s.size = 64) := h1
    clear e h1
    go_enter Try.func25, Try.ntmps25
    go_wp2_with fail
    go_loop [9] (fun i => ∃ k : Nat, k ≤ s.size ∧ i = .int .i64 k ∧ (s.data.toList.take k).all okd = true) (fun i => s.size - (intOf i).toNat)
    case atStart => exact ⟨0, Nat.zero_le _, rfl, rfl⟩
    case round =>
      obtain ⟨k, hk, rfl, hall⟩ := hrel
      have HA : Hid ((s.data.toList.take k).all okd = true) := hall
      clear hall
      by_cases hlt : k < s.size
      · cases hc : okd s[k]
        · go_wp2_with (go_at_call 44; refine (isDigit_is _ _).mono ?_; rintro e w' ⟨rfl, rfl⟩)
          go_ret
          refine ⟨?_, rfl⟩
          rw [hR.out, all_no hlt hc]
          rfl
        · go_wp2_with (go_at_call 44; refine (isDigit_is _ _).mono ?_; rintro e w' ⟨rfl, rfl⟩)
          go_round
          case rel => exact ⟨k + 1, by omega, by go_num, all_step hlt HA.out hc⟩
          case measure => simp [intOf]; omega
      · go_wp2
        go_ret
        refine ⟨?_, rfl⟩
        have ht := HA.out
        rw [List.take_of_length_le (by rw [show s.data.toList.length = s.size from by cases s; rfl]; omega)] at ht
        rw [hR.out, ht]
        rfl
  · have hR : namedB s.data.toList = false := by
      unfold namedB; rw [e]; simp [h1]
    have hsz : ¬ (s.size : Int) = 64 := by omega
    rw [hR]
    clear e hR
    go_enter Try.func25, Try.ntmps25
    go_wp2
    go_ret
    exact ⟨rfl, rfl⟩
end Go.Proofs.Ytklefjmihapdpaa.Sha
