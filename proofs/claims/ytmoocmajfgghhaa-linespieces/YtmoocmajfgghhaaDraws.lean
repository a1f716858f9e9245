/-
  What is proved here: first and Token lay nothing: they draw orders alone. The texts are shorter than 100000 bytes.
-/
import Derived.Test.YtmoocmajfgghhaaSmall
namespace Go.Proofs.Ytmoocmajfgghhaa
open Go.RowKit
set_option maxRecDepth 100000

theorem drewN_add (w : World) (m n : Nat) : (w.drewN m).drewN n = w.drewN (m + n) := by
  simp [World.drewN, Nat.add_assoc]

set_option maxHeartbeats 2000000 in
theorem first_draws (s : ByteArray) (w : World) (h0 : 0 < s.size) (hs : (s.size : Int) < 1000000000) : Calls Try.prog 36 #[.string s] w fun e w' => e = .returned (.int .i64 (firstLen s.data.toList)) ∧ Hid (∃ m, w' = w.drewN m) := by
  go_enter Try.func36, Try.ntmps36
  go_wp2_with fail
  go_loopw [3] (fun n wr => ∃ k : Nat, 1 ≤ k ∧ k ≤ s.size ∧ n = .int .i64 k ∧ Hid (∃ m, wr = w.drewN m) ∧ Hid (∀ j (h : j < s.data.toList.length), j < k → tokB s.data.toList[j] = tokB (s[0]'h0))) (fun n _ => s.size - (intOf n).toNat)
  case atStart => exact ⟨1, by omega, by omega, rfl, ⟨0, rfl⟩, fun j h hj => by
    obtain rfl : j = 0 := by omega
    rfl⟩
  case round =>
    obtain ⟨k, hk1, hk, rfl, hF, HA⟩ := hrel
    have hG : ∀ q, Hid (∃ m, wr.drewN q = w.drewN m) := fun q => by
      obtain ⟨m, hm⟩ := hF.out
      exact ⟨m + q, by rw [hm, drewN_add]⟩
    by_cases hlt : k < s.size
    · obtain ⟨b0, hb0⟩ : ∃ b, inB (s[0]'h0).toNat = b := ⟨_, rfl⟩
      obtain ⟨bk, hbk⟩ : ∃ b, inB (s[k]'hlt).toNat = b := ⟨_, rfl⟩
      have H0 : Hid (tokB (s[0]'h0) = b0) := hb0
      have HK : Hid (tokB (s[k]'hlt) = bk) := hbk
      cases b0 <;> cases bk
      all_goals
        go_wp2_with fail
        go_quiet ((go_at_call 35; exact Calls.quiet_of_same (inToken_q _ _)))
        go_wp2_with fail
      · exact ⟨⟨k + 1, by omega, by omega, by go_num, hG _, first_on h0 hlt HA.out (by rw [HK.out, H0.out])⟩, by simp [intOf]; omega⟩
      · go_ret
        exact ⟨ret_int (by rw [first_is h0 hk1 hk HA.out (fun _ e => by rw [HK.out, H0.out] at e; cases e)]), hG _⟩
      · go_ret
        exact ⟨ret_int (by rw [first_is h0 hk1 hk HA.out (fun _ e => by rw [HK.out, H0.out] at e; cases e)]), hG _⟩
      · exact ⟨⟨k + 1, by omega, by omega, by go_num, hG _, first_on h0 hlt HA.out (by rw [HK.out, H0.out])⟩, by simp [intOf]; omega⟩
    · have hd : decide ((k : Int) < (s.size : Int)) = false := by simp; omega
      go_wp2_with fail
      go_quiet (fail)
      go_wp2_with fail
      go_ret
      exact ⟨ret_int (by rw [first_is h0 hk1 hk HA.out (fun h => absurd h hlt)]), hG _⟩

set_option maxHeartbeats 2000000 in
theorem token_draws (s : ByteArray) (w : World) (hs : s.size < 100000) : Calls Try.prog 20 #[.string s] w fun e w' => e = .returned (.bool (tok s.data.toList)) ∧ Hid (∃ m, w' = w.drewN m) := by
  by_cases h0 : 0 < s.size
  · have hne : ¬ s.data.toList = [] := fun e => by have := len_eq s; rw [e] at this; simp at this; omega
    obtain ⟨q1, q2⟩ := asks_no hne
    have q3 : ¬ s = ByteArray.empty := fun e => by rw [e] at hne; exact hne rfl
    have cF := first_draws s w h0 (by omega)
    have hT := tok_size h0
    have cI := inToken_any (s[0]'h0).toNat w
    rw [hT]
    generalize firstLen s.data.toList = m at cF hT
    cases hb : inB (s[0]'h0).toNat
    all_goals
      rw [hb] at cI
      clear hT hne hb
      go_enter Try.func20, Try.ntmps20
      go_wp2_with first
        | (go_at_call 35; refine cI.mono ?_; rintro e w' ⟨rfl, rfl⟩)
        | (go_at_call 36; refine cF.mono ?_; rintro e w' ⟨rfl, hF⟩)
      go_ret
    · exact ⟨rfl, ⟨0, rfl⟩⟩
    · exact ⟨rfl, hF⟩
  · obtain rfl : s = ByteArray.empty := str_of (l := []) (List.eq_nil_of_length_eq_zero (by rw [len_eq]; omega))
    show Calls _ _ _ _ fun e w' => e = .returned (.bool false) ∧ Hid (∃ m, w' = w.drewN m)
    go_enter Try.func20, Try.ntmps20
    go_wp2_with fail
    go_ret
    exact ⟨rfl, ⟨0, rfl⟩⟩

/-- As a region that draws its order wants it. -/
theorem token_q (s : ByteArray) (b : Bool) (hb : tok s.data.toList = b) (hs : s.size < 100000) (w : World) (n : Nat) : Calls Try.prog 20 #[.string s] (w.drewN n) fun e w'' => e = .returned (.bool b) ∧ ∃ m, w'' = w.drewN m :=
  (token_draws s (w.drewN n) hs).mono fun e w'' ⟨h1, h2⟩ => ⟨by rw [h1, hb], by
    obtain ⟨m, hm⟩ := h2.out
    exact ⟨n + m, by rw [hm, drewN_add]⟩⟩

end Go.Proofs.Ytmoocmajfgghhaa
