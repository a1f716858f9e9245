/-
  What is proved here: what inToken, first and Token answer, and the document's in and Token. The texts are shorter than 140737488355329 bytes.
-/
import Derived.Test.YtbiilnhefoplkaaGreatDoorM3LPlain
import Derived.Test.YtbiilnhefoplkaaGreatDoorProg
import Derived.WalkKit
import Derived.Laws.Strings3
import Derived.Laws.Concat
namespace Go.Proofs.YtbiilnhefoplkaaGreatDoor.Lines
open Go.RowKit
set_option maxRecDepth 100000

theorem len_eq (s : ByteArray) : s.data.toList.length = s.size := by cases s; rfl

theorem str_of {s : ByteArray} {l : Bs} (h : s.data.toList = l) : s = ⟨l.toArray⟩ := by
  cases s with | mk d => cases d; simp at h; subst h; rfl

theorem take_snoc (s : ByteArray) (k : Nat) (h : k < s.size) : s.data.toList.take (k + 1) = s.data.toList.take k ++ [s[k]] := by
  rw [List.take_succ_eq_append_getElem (by simpa using h)]; rfl

/-- How the walk asks whether a text is that one. -/
theorem asks_no {s : ByteArray} {l : List UInt8} (h : ¬ s.data.toList = l) : (¬ s.toList = l) ∧ (s.toList == l) = false := by
  rw [ByteArray.toList_eq]; exact ⟨h, by simpa using h⟩

theorem asks_yes {s : ByteArray} {l : List UInt8} (h : s.data.toList = l) : s.toList = l ∧ (s.toList == l) = true := by
  rw [ByteArray.toList_eq]; exact ⟨h, by simpa using h⟩

theorem extract_list (s : ByteArray) (a b : Nat) : (s.extract a b).data.toList = (s.data.toList.take b).drop a := by
  simp [ByteArray.data_extract, Array.toList_extract, List.extract_eq_take_drop, List.drop_take]

theorem Grew.of {w w' : World} (h : Below w.heap.size w w') : Fr None' w w' := ⟨h.os, h.tape, h.output, h.size, fun k hk _ => h.block k hk⟩

theorem Grew.below {w w' : World} (h : Fr None' w w') : Below w.heap.size w w' := Fr.below h (Nat.le_refl _) (fun _ e => e.elim)

set_option maxHeartbeats 1000000 in
theorem inToken_any (c : Int) (w : World) : Calls Tryz.prog 151 #[.int .u8 c] w fun e w' => e = .returned (.bool (inB c)) ∧ w = w' := by
  unfold inB
  go_enter Tryz.func151, Tryz.ntmps151
  go_wp2_with fail
  all_goals
    go_ret
    refine ⟨?_, rfl⟩
    refine congrArg (fun b => Ending.returned (Value.bool b)) ?_
    first
      | (rw [Bool.eq_iff_iff]; simp; omega)
      | (rw [Bool.eq_iff_iff]; simp; done)
      | (simp; omega)
      | (simp; done)

set_option maxHeartbeats 1000000 in
theorem rIn_any (c : Int) (w : World) : Calls Tryz.prog 68 #[.int .u8 c] w fun e w' => e = .returned (.bool (inB c)) ∧ w = w' := by
  unfold inB
  go_enter Tryz.func68, Tryz.ntmps68
  go_wp2_with fail
  all_goals
    go_ret
    refine ⟨?_, rfl⟩
    refine congrArg (fun b => Ending.returned (Value.bool b)) ?_
    first
      | (rw [Bool.eq_iff_iff]; simp; omega)
      | (rw [Bool.eq_iff_iff]; simp; done)
      | (simp; omega)
      | (simp; done)

theorem inToken_q (c : Int) (w : World) : Calls Tryz.prog 151 #[.int .u8 c] w fun e w' => e = .returned (.bool (inB c)) ∧ w' = w := (inToken_any c w).mono fun _ _ h => ⟨h.1, h.2.symm⟩

theorem rIn_q (c : Int) (w : World) : Calls Tryz.prog 68 #[.int .u8 c] w fun e w' => e = .returned (.bool (inB c)) ∧ w' = w := (rIn_any c w).mono fun _ _ h => ⟨h.1, h.2.symm⟩

theorem ret_int {k : IntKind} {a b : Int} (h : a = b) : Ending.returned (.int k a) = .returned (.int k b) := by rw [h]
theorem ret_bool {a b : Bool} (h : a = b) : Ending.returned (.bool a) = .returned (.bool b) := by rw [h]

theorem first_is {s : ByteArray} {k : Nat} (h0 : 0 < s.size) (h1 : 1 ≤ k) (hk : k ≤ s.size) (HA : ∀ j (h : j < s.data.toList.length), j < k → tokB s.data.toList[j] = tokB (s[0]'h0)) (hn : ∀ h : k < s.size, tokB (s[k]'h) ≠ tokB (s[0]'h0)) : firstLen s.data.toList = k :=
  firstLen_eq _ _ (by omega) (by rw [len_eq]; exact hk) _ HA (fun h => hn (by rw [← len_eq]; exact h))

theorem first_on {s : ByteArray} {k : Nat} (h0 : 0 < s.size) (hlt : k < s.size) (HA : ∀ j (h : j < s.data.toList.length), j < k → tokB s.data.toList[j] = tokB (s[0]'h0)) (hy : tokB (s[k]'hlt) = tokB (s[0]'h0)) : ∀ j (h : j < s.data.toList.length), j < k + 1 → tokB s.data.toList[j] = tokB (s[0]'h0) := fun j h hj => by
  by_cases e : j = k
  · subst e; exact hy
  · exact HA j h (by omega)

set_option maxHeartbeats 2000000 in
theorem first_any (s : ByteArray) (w : World) (h0 : 0 < s.size) (hs : (s.size : Int) < 140737488355330) : Calls Tryz.prog 152 #[.string s] w fun e w' => e = .returned (.int .i64 (firstLen s.data.toList)) ∧ Fr None' w w' := by
  go_enter Tryz.func152, Tryz.ntmps152
  go_wp2_with fail
  go_loopw [3] (fun n wr => ∃ k : Nat, 1 ≤ k ∧ k ≤ s.size ∧ n = .int .i64 k ∧ Fr None' w wr ∧ Hid (∀ j (h : j < s.data.toList.length), j < k → tokB s.data.toList[j] = tokB (s[0]'h0))) (fun n _ => s.size - (intOf n).toNat)
  case atStart => exact ⟨1, by omega, by omega, rfl, Fr.refl _ _, fun j h hj => by
    obtain rfl : j = 0 := by omega
    rfl⟩
  case round =>
    obtain ⟨k, hk1, hk, rfl, hF, HA⟩ := hrel
    by_cases hlt : k < s.size
    · obtain ⟨b0, hb0⟩ : ∃ b, inB (s[0]'h0).toNat = b := ⟨_, rfl⟩
      obtain ⟨bk, hbk⟩ : ∃ b, inB (s[k]'hlt).toNat = b := ⟨_, rfl⟩
      have H0 : Hid (tokB (s[0]'h0) = b0) := hb0
      have HK : Hid (tokB (s[k]'hlt) = bk) := hbk
      cases b0 <;> cases bk
      all_goals
        go_wp2_with fail
        go_quiet ((go_at_call 151; exact Calls.quiet_of_same (inToken_q _ _)))
        go_wp2_with fail
      · exact ⟨⟨k + 1, by omega, by omega, by go_num, hF.then (Fr.drewN _ _ _), first_on h0 hlt HA.out (by rw [HK.out, H0.out])⟩, by simp [intOf]; omega⟩
      · go_ret
        exact ⟨ret_int (by rw [first_is h0 hk1 hk HA.out (fun _ e => by rw [HK.out, H0.out] at e; cases e)]), hF.then (Fr.drewN _ _ _)⟩
      · go_ret
        exact ⟨ret_int (by rw [first_is h0 hk1 hk HA.out (fun _ e => by rw [HK.out, H0.out] at e; cases e)]), hF.then (Fr.drewN _ _ _)⟩
      · exact ⟨⟨k + 1, by omega, by omega, by go_num, hF.then (Fr.drewN _ _ _), first_on h0 hlt HA.out (by rw [HK.out, H0.out])⟩, by simp [intOf]; omega⟩
    · have hd : decide ((k : Int) < (s.size : Int)) = false := by simp; omega
      go_wp2_with fail
      go_quiet (fail)
      go_wp2_with fail
      go_ret
      exact ⟨ret_int (by rw [first_is h0 hk1 hk HA.out (fun h => absurd h hlt)]), hF.then (Fr.drewN _ _ _)⟩

theorem tok_size {s : ByteArray} (h0 : 0 < s.size) : tok s.data.toList = (inB (s[0]'h0).toNat && decide ((firstLen s.data.toList : Int) = (s.size : Int))) := by
  obtain ⟨⟨l⟩⟩ := s
  cases l with
  | nil => exact absurd h0 (by decide)
  | cons c r =>
    show tok (c :: r) = (inB c.toNat && decide ((firstLen (c :: r) : Int) = ((c :: r).length : Int)))
    rw [tok_first, tokB]
    refine congrArg _ ?_
    rw [Bool.eq_iff_iff]; simp; omega

set_option maxHeartbeats 2000000 in
theorem token_any (s : ByteArray) (w : World) (hs : s.size < 140737488355329) : Calls Tryz.prog 133 #[.string s] w fun e w' => e = .returned (.bool (tok s.data.toList)) ∧ Fr None' w w' := by
  by_cases h0 : 0 < s.size
  · have hne : ¬ s.data.toList = [] := fun e => by have := len_eq s; rw [e] at this; simp at this; omega
    obtain ⟨q1, q2⟩ := asks_no hne
    have q3 : ¬ s = ByteArray.empty := fun e => by rw [e] at hne; exact hne rfl
    have cF := first_any s w h0 (by omega)
    have hT := tok_size h0
    have cI := inToken_any (s[0]'h0).toNat w
    rw [hT]
    generalize firstLen s.data.toList = m at cF hT
    cases hb : inB (s[0]'h0).toNat
    all_goals
      rw [hb] at cI
      clear hT hne hb
      go_enter Tryz.func133, Tryz.ntmps133
      go_wp2_with first
        | (go_at_call 151; refine cI.mono ?_; rintro e w' ⟨rfl, rfl⟩)
        | (go_at_call 152; refine cF.mono ?_; rintro e w' ⟨rfl, hF⟩)
      go_ret
    · exact ⟨rfl, Fr.refl _ _⟩
    · exact ⟨rfl, hF⟩
  · obtain rfl : s = ByteArray.empty := str_of (l := []) (List.eq_nil_of_length_eq_zero (by rw [len_eq]; omega))
    show Calls _ _ _ _ fun e w' => e = .returned (.bool false) ∧ Fr None' w w'
    go_enter Tryz.func133, Tryz.ntmps133
    go_wp2_with fail
    go_ret
    exact ⟨rfl, Fr.refl _ _⟩

theorem all_step {f : UInt8 → Bool} {s : ByteArray} {k : Nat} (h : k < s.size) (ha : (s.data.toList.take k).all f = true) (hc : f s[k] = true) : (s.data.toList.take (k + 1)).all f = true := by
  rw [take_snoc s k h, List.all_append, ha]
  simp [hc]

theorem all_no {f : UInt8 → Bool} {s : ByteArray} {k : Nat} (h : k < s.size) (hc : f s[k] = false) : s.data.toList.all f = false := by
  rw [List.all_eq_false]
  exact ⟨s[k], List.getElem_mem (l := s.data.toList) (n := k) (by rw [len_eq]; exact h), by simp [hc]⟩

set_option maxHeartbeats 2000000 in
theorem rToken_any (s : ByteArray) (w : World) (hs : s.size < 140737488355329) : Calls Tryz.prog 57 #[.string s] w fun e w' => e = .returned (.bool (tok s.data.toList)) ∧ Fr None' w w' := by
  have hR : Hid (tok s.data.toList = (decide (0 < s.size) && s.data.toList.all tokB)) := by
    unfold Hid tok
    rw [← len_eq s]
    cases s.data.toList <;> rfl
  go_enter Tryz.func57, Tryz.ntmps57
  go_wp2_with fail
  go_loop [3] (fun i => ∃ k : Nat, k ≤ s.size ∧ i = .int .i64 k ∧ Hid ((s.data.toList.take k).all tokB = true)) (fun i => s.size - (intOf i).toNat)
  case atStart => exact ⟨0, Nat.zero_le _, rfl, rfl⟩
  case round =>
    obtain ⟨k, hk, rfl, HA⟩ := hrel
    by_cases hlt : k < s.size
    · have cI := rIn_any (s[k]'hlt).toNat w
      cases hb : inB (s[k]'hlt).toNat
      all_goals
        have HB : Hid (tokB (s[k]'hlt) = _) := hb
        rw [hb] at cI
        clear hb
        go_wp2_with (go_at_call 68; refine cI.mono ?_; rintro e w' ⟨rfl, rfl⟩)
      · go_ret
        exact ⟨ret_bool (by rw [hR.out, all_no hlt HB.out, Bool.and_false]), Fr.refl _ _⟩
      · exact ⟨⟨k + 1, by omega, by go_num, all_step hlt HA.out HB.out⟩, by simp [intOf]; omega⟩
    · go_wp2_with fail
      go_ret
      refine ⟨ret_bool ?_, Fr.refl _ _⟩
      have ht := HA.out
      rw [List.take_of_length_le (by rw [len_eq]; omega)] at ht
      rw [hR.out, ht, Bool.and_true]

end Go.Proofs.YtbiilnhefoplkaaGreatDoor.Lines
