/-
  What is proved here: what Right answers. Conditions: the row lies in memory, and has fewer than a million texts.
-/
import Derived.Test.YtbiilnhefoplkaaGreatDoorM5ZLStrs
import Derived.Test.YtbiilnhefoplkaaGreatDoorM9PLay
namespace Go.Proofs.YtbiilnhefoplkaaGreatDoor.Lines
open Go.RowKit Go.Shelf
set_option maxRecDepth 100000

theorem index_no10 (x : Bs) : decide (0 ≤ Lib.indexByte x 10) = !no10 x := by
  rw [← no10_is, Bool.not_not, Bool.eq_iff_iff]
  have hge := Lib.indexByte_ge x 10
  simp only [decide_eq_true_eq, List.contains_iff_mem]
  constructor
  · intro h
    obtain ⟨i, hi⟩ := Int.eq_ofNat_of_zero_le h
    obtain ⟨h1, _⟩ := Lib.indexByte_some hi
    exact List.mem_of_getElem? h1
  · intro hm
    obtain ⟨k, hk, e⟩ := List.getElem_of_mem hm
    rcases Int.lt_or_le (Lib.indexByte x 10) 0 with h | h
    · exact absurd (by rw [List.getElem?_eq_getElem hk, e]) (Lib.indexByte_none (show Lib.indexByte x 10 = -1 by omega) k)
    · exact h

set_option maxHeartbeats 1000000 in
theorem right1_any (x : ByteArray) (w : World) : Calls Tryz.prog 147 #[.string x] w fun e w' => e = .returned (.bool (!no10 x.data.toList)) ∧ w = w' := by
  have cC := (Tryz.strings_Contains_one x 10 w).mono (R' := fun e w' => e = _ ∧ w = w') fun _ _ ⟨a, b⟩ => ⟨a, b.symm⟩
  rw [index_no10] at cC
  generalize (!no10 x.data.toList) = R at cC
  go_enter Tryz.func147, Tryz.ntmps147
  go_wp2_with (go_at_call 148; refine cC.mono ?_; rintro e w' ⟨rfl, rfl⟩)
  go_ret
  exact ⟨rfl, rfl⟩

set_option maxHeartbeats 2000000 in
theorem indexFunc_any (va : Option Addr) (ca : Nat) (l : List ByteArray) (w : World) (ha : Row w va l) (hl : (l.length : Int) < 140737488355329) :
    Calls Tryz.prog 31 #[.slice va l.length ca, .func (.func 147) #[] #[]] w fun e w' => ∃ z : Int, e = .returned (.int .i64 z) ∧ decide (0 ≤ z) = !right (bs l) ∧ w = w' := by
  obtain ⟨n, hna⟩ : ∃ n, l.length = n := ⟨_, rfl⟩
  have HA : Hid (l.length = n) := hna
  rw [hna] at hl ⊢
  clear hna
  go_enter Tryz.func31, Tryz.ntmps31
  go_wp2_with fail
  go_loopw [8] (fun i wr => ∃ k : Nat, k ≤ n ∧ i = .int .i64 k ∧ wr = w ∧ Hid (right (bs (l.take k)) = true)) (fun i _ => n - (intOf i).toNat)
  case atStart => exact ⟨0, Nat.zero_le _, rfl, rfl, rfl⟩
  case round =>
    obtain ⟨k, hk, rfl, hw, HT⟩ := hrel
    subst hw
    by_cases hlt : k < n
    · have hka : k < l.length := by rw [HA.out]; exact hlt
      obtain ⟨ga, oa, rfl, c1⟩ := ha.get hka
      obtain ⟨x, hx⟩ : ∃ x, l[k] = x := ⟨_, rfl⟩
      have HX : Hid (l[k] = x) := hx
      rw [hx] at c1
      clear hx ha
      have i2 : (k : Int) < n := by omega
      have cR := right1_any x wr
      cases hb : no10 x.data.toList
      · rw [hb] at cR
        have HR : Hid (right (bs l) = false) := right_not hka (by rw [HX.out]; exact hb)
        clear HX HT HA hb
        go_wp2_with fail
        refine cR.mono ?_
        rintro e w' ⟨rfl, rfl⟩
        clear cR
        go_wp2_with fail
        go_ret
        exact ⟨_, rfl, by rw [HR.out]; simp, rfl⟩
      · rw [hb] at cR
        have HR : Hid (right (bs (l.take (k + 1))) = true) := right_step hka HT.out (by rw [HX.out]; exact hb)
        clear HX HT HA hb
        go_wp2_with fail
        refine cR.mono ?_
        rintro e w' ⟨rfl, rfl⟩
        clear cR
        go_wp2_with fail
        exact ⟨⟨k + 1, by omega, by go_num, trivial, HR.out⟩, by simp [intOf]; omega⟩
    · have HR : Hid (right (bs l) = true) := by
        have := HT.out
        rw [List.take_of_length_le (by rw [HA.out]; omega)] at this
        exact this
      go_wp2_with fail
      go_ret
      exact ⟨_, rfl, by rw [HR.out]; rfl, rfl⟩

set_option maxHeartbeats 1000000 in
theorem right_any (va : Option Addr) (ca : Nat) (l : List ByteArray) (w : World) (ha : Row w va l) (hl : (l.length : Int) < 140737488355329) :
    Calls Tryz.prog 130 #[.slice va l.length ca] w fun e w' => e = .returned (.bool (right (bs l))) ∧ w = w' := by
  have cI := indexFunc_any va ca l w ha hl
  have cC : Calls Tryz.prog 146 #[.slice va l.length ca, .func (.func 147) #[] #[]] w fun e w' => e = .returned (.bool (!right (bs l))) ∧ w = w' := by
    clear ha hl
    generalize right (bs l) = R at cI
    generalize l.length = n at cI
    go_enter Tryz.func146, Tryz.ntmps146
    go_wp2_with (go_at_call 31; refine cI.mono ?_; rintro e w' ⟨z, rfl, hz, rfl⟩)
    go_ret
    exact ⟨rfl, rfl⟩
  clear ha hl cI
  generalize right (bs l) = R at cC
  generalize l.length = n at cC
  go_enter Tryz.func130, Tryz.ntmps130
  go_wp2_with (go_at_call 146; refine cC.mono ?_; rintro e w' ⟨rfl, rfl⟩)
  go_ret
  exact ⟨ret_bool (by simp), rfl⟩

end Go.Proofs.YtbiilnhefoplkaaGreatDoor.Lines
