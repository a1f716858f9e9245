/-
  What is proved here: what the document's part, Within, Apart, Moved and Parent answer. The texts are shorter than 100000000 bytes.
-/
import Derived.Test.YtbiilnhefoplkaaGreatDoorM2PBase
import Derived.Test.YtbiilnhefoplkaaGreatDoorProg
import Derived.WalkKit
import Derived.Laws.Strings3
import Derived.Laws.Concat
namespace Go.Proofs.YtbiilnhefoplkaaGreatDoor.Path
open Go.RowKit
set_option maxRecDepth 100000

theorem len_eq (s : ByteArray) : s.data.toList.length = s.size := by cases s; rfl

theorem take_snoc (s : ByteArray) (k : Nat) (h : k < s.size) : s.data.toList.take (k + 1) = s.data.toList.take k ++ [s[k]] := by
  rw [List.take_succ_eq_append_getElem (by simpa using h)]; rfl

theorem str_eq (s : ByteArray) (l : List UInt8) : (s = ⟨l.toArray⟩) ↔ s.data.toList = l := by
  constructor
  · rintro rfl; rfl
  · intro h; cases s with | mk d => cases d; simp at h; subst h; rfl

theorem all_step {f : UInt8 → Bool} {s : ByteArray} {k : Nat} (h : k < s.size) (ha : (s.data.toList.take k).all f = true) (hc : f s[k] = true) : (s.data.toList.take (k + 1)).all f = true := by
  rw [take_snoc s k h, List.all_append, ha]
  simp [hc]

theorem all_no {f : UInt8 → Bool} {s : ByteArray} {k : Nat} (h : k < s.size) (hc : f s[k] = false) : s.data.toList.all f = false := by
  rw [List.all_eq_false]
  exact ⟨s[k], List.getElem_mem (l := s.data.toList) (n := k) (by rw [len_eq]; exact h), by simp [hc]⟩

/-- How the walk asks whether a text is that one. -/
theorem asks_no {s : ByteArray} {l : List UInt8} (h : ¬ s.data.toList = l) : (¬ s.toList = l) ∧ (s.toList == l) = false := by
  rw [ByteArray.toList_eq]; exact ⟨h, by simpa using h⟩

theorem asks_yes {s : ByteArray} {l : List UInt8} (h : s.data.toList = l) : s.toList = l ∧ (s.toList == l) = true := by
  rw [ByteArray.toList_eq]; exact ⟨h, by simpa using h⟩

set_option maxHeartbeats 1000000 in
theorem rpart_any (s : ByteArray) (w : World) (hs : s.size < 100000000) : Calls Tryz.prog 67 #[.string s] w fun e w' => e = .returned (.bool (goodPart s.data.toList)) ∧ w = w' := by
  have e : s.data.toList.length = s.size := len_eq s
  by_cases h1 : 1 ≤ s.size
  case neg =>
    have hR : goodPart s.data.toList = false := by simp [goodPart, e]; omega
    have i1 : (s.size : Int) < 1 := by omega
    rw [hR]
    clear hR e
    go_enter Tryz.func67, Tryz.ntmps67
    go_wp2
    go_ret
    exact ⟨rfl, rfl⟩
  case pos =>
  by_cases h2 : s.size ≤ 16
  case neg =>
    have hR : goodPart s.data.toList = false := by simp [goodPart, e]; omega
    have i1 : ¬ (s.size : Int) < 1 := by omega
    have i2 : (16 : Int) < s.size := by omega
    rw [hR]
    clear hR e
    go_enter Tryz.func67, Tryz.ntmps67
    go_wp2
    go_ret
    exact ⟨rfl, rfl⟩
  case pos =>
  have i1 : ¬ (s.size : Int) < 1 := by omega
  have i2 : ¬ (16 : Int) < s.size := by omega
  by_cases h3 : s.data.toList = [46]
  case pos =>
    have hR : goodPart s.data.toList = false := by rw [h3]; rfl
    obtain ⟨q1, q2⟩ := asks_yes h3
    rw [hR]
    clear hR e h3
    go_enter Tryz.func67, Tryz.ntmps67
    go_wp2
    go_ret
    exact ⟨rfl, rfl⟩
  case neg =>
  obtain ⟨q1, q2⟩ := asks_no h3
  by_cases h4 : s.data.toList = [46, 46]
  case pos =>
    have hR : goodPart s.data.toList = false := by rw [h4]; rfl
    obtain ⟨q3, q4⟩ := asks_yes h4
    rw [hR]
    clear hR e h3 h4 q1
    go_enter Tryz.func67, Tryz.ntmps67
    go_wp2
    go_ret
    exact ⟨rfl, rfl⟩
  case neg =>
  obtain ⟨q3, q4⟩ := asks_no h4
  have hR : Hid (goodPart s.data.toList = s.data.toList.all good) := by
    unfold Hid goodPart
    rw [e]
    simp only [h3, h4, h1, h2, decide_true, decide_false, Bool.not_false, Bool.and_true, Bool.true_and]
  clear e h3 h4
  go_enter Tryz.func67, Tryz.ntmps67
  go_wp2_with fail
  go_loop [3] (fun i => ∃ k : Nat, k ≤ s.size ∧ i = .int .i64 k ∧ Hid ((s.data.toList.take k).all good = true)) (fun i => s.size - (intOf i).toNat)
  case atStart => exact ⟨0, Nat.zero_le _, rfl, rfl⟩
  case round =>
    obtain ⟨k, hk, rfl, HA⟩ := hrel
    by_cases hlt : k < s.size
    · obtain ⟨v, hv⟩ : ∃ v : Nat, (s[k]).toNat = v := ⟨_, rfl⟩
      have hg : Hid (good s[k] = (decide (v = 46) || decide (v = 95) || decide (v = 45) || (decide (97 ≤ v) && decide (v ≤ 122)) || (decide (48 ≤ v) && decide (v ≤ 57)))) := by
        unfold Hid good; rw [hv]
      go_wp2_with fail
      all_goals (try simp only [bne_eq_false_iff_eq, bne_iff_ne, ne_eq] at *)
      all_goals first
        | (go_ret
           refine ⟨?_, rfl⟩
           have hc : good s[k] = false := by rw [hg.out]; simp; omega
           rw [hR.out, all_no hlt hc]; rfl)
        | exact ⟨⟨k + 1, by omega, by go_num, all_step hlt HA.out (by rw [hg.out]; simp; omega)⟩, by simp [intOf]; omega⟩
        | (exfalso; omega)
    · go_wp2
      go_ret
      refine ⟨?_, rfl⟩
      have ht := HA.out
      rw [List.take_of_length_le (by rw [len_eq]; omega)] at ht
      rw [hR.out, ht]
      rfl
end Go.Proofs.YtbiilnhefoplkaaGreatDoor.Path
