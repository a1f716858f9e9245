/-
  What is proved here: what great of the statements answers. Conditions: the row lies in memory, and is no longer than a slice may be.
-/
import Derived.Test.YtmoocmajfgghhaaRJoin
namespace Go.Proofs.Ytmoocmajfgghhaa
open Go.RowKit
set_option maxRecDepth 100000

def gsum (l : List ByteArray) : Nat := (l.map (fun x => min x.size 20000)).sum

theorem gsum_take {l : List ByteArray} {k : Nat} (hk : k < l.length) : gsum (l.take (k + 1)) = gsum (l.take k) + min l[k].size 20000 := by
  rw [gsum, gsum, List.take_succ_eq_append_getElem hk, List.map_append, List.sum_append]
  simp

theorem gsum_join : ∀ l : List ByteArray, gsum l < 20000 → (join (bs l)).length = l.length + gsum l
  | [], _ => rfl
  | x :: l, h => by
    have e : gsum (x :: l) = min x.size 20000 + gsum l := by simp [gsum]
    rw [e] at h ⊢
    have ih := gsum_join l (by omega)
    rw [show bs (x :: l) = x.data.toList :: bs l from rfl, join_cons, List.length_append, List.length_cons, len_eq, ih, List.length_cons]
    omega

def GreatTold (l : List ByteArray) (e : Ending) : Prop := ∃ b, e = .returned (.bool b) ∧ (b = false → (join (bs l)).length < 20000)

set_option maxHeartbeats 2000000 in
theorem great_any (va : Option Addr) (ca : Nat) (l : List ByteArray) (w : World) (ha : Row w va l) (hl : (l.length : Int) ≤ 9223372036854775807) :
    Calls Try.prog 10 #[.slice va l.length ca] w fun e w' => GreatTold l e ∧ w = w' := by
  obtain ⟨n, hna⟩ : ∃ n, l.length = n := ⟨_, rfl⟩
  have HA : Hid (l.length = n) := hna
  rw [hna] at hl ⊢
  clear hna
  go_enter Try.func10, Try.ntmps10
  go_wp2_with fail
  go_loopw [3, 4] (fun v i wr => ∃ m k : Nat, k ≤ n ∧ v = .int .i64 m ∧ i = .int .i64 k ∧ wr = w ∧ Hid (m = n + gsum (l.take k))) (fun _ i _ => n - (intOf i).toNat)
  case atStart => exact ⟨n, 0, Nat.zero_le _, rfl, rfl, rfl, by simp [gsum, Hid]⟩
  case round =>
    obtain ⟨m, k, hk, rfl, rfl, hw, HT⟩ := hrel
    subst hw
    by_cases hlt : k < n
    · by_cases hm2 : (m : Int) < 20000
      · have hka : k < l.length := by rw [HA.out]; exact hlt
        obtain ⟨ga, oa, rfl, c1⟩ := ha.get hka
        obtain ⟨x, hx⟩ : ∃ x, l[k] = x := ⟨_, rfl⟩
        have HS : Hid (n + gsum (l.take (k + 1)) = m + min x.size 20000) := by
          show _ = _
          rw [gsum_take hka, hx, HT.out]; omega
        rw [hx] at c1
        clear hx ha
        have i2 : (k : Int) < n := by omega
        by_cases h20 : (20000 : Int) < x.size
        · have HS2 : Hid (m + 20000 = n + gsum (l.take (k + 1))) := by have := HS.out; show _ = _; omega
          clear HS HT HA
          go_wp2_with fail
          exact ⟨⟨m + 20000, k + 1, by omega, by go_num, by go_num, trivial, HS2.out⟩, by simp [intOf]; omega⟩
        · have HS2 : Hid (m + x.size = n + gsum (l.take (k + 1))) := by have := HS.out; show _ = _; omega
          clear HS HT HA
          go_wp2_with fail
          exact ⟨⟨m + x.size, k + 1, by omega, by go_num, by go_num, trivial, HS2.out⟩, by simp [intOf]; omega⟩
      · have i2 : (20000 : Int) ≤ m := by omega
        go_wp2_with fail
        go_ret
        exact ⟨⟨true, rfl, fun h => by cases h⟩, rfl⟩
    · go_wp2_with fail
      go_ret
      refine ⟨⟨_, rfl, fun hb => ?_⟩, rfl⟩
      have hb' := of_decide_eq_false hb
      have ht := HT.out
      rw [List.take_of_length_le (by rw [HA.out]; omega)] at ht
      rw [gsum_join l (by omega), HA.out]
      omega

end Go.Proofs.Ytmoocmajfgghhaa
