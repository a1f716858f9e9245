/-
  What is proved here: what the document's Join, Tokens and Replace answer. Conditions: the texts are shorter than 100000 bytes, the rows lie in memory.
-/
import Derived.Test.YtmoocmajfgghhaaRDoc
namespace Go.Proofs.Ytmoocmajfgghhaa
open Go.RowKit
set_option maxRecDepth 100000

theorem join_take {l : List ByteArray} {k : Nat} (hk : k < l.length) : join (bs (l.take (k + 1))) = join (bs (l.take k)) ++ l[k].data.toList ++ [10] := by
  rw [List.take_succ_eq_append_getElem hk, bs_append, show bs [l[k]] = [l[k].data.toList] from rfl, join_snoc]

theorem join_le (l : List ByteArray) (k : Nat) : (join (bs (l.take k))).length ≤ (join (bs l)).length := by
  conv => rhs; rw [← List.take_append_drop k l, bs_append, join_append, List.length_append]
  omega

theorem item_le {l : List ByteArray} {k : Nat} (hk : k < l.length) : (join (bs (l.take k))).length + l[k].size + 1 ≤ (join (bs l)).length := by
  have h1 := join_le l (k + 1)
  rw [join_take hk, List.length_append, List.length_append, len_eq] at h1
  simpa using h1

set_option maxHeartbeats 2000000 in
theorem rJoin_any (va : Option Addr) (ca : Nat) (l : List ByteArray) (w : World) (ha : Row w va l) (hl : (l.length : Int) < 1000000) (hb : (join (bs l)).length ≤ 100000000) :
    Calls Try.prog 15 #[.slice va l.length ca] w fun e w' => e = .returned (.string ⟨(join (bs l)).toArray⟩) ∧ Fr None' w w' := by
  obtain ⟨n, hna⟩ : ∃ n, l.length = n := ⟨_, rfl⟩
  have HA : Hid (l.length = n) := hna
  have HB : Hid ((join (bs l)).length ≤ 100000000) := hb
  rw [hna] at hl ⊢
  clear hb hna
  go_enter Try.func15, Try.ntmps15
  go_wp2_with fail
  go_loopw [3, 4] (fun v i wr => ∃ k : Nat, k ≤ n ∧ i = .int .i64 k ∧ OwnB w wr v (join (bs (l.take k))) ∧ Fr None' w wr) (fun _ i _ => n - (intOf i).toNat)
  case atStart => exact ⟨0, Nat.zero_le _, rfl, OwnB.nil w w, Fr.refl _ _⟩
  case round =>
    obtain ⟨k, hk, rfl, own, fr⟩ := hrel
    by_cases hlt : k < n
    · have hka : k < l.length := by rw [HA.out]; exact hlt
      obtain ⟨ga, oa, rfl, c1⟩ := (ha.fr fr).get hka
      have HI : Hid _ := item_le hka
      have HJ : Hid _ := join_take hka
      obtain ⟨x, hx⟩ : ∃ x, l[k] = x := ⟨_, rfl⟩
      rw [hx] at c1 HI HJ
      clear hx ha
      have i2 : (k : Int) < n := by omega
      go_wp2_with (first
        | (at_builtin
           refine append_text rfl _ _ rfl rfl own fr rfl (by have := HI.out; have := HB.out; omega) ?_
           intro v1 w1 own1 f1
           clear own fr c1)
        | (at_builtin
           refine append_ten rfl _ _ rfl rfl own1 f1 rfl (by have := HI.out; have := HB.out; rw [List.length_append, len_eq]; omega) ?_
           intro v2 w2 own2 f2
           clear own1 f1))
      exact ⟨⟨k + 1, by omega, by go_num, by rw [HJ.out]; exact own2, f2⟩, by simp [intOf]; omega⟩
    · have HK : Hid (l.take k = l) := List.take_of_length_le (by rw [HA.out]; omega)
      have cC := conv_row own
      rw [HK.out] at cC
      go_wp2_with fail
      go_ret
      exact ⟨rfl, fr⟩

end Go.Proofs.Ytmoocmajfgghhaa
