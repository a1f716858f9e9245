/-
  What is proved here: what the document's Same and Right answer. Conditions: the rows lie in memory, and are no longer than a slice may be.
-/
import Derived.Test.YtlmgbcfcikdgpaaGreatDoorLStrs
namespace Go.Proofs.YtlmgbcfcikdgpaaGreatDoor.Lines
open Go.RowKit
set_option maxRecDepth 100000

theorem list_step {a b : List ByteArray} {k : Nat} (hn : a.length = b.length) (hk : k < a.length) (h : a.take k = b.take k) (e : a[k] = b[k]'(hn ▸ hk)) : a.take (k + 1) = b.take (k + 1) := by
  rw [List.take_succ_eq_append_getElem hk, List.take_succ_eq_append_getElem (hn ▸ hk), h, e]

theorem str_no {x y : ByteArray} (h : ¬ x = y) : (¬ x.toList = y.toList) ∧ (x.toList == y.toList) = false := by
  rw [ByteArray.toList_eq, ByteArray.toList_eq]
  have : ¬ x.data.toList = y.data.toList := fun e => h (by rw [str_of e])
  exact ⟨this, by simpa using this⟩

set_option maxHeartbeats 2000000 in
theorem same_any (va vb : Option Addr) (ca cb : Nat) (a b : List ByteArray) (w : World) (ha : Row w va a) (hb : Row w vb b) (hl : a.length < 1000000) :
    Calls Tryz.prog 37 #[.slice va a.length ca, .slice vb b.length cb] w fun e w' => e = .returned (.bool (decide (a = b))) ∧ Fr None' w w' := by
  by_cases hn : a.length = b.length
  case neg =>
    have hR : Hid (decide (a = b) = false) := decide_eq_false (fun e => hn (by rw [e]))
    have i1 : ¬ (a.length : Int) = b.length := by omega
    rw [hR.out]
    clear ha hb hn hR
    go_enter Tryz.func37, Tryz.ntmps37
    go_wp2_with fail
    go_ret
    exact ⟨rfl, Fr.refl _ _⟩
  case pos =>
  have HN : Hid (a.length = b.length) := hn
  obtain ⟨n, hna⟩ : ∃ n, a.length = n := ⟨_, rfl⟩
  have HA : Hid (a.length = n) := hna
  rw [← hn, hna]
  have i1 : (n : Int) < 1000000 := by omega
  clear hl hn hna
  go_enter Tryz.func37, Tryz.ntmps37
  go_wp2_with fail
  go_loopw [5] (fun i wr => ∃ k : Nat, k ≤ n ∧ i = .int .i64 k ∧ Fr None' w wr ∧ Hid (a.take k = b.take k)) (fun i _ => n - (intOf i).toNat)
  case atStart => exact ⟨0, Nat.zero_le _, rfl, Fr.refl _ _, rfl⟩
  case round =>
    obtain ⟨k, hk, rfl, hF, HT⟩ := hrel
    by_cases hlt : k < n
    · have hka : k < a.length := by rw [HA.out]; exact hlt
      have hkb : k < b.length := by rw [← HN.out]; exact hka
      obtain ⟨ga, oa, rfl, c1⟩ := (ha.fr hF).get hka
      obtain ⟨gb, ob, rfl, c2⟩ := (hb.fr hF).get hkb
      obtain ⟨x, hx⟩ : ∃ x, a[k] = x := ⟨_, rfl⟩
      obtain ⟨y, hy⟩ : ∃ y, b[k] = y := ⟨_, rfl⟩
      have HX : Hid (a[k] = x) := hx
      have HY : Hid (b[k] = y) := hy
      rw [hx] at c1
      rw [hy] at c2
      clear hx hy ha hb
      have i2 : (k : Int) < n := by omega
      by_cases hxy : x = y
      · subst hxy
        go_wp2_with fail
        go_quiet (fail)
        go_wp2_with fail
        exact ⟨⟨k + 1, by omega, by go_num, hF.then (Fr.drewN _ _ _), list_step HN.out hka HT.out (by rw [HX.out, HY.out])⟩, by simp [intOf]; omega⟩
      · have HE : Hid (¬ x = y) := hxy
        obtain ⟨q1, q2⟩ := str_no hxy
        clear hxy
        go_wp2_with fail
        go_quiet (fail)
        clear c1 c2
        go_wp2_with fail
        go_ret
        exact ⟨ret_bool (decide_eq_false (fun e => HE.out (by rw [← HX.out, ← HY.out]; subst e; rfl))).symm, hF.then (Fr.drewN _ _ _)⟩
    · go_wp2_with fail
      go_ret
      refine ⟨ret_bool ?_, hF⟩
      have := HT.out
      rw [List.take_of_length_le (by rw [HA.out]; omega), List.take_of_length_le (by rw [← HN.out, HA.out]; omega)] at this
      exact (decide_eq_true this).symm

/-- No line ends in it. -/
def no10 (x : Bs) : Bool := x.all (fun c => decide (c.toNat ≠ 10))

theorem no10_is (x : Bs) : (!x.contains 10) = no10 x := by
  induction x with
  | nil => rfl
  | cons c r ih =>
    rw [no10, List.all_cons, List.contains_cons, Bool.not_or, ih, no10]
    refine congrArg (· && _) ?_
    rw [Bool.eq_iff_iff]
    simp only [Bool.not_eq_true', beq_eq_false_iff_ne, ne_eq, decide_eq_true_eq]
    exact ⟨fun h e => h (UInt8.toNat_inj.1 e).symm, fun h e => h (by rw [← e]; rfl)⟩

theorem right_all (l : List Bs) : right l = l.all no10 := by
  unfold right
  refine congrArg (l.all ·) ?_
  funext x
  exact no10_is x

theorem right_step {l : List ByteArray} {k : Nat} (hk : k < l.length) (h : right (bs (l.take k)) = true) (hx : no10 l[k].data.toList = true) : right (bs (l.take (k + 1))) = true := by
  rw [List.take_succ_eq_append_getElem hk, bs_append, right_all, List.all_append, ← right_all, h]
  simp [bs, hx]

theorem right_not {l : List ByteArray} {k : Nat} (hk : k < l.length) (hx : no10 l[k].data.toList = false) : right (bs l) = false := by
  rw [right_all, List.all_eq_false]
  exact ⟨l[k].data.toList, List.mem_map.2 ⟨_, List.getElem_mem hk, rfl⟩, by simp [hx]⟩

set_option maxHeartbeats 2000000 in
theorem rRight_any (va : Option Addr) (ca : Nat) (l : List ByteArray) (w : World) (ha : Row w va l) (hl : l.length < 1000000) (hb : ∀ x ∈ l, x.size < 900000) :
    Calls Tryz.prog 49 #[.slice va l.length ca] w fun e w' => e = .returned (.bool (right (bs l))) ∧ Fr None' w w' := by
  obtain ⟨n, hna⟩ : ∃ n, l.length = n := ⟨_, rfl⟩
  have HA : Hid (l.length = n) := hna
  rw [hna]
  have i1 : (n : Int) < 1000000 := by omega
  have HB : Hid (∀ x ∈ l, x.size < 900000) := hb
  clear hl hna hb
  go_enter Tryz.func49, Tryz.ntmps49
  go_wp2_with fail
  go_loopw [3] (fun i wr => ∃ k : Nat, k ≤ n ∧ i = .int .i64 k ∧ wr = w ∧ Hid (right (bs (l.take k)) = true)) (fun i _ => n - (intOf i).toNat)
  case atStart => exact ⟨0, Nat.zero_le _, rfl, rfl, rfl⟩
  case round =>
    obtain ⟨k, hk, rfl, hw, HT⟩ := hrel
    subst hw
    by_cases hlt : k < n
    · have hka : k < l.length := by rw [HA.out]; exact hlt
      obtain ⟨ga, oa, rfl, c1⟩ := ha.get hka
      obtain ⟨x, hx⟩ : ∃ x, l[k] = x := ⟨_, rfl⟩
      have hxs : x.size < 900000 := HB.out x (hx ▸ List.getElem_mem hka)
      have HX : Hid (l[k] = x) := hx
      rw [hx] at c1
      clear hx ha
      have i2 : (k : Int) < n := by omega
      go_wp2_with fail
      go_loopw [4] (fun i w2 => ∃ j : Nat, j ≤ x.size ∧ i = .int .i64 j ∧ w2 = wr ∧ Hid (no10 (x.data.toList.take j) = true)) (fun i _ => x.size - (intOf i).toNat)
      case atStart => exact ⟨0, Nat.zero_le _, rfl, rfl, rfl⟩
      case round =>
        obtain ⟨j, hj, rfl, rfl, HJ⟩ := hrel
        by_cases hjt : j < x.size
        · obtain ⟨v, hv⟩ : ∃ v : Nat, (x[j]).toNat = v := ⟨_, rfl⟩
          have HV : Hid (x[j].toNat = v) := hv
          by_cases h10 : v = 10
          · subst h10
            have HR : Hid (right (bs l) = false) := right_not hka (by rw [HX.out]; exact all_no hjt (by rw [HV.out]; rfl))
            clear HX HV HT HJ HA HB
            go_wp2_with fail
            go_ret
            exact ⟨ret_bool HR.out.symm, Fr.refl _ _⟩
          · have i3 : ¬ (v : Int) = 10 := by omega
            have HS : Hid (no10 (x.data.toList.take (j + 1)) = true) := all_step hjt HJ.out (by rw [HV.out]; exact decide_eq_true h10)
            have i5 : (x.size : Int) < 900000 := by omega
            have i6 : ((v : Int) == 10) = false := by simp; omega
            clear h10 HV HJ HT HX HA HB hxs i3
            go_wp2_with fail
            exact ⟨⟨j + 1, by omega, by go_num, trivial, HS.out⟩, by simp [intOf]; omega⟩
        · have HR : Hid (right (bs (l.take (k + 1))) = true) := right_step hka HT.out (by
            have := HJ.out
            rw [List.take_of_length_le (by rw [len_eq]; omega)] at this
            rw [HX.out]; exact this)
          go_wp2_with fail
          exact ⟨⟨k + 1, by omega, by go_num, trivial, HR.out⟩, by simp [intOf]; omega⟩
    · go_wp2_with fail
      go_ret
      refine ⟨ret_bool ?_, Fr.refl _ _⟩
      have := HT.out
      rw [List.take_of_length_le (by rw [HA.out]; omega)] at this
      exact this.symm

end Go.Proofs.YtlmgbcfcikdgpaaGreatDoor.Lines
