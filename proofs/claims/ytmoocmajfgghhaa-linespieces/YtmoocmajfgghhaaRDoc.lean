/-
  What is proved here: what the document's Split, Join, Tokens and Replace answer. Conditions: the texts are shorter than 100000 bytes, the rows lie in memory.
-/
import Derived.Test.YtmoocmajfgghhaaStrs
namespace Go.Proofs.Ytmoocmajfgghhaa
open Go.RowKit
set_option maxRecDepth 100000

/-- What a call that makes texts hands back. -/
structure Made (w : World) (t : List Bs) (v : Value) (w' : World) : Prop where
  is : ∃ l, bs l = t ∧ ∃ va c, v = .slice va l.length c ∧ (va = none → c = 0) ∧ Row w' va l
  fr : Fr None' w w'

theorem OwnS.made {w w' : World} {v : Value} {l : List ByteArray} {t : List Bs} (h : OwnS w w' v l) (e : bs l = t) (f : Fr None' w w') : Made w t v w' := by
  obtain ⟨va, c, e1, _, hn, hr⟩ := h.slice
  exact ⟨⟨l, e, va, c, e1, hn, hr⟩, f⟩

theorem text_last {s : ByteArray} (h0 : 0 < s.size) : text s.data.toList = decide ((s[s.size - 1]'(by omega)).toNat = 10) := by
  have hne : s.data.toList ≠ [] := fun e => by have := len_eq s; rw [e] at this; simp at this; omega
  have e : s.data.toList.getLast? = some (s[s.size - 1]'(by omega)) := by
    rw [List.getLast?_eq_getElem?, len_eq, List.getElem?_eq_getElem (by rw [len_eq]; omega)]; rfl
  unfold text
  rw [e, Bool.eq_iff_iff]
  simp only [List.isEmpty_eq_false_iff.2 hne, Bool.false_or, beq_iff_eq, Option.some.injEq, decide_eq_true_eq]
  exact ⟨fun h => by rw [h]; rfl, fun h => UInt8.toNat_inj.1 h⟩

theorem seg_list (s : ByteArray) (a b : Nat) : (s.extract a b).data.toList = (s.data.toList.drop a).take (b - a) := by rw [extract_list, List.drop_take]

theorem lns_count_le : ∀ s : Bs, (lns s).length ≤ s.length
  | [] => Nat.le_refl _
  | c :: r => by
    have := lns_count_le r
    rw [lns]
    split
    · simp; omega
    · split
      · simp
      · rename_i h; rw [h] at this; simp at this ⊢; omega

theorem pieces_count_le (s : Bs) : (pieces s).length ≤ s.length := by
  have h := (pieces_all s).2
  have hg := good_some (pieces_all s).1
  conv => rhs; rw [← h]
  generalize pieces s = l at hg
  induction l with
  | nil => simp
  | cons p l ih =>
    have h1 := hg p (by simp)
    have h2 := ih (fun q hq => hg q (by simp [hq]))
    have : 0 < p.length := List.length_pos_iff.2 h1
    simp only [List.length_cons, List.flatten_cons, List.length_append]
    omega

theorem split_done {s : ByteArray} {a : Nat} (ht : text s.data.toList = true) (ha : a ≤ s.size) (h : ∀ j (h : j < s.data.toList.length), a ≤ j → j < s.size → s.data.toList[j] ≠ 10) : s.data.toList.drop a = [] := by
  by_cases h0 : 0 < s.size
  · rw [text_last h0] at ht
    have h10 := of_decide_eq_true ht
    by_cases e : a = s.size
    · rw [e, ← len_eq, List.drop_length]
    · exact absurd (UInt8.toNat_inj.1 h10) (h (s.size - 1) (by rw [len_eq]; omega) (by omega) (by omega))
  · have : s.data.toList = [] := List.eq_nil_of_length_eq_zero (by rw [len_eq]; omega)
    rw [this, List.drop_nil]

theorem split_on {s : ByteArray} {a k : Nat} (h : ∀ j (h : j < s.data.toList.length), a ≤ j → j < k → s.data.toList[j] ≠ 10) (hk : k < s.size) (hv : (s[k]).toNat ≠ 10) : ∀ j (h : j < s.data.toList.length), a ≤ j → j < k + 1 → s.data.toList[j] ≠ 10 := fun j hj h1 h2 => by
  by_cases e : j = k
  · subst e; exact fun e => hv (by rw [show s[j] = 10 from e]; rfl)
  · exact h j hj h1 (by omega)

theorem split_cut {s : ByteArray} {a k : Nat} {l : List ByteArray} (h : ∀ j (h : j < s.data.toList.length), a ≤ j → j < k → s.data.toList[j] ≠ 10) (hak : a ≤ k) (hk : k < s.size) (hv : (s[k]).toNat = 10) (e : bs l ++ lns (s.data.toList.drop a) = lns s.data.toList) :
    bs (l ++ [s.extract a k]) ++ lns (s.data.toList.drop (k + 1)) = lns s.data.toList := by
  rw [← e, lns_at hak (by rw [len_eq]; exact hk) h (UInt8.toNat_inj.1 hv), bs_append, List.append_assoc]
  refine congrArg _ ?_
  rw [show bs [s.extract a k] = [(s.extract a k).data.toList] from rfl, seg_list]
  rfl

set_option maxHeartbeats 2000000 in
theorem rSplit_any (s : ByteArray) (w : World) (hs : s.size < 100000) :
    Calls Try.prog 12 #[.string s] w fun e w' => ∃ v, e = .returned (.tuple #[v, .bool (text s.data.toList)]) ∧ Made w (if text s.data.toList then lns s.data.toList else []) v w' := by
  by_cases hT : text s.data.toList = true
  case neg =>
    have h0 : 0 < s.size := by
      rcases Nat.eq_zero_or_pos s.size with h | h
      · exact absurd (by rw [List.eq_nil_of_length_eq_zero ((len_eq s).trans h)]; rfl) hT
      · exact h
    have hne : ¬ s.data.toList = [] := fun e => by have := len_eq s; rw [e] at this; simp at this; omega
    obtain ⟨q1, q2⟩ := asks_no hne
    have q3 : ¬ s = ByteArray.empty := fun e => by rw [e] at hne; exact hne rfl
    have hl := text_last h0
    obtain ⟨v, hv⟩ : ∃ v : Nat, (s[s.size - 1]'(by omega)).toNat = v := ⟨_, rfl⟩
    rw [Bool.not_eq_true] at hT
    rw [hv, hT] at hl
    have h10 : ¬ v = 10 := fun e => by rw [decide_eq_true e] at hl; cases hl
    have i3 : ¬ (v : Int) = 10 := by omega
    have i4 : ((v : Int) != 10) = true := by simp; omega
    rw [hT]
    clear hT hne h10 hl
    go_enter Try.func12, Try.ntmps12
    go_wp2_with fail
    all_goals first
      | (go_ret2; exact ⟨_, rfl, (OwnS.nil w w).made rfl (Fr.refl _ _)⟩)
      | (exfalso; simp_all; done)
  case pos =>
  rw [hT]
  have HT : Hid (text s.data.toList = true) := hT
  clear hT
  by_cases h0 : 0 < s.size
  case' neg =>
    have he : s.data.toList = [] := List.eq_nil_of_length_eq_zero (by rw [len_eq]; omega)
    obtain ⟨q1, q2⟩ := asks_yes he
    have q3 : s = ByteArray.empty := str_of he
    clear he
    go_enter Try.func12, Try.ntmps12
    go_wp2_with fail
    clear q1 q2 q3
  case' pos =>
    have hne : ¬ s.data.toList = [] := fun e => by have := len_eq s; rw [e] at this; simp at this; omega
    obtain ⟨q1, q2⟩ := asks_no hne
    have q3 : ¬ s = ByteArray.empty := fun e => by rw [e] at hne; exact hne rfl
    have hv : (s[s.size - 1]'(by omega)).toNat = 10 := of_decide_eq_true ((text_last h0).symm.trans HT.out)
    clear hne
    go_enter Try.func12, Try.ntmps12
    go_wp2_with fail
    clear q1 q2 q3 hv
  all_goals
    clear h0
    go_loopw [4, 5, 6] (fun v f i wr => ∃ (l : List ByteArray) (a k : Nat), f = .int .i64 a ∧ i = .int .i64 k ∧ a ≤ k ∧ k ≤ s.size ∧ OwnS w wr v l ∧ Fr None' w wr ∧ l.length ≤ k ∧ Hid (bs l ++ lns (s.data.toList.drop a) = lns s.data.toList) ∧ Hid (∀ j (h : j < s.data.toList.length), a ≤ j → j < k → s.data.toList[j] ≠ 10)) (fun _ _ i _ => s.size - (intOf i).toNat)
    case atStart => exact ⟨[], 0, 0, rfl, rfl, Nat.le_refl _, Nat.zero_le _, OwnS.nil w w, Fr.refl _ _, Nat.le_refl _, rfl, fun j _ _ h => absurd h (Nat.not_lt_zero _)⟩
    case round =>
      obtain ⟨l, a, k, rfl, rfl, hak, hk, own, fr, hlk, HL, HN⟩ := hrel
      by_cases hlt : k < s.size
      · obtain ⟨c, hc⟩ : ∃ c : Nat, (s[k]).toNat = c := ⟨_, rfl⟩
        have HC : Hid ((s[k]).toNat = c) := hc
        by_cases h10 : c = 10
        · subst h10
          have HL' : Hid _ := split_cut HN.out hak hlt HC.out HL.out
          go_wp2_with (at_builtin
                       refine append_str rfl _ _ rfl rfl (own.alloc _) (fr.then (Fr.alloc None' wr _)) rfl (one_row wr (s.extract a k)) (fun e => by cases e) (by simp; omega) ?_
                       intro v1 w1 own1 f1 g1
                       clear own fr g1)
          exact ⟨⟨_, k + 1, k + 1, by go_num, by go_num, Nat.le_refl _, by omega, own1, f1, by simp; omega, HL'.out, fun j _ h1 h2 => by omega⟩, by simp [intOf]; omega⟩
        · have i3 : ¬ (c : Int) = 10 := by omega
          have HN' : Hid _ := split_on HN.out hlt (by rw [HC.out]; exact h10)
          go_wp2_with fail
          exact ⟨⟨l, a, k + 1, rfl, by go_num, by omega, by omega, own, fr, by omega, HL.out, HN'.out⟩, by simp [intOf]; omega⟩
      · have hke : k = s.size := by omega
        have HD : Hid (bs l = lns s.data.toList) := by
          have := HN.out
          rw [hke] at this
          have h2 := HL.out
          rw [split_done HT.out (by omega) this] at h2
          exact (by simpa [lns] using h2 : bs l = lns s.data.toList)
        clear hke
        go_wp2_with fail
        go_ret2
        exact ⟨_, rfl, own.made HD.out fr⟩

end Go.Proofs.Ytmoocmajfgghhaa
