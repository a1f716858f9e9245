/-
  What is proved here: what the document's Tokens and Replace answer of longer texts. Conditions: the texts have at most five thousand pieces, each of at most five thousand bytes.
-/
import Derived.Test.YtcpjneejlfgkeaaGreatDoorM6LStrs
namespace Go.Proofs.YtcpjneejlfgkeaaGreatDoor.Lines
open Go.RowKit
set_option maxRecDepth 100000

set_option maxHeartbeats 2000000 in
theorem rTokens2_any (s : ByteArray) (w : World) (hs : s.size < 89000000) (hp : (pieces s.data.toList).length ≤ 5000) : Calls Tryz.prog 45 #[.string s] w fun e w' => ∃ v, e = .returned v ∧ Made w (pieces s.data.toList) v w' := by
  have HP : Hid (∀ (l : List ByteArray) (a k : Nat), TokAt s.data.toList l a k → l.length ≤ 5000) := fun l a k h => by
    have e := congrArg List.length h.eq
    rw [List.length_append, bs_length] at e
    omega
  clear hp
  go_enter Tryz.func45, Tryz.ntmps45
  go_wp2_with fail
  go_loopw [3, 4, 5] (fun v f i wr => ∃ (l : List ByteArray) (a k : Nat), f = .int .i64 a ∧ i = .int .i64 k ∧ 1 ≤ k ∧ k ≤ s.size + 1 ∧ OwnS w wr v l ∧ Fr None' w wr ∧ Hid (TokAt s.data.toList l a k)) (fun _ _ i _ => s.size + 1 - (intOf i).toNat)
  case atStart => exact ⟨[], 0, 1, rfl, rfl, Nat.le_refl _, by omega, OwnS.nil w w, Fr.refl _ _, TokAt.start _⟩
  case round =>
    obtain ⟨l, a, k, rfl, rfl, h1, hk, own, fr, HT⟩ := hrel
    have hlk := HP.out l a k HT.out
    by_cases hlt : k < s.size
    · have hak : a < k := (HT.out.un (by rw [len_eq]; omega)).1
      have ha : a < s.size := by omega
      have i0 : (k : Int) ≤ s.size := by omega
      have i1 : ((k : Int) == (s.size : Int)) = false := by simp; omega
      obtain ⟨b0, hb0⟩ : ∃ b, inB (s[a]'ha).toNat = b := ⟨_, rfl⟩
      obtain ⟨bk, hbk⟩ : ∃ b, inB (s[k]'hlt).toNat = b := ⟨_, rfl⟩
      have H0 : Hid (tokB (s[a]'ha) = b0) := hb0
      have HK : Hid (tokB (s[k]'hlt) = bk) := hbk
      by_cases hbb : bk = b0
      · have HS : Hid (TokAt s.data.toList l a (k + 1)) := HT.out.on (by rw [len_eq]; exact hlt) (by rw [len_eq]; exact ha) (HK.out.trans (hbb.trans H0.out.symm))
        subst hbb
        go_wp2_with fail
        go_quiet ((go_at_call 49; exact Calls.quiet_of_same (rIn_q _ _)))
        go_wp2_with fail
        exact ⟨⟨l, a, k + 1, rfl, by go_num, by omega, by omega, own.fr (Fr.drewN _ _ _), fr.then (Fr.drewN _ _ _), HS.out⟩, by simp [intOf]; omega⟩
      · have HS : Hid (TokAt s.data.toList (l ++ [s.extract a k]) k (k + 1)) := HT.out.cut (by omega) (fun _ _ e => hbb (HK.out.symm.trans (Eq.trans e H0.out)))
        have hb2 : b0 = !bk := by cases b0 <;> cases bk <;> simp_all
        subst hb2
        clear hbb
        go_wp2_with fail
        go_quiet ((go_at_call 49; exact Calls.quiet_of_same (rIn_q _ _)))
        have own' := own.fr (Fr.drewN None' wr nq)
        have fr' := fr.then (Fr.drewN None' wr nq)
        clear own fr
        generalize wr.drewN nq = wq at own' fr' ⊢
        go_wp2_with (at_builtin
                     refine append_str rfl _ _ rfl rfl (own'.alloc _) (fr'.then (Fr.alloc None' wq _)) rfl (one_row wq (s.extract a k)) (fun e => by cases e) (by simp; omega) ?_
                     intro v1 w1 own1 f1 g1
                     clear own' fr' g1)
        exact ⟨⟨_, k, k + 1, rfl, by go_num, by omega, by omega, own1, f1, HS.out⟩, by simp [intOf]; omega⟩
    · by_cases hke : k = s.size
      · subst hke
        have hak : a < s.size := (HT.out.un (by rw [len_eq]; omega)).1
        have HS : Hid (TokAt s.data.toList (l ++ [s.extract a s.size]) s.size (s.size + 1)) := HT.out.cut (by omega) (fun h _ => by rw [len_eq] at h; omega)
        go_wp2_with fail
        go_quiet ((go_at_call 49; exact Calls.quiet_of_same (rIn_q _ _)))
        have own' := own.fr (Fr.drewN None' wr nq)
        have fr' := fr.then (Fr.drewN None' wr nq)
        clear own fr
        generalize wr.drewN nq = wq at own' fr' ⊢
        go_wp2_with (at_builtin
                     refine append_str rfl _ _ rfl rfl (own'.alloc _) (fr'.then (Fr.alloc None' wq _)) rfl (one_row wq (s.extract a s.size)) (fun e => by cases e) (by simp; omega) ?_
                     intro v1 w1 own1 f1 g1
                     clear own' fr' g1)
        exact ⟨⟨_, s.size, s.size + 1, rfl, by go_num, by omega, by omega, own1, f1, HS.out⟩, by simp [intOf]⟩
      · have hk2 : k = s.size + 1 := by omega
        have HD : Hid (bs l = pieces s.data.toList) := by
          have := HT.out
          rw [hk2, ← len_eq] at this
          exact this.done
        have i0 : ¬ (k : Int) ≤ s.size := by omega
        clear hk2 hke
        go_wp2_with fail
        go_ret
        exact ⟨_, rfl, own.made HD.out fr⟩

set_option maxHeartbeats 2000000 in
theorem rReplace2_any (s f u : ByteArray) (w : World) (hs : s.size < 89000000) (hp : (pieces s.data.toList).length ≤ 5000) (hq : ∀ q ∈ pieces s.data.toList, q.length ≤ 5000) (hf : f.size ≤ 5000) (hu : u.size ≤ 5000) :
    Calls Tryz.prog 46 #[.string s, .string f, .string u] w fun e w' => e = .returned (.string ⟨(replace s.data.toList f.data.toList u.data.toList).toArray⟩) ∧ Fr None' w w' := by
  have cT := rToken_any f w (by omega)
  unfold replace
  cases ht : tok f.data.toList
  · rw [ht] at cT
    have hS : Hid ((⟨s.data.toList.toArray⟩ : ByteArray) = s) := (str_of rfl).symm
    simp only [Bool.false_eq_true, if_false]
    rw [hS.out]
    clear ht
    go_enter Tryz.func46, Tryz.ntmps46
    go_wp2_with (go_at_call 36; refine cT.mono ?_; rintro e w' ⟨rfl, f1⟩)
    go_ret
    exact ⟨rfl, f1⟩
  · rw [ht] at cT
    simp only [if_true]
    clear ht
    go_enter Tryz.func46, Tryz.ntmps46
    go_wp2_with (go_at_call 36; refine cT.mono ?_; rintro e w1 ⟨rfl, f1⟩)
    clear cT
    refine (rTokens2_any s w1 hs hp).mono ?_
    rintro e w2 ⟨v, rfl, ⟨⟨l, hl, va, ca, rfl, _, hr⟩, f2⟩⟩
    have f02 := f1.then f2
    have hcnt : l.length ≤ 5000 := by
      have := hp
      rw [← hl, bs_length] at this
      exact this
    have HL : Hid (bs l = pieces s.data.toList) := hl
    have HB : Hid (∀ k, (((bs (l.take k)).map (rep f.data.toList u.data.toList)).flatten).length ≤ 10000000000) := fun k => by
      have h1 := rep_bound f.data.toList u.data.toList 5000 (by rw [len_eq]; omega) (bs (l.take k)) (fun p hp => by
        have hp' : p ∈ pieces s.data.toList := by
          rw [← hl]
          obtain ⟨x, hx, e⟩ := List.mem_map.1 hp
          exact List.mem_map.2 ⟨x, List.mem_of_mem_take hx, e⟩
        exact hq p hp')
      rw [bs_length, List.length_take] at h1
      have h2 : min k l.length * 5000 ≤ 5000 * 5000 := Nat.mul_le_mul (by omega) (Nat.le_refl _)
      omega
    have HX : Hid (∀ x ∈ l, x.size ≤ 5000) := fun x hx => by
      have := hq x.data.toList (by rw [← hl]; exact List.mem_map.2 ⟨x, hx, rfl⟩)
      rw [len_eq] at this
      exact this
    obtain ⟨n, hna⟩ : ∃ n, l.length = n := ⟨_, rfl⟩
    have HA : Hid (l.length = n) := hna
    rw [hna] at hcnt ⊢
    have i1 : (n : Int) ≤ 5000 := by omega
    have HU : Hid (u.size ≤ 5000) := hu
    clear hl f1 f2 hna hcnt hs hf hu hp hq
    go_wp2_with fail
    go_loopw [8, 9] (fun v i wr => ∃ k : Nat, k ≤ n ∧ i = .int .i64 k ∧ OwnB w2 wr v (((bs (l.take k)).map (rep f.data.toList u.data.toList)).flatten) ∧ Fr None' w2 wr) (fun _ i _ => n - (intOf i).toNat)
    case atStart => exact ⟨0, Nat.zero_le _, rfl, OwnB.nil w2 w2, Fr.refl _ _⟩
    case round =>
      obtain ⟨k, hk, rfl, own, fr⟩ := hrel
      by_cases hlt : k < n
      · have hka : k < l.length := by rw [HA.out]; exact hlt
        obtain ⟨ga, oa, rfl, c1⟩ := (hr.fr fr).get hka
        have HJ : Hid _ := rep_take hka f.data.toList u.data.toList
        have hxs : l[k].size ≤ 5000 := HX.out _ (List.getElem_mem hka)
        have HC : Hid _ := HB.out k
        obtain ⟨x, hx⟩ : ∃ x, l[k] = x := ⟨_, rfl⟩
        rw [hx] at c1 HJ hxs
        clear hx hr
        have HXS : Hid (x.size ≤ 5000) := hxs
        clear hxs
        have i2 : (k : Int) < n := by omega
        by_cases hxf : x = f
        · subst hxf
          rw [rep_yes] at HJ
          go_wp2_with (at_builtin
                       refine append_text rfl _ _ rfl rfl own fr rfl (by have := HC.out; have := HU.out; omega) ?_
                       intro v1 w3 own1 f3
                       clear own fr c1)
          exact ⟨⟨k + 1, by omega, by go_num, by rw [HJ.out]; exact own1, f3⟩, by simp [intOf]; omega⟩
        · obtain ⟨q1, q2⟩ := str_no hxf
          rw [rep_no (fun e => hxf (by rw [str_of e]))] at HJ
          clear hxf
          go_wp2_with (at_builtin
                       refine append_text rfl _ _ rfl rfl own fr rfl (by have := HC.out; have := HXS.out; omega) ?_
                       intro v1 w3 own1 f3
                       clear own fr c1)
          exact ⟨⟨k + 1, by omega, by go_num, by rw [HJ.out]; exact own1, f3⟩, by simp [intOf]; omega⟩
      · have HK : Hid (l.take k = l) := List.take_of_length_le (by rw [HA.out]; omega)
        have cC := conv_row own
        rw [HK.out, HL.out] at cC
        go_wp2_with fail
        go_ret
        exact ⟨rfl, f02.then fr⟩

end Go.Proofs.YtcpjneejlfgkeaaGreatDoor.Lines
