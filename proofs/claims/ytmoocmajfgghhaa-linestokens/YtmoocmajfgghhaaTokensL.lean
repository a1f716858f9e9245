/-
  What is proved here: LinesTokens answers true. No condition.
-/
import Derived.Test.YtmoocmajfgghhaaOther
namespace Go.Proofs.Ytmoocmajfgghhaa
open Go.RowKit Go.Shelf
set_option maxRecDepth 100000

theorem replace_len {s : ByteArray} (f u : Bs) : (replace s.data.toList f u).length ≤ s.size + s.size * u.length := by
  unfold replace
  split
  · exact pre_bound (t := []) (by rw [List.append_nil])
  · rw [len_eq]; omega

set_option maxHeartbeats 4000000 in
theorem tokensL_walk (s f u : ByteArray) (w : World) : Calls Try.prog 6 #[.string s, .string f, .string u] w fun e w' => e = .returned (.bool true) ∧ Fr None' w w' := by
  go_enter Try.func6, Try.ntmps6
  go_wp2_with fail
  refine (head_any _).mono ?_
  rintro e w1 ⟨rfl, f1⟩
  by_cases hs : (20000 : Int) < s.size
  · go_wp2_with fail
    go_ret
    exact ⟨rfl, f1⟩
  by_cases hf : (100 : Int) < f.size
  · go_wp2_with fail
    go_ret
    exact ⟨rfl, f1⟩
  by_cases hu : (100 : Int) < u.size
  · go_wp2_with fail
    go_ret
    exact ⟨rfl, f1⟩
  have hsf : s.size * f.size ≤ 2000000 := Nat.le_trans (Nat.mul_le_mul (by omega : s.size ≤ 20000) (by omega : f.size ≤ 100)) (by decide)
  have hsu : s.size * u.size ≤ 2000000 := Nat.le_trans (Nat.mul_le_mul (by omega : s.size ≤ 20000) (by omega : u.size ≤ 100)) (by decide)
  have q1 := replace_any s f f w1 (by omega) (by omega) (by omega)
  rw [replace_self, ← str_of (s := s) rfl] at q1
  have qF := fun v => token_any f v (by omega)
  have qU := fun v => token_any u v (by omega)
  have HSF : Hid (s.size * f.size ≤ 2000000) := hsf
  have HSU : Hid (s.size * u.size ≤ 2000000) := hsu
  clear hsf hsu
  go_wp2_with fail
  refine q1.mono ?_
  rintro e w2 ⟨rfl, f2⟩
  have f02 := f1.then f2
  clear q1 f1 f2
  cases htf : tok f.data.toList
  · rw [htf] at qF
    clear htf
    go_wp2_with fail
    refine (qF _).mono ?_
    rintro e w3 ⟨rfl, f3⟩
    go_wp2_with fail
    go_ret
    exact ⟨rfl, f02.then f3⟩
  rw [htf] at qF
  cases htu : tok u.data.toList
  · rw [htu] at qU
    clear htf htu
    go_wp2_with fail
    refine (qF _).mono ?_
    rintro e w3 ⟨rfl, f3⟩
    go_wp2_with fail
    refine (qU _).mono ?_
    rintro e w4 ⟨rfl, f4⟩
    go_wp2_with fail
    go_ret
    exact ⟨rfl, (f02.then f3).then f4⟩
  rw [htu] at qU
  by_cases hfu : f = u
  · subst hfu
    clear htf htu
    go_wp2_with fail
    refine (qF _).mono ?_
    rintro e w3 ⟨rfl, f3⟩
    go_wp2_with fail
    refine (qU _).mono ?_
    rintro e w4 ⟨rfl, f4⟩
    go_wp2_with fail
    go_ret
    exact ⟨rfl, (f02.then f3).then f4⟩
  obtain ⟨n1, n2⟩ := str_no hfu
  have HF : Hid (tok f.data.toList = true) := htf
  have HU : Hid (tok u.data.toList = true) := htu
  have HFU : Hid (¬ f = u) := hfu
  clear htf htu hfu
  go_wp2_with fail
  refine (qF _).mono ?_
  rintro e w3 ⟨rfl, f3⟩
  go_wp2_with fail
  refine (qU _).mono ?_
  rintro e w4 ⟨rfl, f4⟩
  have f04 := (f02.then f3).then f4
  clear f02 f3 f4 qF qU
  have q1 := replace_any s f u w4 (by omega) (by omega) (by have := HSU.out; omega)
  obtain ⟨A, hA⟩ : ∃ A : ByteArray, (⟨(replace s.data.toList f.data.toList u.data.toList).toArray⟩ : ByteArray) = A := ⟨_, rfl⟩
  have HA : Hid (A.data.toList = replace s.data.toList f.data.toList u.data.toList) := by rw [← hA]; rfl
  have hAl : A.size ≤ 2020000 := by
    have h1 := replace_len (s := s) f.data.toList u.data.toList
    rw [← HA.out, len_eq, len_eq] at h1
    have := HSU.out
    omega
  have iA : (A.size : Int) ≤ 2020000 := by omega
  have HAF : Hid (A.size * f.size ≤ 202000000) := Nat.le_trans (Nat.mul_le_mul hAl (by omega : f.size ≤ 100)) (by decide)
  rw [hA] at q1
  clear hA hAl
  go_wp2_with fail
  refine q1.mono ?_
  rintro e w5 ⟨rfl, f5⟩
  have f05 := f04.then f5
  clear q1 f04 f5 n1 n2
  have q1 := tokens_told s w5 (by omega)
  go_wp2_with fail
  refine q1.mono ?_
  rintro e w6 ⟨al, cl, l, rfl, el, ll, rl, f6⟩
  have f06 := f05.then f6
  clear q1 f05 f6
  have HE : Hid (bs l = pieces s.data.toList) := el
  obtain ⟨n, hn⟩ : ∃ n, l.length = n := ⟨_, rfl⟩
  have HN : Hid (l.length = n) := hn
  have i1 : (n : Int) ≤ 20000 := by omega
  rw [hn] at ll ⊢
  clear el hn ll
  go_wp2_with fail
  go_loopw [10, 11] (fun v i wr => ∃ (h : Bool) (k : Nat), v = .bool h ∧ i = .int .i64 k ∧ k ≤ n ∧ wr = w6 ∧ Hid (h = true ↔ u ∈ l.take k)) (fun _ i _ => n - (intOf i).toNat)
  case atStart => exact ⟨false, 0, rfl, rfl, Nat.zero_le _, rfl, by simp [Hid]⟩
  case round =>
    obtain ⟨h, k, rfl, rfl, hk, hw, HM⟩ := hrel
    subst hw
    by_cases hlt : k < n
    · have hkl : k < l.length := by rw [HN.out]; exact hlt
      obtain ⟨g, o, rfl, c1⟩ := rl.get hkl
      have HS : Hid _ := mem_step (f := u) hkl
      obtain ⟨x, hx⟩ : ∃ x, l[k] = x := ⟨_, rfl⟩
      rw [hx] at c1 HS
      clear hx
      have i2 : (k : Int) < n := by omega
      cases h
      · by_cases hxf : x = u
        · subst hxf
          have HS2 : Hid (true = true ↔ x ∈ l.take (k + 1)) := ⟨fun _ => HS.out.2 (.inr rfl), fun _ => rfl⟩
          clear HS HM
          go_wp2_with fail
          exact ⟨⟨true, k + 1, rfl, by go_num, by omega, trivial, HS2.out⟩, by simp [intOf]; omega⟩
        · obtain ⟨q1, q2⟩ := str_no hxf
          have HS2 : Hid (false = true ↔ u ∈ l.take (k + 1)) := ⟨fun h => (by cases h), fun h => by
            rcases HS.out.1 h with h | h
            · exact HM.out.2 h
            · exact absurd h hxf⟩
          clear HS HM hxf
          go_wp2_with fail
          exact ⟨⟨false, k + 1, rfl, by go_num, by omega, trivial, HS2.out⟩, by simp [intOf]; omega⟩
      · have HS2 : Hid (true = true ↔ u ∈ l.take (k + 1)) := ⟨fun _ => HS.out.2 (.inl (HM.out.1 rfl)), fun _ => rfl⟩
        clear HS HM
        go_wp2_with fail
        exact ⟨⟨true, k + 1, rfl, by go_num, by omega, trivial, HS2.out⟩, by simp [intOf]; omega⟩
    · have HH : Hid (h = true ↔ u.data.toList ∈ pieces s.data.toList) := by
        have := HM.out
        rw [List.take_of_length_le (by rw [HN.out]; omega), mem_bs, HE.out] at this
        exact this
      clear HM rl
      have q1 := tokens_told A wr (by omega)
      go_wp2_with fail
      refine q1.mono ?_
      rintro e w7 ⟨ak, ck, kl, rfl, ek, lk, rk, f7⟩
      have f07 := f06.then f7
      clear q1 f06 f7
      rw [HA.out, pieces_rep HF.out HU.out] at ek
      have hkn : kl.length = n := by
        have := congrArg List.length ek
        rw [bs_length, List.length_map, ← HE.out, bs_length, HN.out] at this
        exact this
      have HG : Hid (∀ x ∈ kl, ¬ x = f) := fun x hx e => by
        have h1 := mem_bs.1 hx
        rw [ek] at h1
        obtain ⟨p, _, hp⟩ := List.mem_map.1 h1
        rw [e] at hp
        exact rep_gone (fun e' => HFU.out (by rw [str_of e', ← str_of (s := u) rfl])) hp
      have HK : Hid (kl.length = n) := hkn
      rw [hkn]
      clear ek lk hkn HE HN
      go_wp2_with fail
      go_loopw [13] (fun i wr' => ∃ j : Nat, i = .int .i64 j ∧ j ≤ n ∧ wr' = w7) (fun i _ => n - (intOf i).toNat)
      case atStart => exact ⟨0, rfl, Nat.zero_le _, rfl⟩
      case round =>
        obtain ⟨j, rfl, hj, hw⟩ := hrel
        subst hw
        by_cases hjt : j < n
        · have hjl : j < kl.length := by rw [HK.out]; exact hjt
          obtain ⟨g, o, rfl, c1⟩ := rk.get hjl
          have hne := HG.out _ (List.getElem_mem hjl)
          obtain ⟨x, hx⟩ : ∃ x, kl[j] = x := ⟨_, rfl⟩
          rw [hx] at c1 hne
          obtain ⟨q1, q2⟩ := str_no hne
          clear hx hne
          have i2 : (j : Int) < n := by omega
          go_wp2_with fail
          exact ⟨⟨j + 1, by go_num, by omega, trivial⟩, by simp [intOf]; omega⟩
        · cases h
          · have q1 := replace_any A u f wr (by omega) (by omega) (by have := HAF.out; omega)
            have hb : replace A.data.toList u.data.toList f.data.toList = s.data.toList := by
              rw [HA.out]
              exact replace_back HF.out HU.out (fun hm => by have := HH.out.2 hm; cases this)
            rw [hb, ← str_of (s := s) rfl] at q1
            clear hb
            go_wp2_with fail
            refine q1.mono ?_
            rintro e w8 ⟨rfl, f8⟩
            clear q1
            go_wp2_with fail
            go_ret
            exact ⟨rfl, f07.then f8⟩
          · go_wp2_with fail
            go_ret
            exact ⟨rfl, f07⟩

end Go.Proofs.Ytmoocmajfgghhaa
