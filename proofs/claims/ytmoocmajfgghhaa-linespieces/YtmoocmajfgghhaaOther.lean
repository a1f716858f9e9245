/-
  What is proved here: LinesOther answers true. No condition.
-/
import Derived.Test.YtmoocmajfgghhaaTells
namespace Go.Proofs.Ytmoocmajfgghhaa
open Go.RowKit Go.Shelf
set_option maxRecDepth 100000

theorem tokens_told (s : ByteArray) (w0 : World) (hs : (s.size : Int) < 1000000000) :
    Calls Try.prog 18 #[.string s] w0 fun e w' => ∃ va ca l, e = .returned (.slice va l.length ca) ∧ bs l = pieces s.data.toList ∧ l.length ≤ s.size ∧ Row w' va l ∧ Fr None' w0 w' :=
  (tokens_any s w0 hs).mono fun e w' ⟨v, he, m⟩ => by
    obtain ⟨⟨l, h1, va, ca, h2, _, h3⟩, f⟩ := m
    subst h2
    refine ⟨va, ca, l, he, h1, ?_, h3, f⟩
    have := pieces_count_le s.data.toList
    rw [← h1, bs_length, len_eq] at this
    exact this

theorem mem_step {l : List ByteArray} {f : ByteArray} {k : Nat} (hk : k < l.length) : f ∈ l.take (k + 1) ↔ f ∈ l.take k ∨ l[k] = f := by
  rw [List.take_succ_eq_append_getElem hk, List.mem_append, List.mem_singleton]
  exact ⟨fun h => h.imp id Eq.symm, fun h => h.imp id Eq.symm⟩

theorem mem_bs {l : List ByteArray} {f : ByteArray} : f ∈ l ↔ f.data.toList ∈ bs l := by
  constructor
  · intro h; exact List.mem_map.2 ⟨f, h, rfl⟩
  · intro h
    obtain ⟨x, hx, e⟩ := List.mem_map.1 h
    have : x = f := by rw [str_of e]
    rw [← this]; exact hx

/-- A text as its bytes. -/
theorem mk_list (l : Bs) : ((⟨l.toArray⟩ : ByteArray).data.toList) = l := rfl

set_option maxHeartbeats 4000000 in
theorem other_walk (s f u : ByteArray) (w : World) : Calls Try.prog 8 #[.string s, .string f, .string u] w fun e w' => e = .returned (.bool true) ∧ Fr None' w w' := by
  go_enter Try.func8, Try.ntmps8
  go_wp2_with fail
  refine (head_any _).mono ?_
  rintro e w1 ⟨rfl, f1⟩
  by_cases hs : (9000 : Int) < s.size
  · go_wp2_with fail
    go_ret
    exact ⟨rfl, f1⟩
  by_cases hf : (1000 : Int) < f.size
  · go_wp2_with fail
    go_ret
    exact ⟨rfl, f1⟩
  by_cases hu : (1000 : Int) < u.size
  · go_wp2_with fail
    go_ret
    exact ⟨rfl, f1⟩
  have q1 := tokens_told s w1 (by omega)
  go_wp2_with fail
  refine q1.mono ?_
  rintro e w2 ⟨al, cl, l, rfl, el, ll, rl, f2⟩
  clear q1
  have f02 := f1.then f2
  have HE : Hid (bs l = pieces s.data.toList) := el
  obtain ⟨n, hn⟩ : ∃ n, l.length = n := ⟨_, rfl⟩
  have HN : Hid (l.length = n) := hn
  have i1 : (n : Int) ≤ 9000 := by omega
  rw [hn] at ll ⊢
  clear el f1 f2 hn ll
  go_wp2_with fail
  go_loopw [9, 10] (fun v i wr => ∃ (h : Bool) (k : Nat), v = .bool h ∧ i = .int .i64 k ∧ k ≤ n ∧ wr = w2 ∧ Hid (h = true ↔ f ∈ l.take k)) (fun _ i _ => n - (intOf i).toNat)
  case atStart => exact ⟨false, 0, rfl, rfl, Nat.zero_le _, rfl, by simp [Hid]⟩
  case round =>
    obtain ⟨h, k, rfl, rfl, hk, hw, HM⟩ := hrel
    subst hw
    by_cases hlt : k < n
    · have hkl : k < l.length := by rw [HN.out]; exact hlt
      obtain ⟨g, o, rfl, c1⟩ := rl.get hkl
      have HS : Hid _ := mem_step (f := f) hkl
      obtain ⟨x, hx⟩ : ∃ x, l[k] = x := ⟨_, rfl⟩
      rw [hx] at c1 HS
      clear hx
      have i2 : (k : Int) < n := by omega
      cases h
      · by_cases hxf : x = f
        · subst hxf
          have HS2 : Hid (true = true ↔ x ∈ l.take (k + 1)) := ⟨fun _ => HS.out.2 (.inr rfl), fun _ => rfl⟩
          clear HS HM
          go_wp2_with fail
          exact ⟨⟨true, k + 1, rfl, by go_num, by omega, trivial, HS2.out⟩, by simp [intOf]; omega⟩
        · obtain ⟨q1, q2⟩ := str_no hxf
          have HS2 : Hid (false = true ↔ f ∈ l.take (k + 1)) := ⟨fun h => (by cases h), fun h => by
            rcases HS.out.1 h with h | h
            · exact HM.out.2 h
            · exact absurd h hxf⟩
          clear HS HM hxf
          go_wp2_with fail
          exact ⟨⟨false, k + 1, rfl, by go_num, by omega, trivial, HS2.out⟩, by simp [intOf]; omega⟩
      · have HS2 : Hid (true = true ↔ f ∈ l.take (k + 1)) := ⟨fun _ => HS.out.2 (.inl (HM.out.1 rfl)), fun _ => rfl⟩
        clear HS HM
        go_wp2_with fail
        exact ⟨⟨true, k + 1, rfl, by go_num, by omega, trivial, HS2.out⟩, by simp [intOf]; omega⟩
    · have HF : Hid (h = true ↔ f.data.toList ∈ pieces s.data.toList) := by
        have := HM.out
        rw [List.take_of_length_le (by rw [HN.out]; omega), mem_bs, HE.out] at this
        exact this
      clear HM HE HN rl
      have qK := fun v => tokens_told f v (by omega)
      have qT := fun v => token_any f v (by omega)
      have qR := fun v => replace_any s f u v (by omega) (by omega) (by
        have : s.size * u.size ≤ 9000 * 1000 := Nat.mul_le_mul (by omega) (by omega)
        omega)
      obtain ⟨A, hA⟩ : ∃ A : ByteArray, (⟨(replace s.data.toList f.data.toList u.data.toList).toArray⟩ : ByteArray) = A := ⟨_, rfl⟩
      have HA : Hid (A.data.toList = replace s.data.toList f.data.toList u.data.toList) := by rw [← hA]; rfl
      rw [hA] at qR
      clear hA
      go_wp2_with fail
      refine (qK _).mono ?_
      rintro e w3 ⟨ak, ck, kl, rfl, ek, lk, rk, f3⟩
      have f03 := f02.then f3
      clear qK f02 f3
      cases ht : tok f.data.toList
      · rw [ht] at qT
        have hAs : A = s := (str_of (HA.out.trans (by rw [replace, ht]; rfl))).trans (str_of rfl).symm
        subst hAs
        clear HA HF ht ek rk
        go_wp2_with fail
        refine (qT _).mono ?_
        rintro e w4 ⟨rfl, f4⟩
        have f04 := f03.then f4
        clear f03 f4
        have i5 : (kl.length : Int) ≤ 1000 := by omega
        clear lk
        by_cases hk1 : (1 : Int) < kl.length
        case' pos =>
          go_wp2_with fail
          refine (qT _).mono ?_
          rintro e w5 ⟨rfl, f5⟩
          have f05 := f04.then f5
          clear f04 f5
          go_wp2_with fail
        case' neg =>
          have f05 := f04
          clear f04
          go_wp2_with fail
        all_goals
          refine (qR _).mono ?_
          rintro e w6 ⟨rfl, f6⟩
          have f06 := f05.then f6
          clear f05 f6 qR
          cases h
          · go_wp2_with fail
            go_ret
            exact ⟨rfl, f06⟩
          · go_wp2_with fail
            refine (qT _).mono ?_
            rintro e w7 ⟨rfl, f7⟩
            go_wp2_with fail
            go_ret
            exact ⟨rfl, f06.then f7⟩
      · rw [ht] at qT
        have hkl : kl = [f] := bs_inj (ek.trans (pieces_tok ht))
        subst hkl
        obtain ⟨gk, ok, rfl, ck0⟩ := rk.get (k := 0) (by simp)
        have ck1 : ∀ {v}, Fr None' w3 v → v.cell? ⟨gk, ok, none⟩ = some (.string f) := fun f => f.cell ck0 id
        clear ek lk rk ck0
        go_wp2_with fail
        refine (qT _).mono ?_
        rintro e w4 ⟨rfl, f4⟩
        have f04 := f03.then f4
        have c4 := ck1 f4
        clear f03 f4 ck1
        go_wp2_with fail
        refine (qR _).mono ?_
        rintro e w6 ⟨rfl, f6⟩
        have f06 := f04.then f6
        clear f04 f6 qR c4
        cases h
        · have hAs : A = s := (str_of (HA.out.trans (replace_none (fun hm => by have := HF.out.2 hm; cases this)))).trans (str_of rfl).symm
          subst hAs
          clear HA HF ht
          go_wp2_with fail
          go_ret
          exact ⟨rfl, f06⟩
        · by_cases hfu : f = u
          · subst hfu
            have hAs : A = s := (str_of (HA.out.trans (replace_self _ _))).trans (str_of rfl).symm
            subst hAs
            clear HA HF ht
            go_wp2_with fail
            refine (qT _).mono ?_
            rintro e w7 ⟨rfl, f7⟩
            go_wp2_with fail
            go_ret
            exact ⟨rfl, f06.then f7⟩
          · have hAs : ¬ A = s := fun e => hfu (by
              have h1 := HA.out
              rw [e] at h1
              have h2 := replace_other ht (HF.out.1 rfl) h1.symm
              rw [str_of h2, ← str_of (s := u) rfl])
            obtain ⟨q1, q2⟩ := str_no hAs
            clear HA HF ht hAs hfu
            go_wp2_with fail
            refine (qT _).mono ?_
            rintro e w7 ⟨rfl, f7⟩
            go_wp2_with fail
            go_ret
            exact ⟨rfl, f06.then f7⟩

end Go.Proofs.Ytmoocmajfgghhaa
