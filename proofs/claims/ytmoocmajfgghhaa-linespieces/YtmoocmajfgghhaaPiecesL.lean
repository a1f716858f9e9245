/-
  What is proved here: LinesPieces answers true. No condition.
-/
import Derived.Test.YtmoocmajfgghhaaOther
import Derived.Test.YtmoocmajfgghhaaDraws
namespace Go.Proofs.Ytmoocmajfgghhaa
open Go.RowKit Go.Shelf
set_option maxRecDepth 100000

theorem cat_bytes (a b : ByteArray) : (a ++ b).data.toList = a.data.toList ++ b.data.toList := by
  rw [ByteArray.data_append, Array.toList_append]

theorem flat_step {l : List ByteArray} {k : Nat} (hk : k < l.length) : (bs (l.take (k + 1))).flatten = (bs (l.take k)).flatten ++ l[k].data.toList := by
  rw [List.take_succ_eq_append_getElem hk, bs_append, List.flatten_append, show bs [l[k]] = [l[k].data.toList] from rfl]
  simp

theorem flat_le {l : List ByteArray} {s : Bs} (h : bs l = pieces s) (k : Nat) : (bs (l.take k)).flatten.length ≤ s.length := by
  have e := (pieces_all s).2
  rw [← h] at e
  have h2 : bs l = bs (l.take k) ++ bs (l.drop k) := by rw [← bs_append, List.take_append_drop]
  rw [h2, List.flatten_append] at e
  have := congrArg List.length e
  rw [List.length_append] at this
  omega

set_option maxHeartbeats 4000000 in
theorem piecesL_walk (s : ByteArray) (w : World) : Calls Try.prog 5 #[.string s] w fun e w' => e = .returned (.bool true) ∧ Fr None' w w' := by
  go_enter Try.func5, Try.ntmps5
  go_wp2_with fail
  refine (head_any _).mono ?_
  rintro e w1 ⟨rfl, f1⟩
  by_cases hs : (20000 : Int) < s.size
  · go_wp2_with fail
    go_ret
    exact ⟨rfl, f1⟩
  have q1 := tokens_told s w1 (by omega)
  go_wp2_with fail
  refine q1.mono ?_
  rintro e w2 ⟨al, cl, l, rfl, el, ll, rl, f2⟩
  clear q1
  have f02 := f1.then f2
  have HE : Hid (bs l = pieces s.data.toList) := el
  obtain ⟨n, hn⟩ : ∃ n, l.length = n := ⟨_, rfl⟩
  have HN : Hid (l.length = n) := hn
  have i1 : (n : Int) ≤ 20000 := by omega
  rw [hn] at ll ⊢
  clear el f1 f2 hn ll
  go_wp2_with fail
  go_loopw [5, 6] (fun v i wr => ∃ (X : ByteArray) (k : Nat), v = .string X ∧ i = .int .i64 k ∧ k ≤ n ∧ Fr None' w2 wr ∧ (X.size : Int) ≤ 20000 ∧ Hid (X.data.toList = (bs (l.take k)).flatten)) (fun _ i _ => n - (intOf i).toNat)
  case atStart => exact ⟨⟨#[]⟩, 0, rfl, rfl, Nat.zero_le _, Fr.refl _ _, by decide, rfl⟩
  case round =>
    obtain ⟨X, k, rfl, rfl, hk, hF, hX, HX⟩ := hrel
    by_cases hlt : k < n
    · have hkl : k < l.length := by rw [HN.out]; exact hlt
      have hlx : (l[k].data.toList) ∈ pieces s.data.toList := by rw [← HE.out]; exact List.mem_map.2 ⟨_, List.getElem_mem hkl, rfl⟩
      have hne : ¬ l[k].data.toList = [] := good_some (pieces_all _).1 _ hlx
      have hsz : l[k].size ≤ s.size := by have := piece_le hlx; rw [len_eq, len_eq] at this; exact this
      have HS : Hid ((X ++ l[k]).data.toList = (bs (l.take (k + 1))).flatten) := by
        show _ = _
        rw [flat_step hkl, cat_bytes, HX.out]
      have hX2 : (X ++ l[k]).size ≤ 20000 := by
        have := flat_le HE.out (k + 1)
        rw [← HS.out, len_eq, len_eq] at this
        omega
      have hX3 : ((X ++ l[k]).size : Int) ≤ 20000 := by omega
      obtain ⟨q1, q2⟩ := asks_no hne
      have q3 : ¬ l[k] = ByteArray.empty := fun e => by rw [e] at hne; exact hne rfl
      have i2 : (k : Int) < n := by omega
      by_cases hk0 : k = 0
      · subst hk0
        obtain ⟨g, o, rfl, c1⟩ := (rl.fr hF).get hkl
        obtain ⟨x, hx⟩ : ∃ x, l[0] = x := ⟨_, rfl⟩
        rw [hx] at c1 HS hX3 hsz q1 q2 q3
        have c1' : wr.cell? ⟨g, o, none⟩ = some (.string x) := c1
        clear hx hne hlx hX2 HX c1
        go_wp2_with fail
        go_quiet (fail)
        go_wp2_with fail
        exact ⟨⟨X ++ x, 1, rfl, rfl, by omega, hF.then (Fr.drewN _ _ _), hX3, HS.out⟩, by simp [intOf]; omega⟩
      · obtain ⟨j, rfl⟩ : ∃ j, k = j + 1 := ⟨k - 1, by omega⟩
        have hjl : j < l.length := by omega
        have hly : (l[j].data.toList) ∈ pieces s.data.toList := by rw [← HE.out]; exact List.mem_map.2 ⟨_, List.getElem_mem hjl, rfl⟩
        have hsy : l[j].size ≤ s.size := by have := piece_le hly; rw [len_eq, len_eq] at this; exact this
        have halt : tok l[j + 1].data.toList ≠ tok l[j].data.toList := by
          have h1 := good_alt (pieces_all s.data.toList).1
          rw [← HE.out] at h1
          have h2 := h1 j (by rw [bs_length]; exact hkl)
          simpa [bs] using h2
        obtain ⟨g, o, rfl, c1⟩ := (rl.fr hF).get hkl
        obtain ⟨g', o', e', c2⟩ := (rl.fr hF).get hjl
        cases e'
        obtain ⟨x, hx⟩ : ∃ x, l[j + 1] = x := ⟨_, rfl⟩
        obtain ⟨y, hy⟩ : ∃ y, l[j] = y := ⟨_, rfl⟩
        rw [hx] at c1 HS hX3 hsz q1 q2 q3 halt
        rw [hy] at c2 hsy halt
        have tx := fun v m => token_q x _ rfl (by omega) v m
        have ty := fun v m => token_q y _ rfl (by omega) v m
        obtain ⟨bx, hbx⟩ : ∃ b, tok x.data.toList = b := ⟨_, rfl⟩
        obtain ⟨bY, hby⟩ : ∃ b, tok y.data.toList = b := ⟨_, rfl⟩
        rw [hbx] at tx halt
        rw [hby] at ty halt
        have hbb : (bx == bY) = false := by simpa using halt
        clear hx hy hne hlx hly hX2 HX hbx hby hk0 halt
        go_wp2_with fail
        go_quiet (first
          | (go_at_call 20; with_reducible exact tx _ _)
          | (go_at_call 20; with_reducible exact ty _ _))
        go_wp2_with fail
        exact ⟨⟨X ++ x, j + 1 + 1, rfl, by go_num, by omega, hF.then (Fr.drewN _ _ _), hX3, HS.out⟩, by simp [intOf]; omega⟩
    · have HD : Hid (X = s) := by
        have h1 := HX.out
        rw [List.take_of_length_le (by rw [HN.out]; omega), HE.out, (pieces_all _).2] at h1
        exact (str_of h1).trans (str_of rfl).symm
      have hXs := HD.out
      subst hXs
      clear HX HD HE
      go_wp2_with fail
      go_ret
      exact ⟨rfl, f02.then hF⟩

end Go.Proofs.Ytmoocmajfgghhaa
