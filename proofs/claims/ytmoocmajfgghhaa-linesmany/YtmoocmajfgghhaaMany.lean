/-
  What is proved here: LinesMany answers true. No condition.
-/
import Derived.Test.YtmoocmajfgghhaaBack
namespace Go.Proofs.Ytmoocmajfgghhaa
open Go.RowKit Go.Shelf
set_option maxRecDepth 100000

theorem cat_list (a b : ByteArray) : (a ++ b).data.toList = a.data.toList ++ b.data.toList := by
  rw [ByteArray.data_append, Array.toList_append]

theorem cat_size (a b : ByteArray) : (a ++ b).size = a.size + b.size := by
  rw [← len_eq, cat_list, List.length_append, len_eq, len_eq]

theorem split_told (s : ByteArray) (w0 : World) (hs : (s.size : Int) ≤ 20000) (b : Bool) (hb : text s.data.toList = b) :
    Calls Try.prog 11 #[.string s] w0 fun e w' => ∃ va ca l, e = .returned (.tuple #[.slice va l.length ca, .bool b]) ∧ bs l = (if b then lns s.data.toList else []) ∧ l.length ≤ 20000 ∧ (va = none → ca = 0) ∧ Row w' va l ∧ Fr None' w0 w' :=
  (split_any s w0 (by omega)).mono fun e w' ⟨v, he, m⟩ => by
    obtain ⟨⟨l, h1, va, ca, h2, hn, h3⟩, f⟩ := m
    subst h2
    rw [hb] at h1 he
    refine ⟨va, ca, l, he, h1, ?_, hn, h3, f⟩
    have := lns_count (s := s) (b := b)
    rw [← h1, bs_length] at this
    omega

theorem count_step {s : ByteArray} {k : Nat} (h : k < s.size) : (s.data.toList.take (k + 1)).count 10 = (s.data.toList.take k).count 10 + if (s[k]).toNat = 10 then 1 else 0 := by
  rw [take_snoc s k h, List.count_append, List.count_singleton]
  congr 1
  by_cases e : (s[k]).toNat = 10
  · rw [if_pos e, show s[k] = 10 from UInt8.toNat_inj.1 e]; rfl
  · rw [if_neg e, if_neg (by simpa using fun e' => e (by rw [e']; rfl))]

theorem count_le (s : ByteArray) (k : Nat) : (s.data.toList.take k).count 10 ≤ s.size := by
  have h1 := List.count_le_length (a := (10 : UInt8)) (l := s.data.toList.take k)
  rw [List.length_take, len_eq] at h1
  omega

set_option maxHeartbeats 4000000 in
theorem many_walk (a b : ByteArray) (w : World) : Calls Try.prog 7 #[.string a, .string b] w fun e w' => e = .returned (.bool true) ∧ Fr None' w w' := by
  go_enter Try.func7, Try.ntmps7
  go_wp2_with fail
  refine (head_any _).mono ?_
  rintro e w1 ⟨rfl, f1⟩
  by_cases ha : (9000 : Int) < a.size
  · go_wp2_with fail
    go_ret
    exact ⟨rfl, f1⟩
  by_cases hb : (9000 : Int) < b.size
  · go_wp2_with fail
    go_ret
    exact ⟨rfl, f1⟩
  obtain ⟨A, hA⟩ : ∃ A, text a.data.toList = A := ⟨_, rfl⟩
  obtain ⟨B, hB⟩ : ∃ B, text b.data.toList = B := ⟨_, rfl⟩
  obtain ⟨Z, hZ⟩ : ∃ Z, text (a ++ b).data.toList = Z := ⟨_, rfl⟩
  have q1 := split_told a w1 (by omega) A hA
  have q2 := fun v => split_told b v (by omega) B hB
  have q3 := fun v => split_told (a ++ b) v (by rw [cat_size]; omega) Z hZ
  have HA : Hid (text a.data.toList = A) := hA
  have HB : Hid (text b.data.toList = B) := hB
  have HZ : Hid (text (a ++ b).data.toList = Z) := hZ
  clear hA hB hZ
  go_wp2_with fail
  refine q1.mono ?_
  rintro e w2 ⟨ax, cx, x, rfl, ex, lx, nx, rx, f2⟩
  clear q1
  go_wp2_with fail
  refine (q2 _).mono ?_
  rintro e w3 ⟨ay, cy, y, rfl, ey, ly, ny, ry, f3⟩
  clear q2
  go_wp2_with fail
  refine (q3 _).mono ?_
  rintro e w4 ⟨az, cz, z, rfl, ez, lz, _, rz, f4⟩
  clear q3
  have f04 := ((f1.then f2).then f3).then f4
  have HRX : Hid (Row w4 ax x) := rx.fr (f3.then f4)
  have HRY : Hid (Row w4 ay y) := ry.fr f4
  have HRZ : Hid (Row w4 az z) := rz
  have HEX : Hid _ := ex
  have HEY : Hid _ := ey
  have HEZ : Hid _ := ez
  have HNX : Hid (ax = none → cx = 0) := nx
  have HNY : Hid (ay = none → cy = 0) := ny
  have i1 : (x.length : Int) ≤ 20000 := by omega
  have i2 : (y.length : Int) ≤ 20000 := by omega
  have i3 : (z.length : Int) ≤ 20000 := by omega
  clear rx ry rz ex ey ez nx ny f1 f2 f3 f4 lx ly lz
  go_wp2_with fail
  go_loopw [12, 13] (fun c i wr => ∃ m k : Nat, k ≤ a.size ∧ c = .int .i64 m ∧ i = .int .i64 k ∧ wr = w4 ∧ (m : Int) ≤ 9000 ∧ Hid (m = (a.data.toList.take k).count 10)) (fun _ i _ => a.size - (intOf i).toNat)
  case atStart => exact ⟨0, 0, Nat.zero_le _, rfl, rfl, rfl, by omega, rfl⟩
  case round =>
    obtain ⟨m, k, hk, rfl, rfl, hw, hm, HM⟩ := hrel
    subst hw
    by_cases hlt : k < a.size
    · have HS : Hid _ := count_step hlt
      have hle := count_le a (k + 1)
      obtain ⟨v, hv⟩ : ∃ v : Nat, (a[k]).toNat = v := ⟨_, rfl⟩
      rw [hv] at HS
      by_cases h10 : v = 10
      · subst h10
        have HS2 : Hid (m + 1 = (a.data.toList.take (k + 1)).count 10) := by rw [HM.out]; exact HS.out.symm
        rw [← HS2.out] at hle
        have i4 : (m : Int) + 1 ≤ 9000 := by omega
        clear HS HM hle
        go_wp2_with fail
        exact ⟨⟨m + 1, k + 1, by omega, by go_num, by go_num, trivial, by omega, HS2.out⟩, by simp [intOf]; omega⟩
      · have HS2 : Hid (m = (a.data.toList.take (k + 1)).count 10) := by
          have := HS.out
          rw [if_neg h10] at this
          rw [HM.out]; exact this.symm
        have i4 : ((v : Int) == 10) = false := by simp; omega
        clear HS HM hle h10
        go_wp2_with fail
        exact ⟨⟨m, k + 1, by omega, rfl, by go_num, trivial, hm, HS2.out⟩, by simp [intOf]; omega⟩
    · have HM2 : Hid (m = a.data.toList.count 10) := by
        have := HM.out
        rw [List.take_of_length_le (by rw [len_eq]; omega)] at this
        exact this
      clear HM
      cases A
      · have hx : x = [] := bs_inj (b := []) HEX.out
        subst hx
        cases B
        · have hz : Z = false := by
            rw [← HZ.out, cat_list]
            cases e : text (a.data.toList ++ b.data.toList)
            · rfl
            · have := text_right e; rw [HB.out] at this; cases this
          subst hz
          go_wp2_with fail
          go_ret
          exact ⟨rfl, f04⟩
        · go_wp2_with fail
          go_ret
          exact ⟨rfl, f04⟩
      · have hxm : x.length = m := by
          have := congrArg List.length HEX.out
          rw [bs_length, if_pos rfl, lns_length HA.out] at this
          rw [this, HM2.out]
        subst hxm
        cases B
        · have hz : Z = false := by
            rw [← HZ.out, cat_list]
            cases e : text (a.data.toList ++ b.data.toList)
            · rfl
            · have := text_right e; rw [HB.out] at this; cases this
          subst hz
          go_wp2_with fail
          go_ret
          exact ⟨rfl, f04⟩
        · have hz : Z = true := by rw [← HZ.out, cat_list]; exact text_append HA.out HB.out
          subst hz
          have hzz : z = x ++ y := bs_inj (by
            rw [bs_append, HEX.out, HEY.out, HEZ.out, if_pos rfl, if_pos rfl, if_pos rfl, cat_list]
            exact lns_append HA.out HB.out)
          have HZZ : Hid (z = x ++ y) := hzz
          clear hzz HM2
          go_wp2_with (first
            | (at_builtin
               refine append_str rfl _ _ rfl rfl (OwnS.empty (w0 := wr) (Nat.le_refl _)) (Fr.alloc None' wr _) rfl (HRX.out.fr (Fr.alloc None' wr _)) HNX.out (by show 0 + x.length ≤ 1000000; omega) ?_
               intro v1 u1 own1 g1 _)
            | (at_builtin
               refine append_str rfl _ _ rfl rfl own1 g1 rfl (HRY.out.fr g1) HNY.out (by rw [List.nil_append]; omega) ?_
               intro v2 u2 own2 g2 _
               rw [List.nil_append, ← HZZ.out] at own2
               obtain ⟨av, cv, rfl, _, _, rv⟩ := own2.slice
               have HV : Hid (Row u2 av z) := rv
               clear own1 own2 rv g1))
          refine (same_any az av cz cv z z u2 (HRZ.out.fr g2) HV.out (by omega)).mono ?_
          rw [decide_eq_true rfl]
          rintro e u3 ⟨rfl, g3⟩
          go_wp2_with fail
          go_ret
          exact ⟨rfl, (f04.then g2).then g3⟩


end Go.Proofs.Ytmoocmajfgghhaa
