/-
  What is proved here: PathParts answers true. The byte is one.
-/
import Derived.Test.YtalmkjlhiieafaaDoorMovedL
import Derived.Laws.BytesString
namespace Go.Proofs.YtalmkjlhiieafaaDoor
open Go.RowKit Go.Shelf
set_option maxRecDepth 100000

theorem right_is (p : ByteArray) (b : Bool) (hp : p.size < 100000) (h : right p.data.toList = b) (v : World) : Calls Tryd.prog 14 #[.string p] v fun e w' => e = .returned (.bool b) ∧ Below v.heap.size v w' := by
  rw [← h]; exact right_any p v hp

theorem count_step (s : ByteArray) (k : Nat) (h : k < s.size) : (s.data.toList.take (k + 1)).count 47 = (s.data.toList.take k).count 47 + if (s[k]).toNat = 47 then 1 else 0 := by
  rw [take_snoc s k h, List.count_append, List.count_singleton]
  congr 1
  by_cases e : (s[k]).toNat = 47
  · rw [if_pos e, if_pos (by rw [beq_iff_eq]; exact UInt8.toNat_inj.1 e)]
  · rw [if_neg e, if_neg (by rw [beq_iff_eq]; exact fun h => e (by rw [h]; rfl))]

def noSlash (c : UInt8) : Bool := !decide (c.toNat = 47)

theorem noSlash_all (l : Bs) : l.all noSlash = true ↔ (47 : UInt8) ∉ l := by
  simp only [List.all_eq_true, noSlash, Bool.not_eq_true', decide_eq_false_iff_not]
  constructor
  · intro h hm; exact h 47 hm rfl
  · intro h c hc e
    rw [show c = 47 from UInt8.toNat_inj.1 e] at hc
    exact h hc

theorem conv_one (c : Nat) (v : World) : (convert 30 9 (.slice (some ⟨v.heap.size, 0, none⟩) 1 1)).run Tryd.prog (v.alloc (.cells #[.int .u8 (c : Int)] 5)) = .ok (.string ⟨#[UInt8.ofNat c]⟩) (v.alloc (.cells #[.int .u8 (c : Int)] 5)) := by
  rw [run_convert_bytes_string _ _ _ _ _ _ _ Tryd.underlying30 Tryd.underlying5 Tryd.underlying9, run_bytesToString _ _ _ _ [(c : Int)] (by simp [loadCells, go_sem])]
  rfl

theorem good_not {c : Nat} (hc : c < 256) (h : c ≠ 46 ∧ c ≠ 95 ∧ c ≠ 45 ∧ ¬ (97 ≤ c ∧ c ≤ 122) ∧ ¬ (48 ≤ c ∧ c ≤ 57) ∧ c ≠ 47) : good (UInt8.ofNat c) = false ∧ UInt8.ofNat c ≠ 47 := by
  have e : (UInt8.ofNat c).toNat = c := by simp; omega
  refine ⟨by rw [good, e]; simp; omega, fun k => h.2.2.2.2.2 ?_⟩
  rw [← e, k]; rfl

set_option maxHeartbeats 8000000 in
theorem partsL_walk (p t : ByteArray) (c : Nat) (w : World) (hc : c < 256) : Calls Tryd.prog 6 #[.string p, .string t, .int .u8 (c : Int)] w fun e w' => e = .returned (.bool true) ∧ Below w.heap.size w w' := by
  go_enter Tryd.func6, Tryd.ntmps6
  go_wp2_with (go_at_call 8; refine (head_any _).mono ?_; rintro e v ⟨rfl, hB⟩)
  refine (great_any p t v).mono ?_
  rintro e v' ⟨rfl, rfl⟩
  cases hg : greatB p t
  case true =>
    go_wp2_with fail
    go_ret
    exact ⟨rfl, hB⟩
  case false =>
  obtain ⟨hp, ht⟩ := great_no hg
  have cR := right_is p _ (by omega) rfl v
  cases hR : right p.data.toList
  case false =>
    rw [hR] at cR
    go_wp2_with (go_at_call 14; refine cR.mono ?_; rintro e v2 ⟨rfl, hB2⟩)
    go_ret
    exact ⟨rfl, hB.trans (hB2.mono hB.size)⟩
  case true =>
  rw [hR] at cR
  obtain ⟨F, hF⟩ : ∃ F, p ++ (⟨#[47]⟩ : ByteArray) = F := ⟨_, rfl⟩
  obtain ⟨X, hX⟩ : ∃ X, F ++ t = X := ⟨_, rfl⟩
  obtain ⟨Z, hZ⟩ : ∃ Z, (⟨#[47]⟩ : ByteArray) ++ p = Z := ⟨_, rfl⟩
  have s1 : F.size = p.size + 1 := by rw [← hF, ByteArray.size_append]; rfl
  have s2 : X.size = p.size + 1 + t.size := by rw [← hX, ByteArray.size_append, s1]
  have s3 : Z.size = 1 + p.size := by rw [← hZ, ByteArray.size_append]; rfl
  have lX : X.data.toList = p.data.toList ++ 47 :: t.data.toList := by rw [← hX, ← hF]; exact join_list p t
  have lF : F.data.toList = p.data.toList ++ [47] := by rw [← hF, ByteArray.data_append, Array.toList_append]
  have lZ : Z.data.toList = 47 :: p.data.toList := by rw [← hZ, ByteArray.data_append, Array.toList_append]; rfl
  have a1 : ∀ v, (Op.stringOp .add p ⟨#[47]⟩).run Tryd.prog v = .ok (.string F) v := fun v => by rw [run_string_add_sum _ _ _ (by show p.size + 1 ≤ _; omega), hF]
  have a2 : ∀ v, (Op.stringOp .add F t).run Tryd.prog v = .ok (.string X) v := fun v => by rw [run_string_add_sum _ _ _ (by omega), hX]
  have a3 : ∀ v, (Op.stringOp .add ⟨#[47]⟩ p).run Tryd.prog v = .ok (.string Z) v := fun v => by rw [run_string_add_sum _ _ _ (by show 1 + p.size ≤ _; omega), hZ]
  have cF := right_is F false (by omega) (by rw [lF]; exact not_right_end _)
  have cZ := right_is Z false (by omega) (by rw [lZ]; exact not_right_head _)
  have cT := right_is t _ (by omega) rfl
  have cX := right_is X _ (by omega) rfl
  have HX : Hid ((47 : UInt8) ∉ t.data.toList → right X.data.toList = (right t.data.toList && decide (p.data.toList.count 47 + 1 < 8)) ∧ parent X.data.toList = some p.data.toList) := fun h => by
    rw [lX]; exact ⟨right_part hR h, parent_join _ h⟩
  obtain ⟨D, hD⟩ : ∃ D, p ++ (⟨#[UInt8.ofNat c]⟩ : ByteArray) = D := ⟨_, rfl⟩
  have s4 : D.size = p.size + 1 := by rw [← hD, ByteArray.size_append]; rfl
  have lD : D.data.toList = p.data.toList ++ [UInt8.ofNat c] := by rw [← hD, ByteArray.data_append, Array.toList_append]
  have a4 : ∀ v, (Op.stringOp .add p ⟨#[UInt8.ofNat c]⟩).run Tryd.prog v = .ok (.string D) v := fun v => by rw [run_string_add_sum _ _ _ (by show p.size + 1 ≤ _; omega), hD]
  have cD : c ≠ 46 ∧ c ≠ 95 ∧ c ≠ 45 ∧ ¬ (97 ≤ c ∧ c ≤ 122) ∧ ¬ (48 ≤ c ∧ c ≤ 57) ∧ c ≠ 47 → ∀ v, Calls Tryd.prog 14 #[.string D] v fun e w' => e = .returned (.bool false) ∧ Below v.heap.size v w' := fun h => right_is D false (by omega) (by rw [lD]; exact not_right_odd _ (good_not hc h).2 (good_not hc h).1)
  have hconv := conv_one c
  clear hF hX hZ hD lX lF lZ lD hR hg
  go_wp2_with (go_at_call 14; with_reducible refine cR.mono ?_; rintro e v2 ⟨rfl, hB2⟩; replace hB := hB.trans (hB2.mono hB.size); clear hB2)
  go_loop [9, 10] (fun vd vi => ∃ k d : Nat, k ≤ p.size ∧ d ≤ k + 1 ∧ vi = .int .i64 k ∧ vd = .int .i64 d ∧ Hid (d = (p.data.toList.take k).count 47 + 1)) (fun _ vi => p.size - (intOf vi).toNat)
  case atStart => exact ⟨0, 1, Nat.zero_le _, Nat.le_refl _, rfl, rfl, rfl⟩
  case round =>
    obtain ⟨k, d, hk, hd, rfl, rfl, HD⟩ := hrel
    by_cases hlt : k < p.size
    · obtain ⟨u, hu⟩ : ∃ u : Nat, (p[k]).toNat = u := ⟨_, rfl⟩
      have hs := count_step p k hlt
      rw [hu] at hs
      by_cases h47 : u = 47
      · have HD' : Hid (d + 1 = (p.data.toList.take (k + 1)).count 47 + 1) := by unfold Hid; rw [hs, HD.out, if_pos h47]
        subst h47
        clear hs
        go_wp2_with fail
        go_round
        case rel => exact ⟨k + 1, d + 1, by omega, by omega, by go_num, by go_num, HD'⟩
        case measure => simp [intOf]; omega
      · have HD' : Hid (d = (p.data.toList.take (k + 1)).count 47 + 1) := by unfold Hid; rw [hs, HD.out, if_neg h47]
        have h47' : ¬ (u : Int) = 47 := by omega
        clear hs h47
        go_wp2_with fail
        go_round
        case rel => exact ⟨k + 1, d, by omega, by omega, by go_num, rfl, HD'⟩
        case measure => simp [intOf]; omega
    · have HD' : Hid (d = p.data.toList.count 47 + 1) := by
        have := HD.out
        rwa [List.take_of_length_le (by rw [len_eq]; omega)] at this
      go_wp2_with fail
      go_loop [11, 12] (fun vo vi => ∃ (j : Nat) (o : Bool), j ≤ t.size ∧ vi = .int .i64 j ∧ vo = .bool o ∧ Hid (o = (t.data.toList.take j).all noSlash)) (fun _ vi => t.size - (intOf vi).toNat)
      case atStart => exact ⟨0, true, Nat.zero_le _, rfl, rfl, rfl⟩
      case round =>
        obtain ⟨j, o, hj, rfl, rfl, HO'⟩ := hrel
        by_cases hlt2 : j < t.size
        · obtain ⟨u, hu⟩ : ∃ u : Nat, (t[j]).toNat = u := ⟨_, rfl⟩
          have HS : Hid ((o && !decide (u = 47)) = (t.data.toList.take (j + 1)).all noSlash) := by
            unfold Hid
            rw [take_snoc t j hlt2, List.all_append, HO'.out]
            simp [noSlash, hu]
          cases o
          · go_wp2_with fail
            go_round
            case rel => exact ⟨j + 1, false, by omega, by go_num, rfl, by simpa using HS⟩
            case measure => simp [intOf]; omega
          · go_wp2_with fail
            exact ⟨⟨j + 1, !decide (u = 47), by omega, by go_num, by congr 1; rw [Bool.eq_iff_iff]; simp; omega, by simpa using HS⟩, by simp [intOf]; omega⟩
        · have HO2 : Hid (o = true → (47 : UInt8) ∉ t.data.toList) := fun e => by
            have := HO'.out
            rw [List.take_of_length_le (by rw [len_eq]; omega), e] at this
            exact (noSlash_all _).1 this.symm
          clear HO' HD
          cases o
          case false =>
            clear HO2 HX HD'
            go_wp2_with first
              | (go_at_call 14; with_reducible refine (cF _).mono ?_; rintro e v3 ⟨rfl, hB2⟩; replace hB := hB.trans (hB2.mono hB.size); clear hB2)
              | (go_at_call 14; with_reducible refine (cZ _).mono ?_; rintro e v3 ⟨rfl, hB2⟩; replace hB := hB.trans (hB2.mono hB.size); clear hB2)
              | (go_at_call 14; with_reducible refine (cD (by omega) _).mono ?_; rintro e v3 ⟨rfl, hB2⟩; replace hB := (hB.alloc hB.size _).trans (hB2.mono (by have := hB.size; simp; omega)); clear hB2)
            all_goals first
              | (go_ret; exact ⟨rfl, hB⟩)
              | skip
            done
          case true =>
            obtain ⟨e1, e2⟩ := HX.out (HO2.out rfl)
            have cP := fun v => parent_any X v (by omega)
            rw [parentS, e2] at cP
            have cP' : ∀ v, Calls Tryd.prog 10 #[.string X] v fun e w' => e = .returned (.tuple #[.string p, .bool true]) ∧ v = w' := fun v => cP v
            have e3 : right X.data.toList = (right t.data.toList && decide ((d : Int) < 8)) := by
              rw [e1, HD'.out]
              congr 1
              exact decide_eq_decide.2 (by omega)
            rw [e3] at cX
            generalize right t.data.toList = T at cT cX
            clear HO2 HX HD' e1 e2 e3 cP
            go_wp2_with first
              | (go_at_call 10; with_reducible refine (cP' _).mono ?_; rintro e v3 ⟨rfl, rfl⟩)
              | (go_at_call 14; with_reducible refine (cX _).mono ?_; rintro e v3 ⟨rfl, hB2⟩; replace hB := hB.trans (hB2.mono hB.size); clear hB2)
              | (go_at_call 14; with_reducible refine (cT _).mono ?_; rintro e v3 ⟨rfl, hB2⟩; replace hB := hB.trans (hB2.mono hB.size); clear hB2)
              | (go_at_call 14; with_reducible refine (cF _).mono ?_; rintro e v3 ⟨rfl, hB2⟩; replace hB := hB.trans (hB2.mono hB.size); clear hB2)
              | (go_at_call 14; with_reducible refine (cZ _).mono ?_; rintro e v3 ⟨rfl, hB2⟩; replace hB := hB.trans (hB2.mono hB.size); clear hB2)
              | (go_at_call 14; with_reducible refine (cD (by omega) _).mono ?_; rintro e v3 ⟨rfl, hB2⟩; replace hB := (hB.alloc hB.size _).trans (hB2.mono (by have := hB.size; simp; omega)); clear hB2)
            all_goals first
              | (go_ret; exact ⟨rfl, hB⟩)
              | skip
            done

end Go.Proofs.YtalmkjlhiieafaaDoor
