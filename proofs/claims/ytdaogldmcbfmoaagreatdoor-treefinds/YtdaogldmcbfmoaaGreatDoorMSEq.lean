/-
  What is proved here: when two sums are equal, and when their names are. No condition.
-/
import Derived.Test.YtdaogldmcbfmoaaGreatDoorM8SName
import Derived.ChangeKeysEq
import Derived.Laws.StructEq
namespace Go.Proofs.YtdaogldmcbfmoaaGreatDoor.Sha
open Go.RowKit
set_option maxRecDepth 100000

/-- Are n numbers alike? -/
def sameF (n : Nat) (f g : Nat → Int) : Bool := (List.range n).all fun i => f i == g i

theorem sameF_iff (n : Nat) (f g : Nat → Int) : sameF n f g = true ↔ ∀ i, i < n → f i = g i := by
  simp [sameF, List.all_eq_true]

theorem items_same (d : Nat) (f g : Nat → Int) (w : World) : ∀ l : List Nat, (∀ i ∈ l, i < 32) → (Op.eqItems (d + 1) 5 1 (arr 32 (n8 f)) (arr 32 (n8 g)) l).run Tryz.prog w = .ok (l.all fun i => f i == g i) w
  | [], _ => by simp [Op.eqItems]
  | i :: l, h => by
    have hi := h i (by simp)
    have ih := items_same d f g w l (fun j hj => h j (by simp [hj]))
    have p1 := run_part_plain (P := Tryz.prog) w (e := 5) (by kernel_rfl) (xs := arr 32 (n8 f)) (off := i * 1) (v := n8 f i) (by rw [Nat.mul_one]; exact arr_get _ _ hi)
    have p2 := run_part_plain (P := Tryz.prog) w (e := 5) (by kernel_rfl) (xs := arr 32 (n8 g)) (off := i * 1) (v := n8 g i) (by rw [Nat.mul_one]; exact arr_get _ _ hi)
    have p3 := run_equalIn_int (P := Tryz.prog) w d 5 .u8 .u8 (f i) (g i) Tryz.underlying5
    simp only [Op.eqItems, Sem.run_bind, p1, p2, Result.andThen_ok]
    simp only [n8, p3, Result.andThen_ok]
    cases hfg : f i == g i
    · simp [hfg]
    · simp [hfg, ih]

theorem equal32 (f g : Nat → Int) (w : World) : (Op.equalIn 10000 96 (.agg (arr 32 (n8 f))) (.agg (arr 32 (n8 g)))).run Tryz.prog w = .ok (sameF 32 f g) w := by
  obtain ⟨i, hi⟩ : ∃ i, Tryz.prog.info? 5 = some i := ⟨_, rfl⟩
  have h := run_equalIn_array (P := Tryz.prog) w 9999 (arr 32 (n8 f)) (arr 32 (n8 g)) Tryz.underlying96 hi
  rw [show Tryz.prog.cellsOf 5 = 1 from by kernel_rfl] at h
  rw [show (10000 : Nat) = 9999 + 1 from rfl, h]
  exact items_same 9998 f g w _ (fun i hi => by simpa using hi)

theorem hexc_inj {x y : Int} (hx : 0 ≤ x ∧ x < 16) (hy : 0 ≤ y ∧ y < 16) (h : hexc x = hexc y) : x = y := by
  unfold hexc at h
  split at h <;> split at h <;> omega

/-- Names are alike just if the sums are. -/
theorem nameS_iff (n n' : Nat) (m m' : Nat → Int) : (nameS n m = nameS n' m') ↔ sameF 32 (sumB n m) (sumB n' m') = true := by
  rw [sameF_iff]
  constructor
  · intro h i hi
    have hb : ∀ j, j < 64 → nameB n m j = nameB n' m' j := fun j hj => by
      rw [← nameS_at n m j (by rw [nameS_length]; exact hj), ← nameS_at n' m' j (by rw [nameS_length]; exact hj)]
      simp [h]
    have h0 := hb (2 * i) (by omega)
    have h1 := hb (2 * i + 1) (by omega)
    have r1 := sumB_range n m i
    have r2 := sumB_range n' m' i
    unfold nameB at h0 h1
    rw [if_pos (by omega), if_pos (by omega), show 2 * i / 2 = i by omega] at h0
    rw [if_neg (by omega), if_neg (by omega), show (2 * i + 1) / 2 = i by omega] at h1
    have k0 := hexc_inj (by omega) (by omega) h0
    have k1 := hexc_inj (by omega) (by omega) h1
    omega
  · intro h
    unfold nameS
    apply List.map_congr_left
    intro i hi
    have : i < 64 := by simpa using hi
    unfold nameB
    rw [h (i / 2) (by omega)]

theorem nameS_beq (n n' : Nat) (m m' : Nat → Int) : (nameS n m == nameS n' m') = sameF 32 (sumB n m) (sumB n' m') := by
  rw [Bool.eq_iff_iff, beq_iff_eq]
  exact nameS_iff n n' m m'

theorem okd_name (n : Nat) (m : Nat → Int) : (nameS n m).all okd = true := by
  rw [List.all_eq_true]
  intro c hc
  obtain ⟨i, hi, rfl⟩ := List.getElem_of_mem hc
  have e := nameS_at n m i hi
  unfold okd
  rw [e]
  have := sumB_range n m (i / 2)
  unfold nameB hexc
  simp only [decide_eq_true_eq]
  split <;> split <;> omega

theorem named_name (n : Nat) (m : Nat → Int) : namedB (nameS n m) = true := by
  unfold namedB
  rw [nameS_length, okd_name]
  rfl

theorem named_len {l : List UInt8} (h : l.length ≠ 64) : namedB l = false := by
  unfold namedB; simp [h]

theorem named_G (x y : List UInt8) : namedB (x ++ 71 :: y) = false := by
  unfold namedB
  simp [okd]

theorem Byt.fr {w w' : World} {v : Value} {n : Nat} {m : Nat → Int} (h : Byt w v n m) (f : Fr None' w w') : Byt w' v n m := by
  obtain ⟨va, cap, e, hc, h⟩ := h
  exact ⟨va, cap, e, hc, fun i hi => by obtain ⟨b, o, e, hb⟩ := h i hi; exact ⟨b, o, e, f.cell hb id⟩⟩

theorem one_size (c : UInt8) : (⟨#[c]⟩ : ByteArray).size = 1 := rfl
theorem max1000 : 1000 ≤ maxLen := by decide

theorem namedIs (s : ByteArray) (w : World) (hs : s.size ≤ maxLen) :
   (namedB s.data.toList = false → Calls Tryz.prog 189 #[.string s] w fun e w' => e = .returned (.bool false) ∧ w = w') ∧ (namedB s.data.toList = true → Calls Tryz.prog 189 #[.string s] w fun e w' => e = .returned (.bool true) ∧ w = w') :=
  ⟨fun h => h ▸ named_any s w hs, fun h => h ▸ named_any s w hs⟩
end Go.Proofs.YtdaogldmcbfmoaaGreatDoor.Sha
