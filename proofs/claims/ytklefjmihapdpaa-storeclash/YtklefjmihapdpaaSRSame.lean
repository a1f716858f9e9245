/-
  What is proved here: the document's sum of a text and the program's are the same numbers. Condition: the text has fewer than 100,000 bytes.
-/
import Derived.Test.YtklefjmihapdpaaSRSum
namespace Go.Proofs.Ytklefjmihapdpaa.Sha
set_option maxRecDepth 100000

theorem W_congr {m m' : Nat → Int} (h : ∀ i, i < 64 → m i = m' i) : W m = W m' := by
  funext i
  induction i using Nat.strongRecOn with
  | _ i ih =>
    by_cases hi : i < 16
    · rw [W_low m i hi, W_low m' i hi, h (4 * i) (by omega), h (4 * i + 1) (by omega), h (4 * i + 2) (by omega), h (4 * i + 3) (by omega)]
    · rw [W_high m i (by omega), W_high m' i (by omega), ih (i - 16) (by omega), ih (i - 15) (by omega), ih (i - 7) (by omega), ih (i - 2) (by omega)]

theorem blk_congr {k m m' v : Nat → Int} (h : ∀ i, i < 64 → m i = m' i) : blk k m v = blk k m' v := by
  funext i
  unfold blk
  rw [W_congr h]

theorem blks_congr {k m m' v : Nat → Int} : ∀ b, (∀ i, i < 64 * b → m i = m' i) → blks k m v b = blks k m' v b
  | 0, _ => rfl
  | b + 1, h => by
    show blk k (fun i => m (64 * b + i)) (blks k m v b) = blk k (fun i => m' (64 * b + i)) (blks k m' v b)
    rw [blks_congr b (fun i hi => h i (by omega))]
    exact blk_congr (fun i hi => h (64 * b + i) (by omega))

theorem blks_add (k m v : Nat → Int) (a : Nat) : ∀ b, blks k m v (a + b) = blks k (fun i => m (64 * a + i)) (blks k m v a) b
  | 0 => rfl
  | b + 1 => by
    show blk k (fun i => m (64 * (a + b) + i)) (blks k m v (a + b)) = blk k (fun i => m (64 * a + (64 * b + i))) (blks k (fun i => m (64 * a + i)) (blks k m v a) b)
    rw [blks_add k m v a b]
    exact blk_congr (fun i _ => by rw [Nat.mul_add, Nat.add_assoc])

theorem getD_left (a b : List Int) {i : Nat} (h : i < a.length) : (a ++ b).getD i 0 = a.getD i 0 := by
  rw [List.getD_eq_getElem?_getD, List.getD_eq_getElem?_getD, List.getElem?_append_left h]

theorem getD_right (a b : List Int) {i : Nat} (h : a.length ≤ i) : (a ++ b).getD i 0 = b.getD (i - a.length) 0 := by
  rw [List.getD_eq_getElem?_getD, List.getD_eq_getElem?_getD, List.getElem?_append_right h]

theorem padL_low (n : Nat) (m : Nat → Int) {i : Nat} (h : i < n) : (padL n m).getD i 0 = m i := by
  unfold padL
  rw [getD_left _ _ (by simp; omega), getD_left _ _ (by simp; omega), getD_left _ _ (by simp; omega)]
  exact range_getD n m h

theorem padL_mid (n : Nat) (m : Nat → Int) : (padL n m).getD n 0 = 128 := by
  unfold padL
  rw [getD_left _ _ (by simp <;> omega), getD_left _ _ (by simp), getD_right _ _ (by simp)]
  simp

theorem padL_zero (n : Nat) (m : Nat → Int) {i : Nat} (h : n < i) (h2 : i < n + 1 + zs n) : (padL n m).getD i 0 = 0 := by
  unfold padL
  rw [getD_left _ _ (by simp; omega), getD_right _ _ (by simp; omega)]
  rw [List.getD_eq_getElem?_getD, List.getElem?_replicate]
  split <;> rfl

theorem padL_len (n : Nat) (m : Nat → Int) {k : Nat} (h : k < 8) : (padL n m).getD (n + 1 + zs n + k) 0 = lenB n k := by
  unfold padL
  rw [getD_right _ _ (by simp; omega)]
  have e : n + 1 + zs n + k - ((List.range n).map m ++ [128] ++ List.replicate (zs n) 0).length = k := by simp; omega
  rw [e]
  exact range_getD 8 (lenB n) h

theorem lenB_high (n : Nat) (hn : n ≤ 100000) {k : Nat} (h : k < 4) : lenB n k = 0 := by
  unfold lenB
  have : k = 0 ∨ k = 1 ∨ k = 2 ∨ k = 3 := by omega
  rcases this with rfl | rfl | rfl | rfl <;> simp <;> omega

theorem lenB_low (n : Nat) {k : Nat} (h : k < 4) : lenB n (k + 4) = bt (8 * n) k := by
  unfold lenB
  rw [show 56 - 8 * (k + 4) = 24 - 8 * k by omega]
  exact bt_pow _ k h

theorem put4_in (o : Nat) (x : Int) (f : Nat → Value) {i : Nat} (h : o ≤ i ∧ i < o + 4) : put4 o x f i = .int .u8 (bt x (i - o)) := by unfold put4; rw [if_pos h]
theorem put4_out (o : Nat) (x : Int) (f : Nat → Value) {i : Nat} (h : ¬ (o ≤ i ∧ i < o + 4)) : put4 o x f i = f i := by unfold put4; rw [if_neg h]

theorem bt_zero (k : Nat) : bt 0 k = 0 := by unfold bt; split <;> rfl

/-- The end that is mixed in is the end of what the document pads. -/
theorem end_same (n : Nat) (m : Nat → Int) (hn : n ≤ 100000) {i : Nat} (hi : i < lastSize (n % 64)) : (padL n m).getD (64 * (n / 64) + i) 0 = lastB (n % 64) (fun i => m (n - n % 64 + i)) n i := by
  obtain ⟨r, hr⟩ : ∃ r, n % 64 = r := ⟨_, rfl⟩
  obtain ⟨q, hq⟩ : ∃ q, 64 * (n / 64) = q := ⟨_, rfl⟩
  have hnq : n = q + r := by omega
  have hr64 : r < 64 := by omega
  rw [hr, hq]
  rw [hr] at hi
  obtain ⟨s, hs⟩ : ∃ s, lastSize r = s := ⟨_, rfl⟩
  have hz : n + 1 + zs n = q + (s - 8) ∧ r < s - 8 := by
    unfold zs
    rw [hr, ← hs]
    unfold lastSize
    split <;> omega
  have hs2 : 8 ≤ s := by rw [← hs]; unfold lastSize; split <;> omega
  have hL : (8 * (n : Int)) % 18446744073709551616 % 4294967296 = 8 * n := by omega
  have hH : (8 * (n : Int)) % 18446744073709551616 / 4294967296 % 4294967296 = 0 := by omega
  unfold lastB lastF
  rw [hs, hL, hH]
  rw [hs] at hi
  by_cases h4 : s - 4 ≤ i
  · rw [put4_in _ _ _ ⟨h4, by omega⟩]
    show _ = bt (8 * n) (i - (s - 4))
    rw [show q + i = n + 1 + zs n + (i - (s - 4) + 4) by omega, padL_len n m (by omega), lenB_low n (by omega)]
  · rw [put4_out _ _ _ (by omega)]
    by_cases h8 : s - 8 ≤ i
    · rw [put4_in _ _ _ ⟨h8, by omega⟩]
      show _ = bt 0 (i - (s - 8))
      rw [bt_zero, show q + i = n + 1 + zs n + (i - (s - 8)) by omega, padL_len n m (by omega), lenB_high n hn (by omega)]
    · rw [put4_out _ _ _ (by omega)]
      by_cases h1 : i = r
      · rw [if_pos h1, h1, ← hnq, padL_mid]
        rfl
      · rw [if_neg h1]
        by_cases h2 : i < r
        · rw [if_pos h2, padL_low n m (by omega)]
          show m (q + i) = m (n - r + i)
          rw [show n - r + i = q + i by omega]
        · rw [if_neg h2, padL_zero n m (by omega) (by omega)]
          rfl

theorem rsumV_eq (n : Nat) (m : Nat → Int) (hn : n ≤ 100000) : rsumV n m = sumV n m := by
  unfold rsumV sumV
  have e : (n + 1 + zs n + 8) / 64 = n / 64 + lastSize (n % 64) / 64 := by
    unfold zs lastSize
    split <;> omega
  rw [e, blks_add]
  rw [blks_congr (m' := m) (n / 64) (fun i hi => padL_low n m (by omega))]
  refine blks_congr _ (fun i hi => end_same n m hn ?_)
  have : 64 * (lastSize (n % 64) / 64) = lastSize (n % 64) := by unfold lastSize; split <;> rfl
  omega

theorem rsumB_eq (n : Nat) (m : Nat → Int) (hn : n ≤ 100000) : rsumB n m = sumB n m := by
  funext i
  unfold rsumB sumB
  rw [rsumV_eq n m hn]
end Go.Proofs.Ytklefjmihapdpaa.Sha
