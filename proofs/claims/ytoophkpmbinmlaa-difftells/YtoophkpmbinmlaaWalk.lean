/-
  What is proved here: plain facts on going through two rows of lines by their numbers. Conditions: alike lines have the same number, others others, and none has the end's.
-/
import Derived.Test.YtoophkpmbinmlaaPlain
namespace Go.Proofs.Ytoophkpmbinmlaa

/-- Numbers for lines. -/
structure Nums (f : ByteArray → Int) (a b : List ByteArray) : Prop where
  inj : ∀ s ∈ a, ∀ t ∈ b, (f s = f t ↔ s = t)
  pa : ∀ s ∈ a, 1 ≤ f s
  pb : ∀ s ∈ b, 1 ≤ f s

theorem lcs_map (f : ByteArray → Int) : ∀ (a b : List ByteArray), (∀ s ∈ a, ∀ t ∈ b, (f s = f t ↔ s = t)) → lcs (a.map f) (b.map f) = lcs a b := by
  intro a b
  induction h : a.length + b.length using Nat.strongRecOn generalizing a b with
  | ind m ih =>
    subst h
    intro hi
    match a, b with
    | [], b => rw [List.map_nil, lcs_nil, lcs_nil]
    | x :: a, [] => rw [List.map_nil, lcs_nil', lcs_nil']
    | x :: a, y :: b =>
      have e := hi x (by simp) y (by simp)
      rw [List.map_cons, List.map_cons]
      by_cases hxy : x = y
      · subst hxy
        rw [lcs_same, lcs_same, ih _ (by simp; omega) a b rfl (fun s hs t ht => hi s (by simp [hs]) t (by simp [ht]))]
      · rw [lcs_ne hxy, lcs_ne (fun h => hxy (e.1 h)), ← List.map_cons, ← List.map_cons, ih _ (by simp) a (y :: b) rfl (fun s hs t ht => hi s (by simp [hs]) t ht), ih _ (by simp) (x :: a) b rfl (fun s hs t ht => hi s hs t (by simp [ht]))]

theorem flush_app (k : Nat) (o n : List ByteArray) (r : List (Hk ByteArray)) : flush k o n r = flush k o n [] ++ r := by
  unfold flush
  split <;> rfl

theorem take_snoc {l : List ByteArray} {i0 i : Nat} (h0 : i0 ≤ i) (h : i < l.length) : (l.drop i0).take (i + 1 - i0) = (l.drop i0).take (i - i0) ++ [l[i]] := by
  rw [show i + 1 - i0 = (i - i0) + 1 by omega, List.take_add_one, List.getElem?_drop, show i0 + (i - i0) = i by omega, List.getElem?_eq_getElem h]
  rfl

/-- Under way: L is done. -/
structure Walk (h : Nat) (a b : List ByteArray) (D : List (Hk ByteArray)) (i j i0 j0 : Nat) (L : List (Hk ByteArray)) : Prop where
  li : i ≤ a.length
  lj : j ≤ b.length
  gi : i0 ≤ i
  gj : j0 ≤ j
  eq : L ++ hunks (h + j0) ((a.drop i0).take (i - i0)) ((b.drop j0).take (j - j0)) (a.drop i) (b.drop j) = D

theorem Walk.start (h : Nat) (a b : List ByteArray) : Walk h a b (hunks h [] [] a b) 0 0 0 0 [] := ⟨Nat.zero_le _, Nat.zero_le _, Nat.le_refl _, Nat.le_refl _, by simp⟩

theorem ends_get (f : ByteArray → Int) (a : List ByteArray) {i : Nat} (hi : i < a.length) {x : Int} (hx : (a.map f ++ [0])[i]? = some x) : x = f a[i] := by
  rw [List.getElem?_append_left (by rw [List.length_map]; exact hi), List.getElem?_map, List.getElem?_eq_getElem hi] at hx
  cases hx; rfl

theorem ends_last (f : ByteArray → Int) (a : List ByteArray) {x : Int} (hx : (a.map f ++ [0])[a.length]? = some x) : x = 0 := by
  rw [List.getElem?_append_right (by rw [List.length_map]; exact Nat.le_refl _), List.length_map, Nat.sub_self] at hx
  cases hx; rfl

/-- Two that are alike. -/
theorem Walk.stay {h : Nat} {a b : List ByteArray} {D L : List (Hk ByteArray)} {i j i0 j0 : Nat} (hw : Walk h a b D i j i0 j0 L) {f : ByteArray → Int} (hn : Nums f a b) {x : Int} (hx : (a.map f ++ [0])[i]? = some x) (hy : (b.map f ++ [0])[j]? = some x) :
    Walk h a b D (i + 1) (j + 1) (i + 1) (j + 1) (L ++ flush (h + j0) ((a.drop i0).take (i - i0)) ((b.drop j0).take (j - j0)) []) ∨ (i = a.length ∧ L ++ flush (h + j0) ((a.drop i0).take (i - i0)) ((b.drop j0).take (j - j0)) [] = D) := by
  by_cases ei : i < a.length
  · have e1 := ends_get f a ei hx
    have p1 := hn.pa a[i] (List.getElem_mem ei)
    by_cases ej : j < b.length
    · have e2 := ends_get f b ej hy
      have e := (hn.inj a[i] (List.getElem_mem ei) b[j] (List.getElem_mem ej)).1 (e1.symm.trans e2)
      refine Or.inl ⟨ei, ej, Nat.le_refl _, Nat.le_refl _, ?_⟩
      rw [← hw.eq, List.drop_eq_getElem_cons ei, List.drop_eq_getElem_cons ej, ← e, hunks_same, flush_app (h + j0) _ _ (hunks _ _ _ _ _), List.append_assoc]
      have hl : ((b.drop j0).take (j - j0)).length = j - j0 := by rw [List.length_take, List.length_drop]; omega
      rw [hl, Nat.sub_self, Nat.sub_self, List.take_zero, List.take_zero, show h + j0 + (j - j0) + 1 = h + (j + 1) by have := hw.gj; omega]
    · have : j = b.length := by have := hw.lj; omega
      subst this
      have := ends_last f b hy
      omega
  · have e : i = a.length := by have := hw.li; omega
    subst e
    have e1 := ends_last f a hx
    by_cases ej : j < b.length
    · have e2 := ends_get f b ej hy
      have p1 := hn.pb b[j] (List.getElem_mem ej)
      omega
    · have : j = b.length := by have := hw.lj; omega
      subst this
      refine Or.inr ⟨rfl, ?_⟩
      rw [← hw.eq, List.drop_length, List.drop_length, hunks_nn]

theorem drop_ends (f : ByteArray → Int) (a : List ByteArray) {i : Nat} (hi : i ≤ a.length) : (a.map f ++ [0]).drop i = (a.drop i).map f ++ [0] := by
  rw [List.drop_append_of_le_length (by rw [List.length_map]; exact hi), List.map_drop]

theorem no_end {f : ByteArray → Int} {a : List ByteArray} (hp : ∀ s ∈ a, 1 ≤ f s) (i : Nat) : (0 : Int) ∉ (a.drop i).map f := fun h => by
  obtain ⟨s, hs, e⟩ := List.mem_map.1 h
  have := hp s (List.mem_of_mem_drop hs)
  omega

theorem kept_lcs {f : ByteArray → Int} {a b : List ByteArray} (hn : Nums f a b) {i j : Nat} (hi : i ≤ a.length) (hj : j ≤ b.length) : kept ((a.map f ++ [0]).drop i) ((b.map f ++ [0]).drop j) = some (lcs (a.drop i) (b.drop j) + 1) := by
  rw [drop_ends f a hi, drop_ends f b hj, kept_ends _ _ (no_end hn.pa i) (no_end hn.pb j), lcs_map f _ _ (fun s hs t ht => hn.inj s (List.mem_of_mem_drop hs) t (List.mem_of_mem_drop ht))]

theorem kept_past {f : ByteArray → Int} {a b : List ByteArray} {j : Nat} (hj : j ≤ b.length) : kept ((a.map f ++ [0]).drop (a.length + 1)) ((b.map f ++ [0]).drop j) = none := by
  rw [List.drop_of_length_le (by simp), drop_ends f b hj]
  cases (b.drop j).map f with
  | nil => exact kept_nc _ _
  | cons y l => exact kept_nc _ _

theorem kept_past' {f : ByteArray → Int} {a b : List ByteArray} {i : Nat} (hi : i ≤ a.length) : kept ((a.map f ++ [0]).drop i) ((b.map f ++ [0]).drop (b.length + 1)) = none := by
  rw [List.drop_of_length_le (l := b.map f ++ [0]) (by simp), drop_ends f a hi]
  cases (a.drop i).map f with
  | nil => exact kept_cn _ _
  | cons y l => exact kept_cn _ _

/-- Both are there, or one of them is the end, not both. -/
theorem Walk.split {h : Nat} {a b : List ByteArray} {D L : List (Hk ByteArray)} {i j i0 j0 : Nat} (hw : Walk h a b D i j i0 j0 L) {f : ByteArray → Int} {x y : Int} (hx : (a.map f ++ [0])[i]? = some x) (hy : (b.map f ++ [0])[j]? = some y) (hxy : x ≠ y) : i < a.length ∨ j < b.length := by
  by_cases ei : i < a.length
  · exact Or.inl ei
  · refine Or.inr (Nat.lt_of_not_le fun e => hxy ?_)
    have e1 : i = a.length := by have := hw.li; omega
    have e2 : j = b.length := by have := hw.lj; omega
    subst e1 e2
    rw [ends_last f a hx, ends_last f b hy]

theorem Walk.differ {h : Nat} {a b : List ByteArray} {D L : List (Hk ByteArray)} {i j i0 j0 : Nat} (_ : Walk h a b D i j i0 j0 L) {f : ByteArray → Int} {x y : Int} (hx : (a.map f ++ [0])[i]? = some x) (hy : (b.map f ++ [0])[j]? = some y) (hxy : x ≠ y) (ei : i < a.length) (ej : j < b.length) : ¬ a[i] = b[j] := fun e => by
  rw [ends_get f a ei hx, ends_get f b ej hy, e] at hxy
  exact hxy rfl

/-- a's next one goes. -/
theorem Walk.goes {h : Nat} {a b : List ByteArray} {D L : List (Hk ByteArray)} {i j i0 j0 : Nat} (hw : Walk h a b D i j i0 j0 L) {f : ByteArray → Int} (hn : Nums f a b) {x y : Int} (hx : (a.map f ++ [0])[i]? = some x) (hy : (b.map f ++ [0])[j]? = some y) (hxy : x ≠ y)
    (hg : kgeq (kept ((a.map f ++ [0]).drop (i + 1)) ((b.map f ++ [0]).drop j)) (kept ((a.map f ++ [0]).drop i) ((b.map f ++ [0]).drop (j + 1))) = true) : Walk h a b D (i + 1) j i0 j0 L := by
  have hsp := hw.split hx hy hxy
  by_cases ei : i < a.length
  · refine ⟨ei, hw.lj, Nat.le_succ_of_le hw.gi, hw.gj, ?_⟩
    rw [← hw.eq, take_snoc hw.gi ei, List.drop_eq_getElem_cons ei]
    by_cases ej : j < b.length
    · rw [List.drop_eq_getElem_cons ej, hunks_goes _ _ _ _ _ (hw.differ hx hy hxy ei ej)]
      rw [kept_lcs hn (i := i + 1) ei hw.lj, kept_lcs hn (j := j + 1) hw.li ej] at hg
      simp only [kgeq, klt, Bool.not_eq_true', decide_eq_false_iff_not] at hg
      rw [← List.drop_eq_getElem_cons ei, ← List.drop_eq_getElem_cons ej]
      omega
    · have e2 : j = b.length := by have := hw.lj; omega
      subst e2
      rw [List.drop_length, hunks_cn]
  · have e1 : i = a.length := by have := hw.li; omega
    have ej : j < b.length := by omega
    subst e1
    rw [kept_past hw.lj, kept_lcs hn (Nat.le_refl _) ej] at hg
    cases hg

/-- b's next one comes. -/
theorem Walk.comes {h : Nat} {a b : List ByteArray} {D L : List (Hk ByteArray)} {i j i0 j0 : Nat} (hw : Walk h a b D i j i0 j0 L) {f : ByteArray → Int} (hn : Nums f a b) {x y : Int} (hx : (a.map f ++ [0])[i]? = some x) (hy : (b.map f ++ [0])[j]? = some y) (hxy : x ≠ y)
    (hg : kgeq (kept ((a.map f ++ [0]).drop (i + 1)) ((b.map f ++ [0]).drop j)) (kept ((a.map f ++ [0]).drop i) ((b.map f ++ [0]).drop (j + 1))) = false) : Walk h a b D i (j + 1) i0 j0 L := by
  have hsp := hw.split hx hy hxy
  by_cases ej : j < b.length
  · refine ⟨hw.li, ej, hw.gi, Nat.le_succ_of_le hw.gj, ?_⟩
    rw [← hw.eq, take_snoc hw.gj ej, List.drop_eq_getElem_cons ej]
    by_cases ei : i < a.length
    · rw [List.drop_eq_getElem_cons ei, hunks_comes _ _ _ _ _ (hw.differ hx hy hxy ei ej)]
      rw [kept_lcs hn (i := i + 1) ei hw.lj, kept_lcs hn (j := j + 1) hw.li ej] at hg
      simp only [kgeq, klt, Bool.not_eq_false', decide_eq_true_eq] at hg
      rw [← List.drop_eq_getElem_cons ei, ← List.drop_eq_getElem_cons ej]
      omega
    · have e2 : i = a.length := by have := hw.li; omega
      subst e2
      rw [List.drop_length, hunks_nc]
  · have e1 : j = b.length := by have := hw.lj; omega
    have ei : i < a.length := by omega
    subst e1
    rw [kept_past' hw.li, kept_lcs hn ei (Nat.le_refl _)] at hg
    cases hg

end Go.Proofs.Ytoophkpmbinmlaa
