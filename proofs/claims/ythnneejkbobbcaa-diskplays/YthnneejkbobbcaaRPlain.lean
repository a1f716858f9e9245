/-
  What is proved here: the document's rows of files, and the program's lists of them, as plain data: what a change makes of two that are alike is alike. No condition.
-/
import Derived.Test.YthnneejkbobbcaaRDisk
namespace Go.Proofs.Ythnneejkbobbcaa
open Go.RowKit Go.Maps Go.WideMaps
set_option maxRecDepth 100000

def Rising (L : List Tri) : Prop := L.Pairwise (fun a b => a.k < b.k)

def place (f : Tri) : List Tri → List Tri
  | [] => [f]
  | t :: r => if f.k < t.k then f :: t :: r else t :: place f r

theorem fold_true (f : Tri) : ∀ (W O : List Tri), W.foldl (insStep f) (O, true) = (O ++ W, true)
  | [], O => by simp
  | t :: r, O => by
    rw [List.foldl_cons]
    have : insStep f (O, true) t = (O ++ [t], true) := by simp [insStep]
    rw [this, fold_true f r]
    simp

theorem fold_false (f : Tri) : ∀ (W O : List Tri), (if (W.foldl (insStep f) (O, false)).2 then (W.foldl (insStep f) (O, false)).1 else (W.foldl (insStep f) (O, false)).1 ++ [f]) = O ++ place f W
  | [], O => by simp [place]
  | t :: r, O => by
    rw [List.foldl_cons]
    by_cases h : f.k < t.k
    · have e : insStep f (O, false) t = (O ++ [f, t], true) := by simp [insStep, h]
      rw [e, fold_true]
      simp [place, h]
    · have e : insStep f (O, false) t = (O ++ [t], false) := by simp [insStep, h]
      rw [e, fold_false f r]
      simp [place, h]

theorem withF_eq (L : List Tri) (f : Tri) : withF L f = place f (without L f.k) := by
  unfold withF insFold
  have := fold_false f (without L f.k) []
  simpa using this

theorem mem_place {f y : Tri} : ∀ {W : List Tri}, y ∈ place f W ↔ y = f ∨ y ∈ W
  | [] => by simp [place]
  | t :: r => by
    unfold place
    split
    · simp
    · rw [List.mem_cons, mem_place (W := r), List.mem_cons]
      constructor
      · rintro (h | h | h)
        · exact Or.inr (Or.inl h)
        · exact Or.inl h
        · exact Or.inr (Or.inr h)
      · rintro (h | h | h)
        · exact Or.inr (Or.inl h)
        · exact Or.inl h
        · exact Or.inr (Or.inr h)

theorem lt_or {x y : List UInt8} (h : ¬ x < y) (hn : y ≠ x) : y < x := by
  have h1 : y ≤ x := List.not_lt.1 h
  exact Decidable.byContradiction fun h2 => hn (List.le_antisymm h1 (List.not_lt.1 h2))

theorem rising_place {f : Tri} : ∀ {W : List Tri}, Rising W → (∀ t ∈ W, t.k ≠ f.k) → Rising (place f W)
  | [], _, _ => by simp [place, Rising]
  | t :: r, h, hn => by
    have h1 := List.pairwise_cons.1 h
    unfold place
    split
    · rename_i hlt
      refine List.pairwise_cons.2 ⟨fun y hy => ?_, h⟩
      rcases List.mem_cons.1 hy with rfl | hy
      · exact hlt
      · exact List.lt_trans hlt (h1.1 y hy)
    · rename_i hlt
      refine List.pairwise_cons.2 ⟨fun y hy => ?_, rising_place h1.2 (fun z hz => hn z (by simp [hz]))⟩
      rcases mem_place.1 hy with rfl | hy
      · exact lt_or hlt (hn t (by simp))
      · exact h1.1 y hy

theorem rising_apart {L : List Tri} (h : Rising L) : Apart L := h.imp (fun {a b} hlt e => by
  rw [e] at hlt
  exact List.lt_irrefl _ hlt)

theorem rising_without {L : List Tri} (h : Rising L) (k : List UInt8) : Rising (without L k) := h.filter _

theorem rising_withF {L : List Tri} (h : Rising L) (f : Tri) : Rising (withF L f) := by
  rw [withF_eq]
  exact rising_place (rising_without h f.k) (fun t ht => by simpa using (List.mem_filter.1 ht).2)

theorem mem_without {L : List Tri} {k : List UInt8} {y : Tri} : y ∈ without L k ↔ y ∈ L ∧ y.k ≠ k := by simp [without]

theorem mem_withF {L : List Tri} {f y : Tri} : y ∈ withF L f ↔ y = f ∨ (y ∈ L ∧ y.k ≠ f.k) := by
  rw [withF_eq, mem_place, mem_without]

/-- T and L have the same names and bytes; L rises. -/
structure Alike (T L : List Tri) : Prop where
  apart : Apart T
  rising : Rising L
  same : ∀ k b, (∃ t ∈ T, t.k = k ∧ t.b = b) ↔ (∃ t ∈ L, t.k = k ∧ t.b = b)

theorem Alike.put {T L : List Tri} (h : Alike T L) {t f : Tri} (hT : Apart (put T t)) (hk : f.k = t.k) (hb : f.b = t.b) : Alike (put T t) (withF L f) := by
  refine ⟨hT, rising_withF h.rising f, fun k b => ?_⟩
  constructor
  · rintro ⟨x, hx, h1, h2⟩
    rcases mem_put.1 hx with rfl | ⟨hx, hne⟩
    · exact ⟨f, mem_withF.2 (Or.inl rfl), by rw [hk]; exact h1, by rw [hb]; exact h2⟩
    · obtain ⟨y, hy, e1, e2⟩ := (h.same k b).1 ⟨x, hx, h1, h2⟩
      exact ⟨y, mem_withF.2 (Or.inr ⟨hy, by rw [e1, ← h1, hk]; exact hne⟩), e1, e2⟩
  · rintro ⟨x, hx, h1, h2⟩
    rcases mem_withF.1 hx with rfl | ⟨hx, hne⟩
    · exact ⟨t, mem_put.2 (Or.inl rfl), by rw [← hk]; exact h1, by rw [← hb]; exact h2⟩
    · obtain ⟨y, hy, e1, e2⟩ := (h.same k b).2 ⟨x, hx, h1, h2⟩
      exact ⟨y, mem_put.2 (Or.inr ⟨hy, by rw [e1, ← h1, ← hk]; exact hne⟩), e1, e2⟩

theorem Alike.del {T L : List Tri} (h : Alike T L) (k : List UInt8) : Alike (del T k) (without L k) := by
  refine ⟨h.apart.filter _, rising_without h.rising k, fun k' b => ?_⟩
  constructor
  · rintro ⟨x, hx, h1, h2⟩
    obtain ⟨hx, hne⟩ := mem_del.1 hx
    obtain ⟨y, hy, e1, e2⟩ := (h.same k' b).1 ⟨x, hx, h1, h2⟩
    exact ⟨y, mem_without.2 ⟨hy, by rw [e1, ← h1]; exact hne⟩, e1, e2⟩
  · rintro ⟨x, hx, h1, h2⟩
    obtain ⟨hx, hne⟩ := mem_without.1 hx
    obtain ⟨y, hy, e1, e2⟩ := (h.same k' b).2 ⟨x, hx, h1, h2⟩
    exact ⟨y, mem_del.2 ⟨hy, by rw [e1, ← h1]; exact hne⟩, e1, e2⟩

/-- The same name has the same bytes in both, or is in none. -/
theorem Alike.get {T L : List Tri} (h : Alike T L) (k : List UInt8) : (get T k = none ∧ get L k = none) ∨ ∃ t u, get T k = some t ∧ get L k = some u ∧ t.b = u.b := by
  cases hg : Go.Proofs.Ythnneejkbobbcaa.get T k with
  | none =>
    refine Or.inl ⟨rfl, ?_⟩
    cases hl : Go.Proofs.Ythnneejkbobbcaa.get L k with
    | none => rfl
    | some u =>
      obtain ⟨hu, huk⟩ := get_mem hl
      obtain ⟨x, hx, e1, _⟩ := (h.same k u.b).2 ⟨u, hu, huk, rfl⟩
      have := get_of_mem h.apart hx
      rw [e1, hg] at this
      cases this
  | some t =>
    obtain ⟨ht, htk⟩ := get_mem hg
    obtain ⟨y, hy, e1, e2⟩ := (h.same k t.b).1 ⟨t, ht, htk, rfl⟩
    have := get_of_mem (rising_apart h.rising) hy
    rw [e1] at this
    exact Or.inr ⟨t, y, rfl, this, e2.symm⟩

theorem Alike.perm {T L : List Tri} (h : Alike T L) : (T.map fun t => (t.k, t.b)).Perm (L.map fun t => (t.k, t.b)) := by
  have nd : ∀ {Q : List Tri}, Apart Q → (Q.map fun t => (t.k, t.b)).Nodup := fun {Q} hQ => by
    refine List.pairwise_map.2 (hQ.imp (fun {a b} hne e => hne ?_))
    exact (Prod.mk.inj e).1
  refine (List.perm_ext_iff_of_nodup (nd h.apart) (nd (rising_apart h.rising))).2 (fun x => ?_)
  obtain ⟨k, b⟩ := x
  simp only [List.mem_map, Prod.mk.injEq]
  exact h.same k b

theorem Alike.length {T L : List Tri} (h : Alike T L) : T.length = L.length := by
  have := h.perm.length_eq
  simpa using this

theorem Alike.used {T L : List Tri} (h : Alike T L) : used T = used L := by
  have := (h.perm.map (fun x => x.2.length)).sum_nat
  rw [List.map_map, List.map_map] at this
  exact this

theorem Alike.sorted {T L : List Tri} (h : Alike T L) : sortedFiles T = kb L := by
  have hk : sortedNames T = L.map (fun t => t.k) := by
    unfold sortedNames
    refine List.Perm.eq_of_pairwise (le := fun a b => a ≤ b) (fun a b _ _ h1 h2 => List.le_antisymm h1 h2) ?_ ?_ ((List.mergeSort_perm _ _).trans ?_)
    · have := List.pairwise_mergeSort (le := fun x y : List UInt8 => decide (x ≤ y)) (fun a b c h1 h2 => by simp at *; exact List.le_trans h1 h2) (fun a b => by simp; exact List.le_total a b) (T.map fun t => t.k)
      exact this.imp (fun {a b} h => by simpa using h)
    · exact List.pairwise_map.2 (h.rising.imp (fun {a b} h => List.le_of_lt h))
    · have := h.perm.map (fun x => x.1)
      rw [List.map_map, List.map_map] at this
      exact this
  unfold sortedFiles kb
  rw [hk, List.map_map]
  refine List.map_congr_left (fun t ht => ?_)
  show (t.k, bAt T t.k) = (t.k, t.b)
  rcases h.get t.k with ⟨_, h2⟩ | ⟨x, u, h1, h2, h3⟩
  · rw [get_of_mem (rising_apart h.rising) ht] at h2
    cases h2
  · rw [get_of_mem (rising_apart h.rising) ht] at h2
    cases h2
    unfold bAt
    rw [h1]
    simp only
    rw [h3]
end Go.Proofs.Ythnneejkbobbcaa
