/-
  What is proved here: when things are a tree, as plain data, told in two ways. No condition.
-/
import Derived.Test.YtdaogldmcbfmoaaGreatDoorMEnts
import Derived.Sort.Walk0
namespace Go.Proofs.YtdaogldmcbfmoaaGreatDoor
set_option maxRecDepth 100000

def bl (s : ByteArray) : List UInt8 := s.data.toList

/-- Has a thing what its kind may have? -/
def thing (x : En) : Bool := if x.kind = 1 then decide (x.lines = []) && decide (x.data.size = 0) else if x.kind = 2 then Lines.right (Lines.bs x.lines) && decide (x.data.size = 0) else if x.kind = 3 then decide (x.lines = []) else false

def rises (seen : List En) (x : En) : Bool := match seen.getLast? with
  | none => true
  | some y => decide (bl y.path < bl x.path)

def isDir (seen : List En) (p : List UInt8) : Bool := seen.any (fun y => decide (y.kind = 1) && decide (bl y.path = p))

def parentOk (seen : List En) (x : En) : Bool := match Path.parent (bl x.path) with
  | none => true
  | some p => isDir seen p

def okAt (seen : List En) (x : En) : Bool := Path.right (bl x.path) && rises seen x && thing x && parentOk seen x

def treeRight (L : List En) : Bool := decide (L.length ≤ 1024) && (List.range L.length).all (fun j => match L[j]? with
  | none => true
  | some x => okAt (L.take j) x)

theorem treeRight_iff (L : List En) : treeRight L = true ↔ L.length ≤ 1024 ∧ ∀ j (h : j < L.length), okAt (L.take j) L[j] = true := by
  unfold treeRight
  rw [Bool.and_eq_true, decide_eq_true_eq, List.all_eq_true]
  constructor
  · rintro ⟨h1, h2⟩
    refine ⟨h1, fun j h => ?_⟩
    have := h2 j (List.mem_range.2 h)
    rw [List.getElem?_eq_getElem h] at this
    exact this
  · rintro ⟨h1, h2⟩
    refine ⟨h1, fun j h => ?_⟩
    have hj := List.mem_range.1 h
    rw [List.getElem?_eq_getElem hj]
    exact h2 j hj

theorem treeRight_no {L : List En} {j : Nat} (h : j < L.length) (hn : okAt (L.take j) L[j] = false) : treeRight L = false := by
  cases e : treeRight L with
  | false => rfl
  | true =>
    have := ((treeRight_iff L).1 e).2 j h
    rw [hn] at this
    cases this

theorem treeRight_long {L : List En} (h : 1024 < L.length) : treeRight L = false := by
  unfold treeRight
  rw [decide_eq_false (by omega), Bool.false_and]

theorem isDir_snoc (seen : List En) (x : En) (p : List UInt8) : isDir (seen ++ [x]) p = (isDir seen p || (decide (x.kind = 1) && decide (bl x.path = p))) := by
  unfold isDir
  rw [List.any_append]
  simp

/-- The thing that lies at a path. -/
def findE (L : List En) (p : List UInt8) : Option En := L.find? (fun y => decide (bl y.path = p))

/-- The thing ahead has a lesser path. -/
def ahead (L : List En) (j : Nat) (x : En) : Bool := match j with
  | 0 => true
  | i + 1 => match L[i]? with
    | none => true
    | some y => decide (bl y.path < bl x.path)

/-- .. as the document asks. -/
def okD (L : List En) (j : Nat) (x : En) : Bool := Path.right (bl x.path) && ahead L j x && decide (1 ≤ x.kind) && decide (x.kind ≤ 3) && Lines.right (Lines.bs x.lines) && (decide (x.kind = 2) || decide (x.lines = [])) && (decide (x.kind = 3) || decide (x.data.size = 0)) && (match Path.parent (bl x.path) with
  | none => true
  | some p => match findE L p with
    | none => false
    | some d => decide (d.kind = 1))

theorem lines_right_nil : Lines.right (Lines.bs []) = true := rfl

theorem thing_iff (x : En) : thing x = true ↔ (1 ≤ x.kind ∧ x.kind ≤ 3) ∧ Lines.right (Lines.bs x.lines) = true ∧ (x.kind = 2 ∨ x.lines = []) ∧ (x.kind = 3 ∨ x.data.size = 0) := by
  unfold thing
  by_cases h1 : x.kind = 1
  · rw [if_pos h1]
    simp only [Bool.and_eq_true, decide_eq_true_eq]
    constructor
    · rintro ⟨a, b⟩
      exact ⟨by omega, by rw [a]; rfl, Or.inr a, Or.inr b⟩
    · rintro ⟨_, _, c, d⟩
      exact ⟨c.resolve_left (by omega), d.resolve_left (by omega)⟩
  · rw [if_neg h1]
    by_cases h2 : x.kind = 2
    · rw [if_pos h2]
      simp only [Bool.and_eq_true, decide_eq_true_eq]
      constructor
      · rintro ⟨a, b⟩
        exact ⟨by omega, a, Or.inl h2, Or.inr b⟩
      · rintro ⟨_, b, _, d⟩
        exact ⟨b, d.resolve_left (by omega)⟩
    · rw [if_neg h2]
      by_cases h3 : x.kind = 3
      · rw [if_pos h3]
        simp only [decide_eq_true_eq]
        constructor
        · intro a
          exact ⟨by omega, by rw [a]; rfl, Or.inr a, Or.inl h3⟩
        · rintro ⟨_, _, c, _⟩
          exact c.resolve_left h2
      · rw [if_neg h3]
        constructor
        · intro h; cases h
        · rintro ⟨a, _⟩; omega

theorem getLast_take {L : List En} {j : Nat} (h : j < L.length) : (L.take j).getLast? = match j with
  | 0 => none
  | i + 1 => L[i]? := by
  cases j with
  | zero => simp
  | succ i =>
    rw [List.getLast?_eq_getElem?, List.length_take]
    have : min (i + 1) L.length - 1 = i := by omega
    rw [this, List.getElem?_take, if_pos (by omega)]

theorem rises_eq {L : List En} {j : Nat} (h : j < L.length) (x : En) : rises (L.take j) x = ahead L j x := by
  unfold rises ahead
  rw [getLast_take h]
  cases j <;> rfl

/-- Paths that rise, rise throughout. -/
theorem rising {L : List En} (h : ∀ j (hj : j < L.length), rises (L.take j) L[j] = true) : ∀ i j (hi : i < L.length) (hj : j < L.length), i < j → bl L[i].path < bl L[j].path := by
  intro i j hi hj hij
  induction j with
  | zero => omega
  | succ j ih =>
    have h1 := h (j + 1) hj
    rw [rises_eq hj] at h1
    simp only [ahead, List.getElem?_eq_getElem (show j < L.length by omega), decide_eq_true_eq] at h1
    rcases Nat.lt_or_ge i j with h2 | h2
    · exact List.lt_trans (ih (by omega) h2) h1
    · have e : i = j := by omega
      subst e
      exact h1

theorem parent_less {p a : List UInt8} (h : Path.parent p = some a) : a < p := by
  obtain ⟨b, rfl, _⟩ := Path.parent_some h
  clear h
  induction a with
  | nil => exact List.nil_lt_cons _ _
  | cons c a ih => exact List.cons_lt_cons_self.2 ih

theorem okD_of_okAt {L : List En} (h : ∀ j (hj : j < L.length), okAt (L.take j) L[j] = true) (j : Nat) (hj : j < L.length) : okD L j L[j] = true := by
  have hr : ∀ j (hj : j < L.length), rises (L.take j) L[j] = true := fun j hj => by
    have := h j hj
    unfold okAt at this
    simp only [Bool.and_eq_true] at this
    exact this.1.1.2
  have hris := rising hr
  have h1 := h j hj
  unfold okAt at h1
  simp only [Bool.and_eq_true] at h1
  obtain ⟨⟨⟨a1, a2⟩, a3⟩, a4⟩ := h1
  unfold parentOk at a4
  rw [rises_eq hj] at a2
  obtain ⟨⟨b1, b2⟩, b3, b4, b5⟩ := (thing_iff _).1 a3
  unfold okD
  simp only [Bool.and_eq_true, Bool.or_eq_true, decide_eq_true_eq]
  refine ⟨⟨⟨⟨⟨⟨⟨a1, a2⟩, b1⟩, b2⟩, b3⟩, b4⟩, b5⟩, ?_⟩
  cases hp : Path.parent (bl L[j].path) with
  | none => rfl
  | some p =>
    rw [hp] at a4
    simp only at a4 ⊢
    unfold isDir at a4
    rw [List.any_eq_true] at a4
    obtain ⟨y, hy, hk⟩ := a4
    simp only [Bool.and_eq_true, decide_eq_true_eq] at hk
    have hyL : y ∈ L := List.mem_of_mem_take hy
    obtain ⟨i, hi, rfl⟩ := List.getElem_of_mem hyL
    cases hf : findE L p with
    | none =>
      unfold findE at hf
      rw [List.find?_eq_none] at hf
      exact absurd hk.2 (by simpa using hf _ hyL)
    | some d =>
      unfold findE at hf
      have hd1 := List.find?_some hf
      have hd2 := List.mem_of_find?_eq_some hf
      simp only [decide_eq_true_eq] at hd1
      obtain ⟨i', hi', rfl⟩ := List.getElem_of_mem hd2
      have e : i' = i := by
        rcases Nat.lt_trichotomy i i' with h2 | h2 | h2
        · have := hris i i' hi hi' h2
          rw [hk.2, hd1] at this
          exact absurd this (List.lt_irrefl _)
        · exact h2.symm
        · have := hris i' i hi' hi h2
          rw [hk.2, hd1] at this
          exact absurd this (List.lt_irrefl _)
      subst e
      simpa using hk.1

theorem okAt_of_okD {L : List En} (h : ∀ j (hj : j < L.length), okD L j L[j] = true) (j : Nat) (hj : j < L.length) : okAt (L.take j) L[j] = true := by
  have hr : ∀ j (hj : j < L.length), rises (L.take j) L[j] = true := fun j hj => by
    have := h j hj
    unfold okD at this
    simp only [Bool.and_eq_true] at this
    rw [rises_eq hj]
    exact this.1.1.1.1.1.1.2
  have hris := rising hr
  have h1 := h j hj
  unfold okD at h1
  simp only [Bool.and_eq_true, Bool.or_eq_true, decide_eq_true_eq] at h1
  obtain ⟨⟨⟨⟨⟨⟨⟨a1, a2⟩, b1⟩, b2⟩, b3⟩, b4⟩, b5⟩, a4⟩ := h1
  unfold okAt
  simp only [Bool.and_eq_true]
  refine ⟨⟨⟨a1, hr j hj⟩, (thing_iff _).2 ⟨⟨b1, b2⟩, b3, b4, b5⟩⟩, ?_⟩
  unfold parentOk
  cases hp : Path.parent (bl L[j].path) with
  | none => rfl
  | some p =>
    rw [hp] at a4
    simp only at a4 ⊢
    cases hf : findE L p with
    | none => rw [hf] at a4; cases a4
    | some d =>
      rw [hf] at a4
      simp only [decide_eq_true_eq] at a4
      unfold findE at hf
      have hd1 := List.find?_some hf
      have hd2 := List.mem_of_find?_eq_some hf
      simp only [decide_eq_true_eq] at hd1
      obtain ⟨i, hi, rfl⟩ := List.getElem_of_mem hd2
      have hlt := parent_less hp
      have hij : i < j := by
        rcases Nat.lt_trichotomy i j with h2 | h2 | h2
        · exact h2
        · subst h2
          rw [hd1] at hlt
          exact absurd hlt (List.lt_irrefl _)
        · have := hris j i hj hi h2
          rw [hd1] at this
          exact absurd (List.lt_trans hlt this) (List.lt_irrefl _)
      unfold isDir
      rw [List.any_eq_true]
      refine ⟨L[i], ?_, by simp [a4, hd1]⟩
      rw [List.mem_take_iff_getElem]
      exact ⟨i, by omega, rfl⟩

/-- Both ways tell the same. -/
theorem treeRight_D (L : List En) : treeRight L = true ↔ L.length ≤ 1024 ∧ ∀ j (h : j < L.length), okD L j L[j] = true := by
  rw [treeRight_iff]
  exact and_congr_right fun _ => ⟨fun h j hj => okD_of_okAt h j hj, fun h j hj => okAt_of_okD h j hj⟩

theorem treeRight_noD {L : List En} {j : Nat} (h : j < L.length) (hn : okD L j L[j] = false) : treeRight L = false := by
  cases e : treeRight L with
  | false => rfl
  | true =>
    have := ((treeRight_D L).1 e).2 j h
    rw [hn] at this
    cases this

end Go.Proofs.YtdaogldmcbfmoaaGreatDoor
