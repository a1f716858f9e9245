/-
  What is proved here: plain lemmas on texts with slashes: their parts, parents, and which lies within which. No condition.
-/
import Derived.Test.YtlmgbcfcikdgpaaGreatDoorPBase
namespace Go.Proofs.YtlmgbcfcikdgpaaGreatDoor.Path

abbrev Bs := List UInt8

def good (c : UInt8) : Bool := decide (c.toNat = 46) || decide (c.toNat = 95) || decide (c.toNat = 45) || (decide (97 ≤ c.toNat) && decide (c.toNat ≤ 122)) || (decide (48 ≤ c.toNat) && decide (c.toNat ≤ 57))

def goodPart (l : Bs) : Bool := decide (1 ≤ l.length) && decide (l.length ≤ 16) && !(decide (l = [46])) && !(decide (l = [46, 46])) && l.all good

def parts : Bs → List Bs
  | [] => [[]]
  | c :: r => if c = 47 then [] :: parts r else (match parts r with | [] => [[c]] | h :: t => (c :: h) :: t)

def right (p : Bs) : Bool := decide ((parts p).length ≤ 8) && (parts p).all goodPart

def opens : Bs → Bool
  | [] => true
  | c :: _ => decide (c = 47)

def within (p q : Bs) : Bool := q.isPrefixOf p && opens (p.drop q.length)

def apart (p q : Bs) : Bool := !within p q && !within q p

def parent : Bs → Option Bs
  | [] => none
  | c :: r => match parent r with | some a => some (c :: a) | none => if c = 47 then some [] else none

theorem parts_ne (p : Bs) : parts p ≠ [] := by
  cases p with
  | nil => simp [parts]
  | cons c r =>
    unfold parts
    split
    · simp
    · split <;> simp

theorem parts_cons {p : Bs} : ∃ h t, parts p = h :: t := by
  cases e : parts p with
  | nil => exact absurd e (parts_ne p)
  | cons h t => exact ⟨h, t, rfl⟩

theorem parts_slash (p : Bs) : parts (47 :: p) = [] :: parts p := by simp [parts]

theorem parts_other {c : UInt8} (hc : c ≠ 47) {p h : Bs} {t : List Bs} (e : parts p = h :: t) : parts (c :: p) = (c :: h) :: t := by
  rw [parts, if_neg hc, e]

theorem parts_one {p : Bs} (h : (47 : UInt8) ∉ p) : parts p = [p] := by
  induction p with
  | nil => rfl
  | cons c r ih =>
    simp only [List.mem_cons, not_or] at h
    exact parts_other (fun e => h.1 e.symm) (ih h.2)

theorem parts_join (p q : Bs) : parts (p ++ 47 :: q) = parts p ++ parts q := by
  induction p with
  | nil => simp [parts]
  | cons c r ih =>
    by_cases hc : c = 47
    · subst hc; simp [parts_slash, ih]
    · obtain ⟨h, t, e⟩ := parts_cons (p := r)
      rw [List.cons_append, parts_other hc e, parts_other (h := h) (t := t ++ parts q) hc (by rw [ih, e]; rfl)]
      rfl

theorem parts_length (p : Bs) : (parts p).length = p.count 47 + 1 := by
  induction p with
  | nil => rfl
  | cons c r ih =>
    by_cases hc : c = 47
    · subst hc; simp [parts_slash, ih]
    · obtain ⟨h, t, e⟩ := parts_cons (p := r)
      rw [parts_other hc e, List.count_cons_of_ne hc, ← ih, e]; rfl

/-- The last part is what ends the text. -/
theorem parts_snoc (p : Bs) (c : UInt8) (hc : c ≠ 47) : ∃ t l, parts (p ++ [c]) = t ++ [l ++ [c]] := by
  induction p with
  | nil => exact ⟨[], [], by rw [List.nil_append, parts_other hc (p := []) (h := []) (t := []) rfl]; rfl⟩
  | cons d r ih =>
    obtain ⟨t, l, e⟩ := ih
    by_cases hd : d = 47
    · subst hd
      exact ⟨[] :: t, l, by rw [List.cons_append, parts_slash, e]; rfl⟩
    · cases t with
      | nil => exact ⟨[], d :: l, by rw [List.cons_append, parts_other hd (p := r ++ [c]) (h := l ++ [c]) (t := []) (by simpa using e)]; rfl⟩
      | cons h t => exact ⟨(d :: h) :: t, l, by rw [List.cons_append, parts_other hd (p := r ++ [c]) (h := h) (t := t ++ [l ++ [c]]) (by simpa using e)]; rfl⟩

theorem right_iff (p : Bs) : right p = true ↔ (parts p).length ≤ 8 ∧ ∀ l ∈ parts p, goodPart l = true := by
  simp [right]

theorem goodPart_nil : goodPart [] = false := rfl

theorem goodPart_ends {l : Bs} {c : UInt8} (h : good c = false) : goodPart (l ++ [c]) = false := by
  simp [goodPart, h]

theorem right_join {p q : Bs} : right (p ++ 47 :: q) = true ↔ (parts p).length + (parts q).length ≤ 8 ∧ (∀ l ∈ parts p, goodPart l = true) ∧ (∀ l ∈ parts q, goodPart l = true) := by
  rw [right_iff, parts_join, List.length_append]
  simp only [List.mem_append]
  constructor
  · rintro ⟨h1, h2⟩; exact ⟨h1, fun l hl => h2 l (.inl hl), fun l hl => h2 l (.inr hl)⟩
  · rintro ⟨h1, h2, h3⟩; exact ⟨h1, fun l hl => hl.elim (h2 l) (h3 l)⟩

theorem not_right_end (p : Bs) : right (p ++ [47]) = false := by
  cases h : right (p ++ [47]) with
  | false => rfl
  | true =>
    have := (right_join (p := p) (q := [])).1 h
    exact absurd (this.2.2 [] (by simp [parts])) (by decide)

theorem not_right_head (p : Bs) : right (47 :: p) = false := by
  cases h : right (47 :: p) with
  | false => rfl
  | true => exact absurd ((right_iff _).1 h).2 (fun k => absurd (k [] (by simp [parts_slash])) (by decide))

theorem not_right_odd (p : Bs) {c : UInt8} (hc : c ≠ 47) (hg : good c = false) : right (p ++ [c]) = false := by
  cases h : right (p ++ [c]) with
  | false => rfl
  | true =>
    obtain ⟨t, l, e⟩ := parts_snoc p c hc
    have := ((right_iff _).1 h).2 (l ++ [c]) (by rw [e]; simp)
    rw [goodPart_ends hg] at this; cases this

/-- With a right part behind. -/
theorem right_part {p r : Bs} (hp : right p = true) (hr : (47 : UInt8) ∉ r) : right (p ++ 47 :: r) = (right r && decide (p.count 47 + 1 < 8)) := by
  have h1 := (right_iff p).1 hp
  rw [Bool.eq_iff_iff, right_join, Bool.and_eq_true, right_iff, parts_one hr, parts_length]
  simp only [List.length_singleton, List.mem_singleton, forall_eq, decide_eq_true_eq]
  constructor
  · rintro ⟨h2, _, h4⟩; exact ⟨⟨by omega, h4⟩, by omega⟩
  · rintro ⟨⟨_, h4⟩, h5⟩; exact ⟨by omega, h1.2, h4⟩

theorem parent_some {p a : Bs} (h : parent p = some a) : ∃ b, p = a ++ 47 :: b ∧ (47 : UInt8) ∉ b := by
  induction p generalizing a with
  | nil => cases h
  | cons c r ih =>
    unfold parent at h
    cases e : parent r with
    | some a' => rw [e] at h; cases h; obtain ⟨b, e1, e2⟩ := ih e; exact ⟨b, by rw [e1]; rfl, e2⟩
    | none =>
      rw [e] at h
      by_cases hc : c = 47
      · subst hc
        simp at h
        subst h
        refine ⟨r, rfl, fun hm => ?_⟩
        clear ih
        induction r with
        | nil => cases hm
        | cons d s ih2 =>
          unfold parent at e
          cases e2 : parent s with
          | some _ => rw [e2] at e; cases e
          | none =>
            rw [e2] at e
            by_cases hd : d = 47
            · simp [hd] at e
            · exact ih2 e2 (by simpa [Ne.symm hd] using hm)
      · simp [hc] at h

theorem parent_none {p : Bs} (h : (47 : UInt8) ∉ p) : parent p = none := by
  induction p with
  | nil => rfl
  | cons c r ih =>
    simp only [List.mem_cons, not_or] at h
    rw [parent, ih h.2]
    simp [Ne.symm h.1]

theorem parent_join (a : Bs) {b : Bs} (h : (47 : UInt8) ∉ b) : parent (a ++ 47 :: b) = some a := by
  induction a with
  | nil => rw [List.nil_append, parent, parent_none h]; simp
  | cons c r ih => rw [List.cons_append, parent, ih]

theorem within_iff (p q : Bs) : within p q = true ↔ p = q ∨ ∃ r, p = q ++ 47 :: r := by
  unfold within
  rw [Bool.and_eq_true, List.isPrefixOf_iff_prefix]
  constructor
  · rintro ⟨⟨r, rfl⟩, h⟩
    rw [List.drop_left] at h
    cases r with
    | nil => exact .inl (by simp)
    | cons c r =>
      simp [opens] at h
      subst h
      exact .inr ⟨r, rfl⟩
  · rintro (rfl | ⟨r, rfl⟩)
    · exact ⟨List.prefix_refl _, by simp [opens]⟩
    · exact ⟨List.prefix_append _ _, by rw [List.drop_left]; rfl⟩

theorem within_refl (p : Bs) : within p p = true := (within_iff _ _).2 (.inl rfl)

theorem within_trans {p q s : Bs} (h : within p q = true) (k : within q s = true) : within p s = true := by
  rw [within_iff] at *
  rcases h with rfl | ⟨r, rfl⟩
  · exact k
  · rcases k with rfl | ⟨t, rfl⟩
    · exact .inr ⟨r, rfl⟩
    · exact .inr ⟨t ++ 47 :: r, by simp⟩

theorem within_long {p q : Bs} (h : within p q = true) : p = q ∨ q.length < p.length := by
  rcases (within_iff _ _).1 h with rfl | ⟨r, rfl⟩
  · exact .inl rfl
  · exact .inr (by simp)

theorem within_both {p q : Bs} (h : within p q = true) (k : within q p = true) : p = q := by
  rcases within_long h with e | e
  · exact e
  · rcases within_long k with e' | e'
    · exact e'.symm
    · omega

theorem within_join (p r : Bs) : within (p ++ 47 :: r) p = true := (within_iff _ _).2 (.inr ⟨r, rfl⟩)

theorem not_within_join (p r : Bs) : within p (p ++ 47 :: r) = false := by
  cases h : within p (p ++ 47 :: r) with
  | false => rfl
  | true => rcases within_long h with e | e <;> simp at e; omega

theorem within_same (p a b : Bs) : within (p ++ 47 :: a) (p ++ 47 :: b) = within a b := by
  rw [Bool.eq_iff_iff, within_iff, within_iff]
  simp [List.append_assoc]

theorem right_parent {p a : Bs} (hp : right p = true) (h : parent p = some a) : right a = true ∧ within p a = true ∧ within a p = false := by
  obtain ⟨b, rfl, hb⟩ := parent_some h
  obtain ⟨h1, h2, _⟩ := right_join.1 hp
  exact ⟨(right_iff _).2 ⟨by omega, h2⟩, within_join _ _, not_within_join _ _⟩

theorem apart_comm (p q : Bs) : apart p q = apart q p := by simp [apart, Bool.and_comm]

theorem apart_self (p : Bs) : apart p p = false := by simp [apart, within_refl]

theorem apart_same (p a b : Bs) : apart (p ++ 47 :: a) (p ++ 47 :: b) = apart a b := by simp [apart, within_same]

def moved (p q t : Bs) : Bs := if within p q then t ++ p.drop q.length else []

theorem moved_join (q r t : Bs) : moved (q ++ 47 :: r) q t = t ++ 47 :: r := by
  rw [moved, if_pos (within_join _ _), List.drop_left]

theorem moved_self (q t : Bs) : moved q q t = t := by
  rw [moved, if_pos (within_refl _)]; simp

end Go.Proofs.YtlmgbcfcikdgpaaGreatDoor.Path
