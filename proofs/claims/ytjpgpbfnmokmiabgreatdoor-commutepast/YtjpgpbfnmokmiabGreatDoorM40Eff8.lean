/-
  What is proved here: the contracts that the statement stands on: Eff8, CommT8, CommM8, CommW8, CTreeP8, Box10, Laws10. Conditions: as each theorem names them.
-/
import Derived.Test.YtjpgpbfnmokmiabGreatDoorM9Box9
import Derived.Test.YtjpgpbfnmokmiabGreatDoorM17Has8
import Derived.Test.YtjpgpbfnmokmiabGreatDoorMLaws8
namespace Go.Proofs.YtjpgpbfnmokmiabGreatDoor
open Go.RowKit
set_option maxRecDepth 100000

abbrev Fm := List UInt8 → Option En

/-- Where something was, once all of A lies at B. -/
def backM (A B s : List UInt8) : List UInt8 := A ++ s.drop B.length

def okF (p : Pr) (f : Fm) : Prop :=
  if p.kind = 1 ∨ p.kind = 3 ∨ p.kind = 5 then f (bl p.path) = none ∧ ∀ q, Path.parent (bl p.path) = some q → ∃ d, f q = some d ∧ d.kind = 1
  else if p.kind = 2 ∨ p.kind = 4 ∨ p.kind = 6 then (∃ x, f (bl p.path) = some x ∧ x.kind = p.kind / 2 ∧ x.lines = [] ∧ x.data = ⟨#[]⟩) ∧ ∀ s, Path.within s (bl p.path) = true → s ≠ bl p.path → f s = none
  else if p.kind = 10 then f (bl p.path) ≠ none ∧ (f (bl p.dst) = none ∧ ∀ q, Path.parent (bl p.dst) = some q → ∃ d, f q = some d ∧ d.kind = 1) ∧ ∀ s, Path.within s (bl p.path) = true → f s ≠ none → Path.right (Path.moved s (bl p.path) (bl p.dst)) = true
  else ∃ x y, f (bl p.path) = some x ∧ x.kind = (if p.kind = 9 then 3 else 2) ∧ withE x p = some y

def effF (p : Pr) (f : Fm) : Fm := fun s =>
  if p.kind = 1 ∨ p.kind = 3 ∨ p.kind = 5 then (if s = bl p.path then some ⟨p.path, (p.kind + 1) / 2, [], ⟨#[]⟩⟩ else f s)
  else if p.kind = 2 ∨ p.kind = 4 ∨ p.kind = 6 then (if s = bl p.path then none else f s)
  else if p.kind = 10 then (if Path.within s (bl p.dst) then (f (backM (bl p.path) (bl p.dst) s)).map (mvE (bl p.path) (bl p.dst)) else if Path.within s (bl p.path) then none else f s)
  else (if s = bl p.path then (f s).bind (fun x => withE x p) else f s)

/-- Does a patch want room? -/
def wants (p : Pr) : Prop := p.kind = 1 ∨ p.kind = 3 ∨ p.kind = 5

theorem find_path {L : List En} {s : List UInt8} {x : En} (h : findE L s = some x) : bl x.path = s := (find_some h).2

theorem find_mem {L : List En} (h : Strict L) {s : List UInt8} {x : En} : findE L s = some x ↔ x ∈ L ∧ bl x.path = s :=
  ⟨fun e => find_some e, fun e => find_is h e.1 e.2⟩

/-- Rows that rise and have the same at each path are the same. -/
theorem find_ext {A B : List En} (hA : Strict A) (hB : Strict B) (h : ∀ s, findE A s = findE B s) : A = B :=
  strict_ext hA hB (fun x => by
    have h1 := find_mem hA (s := bl x.path) (x := x)
    have h2 := find_mem hB (s := bl x.path) (x := x)
    rw [h] at h1
    constructor
    · intro hx; exact (h2.1 (h1.2 ⟨hx, rfl⟩)).1
    · intro hx; exact (h1.1 (h2.2 ⟨hx, rfl⟩)).1)

theorem opt_ext {a b : Option En} (h : ∀ x, a = some x ↔ b = some x) : a = b := by
  cases a with
  | none =>
    cases b with
    | none => rfl
    | some y => exact (((h y).2 rfl).symm ▸ rfl)
  | some x => exact ((h x).1 rfl).symm

theorem find_put {L : List En} (h : Strict L) (x : En) (s : List UInt8) : findE (putE L x) s = if s = bl x.path then some x else findE L s := by
  refine opt_ext (fun y => ?_)
  rw [find_mem (strict_putE h x), mem_putE]
  by_cases e : s = bl x.path
  · rw [if_pos e]
    constructor
    · rintro ⟨(rfl | ⟨_, hn⟩), hp⟩
      · rfl
      · exact absurd (hp.trans e) hn
    · intro hy; cases hy; exact ⟨Or.inl rfl, e.symm⟩
  · rw [if_neg e, find_mem h]
    constructor
    · rintro ⟨(rfl | ⟨a, _⟩), hp⟩
      · exact absurd hp.symm e
      · exact ⟨a, hp⟩
    · rintro ⟨a, hp⟩; exact ⟨Or.inr ⟨a, fun e2 => e (hp.symm.trans e2)⟩, hp⟩

theorem find_del {L : List En} (h : Strict L) (p s : List UInt8) : findE (delE L p) s = if s = p then none else findE L s := by
  refine opt_ext (fun y => ?_)
  rw [find_mem (strict_delE h p), mem_delE]
  by_cases e : s = p
  · rw [if_pos e]
    constructor
    · rintro ⟨⟨_, hn⟩, hp⟩; exact absurd (hp.trans e) hn
    · intro hy; cases hy
  · rw [if_neg e, find_mem h]
    constructor
    · rintro ⟨⟨a, _⟩, hp⟩; exact ⟨a, hp⟩
    · rintro ⟨a, hp⟩; exact ⟨⟨a, fun e2 => e (hp.symm.trans e2)⟩, hp⟩

theorem back_in {A B r : List UInt8} : backM A B (B ++ r) = A ++ r := by
  unfold backM; rw [List.drop_left]

theorem within_app {s B : List UInt8} (h : Path.within s B = true) : ∃ r, s = B ++ r ∧ (r = [] ∨ ∃ t, r = 47 :: t) := by
  rcases (Path.within_iff _ _).1 h with e | ⟨r, e⟩
  · exact ⟨[], by simpa using e, Or.inl rfl⟩
  · exact ⟨47 :: r, e, Or.inr ⟨r, rfl⟩⟩

theorem within_of {A r : List UInt8} (h : r = [] ∨ ∃ t, r = 47 :: t) : Path.within (A ++ r) A = true := by
  rcases h with rfl | ⟨t, rfl⟩
  · rw [List.append_nil]; exact Path.within_refl _
  · exact Path.within_join _ _

theorem back_within {A B s : List UInt8} (h : Path.within s B = true) : Path.within (backM A B s) A = true := by
  obtain ⟨r, rfl, hr⟩ := within_app h
  rw [back_in]
  exact within_of hr

theorem mv_at {A B s : List UInt8} {x : En} (h : Path.within s B = true) (e : bl x.path = backM A B s) : bl (mvE A B x).path = s := by
  obtain ⟨r, rfl, hr⟩ := within_app h
  rw [back_in] at e
  exact mv_path e (by rw [e]; exact within_of hr)

theorem back_mv {A B : List UInt8} {x : En} (h : Path.within (bl x.path) A = true) : backM A B (bl (mvE A B x).path) = bl x.path := by
  obtain ⟨r, e, _⟩ := in_path h
  rw [mv_path e h, back_in, e]

theorem TreeR.find_move {L : List En} (h : TreeR L) {A B : List UInt8} (hB : findE L B = none) (s : List UInt8) : findE (moveL L (inE L A) A B) s = if Path.within s B then (findE L (backM A B s)).map (mvE A B) else if Path.within s A then none else findE L s := by
  refine opt_ext (fun y => ?_)
  rw [find_mem (strict_moveL h.strict _ _ _), h.mem_move hB]
  cases hw : Path.within s B with
  | true =>
    rw [if_pos rfl]
    constructor
    · rintro ⟨⟨x, hx, hxw, rfl⟩ | ⟨hy, hn⟩, hp⟩
      · rw [← hp, back_mv hxw, find_of_mem h.strict hx]; rfl
      · have := h.none_in hB y hy
        rw [hp, hw] at this; cases this
    · intro e
      obtain ⟨x, hx, rfl⟩ := Option.map_eq_some_iff.1 e
      obtain ⟨h1, h2⟩ := find_some hx
      exact ⟨Or.inl ⟨x, h1, by rw [h2]; exact back_within hw, rfl⟩, mv_at hw h2⟩
  | false =>
    rw [if_neg (by simp)]
    cases hwa : Path.within s A with
    | true =>
      rw [if_pos rfl]
      constructor
      · rintro ⟨⟨x, hx, hxw, rfl⟩ | ⟨hy, hn⟩, hp⟩
        · have := mv_in (q := B) hxw
          rw [hp, hw] at this; cases this
        · rw [hp, hwa] at hn; cases hn
      · intro e; cases e
    | false =>
      rw [if_neg (by simp), find_mem h.strict]
      constructor
      · rintro ⟨⟨x, hx, hxw, rfl⟩ | ⟨hy, hn⟩, hp⟩
        · have := mv_in (q := B) hxw
          rw [hp, hw] at this; cases this
        · exact ⟨hy, hp⟩
      · rintro ⟨hy, hp⟩; exact ⟨Or.inr ⟨hy, by rw [hp]; exact hwa⟩, hp⟩

theorem TreeR.in_only {L : List En} (h : TreeR L) {p : List UInt8} {x : En} (hx : findE L p = some x) : (inE L p).length = 1 ↔ ∀ s, Path.within s p = true → s ≠ p → findE L s = none := by
  obtain ⟨h1, h2⟩ := find_some hx
  have hm : x ∈ inE L p := mem_inE.2 ⟨h1, by rw [h2]; exact Path.within_refl _⟩
  constructor
  · intro hl s hs hne
    refine find_no (fun y hy e => ?_)
    have := in_one hl hm (mem_inE.2 ⟨hy, by rw [e]; exact hs⟩)
    exact hne (by rw [← e, ← this, h2])
  · intro hn
    have : inE L p = [x] := strict_ext (List.Pairwise.filter _ h.strict) (List.pairwise_singleton ..) (fun y => by
      rw [List.mem_singleton]
      constructor
      · intro hy
        obtain ⟨y1, y2⟩ := mem_inE.1 hy
        by_cases e : bl y.path = p
        · exact strict_inj h.strict y1 h1 (e.trans h2.symm)
        · have := hn _ y2 e
          rw [find_of_mem h.strict y1] at this; cases this
      · rintro rfl; exact hm)
    rw [this]; rfl

theorem moved_mv {A B : List UInt8} (x : En) : bl (mvE A B x).path = Path.moved (bl x.path) A B := rfl

/-- What a right patch does, told by what lies at each path. -/
theorem TreeR.told {L M : List En} (h : TreeR L) {p : Pr} (hr : rightP p = true) : actE L p = (M, 0) ↔ okF p (findE L) ∧ (wants p → L.length < 1024) ∧ Strict M ∧ ∀ s, findE M s = effF p (findE L) s := by
  obtain ⟨hk, hp, hrule⟩ := rule_of hr
  unfold okF effF wants
  by_cases k1 : p.kind = 1 ∨ p.kind = 3 ∨ p.kind = 5
  · simp only [if_pos k1]
    rw [act_add k1, freeE_zero]
    constructor
    · rintro ⟨h1, h2, rfl⟩
      exact ⟨h1, fun _ => h2, strict_putE h.strict _, fun s => find_put h.strict _ s⟩
    · rintro ⟨h1, h2, h3, h4⟩
      exact ⟨h1, h2 k1, find_ext h3 (strict_putE h.strict _) (fun s => (h4 s).trans (find_put h.strict ⟨p.path, (p.kind + 1) / 2, [], ⟨#[]⟩⟩ s).symm)⟩
  · simp only [if_neg k1]
    by_cases k2 : p.kind = 2 ∨ p.kind = 4 ∨ p.kind = 6
    · simp only [if_pos k2]
      rw [act_rm k2]
      constructor
      · rintro ⟨x, hx, a, b, c, d, rfl⟩
        exact ⟨⟨⟨x, hx, a, b, c⟩, (h.in_only hx).1 d⟩, fun e => absurd e k1, strict_delE h.strict _, fun s => find_del h.strict _ s⟩
      · rintro ⟨⟨⟨x, hx, a, b, c⟩, d⟩, _, h3, h4⟩
        exact ⟨x, hx, a, b, c, (h.in_only hx).2 d, find_ext h3 (strict_delE h.strict _) (fun s => (h4 s).trans (find_del h.strict _ s).symm)⟩
    · simp only [if_neg k2]
      by_cases k3 : p.kind = 10
      · simp only [if_pos k3]
        rw [act_move k3, freeE_zero]
        have hall : (inE L (bl p.path)).all (fun x => Path.right (bl (mvE (bl p.path) (bl p.dst) x).path)) = true ↔ ∀ s, Path.within s (bl p.path) = true → findE L s ≠ none → Path.right (Path.moved s (bl p.path) (bl p.dst)) = true := by
          rw [List.all_eq_true]
          constructor
          · intro ha s hs hn
            obtain ⟨x, hx⟩ := Option.ne_none_iff_exists'.1 hn
            obtain ⟨x1, x2⟩ := find_some hx
            have := ha x (mem_inE.2 ⟨x1, by rw [x2]; exact hs⟩)
            rw [moved_mv, x2] at this
            exact this
          · intro ha x hx
            obtain ⟨x1, x2⟩ := mem_inE.1 hx
            rw [moved_mv]
            exact ha _ x2 (by rw [find_of_mem h.strict x1]; simp)
        rw [hall]
        constructor
        · rintro ⟨a, b, c, rfl⟩
          exact ⟨⟨a, b, c⟩, fun e => absurd e k1, strict_moveL h.strict _ _ _, fun s => h.find_move b.1 s⟩
        · rintro ⟨⟨a, b, c⟩, _, h3, h4⟩
          exact ⟨a, b, c, find_ext h3 (strict_moveL h.strict _ _ _) (fun s => (h4 s).trans (h.find_move b.1 s).symm)⟩
      · simp only [if_neg k3]
        have k4 : p.kind = 7 ∨ p.kind = 8 ∨ p.kind = 9 := by omega
        rw [act_change k4]
        have key : ∀ x y, findE L (bl p.path) = some x → withE x p = some y → ∀ s, findE (putE L y) s = if s = bl p.path then (findE L s).bind (fun x => withE x p) else findE L s := fun x y hx hw s => by
          rw [find_put h.strict, (with_facts hw).1, find_path hx]
          by_cases e : s = bl p.path
          · rw [if_pos e, if_pos e, e, hx]; exact hw.symm
          · rw [if_neg e, if_neg e]
        constructor
        · rintro ⟨x, y, hx, a, hw, rfl⟩
          exact ⟨⟨x, y, hx, a, hw⟩, fun e => absurd e k1, strict_putE h.strict _, key x y hx hw⟩
        · rintro ⟨⟨x, y, hx, a, hw⟩, _, h3, h4⟩
          exact ⟨x, y, hx, a, hw, find_ext h3 (strict_putE h.strict _) (fun s => (h4 s).trans (key x y hx hw s).symm)⟩

end Go.Proofs.YtjpgpbfnmokmiabGreatDoor

namespace Go.Proofs.YtjpgpbfnmokmiabGreatDoor
open Go.RowKit
set_option maxRecDepth 100000

/-- What a patch asks, and what it turns. -/
def depF (p : Pr) (s : List UInt8) : Prop :=
  if p.kind = 1 ∨ p.kind = 3 ∨ p.kind = 5 then s = bl p.path ∨ Path.parent (bl p.path) = some s
  else if p.kind = 2 ∨ p.kind = 4 ∨ p.kind = 6 then Path.within s (bl p.path) = true
  else if p.kind = 10 then s = bl p.dst ∨ Path.parent (bl p.dst) = some s ∨ Path.within s (bl p.path) = true
  else s = bl p.path

def modF (p : Pr) (s : List UInt8) : Prop := if p.kind = 10 then Path.within s (bl p.path) = true ∨ Path.within s (bl p.dst) = true else s = bl p.path

theorem okF_congr {p : Pr} {f g : Fm} (h : ∀ s, depF p s → f s = g s) (ho : okF p f) : okF p g := by
  unfold okF at *
  unfold depF at h
  by_cases k1 : p.kind = 1 ∨ p.kind = 3 ∨ p.kind = 5
  · simp only [if_pos k1] at h ho ⊢
    refine ⟨by rw [← h _ (Or.inl rfl)]; exact ho.1, fun q hq => ?_⟩
    rw [← h q (Or.inr hq)]; exact ho.2 q hq
  · simp only [if_neg k1] at h ho ⊢
    by_cases k2 : p.kind = 2 ∨ p.kind = 4 ∨ p.kind = 6
    · simp only [if_pos k2] at h ho ⊢
      refine ⟨by rw [← h _ (Path.within_refl _)]; exact ho.1, fun s hs hn => ?_⟩
      rw [← h s hs]; exact ho.2 s hs hn
    · simp only [if_neg k2] at h ho ⊢
      by_cases k3 : p.kind = 10
      · simp only [if_pos k3] at h ho ⊢
        refine ⟨by rw [← h _ (Or.inr (Or.inr (Path.within_refl _)))]; exact ho.1, ⟨by rw [← h _ (Or.inl rfl)]; exact ho.2.1.1, fun q hq => ?_⟩, fun s hs hn => ?_⟩
        · rw [← h q (Or.inr (Or.inl hq))]; exact ho.2.1.2 q hq
        · rw [← h s (Or.inr (Or.inr hs))] at hn; exact ho.2.2 s hs hn
      · simp only [if_neg k3] at h ho ⊢
        rw [← h _ rfl]; exact ho

theorem effF_off {p : Pr} {f : Fm} {s : List UInt8} (h : ¬ modF p s) : effF p f s = f s := by
  unfold modF at h
  unfold effF
  by_cases k3 : p.kind = 10
  · rw [if_pos k3] at h
    rw [if_neg (by omega), if_neg (by omega), if_pos k3, if_neg (fun e => h (Or.inr e)), if_neg (fun e => h (Or.inl e))]
  · rw [if_neg k3] at h
    simp only [if_neg h, if_neg k3, ite_self]

theorem effF_on {p : Pr} {f g : Fm} {s : List UInt8} (hm : modF p s) (h : ∀ t, depF p t → f t = g t) : effF p f s = effF p g s := by
  unfold modF at hm
  unfold depF at h
  unfold effF
  by_cases k1 : p.kind = 1 ∨ p.kind = 3 ∨ p.kind = 5
  · rw [if_neg (by omega)] at hm
    simp only [if_pos k1, if_pos hm]
  · simp only [if_neg k1] at h ⊢
    by_cases k2 : p.kind = 2 ∨ p.kind = 4 ∨ p.kind = 6
    · rw [if_neg (by omega)] at hm
      simp only [if_pos k2, if_pos hm]
    · simp only [if_neg k2] at h ⊢
      by_cases k3 : p.kind = 10
      · simp only [if_pos k3] at h hm ⊢
        by_cases hw : Path.within s (bl p.dst) = true
        · rw [if_pos hw, if_pos hw, h _ (Or.inr (Or.inr (back_within hw)))]
        · have hm' := hm.resolve_right hw
          rw [if_neg hw, if_neg hw, if_pos hm', if_pos hm']
      · simp only [if_neg k3] at h hm ⊢
        rw [if_pos hm, if_pos hm, h s hm]

/-- Patches none of which asks or turns what the other one turns. -/
theorem comm_gen {p q : Pr} {f : Fm} (h1 : ∀ s, depF q s → ¬ modF p s) (h2 : ∀ s, depF p s → ¬ modF q s) (h3 : ∀ s, modF p s → ¬ modF q s) (op : okF p f) (oq : okF q (effF p f)) : okF q f ∧ okF p (effF q f) ∧ ∀ s, effF p (effF q f) s = effF q (effF p f) s := by
  refine ⟨okF_congr (fun s hs => effF_off (h1 s hs)) oq, okF_congr (fun s hs => (effF_off (h2 s hs)).symm) op, fun s => ?_⟩
  by_cases m1 : modF p s
  · rw [effF_off (h3 s m1)]
    exact effF_on m1 (fun t ht => effF_off (h2 t ht))
  · rw [effF_off m1]
    by_cases m2 : modF q s
    · exact (effF_on m2 (fun t ht => effF_off (h1 t ht))).symm
    · rw [effF_off m2, effF_off m2, effF_off m1]

theorem within_common {s P A : List UInt8} (h : Path.within s P = true) (k : Path.within s A = true) : Path.within P A = true ∨ Path.within A P = true := by
  obtain ⟨r, e1, hr⟩ := within_app h
  obtain ⟨t, e2, ht⟩ := within_app k
  rw [e1] at e2
  rcases List.append_eq_append_iff.1 e2 with ⟨u, ea, eb⟩ | ⟨u, ea, eb⟩
  · right
    rw [ea]
    refine within_of ?_
    rcases hr with rfl | ⟨z, rfl⟩
    · exact Or.inl (List.append_eq_nil_iff.1 eb.symm).1
    · cases u with
      | nil => exact Or.inl rfl
      | cons c u => rw [List.cons_append] at eb; cases eb; exact Or.inr ⟨u, rfl⟩
  · left
    rw [ea]
    refine within_of ?_
    rcases ht with rfl | ⟨z, rfl⟩
    · exact Or.inl (List.append_eq_nil_iff.1 eb.symm).1
    · cases u with
      | nil => exact Or.inl rfl
      | cons c u => rw [List.cons_append] at eb; cases eb; exact Or.inr ⟨u, rfl⟩

theorem apart_no {P A : List UInt8} (h : Path.apart P A = true) : Path.within P A = false ∧ Path.within A P = false := by
  unfold Path.apart at h
  simp only [Bool.and_eq_true, Bool.not_eq_true'] at h
  exact h

/-- Apart: nothing is within both, nor is one within the other's parent's .. -/
theorem apart_both {s P A : List UInt8} (h : Path.apart P A = true) (a : Path.within s P = true) (b : Path.within s A = true) : False := by
  obtain ⟨h1, h2⟩ := apart_no h
  rcases within_common a b with e | e
  · rw [h1] at e; cases e
  · rw [h2] at e; cases e

theorem parent_in {P s : List UInt8} (h : Path.parent P = some s) : Path.within P s = true := by
  obtain ⟨b, e, _⟩ := Path.parent_some h
  rw [e]; exact Path.within_join _ _

/-- The parent of one is within none that is apart from it. -/
theorem apart_parent {P A s : List UInt8} (h : Path.apart P A = true) (e : Path.parent P = some s) (b : Path.within s A = true) : False := by
  obtain ⟨h1, _⟩ := apart_no h
  rw [Path.within_trans (parent_in e) b] at h1
  cases h1

theorem places_mod {p : Pr} {s : List UInt8} (h : modF p s) : ∃ a ∈ placesP p, Path.within s (bl a) = true := by
  unfold modF at h
  unfold placesP
  by_cases k3 : p.kind = 10
  · rw [if_pos k3] at h ⊢
    rcases h with h | h
    · exact ⟨p.path, by simp, h⟩
    · exact ⟨p.dst, by simp, h⟩
  · rw [if_neg k3] at h ⊢
    exact ⟨p.path, by simp, by rw [h]; exact Path.within_refl _⟩

theorem places_dep {p : Pr} {s : List UInt8} (h : depF p s) : ∃ a ∈ placesP p, Path.within s (bl a) = true ∨ Path.parent (bl a) = some s := by
  unfold depF at h
  unfold placesP
  by_cases k1 : p.kind = 1 ∨ p.kind = 3 ∨ p.kind = 5
  · rw [if_pos k1] at h
    rw [if_neg (by omega)]
    rcases h with rfl | h
    · exact ⟨p.path, by simp, Or.inl (Path.within_refl _)⟩
    · exact ⟨p.path, by simp, Or.inr h⟩
  · rw [if_neg k1] at h
    by_cases k2 : p.kind = 2 ∨ p.kind = 4 ∨ p.kind = 6
    · rw [if_pos k2] at h
      rw [if_neg (by omega)]
      exact ⟨p.path, by simp, Or.inl h⟩
    · rw [if_neg k2] at h
      by_cases k3 : p.kind = 10
      · rw [if_pos k3] at h ⊢
        rcases h with rfl | h | h
        · exact ⟨p.dst, by simp, Or.inl (Path.within_refl _)⟩
        · exact ⟨p.dst, by simp, Or.inr h⟩
        · exact ⟨p.path, by simp, Or.inl h⟩
      · rw [if_neg k3] at h ⊢
        exact ⟨p.path, by simp, Or.inl (by rw [h]; exact Path.within_refl _)⟩

/-- Patches whose paths are all apart. -/
theorem comm_apart8 {p q : Pr} {f : Fm} (ha : apartP p q = true) (op : okF p f) (oq : okF q (effF p f)) : okF q f ∧ okF p (effF q f) ∧ ∀ s, effF p (effF q f) s = effF q (effF p f) s := by
  have key : ∀ a ∈ placesP p, ∀ b ∈ placesP q, Path.apart (bl a) (bl b) = true := fun a h1 b h2 => List.all_eq_true.1 (List.all_eq_true.1 ha a h1) b h2
  refine comm_gen (fun s hd hm => ?_) (fun s hd hm => ?_) (fun s h1 h2 => ?_) op oq
  · obtain ⟨b, hb, hd⟩ := places_dep hd
    obtain ⟨a, ha, hm⟩ := places_mod hm
    rcases hd with hd | hd
    · exact apart_both (key a ha b hb) hm hd
    · exact apart_parent ((Path.apart_comm _ _).trans (key a ha b hb)) hd hm
  · obtain ⟨a, ha, hd⟩ := places_dep hd
    obtain ⟨b, hb, hm⟩ := places_mod hm
    rcases hd with hd | hd
    · exact apart_both (key a ha b hb) hd hm
    · exact apart_parent (key a ha b hb) hd hm
  · obtain ⟨a, ha, h1⟩ := places_mod h1
    obtain ⟨b, hb, h2⟩ := places_mod h2
    exact apart_both (key a ha b hb) h1 h2

/-! ## Changes -/

theorem chg_not {p : Pr} (k : p.kind = 7 ∨ p.kind = 8 ∨ p.kind = 9) : ¬ (p.kind = 1 ∨ p.kind = 3 ∨ p.kind = 5) ∧ ¬ (p.kind = 2 ∨ p.kind = 4 ∨ p.kind = 6) ∧ ¬ p.kind = 10 := by omega

theorem ok_chg {p : Pr} {f : Fm} (k : p.kind = 7 ∨ p.kind = 8 ∨ p.kind = 9) : okF p f ↔ ∃ x y, f (bl p.path) = some x ∧ x.kind = (if p.kind = 9 then 3 else 2) ∧ withE x p = some y := by
  obtain ⟨h1, h2, h3⟩ := chg_not k
  unfold okF
  rw [if_neg h1, if_neg h2, if_neg h3]

theorem eff_chg {p : Pr} {f : Fm} (k : p.kind = 7 ∨ p.kind = 8 ∨ p.kind = 9) (s : List UInt8) : effF p f s = if s = bl p.path then (f s).bind (fun x => withE x p) else f s := by
  obtain ⟨h1, h2, h3⟩ := chg_not k
  unfold effF
  rw [if_neg h1, if_neg h2, if_neg h3]

theorem dep_chg {p : Pr} (k : p.kind = 7 ∨ p.kind = 8 ∨ p.kind = 9) {s : List UInt8} (h : depF p s) : s = bl p.path := by
  obtain ⟨h1, h2, h3⟩ := chg_not k
  unfold depF at h
  rw [if_neg h1, if_neg h2, if_neg h3] at h
  exact h

theorem mod_one {p : Pr} (k : ¬ p.kind = 10) {s : List UInt8} (h : modF p s) : s = bl p.path := by
  unfold modF at h
  rw [if_neg k] at h
  exact h

theorem kind_chg {p : Pr} (_ : p.kind = 7 ∨ p.kind = 8 ∨ p.kind = 9) : ¬ (if p.kind = 9 then (3 : Int) else 2) = 1 := by
  split <;> decide

/-- Two changes of unlike things. -/
theorem comm_chg {p q : Pr} {f : Fm} (kp : p.kind = 7 ∨ p.kind = 8 ∨ p.kind = 9) (kq : q.kind = 7 ∨ q.kind = 8 ∨ q.kind = 9) (hne : ¬ bl p.path = bl q.path) (op : okF p f) (oq : okF q (effF p f)) : okF q f ∧ okF p (effF q f) ∧ ∀ s, effF p (effF q f) s = effF q (effF p f) s :=
  comm_gen (fun _ hd hm => hne ((mod_one (chg_not kp).2.2 hm).symm.trans (dep_chg kq hd))) (fun _ hd hm => hne ((dep_chg kp hd).symm.trans (mod_one (chg_not kq).2.2 hm))) (fun _ h1 h2 => hne ((mod_one (chg_not kp).2.2 h1).symm.trans (mod_one (chg_not kq).2.2 h2))) op oq

/-- An addition, and a change of another thing. -/
theorem dep_add_chg {p q : Pr} {f g : Fm} (kp : p.kind ≤ 6 ∧ 1 ≤ p.kind) (kq : q.kind = 7 ∨ q.kind = 8 ∨ q.kind = 9) (hne : ¬ bl p.path = bl q.path) (op : okF p f) (oq : okF q g) (hfg : f (bl q.path) = g (bl q.path)) : ∀ s, depF p s → ¬ modF q s := fun s hd hm => by
  have hs := mod_one (chg_not kq).2.2 hm
  subst hs
  obtain ⟨x, y, hx, hk, _⟩ := (ok_chg kq).1 oq
  unfold depF at hd
  unfold okF at op
  by_cases k1 : p.kind = 1 ∨ p.kind = 3 ∨ p.kind = 5
  · rw [if_pos k1] at hd op
    rcases hd with e | e
    · exact hne e.symm
    · obtain ⟨d, hd, hk1⟩ := op.2 _ e
      rw [hfg, hx] at hd
      cases hd
      exact kind_chg kq (hk.symm.trans hk1)
  · rw [if_neg k1, if_pos (by omega)] at hd op
    have := op.2 _ hd (fun e => hne e.symm)
    rw [hfg, hx] at this
    cases this

theorem comm_add_chg {p q : Pr} {f : Fm} (kp : p.kind ≤ 6 ∧ 1 ≤ p.kind) (kq : q.kind = 7 ∨ q.kind = 8 ∨ q.kind = 9) (hne : ¬ bl p.path = bl q.path) (op : okF p f) (oq : okF q (effF p f)) : okF q f ∧ okF p (effF q f) ∧ ∀ s, effF p (effF q f) s = effF q (effF p f) s := by
  have hm : ∀ s, modF p s → ¬ modF q s := fun s h1 h2 => hne ((mod_one (by omega) h1).symm.trans (mod_one (chg_not kq).2.2 h2))
  have hd : ∀ s, depF q s → ¬ modF p s := fun s hd hm => hne ((mod_one (by omega) hm).symm.trans (dep_chg kq hd))
  refine comm_gen hd (dep_add_chg kp kq hne op oq ?_) hm op oq
  exact (effF_off (fun h => hne (mod_one (by omega) h).symm)).symm

theorem comm_chg_add {p q : Pr} {f : Fm} (kp : p.kind = 7 ∨ p.kind = 8 ∨ p.kind = 9) (kq : q.kind ≤ 6 ∧ 1 ≤ q.kind) (hne : ¬ bl p.path = bl q.path) (op : okF p f) (oq : okF q (effF p f)) : okF q f ∧ okF p (effF q f) ∧ ∀ s, effF p (effF q f) s = effF q (effF p f) s := by
  obtain ⟨x, y, hx, hk, hw⟩ := (ok_chg kp).1 op
  have hfp : effF p f (bl p.path) = some y := by rw [eff_chg kp, if_pos rfl, hx]; exact hw
  have hdq : ∀ s, depF q s → ¬ modF p s := fun s hd hm => by
    have hs := mod_one (chg_not kp).2.2 hm
    subst hs
    unfold depF at hd
    unfold okF at oq
    by_cases k1 : q.kind = 1 ∨ q.kind = 3 ∨ q.kind = 5
    · rw [if_pos k1] at hd oq
      rcases hd with e | e
      · exact hne e
      · obtain ⟨d, hd, hk1⟩ := oq.2 _ e
        rw [hfp] at hd
        cases hd
        exact kind_chg kp (hk.symm.trans ((with_facts hw).2.symm.trans hk1))
    · rw [if_neg k1, if_pos (by omega)] at hd oq
      have := oq.2 _ hd hne
      rw [hfp] at this
      cases this
  exact comm_gen hdq (fun s hd hm => hne ((dep_chg kp hd).symm.trans (mod_one (by omega) hm))) (fun s h1 h2 => hne ((mod_one (chg_not kp).2.2 h1).symm.trans (mod_one (by omega) h2))) op oq

theorem hunk_two {l l1 l2 o1 n1 o2 n2 : List ByteArray} {x1 x2 : Int} (h1 : hunkL l x1 o1 n1 = some l1) (h2 : hunkL l1 x2 o2 n2 = some l2) (h : x1 + n1.length < x2) : ∃ m, hunkL l (x2 + (o1.length - n1.length)) o2 n2 = some m ∧ hunkL m x1 o1 n1 = some l2 := by
  obtain ⟨a, b, rfl, rfl, rfl⟩ := hunk_some h1
  obtain ⟨c, d, e, rfl, rfl⟩ := hunk_some h2
  have hlen : (a ++ n1).length ≤ c.length := by rw [List.length_append]; omega
  rw [List.append_assoc c] at e
  rcases List.append_eq_append_iff.1 e with ⟨u, ea, eb⟩ | ⟨u, ea, eb⟩
  · subst ea
    subst eb
    refine ⟨a ++ o1 ++ u ++ n2 ++ d, ?_, ?_⟩
    · have := hunk_mk (a ++ o1 ++ u) o2 n2 d
      have e1 : ((a ++ o1 ++ u).length : Int) = ((a ++ n1 ++ u).length : Int) + (o1.length - n1.length) := by simp; omega
      rw [e1] at this
      have e2 : a ++ o1 ++ (u ++ (o2 ++ d)) = a ++ o1 ++ u ++ o2 ++ d := by simp
      rw [e2]
      exact this
    · have := hunk_mk a o1 n1 (u ++ n2 ++ d)
      have e2 : a ++ o1 ++ u ++ n2 ++ d = a ++ o1 ++ (u ++ n2 ++ d) := by simp
      have e3 : a ++ n1 ++ u ++ n2 ++ d = a ++ n1 ++ (u ++ n2 ++ d) := by simp
      rw [e2, e3]
      exact this
  · have hu : u = [] := by
      have := congrArg List.length ea
      simp only [List.length_append] at this hlen
      exact List.length_eq_zero_iff.1 (by omega)
    subst hu
    rw [List.append_nil] at ea
    rw [List.nil_append] at eb
    subst eb
    refine ⟨a ++ o1 ++ n2 ++ d, ?_, ?_⟩
    · have := hunk_mk (a ++ o1) o2 n2 d
      have e1 : ((a ++ o1).length : Int) = (c.length : Int) + (o1.length - n1.length) := by rw [← ea]; simp; omega
      rw [e1] at this
      have e2 : a ++ o1 ++ (o2 ++ d) = a ++ o1 ++ o2 ++ d := by simp
      rw [e2]
      exact this
    · have := hunk_mk a o1 n1 (n2 ++ d)
      have e2 : a ++ o1 ++ n2 ++ d = a ++ o1 ++ (n2 ++ d) := by simp
      have e3 : c ++ n2 ++ d = a ++ n1 ++ (n2 ++ d) := by rw [← ea]; simp
      rw [e2, e3]
      exact this

theorem hunk_two_b {l l1 l2 o1 n1 o2 n2 : List ByteArray} {x1 x2 : Int} (h1 : hunkL l x1 o1 n1 = some l1) (h2 : hunkL l1 x2 o2 n2 = some l2) (h : x2 + o2.length < x1) : ∃ m, hunkL l x2 o2 n2 = some m ∧ hunkL m (x1 + (n2.length - o2.length)) o1 n1 = some l2 := by
  have b2 := hunk_back h2
  have b1 := hunk_back h1
  obtain ⟨m, c1, c2⟩ := hunk_two b2 b1 h
  exact ⟨m, hunk_back c2, hunk_back c1⟩

end Go.Proofs.YtjpgpbfnmokmiabGreatDoor

namespace Go.Proofs.YtjpgpbfnmokmiabGreatDoor
open Go.RowKit
set_option maxRecDepth 100000

theorem with_mv {x : En} {p : Pr} (A B : List UInt8) (P : ByteArray) : withE (mvE A B x) { p with path := P } = (withE x p).map (mvE A B) := by
  unfold withE
  simp only
  split
  · rw [Option.map_map]; rfl
  · split
    · rw [Option.map_map]; rfl
    · have : (mvE A B x).data = x.data := rfl
      rw [this]
      split <;> rfl

theorem with_path {x : En} {p : Pr} (P : ByteArray) : withE x { p with path := P } = withE x p := rfl

theorem mov_not {p : Pr} (k : p.kind = 10) : ¬ (p.kind = 1 ∨ p.kind = 3 ∨ p.kind = 5) ∧ ¬ (p.kind = 2 ∨ p.kind = 4 ∨ p.kind = 6) := by omega

theorem ok_mov {p : Pr} {f : Fm} (k : p.kind = 10) : okF p f ↔ f (bl p.path) ≠ none ∧ (f (bl p.dst) = none ∧ ∀ q, Path.parent (bl p.dst) = some q → ∃ d, f q = some d ∧ d.kind = 1) ∧ ∀ s, Path.within s (bl p.path) = true → f s ≠ none → Path.right (Path.moved s (bl p.path) (bl p.dst)) = true := by
  unfold okF
  rw [if_neg (mov_not k).1, if_neg (mov_not k).2, if_pos k]

theorem eff_mov {p : Pr} {f : Fm} (k : p.kind = 10) (s : List UInt8) : effF p f s = if Path.within s (bl p.dst) then (f (backM (bl p.path) (bl p.dst) s)).map (mvE (bl p.path) (bl p.dst)) else if Path.within s (bl p.path) then none else f s := by
  unfold effF
  rw [if_neg (mov_not k).1, if_neg (mov_not k).2, if_pos k]

theorem dep_mov {p : Pr} (k : p.kind = 10) {s : List UInt8} (h : depF p s) : s = bl p.dst ∨ Path.parent (bl p.dst) = some s ∨ Path.within s (bl p.path) = true := by
  unfold depF at h
  rw [if_neg (mov_not k).1, if_neg (mov_not k).2, if_pos k] at h
  exact h

theorem mod_mov {p : Pr} (k : p.kind = 10) {s : List UInt8} (h : modF p s) : Path.within s (bl p.path) = true ∨ Path.within s (bl p.dst) = true := by
  unfold modF at h
  rw [if_pos k] at h
  exact h

/-- Whatever lies in f with a change lies in f, of the same kind. -/
theorem chg_same {p : Pr} {f : Fm} (kp : p.kind = 7 ∨ p.kind = 8 ∨ p.kind = 9) (op : okF p f) (s : List UInt8) : (effF p f s = none ↔ f s = none) ∧ ((∃ d, effF p f s = some d ∧ d.kind = 1) ↔ ∃ d, f s = some d ∧ d.kind = 1) := by
  obtain ⟨x, y, hx, hk, hw⟩ := (ok_chg kp).1 op
  rw [eff_chg kp]
  by_cases e : s = bl p.path
  · subst e
    rw [if_pos rfl, hx]
    show (withE x p = none ↔ _) ∧ ((∃ d, withE x p = some d ∧ d.kind = 1) ↔ _)
    rw [hw]
    refine ⟨by simp, ?_⟩
    have h1 : ¬ x.kind = 1 := fun e => kind_chg kp (hk.symm.trans e)
    have h2 : ¬ y.kind = 1 := fun e => h1 ((with_facts hw).2.symm.trans e)
    constructor
    · rintro ⟨d, hd, hdk⟩; cases hd; exact absurd hdk h2
    · rintro ⟨d, hd, hdk⟩; cases hd; exact absurd hdk h1
  · rw [if_neg e]
    exact ⟨Iff.rfl, Iff.rfl⟩

/-- A Move asks what a change does not turn. -/
theorem mov_chg_ok {p q : Pr} {f : Fm} (kp : p.kind = 7 ∨ p.kind = 8 ∨ p.kind = 9) (kq : q.kind = 10) (op : okF p f) : okF q (effF p f) ↔ okF q f := by
  rw [ok_mov kq, ok_mov kq]
  constructor
  · rintro ⟨a, ⟨b, c⟩, d⟩
    exact ⟨fun e => a ((chg_same kp op _).1.2 e), ⟨(chg_same kp op _).1.1 b, fun q' hq => (chg_same kp op q').2.1 (c q' hq)⟩, fun s hs hn => d s hs (fun e => hn ((chg_same kp op s).1.1 e))⟩
  · rintro ⟨a, ⟨b, c⟩, d⟩
    exact ⟨fun e => a ((chg_same kp op _).1.1 e), ⟨(chg_same kp op _).1.2 b, fun q' hq => (chg_same kp op q').2.2 (c q' hq)⟩, fun s hs hn => d s hs (fun e => hn ((chg_same kp op s).1.2 e))⟩

theorem back_inj {A B s t : List UInt8} (h1 : Path.within s B = true) (h2 : Path.within t B = true) (e : backM A B s = backM A B t) : s = t := by
  obtain ⟨r, rfl, _⟩ := within_app h1
  obtain ⟨u, rfl, _⟩ := within_app h2
  rw [back_in, back_in] at e
  rw [List.append_cancel_left e]

/-- A change of what is moved, and the Move. -/
theorem comm_chg_in {p q : Pr} {f : Fm} (kp : p.kind = 7 ∨ p.kind = 8 ∨ p.kind = 9) (kq : q.kind = 10) (P : ByteArray) (hw : Path.within (bl p.path) (bl q.path) = true) (hP : bl P = Path.moved (bl p.path) (bl q.path) (bl q.dst)) (op : okF p f) :
    okF { p with path := P } (effF q f) ∧ ∀ s, effF { p with path := P } (effF q f) s = effF q (effF p f) s := by
  obtain ⟨x, y, hx, hk, hxy⟩ := (ok_chg kp).1 op
  obtain ⟨r, er, hr⟩ := within_app hw
  have hP' : bl P = bl q.dst ++ r := by
    rw [hP, Path.moved, if_pos hw, er, List.drop_left]
  have hPw : Path.within (bl P) (bl q.dst) = true := by rw [hP']; exact within_of hr
  have hPb : backM (bl q.path) (bl q.dst) (bl P) = bl p.path := by rw [hP', back_in, er]
  have hat : effF q f (bl P) = some (mvE (bl q.path) (bl q.dst) x) := by
    rw [eff_mov kq, if_pos hPw, hPb, hx]; rfl
  refine ⟨(ok_chg (p := { p with path := P }) kp).2 ⟨_, mvE (bl q.path) (bl q.dst) y, hat, hk, ?_⟩, fun s => ?_⟩
  · rw [with_mv, hxy]; rfl
  · rw [eff_chg (p := { p with path := P }) kp, eff_mov kq, eff_mov kq, eff_chg kp]
    show (if s = bl P then _ else _) = _
    by_cases e : s = bl P
    · subst e
      rw [if_pos rfl, if_pos hPw, if_pos hPw, hPb, hx, if_pos rfl]
      show withE (mvE (bl q.path) (bl q.dst) x) { p with path := P } = ((some x).bind _).map _
      rw [with_mv]; rfl
    · rw [if_neg e]
      by_cases hs : Path.within s (bl q.dst) = true
      · rw [if_pos hs, if_pos hs, if_neg]
        intro e2
        exact e (back_inj hs hPw (e2.trans hPb.symm))
      · rw [if_neg hs, if_neg hs]
        by_cases hs2 : Path.within s (bl q.path) = true
        · rw [if_pos hs2, if_pos hs2]
        · rw [if_neg hs2, if_neg hs2, eff_chg kp, if_neg]
          rintro rfl
          exact hs2 hw

end Go.Proofs.YtjpgpbfnmokmiabGreatDoor

namespace Go.Proofs.YtjpgpbfnmokmiabGreatDoor
open Go.RowKit
set_option maxRecDepth 100000

/-- The same is made the other way about. -/
def SameF (a b p q : Pr) (f : Fm) : Prop := okF a f ∧ okF b (effF a f) ∧ ∀ s, effF b (effF a f) s = effF q (effF p f) s

theorem same_path {p q a b : Pr} {f : Fm} {x y u z : En} (kp : p.kind = 7) (kq : q.kind = 7) (ka : a.kind = 7) (kb : b.kind = 7) (e1 : a.path = p.path) (e2 : b.path = p.path) (e3 : q.path = p.path) (hx : f (bl p.path) = some x) (hk : x.kind = 2) (h1 : withE x p = some y) (h2 : withE y q = some z) (h3 : withE x a = some u) (h4 : withE u b = some z) : SameF a b p q f := by
  have fa : effF a f (bl p.path) = some u := by rw [eff_chg (Or.inl ka), e1, if_pos rfl, hx]; exact h3
  have fp : effF p f (bl p.path) = some y := by rw [eff_chg (Or.inl kp), if_pos rfl, hx]; exact h1
  refine ⟨(ok_chg (Or.inl ka)).2 ⟨x, u, by rw [e1]; exact hx, by rw [ka]; exact hk, h3⟩, (ok_chg (Or.inl kb)).2 ⟨u, z, by rw [e2]; exact fa, by rw [kb, (with_facts h3).2]; exact hk, h4⟩, fun s => ?_⟩
  rw [eff_chg (Or.inl kb), eff_chg (Or.inl kq), e2, e3]
  by_cases e : s = bl p.path
  · subst e
    rw [if_pos rfl, if_pos rfl, fa, fp]
    exact h4.trans h2.symm
  · rw [if_neg e, if_neg e, eff_chg (Or.inl ka), eff_chg (Or.inl kp), e1, if_neg e, if_neg e]

theorem comm_lines {p q : Pr} {f : Fm} (kp : p.kind = 7) (kq : q.kind = 7) (he : p.path = q.path) (hc : (linesC p q).2.2 = true) (op : okF p f) (oq : okF q (effF p f)) : SameF (linesC p q).1 (linesC p q).2.1 p q f := by
  obtain ⟨x, y, hx, hk, h1⟩ := (ok_chg (Or.inl kp)).1 op
  obtain ⟨y', z, hy, _, h2⟩ := (ok_chg (Or.inl kq)).1 oq
  have fp : effF p f (bl p.path) = some y := by rw [eff_chg (Or.inl kp), if_pos rfl, hx]; exact h1
  rw [← he, fp] at hy
  cases hy
  rw [kp] at hk
  have hk : x.kind = 2 := hk
  have w1 := h1
  have w2 := h2
  unfold withE at w1 w2
  rw [if_pos kp] at w1
  rw [if_pos kq] at w2
  obtain ⟨l1, g1, rfl⟩ := Option.map_eq_some_iff.1 w1
  obtain ⟨l2, g2, rfl⟩ := Option.map_eq_some_iff.1 w2
  unfold linesC at hc ⊢
  by_cases c1 : p.pos + p.new.length < q.pos
  · rw [if_pos c1] at hc ⊢
    obtain ⟨m, m1, m2⟩ := hunk_two g1 g2 c1
    refine same_path (u := { x with lines := m }) kp kq kq kp he.symm rfl he.symm hx hk h1 h2 ?_ ?_
    · unfold withE
      simp only [kq, if_true, m1, Option.map_some]
    · unfold withE
      simp only [kp, if_true, m2, Option.map_some]
  · rw [if_neg c1] at hc ⊢
    by_cases c2 : q.pos + q.old.length < p.pos
    · rw [if_pos c2] at hc ⊢
      obtain ⟨m, m1, m2⟩ := hunk_two_b g1 g2 c2
      refine same_path (u := { x with lines := m }) kp kq kq kp he.symm rfl he.symm hx hk h1 h2 ?_ ?_
      · unfold withE
        simp only [kq, if_true, m1, Option.map_some]
      · unfold withE
        simp only [kp, if_true, m2, Option.map_some]
    · rw [if_neg c2] at hc
      cases hc

theorem carry_in {a f t : ByteArray} (h : wiP a f = true) : carryP a f t = (moP a f t, true) := by
  unfold carryP
  rw [if_pos h]

theorem carry_out {a f t : ByteArray} (h : ¬ wiP a f = true) : carryP a f t = (a, !wiP a t) := by
  unfold carryP
  rw [if_neg h]

theorem path_self (p : Pr) : { p with path := p.path } = p := rfl

/-- A Move, and a change of what it does not touch. -/
theorem comm_mov_off {p q : Pr} {f : Fm} (kp : p.kind = 10) (kq : q.kind = 7 ∨ q.kind = 8 ∨ q.kind = 9) (h1 : Path.within (bl q.path) (bl p.path) = false) (h2 : Path.within (bl q.path) (bl p.dst) = false) (op : okF p f) (oq : okF q (effF p f)) : SameF q p p q f := by
  have hq : effF p f (bl q.path) = f (bl q.path) := effF_off (fun hm => by
    rcases mod_mov kp hm with e | e
    · rw [h1] at e; cases e
    · rw [h2] at e; cases e)
  obtain ⟨x, y, hx, hk, hw⟩ := (ok_chg kq).1 oq
  rw [hq] at hx
  obtain ⟨a, ⟨b, c⟩, d⟩ := (ok_mov kp).1 op
  refine comm_gen (fun s hd hm => ?_) (fun s hd hm => ?_) (fun s hm1 hm2 => ?_) op oq
  · rw [dep_chg kq hd] at hm
    rcases mod_mov kp hm with e | e
    · rw [h1] at e; cases e
    · rw [h2] at e; cases e
  · have := mod_one (chg_not kq).2.2 hm
    subst this
    rcases dep_mov kp hd with e | e | e
    · rw [e, Path.within_refl] at h2; cases h2
    · obtain ⟨g, hg, hgk⟩ := c _ e
      rw [hx] at hg
      cases hg
      exact kind_chg kq (hk.symm.trans hgk)
    · rw [h1] at e; cases e
  · rw [mod_one (chg_not kq).2.2 hm2] at hm1
    rcases mod_mov kp hm1 with e | e
    · rw [h1] at e; cases e
    · rw [h2] at e; cases e

theorem comm_off_mov {p q : Pr} {f : Fm} (kp : p.kind = 7 ∨ p.kind = 8 ∨ p.kind = 9) (kq : q.kind = 10) (h1 : Path.within (bl p.path) (bl q.path) = false) (h2 : Path.within (bl p.path) (bl q.dst) = false) (op : okF p f) (oq : okF q (effF p f)) : SameF q p p q f := by
  obtain ⟨x, y, hx, hk, hw⟩ := (ok_chg kp).1 op
  have oq' := (mov_chg_ok kp kq op).1 oq
  obtain ⟨a, ⟨b, c⟩, d⟩ := (ok_mov kq).1 oq'
  refine comm_gen (fun s hd hm => ?_) (fun s hd hm => ?_) (fun s hm1 hm2 => ?_) op oq
  · have := mod_one (chg_not kp).2.2 hm
    subst this
    rcases dep_mov kq hd with e | e | e
    · rw [e, Path.within_refl] at h2; cases h2
    · obtain ⟨g, hg, hgk⟩ := c _ e
      rw [hx] at hg
      cases hg
      exact kind_chg kp (hk.symm.trans hgk)
    · rw [h1] at e; cases e
  · rw [dep_chg kp hd] at hm
    rcases mod_mov kq hm with e | e
    · rw [h1] at e; cases e
    · rw [h2] at e; cases e
  · rw [mod_one (chg_not kp).2.2 hm1] at hm2
    rcases mod_mov kq hm2 with e | e
    · rw [h1] at e; cases e
    · rw [h2] at e; cases e

theorem comm_mov_in {p q : Pr} {f : Fm} (kp : p.kind = 10) (kq : q.kind = 7 ∨ q.kind = 8 ∨ q.kind = 9) (Q : ByteArray) (hw : Path.within (bl q.path) (bl p.dst) = true) (hQ : bl Q = Path.moved (bl q.path) (bl p.dst) (bl p.path)) (op : okF p f) (oq : okF q (effF p f)) : SameF { q with path := Q } p p q f := by
  obtain ⟨r, er, hr⟩ := within_app hw
  have hQ' : bl Q = bl p.path ++ r := by rw [hQ, Path.moved, if_pos hw, er, List.drop_left]
  have hQw : Path.within (bl Q) (bl p.path) = true := by rw [hQ']; exact within_of hr
  have hQb : backM (bl p.path) (bl p.dst) (bl q.path) = bl Q := by rw [er, back_in, hQ']
  have hmv : bl q.path = Path.moved (bl Q) (bl p.path) (bl p.dst) := by rw [Path.moved, if_pos hQw, hQ', List.drop_left, er]
  have oa : okF { q with path := Q } f := by
    obtain ⟨x', y', hx, hk, hxy⟩ := (ok_chg kq).1 oq
    rw [eff_mov kp, if_pos hw, hQb] at hx
    obtain ⟨x, hx1, rfl⟩ := Option.map_eq_some_iff.1 hx
    have e := with_mv (x := x) (p := { q with path := Q }) (bl p.path) (bl p.dst) q.path
    have e' : withE (mvE (bl p.path) (bl p.dst) x) q = (withE x { q with path := Q }).map (mvE (bl p.path) (bl p.dst)) := e
    rw [hxy] at e'
    obtain ⟨y, hy, _⟩ := Option.map_eq_some_iff.1 e'.symm
    exact (ok_chg (p := { q with path := Q }) kq).2 ⟨x, y, hx1, hk, hy⟩
  have h := comm_chg_in (p := { q with path := Q }) (q := p) (f := f) kq kp q.path hQw hmv oa
  exact ⟨oa, (mov_chg_ok (p := { q with path := Q }) kq kp oa).2 op, fun s => (h.2 s).symm⟩

/-- What the rule gives makes the same. -/
theorem rule_same {p q : Pr} {f : Fm} (hp : rightP p = true) (hq : rightP q = true) (hc : (ruleC p q).2.2 = true) (op : okF p f) (oq : okF q (effF p f)) : SameF (ruleC p q).1 (ruleC p q).2.1 p q f := by
  unfold ruleC at hc ⊢
  have ne : ∀ {a b : ByteArray}, ¬ a = b → ¬ bl a = bl b := fun h e => h (ba_eq e)
  rcases cls_cases hp with ⟨cp, p1, p2⟩ | ⟨cp, p1, p2⟩ | ⟨cp, p1⟩ <;> rcases cls_cases hq with ⟨cq, q1, q2⟩ | ⟨cq, q1, q2⟩ | ⟨cq, q1⟩ <;> simp (config := { decide := true }) only [cp, cq, if_true, if_false] at hc ⊢
  · exact comm_apart8 hc op oq
  · exact comm_add_chg ⟨p1, p2⟩ (by omega) (ne (by simpa using hc)) op oq
  · exact comm_apart8 hc op oq
  · exact comm_chg_add (by omega) ⟨q1, q2⟩ (ne (by simpa using hc)) op oq
  · unfold changesC at hc ⊢
    by_cases he : p.path = q.path
    · rw [if_pos he] at hc ⊢
      by_cases hk : p.kind = 7 ∧ q.kind = 7
      · rw [if_pos hk] at hc ⊢
        exact comm_lines hk.1 hk.2 he hc op oq
      · rw [if_neg hk] at hc; cases hc
    · rw [if_neg he]
      have kp : p.kind = 7 ∨ p.kind = 8 ∨ p.kind = 9 := by omega
      have kq : q.kind = 7 ∨ q.kind = 8 ∨ q.kind = 9 := by omega
      exact comm_chg kp kq (ne he) op oq
  · have kp : p.kind = 7 ∨ p.kind = 8 ∨ p.kind = 9 := by omega
    unfold changeMoveC at hc ⊢
    by_cases hw : wiP p.path q.path = true
    · rw [carry_in hw] at hc ⊢
      have oq' := (mov_chg_ok kp q1 op).1 oq
      have h := comm_chg_in (p := p) (q := q) (f := f) kp q1 (moP p.path q.path q.dst) hw (moP_list _ _ _) op
      exact ⟨oq', h.1, h.2⟩
    · rw [carry_out hw] at hc ⊢
      simp only [Bool.not_eq_true'] at hc
      simp only [Bool.not_eq_true] at hw
      exact comm_off_mov kp q1 hw hc op oq
  · exact comm_apart8 hc op oq
  · have kq : q.kind = 7 ∨ q.kind = 8 ∨ q.kind = 9 := by omega
    unfold moveChangeC at hc ⊢
    by_cases hw : wiP q.path p.dst = true
    · rw [carry_in hw] at hc ⊢
      exact comm_mov_in p1 kq (moP q.path p.dst p.path) hw (moP_list _ _ _) op oq
    · rw [carry_out hw] at hc ⊢
      simp only [Bool.not_eq_true'] at hc
      simp only [Bool.not_eq_true] at hw
      exact comm_mov_off p1 kq hc hw op oq
  · exact comm_apart8 hc op oq

theorem rule_kinds (p q : Pr) : (ruleC p q).1.kind = q.kind ∧ (ruleC p q).2.1.kind = p.kind := by
  unfold ruleC changesC linesC changeMoveC moveChangeC
  (repeat' split) <;> exact ⟨rfl, rfl⟩

theorem act_len {L M : List En} (h : TreeR L) {p : Pr} (hr : rightP p = true) (e : actE L p = (M, 0)) : (wants p → M.length = L.length + 1) ∧ (¬ wants p → M.length ≤ L.length) := by
  obtain ⟨hk, _, _⟩ := rule_of hr
  unfold wants
  by_cases k1 : p.kind = 1 ∨ p.kind = 3 ∨ p.kind = 5
  · obtain ⟨h1, _, rfl⟩ := (act_add k1).1 e
    exact ⟨fun _ => len_putE_new (freeE_zero.1 h1).1, fun e => absurd k1 e⟩
  · refine ⟨fun e => absurd e k1, fun _ => ?_⟩
    by_cases k2 : p.kind = 2 ∨ p.kind = 4 ∨ p.kind = 6
    · obtain ⟨x, hx, _, _, _, _, rfl⟩ := (act_rm k2).1 e
      exact List.length_filter_le _ _
    · by_cases k3 : p.kind = 10
      · obtain ⟨_, h2, _, rfl⟩ := (act_move k3).1 e
        rw [h.len_move (freeE_zero.1 h2).1]
        exact Nat.le_refl _
      · obtain ⟨x, y, hx, _, hw, rfl⟩ := (act_change (by omega)).1 e
        have h1 := len_delE h.strict (find_some hx).1
        unfold putE
        rw [(insE_perm y _).length_eq, (with_facts hw).1]
        simp
        omega

theorem ok_free {L : List En} {p : Pr} (hk : wants p) (ho : okF p (findE L)) (hl : 1024 ≤ L.length) : actE L p = (L, 2) := by
  unfold wants at hk
  unfold okF at ho
  rw [if_pos hk] at ho
  unfold actE
  rw [if_pos hk, if_neg (by simpa using freeE_zero.2 ho), if_pos hl]

/-- Two patches that can be commuted make the same tree the other way about, but for room. -/
theorem TreeR.comm {L L1 M : List En} (h : TreeR L) {p q a b : Pr} (hc : commP p q = (a, b, true)) (e1 : doE L p = (L1, 0)) (e2 : doE L1 q = (M, 0)) : (∃ L2, doE L a = (L2, 0) ∧ doE L2 b = (M, 0)) ∨ (doE L a = (L, 2) ∧ 1024 ≤ L.length) := by
  have hcy := commP_yes (p := p) (q := q) (by rw [hc])
  obtain ⟨rp, rq, er, hr, ra, rb⟩ := hcy
  rw [hc] at er
  rw [← er] at hr ra rb
  obtain ⟨ka, kb⟩ := rule_kinds p q
  rw [← er] at ka kb
  simp only at ra rb ka kb
  have a1 := (do_of e1).2
  have a2 := (do_of e2).2
  have h1 := h.act rp a1
  obtain ⟨o1, l1, _, t1⟩ := (h.told rp).1 a1
  obtain ⟨o2, l2, sM, t2⟩ := (h1.told rq).1 a2
  have hf1 : findE L1 = effF p (findE L) := funext t1
  rw [hf1] at o2 t2
  have hS := rule_same rp rq (by rw [← er]) o1 o2
  rw [← er] at hS
  obtain ⟨oa, ob, es⟩ := hS
  simp only at oa ob es
  unfold doE
  rw [if_pos ra]
  by_cases hw : wants a ∧ 1024 ≤ L.length
  · exact Or.inr ⟨ok_free hw.1 oa hw.2, hw.2⟩
  · left
    have la : wants a → L.length < 1024 := fun hwa => by
      rcases Nat.lt_or_ge L.length 1024 with h | h
      · exact h
      · exact absurd ⟨hwa, h⟩ hw
    -- what the first of the two makes
    have hex : ∃ L2, actE L a = (L2, 0) := by
      by_cases k1 : a.kind = 1 ∨ a.kind = 3 ∨ a.kind = 5
      · refine ⟨_, (act_add k1).2 ⟨?_, la k1, rfl⟩⟩
        unfold okF at oa
        rw [if_pos k1] at oa
        exact freeE_zero.2 oa
      · by_cases k2 : a.kind = 2 ∨ a.kind = 4 ∨ a.kind = 6
        · unfold okF at oa
          rw [if_neg k1, if_pos k2] at oa
          obtain ⟨⟨x, hx, x1, x2, x3⟩, hn⟩ := oa
          exact ⟨_, (act_rm k2).2 ⟨x, hx, x1, x2, x3, (h.in_only hx).2 hn, rfl⟩⟩
        · by_cases k3 : a.kind = 10
          · obtain ⟨b1, b2, b3⟩ := (ok_mov k3).1 oa
            refine ⟨_, (act_move k3).2 ⟨b1, freeE_zero.2 b2, ?_, rfl⟩⟩
            rw [List.all_eq_true]
            intro x hx
            obtain ⟨x1, x2⟩ := mem_inE.1 hx
            rw [moved_mv]
            exact b3 _ x2 (by rw [find_of_mem h.strict x1]; simp)
          · have k4 : a.kind = 7 ∨ a.kind = 8 ∨ a.kind = 9 := by have := (rule_of ra).1; omega
            obtain ⟨x, y, hx, hk, hw⟩ := (ok_chg k4).1 oa
            exact ⟨_, (act_change k4).2 ⟨x, y, hx, hk, hw, rfl⟩⟩
    obtain ⟨L2, e3⟩ := hex
    refine ⟨L2, e3, ?_⟩
    have h2 := h.act ra e3
    obtain ⟨_, _, _, t3⟩ := (h.told ra).1 e3
    have hf2 : findE L2 = effF a (findE L) := funext t3
    rw [if_pos rb]
    refine (h2.told rb).2 ⟨by rw [hf2]; exact ob, fun hb => ?_, sM, fun s => ?_⟩
    · have wp : wants p := by unfold wants at hb ⊢; rw [kb] at hb; exact hb
      have n1 := (act_len h rp a1).1 wp
      by_cases wa : wants a
      · have wq : wants q := by unfold wants at wa ⊢; rw [ka] at wa; exact wa
        have n2 := l2 wq
        have n3 := (act_len h ra e3).1 wa
        omega
      · have n3 := (act_len h ra e3).2 wa
        have n4 := l1 wp
        omega
    · rw [hf2, es s, ← t2 s]

end Go.Proofs.YtjpgpbfnmokmiabGreatDoor

namespace Go.Proofs.YtjpgpbfnmokmiabGreatDoor
open Go.RowKit Go.Maps Go.WideMaps
set_option maxRecDepth 100000

/-- A row of two patches, laid together. -/
theorem two_prs {w W : World} {p q : Pr} {vo vn uo un : Value} (hw : w.alloc (.cells #[.int .i64 p.kind, .string p.path, .string p.dst, .string p.src, .int .i64 p.pos, vo, vn, .int .i64 q.kind, .string q.path, .string q.dst, .string q.src, .int .i64 q.pos, uo, un] 32) = W) (h1 : StrsAt W vo p.old) (h2 : StrsAt W vn p.new) (h3 : StrsAt W uo q.old) (h4 : StrsAt W un q.new) : PrsAt W (some ⟨w.heap.size, 0, none⟩) [p, q] := fun k x hk => by
  have hc : ∀ j v, #[Value.int .i64 p.kind, .string p.path, .string p.dst, .string p.src, .int .i64 p.pos, vo, vn, .int .i64 q.kind, .string q.path, .string q.dst, .string q.src, .int .i64 q.pos, uo, un][j]? = some v → W.cell? ⟨w.heap.size, j, none⟩ = some v := fun j v h => by
    rw [← hw, World.cell?, heap_alloc_new]; exact h
  match k, hk with
  | 0, hk => cases hk; exact ⟨w.heap.size, 0, rfl, vo, vn, hc 0 _ rfl, hc 1 _ rfl, hc 2 _ rfl, hc 3 _ rfl, hc 4 _ rfl, hc 5 _ rfl, hc 6 _ rfl, h1, h2⟩
  | 1, hk => cases hk; exact ⟨w.heap.size, 0, rfl, uo, un, hc 7 _ rfl, hc 8 _ rfl, hc 9 _ rfl, hc 10 _ rfl, hc 11 _ rfl, hc 12 _ rfl, hc 13 _ rfl, h3, h4⟩
  | k + 2, hk => simp at hk

theorem rule_fields (p q : Pr) : ((ruleC p q).1.dst = q.dst ∧ (ruleC p q).1.src = q.src ∧ (ruleC p q).1.old = q.old ∧ (ruleC p q).1.new = q.new) ∧ (ruleC p q).2.1.dst = p.dst ∧ (ruleC p q).2.1.src = p.src ∧ (ruleC p q).2.1.old = p.old ∧ (ruleC p q).2.1.new = p.new := by
  unfold ruleC changesC linesC changeMoveC moveChangeC
  (repeat' split) <;> exact ⟨⟨rfl, rfl, rfl, rfl⟩, rfl, rfl, rfl, rfl⟩

theorem right_path8 {p : Pr} (h : rightP p = true) : p.path.size ≤ 4000 := by
  have h1 := right_len (rule_of h).2.1
  have h3 : (bl p.path).length = p.path.size := Array.length_toList
  omega

theorem comm_sm {p q a b : Pr} (hc : commP p q = (a, b, true)) (hp : SmPr p) (hq : SmPr q) : SmPr a ∧ SmPr b := by
  obtain ⟨_, _, er, _, ra, rb⟩ := commP_yes (p := p) (q := q) (by rw [hc])
  rw [hc] at er
  rw [← er] at ra rb
  have hf := rule_fields p q
  rw [← er] at hf
  simp only at ra rb hf
  obtain ⟨⟨a1, a2, a3, a4⟩, b1, b2, b3, b4⟩ := hf
  refine ⟨⟨right_path8 ra, ?_, ?_, ?_, ?_, ?_, ?_⟩, right_path8 rb, ?_, ?_, ?_, ?_, ?_, ?_⟩
  · rw [a1]; exact hq.dst
  · rw [a2]; exact hq.src
  · rw [a3]; exact hq.old
  · rw [a4]; exact hq.new
  · rw [a4]; exact hq.line
  · rw [a3]; exact hq.oline
  · rw [b1]; exact hp.dst
  · rw [b2]; exact hp.src
  · rw [b3]; exact hp.old
  · rw [b4]; exact hp.new
  · rw [b4]; exact hp.line
  · rw [b3]; exact hp.oline

/-- What two patches made, the other way about. -/
theorem all_comm {L M : List En} {p q a b : Pr} {k : Nat} (hc : commP p q = (a, b, true)) (e : allE L [p, q] = (M, 0, k)) : allE L [a, b] = (M, 0, 0) ∨ (allE L [a, b] = ([], 2, 0) ∧ 1024 ≤ L.length) := by
  cases ht : treeRight L with
  | false => rw [runE_bad ht] at e; simp at e
  | true =>
    rw [runE_good ht] at e ⊢
    have hT := (treeR L).1 ht
    obtain ⟨L1, h1, h2⟩ := run_cons.1 e
    obtain ⟨L2, h3, h4⟩ := run_cons.1 h2
    simp [runE] at h4
    rw [h4.1] at h3
    rcases hT.comm hc h1 h3 with ⟨N, a1, a2⟩ | ⟨a1, a2⟩
    · exact Or.inl (run_cons.2 ⟨N, a1, run_cons.2 ⟨M, a2, rfl⟩⟩)
    · refine Or.inr ⟨?_, a2⟩
      rw [runE, a1]
      rfl

theorem all_right {L M : List En} {ps : List Pr} {k : Nat} (e : allE L ps = (M, 0, k)) : treeRight L = true := by
  cases ht : treeRight L with
  | false => rw [runE_bad ht] at e; simp at e
  | true => rfl

end Go.Proofs.YtjpgpbfnmokmiabGreatDoor

namespace Go.Proofs.YtjpgpbfnmokmiabGreatDoor
open Go.RowKit
set_option maxRecDepth 100000

theorem results_two {fn : Func} {p q r : Tmp} (hres : fn.results = #[.cell p 32, .cell q 32, .tmp r]) (tmps : Array Value) {w : World} {b c : Nat} {y0 y1 y2 y3 y4 y5 y6 z0 z1 z2 z3 z4 z5 z6 : Value} (hp : tmps.getD p undef = .pointer (some ⟨b, 0, none⟩)) (hq : tmps.getD q undef = .pointer (some ⟨c, 0, none⟩)) (h : Box w b y0 y1 y2 y3 y4 y5 y6) (k : Box w c z0 z1 z2 z3 z4 z5 z6) :
    (results fn tmps).run Tryz.prog w = .ok (.tuple #[.agg #[y0, y1, y2, y3, y4, y5, y6], .agg #[z0, z1, z2, z3, z4, z5, z6], tmps.getD r undef]) w := by
  have hp' : tmps[p]?.getD undef = .pointer (some ⟨b, 0, none⟩) := by simpa using hp
  have hq' : tmps[q]?.getD undef = .pointer (some ⟨c, 0, none⟩) := by simpa using hq
  simp [results, hres, hp', hq', asAddr, h.load, k.load]

/-- Two patches and a bool are answered. -/
theorem ret_two {fn : Func} {p q r : Tmp} (hres : fn.results = #[.cell p 32, .cell q 32, .tmp r]) {Q : Ending → World → Prop} {a : Act} {w : World} {b c : Nat} {y0 y1 y2 y3 y4 y5 y6 z0 z1 z2 z3 z4 z5 z6 u : Value} (hd : a.defers = []) (hp : a.tmps.getD p undef = .pointer (some ⟨b, 0, none⟩)) (hq : a.tmps.getD q undef = .pointer (some ⟨c, 0, none⟩)) (hu : a.tmps.getD r undef = u) (h : Box w b y0 y1 y2 y3 y4 y5 y6) (k : Box w c z0 z1 z2 z3 z4 z5 z6)
    (hQ : Q (.returned (.tuple #[.agg #[y0, y1, y2, y3, y4, y5, y6], .agg #[z0, z1, z2, z3, z4, z5, z6], u])) w) : bodyPost Tryz.prog fn Q .ret a w := by
  subst hu
  exact bodyPost_ret (results_two hres _ hp hq h k) hd hQ

/-- The two boxes of an answer are set, in either order. -/
theorem two_set {w w3 W : World} {b c q : Nat} {x0 x1 x2 x3 x4 x5 x6 u0 u1 u2 u3 u4 u5 u6 : Value} (hf : Fr None' w w3) (hb : Box w3 b x0 x1 x2 x3 x4 x5 x6) (hc : Box w3 c u0 u1 u2 u3 u4 u5 u6) (f : Fr (fun k => k = q) w3 W) (hbq : ¬ b = q) (hcq : ¬ c = q) (hbc : ¬ b = c) (hwb : w.heap.size ≤ b) (hwc : w.heap.size ≤ c) (hwq : w.heap.size ≤ q) (y0 y1 y2 y3 y4 y5 y6 z0 z1 z2 z3 z4 z5 z6 : Value) :
    (Box (setP (setP W b y0 y1 y2 y3 y4 y5 y6) c z0 z1 z2 z3 z4 z5 z6) b y0 y1 y2 y3 y4 y5 y6 ∧ Box (setP (setP W b y0 y1 y2 y3 y4 y5 y6) c z0 z1 z2 z3 z4 z5 z6) c z0 z1 z2 z3 z4 z5 z6 ∧ Fr None' w (setP (setP W b y0 y1 y2 y3 y4 y5 y6) c z0 z1 z2 z3 z4 z5 z6)) :=
  ⟨((hb.fr f hbq).all y0 y1 y2 y3 y4 y5 y6).fr (Fr.setP (M := fun k => k = c) _ rfl _ _ _ _ _ _ _) hbc, (((hc.fr f hcq).fr (Fr.setP (M := fun k => k = b) W rfl y0 y1 y2 y3 y4 y5 y6) (fun e => hbc e.symm))).all _ _ _ _ _ _ _,
   ((hf.trans f (fun _ e => Or.inr (by omega))).trans (Fr.setP (M := fun k => k = b) W rfl _ _ _ _ _ _ _) (fun _ e => Or.inr (by omega))).trans (Fr.setP (M := fun k => k = c) _ rfl _ _ _ _ _ _ _) (fun _ e => Or.inr (by omega))⟩

/-- The two boxes of an answer are set. -/
theorem two_set0 {w W : World} {b c : Nat} {x0 x1 x2 x3 x4 x5 x6 u0 u1 u2 u3 u4 u5 u6 : Value} (hf : Fr None' w W) (hb : Box W b x0 x1 x2 x3 x4 x5 x6) (hc : Box W c u0 u1 u2 u3 u4 u5 u6) (hbc : ¬ b = c) (hwb : w.heap.size ≤ b) (hwc : w.heap.size ≤ c) (y0 y1 y2 y3 y4 y5 y6 z0 z1 z2 z3 z4 z5 z6 : Value) :
    (Box (setP (setP W b y0 y1 y2 y3 y4 y5 y6) c z0 z1 z2 z3 z4 z5 z6) b y0 y1 y2 y3 y4 y5 y6 ∧ Box (setP (setP W b y0 y1 y2 y3 y4 y5 y6) c z0 z1 z2 z3 z4 z5 z6) c z0 z1 z2 z3 z4 z5 z6 ∧ Fr None' w (setP (setP W b y0 y1 y2 y3 y4 y5 y6) c z0 z1 z2 z3 z4 z5 z6) ∧ Fr (fun k => k = b ∨ k = c) W (setP (setP W b y0 y1 y2 y3 y4 y5 y6) c z0 z1 z2 z3 z4 z5 z6)) :=
  ⟨(hb.all y0 y1 y2 y3 y4 y5 y6).fr (Fr.setP (M := fun k => k = c) _ rfl _ _ _ _ _ _ _) hbc, ((hc.fr (Fr.setP (M := fun k => k = b) W rfl y0 y1 y2 y3 y4 y5 y6) (fun e => hbc e.symm))).all _ _ _ _ _ _ _,
   (hf.trans (Fr.setP (M := fun k => k = b) W rfl _ _ _ _ _ _ _) (fun _ e => Or.inr (by omega))).trans (Fr.setP (M := fun k => k = c) _ rfl _ _ _ _ _ _ _) (fun _ e => Or.inr (by omega)),
   (Fr.setP (M := fun k => k = b ∨ k = c) W (Or.inl rfl) _ _ _ _ _ _ _).then (Fr.setP (M := fun k => k = b ∨ k = c) _ (Or.inr rfl) _ _ _ _ _ _ _)⟩

theorem Box.drew {w : World} {b : Nat} {y0 y1 y2 y3 y4 y5 y6 : Value} (h : Box w b y0 y1 y2 y3 y4 y5 y6) : Box w.drew b y0 y1 y2 y3 y4 y5 y6 := h

theorem drewN_box {w : World} {n b : Nat} {y0 y1 y2 y3 y4 y5 y6 : Value} (h : Box w b y0 y1 y2 y3 y4 y5 y6) : Box (w.drewN n) b y0 y1 y2 y3 y4 y5 y6 := h

end Go.Proofs.YtjpgpbfnmokmiabGreatDoor

namespace Go.Proofs.YtjpgpbfnmokmiabGreatDoor
open Go.RowKit
set_option maxRecDepth 100000

theorem cls_kind {x y : Pr} (h : x.kind = y.kind) : clsP x = clsP y := by unfold clsP; rw [h]

theorem rule_cls (x y : Pr) : clsP (ruleC x y).1 = clsP y ∧ clsP (ruleC x y).2.1 = clsP x := by
  unfold ruleC changesC linesC changeMoveC moveChangeC
  (repeat' split) <;> exact ⟨cls_kind rfl, cls_kind rfl⟩

theorem rule_11 {x y : Pr} (h : clsP x = 1) (k : clsP y = 1) : ruleC x y = changesC x y := by unfold ruleC; simp [h, k]
theorem rule_12 {x y : Pr} (h : clsP x = 1) (k : clsP y = 2) : ruleC x y = changeMoveC x y := by unfold ruleC; simp [h, k]
theorem rule_21 {x y : Pr} (h : clsP x = 2) (k : clsP y = 1) : ruleC x y = moveChangeC x y := by unfold ruleC; simp [h, k]
theorem rule_un {x y : Pr} (h : clsP x = 1 ∧ clsP y = 0 ∨ clsP x = 0 ∧ clsP y = 1) : ruleC x y = (y, x, decide (¬ x.path = y.path)) := by unfold ruleC; rcases h with ⟨h, k⟩ | ⟨h, k⟩ <;> simp [h, k]
theorem rule_ap {x y : Pr} (h : clsP x = 0 ∨ clsP x = 2) (k : clsP y = 0 ∨ clsP y = 2) : ruleC x y = (y, x, apartP x y) := by unfold ruleC; rcases h with h | h <;> rcases k with k | k <;> simp [h, k]

theorem lines_back {x y : Pr} (h : (linesC x y).2.2 = true) : linesC (linesC x y).1 (linesC x y).2.1 = (x, y, true) := by
  obtain ⟨xK, xP, xT, xF, xA, xO, xN⟩ := x
  obtain ⟨yK, yP, yT, yF, yA, yO, yN⟩ := y
  unfold linesC at h ⊢
  simp only at h ⊢
  by_cases h1 : xA + xN.length < yA
  · rw [if_pos h1]
    simp only
    have e : yA + ((xO.length : Int) - xN.length) + ((xN.length : Int) - xO.length) = yA := by omega
    rw [if_neg (by omega), if_pos (by omega), e]
  · rw [if_neg h1] at h ⊢
    by_cases h2 : yA + yO.length < xA
    · rw [if_pos h2]
      simp only
      have e : xA + ((yN.length : Int) - yO.length) + ((yO.length : Int) - yN.length) = xA := by omega
      rw [if_pos (by omega), e]
    · rw [if_neg h2] at h
      simp at h

theorem lines_kp (x y : Pr) : (linesC x y).1.path = y.path ∧ (linesC x y).1.kind = y.kind ∧ (linesC x y).2.1.path = x.path ∧ (linesC x y).2.1.kind = x.kind := by
  unfold linesC
  (repeat' split) <;> exact ⟨rfl, rfl, rfl, rfl⟩

theorem changes_back {x y : Pr} (h : (changesC x y).2.2 = true) : changesC (changesC x y).1 (changesC x y).2.1 = (x, y, true) := by
  by_cases hp : x.path = y.path
  · by_cases hk : x.kind = 7 ∧ y.kind = 7
    · have e : changesC x y = linesC x y := by unfold changesC; rw [if_pos hp, if_pos hk]
      rw [e] at h ⊢
      obtain ⟨e1, e2, e3, e4⟩ := lines_kp x y
      have e' : changesC (linesC x y).1 (linesC x y).2.1 = linesC (linesC x y).1 (linesC x y).2.1 := by
        unfold changesC
        rw [if_pos (by rw [e1, e3, hp]), if_pos ⟨by rw [e2, hk.2], by rw [e4, hk.1]⟩]
      rw [e']
      exact lines_back h
    · unfold changesC at h
      rw [if_pos hp, if_neg hk] at h
      simp at h
  · unfold changesC
    rw [if_neg hp]
    simp only
    rw [if_neg (fun e => hp e.symm)]

/-- What was commuted is commuted back. -/
theorem rule_back {x y : Pr} (hx : rightP x = true) (hy : rightP y = true) (h : (ruleC x y).2.2 = true) : ruleC (ruleC x y).1 (ruleC x y).2.1 = (x, y, true) := by
  obtain ⟨k1, k2⟩ := rule_cls x y
  rcases cls_cases hx with ⟨c, _⟩ | ⟨c, _⟩ | ⟨c, _⟩ <;> rcases cls_cases hy with ⟨d, _⟩ | ⟨d, _⟩ | ⟨d, _⟩
  · rw [rule_ap (Or.inl c) (Or.inl d)] at h ⊢
    rw [rule_ap (Or.inl d) (Or.inl c), apartP_comm]
    simp only at h
    rw [h]
  · rw [rule_un (Or.inr ⟨c, d⟩)] at h ⊢
    rw [rule_un (Or.inl ⟨d, c⟩)]
    simp only [decide_eq_true_eq] at h
    rw [decide_eq_true (show ¬ y.path = x.path from fun e => h e.symm)]
  · rw [rule_ap (Or.inl c) (Or.inr d)] at h ⊢
    rw [rule_ap (Or.inr d) (Or.inl c), apartP_comm]
    simp only at h
    rw [h]
  · rw [rule_un (Or.inl ⟨c, d⟩)] at h ⊢
    rw [rule_un (Or.inr ⟨d, c⟩)]
    simp only [decide_eq_true_eq] at h
    rw [decide_eq_true (show ¬ y.path = x.path from fun e => h e.symm)]
  · rw [rule_11 (k1.trans d) (k2.trans c)]
    rw [rule_11 c d] at h ⊢
    exact changes_back h
  · rw [rule_21 (k1.trans d) (k2.trans c)]
    rw [rule_12 c d] at h ⊢
    unfold changeMoveC at h ⊢
    unfold moveChangeC
    simp only at h ⊢
    rw [carry_back h]
  · rw [rule_ap (Or.inr c) (Or.inl d)] at h ⊢
    rw [rule_ap (Or.inl d) (Or.inr c), apartP_comm]
    simp only at h
    rw [h]
  · rw [rule_12 (k1.trans d) (k2.trans c)]
    rw [rule_21 c d] at h ⊢
    unfold moveChangeC at h ⊢
    unfold changeMoveC
    simp only at h ⊢
    rw [carry_back h]
  · rw [rule_ap (Or.inr c) (Or.inr d)] at h ⊢
    rw [rule_ap (Or.inr d) (Or.inr c), apartP_comm]
    simp only at h
    rw [h]

theorem comm_back {x y : Pr} (h : (commP x y).2.2 = true) : rightP (commP x y).1 = true ∧ rightP (commP x y).2.1 = true ∧ commP (commP x y).1 (commP x y).2.1 = (x, y, true) := by
  obtain ⟨hx, hy, e, h1, h2, h3⟩ := commP_yes h
  rw [e]
  have hb := rule_back hx hy h1
  refine ⟨h2, h3, ?_⟩
  rw [commP_of h2 h3 (by rw [hb]) (by rw [hb]; exact hx) (by rw [hb]; exact hy), hb]

theorem apP_self (a : ByteArray) : apP a a = false := Path.apart_self _

/-- A patch is never commuted with itself. -/
theorem comm_self {x : Pr} : (commP x x).2.2 = false := by
  cases hc : (commP x x).2.2 with
  | false => rfl
  | true =>
    obtain ⟨hx, _, e, h1, _, _⟩ := commP_yes hc
    exfalso
    rcases cls_cases hx with ⟨c, _⟩ | ⟨c, _⟩ | ⟨c, _⟩
    · rw [rule_ap (Or.inl c) (Or.inl c)] at h1
      simp only at h1
      unfold apartP placesP at h1
      split at h1 <;> simp [apP_self] at h1
    · rw [rule_11 c c] at h1
      unfold changesC linesC at h1
      rw [if_pos rfl] at h1
      split at h1
      · rw [if_neg (by omega), if_neg (by omega)] at h1
        simp at h1
      · simp at h1
    · rw [rule_ap (Or.inr c) (Or.inr c)] at h1
      simp only at h1
      unfold apartP placesP at h1
      split at h1 <;> simp [apP_self] at h1

theorem apP_wi {a b : ByteArray} (h : apP a b = true) : wiP a b = false ∧ wiP b a = false := by
  unfold apP Path.apart at h
  simp at h
  exact h

theorem apP_ne {a b : ByteArray} (h : apP a b = true) : ¬ a = b := fun e => by
  subst e
  rw [apP_self] at h
  cases h

theorem apart_path {x y : Pr} (h : apartP x y = true) : apP x.path y.path = true := by
  unfold apartP placesP at h
  split at h <;> split at h <;> simp at h <;> simp [h]

theorem carry_far {a f t : ByteArray} (h : apP a f = true) (k : apP a t = true) : carryP a f t = (a, true) := by
  unfold carryP
  rw [(apP_wi h).1, (apP_wi k).1]
  rfl

/-- Patches whose paths are apart are commuted as they are. -/
theorem comm_apart {x y : Pr} (hx : rightP x = true) (hy : rightP y = true) (h : apartP x y = true) : commP x y = (y, x, true) := by
  have e : ruleC x y = (y, x, true) := by
    have hn := apP_ne (apart_path h)
    rcases cls_cases hx with ⟨c, _⟩ | ⟨c, _⟩ | ⟨c, c'⟩ <;> rcases cls_cases hy with ⟨d, _⟩ | ⟨d, _⟩ | ⟨d, d'⟩
    · rw [rule_ap (Or.inl c) (Or.inl d), h]
    · rw [rule_un (Or.inr ⟨c, d⟩), decide_eq_true hn]
    · rw [rule_ap (Or.inl c) (Or.inr d), h]
    · rw [rule_un (Or.inl ⟨c, d⟩), decide_eq_true hn]
    · rw [rule_11 c d]
      unfold changesC
      rw [if_neg hn]
    · rw [rule_12 c d]
      unfold changeMoveC
      have k : apP x.path y.path = true ∧ apP x.path y.dst = true := by
        unfold apartP placesP at h
        rw [if_pos d'] at h
        split at h <;> simp at h <;> simp [h]
      rw [carry_far k.1 k.2]
    · rw [rule_ap (Or.inr c) (Or.inl d), h]
    · rw [rule_21 c d]
      unfold moveChangeC
      have k : apP x.path y.path = true ∧ apP x.dst y.path = true := by
        unfold apartP placesP at h
        rw [if_pos c'] at h
        split at h <;> simp at h <;> simp [h]
      rw [carry_far (by rw [apP_comm]; exact k.2) (by rw [apP_comm]; exact k.1)]
    · rw [rule_ap (Or.inr c) (Or.inr d), h]
  rw [commP_of hx hy (by rw [e]) (by rw [e]; exact hy) (by rw [e]; exact hx), e]

theorem inv_path {x : Pr} (h : clsP x = 0 ∨ clsP x = 1) (hr : rightP x = true) : (inv x).path = x.path ∧ clsP (inv x) = clsP x := by
  obtain ⟨K, P, T, F, A, lO, lN⟩ := x
  unfold rightP at hr
  simp only [Bool.and_eq_true, decide_eq_true_eq] at hr
  rcases kinds10 hr.1.1 with rfl | rfl | rfl | rfl | rfl | rfl | rfl | rfl | rfl | rfl <;> simp [clsP] at h <;> simp [inv, clsP]

theorem inv_move {x : Pr} (h : x.kind = 10) : (inv x).path = x.dst ∧ (inv x).dst = x.path ∧ (inv x).kind = 10 ∧ clsP (inv x) = 2 := by
  obtain ⟨K, P, T, F, A, lO, lN⟩ := x
  simp only at h
  subst h
  simp [inv, clsP]

theorem inv_cls {x : Pr} (hr : rightP x = true) : clsP (inv x) = clsP x := by
  rcases cls_cases hr with ⟨c, _⟩ | ⟨c, _⟩ | ⟨c, c'⟩
  · exact (inv_path (Or.inl c) hr).2
  · exact (inv_path (Or.inr c) hr).2
  · rw [(inv_move c').2.2.2, c]

theorem inv_at {x : Pr} (h : clsP x = 1) (hr : rightP x = true) (p : ByteArray) : inv { x with path := p } = { inv x with path := p } := by
  obtain ⟨K, P, T, F, A, lO, lN⟩ := x
  unfold rightP at hr
  simp only [Bool.and_eq_true, decide_eq_true_eq] at hr
  rcases kinds10 hr.1.1 with rfl | rfl | rfl | rfl | rfl | rfl | rfl | rfl | rfl | rfl <;> simp [clsP] at h <;> simp [inv]

theorem inv_places {x : Pr} (hr : rightP x = true) : placesP (inv x) = placesP x ∨ x.kind = 10 ∧ placesP (inv x) = [x.dst, x.path] ∧ placesP x = [x.path, x.dst] := by
  rcases cls_cases hr with ⟨c, c1, c2⟩ | ⟨c, c1, c2⟩ | ⟨c, c'⟩
  · refine Or.inl ?_
    have hk := inv_cls hr
    rw [c] at hk
    have : ¬ (inv x).kind = 10 := fun e => by unfold clsP at hk; rw [e] at hk; simp at hk
    unfold placesP
    rw [if_neg this, if_neg (by omega), (inv_path (Or.inl c) hr).1]
  · refine Or.inl ?_
    have hk := inv_cls hr
    rw [c] at hk
    have : ¬ (inv x).kind = 10 := fun e => by unfold clsP at hk; rw [e] at hk; simp at hk
    unfold placesP
    rw [if_neg this, if_neg (by omega), (inv_path (Or.inr c) hr).1]
  · refine Or.inr ⟨c', ?_, ?_⟩
    · obtain ⟨e1, e2, e3, _⟩ := inv_move c'
      unfold placesP
      rw [if_pos e3, e1, e2]
    · unfold placesP
      rw [if_pos c']

theorem inv_apart {x y : Pr} (hx : rightP x = true) (hy : rightP y = true) : apartP (inv x) (inv y) = apartP x y := by
  unfold apartP
  rcases inv_places hx with e | ⟨_, e, e'⟩ <;> rcases inv_places hy with f | ⟨_, f, f'⟩
  · rw [e, f]
  · rw [e, f, f']
    congr 1
    funext a
    simp [Bool.and_comm]
  · rw [e, e', f]
    simp [Bool.and_comm]
  · rw [e, e', f, f']
    simp only [List.all_cons, List.all_nil, Bool.and_true]
    ac_rfl

theorem inv_lines {x : Pr} (h : x.kind = 7) : inv x = { x with old := x.new, new := x.old } := by
  obtain ⟨K, P, T, F, A, lO, lN⟩ := x
  simp only at h
  subst h
  simp [inv]

theorem lines_inv {x y : Pr} (hx : x.kind = 7) (hy : y.kind = 7) (h : (linesC x y).2.2 = true) : linesC (inv (linesC x y).2.1) (inv (linesC x y).1) = (inv y, inv x, true) := by
  obtain ⟨e1, e2, e3, e4⟩ := lines_kp x y
  rw [inv_lines (e4.trans hx), inv_lines (e2.trans hy), inv_lines hx, inv_lines hy]
  clear e1 e2 e3 e4
  obtain ⟨xK, xP, xT, xF, xA, xO, xN⟩ := x
  obtain ⟨yK, yP, yT, yF, yA, yO, yN⟩ := y
  unfold linesC at h ⊢
  simp only at h ⊢
  by_cases h1 : xA + xN.length < yA
  · rw [if_pos h1]
    simp only
    have e : yA + ((xO.length : Int) - xN.length) + ((xN.length : Int) - xO.length) = yA := by omega
    rw [if_pos (by omega), e]
  · rw [if_neg h1] at h ⊢
    by_cases h2 : yA + yO.length < xA
    · rw [if_pos h2]
      simp only
      have e : xA + ((yN.length : Int) - yO.length) + ((yO.length : Int) - yN.length) = xA := by omega
      rw [if_neg (by omega), if_pos (by omega), e]
    · rw [if_neg h2] at h
      simp at h

/-- What undoes two patches that can be commuted can be, too. -/
theorem rule_inv {x y : Pr} (hx : rightP x = true) (hy : rightP y = true) (h : (ruleC x y).2.2 = true) (h1 : rightP (ruleC x y).1 = true) (h2 : rightP (ruleC x y).2.1 = true) : ruleC (inv (ruleC x y).2.1) (inv (ruleC x y).1) = (inv y, inv x, true) := by
  obtain ⟨k1, k2⟩ := rule_cls x y
  have i1 := (inv_cls h1).trans k1
  have i2 := (inv_cls h2).trans k2
  rcases cls_cases hx with ⟨c, _⟩ | ⟨c, _⟩ | ⟨c, c'⟩ <;> rcases cls_cases hy with ⟨d, _⟩ | ⟨d, _⟩ | ⟨d, d'⟩
  · rw [rule_ap (Or.inl (i2.trans c)) (Or.inl (i1.trans d))]
    rw [rule_ap (Or.inl c) (Or.inl d)] at h ⊢
    simp only at h ⊢
    rw [inv_apart hx hy, h]
  · rw [rule_un (Or.inr ⟨i2.trans c, i1.trans d⟩)]
    rw [rule_un (Or.inr ⟨c, d⟩)] at h ⊢
    simp only [decide_eq_true_eq] at h
    simp only
    rw [(inv_path (Or.inl c) hx).1, (inv_path (Or.inr d) hy).1, decide_eq_true h]
  · rw [rule_ap (Or.inl (i2.trans c)) (Or.inr (i1.trans d))]
    rw [rule_ap (Or.inl c) (Or.inr d)] at h ⊢
    simp only at h ⊢
    rw [inv_apart hx hy, h]
  · rw [rule_un (Or.inl ⟨i2.trans c, i1.trans d⟩)]
    rw [rule_un (Or.inl ⟨c, d⟩)] at h ⊢
    simp only [decide_eq_true_eq] at h
    simp only
    rw [(inv_path (Or.inr c) hx).1, (inv_path (Or.inl d) hy).1, decide_eq_true h]
  · rw [rule_11 (i2.trans c) (i1.trans d)]
    rw [rule_11 c d] at h h1 h2 ⊢
    by_cases hp : x.path = y.path
    · by_cases hk : x.kind = 7 ∧ y.kind = 7
      · have e : changesC x y = linesC x y := by unfold changesC; rw [if_pos hp, if_pos hk]
        rw [e] at h h1 h2 ⊢
        obtain ⟨e1, e2, e3, e4⟩ := lines_kp x y
        have e' : changesC (inv (linesC x y).2.1) (inv (linesC x y).1) = linesC (inv (linesC x y).2.1) (inv (linesC x y).1) := by
          unfold changesC
          rw [inv_lines (e4.trans hk.1), inv_lines (e2.trans hk.2)]
          rw [if_pos (by simp only; rw [e1, e3, hp]), if_pos ⟨by simp only; rw [e4, hk.1], by simp only; rw [e2, hk.2]⟩]
        rw [e']
        exact lines_inv hk.1 hk.2 h
      · unfold changesC at h
        rw [if_pos hp, if_neg hk] at h
        simp at h
    · have e : changesC x y = (y, x, true) := by unfold changesC; rw [if_neg hp]
      rw [e]
      unfold changesC
      simp only
      rw [if_neg (by rw [(inv_path (Or.inr c) hx).1, (inv_path (Or.inr d) hy).1]; exact hp)]
  · rw [rule_12 (i2.trans c) (i1.trans d)]
    rw [rule_12 c d] at h ⊢
    unfold changeMoveC at h ⊢
    simp only at h ⊢
    obtain ⟨m1, m2, _, _⟩ := inv_move d'
    rw [inv_at c hx, m1, m2]
    simp only
    rw [carry_back h]
    have hq := (inv_path (Or.inr c) hx).1
    rw [← hq]
  · rw [rule_ap (Or.inr (i2.trans c)) (Or.inl (i1.trans d))]
    rw [rule_ap (Or.inr c) (Or.inl d)] at h ⊢
    simp only at h ⊢
    rw [inv_apart hx hy, h]
  · rw [rule_21 (i2.trans c) (i1.trans d)]
    rw [rule_21 c d] at h ⊢
    unfold moveChangeC at h ⊢
    simp only at h ⊢
    obtain ⟨m1, m2, _, _⟩ := inv_move c'
    rw [inv_at d hy, m1, m2]
    simp only
    rw [carry_back h]
    have hq := (inv_path (Or.inr d) hy).1
    rw [← hq]
  · rw [rule_ap (Or.inr (i2.trans c)) (Or.inr (i1.trans d))]
    rw [rule_ap (Or.inr c) (Or.inr d)] at h ⊢
    simp only at h ⊢
    rw [inv_apart hx hy, h]

theorem comm_inv {x y : Pr} (h : (commP x y).2.2 = true) : commP (inv (commP x y).2.1) (inv (commP x y).1) = (inv y, inv x, true) := by
  obtain ⟨hx, hy, e, h1, h2, h3⟩ := commP_yes h
  rw [e]
  have hb := rule_inv hx hy h1 h2 h3
  rw [commP_of (right_inv h3) (right_inv h2) (by rw [hb]) (by rw [hb]; exact right_inv hy) (by rw [hb]; exact right_inv hx), hb]

theorem past_no {p : Pr} {l : List Pr} (h : (pastP p l).2.2 = false) : pastP p l = ([], zeroP, false) := by
  cases l with
  | nil => simp [pastP] at h
  | cons q l =>
    simp only [pastP] at h ⊢
    split
    · rename_i hc
      rw [if_pos hc] at h
      split
      · rename_i ht
        rw [if_pos ht] at h
        simp at h
      · rfl
    · rfl

/-- A patch passes two rows one behind the other. -/
theorem past_append : ∀ (a b : List Pr) (p : Pr), pastP p (a ++ b) = if (pastP p a).2.2 then (if (pastP (pastP p a).2.1 b).2.2 then ((pastP p a).1 ++ (pastP (pastP p a).2.1 b).1, (pastP (pastP p a).2.1 b).2.1, true) else ([], zeroP, false)) else ([], zeroP, false)
  | [], b, p => by
    show pastP p b = if true = true then (if (pastP p b).2.2 = true then ((pastP p b).1, (pastP p b).2.1, true) else ([], zeroP, false)) else ([], zeroP, false)
    rw [if_pos rfl]
    by_cases h : (pastP p b).2.2 = true
    · rw [if_pos h, ← h]
    · rw [if_neg h]
      exact past_no (by simpa using h)
  | q :: a, b, p => by
    simp only [List.cons_append, pastP]
    by_cases hc : (commP p q).2.2 = true
    · rw [if_pos hc, if_pos hc, past_append a b (commP p q).2.1]
      by_cases ha : (pastP (commP p q).2.1 a).2.2 = true
      · rw [if_pos ha, if_pos ha]
        simp only [if_true]
        by_cases hb : (pastP (pastP (commP p q).2.1 a).2.1 b).2.2 = true
        · rw [if_pos hb, if_pos hb]
          rfl
        · rw [if_neg hb, if_neg hb]
          rfl
      · rw [if_neg ha, if_neg ha]
        rfl
    · rw [if_neg hc, if_neg hc]
      rfl

end Go.Proofs.YtjpgpbfnmokmiabGreatDoor
