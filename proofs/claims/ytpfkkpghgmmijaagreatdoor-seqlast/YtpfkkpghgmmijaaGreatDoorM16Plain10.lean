/-
  What is proved here: the contracts that the statement stands on: Plain10, CommT8, CommM8, CommW8, Laws10, Plain11. Conditions: as each theorem names them.
-/
import Derived.Test.YtpfkkpghgmmijaaGreatDoorM9Strs9
import Derived.Test.YtpfkkpghgmmijaaGreatDoorM15PRRest
import Derived.Test.YtpfkkpghgmmijaaGreatDoorM10Box9
namespace Go.Proofs.YtpfkkpghgmmijaaGreatDoor
open Go.RowKit
set_option maxRecDepth 100000

/-- Classes of patches: 0 an addition, 1 a change, 2 a Move. -/
def clsP (x : Pr) : Nat := if x.kind ≤ 6 then 0 else if x.kind = 10 then 2 else 1

def apP (a b : ByteArray) : Bool := Path.apart a.data.toList b.data.toList
def wiP (a b : ByteArray) : Bool := Path.within a.data.toList b.data.toList
def moP (a b c : ByteArray) : ByteArray := ⟨(Path.moved a.data.toList b.data.toList c.data.toList).toArray⟩

/-- The paths that a patch has. -/
def placesP (x : Pr) : List ByteArray := if x.kind = 10 then [x.path, x.dst] else [x.path]

def apartP (p q : Pr) : Bool := (placesP p).all fun a => (placesP q).all fun b => apP a b

/-- Where a path is, once all within one is at another. -/
def carryP (a f t : ByteArray) : ByteArray × Bool := if wiP a f then (moP a f t, true) else (a, !wiP a t)

/-- Two Lines of one path. -/
def linesC (p q : Pr) : Pr × Pr × Bool :=
  if p.pos + p.new.length < q.pos then ({ q with pos := q.pos + (p.old.length - p.new.length) }, p, true)
  else if q.pos + q.old.length < p.pos then (q, { p with pos := p.pos + (q.new.length - q.old.length) }, true)
  else (q, p, false)

def changesC (p q : Pr) : Pr × Pr × Bool := if p.path = q.path then (if p.kind = 7 ∧ q.kind = 7 then linesC p q else (q, p, false)) else (q, p, true)

def changeMoveC (p q : Pr) : Pr × Pr × Bool := (q, { p with path := (carryP p.path q.path q.dst).1 }, (carryP p.path q.path q.dst).2)
def moveChangeC (p q : Pr) : Pr × Pr × Bool := ({ q with path := (carryP q.path p.dst p.path).1 }, p, (carryP q.path p.dst p.path).2)

/-- What two right patches are the other way about. -/
def ruleC (p q : Pr) : Pr × Pr × Bool :=
  if clsP p = 1 ∧ clsP q = 1 then changesC p q
  else if clsP p = 1 ∧ clsP q = 2 then changeMoveC p q
  else if clsP p = 2 ∧ clsP q = 1 then moveChangeC p q
  else if clsP p = 1 ∨ clsP q = 1 then (q, p, decide (¬ p.path = q.path))
  else (q, p, apartP p q)

def noneC : Pr × Pr × Bool := (zeroP, zeroP, false)

def checkC (r : Pr × Pr × Bool) : Pr × Pr × Bool := if r.2.2 && rightP r.1 && rightP r.2.1 then r else noneC

/-- What two patches are the other way about. -/
def commP (p q : Pr) : Pr × Pr × Bool := if rightP p && rightP q then checkC (ruleC p q) else noneC

/-- A patch, and several behind it, the other way about. -/
def pastP : Pr → List Pr → List Pr × Pr × Bool
  | p, [] => ([], p, true)
  | p, q :: l => if (commP p q).2.2 then (match pastP (commP p q).2.1 l with | (a, b, t) => if t then ((commP p q).1 :: a, b, true) else ([], zeroP, false)) else ([], zeroP, false)

theorem checkC_yes {r : Pr × Pr × Bool} (h : (checkC r).2.2 = true) : checkC r = r ∧ r.2.2 = true ∧ rightP r.1 = true ∧ rightP r.2.1 = true := by
  unfold checkC at h ⊢
  split
  · rename_i hc
    simp only [Bool.and_eq_true] at hc
    exact ⟨rfl, hc.1.1, hc.1.2, hc.2⟩
  · rename_i hc
    rw [if_neg hc] at h
    simp [noneC] at h

theorem commP_yes {p q : Pr} (h : (commP p q).2.2 = true) : rightP p = true ∧ rightP q = true ∧ commP p q = ruleC p q ∧ (ruleC p q).2.2 = true ∧ rightP (ruleC p q).1 = true ∧ rightP (ruleC p q).2.1 = true := by
  unfold commP at h ⊢
  split
  · rename_i hc
    rw [if_pos hc] at h
    simp only [Bool.and_eq_true] at hc
    obtain ⟨h1, h2, h3, h4⟩ := checkC_yes h
    exact ⟨hc.1, hc.2, h1, h2, h3, h4⟩
  · rename_i hc
    rw [if_neg hc] at h
    simp [noneC] at h

theorem commP_of {p q : Pr} (hp : rightP p = true) (hq : rightP q = true) (h : (ruleC p q).2.2 = true) (h1 : rightP (ruleC p q).1 = true) (h2 : rightP (ruleC p q).2.1 = true) : commP p q = ruleC p q := by
  unfold commP checkC
  simp [hp, hq, h, h1, h2]

theorem apP_comm (a b : ByteArray) : apP a b = apP b a := Path.apart_comm _ _

theorem moP_list (a b c : ByteArray) : (moP a b c).data.toList = Path.moved a.data.toList b.data.toList c.data.toList := by simp [moP]

theorem wiP_moved {a f t : ByteArray} (h : wiP a f = true) : wiP (moP a f t) t = true ∧ moP (moP a f t) t f = a := by
  unfold wiP at h ⊢
  rcases (Path.within_iff _ _).1 h with e | ⟨r, e⟩
  · have h1 : (moP a f t).data.toList = t.data.toList := by rw [moP_list, e, Path.moved_self]
    refine ⟨by rw [h1]; exact Path.within_refl _, ?_⟩
    rw [Path.bytes_eq, moP_list, h1, Path.moved_self, e]
  · have h1 : (moP a f t).data.toList = t.data.toList ++ 47 :: r := by rw [moP_list, e, Path.moved_join]
    refine ⟨by rw [h1]; exact Path.within_join _ _, ?_⟩
    rw [Path.bytes_eq, moP_list, h1, Path.moved_join, e]

/-- What is carried is carried back. -/
theorem carry_back {a f t : ByteArray} (h : (carryP a f t).2 = true) : carryP (carryP a f t).1 t f = (a, true) := by
  unfold carryP at h ⊢
  by_cases hw : wiP a f = true
  · obtain ⟨h1, h2⟩ := wiP_moved (t := t) hw
    simp [hw, h1, h2]
  · simp only [Bool.not_eq_true] at hw
    simp [hw] at h ⊢
    simp [h]

theorem cls_cases {x : Pr} (h : rightP x = true) : (clsP x = 0 ∧ x.kind ≤ 6 ∧ 1 ≤ x.kind) ∨ (clsP x = 1 ∧ 7 ≤ x.kind ∧ x.kind ≤ 9) ∨ (clsP x = 2 ∧ x.kind = 10) := by
  unfold rightP at h
  simp only [Bool.and_eq_true, decide_eq_true_eq] at h
  obtain ⟨⟨⟨h1, h2⟩, _⟩, _⟩ := h
  unfold clsP
  (repeat' split) <;> omega

theorem apartP_comm (p q : Pr) : apartP p q = apartP q p := by
  unfold apartP placesP
  (repeat' split) <;> simp only [List.all_cons, List.all_nil, Bool.and_true] <;> simp only [apP_comm p.path, apP_comm p.dst] <;> ac_rfl

end Go.Proofs.YtpfkkpghgmmijaaGreatDoor

namespace Go.Proofs.YtpfkkpghgmmijaaGreatDoor
open Go.RowKit
set_option maxRecDepth 100000

/-- What a patch asks, and what it turns. -/
def depF (p : Pr) (s : List UInt8) : Prop :=
  if p.kind = 1 ∨ p.kind = 3 ∨ p.kind = 5 then s = bl p.path ∨ Path.parent (bl p.path) = some s
  else if p.kind = 2 ∨ p.kind = 4 ∨ p.kind = 6 then Path.within s (bl p.path) = true
  else if p.kind = 10 then s = bl p.dst ∨ Path.parent (bl p.dst) = some s ∨ Path.within s (bl p.path) = true
  else s = bl p.path

def modF (p : Pr) (s : List UInt8) : Prop := if p.kind = 10 then Path.within s (bl p.path) = true ∨ Path.within s (bl p.dst) = true else s = bl p.path

theorem okF_congr {p : Pr} {f g : Fm} (h : ∀ s, depF p s → f s = g s) (ho : okF p f) : okF p g := by
  unfold okF at *
  unfold depF at h
  by_cases k1 : p.kind = 1 ∨ p.kind = 3 ∨ p.kind = 5
  · simp only [if_pos k1] at h ho ⊢
    refine ⟨by rw [← h _ (Or.inl rfl)]; exact ho.1, fun q hq => ?_⟩
    rw [← h q (Or.inr hq)]; exact ho.2 q hq
  · simp only [if_neg k1] at h ho ⊢
    by_cases k2 : p.kind = 2 ∨ p.kind = 4 ∨ p.kind = 6
    · simp only [if_pos k2] at h ho ⊢
      refine ⟨by rw [← h _ (Path.within_refl _)]; exact ho.1, fun s hs hn => ?_⟩
      rw [← h s hs]; exact ho.2 s hs hn
    · simp only [if_neg k2] at h ho ⊢
      by_cases k3 : p.kind = 10
      · simp only [if_pos k3] at h ho ⊢
        refine ⟨by rw [← h _ (Or.inr (Or.inr (Path.within_refl _)))]; exact ho.1, ⟨by rw [← h _ (Or.inl rfl)]; exact ho.2.1.1, fun q hq => ?_⟩, fun s hs hn => ?_⟩
        · rw [← h q (Or.inr (Or.inl hq))]; exact ho.2.1.2 q hq
        · rw [← h s (Or.inr (Or.inr hs))] at hn; exact ho.2.2 s hs hn
      · simp only [if_neg k3] at h ho ⊢
        rw [← h _ rfl]; exact ho

theorem effF_off {p : Pr} {f : Fm} {s : List UInt8} (h : ¬ modF p s) : effF p f s = f s := by
  unfold modF at h
  unfold effF
  by_cases k3 : p.kind = 10
  · rw [if_pos k3] at h
    rw [if_neg (by omega), if_neg (by omega), if_pos k3, if_neg (fun e => h (Or.inr e)), if_neg (fun e => h (Or.inl e))]
  · rw [if_neg k3] at h
    simp only [if_neg h, if_neg k3, ite_self]

theorem effF_on {p : Pr} {f g : Fm} {s : List UInt8} (hm : modF p s) (h : ∀ t, depF p t → f t = g t) : effF p f s = effF p g s := by
  unfold modF at hm
  unfold depF at h
  unfold effF
  by_cases k1 : p.kind = 1 ∨ p.kind = 3 ∨ p.kind = 5
  · rw [if_neg (by omega)] at hm
    simp only [if_pos k1, if_pos hm]
  · simp only [if_neg k1] at h ⊢
    by_cases k2 : p.kind = 2 ∨ p.kind = 4 ∨ p.kind = 6
    · rw [if_neg (by omega)] at hm
      simp only [if_pos k2, if_pos hm]
    · simp only [if_neg k2] at h ⊢
      by_cases k3 : p.kind = 10
      · simp only [if_pos k3] at h hm ⊢
        by_cases hw : Path.within s (bl p.dst) = true
        · rw [if_pos hw, if_pos hw, h _ (Or.inr (Or.inr (back_within hw)))]
        · have hm' := hm.resolve_right hw
          rw [if_neg hw, if_neg hw, if_pos hm', if_pos hm']
      · simp only [if_neg k3] at h hm ⊢
        rw [if_pos hm, if_pos hm, h s hm]

/-- Patches none of which asks or turns what the other one turns. -/
theorem comm_gen {p q : Pr} {f : Fm} (h1 : ∀ s, depF q s → ¬ modF p s) (h2 : ∀ s, depF p s → ¬ modF q s) (h3 : ∀ s, modF p s → ¬ modF q s) (op : okF p f) (oq : okF q (effF p f)) : okF q f ∧ okF p (effF q f) ∧ ∀ s, effF p (effF q f) s = effF q (effF p f) s := by
  refine ⟨okF_congr (fun s hs => effF_off (h1 s hs)) oq, okF_congr (fun s hs => (effF_off (h2 s hs)).symm) op, fun s => ?_⟩
  by_cases m1 : modF p s
  · rw [effF_off (h3 s m1)]
    exact effF_on m1 (fun t ht => effF_off (h2 t ht))
  · rw [effF_off m1]
    by_cases m2 : modF q s
    · exact (effF_on m2 (fun t ht => effF_off (h1 t ht))).symm
    · rw [effF_off m2, effF_off m2, effF_off m1]

theorem within_common {s P A : List UInt8} (h : Path.within s P = true) (k : Path.within s A = true) : Path.within P A = true ∨ Path.within A P = true := by
  obtain ⟨r, e1, hr⟩ := within_app h
  obtain ⟨t, e2, ht⟩ := within_app k
  rw [e1] at e2
  rcases List.append_eq_append_iff.1 e2 with ⟨u, ea, eb⟩ | ⟨u, ea, eb⟩
  · right
    rw [ea]
    refine within_of ?_
    rcases hr with rfl | ⟨z, rfl⟩
    · exact Or.inl (List.append_eq_nil_iff.1 eb.symm).1
    · cases u with
      | nil => exact Or.inl rfl
      | cons c u => rw [List.cons_append] at eb; cases eb; exact Or.inr ⟨u, rfl⟩
  · left
    rw [ea]
    refine within_of ?_
    rcases ht with rfl | ⟨z, rfl⟩
    · exact Or.inl (List.append_eq_nil_iff.1 eb.symm).1
    · cases u with
      | nil => exact Or.inl rfl
      | cons c u => rw [List.cons_append] at eb; cases eb; exact Or.inr ⟨u, rfl⟩

theorem apart_no {P A : List UInt8} (h : Path.apart P A = true) : Path.within P A = false ∧ Path.within A P = false := by
  unfold Path.apart at h
  simp only [Bool.and_eq_true, Bool.not_eq_true'] at h
  exact h

/-- Apart: nothing is within both, nor is one within the other's parent's .. -/
theorem apart_both {s P A : List UInt8} (h : Path.apart P A = true) (a : Path.within s P = true) (b : Path.within s A = true) : False := by
  obtain ⟨h1, h2⟩ := apart_no h
  rcases within_common a b with e | e
  · rw [h1] at e; cases e
  · rw [h2] at e; cases e

theorem parent_in {P s : List UInt8} (h : Path.parent P = some s) : Path.within P s = true := by
  obtain ⟨b, e, _⟩ := Path.parent_some h
  rw [e]; exact Path.within_join _ _

/-- The parent of one is within none that is apart from it. -/
theorem apart_parent {P A s : List UInt8} (h : Path.apart P A = true) (e : Path.parent P = some s) (b : Path.within s A = true) : False := by
  obtain ⟨h1, _⟩ := apart_no h
  rw [Path.within_trans (parent_in e) b] at h1
  cases h1

theorem places_mod {p : Pr} {s : List UInt8} (h : modF p s) : ∃ a ∈ placesP p, Path.within s (bl a) = true := by
  unfold modF at h
  unfold placesP
  by_cases k3 : p.kind = 10
  · rw [if_pos k3] at h ⊢
    rcases h with h | h
    · exact ⟨p.path, by simp, h⟩
    · exact ⟨p.dst, by simp, h⟩
  · rw [if_neg k3] at h ⊢
    exact ⟨p.path, by simp, by rw [h]; exact Path.within_refl _⟩

theorem places_dep {p : Pr} {s : List UInt8} (h : depF p s) : ∃ a ∈ placesP p, Path.within s (bl a) = true ∨ Path.parent (bl a) = some s := by
  unfold depF at h
  unfold placesP
  by_cases k1 : p.kind = 1 ∨ p.kind = 3 ∨ p.kind = 5
  · rw [if_pos k1] at h
    rw [if_neg (by omega)]
    rcases h with rfl | h
    · exact ⟨p.path, by simp, Or.inl (Path.within_refl _)⟩
    · exact ⟨p.path, by simp, Or.inr h⟩
  · rw [if_neg k1] at h
    by_cases k2 : p.kind = 2 ∨ p.kind = 4 ∨ p.kind = 6
    · rw [if_pos k2] at h
      rw [if_neg (by omega)]
      exact ⟨p.path, by simp, Or.inl h⟩
    · rw [if_neg k2] at h
      by_cases k3 : p.kind = 10
      · rw [if_pos k3] at h ⊢
        rcases h with rfl | h | h
        · exact ⟨p.dst, by simp, Or.inl (Path.within_refl _)⟩
        · exact ⟨p.dst, by simp, Or.inr h⟩
        · exact ⟨p.path, by simp, Or.inl h⟩
      · rw [if_neg k3] at h ⊢
        exact ⟨p.path, by simp, Or.inl (by rw [h]; exact Path.within_refl _)⟩

/-- Patches whose paths are all apart. -/
theorem comm_apart8 {p q : Pr} {f : Fm} (ha : apartP p q = true) (op : okF p f) (oq : okF q (effF p f)) : okF q f ∧ okF p (effF q f) ∧ ∀ s, effF p (effF q f) s = effF q (effF p f) s := by
  have key : ∀ a ∈ placesP p, ∀ b ∈ placesP q, Path.apart (bl a) (bl b) = true := fun a h1 b h2 => List.all_eq_true.1 (List.all_eq_true.1 ha a h1) b h2
  refine comm_gen (fun s hd hm => ?_) (fun s hd hm => ?_) (fun s h1 h2 => ?_) op oq
  · obtain ⟨b, hb, hd⟩ := places_dep hd
    obtain ⟨a, ha, hm⟩ := places_mod hm
    rcases hd with hd | hd
    · exact apart_both (key a ha b hb) hm hd
    · exact apart_parent ((Path.apart_comm _ _).trans (key a ha b hb)) hd hm
  · obtain ⟨a, ha, hd⟩ := places_dep hd
    obtain ⟨b, hb, hm⟩ := places_mod hm
    rcases hd with hd | hd
    · exact apart_both (key a ha b hb) hd hm
    · exact apart_parent (key a ha b hb) hd hm
  · obtain ⟨a, ha, h1⟩ := places_mod h1
    obtain ⟨b, hb, h2⟩ := places_mod h2
    exact apart_both (key a ha b hb) h1 h2

/-! ## Changes -/

theorem chg_not {p : Pr} (k : p.kind = 7 ∨ p.kind = 8 ∨ p.kind = 9) : ¬ (p.kind = 1 ∨ p.kind = 3 ∨ p.kind = 5) ∧ ¬ (p.kind = 2 ∨ p.kind = 4 ∨ p.kind = 6) ∧ ¬ p.kind = 10 := by omega

theorem ok_chg {p : Pr} {f : Fm} (k : p.kind = 7 ∨ p.kind = 8 ∨ p.kind = 9) : okF p f ↔ ∃ x y, f (bl p.path) = some x ∧ x.kind = (if p.kind = 9 then 3 else 2) ∧ withE x p = some y := by
  obtain ⟨h1, h2, h3⟩ := chg_not k
  unfold okF
  rw [if_neg h1, if_neg h2, if_neg h3]

theorem eff_chg {p : Pr} {f : Fm} (k : p.kind = 7 ∨ p.kind = 8 ∨ p.kind = 9) (s : List UInt8) : effF p f s = if s = bl p.path then (f s).bind (fun x => withE x p) else f s := by
  obtain ⟨h1, h2, h3⟩ := chg_not k
  unfold effF
  rw [if_neg h1, if_neg h2, if_neg h3]

theorem dep_chg {p : Pr} (k : p.kind = 7 ∨ p.kind = 8 ∨ p.kind = 9) {s : List UInt8} (h : depF p s) : s = bl p.path := by
  obtain ⟨h1, h2, h3⟩ := chg_not k
  unfold depF at h
  rw [if_neg h1, if_neg h2, if_neg h3] at h
  exact h

theorem mod_one {p : Pr} (k : ¬ p.kind = 10) {s : List UInt8} (h : modF p s) : s = bl p.path := by
  unfold modF at h
  rw [if_neg k] at h
  exact h

theorem kind_chg {p : Pr} (_ : p.kind = 7 ∨ p.kind = 8 ∨ p.kind = 9) : ¬ (if p.kind = 9 then (3 : Int) else 2) = 1 := by
  split <;> decide

/-- Two changes of unlike things. -/
theorem comm_chg {p q : Pr} {f : Fm} (kp : p.kind = 7 ∨ p.kind = 8 ∨ p.kind = 9) (kq : q.kind = 7 ∨ q.kind = 8 ∨ q.kind = 9) (hne : ¬ bl p.path = bl q.path) (op : okF p f) (oq : okF q (effF p f)) : okF q f ∧ okF p (effF q f) ∧ ∀ s, effF p (effF q f) s = effF q (effF p f) s :=
  comm_gen (fun _ hd hm => hne ((mod_one (chg_not kp).2.2 hm).symm.trans (dep_chg kq hd))) (fun _ hd hm => hne ((dep_chg kp hd).symm.trans (mod_one (chg_not kq).2.2 hm))) (fun _ h1 h2 => hne ((mod_one (chg_not kp).2.2 h1).symm.trans (mod_one (chg_not kq).2.2 h2))) op oq

/-- An addition, and a change of another thing. -/
theorem dep_add_chg {p q : Pr} {f g : Fm} (kp : p.kind ≤ 6 ∧ 1 ≤ p.kind) (kq : q.kind = 7 ∨ q.kind = 8 ∨ q.kind = 9) (hne : ¬ bl p.path = bl q.path) (op : okF p f) (oq : okF q g) (hfg : f (bl q.path) = g (bl q.path)) : ∀ s, depF p s → ¬ modF q s := fun s hd hm => by
  have hs := mod_one (chg_not kq).2.2 hm
  subst hs
  obtain ⟨x, y, hx, hk, _⟩ := (ok_chg kq).1 oq
  unfold depF at hd
  unfold okF at op
  by_cases k1 : p.kind = 1 ∨ p.kind = 3 ∨ p.kind = 5
  · rw [if_pos k1] at hd op
    rcases hd with e | e
    · exact hne e.symm
    · obtain ⟨d, hd, hk1⟩ := op.2 _ e
      rw [hfg, hx] at hd
      cases hd
      exact kind_chg kq (hk.symm.trans hk1)
  · rw [if_neg k1, if_pos (by omega)] at hd op
    have := op.2 _ hd (fun e => hne e.symm)
    rw [hfg, hx] at this
    cases this

theorem comm_add_chg {p q : Pr} {f : Fm} (kp : p.kind ≤ 6 ∧ 1 ≤ p.kind) (kq : q.kind = 7 ∨ q.kind = 8 ∨ q.kind = 9) (hne : ¬ bl p.path = bl q.path) (op : okF p f) (oq : okF q (effF p f)) : okF q f ∧ okF p (effF q f) ∧ ∀ s, effF p (effF q f) s = effF q (effF p f) s := by
  have hm : ∀ s, modF p s → ¬ modF q s := fun s h1 h2 => hne ((mod_one (by omega) h1).symm.trans (mod_one (chg_not kq).2.2 h2))
  have hd : ∀ s, depF q s → ¬ modF p s := fun s hd hm => hne ((mod_one (by omega) hm).symm.trans (dep_chg kq hd))
  refine comm_gen hd (dep_add_chg kp kq hne op oq ?_) hm op oq
  exact (effF_off (fun h => hne (mod_one (by omega) h).symm)).symm

theorem comm_chg_add {p q : Pr} {f : Fm} (kp : p.kind = 7 ∨ p.kind = 8 ∨ p.kind = 9) (kq : q.kind ≤ 6 ∧ 1 ≤ q.kind) (hne : ¬ bl p.path = bl q.path) (op : okF p f) (oq : okF q (effF p f)) : okF q f ∧ okF p (effF q f) ∧ ∀ s, effF p (effF q f) s = effF q (effF p f) s := by
  obtain ⟨x, y, hx, hk, hw⟩ := (ok_chg kp).1 op
  have hfp : effF p f (bl p.path) = some y := by rw [eff_chg kp, if_pos rfl, hx]; exact hw
  have hdq : ∀ s, depF q s → ¬ modF p s := fun s hd hm => by
    have hs := mod_one (chg_not kp).2.2 hm
    subst hs
    unfold depF at hd
    unfold okF at oq
    by_cases k1 : q.kind = 1 ∨ q.kind = 3 ∨ q.kind = 5
    · rw [if_pos k1] at hd oq
      rcases hd with e | e
      · exact hne e
      · obtain ⟨d, hd, hk1⟩ := oq.2 _ e
        rw [hfp] at hd
        cases hd
        exact kind_chg kp (hk.symm.trans ((with_facts hw).2.symm.trans hk1))
    · rw [if_neg k1, if_pos (by omega)] at hd oq
      have := oq.2 _ hd hne
      rw [hfp] at this
      cases this
  exact comm_gen hdq (fun s hd hm => hne ((dep_chg kp hd).symm.trans (mod_one (by omega) hm))) (fun s h1 h2 => hne ((mod_one (chg_not kp).2.2 h1).symm.trans (mod_one (by omega) h2))) op oq

theorem hunk_two {l l1 l2 o1 n1 o2 n2 : List ByteArray} {x1 x2 : Int} (h1 : hunkL l x1 o1 n1 = some l1) (h2 : hunkL l1 x2 o2 n2 = some l2) (h : x1 + n1.length < x2) : ∃ m, hunkL l (x2 + (o1.length - n1.length)) o2 n2 = some m ∧ hunkL m x1 o1 n1 = some l2 := by
  obtain ⟨a, b, rfl, rfl, rfl⟩ := hunk_some h1
  obtain ⟨c, d, e, rfl, rfl⟩ := hunk_some h2
  have hlen : (a ++ n1).length ≤ c.length := by rw [List.length_append]; omega
  rw [List.append_assoc c] at e
  rcases List.append_eq_append_iff.1 e with ⟨u, ea, eb⟩ | ⟨u, ea, eb⟩
  · subst ea
    subst eb
    refine ⟨a ++ o1 ++ u ++ n2 ++ d, ?_, ?_⟩
    · have := hunk_mk (a ++ o1 ++ u) o2 n2 d
      have e1 : ((a ++ o1 ++ u).length : Int) = ((a ++ n1 ++ u).length : Int) + (o1.length - n1.length) := by simp; omega
      rw [e1] at this
      have e2 : a ++ o1 ++ (u ++ (o2 ++ d)) = a ++ o1 ++ u ++ o2 ++ d := by simp
      rw [e2]
      exact this
    · have := hunk_mk a o1 n1 (u ++ n2 ++ d)
      have e2 : a ++ o1 ++ u ++ n2 ++ d = a ++ o1 ++ (u ++ n2 ++ d) := by simp
      have e3 : a ++ n1 ++ u ++ n2 ++ d = a ++ n1 ++ (u ++ n2 ++ d) := by simp
      rw [e2, e3]
      exact this
  · have hu : u = [] := by
      have := congrArg List.length ea
      simp only [List.length_append] at this hlen
      exact List.length_eq_zero_iff.1 (by omega)
    subst hu
    rw [List.append_nil] at ea
    rw [List.nil_append] at eb
    subst eb
    refine ⟨a ++ o1 ++ n2 ++ d, ?_, ?_⟩
    · have := hunk_mk (a ++ o1) o2 n2 d
      have e1 : ((a ++ o1).length : Int) = (c.length : Int) + (o1.length - n1.length) := by rw [← ea]; simp; omega
      rw [e1] at this
      have e2 : a ++ o1 ++ (o2 ++ d) = a ++ o1 ++ o2 ++ d := by simp
      rw [e2]
      exact this
    · have := hunk_mk a o1 n1 (n2 ++ d)
      have e2 : a ++ o1 ++ n2 ++ d = a ++ o1 ++ (n2 ++ d) := by simp
      have e3 : c ++ n2 ++ d = a ++ n1 ++ (n2 ++ d) := by rw [← ea]; simp
      rw [e2, e3]
      exact this

theorem hunk_two_b {l l1 l2 o1 n1 o2 n2 : List ByteArray} {x1 x2 : Int} (h1 : hunkL l x1 o1 n1 = some l1) (h2 : hunkL l1 x2 o2 n2 = some l2) (h : x2 + o2.length < x1) : ∃ m, hunkL l x2 o2 n2 = some m ∧ hunkL m (x1 + (n2.length - o2.length)) o1 n1 = some l2 := by
  have b2 := hunk_back h2
  have b1 := hunk_back h1
  obtain ⟨m, c1, c2⟩ := hunk_two b2 b1 h
  exact ⟨m, hunk_back c2, hunk_back c1⟩

end Go.Proofs.YtpfkkpghgmmijaaGreatDoor

namespace Go.Proofs.YtpfkkpghgmmijaaGreatDoor
open Go.RowKit
set_option maxRecDepth 100000

theorem with_mv {x : En} {p : Pr} (A B : List UInt8) (P : ByteArray) : withE (mvE A B x) { p with path := P } = (withE x p).map (mvE A B) := by
  unfold withE
  simp only
  split
  · rw [Option.map_map]; rfl
  · split
    · rw [Option.map_map]; rfl
    · have : (mvE A B x).data = x.data := rfl
      rw [this]
      split <;> rfl

theorem mov_not {p : Pr} (k : p.kind = 10) : ¬ (p.kind = 1 ∨ p.kind = 3 ∨ p.kind = 5) ∧ ¬ (p.kind = 2 ∨ p.kind = 4 ∨ p.kind = 6) := by omega

theorem ok_mov {p : Pr} {f : Fm} (k : p.kind = 10) : okF p f ↔ f (bl p.path) ≠ none ∧ (f (bl p.dst) = none ∧ ∀ q, Path.parent (bl p.dst) = some q → ∃ d, f q = some d ∧ d.kind = 1) ∧ ∀ s, Path.within s (bl p.path) = true → f s ≠ none → Path.right (Path.moved s (bl p.path) (bl p.dst)) = true := by
  unfold okF
  rw [if_neg (mov_not k).1, if_neg (mov_not k).2, if_pos k]

theorem eff_mov {p : Pr} {f : Fm} (k : p.kind = 10) (s : List UInt8) : effF p f s = if Path.within s (bl p.dst) then (f (backM (bl p.path) (bl p.dst) s)).map (mvE (bl p.path) (bl p.dst)) else if Path.within s (bl p.path) then none else f s := by
  unfold effF
  rw [if_neg (mov_not k).1, if_neg (mov_not k).2, if_pos k]

theorem dep_mov {p : Pr} (k : p.kind = 10) {s : List UInt8} (h : depF p s) : s = bl p.dst ∨ Path.parent (bl p.dst) = some s ∨ Path.within s (bl p.path) = true := by
  unfold depF at h
  rw [if_neg (mov_not k).1, if_neg (mov_not k).2, if_pos k] at h
  exact h

theorem mod_mov {p : Pr} (k : p.kind = 10) {s : List UInt8} (h : modF p s) : Path.within s (bl p.path) = true ∨ Path.within s (bl p.dst) = true := by
  unfold modF at h
  rw [if_pos k] at h
  exact h

/-- Whatever lies in f with a change lies in f, of the same kind. -/
theorem chg_same {p : Pr} {f : Fm} (kp : p.kind = 7 ∨ p.kind = 8 ∨ p.kind = 9) (op : okF p f) (s : List UInt8) : (effF p f s = none ↔ f s = none) ∧ ((∃ d, effF p f s = some d ∧ d.kind = 1) ↔ ∃ d, f s = some d ∧ d.kind = 1) := by
  obtain ⟨x, y, hx, hk, hw⟩ := (ok_chg kp).1 op
  rw [eff_chg kp]
  by_cases e : s = bl p.path
  · subst e
    rw [if_pos rfl, hx]
    show (withE x p = none ↔ _) ∧ ((∃ d, withE x p = some d ∧ d.kind = 1) ↔ _)
    rw [hw]
    refine ⟨by simp, ?_⟩
    have h1 : ¬ x.kind = 1 := fun e => kind_chg kp (hk.symm.trans e)
    have h2 : ¬ y.kind = 1 := fun e => h1 ((with_facts hw).2.symm.trans e)
    constructor
    · rintro ⟨d, hd, hdk⟩; cases hd; exact absurd hdk h2
    · rintro ⟨d, hd, hdk⟩; cases hd; exact absurd hdk h1
  · rw [if_neg e]
    exact ⟨Iff.rfl, Iff.rfl⟩

/-- A Move asks what a change does not turn. -/
theorem mov_chg_ok {p q : Pr} {f : Fm} (kp : p.kind = 7 ∨ p.kind = 8 ∨ p.kind = 9) (kq : q.kind = 10) (op : okF p f) : okF q (effF p f) ↔ okF q f := by
  rw [ok_mov kq, ok_mov kq]
  constructor
  · rintro ⟨a, ⟨b, c⟩, d⟩
    exact ⟨fun e => a ((chg_same kp op _).1.2 e), ⟨(chg_same kp op _).1.1 b, fun q' hq => (chg_same kp op q').2.1 (c q' hq)⟩, fun s hs hn => d s hs (fun e => hn ((chg_same kp op s).1.1 e))⟩
  · rintro ⟨a, ⟨b, c⟩, d⟩
    exact ⟨fun e => a ((chg_same kp op _).1.1 e), ⟨(chg_same kp op _).1.2 b, fun q' hq => (chg_same kp op q').2.2 (c q' hq)⟩, fun s hs hn => d s hs (fun e => hn ((chg_same kp op s).1.2 e))⟩

theorem back_inj {A B s t : List UInt8} (h1 : Path.within s B = true) (h2 : Path.within t B = true) (e : backM A B s = backM A B t) : s = t := by
  obtain ⟨r, rfl, _⟩ := within_app h1
  obtain ⟨u, rfl, _⟩ := within_app h2
  rw [back_in, back_in] at e
  rw [List.append_cancel_left e]

/-- A change of what is moved, and the Move. -/
theorem comm_chg_in {p q : Pr} {f : Fm} (kp : p.kind = 7 ∨ p.kind = 8 ∨ p.kind = 9) (kq : q.kind = 10) (P : ByteArray) (hw : Path.within (bl p.path) (bl q.path) = true) (hP : bl P = Path.moved (bl p.path) (bl q.path) (bl q.dst)) (op : okF p f) :
    okF { p with path := P } (effF q f) ∧ ∀ s, effF { p with path := P } (effF q f) s = effF q (effF p f) s := by
  obtain ⟨x, y, hx, hk, hxy⟩ := (ok_chg kp).1 op
  obtain ⟨r, er, hr⟩ := within_app hw
  have hP' : bl P = bl q.dst ++ r := by
    rw [hP, Path.moved, if_pos hw, er, List.drop_left]
  have hPw : Path.within (bl P) (bl q.dst) = true := by rw [hP']; exact within_of hr
  have hPb : backM (bl q.path) (bl q.dst) (bl P) = bl p.path := by rw [hP', back_in, er]
  have hat : effF q f (bl P) = some (mvE (bl q.path) (bl q.dst) x) := by
    rw [eff_mov kq, if_pos hPw, hPb, hx]; rfl
  refine ⟨(ok_chg (p := { p with path := P }) kp).2 ⟨_, mvE (bl q.path) (bl q.dst) y, hat, hk, ?_⟩, fun s => ?_⟩
  · rw [with_mv, hxy]; rfl
  · rw [eff_chg (p := { p with path := P }) kp, eff_mov kq, eff_mov kq, eff_chg kp]
    show (if s = bl P then _ else _) = _
    by_cases e : s = bl P
    · subst e
      rw [if_pos rfl, if_pos hPw, if_pos hPw, hPb, hx, if_pos rfl]
      show withE (mvE (bl q.path) (bl q.dst) x) { p with path := P } = ((some x).bind _).map _
      rw [with_mv]; rfl
    · rw [if_neg e]
      by_cases hs : Path.within s (bl q.dst) = true
      · rw [if_pos hs, if_pos hs, if_neg]
        intro e2
        exact e (back_inj hs hPw (e2.trans hPb.symm))
      · rw [if_neg hs, if_neg hs]
        by_cases hs2 : Path.within s (bl q.path) = true
        · rw [if_pos hs2, if_pos hs2]
        · rw [if_neg hs2, if_neg hs2, eff_chg kp, if_neg]
          rintro rfl
          exact hs2 hw

end Go.Proofs.YtpfkkpghgmmijaaGreatDoor

namespace Go.Proofs.YtpfkkpghgmmijaaGreatDoor
open Go.RowKit
set_option maxRecDepth 100000

/-- The same is made the other way about. -/
def SameF (a b p q : Pr) (f : Fm) : Prop := okF a f ∧ okF b (effF a f) ∧ ∀ s, effF b (effF a f) s = effF q (effF p f) s

theorem same_path {p q a b : Pr} {f : Fm} {x y u z : En} (kp : p.kind = 7) (kq : q.kind = 7) (ka : a.kind = 7) (kb : b.kind = 7) (e1 : a.path = p.path) (e2 : b.path = p.path) (e3 : q.path = p.path) (hx : f (bl p.path) = some x) (hk : x.kind = 2) (h1 : withE x p = some y) (h2 : withE y q = some z) (h3 : withE x a = some u) (h4 : withE u b = some z) : SameF a b p q f := by
  have fa : effF a f (bl p.path) = some u := by rw [eff_chg (Or.inl ka), e1, if_pos rfl, hx]; exact h3
  have fp : effF p f (bl p.path) = some y := by rw [eff_chg (Or.inl kp), if_pos rfl, hx]; exact h1
  refine ⟨(ok_chg (Or.inl ka)).2 ⟨x, u, by rw [e1]; exact hx, by rw [ka]; exact hk, h3⟩, (ok_chg (Or.inl kb)).2 ⟨u, z, by rw [e2]; exact fa, by rw [kb, (with_facts h3).2]; exact hk, h4⟩, fun s => ?_⟩
  rw [eff_chg (Or.inl kb), eff_chg (Or.inl kq), e2, e3]
  by_cases e : s = bl p.path
  · subst e
    rw [if_pos rfl, if_pos rfl, fa, fp]
    exact h4.trans h2.symm
  · rw [if_neg e, if_neg e, eff_chg (Or.inl ka), eff_chg (Or.inl kp), e1, if_neg e, if_neg e]

theorem comm_lines {p q : Pr} {f : Fm} (kp : p.kind = 7) (kq : q.kind = 7) (he : p.path = q.path) (hc : (linesC p q).2.2 = true) (op : okF p f) (oq : okF q (effF p f)) : SameF (linesC p q).1 (linesC p q).2.1 p q f := by
  obtain ⟨x, y, hx, hk, h1⟩ := (ok_chg (Or.inl kp)).1 op
  obtain ⟨y', z, hy, _, h2⟩ := (ok_chg (Or.inl kq)).1 oq
  have fp : effF p f (bl p.path) = some y := by rw [eff_chg (Or.inl kp), if_pos rfl, hx]; exact h1
  rw [← he, fp] at hy
  cases hy
  rw [kp] at hk
  have hk : x.kind = 2 := hk
  have w1 := h1
  have w2 := h2
  unfold withE at w1 w2
  rw [if_pos kp] at w1
  rw [if_pos kq] at w2
  obtain ⟨l1, g1, rfl⟩ := Option.map_eq_some_iff.1 w1
  obtain ⟨l2, g2, rfl⟩ := Option.map_eq_some_iff.1 w2
  unfold linesC at hc ⊢
  by_cases c1 : p.pos + p.new.length < q.pos
  · rw [if_pos c1] at hc ⊢
    obtain ⟨m, m1, m2⟩ := hunk_two g1 g2 c1
    refine same_path (u := { x with lines := m }) kp kq kq kp he.symm rfl he.symm hx hk h1 h2 ?_ ?_
    · unfold withE
      simp only [kq, if_true, m1, Option.map_some]
    · unfold withE
      simp only [kp, if_true, m2, Option.map_some]
  · rw [if_neg c1] at hc ⊢
    by_cases c2 : q.pos + q.old.length < p.pos
    · rw [if_pos c2] at hc ⊢
      obtain ⟨m, m1, m2⟩ := hunk_two_b g1 g2 c2
      refine same_path (u := { x with lines := m }) kp kq kq kp he.symm rfl he.symm hx hk h1 h2 ?_ ?_
      · unfold withE
        simp only [kq, if_true, m1, Option.map_some]
      · unfold withE
        simp only [kp, if_true, m2, Option.map_some]
    · rw [if_neg c2] at hc
      cases hc

theorem carry_in {a f t : ByteArray} (h : wiP a f = true) : carryP a f t = (moP a f t, true) := by
  unfold carryP
  rw [if_pos h]

theorem carry_out {a f t : ByteArray} (h : ¬ wiP a f = true) : carryP a f t = (a, !wiP a t) := by
  unfold carryP
  rw [if_neg h]

/-- A Move, and a change of what it does not touch. -/
theorem comm_mov_off {p q : Pr} {f : Fm} (kp : p.kind = 10) (kq : q.kind = 7 ∨ q.kind = 8 ∨ q.kind = 9) (h1 : Path.within (bl q.path) (bl p.path) = false) (h2 : Path.within (bl q.path) (bl p.dst) = false) (op : okF p f) (oq : okF q (effF p f)) : SameF q p p q f := by
  have hq : effF p f (bl q.path) = f (bl q.path) := effF_off (fun hm => by
    rcases mod_mov kp hm with e | e
    · rw [h1] at e; cases e
    · rw [h2] at e; cases e)
  obtain ⟨x, y, hx, hk, hw⟩ := (ok_chg kq).1 oq
  rw [hq] at hx
  obtain ⟨a, ⟨b, c⟩, d⟩ := (ok_mov kp).1 op
  refine comm_gen (fun s hd hm => ?_) (fun s hd hm => ?_) (fun s hm1 hm2 => ?_) op oq
  · rw [dep_chg kq hd] at hm
    rcases mod_mov kp hm with e | e
    · rw [h1] at e; cases e
    · rw [h2] at e; cases e
  · have := mod_one (chg_not kq).2.2 hm
    subst this
    rcases dep_mov kp hd with e | e | e
    · rw [e, Path.within_refl] at h2; cases h2
    · obtain ⟨g, hg, hgk⟩ := c _ e
      rw [hx] at hg
      cases hg
      exact kind_chg kq (hk.symm.trans hgk)
    · rw [h1] at e; cases e
  · rw [mod_one (chg_not kq).2.2 hm2] at hm1
    rcases mod_mov kp hm1 with e | e
    · rw [h1] at e; cases e
    · rw [h2] at e; cases e

theorem comm_off_mov {p q : Pr} {f : Fm} (kp : p.kind = 7 ∨ p.kind = 8 ∨ p.kind = 9) (kq : q.kind = 10) (h1 : Path.within (bl p.path) (bl q.path) = false) (h2 : Path.within (bl p.path) (bl q.dst) = false) (op : okF p f) (oq : okF q (effF p f)) : SameF q p p q f := by
  obtain ⟨x, y, hx, hk, hw⟩ := (ok_chg kp).1 op
  have oq' := (mov_chg_ok kp kq op).1 oq
  obtain ⟨a, ⟨b, c⟩, d⟩ := (ok_mov kq).1 oq'
  refine comm_gen (fun s hd hm => ?_) (fun s hd hm => ?_) (fun s hm1 hm2 => ?_) op oq
  · have := mod_one (chg_not kp).2.2 hm
    subst this
    rcases dep_mov kq hd with e | e | e
    · rw [e, Path.within_refl] at h2; cases h2
    · obtain ⟨g, hg, hgk⟩ := c _ e
      rw [hx] at hg
      cases hg
      exact kind_chg kp (hk.symm.trans hgk)
    · rw [h1] at e; cases e
  · rw [dep_chg kp hd] at hm
    rcases mod_mov kq hm with e | e
    · rw [h1] at e; cases e
    · rw [h2] at e; cases e
  · rw [mod_one (chg_not kp).2.2 hm1] at hm2
    rcases mod_mov kq hm2 with e | e
    · rw [h1] at e; cases e
    · rw [h2] at e; cases e

theorem comm_mov_in {p q : Pr} {f : Fm} (kp : p.kind = 10) (kq : q.kind = 7 ∨ q.kind = 8 ∨ q.kind = 9) (Q : ByteArray) (hw : Path.within (bl q.path) (bl p.dst) = true) (hQ : bl Q = Path.moved (bl q.path) (bl p.dst) (bl p.path)) (op : okF p f) (oq : okF q (effF p f)) : SameF { q with path := Q } p p q f := by
  obtain ⟨r, er, hr⟩ := within_app hw
  have hQ' : bl Q = bl p.path ++ r := by rw [hQ, Path.moved, if_pos hw, er, List.drop_left]
  have hQw : Path.within (bl Q) (bl p.path) = true := by rw [hQ']; exact within_of hr
  have hQb : backM (bl p.path) (bl p.dst) (bl q.path) = bl Q := by rw [er, back_in, hQ']
  have hmv : bl q.path = Path.moved (bl Q) (bl p.path) (bl p.dst) := by rw [Path.moved, if_pos hQw, hQ', List.drop_left, er]
  have oa : okF { q with path := Q } f := by
    obtain ⟨x', y', hx, hk, hxy⟩ := (ok_chg kq).1 oq
    rw [eff_mov kp, if_pos hw, hQb] at hx
    obtain ⟨x, hx1, rfl⟩ := Option.map_eq_some_iff.1 hx
    have e := with_mv (x := x) (p := { q with path := Q }) (bl p.path) (bl p.dst) q.path
    have e' : withE (mvE (bl p.path) (bl p.dst) x) q = (withE x { q with path := Q }).map (mvE (bl p.path) (bl p.dst)) := e
    rw [hxy] at e'
    obtain ⟨y, hy, _⟩ := Option.map_eq_some_iff.1 e'.symm
    exact (ok_chg (p := { q with path := Q }) kq).2 ⟨x, y, hx1, hk, hy⟩
  have h := comm_chg_in (p := { q with path := Q }) (q := p) (f := f) kq kp q.path hQw hmv oa
  exact ⟨oa, (mov_chg_ok (p := { q with path := Q }) kq kp oa).2 op, fun s => (h.2 s).symm⟩

/-- What the rule gives makes the same. -/
theorem rule_same {p q : Pr} {f : Fm} (hp : rightP p = true) (hq : rightP q = true) (hc : (ruleC p q).2.2 = true) (op : okF p f) (oq : okF q (effF p f)) : SameF (ruleC p q).1 (ruleC p q).2.1 p q f := by
  unfold ruleC at hc ⊢
  have ne : ∀ {a b : ByteArray}, ¬ a = b → ¬ bl a = bl b := fun h e => h (ba_eq e)
  rcases cls_cases hp with ⟨cp, p1, p2⟩ | ⟨cp, p1, p2⟩ | ⟨cp, p1⟩ <;> rcases cls_cases hq with ⟨cq, q1, q2⟩ | ⟨cq, q1, q2⟩ | ⟨cq, q1⟩ <;> simp (config := { decide := true }) only [cp, cq, if_true, if_false] at hc ⊢
  · exact comm_apart8 hc op oq
  · exact comm_add_chg ⟨p1, p2⟩ (by omega) (ne (by simpa using hc)) op oq
  · exact comm_apart8 hc op oq
  · exact comm_chg_add (by omega) ⟨q1, q2⟩ (ne (by simpa using hc)) op oq
  · unfold changesC at hc ⊢
    by_cases he : p.path = q.path
    · rw [if_pos he] at hc ⊢
      by_cases hk : p.kind = 7 ∧ q.kind = 7
      · rw [if_pos hk] at hc ⊢
        exact comm_lines hk.1 hk.2 he hc op oq
      · rw [if_neg hk] at hc; cases hc
    · rw [if_neg he]
      have kp : p.kind = 7 ∨ p.kind = 8 ∨ p.kind = 9 := by omega
      have kq : q.kind = 7 ∨ q.kind = 8 ∨ q.kind = 9 := by omega
      exact comm_chg kp kq (ne he) op oq
  · have kp : p.kind = 7 ∨ p.kind = 8 ∨ p.kind = 9 := by omega
    unfold changeMoveC at hc ⊢
    by_cases hw : wiP p.path q.path = true
    · rw [carry_in hw] at hc ⊢
      have oq' := (mov_chg_ok kp q1 op).1 oq
      have h := comm_chg_in (p := p) (q := q) (f := f) kp q1 (moP p.path q.path q.dst) hw (moP_list _ _ _) op
      exact ⟨oq', h.1, h.2⟩
    · rw [carry_out hw] at hc ⊢
      simp only [Bool.not_eq_true'] at hc
      simp only [Bool.not_eq_true] at hw
      exact comm_off_mov kp q1 hw hc op oq
  · exact comm_apart8 hc op oq
  · have kq : q.kind = 7 ∨ q.kind = 8 ∨ q.kind = 9 := by omega
    unfold moveChangeC at hc ⊢
    by_cases hw : wiP q.path p.dst = true
    · rw [carry_in hw] at hc ⊢
      exact comm_mov_in p1 kq (moP q.path p.dst p.path) hw (moP_list _ _ _) op oq
    · rw [carry_out hw] at hc ⊢
      simp only [Bool.not_eq_true'] at hc
      simp only [Bool.not_eq_true] at hw
      exact comm_mov_off p1 kq hc hw op oq
  · exact comm_apart8 hc op oq

theorem act_len {L M : List En} (h : TreeR L) {p : Pr} (hr : rightP p = true) (e : actE L p = (M, 0)) : (wants p → M.length = L.length + 1) ∧ (¬ wants p → M.length ≤ L.length) := by
  obtain ⟨hk, _, _⟩ := rule_of hr
  unfold wants
  by_cases k1 : p.kind = 1 ∨ p.kind = 3 ∨ p.kind = 5
  · obtain ⟨h1, _, rfl⟩ := (act_add k1).1 e
    exact ⟨fun _ => len_putE_new (freeE_zero.1 h1).1, fun e => absurd k1 e⟩
  · refine ⟨fun e => absurd e k1, fun _ => ?_⟩
    by_cases k2 : p.kind = 2 ∨ p.kind = 4 ∨ p.kind = 6
    · obtain ⟨x, hx, _, _, _, _, rfl⟩ := (act_rm k2).1 e
      exact List.length_filter_le _ _
    · by_cases k3 : p.kind = 10
      · obtain ⟨_, h2, _, rfl⟩ := (act_move k3).1 e
        rw [h.len_move (freeE_zero.1 h2).1]
        exact Nat.le_refl _
      · obtain ⟨x, y, hx, _, hw, rfl⟩ := (act_change (by omega)).1 e
        have h1 := len_delE h.strict (find_some hx).1
        unfold putE
        rw [(insE_perm y _).length_eq, (with_facts hw).1]
        simp
        omega

theorem ok_free {L : List En} {p : Pr} (hk : wants p) (ho : okF p (findE L)) (hl : 1024 ≤ L.length) : actE L p = (L, 2) := by
  unfold wants at hk
  unfold okF at ho
  rw [if_pos hk] at ho
  unfold actE
  rw [if_pos hk, if_neg (by simpa using freeE_zero.2 ho), if_pos hl]

end Go.Proofs.YtpfkkpghgmmijaaGreatDoor

namespace Go.Proofs.YtpfkkpghgmmijaaGreatDoor
open Go.RowKit
set_option maxRecDepth 100000

theorem cls_kind {x y : Pr} (h : x.kind = y.kind) : clsP x = clsP y := by unfold clsP; rw [h]

theorem rule_cls (x y : Pr) : clsP (ruleC x y).1 = clsP y ∧ clsP (ruleC x y).2.1 = clsP x := by
  unfold ruleC changesC linesC changeMoveC moveChangeC
  (repeat' split) <;> exact ⟨cls_kind rfl, cls_kind rfl⟩

theorem rule_11 {x y : Pr} (h : clsP x = 1) (k : clsP y = 1) : ruleC x y = changesC x y := by unfold ruleC; simp [h, k]
theorem rule_12 {x y : Pr} (h : clsP x = 1) (k : clsP y = 2) : ruleC x y = changeMoveC x y := by unfold ruleC; simp [h, k]
theorem rule_21 {x y : Pr} (h : clsP x = 2) (k : clsP y = 1) : ruleC x y = moveChangeC x y := by unfold ruleC; simp [h, k]
theorem rule_un {x y : Pr} (h : clsP x = 1 ∧ clsP y = 0 ∨ clsP x = 0 ∧ clsP y = 1) : ruleC x y = (y, x, decide (¬ x.path = y.path)) := by unfold ruleC; rcases h with ⟨h, k⟩ | ⟨h, k⟩ <;> simp [h, k]
theorem rule_ap {x y : Pr} (h : clsP x = 0 ∨ clsP x = 2) (k : clsP y = 0 ∨ clsP y = 2) : ruleC x y = (y, x, apartP x y) := by unfold ruleC; rcases h with h | h <;> rcases k with k | k <;> simp [h, k]

theorem lines_back {x y : Pr} (h : (linesC x y).2.2 = true) : linesC (linesC x y).1 (linesC x y).2.1 = (x, y, true) := by
  obtain ⟨xK, xP, xT, xF, xA, xO, xN⟩ := x
  obtain ⟨yK, yP, yT, yF, yA, yO, yN⟩ := y
  unfold linesC at h ⊢
  simp only at h ⊢
  by_cases h1 : xA + xN.length < yA
  · rw [if_pos h1]
    simp only
    have e : yA + ((xO.length : Int) - xN.length) + ((xN.length : Int) - xO.length) = yA := by omega
    rw [if_neg (by omega), if_pos (by omega), e]
  · rw [if_neg h1] at h ⊢
    by_cases h2 : yA + yO.length < xA
    · rw [if_pos h2]
      simp only
      have e : xA + ((yN.length : Int) - yO.length) + ((yO.length : Int) - yN.length) = xA := by omega
      rw [if_pos (by omega), e]
    · rw [if_neg h2] at h
      simp at h

theorem lines_kp (x y : Pr) : (linesC x y).1.path = y.path ∧ (linesC x y).1.kind = y.kind ∧ (linesC x y).2.1.path = x.path ∧ (linesC x y).2.1.kind = x.kind := by
  unfold linesC
  (repeat' split) <;> exact ⟨rfl, rfl, rfl, rfl⟩

theorem changes_back {x y : Pr} (h : (changesC x y).2.2 = true) : changesC (changesC x y).1 (changesC x y).2.1 = (x, y, true) := by
  by_cases hp : x.path = y.path
  · by_cases hk : x.kind = 7 ∧ y.kind = 7
    · have e : changesC x y = linesC x y := by unfold changesC; rw [if_pos hp, if_pos hk]
      rw [e] at h ⊢
      obtain ⟨e1, e2, e3, e4⟩ := lines_kp x y
      have e' : changesC (linesC x y).1 (linesC x y).2.1 = linesC (linesC x y).1 (linesC x y).2.1 := by
        unfold changesC
        rw [if_pos (by rw [e1, e3, hp]), if_pos ⟨by rw [e2, hk.2], by rw [e4, hk.1]⟩]
      rw [e']
      exact lines_back h
    · unfold changesC at h
      rw [if_pos hp, if_neg hk] at h
      simp at h
  · unfold changesC
    rw [if_neg hp]
    simp only
    rw [if_neg (fun e => hp e.symm)]

/-- What was commuted is commuted back. -/
theorem rule_back {x y : Pr} (hx : rightP x = true) (hy : rightP y = true) (h : (ruleC x y).2.2 = true) : ruleC (ruleC x y).1 (ruleC x y).2.1 = (x, y, true) := by
  obtain ⟨k1, k2⟩ := rule_cls x y
  rcases cls_cases hx with ⟨c, _⟩ | ⟨c, _⟩ | ⟨c, _⟩ <;> rcases cls_cases hy with ⟨d, _⟩ | ⟨d, _⟩ | ⟨d, _⟩
  · rw [rule_ap (Or.inl c) (Or.inl d)] at h ⊢
    rw [rule_ap (Or.inl d) (Or.inl c), apartP_comm]
    simp only at h
    rw [h]
  · rw [rule_un (Or.inr ⟨c, d⟩)] at h ⊢
    rw [rule_un (Or.inl ⟨d, c⟩)]
    simp only [decide_eq_true_eq] at h
    rw [decide_eq_true (show ¬ y.path = x.path from fun e => h e.symm)]
  · rw [rule_ap (Or.inl c) (Or.inr d)] at h ⊢
    rw [rule_ap (Or.inr d) (Or.inl c), apartP_comm]
    simp only at h
    rw [h]
  · rw [rule_un (Or.inl ⟨c, d⟩)] at h ⊢
    rw [rule_un (Or.inr ⟨d, c⟩)]
    simp only [decide_eq_true_eq] at h
    rw [decide_eq_true (show ¬ y.path = x.path from fun e => h e.symm)]
  · rw [rule_11 (k1.trans d) (k2.trans c)]
    rw [rule_11 c d] at h ⊢
    exact changes_back h
  · rw [rule_21 (k1.trans d) (k2.trans c)]
    rw [rule_12 c d] at h ⊢
    unfold changeMoveC at h ⊢
    unfold moveChangeC
    simp only at h ⊢
    rw [carry_back h]
  · rw [rule_ap (Or.inr c) (Or.inl d)] at h ⊢
    rw [rule_ap (Or.inl d) (Or.inr c), apartP_comm]
    simp only at h
    rw [h]
  · rw [rule_12 (k1.trans d) (k2.trans c)]
    rw [rule_21 c d] at h ⊢
    unfold moveChangeC at h ⊢
    unfold changeMoveC
    simp only at h ⊢
    rw [carry_back h]
  · rw [rule_ap (Or.inr c) (Or.inr d)] at h ⊢
    rw [rule_ap (Or.inr d) (Or.inr c), apartP_comm]
    simp only at h
    rw [h]

theorem comm_back {x y : Pr} (h : (commP x y).2.2 = true) : rightP (commP x y).1 = true ∧ rightP (commP x y).2.1 = true ∧ commP (commP x y).1 (commP x y).2.1 = (x, y, true) := by
  obtain ⟨hx, hy, e, h1, h2, h3⟩ := commP_yes h
  rw [e]
  have hb := rule_back hx hy h1
  refine ⟨h2, h3, ?_⟩
  rw [commP_of h2 h3 (by rw [hb]) (by rw [hb]; exact hx) (by rw [hb]; exact hy), hb]

theorem past_no {p : Pr} {l : List Pr} (h : (pastP p l).2.2 = false) : pastP p l = ([], zeroP, false) := by
  cases l with
  | nil => simp [pastP] at h
  | cons q l =>
    simp only [pastP] at h ⊢
    split
    · rename_i hc
      rw [if_pos hc] at h
      split
      · rename_i ht
        rw [if_pos ht] at h
        simp at h
      · rfl
    · rfl

/-- A patch passes two rows one behind the other. -/
theorem past_append : ∀ (a b : List Pr) (p : Pr), pastP p (a ++ b) = if (pastP p a).2.2 then (if (pastP (pastP p a).2.1 b).2.2 then ((pastP p a).1 ++ (pastP (pastP p a).2.1 b).1, (pastP (pastP p a).2.1 b).2.1, true) else ([], zeroP, false)) else ([], zeroP, false)
  | [], b, p => by
    show pastP p b = if true = true then (if (pastP p b).2.2 = true then ((pastP p b).1, (pastP p b).2.1, true) else ([], zeroP, false)) else ([], zeroP, false)
    rw [if_pos rfl]
    by_cases h : (pastP p b).2.2 = true
    · rw [if_pos h, ← h]
    · rw [if_neg h]
      exact past_no (by simpa using h)
  | q :: a, b, p => by
    simp only [List.cons_append, pastP]
    by_cases hc : (commP p q).2.2 = true
    · rw [if_pos hc, if_pos hc, past_append a b (commP p q).2.1]
      by_cases ha : (pastP (commP p q).2.1 a).2.2 = true
      · rw [if_pos ha, if_pos ha]
        simp only [if_true]
        by_cases hb : (pastP (pastP (commP p q).2.1 a).2.1 b).2.2 = true
        · rw [if_pos hb, if_pos hb]
          rfl
        · rw [if_neg hb, if_neg hb]
          rfl
      · rw [if_neg ha, if_neg ha]
        rfl
    · rw [if_neg hc, if_neg hc]
      rfl

end Go.Proofs.YtpfkkpghgmmijaaGreatDoor

namespace Go.Proofs.YtpfkkpghgmmijaaGreatDoor
open Go.RowKit
set_option maxRecDepth 100000

/-- A row, and one behind it, the other way about. -/
def swapP : List Pr → List Pr → List Pr × List Pr × Bool
  | [], b => (b, [], true)
  | p :: a, b => if (swapP a b).2.2 then (if (pastP p (swapP a b).1).2.2 then ((pastP p (swapP a b).1).1, (pastP p (swapP a b).1).2.1 :: (swapP a b).2.1, true) else ([], [], false)) else ([], [], false)

theorem swap_no {a b : List Pr} (h : (swapP a b).2.2 = false) : swapP a b = ([], [], false) := by
  cases a with
  | nil => cases h
  | cons p a =>
    simp only [swapP] at h ⊢
    split
    · rename_i h1
      rw [if_pos h1] at h
      split
      · rename_i h2
        rw [if_pos h2] at h
        cases h
      · rfl
    · rfl

theorem swap_append : ∀ (a b c : List Pr), swapP (a ++ b) c = if (swapP b c).2.2 then (if (swapP a (swapP b c).1).2.2 then ((swapP a (swapP b c).1).1, (swapP a (swapP b c).1).2.1 ++ (swapP b c).2.1, true) else ([], [], false)) else ([], [], false)
  | [], b, c => by
    simp only [List.nil_append, swapP, if_true]
    split
    · rename_i h
      rw [← h]
    · rename_i h
      exact swap_no (by simpa using h)
  | p :: a, b, c => by
    simp only [List.cons_append, swapP, swap_append a b c]
    by_cases h1 : (swapP b c).2.2 = true
    · rw [if_pos h1]
      by_cases h2 : (swapP a (swapP b c).1).2.2 = true
      · simp only [if_pos h1, if_pos h2, if_true]
        by_cases h3 : (pastP p (swapP a (swapP b c).1).1).2.2 = true
        · simp only [if_pos h3, if_true, List.cons_append]
        · simp only [if_neg h3, Bool.false_eq_true, if_false]
      · simp only [if_neg h2, Bool.false_eq_true, if_false, if_pos h1]
    · simp only [if_neg h1, Bool.false_eq_true, if_false]

theorem swap_nil : ∀ a : List Pr, swapP a [] = ([], a, true)
  | [] => rfl
  | p :: a => by simp [swapP, swap_nil a, pastP]

/-- Are two patches the same? -/
def alikeP (p q : Pr) : Bool := decide (p.kind = q.kind) && decide (p.path = q.path) && decide (p.dst = q.dst) && decide (p.src = q.src) && decide (p.pos = q.pos) && decide (p.old = q.old) && decide (p.new = q.new)

theorem alike_iff {p q : Pr} : alikeP p q = true ↔ p = q := by
  obtain ⟨a, b, c, d, e, f, g⟩ := p
  obtain ⟨a', b', c', d', e', f', g'⟩ := q
  simp [alikeP, and_assoc]

/-- What two neighbours are, if they are one. -/
def joinP (p q : Pr) : Option (List Pr) :=
  if !(rightP p && rightP q) then none
  else if alikeP q (inv p) then some []
  else if ¬ p.kind = q.kind then none
  else if p.kind = 9 ∧ p.path = q.path ∧ p.dst = q.src then some [{ p with dst := q.dst }]
  else if p.kind = 7 ∧ p.path = q.path ∧ p.pos = q.pos ∧ p.new = q.old then some [{ p with new := q.new }]
  else if p.kind = 10 ∧ p.dst = q.path ∧ apP p.path q.dst = true then some [{ p with dst := q.dst }]
  else none

theorem join_len {p q : Pr} {l : List Pr} (h : joinP p q = some l) : l.length ≤ 1 := by
  unfold joinP at h
  repeat' split at h
  all_goals first | cases h; done | (cases h; simp)

theorem join_inv {p : Pr} (h : rightP p = true) : joinP p (inv p) = some [] := by
  unfold joinP
  rw [if_neg (by simp [h, right_inv h]), if_pos (alike_iff.2 rfl)]

theorem bytes0 {x : ByteArray} (h : x.data = #[]) : x = ⟨#[]⟩ := by
  cases x
  simp only at h
  rw [h]

/-- What right neighbours are is right. -/
theorem join_right {p q z : Pr} {l : List Pr} (h : joinP p q = some (z :: l)) : rightP z = true := by
  unfold joinP at h
  split at h
  · cases h
  rename_i h0
  simp only [Bool.not_eq_true, Bool.not_eq_false', Bool.and_eq_true] at h0
  obtain ⟨hp, hq⟩ := h0
  split at h
  · cases h
  rename_i h1
  have h1' : ¬ q = inv p := fun e => h1 (alike_iff.2 e)
  split at h
  · cases h
  rename_i h2
  obtain ⟨K, P, T, F, A, O, N⟩ := p
  obtain ⟨K', P', T', F', A', O', N'⟩ := q
  simp only at h h2
  have h2' : K = K' := by simpa using h2
  subst h2'
  split at h
  · rename_i h3
    obtain ⟨rfl, rfl, rfl⟩ := h3
    cases h
    simp [rightP, ruleP, bytesP, noLines] at hp hq ⊢
    refine ⟨hp.1, ⟨hp.2.1, fun e => h1' ?_⟩⟩
    subst e
    simp [inv, hp, hq]
  · split at h
    · rename_i h3
      obtain ⟨rfl, rfl, rfl, rfl⟩ := h3
      cases h
      simp [rightP, ruleP, linesP] at hp hq ⊢
      refine ⟨hp.1, ⟨⟨⟨hp.2.1.1.1, hp.2.1.1.2⟩, hq.2.1.2⟩, ?_⟩⟩
      rcases Nat.eq_zero_or_pos (O.length + N'.length) with e | e
      · exfalso
        apply h1'
        have e1 : O = [] := List.length_eq_zero_iff.1 (by omega)
        have e2 : N' = [] := List.length_eq_zero_iff.1 (by omega)
        have e3 : T = T' := (bytes0 hp.2.1.1.1.1.1.1).trans (bytes0 hq.2.1.1.1.1.1.1).symm
        have e4 : F = F' := (bytes0 hp.2.1.1.1.1.1.2).trans (bytes0 hq.2.1.1.1.1.1.2).symm
        subst e1 e2 e3 e4
        simp [inv]
      · exact e
    · split at h
      · rename_i h3
        obtain ⟨rfl, rfl, h5⟩ := h3
        cases h
        simp [rightP, ruleP, moveP, noLines] at hp hq ⊢
        exact ⟨hp.1, ⟨hp.2.1.1, hq.2.1.2⟩, by rw [Path.apart_comm]; exact h5⟩
      · cases h

/-- A patch is put behind what there is (the last one first). -/
def pushR : List Pr → Pr → List Pr
  | [], x => [x]
  | y :: st, x => match joinP y x with
    | none => x :: y :: st
    | some [] => st
    | some (z :: _) => pushR st z

def coalR (st : List Pr) (l : List Pr) : List Pr := l.foldl pushR st

/-- A row with neighbours joined that are one. -/
def coalP (l : List Pr) : List Pr := (coalR [] l).reverse

/-- No two neighbours are one. -/
def Settled : List Pr → Prop
  | x :: y :: st => joinP y x = none ∧ Settled (y :: st)
  | _ => True

theorem Settled.tail {x : Pr} {st : List Pr} (h : Settled (x :: st)) : Settled st := by
  cases st with
  | nil => trivial
  | cons y st => exact h.2

theorem push_settled : ∀ (st : List Pr) (x : Pr), Settled st → Settled (pushR st x)
  | [], x, _ => trivial
  | y :: st, x, h => by
    unfold pushR
    split
    · rename_i hj
      exact ⟨hj, h⟩
    · exact h.tail
    · exact push_settled st _ h.tail

theorem coal_settled : ∀ (l st : List Pr), Settled st → Settled (coalR st l)
  | [], _, h => h
  | x :: l, st, h => coal_settled l (pushR st x) (push_settled st x h)

theorem push_of {y x : Pr} {st : List Pr} (h : joinP y x = none) : pushR (y :: st) x = x :: y :: st := by
  unfold pushR
  rw [h]

theorem push_length : ∀ (st : List Pr) (x : Pr), (pushR st x).length ≤ st.length + 1
  | [], x => by simp [pushR]
  | y :: st, x => by
    unfold pushR
    split
    · simp
    · simp; omega
    · rename_i z _ _
      have := push_length st z
      simp
      omega

theorem coal_length : ∀ (l st : List Pr), (coalR st l).length ≤ st.length + l.length
  | [], _ => by simp [coalR]
  | x :: l, st => by
    have h1 := coal_length l (pushR st x)
    have h2 := push_length st x
    simp only [coalR, List.foldl_cons, List.length_cons] at h1 ⊢
    omega

theorem coalR_append (st a b : List Pr) : coalR st (a ++ b) = coalR (coalR st a) b := List.foldl_append ..

/-- A settled row is put as it is. -/
theorem coal_again : ∀ st : List Pr, Settled st → coalR [] st.reverse = st
  | [], _ => rfl
  | x :: st, h => by
    rw [List.reverse_cons, coalR_append, coal_again st h.tail]
    cases st with
    | nil => rfl
    | cons y st => exact push_of h.1

theorem coal_twice (l : List Pr) : coalP (coalP l) = coalP l := by
  unfold coalP
  rw [coal_again _ (coal_settled l [] trivial)]

theorem push_right : ∀ (st : List Pr) (x : Pr), (∀ y ∈ st, rightP y = true) → rightP x = true → ∀ y ∈ pushR st x, rightP y = true
  | [], x, _, hx => fun y hy => by
    rw [List.mem_singleton.1 hy]
    exact hx
  | y :: st, x, h, hx => by
    unfold pushR
    split
    · intro z hz
      rcases List.mem_cons.1 hz with rfl | hz
      · exact hx
      · exact h z hz
    · exact fun z hz => h z (List.mem_cons_of_mem _ hz)
    · rename_i z _ hj
      exact push_right st z (fun u hu => h u (List.mem_cons_of_mem _ hu)) (join_right hj)

theorem coal_right : ∀ (l st : List Pr), (∀ y ∈ st, rightP y = true) → (∀ y ∈ l, rightP y = true) → ∀ y ∈ coalR st l, rightP y = true
  | [], _, h, _ => h
  | x :: l, st, h, hl => coal_right l (pushR st x) (push_right st x h (hl x (List.mem_cons_self ..))) (fun y hy => hl y (List.mem_cons_of_mem _ hy))

theorem coal_back : ∀ st : List Pr, (∀ y ∈ st, rightP y = true) → coalR st (st.map inv) = []
  | [], _ => rfl
  | x :: st, h => by
    have h1 : pushR (x :: st) (inv x) = st := by
      unfold pushR
      rw [join_inv (h x (List.mem_cons_self ..))]
    simp only [List.map_cons, coalR, List.foldl_cons, h1]
    exact coal_back st (fun y hy => h y (List.mem_cons_of_mem _ hy))

/-- A joined row of right patches, and what undoes it, is nothing. -/
theorem coal_undone {l : List Pr} (h : ∀ y ∈ l, rightP y = true) : coalP (coalP l ++ (coalP l).reverse.map inv) = [] := by
  have h1 := coal_settled l [] trivial
  have h2 := coal_right l [] (fun y hy => by cases hy) h
  unfold coalP
  rw [coalR_append, coal_again _ h1, List.reverse_reverse, coal_back _ h2]
  rfl

end Go.Proofs.YtpfkkpghgmmijaaGreatDoor
