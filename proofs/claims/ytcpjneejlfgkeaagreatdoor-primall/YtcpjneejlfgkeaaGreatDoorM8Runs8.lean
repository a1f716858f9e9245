/-
  What is proved here: the contracts that the statement stands on: Runs8, Eff8, ArgsP, ArgsE. Conditions: as each theorem names them.
-/
import Derived.Test.YtcpjneejlfgkeaaGreatDoorM7Strs9
import Derived.Test.YtcpjneejlfgkeaaGreatDoorChecked
import Derived.Deep.Strs
import Derived.Deep.Slices
import Derived.ProofKit
import Derived.OpenShut
import Derived.ShutString
import Derived.ChangeOld
import Derived.ChangeSame
import Derived.SizedLaws
import Derived.Below
namespace Go.Proofs.YtcpjneejlfgkeaaGreatDoor
open Go.RowKit
set_option maxRecDepth 100000

/-- What is there behind the first k patches. -/
def stE (L : List En) (ps : List Pr) : Nat → List En
  | 0 => L
  | k + 1 => match ps[k]? with
    | some p => (doE (stE L ps k) p).1
    | none => stE L ps k

theorem stE_succ {L : List En} {ps : List Pr} {k : Nat} (hk : k < ps.length) : stE L ps (k + 1) = (doE (stE L ps k) ps[k]).1 := by
  rw [stE, List.getElem?_eq_getElem hk]

/-- All went well with the first k. -/
def OkTo (L : List En) (ps : List Pr) (k : Nat) : Prop := ∀ j (hj : j < ps.length), j < k → (doE (stE L ps j) ps[j]).2 = 0

theorem run_from {L : List En} {ps : List Pr} : ∀ (k : Nat), k ≤ ps.length → OkTo L ps k → runE L ps 0 = runE (stE L ps k) (ps.drop k) k
  | 0, _, _ => rfl
  | k + 1, hk, h => by
    rw [run_from k (by omega) (fun j hj hlt => h j hj (by omega)), List.drop_eq_getElem_cons (show k < ps.length by omega), runE, if_pos (h k (by omega) (by omega)), stE_succ (by omega)]

theorem run_stop {L : List En} {ps : List Pr} {k : Nat} (hk : k < ps.length) (h : OkTo L ps k) (he : (doE (stE L ps k) ps[k]).2 ≠ 0) : runE L ps 0 = ([], (doE (stE L ps k) ps[k]).2, k) := by
  rw [run_from k (by omega) h, List.drop_eq_getElem_cons hk, runE, if_neg he]

theorem run_end {L : List En} {ps : List Pr} (h : OkTo L ps ps.length) : runE L ps 0 = (stE L ps ps.length, 0, 0) := by
  rw [run_from ps.length (Nat.le_refl _) h, List.drop_length]
  rfl

theorem OkTo.succ {L : List En} {ps : List Pr} {k : Nat} (h : OkTo L ps k) (hk : k < ps.length) (he : (doE (stE L ps k) ps[k]).2 = 0) : OkTo L ps (k + 1) := fun j hj hlt => by
  by_cases e : j = k
  · subst e; exact he
  · exact h j hj (by omega)

theorem OkTo.zero (L : List En) (ps : List Pr) : OkTo L ps 0 := fun j _ h => by omega

/-- How many lines come by the first k. -/
def newTo (ps : List Pr) (k : Nat) : Nat := ((ps.take k).map (fun p => p.new.length)).sum

theorem newTo_succ {ps : List Pr} {k : Nat} (hk : k < ps.length) : newTo ps (k + 1) = newTo ps k + ps[k].new.length := by
  unfold newTo
  rw [List.take_succ_eq_append_getElem hk, List.map_append, List.sum_append]
  simp

theorem newTo_le (ps : List Pr) (k : Nat) : newTo ps k ≤ newTo ps ps.length := by
  unfold newTo
  rw [List.take_length]
  conv => rhs; rw [← List.take_append_drop k ps, List.map_append, List.sum_append]
  omega

theorem do_right8 {L : List En} {p : Pr} (e : (doE L p).2 = 0) : rightP p = true ∧ actE L p = ((doE L p).1, 0) := do_of (L' := (doE L p).1) (by rw [← e])

/-- What is so behind each. -/
theorem st_ok {L : List En} {ps : List Pr} {B : Nat} (hL : TreeR L) (hB : SmLn B L) (hp : ∀ p ∈ ps, SmPr p) : ∀ k, k ≤ ps.length → OkTo L ps k → TreeR (stE L ps k) ∧ SmLn (B + newTo ps k) (stE L ps k)
  | 0, _, _ => ⟨hL, hB.mono (Nat.le_add_right _ _)⟩
  | k + 1, hk, h => by
    obtain ⟨h1, h2⟩ := st_ok hL hB hp k (by omega) (fun j hj hlt => h j hj (by omega))
    have hk' : k < ps.length := by omega
    obtain ⟨hr, ha⟩ := do_right8 (h k hk' (by omega))
    rw [stE_succ hk', newTo_succ hk', ← Nat.add_assoc]
    exact ⟨h1.act hr ha, h2.act (hp _ (List.getElem_mem hk')) h1.strict hr ha⟩

/-- A tree put into a map, one by one, is that tree. -/
theorem puts_self : ∀ (A B : List En), Strict (A ++ B) → B.foldl putE A = A ++ B
  | A, [], _ => by simp
  | A, x :: B, h => by
    have hA : ∀ y ∈ A, bl y.path < bl x.path := fun y hy => (List.pairwise_append.1 h).2.2 y hy x (List.mem_cons_self ..)
    have e : putE A x = A ++ [x] := by
      unfold putE
      rw [del_none (find_no (fun y hy e => by have := hA y hy; rw [e] at this; exact List.lt_irrefl _ this))]
      clear h
      induction A with
      | nil => rfl
      | cons y A ih =>
        rw [insE, if_neg (fun e => List.lt_irrefl _ (List.lt_trans (hA y (List.mem_cons_self ..)) e)), ih (fun z hz => hA z (List.mem_cons_of_mem _ hz))]
        rfl
    rw [List.foldl_cons, e, puts_self (A ++ [x]) B (by simpa using h)]
    simp

end Go.Proofs.YtcpjneejlfgkeaaGreatDoor

namespace Go.Proofs.YtcpjneejlfgkeaaGreatDoor
open Go.RowKit
set_option maxRecDepth 100000

abbrev Fm := List UInt8 → Option En

/-- Where something was, once all of A lies at B. -/
def backM (A B s : List UInt8) : List UInt8 := A ++ s.drop B.length

def okF (p : Pr) (f : Fm) : Prop :=
  if p.kind = 1 ∨ p.kind = 3 ∨ p.kind = 5 then f (bl p.path) = none ∧ ∀ q, Path.parent (bl p.path) = some q → ∃ d, f q = some d ∧ d.kind = 1
  else if p.kind = 2 ∨ p.kind = 4 ∨ p.kind = 6 then (∃ x, f (bl p.path) = some x ∧ x.kind = p.kind / 2 ∧ x.lines = [] ∧ x.data = ⟨#[]⟩) ∧ ∀ s, Path.within s (bl p.path) = true → s ≠ bl p.path → f s = none
  else if p.kind = 10 then f (bl p.path) ≠ none ∧ (f (bl p.dst) = none ∧ ∀ q, Path.parent (bl p.dst) = some q → ∃ d, f q = some d ∧ d.kind = 1) ∧ ∀ s, Path.within s (bl p.path) = true → f s ≠ none → Path.right (Path.moved s (bl p.path) (bl p.dst)) = true
  else ∃ x y, f (bl p.path) = some x ∧ x.kind = (if p.kind = 9 then 3 else 2) ∧ withE x p = some y

def effF (p : Pr) (f : Fm) : Fm := fun s =>
  if p.kind = 1 ∨ p.kind = 3 ∨ p.kind = 5 then (if s = bl p.path then some ⟨p.path, (p.kind + 1) / 2, [], ⟨#[]⟩⟩ else f s)
  else if p.kind = 2 ∨ p.kind = 4 ∨ p.kind = 6 then (if s = bl p.path then none else f s)
  else if p.kind = 10 then (if Path.within s (bl p.dst) then (f (backM (bl p.path) (bl p.dst) s)).map (mvE (bl p.path) (bl p.dst)) else if Path.within s (bl p.path) then none else f s)
  else (if s = bl p.path then (f s).bind (fun x => withE x p) else f s)

/-- Does a patch want room? -/
def wants (p : Pr) : Prop := p.kind = 1 ∨ p.kind = 3 ∨ p.kind = 5

theorem find_path {L : List En} {s : List UInt8} {x : En} (h : findE L s = some x) : bl x.path = s := (find_some h).2

theorem find_mem {L : List En} (h : Strict L) {s : List UInt8} {x : En} : findE L s = some x ↔ x ∈ L ∧ bl x.path = s :=
  ⟨fun e => find_some e, fun e => find_is h e.1 e.2⟩

/-- Rows that rise and have the same at each path are the same. -/
theorem find_ext {A B : List En} (hA : Strict A) (hB : Strict B) (h : ∀ s, findE A s = findE B s) : A = B :=
  strict_ext hA hB (fun x => by
    have h1 := find_mem hA (s := bl x.path) (x := x)
    have h2 := find_mem hB (s := bl x.path) (x := x)
    rw [h] at h1
    constructor
    · intro hx; exact (h2.1 (h1.2 ⟨hx, rfl⟩)).1
    · intro hx; exact (h1.1 (h2.2 ⟨hx, rfl⟩)).1)

theorem opt_ext {a b : Option En} (h : ∀ x, a = some x ↔ b = some x) : a = b := by
  cases a with
  | none =>
    cases b with
    | none => rfl
    | some y => exact (((h y).2 rfl).symm ▸ rfl)
  | some x => exact ((h x).1 rfl).symm

theorem find_put {L : List En} (h : Strict L) (x : En) (s : List UInt8) : findE (putE L x) s = if s = bl x.path then some x else findE L s := by
  refine opt_ext (fun y => ?_)
  rw [find_mem (strict_putE h x), mem_putE]
  by_cases e : s = bl x.path
  · rw [if_pos e]
    constructor
    · rintro ⟨(rfl | ⟨_, hn⟩), hp⟩
      · rfl
      · exact absurd (hp.trans e) hn
    · intro hy; cases hy; exact ⟨Or.inl rfl, e.symm⟩
  · rw [if_neg e, find_mem h]
    constructor
    · rintro ⟨(rfl | ⟨a, _⟩), hp⟩
      · exact absurd hp.symm e
      · exact ⟨a, hp⟩
    · rintro ⟨a, hp⟩; exact ⟨Or.inr ⟨a, fun e2 => e (hp.symm.trans e2)⟩, hp⟩

theorem find_del {L : List En} (h : Strict L) (p s : List UInt8) : findE (delE L p) s = if s = p then none else findE L s := by
  refine opt_ext (fun y => ?_)
  rw [find_mem (strict_delE h p), mem_delE]
  by_cases e : s = p
  · rw [if_pos e]
    constructor
    · rintro ⟨⟨_, hn⟩, hp⟩; exact absurd (hp.trans e) hn
    · intro hy; cases hy
  · rw [if_neg e, find_mem h]
    constructor
    · rintro ⟨⟨a, _⟩, hp⟩; exact ⟨a, hp⟩
    · rintro ⟨a, hp⟩; exact ⟨⟨a, fun e2 => e (hp.symm.trans e2)⟩, hp⟩

theorem back_in {A B r : List UInt8} : backM A B (B ++ r) = A ++ r := by
  unfold backM; rw [List.drop_left]

theorem within_app {s B : List UInt8} (h : Path.within s B = true) : ∃ r, s = B ++ r ∧ (r = [] ∨ ∃ t, r = 47 :: t) := by
  rcases (Path.within_iff _ _).1 h with e | ⟨r, e⟩
  · exact ⟨[], by simpa using e, Or.inl rfl⟩
  · exact ⟨47 :: r, e, Or.inr ⟨r, rfl⟩⟩

theorem within_of {A r : List UInt8} (h : r = [] ∨ ∃ t, r = 47 :: t) : Path.within (A ++ r) A = true := by
  rcases h with rfl | ⟨t, rfl⟩
  · rw [List.append_nil]; exact Path.within_refl _
  · exact Path.within_join _ _

theorem back_within {A B s : List UInt8} (h : Path.within s B = true) : Path.within (backM A B s) A = true := by
  obtain ⟨r, rfl, hr⟩ := within_app h
  rw [back_in]
  exact within_of hr

theorem mv_at {A B s : List UInt8} {x : En} (h : Path.within s B = true) (e : bl x.path = backM A B s) : bl (mvE A B x).path = s := by
  obtain ⟨r, rfl, hr⟩ := within_app h
  rw [back_in] at e
  exact mv_path e (by rw [e]; exact within_of hr)

theorem back_mv {A B : List UInt8} {x : En} (h : Path.within (bl x.path) A = true) : backM A B (bl (mvE A B x).path) = bl x.path := by
  obtain ⟨r, e, _⟩ := in_path h
  rw [mv_path e h, back_in, e]

theorem TreeR.find_move {L : List En} (h : TreeR L) {A B : List UInt8} (hB : findE L B = none) (s : List UInt8) : findE (moveL L (inE L A) A B) s = if Path.within s B then (findE L (backM A B s)).map (mvE A B) else if Path.within s A then none else findE L s := by
  refine opt_ext (fun y => ?_)
  rw [find_mem (strict_moveL h.strict _ _ _), h.mem_move hB]
  cases hw : Path.within s B with
  | true =>
    rw [if_pos rfl]
    constructor
    · rintro ⟨⟨x, hx, hxw, rfl⟩ | ⟨hy, hn⟩, hp⟩
      · rw [← hp, back_mv hxw, find_of_mem h.strict hx]; rfl
      · have := h.none_in hB y hy
        rw [hp, hw] at this; cases this
    · intro e
      obtain ⟨x, hx, rfl⟩ := Option.map_eq_some_iff.1 e
      obtain ⟨h1, h2⟩ := find_some hx
      exact ⟨Or.inl ⟨x, h1, by rw [h2]; exact back_within hw, rfl⟩, mv_at hw h2⟩
  | false =>
    rw [if_neg (by simp)]
    cases hwa : Path.within s A with
    | true =>
      rw [if_pos rfl]
      constructor
      · rintro ⟨⟨x, hx, hxw, rfl⟩ | ⟨hy, hn⟩, hp⟩
        · have := mv_in (q := B) hxw
          rw [hp, hw] at this; cases this
        · rw [hp, hwa] at hn; cases hn
      · intro e; cases e
    | false =>
      rw [if_neg (by simp), find_mem h.strict]
      constructor
      · rintro ⟨⟨x, hx, hxw, rfl⟩ | ⟨hy, hn⟩, hp⟩
        · have := mv_in (q := B) hxw
          rw [hp, hw] at this; cases this
        · exact ⟨hy, hp⟩
      · rintro ⟨hy, hp⟩; exact ⟨Or.inr ⟨hy, by rw [hp]; exact hwa⟩, hp⟩

theorem TreeR.in_only {L : List En} (h : TreeR L) {p : List UInt8} {x : En} (hx : findE L p = some x) : (inE L p).length = 1 ↔ ∀ s, Path.within s p = true → s ≠ p → findE L s = none := by
  obtain ⟨h1, h2⟩ := find_some hx
  have hm : x ∈ inE L p := mem_inE.2 ⟨h1, by rw [h2]; exact Path.within_refl _⟩
  constructor
  · intro hl s hs hne
    refine find_no (fun y hy e => ?_)
    have := in_one hl hm (mem_inE.2 ⟨hy, by rw [e]; exact hs⟩)
    exact hne (by rw [← e, ← this, h2])
  · intro hn
    have : inE L p = [x] := strict_ext (List.Pairwise.filter _ h.strict) (List.pairwise_singleton ..) (fun y => by
      rw [List.mem_singleton]
      constructor
      · intro hy
        obtain ⟨y1, y2⟩ := mem_inE.1 hy
        by_cases e : bl y.path = p
        · exact strict_inj h.strict y1 h1 (e.trans h2.symm)
        · have := hn _ y2 e
          rw [find_of_mem h.strict y1] at this; cases this
      · rintro rfl; exact hm)
    rw [this]; rfl

theorem moved_mv {A B : List UInt8} (x : En) : bl (mvE A B x).path = Path.moved (bl x.path) A B := rfl

/-- What a right patch does, told by what lies at each path. -/
theorem TreeR.told {L M : List En} (h : TreeR L) {p : Pr} (hr : rightP p = true) : actE L p = (M, 0) ↔ okF p (findE L) ∧ (wants p → L.length < 1024) ∧ Strict M ∧ ∀ s, findE M s = effF p (findE L) s := by
  obtain ⟨hk, hp, hrule⟩ := rule_of hr
  unfold okF effF wants
  by_cases k1 : p.kind = 1 ∨ p.kind = 3 ∨ p.kind = 5
  · simp only [if_pos k1]
    rw [act_add k1, freeE_zero]
    constructor
    · rintro ⟨h1, h2, rfl⟩
      exact ⟨h1, fun _ => h2, strict_putE h.strict _, fun s => find_put h.strict _ s⟩
    · rintro ⟨h1, h2, h3, h4⟩
      exact ⟨h1, h2 k1, find_ext h3 (strict_putE h.strict _) (fun s => (h4 s).trans (find_put h.strict ⟨p.path, (p.kind + 1) / 2, [], ⟨#[]⟩⟩ s).symm)⟩
  · simp only [if_neg k1]
    by_cases k2 : p.kind = 2 ∨ p.kind = 4 ∨ p.kind = 6
    · simp only [if_pos k2]
      rw [act_rm k2]
      constructor
      · rintro ⟨x, hx, a, b, c, d, rfl⟩
        exact ⟨⟨⟨x, hx, a, b, c⟩, (h.in_only hx).1 d⟩, fun e => absurd e k1, strict_delE h.strict _, fun s => find_del h.strict _ s⟩
      · rintro ⟨⟨⟨x, hx, a, b, c⟩, d⟩, _, h3, h4⟩
        exact ⟨x, hx, a, b, c, (h.in_only hx).2 d, find_ext h3 (strict_delE h.strict _) (fun s => (h4 s).trans (find_del h.strict _ s).symm)⟩
    · simp only [if_neg k2]
      by_cases k3 : p.kind = 10
      · simp only [if_pos k3]
        rw [act_move k3, freeE_zero]
        have hall : (inE L (bl p.path)).all (fun x => Path.right (bl (mvE (bl p.path) (bl p.dst) x).path)) = true ↔ ∀ s, Path.within s (bl p.path) = true → findE L s ≠ none → Path.right (Path.moved s (bl p.path) (bl p.dst)) = true := by
          rw [List.all_eq_true]
          constructor
          · intro ha s hs hn
            obtain ⟨x, hx⟩ := Option.ne_none_iff_exists'.1 hn
            obtain ⟨x1, x2⟩ := find_some hx
            have := ha x (mem_inE.2 ⟨x1, by rw [x2]; exact hs⟩)
            rw [moved_mv, x2] at this
            exact this
          · intro ha x hx
            obtain ⟨x1, x2⟩ := mem_inE.1 hx
            rw [moved_mv]
            exact ha _ x2 (by rw [find_of_mem h.strict x1]; simp)
        rw [hall]
        constructor
        · rintro ⟨a, b, c, rfl⟩
          exact ⟨⟨a, b, c⟩, fun e => absurd e k1, strict_moveL h.strict _ _ _, fun s => h.find_move b.1 s⟩
        · rintro ⟨⟨a, b, c⟩, _, h3, h4⟩
          exact ⟨a, b, c, find_ext h3 (strict_moveL h.strict _ _ _) (fun s => (h4 s).trans (h.find_move b.1 s).symm)⟩
      · simp only [if_neg k3]
        have k4 : p.kind = 7 ∨ p.kind = 8 ∨ p.kind = 9 := by omega
        rw [act_change k4]
        have key : ∀ x y, findE L (bl p.path) = some x → withE x p = some y → ∀ s, findE (putE L y) s = if s = bl p.path then (findE L s).bind (fun x => withE x p) else findE L s := fun x y hx hw s => by
          rw [find_put h.strict, (with_facts hw).1, find_path hx]
          by_cases e : s = bl p.path
          · rw [if_pos e, if_pos e, e, hx]; exact hw.symm
          · rw [if_neg e, if_neg e]
        constructor
        · rintro ⟨x, y, hx, a, hw, rfl⟩
          exact ⟨⟨x, y, hx, a, hw⟩, fun e => absurd e k1, strict_putE h.strict _, key x y hx hw⟩
        · rintro ⟨⟨x, y, hx, a, hw⟩, _, h3, h4⟩
          exact ⟨x, y, hx, a, hw, find_ext h3 (strict_putE h.strict _) (fun s => (h4 s).trans (key x y hx hw s).symm)⟩

end Go.Proofs.YtcpjneejlfgkeaaGreatDoor

namespace Go.Proofs.YtcpjneejlfgkeaaGreatDoor
open Go.ChangeShapes Go.WideShapes Go.ChangeAt Go.RowKit Go.Deep
set_option maxRecDepth 100000

theorem own : ownKnob Tryz.prog.godebug = none := by kernel_rfl
theorem laidOut : laidOutB Tryz.prog = true := by kernel_rfl

theorem bounds_u8 {n : Int} (h : (Lit.int .u8 n).wf = true) : 0 ≤ n ∧ n < 256 := by
  simp [Lit.wf, IntKind.min, IntKind.max, IntKind.bits, IntKind.signed] at h
  omega

theorem add_none7 {a : Addr} (h : a.spot = none) (i : Nat) : a.add i = ⟨a.block, a.off + i, none⟩ := by
  obtain ⟨b, o, s⟩ := a
  simp only at h
  subst h
  unfold Addr.add
  split <;> simp_all

theorem spot_none7 {w : World} {a : Addr} {u : Value} (h : w.cell? a = some u) : a.spot = none := by
  unfold World.cell? at h
  split at h
  · split at h
    · cases h
    · rename_i h1; simpa using h1
  · cases h

theorem mapM_at7 {α β : Type} (f : α → Option β) : ∀ (l : List α) (r : List β), l.mapM f = some r → ∀ (j : Nat) (u : β), r[j]? = some u → ∃ x, l[j]? = some x ∧ f x = some u
  | [], r, h, j, u, hu => by
    simp at h; subst h; simp at hu
  | a :: l, r, h, j, u, hu => by
    rw [List.mapM_cons] at h
    obtain ⟨y, hy, h⟩ := Option.bind_eq_some_iff.1 h
    obtain ⟨ys, hys, h⟩ := Option.bind_eq_some_iff.1 h
    obtain rfl : y :: ys = r := by simpa using h
    cases j with
    | zero => simp at hu; subst hu; exact ⟨a, rfl, hy⟩
    | succ j => simpa using mapM_at7 f l ys hys j u (by simpa using hu)

theorem cells_at7 {w : World} {a : Addr} {n : Nat} {cs : List Value} (h : w.cells? 0 a n = some cs) (j : Nat) (u : Value) (hj : cs[j]? = some u) : w.cell? (a.add j) = some u := by
  unfold World.cells? at h
  rw [if_pos (Nat.zero_le _)] at h
  obtain ⟨x, h1, h2⟩ := mapM_at7 _ _ _ h j u hj
  have : x = j := by
    obtain ⟨h3, h4⟩ := List.getElem?_eq_some_iff.1 h1
    simpa using h4.symm
  rw [← this]; exact h2

theorem weightsAll_mem {H : Type} {P : Program} {e : TypeId} : ∀ {l : List (DataW H)} {d : DataW H}, d ∈ l → ∀ n ∈ d.weights P e, n ∈ DataW.weightsAll P e l
  | [], _, h, _, _ => by cases h
  | x :: l, d, h, n, hn => by
    rw [DataW.weightsAll]
    rcases List.mem_cons.1 h with rfl | h
    · exact List.mem_append_left _ hn
    · exact List.mem_append_right _ (weightsAll_mem h n hn)

theorem trod_strs9 {H : Type} {enc : TypeId × Value → H} {W : World} {fuel : Nat} {sp : Nat → Bool} {held : Bool} {cs : List Value} {x : DataW H × List MemPlace} (h : DataW.trod enc Tryz.prog W 0 sp held fuel 23 cs = some x) (hr : ∀ n ∈ x.1.weights Tryz.prog 23, n ≤ reachBytes) : ∃ v l, cs = [v] ∧ StrsAt W v l ∧ l.length ≤ reachBytes := by
  have hle : ∀ va len cap, cs = [.slice va len cap] → len ≤ reachBytes := fun va len cap e => by
    rcases open_slice Tryz.underlying23 h with ⟨hcs, _⟩ | ⟨a, len', cap', m, n, D, Pl, hcs, _, hl, hm, hmm, rfl, hx⟩
    · rw [hcs] at e
      injection e with e
      injection e with e1 e2 e3
      omega
    · rw [hcs] at e
      injection e with e
      injection e with e1 e2 e3
      have h1 := hr ((((List.range len').map D).length + ((List.range (m - len')).map fun j => D (len' + j)).length) * Tryz.prog.bytesOf 9) (by simp [DataW.weights, Tryz.underlying23])
      have e16 : Tryz.prog.bytesOf 9 = 16 := by kernel_rfl
      rw [e16] at h1
      simp at h1
      omega
  rcases Deep.open_strs Tryz.underlying23 Tryz.underlying9 (by kernel_rfl) h with ⟨hcs, _⟩ | ⟨ad, len, cap, m, Sx, hcs, _, hl, hm, hmm, _, hcell⟩
  · exact ⟨_, [], hcs, ⟨none, 0, rfl, fun _ => rfl, Nat.le_refl _, fun j x e => by simp at e⟩, Nat.zero_le _⟩
  · have hlm : len ≤ m := by rw [hmm]; split <;> omega
    refine ⟨_, (List.range len).map Sx, hcs, ⟨some ad, cap, by simp, (fun e => by cases e), by simpa using hl, fun j x hj => ?_⟩, by simpa using hle _ _ _ hcs⟩
    have hjn : j < len := by simpa using (List.getElem?_eq_some_iff.1 hj).1
    have hx : Sx j = x := by simpa [hjn] using hj
    have h0 := spot_none7 (hcell 0 (by omega)).1
    rw [show ad.add 0 = ad from rfl] at h0
    refine ⟨ad.block, ad.off, ?_, ?_⟩
    · obtain ⟨b, o, s⟩ := ad
      simp_all
    · rw [← add_none7 h0, ← hx]
      exact (hcell j (by omega)).1

theorem trod_prim {H : Type} {enc : TypeId × Value → H} {W : World} {fuel : Nat} {sp : Nat → Bool} {held : Bool} {cs : List Value} {x : DataW H × List MemPlace} (h : DataW.trod enc Tryz.prog W 0 sp held fuel 25 cs = some x) (hr : ∀ n ∈ x.1.weights Tryz.prog 25, n ≤ reachBytes) :
    ∃ (t : Pr) (vo vn : Value), cs = [.int .i64 t.kind, .string t.path, .string t.dst, .string t.src, .int .i64 t.pos, vo, vn] ∧ StrsAt W vo t.old ∧ StrsAt W vn t.new ∧ t.old.length ≤ reachBytes ∧ t.new.length ≤ reachBytes := by
  obtain ⟨xs, n, _, rfl, hl, hlen, hf⟩ := DataW.trod_struct Tryz.underlying25 h
  have h7 : Tryz.prog.cellsOf 25 = 7 := by kernel_rfl
  have hcI : Tryz.prog.cellsOf 3 = 1 := by kernel_rfl
  have hcS : Tryz.prog.cellsOf 9 = 1 := by kernel_rfl
  have hcL : Tryz.prog.cellsOf 23 = 1 := by kernel_rfl
  rw [h7] at hl
  match cs, hl, xs, hlen with
  | [c0, c1, c2, c3, c4, c5, c6], _, [x0, x1, x2, x3, x4, x5, x6], _ =>
    have f0 := hf 0 _ rfl
    have f1 := hf 1 _ rfl
    have f2 := hf 2 _ rfl
    have f3 := hf 3 _ rfl
    have f4 := hf 4 _ rfl
    have f5 := hf 5 _ rfl
    have f6 := hf 6 _ rfl
    simp [hcI, hcS, hcL] at f0 f1 f2 f3 f4 f5 f6
    obtain ⟨z0, e0, _, _⟩ := DataW.trod_int Tryz.underlying3 f0
    obtain ⟨s1, e1, _, _⟩ := DataW.trod_string Tryz.underlying9 f1
    obtain ⟨s2, e2, _, _⟩ := DataW.trod_string Tryz.underlying9 f2
    obtain ⟨s3, e3, _, _⟩ := DataW.trod_string Tryz.underlying9 f3
    obtain ⟨z4, e4, _, _⟩ := DataW.trod_int Tryz.underlying3 f4
    obtain ⟨vo, lo, e5, t5, l5⟩ := trod_strs9 f5 (fun k hk => hr k (by
      simp [DataW.weights, Tryz.underlying25, DataW.weightsEach]
      simp [hk]))
    obtain ⟨vn, ln, e6, t6, l6⟩ := trod_strs9 f6 (fun k hk => hr k (by
      simp [DataW.weights, Tryz.underlying25, DataW.weightsEach]
      simp [hk]))
    simp only [List.cons.injEq, and_true] at e0 e1 e2 e3 e4 e5 e6
    subst e0 e1 e2 e3 e4 e5 e6
    exact ⟨⟨z0, s1, s2, s3, z4, lo, ln⟩, c5, c6, rfl, t5, t6, l5, l6⟩

/-- A patch as an argument is. -/
theorem arg_prim {H : Type} {enc : TypeId × Value → H} {W : World} {sp : Nat → Bool} {held : Bool} {base : Nat} {v : Value} {d : DataW H} {ps : List MemPlace} (hv : Value.okWide Tryz.prog W .any base 25 v) (h : DataW.Trod enc Tryz.prog W 0 sp held 25 v d ps) (hr : ∀ n ∈ d.weights Tryz.prog 25, n ≤ reachBytes) :
    ∃ (t : Pr) (vo vn : Value), v = .agg #[.int .i64 t.kind, .string t.path, .string t.dst, .string t.src, .int .i64 t.pos, vo, vn] ∧ StrsAt W vo t.old ∧ StrsAt W vn t.new ∧ t.old.length ≤ reachBytes ∧ t.new.length ≤ reachBytes := by
  simp only [Value.okWide, Tryz.underlying25] at hv
  obtain ⟨cs, rfl, _⟩ := hv
  obtain ⟨fuel, hf⟩ := h
  obtain ⟨t, vo, vn, e, h1, h2, h3, h4⟩ := trod_prim hf hr
  refine ⟨t, vo, vn, ?_, h1, h2, h3, h4⟩
  obtain ⟨u⟩ := cs
  have e' : u = [.int .i64 t.kind, .string t.path, .string t.dst, .string t.src, .int .i64 t.pos, vo, vn] := e
  rw [e']

/-- A row of patches as an argument is. -/
theorem trod_prims {H : Type} {enc : TypeId × Value → H} {W : World} {sp : Nat → Bool} {held : Bool} {base : Nat} {v : Value} {d : DataW H} {ps : List MemPlace} (hv : Value.okWide Tryz.prog W .any base 34 v) (h : DataW.Trod enc Tryz.prog W 0 sp held 34 v d ps) (hr : ∀ n ∈ d.weights Tryz.prog 34, n ≤ reachBytes) :
    ∃ a n c L, v = .slice a n c ∧ L.length = n ∧ PrsAt W a L ∧ (a = none → c = 0) ∧ ∀ x ∈ L, x.old.length ≤ reachBytes ∧ x.new.length ≤ reachBytes := by
  obtain ⟨a, n, c, rfl⟩ := okWide_slice Tryz.underlying34 hv
  obtain ⟨fuel, hf⟩ := h
  rcases open_slice Tryz.underlying34 hf with ⟨hcs, _⟩ | ⟨ad, len, cap, m, fu, D, Pl, hcs, _, hl, hm, hmm, hd, hx⟩
  · simp only [Value.cells, List.cons.injEq, Value.slice.injEq, and_true] at hcs
    obtain ⟨rfl, rfl, rfl⟩ := hcs
    exact ⟨none, 0, 0, [], rfl, rfl, (fun k x e => by simp at e), fun _ => rfl, fun x e => by cases e⟩
  · simp only [Value.cells, List.cons.injEq, Value.slice.injEq, and_true] at hcs
    obtain ⟨rfl, rfl, rfl⟩ := hcs
    injection hd with hd1 hd2
    subst hd1
    have hlm : n ≤ m := by rw [hmm]; split <;> omega
    have h7 : Tryz.prog.cellsOf 25 = 7 := by kernel_rfl
    rw [h7] at hx
    have hall : ∀ i, i < n → ∃ t : Pr × Value × Value, ∃ cs', W.cells? 0 (ad.add (i * 7)) 7 = some cs' ∧ cs' = [.int .i64 t.1.kind, .string t.1.path, .string t.1.dst, .string t.1.src, .int .i64 t.1.pos, t.2.1, t.2.2] ∧ StrsAt W t.2.1 t.1.old ∧ StrsAt W t.2.2 t.1.new ∧ t.1.old.length ≤ reachBytes ∧ t.1.new.length ≤ reachBytes := fun i hi => by
      obtain ⟨cs', h1, h2⟩ := hx i (by omega)
      obtain ⟨t, vo, vn, e, s1, s2, s3, s4⟩ := trod_prim h2 (fun k hk => hr k (by
        simp only [DataW.weights, Tryz.underlying34]
        refine List.mem_cons_of_mem _ (List.mem_append_left _ (weightsAll_mem (d := D i) (List.mem_map_of_mem (List.mem_range.2 hi)) k hk))))
      exact ⟨(t, vo, vn), cs', h1, e, s1, s2, s3, s4⟩
    have hin : Inhabited (Pr × Value × Value) := ⟨(⟨0, ⟨#[]⟩, ⟨#[]⟩, ⟨#[]⟩, 0, [], []⟩, .nilFunc, .nilFunc)⟩
    obtain ⟨T, hT⟩ := choose_lt hall
    refine ⟨some ad, n, c, (List.range n).map (fun i => (T i).1), rfl, by simp, fun i t hi => ?_, (fun e => by cases e), fun x hx => ?_⟩
    · have hil : i < n := by simpa using (List.getElem?_eq_some_iff.1 hi).1
      have e : (T i).1 = t := by simpa [hil] using hi
      obtain ⟨cs', h1, h2, s1, s2, _⟩ := hT i hil
      subst h2
      have c0 := cells_at7 h1 0 _ rfl
      have c1 := cells_at7 h1 1 _ rfl
      have c2 := cells_at7 h1 2 _ rfl
      have c3 := cells_at7 h1 3 _ rfl
      have c4 := cells_at7 h1 4 _ rfl
      have c5 := cells_at7 h1 5 _ rfl
      have c6 := cells_at7 h1 6 _ rfl
      have hsp : ad.spot = none := by
        obtain ⟨cs0, g1, g2, _⟩ := hT 0 (by omega)
        subst g2
        have := spot_none7 (cells_at7 g1 0 _ rfl)
        simpa [Addr.add] using this
      have ead : ad.add (i * 7) = ⟨ad.block, ad.off + i * 7, none⟩ := add_none7 hsp _
      rw [ead] at c0 c1 c2 c3 c4 c5 c6
      rw [add_none7 rfl] at c0 c1 c2 c3 c4 c5 c6
      rw [← e]
      refine ⟨ad.block, ad.off, ?_, (T i).2.1, (T i).2.2, c0, c1, c2, c3, c4, c5, c6, s1, s2⟩
      obtain ⟨b, o, s⟩ := ad
      simp_all
    · obtain ⟨i, hi, rfl⟩ := List.mem_map.1 hx
      obtain ⟨_, _, _, _, _, s3, s4⟩ := hT i (List.mem_range.1 hi)
      exact ⟨s3, s4⟩

end Go.Proofs.YtcpjneejlfgkeaaGreatDoor

namespace Go.Proofs.YtcpjneejlfgkeaaGreatDoor
open Go.ChangeShapes Go.WideShapes Go.ChangeAt Go.RowKit Go.Deep
set_option maxRecDepth 100000

theorem trod_strs7 {H : Type} {enc : TypeId × Value → H} {W : World} {fuel : Nat} {sp : Nat → Bool} {held : Bool} {cs : List Value} {x : DataW H × List MemPlace} (h : DataW.trod enc Tryz.prog W 0 sp held fuel 23 cs = some x) (hr : ∀ n ∈ x.1.weights Tryz.prog 23, n ≤ reachBytes) : ∃ v l, cs = [v] ∧ StrsAt W v l ∧ l.length ≤ reachBytes := by
  have hle : ∀ va len cap, cs = [.slice va len cap] → len ≤ reachBytes := fun va len cap e => by
    rcases open_slice Tryz.underlying23 h with ⟨hcs, _⟩ | ⟨a, len', cap', m, n, D, Pl, hcs, _, hl, hm, hmm, rfl, hx⟩
    · rw [hcs] at e
      injection e with e
      injection e with e1 e2 e3
      omega
    · rw [hcs] at e
      injection e with e
      injection e with e1 e2 e3
      have h1 := hr ((((List.range len').map D).length + ((List.range (m - len')).map fun j => D (len' + j)).length) * Tryz.prog.bytesOf 9) (by simp [DataW.weights, Tryz.underlying23])
      have e16 : Tryz.prog.bytesOf 9 = 16 := by kernel_rfl
      rw [e16] at h1
      simp at h1
      omega
  rcases Deep.open_strs Tryz.underlying23 Tryz.underlying9 (by kernel_rfl) h with ⟨hcs, _⟩ | ⟨ad, len, cap, m, Sx, hcs, _, hl, hm, hmm, _, hcell⟩
  · exact ⟨_, [], hcs, ⟨none, 0, rfl, fun _ => rfl, Nat.le_refl _, fun j x e => by simp at e⟩, Nat.zero_le _⟩
  · have hlm : len ≤ m := by rw [hmm]; split <;> omega
    refine ⟨_, (List.range len).map Sx, hcs, ⟨some ad, cap, by simp, (fun e => by cases e), by simpa using hl, fun j x hj => ?_⟩, by simpa using hle _ _ _ hcs⟩
    have hjn : j < len := by simpa using (List.getElem?_eq_some_iff.1 hj).1
    have hx : Sx j = x := by simpa [hjn] using hj
    have h0 := spot_none7 (hcell 0 (by omega)).1
    rw [show ad.add 0 = ad from rfl] at h0
    refine ⟨ad.block, ad.off, ?_, ?_⟩
    · obtain ⟨b, o, s⟩ := ad
      simp_all
    · rw [← add_none7 h0, ← hx]
      exact (hcell j (by omega)).1

theorem trod_ent {H : Type} {enc : TypeId × Value → H} {W : World} {fuel : Nat} {sp : Nat → Bool} {held : Bool} {cs : List Value} {x : DataW H × List MemPlace} (h : DataW.trod enc Tryz.prog W 0 sp held fuel 41 cs = some x) (hr : ∀ n ∈ x.1.weights Tryz.prog 41, n ≤ reachBytes) :
    ∃ (t : En) (vl : Value), cs = [.string t.path, .int .i64 t.kind, vl, .string t.data] ∧ StrsAt W vl t.lines ∧ t.lines.length ≤ reachBytes := by
  obtain ⟨xs, n, _, rfl, hl, hlen, hf⟩ := DataW.trod_struct Tryz.underlying41 h
  have h4 : Tryz.prog.cellsOf 41 = 4 := by kernel_rfl
  have hcI : Tryz.prog.cellsOf 3 = 1 := by kernel_rfl
  have hcS : Tryz.prog.cellsOf 9 = 1 := by kernel_rfl
  have hcL : Tryz.prog.cellsOf 23 = 1 := by kernel_rfl
  rw [h4] at hl
  match cs, hl, xs, hlen with
  | [c0, c1, c2, c3], _, [x0, x1, x2, x3], _ =>
    have f0 := hf 0 _ rfl
    have f1 := hf 1 _ rfl
    have f2 := hf 2 _ rfl
    have f3 := hf 3 _ rfl
    simp [hcI, hcS, hcL] at f0 f1 f2 f3
    obtain ⟨sa, e0, _, _⟩ := DataW.trod_string Tryz.underlying9 f0
    obtain ⟨z, e1, _, _⟩ := DataW.trod_int Tryz.underlying3 f1
    obtain ⟨vl, l, e2, s2, l2⟩ := trod_strs7 f2 (fun k hk => hr k (by
      simp [DataW.weights, Tryz.underlying41, DataW.weightsEach]
      simp [hk]))
    obtain ⟨sb, e3, _, _⟩ := DataW.trod_string Tryz.underlying9 f3
    simp only [List.cons.injEq, and_true] at e0 e1 e2 e3
    subst e0 e1 e2 e3
    exact ⟨⟨sa, z, l, sb⟩, c2, rfl, s2, l2⟩

/-- A row of things as an argument is. -/
theorem trod_ents {H : Type} {enc : TypeId × Value → H} {W : World} {sp : Nat → Bool} {held : Bool} {base : Nat} {v : Value} {d : DataW H} {ps : List MemPlace} (hv : Value.okWide Tryz.prog W .any base 22 v) (h : DataW.Trod enc Tryz.prog W 0 sp held 22 v d ps) (hr : ∀ n ∈ d.weights Tryz.prog 22, n ≤ reachBytes) :
    ∃ a n c L, v = .slice a n c ∧ L.length = n ∧ EntsAt W a L ∧ n ≤ reachBytes ∧ n ≤ c ∧ ∀ x ∈ L, x.lines.length ≤ reachBytes := by
  obtain ⟨a, n, c, rfl⟩ := okWide_slice Tryz.underlying22 hv
  obtain ⟨fuel, hf⟩ := h
  rcases open_slice Tryz.underlying22 hf with ⟨hcs, _⟩ | ⟨ad, len, cap, m, fu, D, Pl, hcs, _, hl, hm, hmm, hd, hx⟩
  · simp only [Value.cells, List.cons.injEq, Value.slice.injEq, and_true] at hcs
    obtain ⟨rfl, rfl, rfl⟩ := hcs
    exact ⟨none, 0, 0, [], rfl, rfl, (fun k x e => by simp at e), Nat.zero_le _, Nat.le_refl _, fun x e => by cases e⟩
  · simp only [Value.cells, List.cons.injEq, Value.slice.injEq, and_true] at hcs
    obtain ⟨rfl, rfl, rfl⟩ := hcs
    injection hd with hd1 hd2
    subst hd1
    have hlm : n ≤ m := by rw [hmm]; split <;> omega
    have h4 : Tryz.prog.cellsOf 41 = 4 := by kernel_rfl
    rw [h4] at hx
    have hwt : n ≤ reachBytes := by
      have h1 := hr ((((List.range n).map D).length + ((List.range (m - n)).map fun j => D (n + j)).length) * Tryz.prog.bytesOf 41) (by simp [DataW.weights, Tryz.underlying22])
      have e : Tryz.prog.bytesOf 41 = 64 := by kernel_rfl
      rw [e] at h1
      simp at h1
      omega
    have hall : ∀ i, i < n → ∃ t : En × Value, ∃ cs', W.cells? 0 (ad.add (i * 4)) 4 = some cs' ∧ cs' = [.string t.1.path, .int .i64 t.1.kind, t.2, .string t.1.data] ∧ StrsAt W t.2 t.1.lines ∧ t.1.lines.length ≤ reachBytes := fun i hi => by
      obtain ⟨cs', h1, h2⟩ := hx i (by omega)
      obtain ⟨t, vl, e, s1, s2⟩ := trod_ent h2 (fun k hk => hr k (by
        simp only [DataW.weights, Tryz.underlying22]
        refine List.mem_cons_of_mem _ (List.mem_append_left _ (weightsAll_mem (d := D i) (List.mem_map_of_mem (List.mem_range.2 hi)) k hk))))
      exact ⟨(t, vl), cs', h1, e, s1, s2⟩
    have hin : Inhabited (En × Value) := ⟨(⟨⟨#[]⟩, 0, [], ⟨#[]⟩⟩, .nilFunc)⟩
    obtain ⟨T, hT⟩ := choose_lt hall
    refine ⟨some ad, n, c, (List.range n).map (fun i => (T i).1), rfl, by simp, fun i t hi => ?_, hwt, hl, fun x hx => ?_⟩
    · have hil : i < n := by simpa using (List.getElem?_eq_some_iff.1 hi).1
      have e : (T i).1 = t := by simpa [hil] using hi
      obtain ⟨cs', h1, h2, s1, s2⟩ := hT i hil
      subst h2
      have c0 := cells_at7 h1 0 _ rfl
      have c1 := cells_at7 h1 1 _ rfl
      have c2 := cells_at7 h1 2 _ rfl
      have c3 := cells_at7 h1 3 _ rfl
      have hsp : ad.spot = none := by
        obtain ⟨cs0, g1, g2, _⟩ := hT 0 (by omega)
        subst g2
        have := spot_none7 (cells_at7 g1 0 _ rfl)
        simpa [Addr.add] using this
      have ead : ad.add (i * 4) = ⟨ad.block, ad.off + i * 4, none⟩ := add_none7 hsp _
      rw [ead] at c0 c1 c2 c3
      rw [add_none7 rfl] at c0 c1 c2 c3
      rw [← e]
      refine ⟨ad.block, ad.off, ?_, (T i).2, c0, c1, c2, c3, s1⟩
      obtain ⟨b, o, s⟩ := ad
      simp_all
    · obtain ⟨i, hi, rfl⟩ := List.mem_map.1 hx
      obtain ⟨_, _, _, _, s2⟩ := hT i (List.mem_range.1 hi)
      exact s2

end Go.Proofs.YtcpjneejlfgkeaaGreatDoor
