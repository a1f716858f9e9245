/-
  What is proved here: the contracts that the statement stands on: Laws8, CTreeP8, RowF8, JoinF8, JoinM8, SwapB8, All9. Conditions: as each theorem names them.
-/
import Derived.Test.YtpfkkpghgmmijaaGreatDoorM32WithL8
import Derived.Test.YtpfkkpghgmmijaaGreatDoorM11Great9
import Derived.Test.YtpfkkpghgmmijaaGreatDoorMSameE
import Derived.Test.YtpfkkpghgmmijaaGreatDoorM16Plain10
import Derived.Test.YtpfkkpghgmmijaaGreatDoorM29Back9
import Derived.Test.YtpfkkpghgmmijaaGreatDoorM2Base
import Derived.Laws.MakeOwn
namespace Go.Proofs.YtpfkkpghgmmijaaGreatDoor
open Go.RowKit Go.Maps Go.WideMaps
set_option maxRecDepth 100000

theorem weight_smE {L : List En} (h : weight L < 4000) : SmallE L ∧ L.length ≤ 1000 ∧ SmLn 4000 L := by
  refine ⟨fun x hx => ?_, by have := weight_len L; omega, fun x hx => ?_⟩
  · have h1 := weight_mem hx
    unfold En.weight at h1
    refine ⟨by omega, by omega, by omega, fun y hy => ?_⟩
    have := size_mem hy
    omega
  · have h1 := weight_mem hx
    unfold En.weight at h1
    refine ⟨⟨by omega, by omega⟩, fun y hy => SmLine.of ?_⟩
    have := size_mem hy
    omega

theorem weight_smP {p : Pr} (h : p.weight < 4000) : SmPr p := by
  unfold Pr.weight at h
  refine ⟨by omega, by omega, by omega, by omega, by omega, fun y hy => ?_, fun y hy => ?_⟩
  · have := size_mem hy; omega
  · have := size_mem hy; omega

theorem SmPr.inv {p : Pr} (h : SmPr p) : SmPr (inv p) := by
  unfold Proofs.YtpfkkpghgmmijaaGreatDoor.inv
  (repeat' split) <;> first | exact ⟨h.1, h.2, h.3, h.4, h.5, h.6, h.7⟩ | exact ⟨h.1, h.2, h.3, h.5, h.4, h.7, h.6⟩ | exact ⟨h.1, h.3, h.2, h.4, h.5, h.6, h.7⟩ | exact ⟨h.2, h.1, h.3, h.4, h.5, h.6, h.7⟩ | exact ⟨by decide, by decide, by decide, by decide, by decide, fun y hy => (by cases hy), fun y hy => (by cases hy)⟩

theorem tree_small {B : Nat} {L : List En} (h : TreeR L) (hB : SmLn B L) (h2 : B ≤ 800000) : SmallE L ∧ L.length ≤ 90000 := by
  refine ⟨fun x hx => ?_, by have := h.len; omega⟩
  obtain ⟨⟨a, b⟩, c⟩ := hB x hx
  have := path_size (h.own x hx).1
  refine ⟨by omega, by omega, by omega, fun y hy => ?_⟩
  have := (c y hy).size
  omega

theorem newTo_sm {ps : List Pr} (h : ∀ p ∈ ps, SmPr p) : newTo ps ps.length ≤ 4000 * ps.length := by
  unfold newTo
  rw [List.take_length]
  induction ps with
  | nil => exact Nat.zero_le _
  | cons p ps ih =>
    have h1 := ih (fun q hq => h q (List.mem_cons_of_mem _ hq))
    have h2 := (h p (List.mem_cons_self ..)).new
    simp only [List.map_cons, List.sum_cons, List.length_cons]
    omega

theorem run_sm : ∀ {ps : List Pr} {L R : List En} {B j k : Nat}, TreeR L → SmLn B L → (∀ p ∈ ps, SmPr p) → runE L ps j = (R, 0, k) → TreeR R ∧ SmLn (B + 4000 * ps.length) R
  | [], _, _, B, _, _, h, hB, _, e => by simp [runE] at e; rw [← e.1]; exact ⟨h, hB⟩
  | p :: ps, _, _, B, _, _, h, hB, hp, e => by
    obtain ⟨M, h1, h2⟩ := run_cons.1 e
    obtain ⟨hr, ha⟩ := do_of h1
    have hpp := hp p (List.mem_cons_self ..)
    obtain ⟨a, b⟩ := run_sm (h.act hr ha) (hB.act hpp h.strict hr ha) (fun q hq => hp q (List.mem_cons_of_mem _ hq)) h2
    refine ⟨a, b.mono ?_⟩
    have := hpp.new
    simp only [List.length_cons]
    omega

end Go.Proofs.YtpfkkpghgmmijaaGreatDoor

namespace Go.Proofs.YtpfkkpghgmmijaaGreatDoor
open Go.RowKit Go.Maps Go.WideMaps
set_option maxRecDepth 100000

theorem rule_fields (p q : Pr) : ((ruleC p q).1.dst = q.dst ∧ (ruleC p q).1.src = q.src ∧ (ruleC p q).1.old = q.old ∧ (ruleC p q).1.new = q.new) ∧ (ruleC p q).2.1.dst = p.dst ∧ (ruleC p q).2.1.src = p.src ∧ (ruleC p q).2.1.old = p.old ∧ (ruleC p q).2.1.new = p.new := by
  unfold ruleC changesC linesC changeMoveC moveChangeC
  (repeat' split) <;> exact ⟨⟨rfl, rfl, rfl, rfl⟩, rfl, rfl, rfl, rfl⟩

theorem right_path8 {p : Pr} (h : rightP p = true) : p.path.size ≤ 4000 := by
  have h1 := right_len (rule_of h).2.1
  have h3 : (bl p.path).length = p.path.size := Array.length_toList
  omega

theorem comm_sm {p q a b : Pr} (hc : commP p q = (a, b, true)) (hp : SmPr p) (hq : SmPr q) : SmPr a ∧ SmPr b := by
  obtain ⟨_, _, er, _, ra, rb⟩ := commP_yes (p := p) (q := q) (by rw [hc])
  rw [hc] at er
  rw [← er] at ra rb
  have hf := rule_fields p q
  rw [← er] at hf
  simp only at ra rb hf
  obtain ⟨⟨a1, a2, a3, a4⟩, b1, b2, b3, b4⟩ := hf
  refine ⟨⟨right_path8 ra, ?_, ?_, ?_, ?_, ?_, ?_⟩, right_path8 rb, ?_, ?_, ?_, ?_, ?_, ?_⟩
  · rw [a1]; exact hq.dst
  · rw [a2]; exact hq.src
  · rw [a3]; exact hq.old
  · rw [a4]; exact hq.new
  · rw [a4]; exact hq.line
  · rw [a3]; exact hq.oline
  · rw [b1]; exact hp.dst
  · rw [b2]; exact hp.src
  · rw [b3]; exact hp.old
  · rw [b4]; exact hp.new
  · rw [b4]; exact hp.line
  · rw [b3]; exact hp.oline

theorem all_right {L M : List En} {ps : List Pr} {k : Nat} (e : allE L ps = (M, 0, k)) : treeRight L = true := by
  cases ht : treeRight L with
  | false => rw [runE_bad ht] at e; simp at e
  | true => rfl

end Go.Proofs.YtpfkkpghgmmijaaGreatDoor

namespace Go.Proofs.YtpfkkpghgmmijaaGreatDoor
open Go.RowKit
set_option maxRecDepth 100000

def okRow : List Pr → Fm → Prop
  | [], _ => True
  | p :: ps, f => (rightP p = true ∧ okF p f) ∧ okRow ps (effF p f)

def effRow : List Pr → Fm → Fm
  | [], f => f
  | p :: ps, f => effRow ps (effF p f)

theorem okRow_append : ∀ (a b : List Pr) (f : Fm), okRow (a ++ b) f ↔ okRow a f ∧ okRow b (effRow a f)
  | [], b, f => by simp [okRow, effRow]
  | p :: a, b, f => by
    rw [List.cons_append, okRow, okRow, effRow, okRow_append a b (effF p f)]
    exact ⟨fun h => ⟨⟨h.1, h.2.1⟩, h.2.2⟩, fun h => ⟨h.1.1, h.1.2, h.2⟩⟩

theorem effRow_append : ∀ (a b : List Pr) (f : Fm), effRow (a ++ b) f = effRow b (effRow a f)
  | [], _, _ => rfl
  | p :: a, b, f => by rw [List.cons_append, effRow, effRow, effRow_append a b (effF p f)]

theorem run_row : ∀ {ps : List Pr} {L X : List En} {j k : Nat}, TreeR L → runE L ps j = (X, 0, k) → okRow ps (findE L) ∧ findE X = effRow ps (findE L) ∧ TreeR X
  | [], L, X, j, k, hT, e => by
    simp only [runE, Prod.mk.injEq] at e
    rw [← e.1]
    exact ⟨trivial, rfl, hT⟩
  | p :: ps, L, X, j, k, hT, e => by
    obtain ⟨M, e1, e2⟩ := run_cons.1 e
    obtain ⟨hr, ha⟩ := do_of e1
    obtain ⟨o1, _, _, t1⟩ := (hT.told hr).1 ha
    have hf : findE M = effF p (findE L) := funext t1
    obtain ⟨h1, h2, h3⟩ := run_row (hT.act hr ha) e2
    rw [hf] at h1 h2
    exact ⟨⟨⟨hr, o1⟩, h1⟩, h2, h3⟩

theorem ok_act {L : List En} (h : TreeR L) {a : Pr} (ra : rightP a = true) (oa : okF a (findE L)) (la : wants a → L.length < 1024) : ∃ L2, actE L a = (L2, 0) := by
  by_cases k1 : a.kind = 1 ∨ a.kind = 3 ∨ a.kind = 5
  · refine ⟨_, (act_add k1).2 ⟨?_, la k1, rfl⟩⟩
    unfold okF at oa
    rw [if_pos k1] at oa
    exact freeE_zero.2 oa
  · by_cases k2 : a.kind = 2 ∨ a.kind = 4 ∨ a.kind = 6
    · unfold okF at oa
      rw [if_neg k1, if_pos k2] at oa
      obtain ⟨⟨x, hx, x1, x2, x3⟩, hn⟩ := oa
      exact ⟨_, (act_rm k2).2 ⟨x, hx, x1, x2, x3, (h.in_only hx).2 hn, rfl⟩⟩
    · by_cases k3 : a.kind = 10
      · obtain ⟨b1, b2, b3⟩ := (ok_mov k3).1 oa
        refine ⟨_, (act_move k3).2 ⟨b1, freeE_zero.2 b2, ?_, rfl⟩⟩
        rw [List.all_eq_true]
        intro x hx
        obtain ⟨x1, x2⟩ := mem_inE.1 hx
        rw [moved_mv]
        exact b3 _ x2 (by rw [find_of_mem h.strict x1]; simp)
      · have k4 : a.kind = 7 ∨ a.kind = 8 ∨ a.kind = 9 := by have := (rule_of ra).1; omega
        obtain ⟨x, y, hx, hk, hw⟩ := (ok_chg k4).1 oa
        exact ⟨_, (act_change k4).2 ⟨x, y, hx, hk, hw, rfl⟩⟩

theorem row_run : ∀ {ps : List Pr} {L : List En}, TreeR L → okRow ps (findE L) → (∃ X, (∀ i, runE L ps i = (X, 0, 0)) ∧ findE X = effRow ps (findE L) ∧ TreeR X) ∨ ((∀ i, ∃ z, runE L ps i = ([], 2, z)) ∧ 1024 ≤ L.length + ps.length)
  | [], L, hT, _ => Or.inl ⟨L, fun _ => rfl, rfl, hT⟩
  | p :: ps, L, hT, ho => by
    obtain ⟨⟨hr, o1⟩, o2⟩ := ho
    by_cases hw : wants p ∧ 1024 ≤ L.length
    · refine Or.inr ⟨fun i => ⟨i, ?_⟩, by omega⟩
      have hd : doE L p = (L, 2) := by unfold doE; rw [if_pos hr, ok_free hw.1 o1 hw.2]
      rw [runE, hd]
      rfl
    · have la : wants p → L.length < 1024 := fun h => by
        rcases Nat.lt_or_ge L.length 1024 with g | g
        · exact g
        · exact absurd ⟨h, g⟩ hw
      obtain ⟨M, ha⟩ := ok_act hT hr o1 la
      have hd : doE L p = (M, 0) := by unfold doE; rw [if_pos hr, ha]
      obtain ⟨_, _, _, t1⟩ := (hT.told hr).1 ha
      have hf : findE M = effF p (findE L) := funext t1
      rw [← hf] at o2
      have hlen : M.length ≤ L.length + 1 := by
        obtain ⟨h1, h2⟩ := act_len hT hr ha
        by_cases hwp : wants p
        · have := h1 hwp; omega
        · have := h2 hwp; omega
      rcases row_run (hT.act hr ha) o2 with ⟨X, h1, h2, h3⟩ | ⟨h1, h2⟩
      · refine Or.inl ⟨X, fun i => run_cons.2 ⟨M, hd, h1 (i + 1)⟩, ?_, h3⟩
        rw [h2, hf]
        rfl
      · refine Or.inr ⟨fun i => ?_, by simp only [List.length_cons]; omega⟩
        obtain ⟨z, hz⟩ := h1 (i + 1)
        refine ⟨z, ?_⟩
        rw [runE, hd]
        simpa using hz

def RowAs (x y : List Pr) : Prop := ∀ f, okRow y f → okRow x f ∧ effRow x f = effRow y f

theorem RowAs.refl (x : List Pr) : RowAs x x := fun _ h => ⟨h, rfl⟩

theorem RowAs.trans {x y z : List Pr} (h : RowAs x y) (k : RowAs y z) : RowAs x z := fun f o => by
  obtain ⟨k1, k2⟩ := k f o
  obtain ⟨h1, h2⟩ := h f k1
  exact ⟨h1, h2.trans k2⟩

theorem RowAs.app {x y a b : List Pr} (h : RowAs x y) (k : RowAs a b) : RowAs (x ++ a) (y ++ b) := fun f o => by
  obtain ⟨o1, o2⟩ := (okRow_append y b f).1 o
  obtain ⟨h1, h2⟩ := h f o1
  obtain ⟨k1, k2⟩ := k _ o2
  refine ⟨(okRow_append x a f).2 ⟨h1, by rw [h2]; exact k1⟩, ?_⟩
  rw [effRow_append, effRow_append, h2, k2]

theorem comm_row {p q a b : Pr} (hc : commP p q = (a, b, true)) : RowAs [a, b] [p, q] := fun f o => by
  obtain ⟨⟨rp, op⟩, ⟨rq, oq⟩, _⟩ := o
  obtain ⟨_, _, er, hr, ra, rb⟩ := commP_yes (p := p) (q := q) (by rw [hc])
  rw [hc] at er
  rw [← er] at hr ra rb
  have hS := rule_same rp rq (by rw [← er]) op oq
  rw [← er] at hS
  obtain ⟨oa, ob, es⟩ := hS
  exact ⟨⟨⟨ra, oa⟩, ⟨rb, ob⟩, trivial⟩, funext es⟩

theorem past_cons8 {p q b : Pr} {l A : List Pr} (h : pastP p (q :: l) = (A, b, true)) : ∃ a c A', commP p q = (a, c, true) ∧ pastP c l = (A', b, true) ∧ A = a :: A' := by
  rw [pastP] at h
  split at h
  · rename_i hc
    obtain ⟨r, hr⟩ : ∃ r, commP p q = r := ⟨_, rfl⟩
    rw [hr] at h hc
    obtain ⟨a, c, t⟩ := r
    simp only at h hc
    subst hc
    obtain ⟨s, hs⟩ : ∃ s, pastP c l = s := ⟨_, rfl⟩
    rw [hs] at h
    obtain ⟨A', b', t'⟩ := s
    simp only at h
    split at h
    · rename_i ht
      subst ht
      simp only [Prod.mk.injEq, and_true] at h
      exact ⟨a, c, A', hr, by rw [hs, h.2], h.1.symm⟩
    · simp at h
  · simp at h

theorem past_row : ∀ {l : List Pr} {p b : Pr} {A : List Pr}, pastP p l = (A, b, true) → RowAs (A ++ [b]) (p :: l) ∧ A.length = l.length
  | [], p, b, A, h => by
    simp only [pastP, Prod.mk.injEq, and_true] at h
    rw [← h.1, ← h.2]
    exact ⟨RowAs.refl _, rfl⟩
  | q :: l, p, b, A, h => by
    obtain ⟨a, c, A', h1, h2, rfl⟩ := past_cons8 h
    obtain ⟨ih, il⟩ := past_row h2
    refine ⟨?_, by rw [List.length_cons, List.length_cons, il]⟩
    have s1 : RowAs ([a] ++ (A' ++ [b])) ([a] ++ (c :: l)) := (RowAs.refl [a]).app ih
    have s2 : RowAs ([a, c] ++ l) ([p, q] ++ l) := (comm_row h1).app (RowAs.refl l)
    exact s1.trans s2

theorem swap_row : ∀ {a b x y : List Pr}, swapP a b = (x, y, true) → RowAs (x ++ y) (a ++ b) ∧ x.length = b.length ∧ y.length = a.length
  | [], b, x, y, h => by
    simp only [swapP, Prod.mk.injEq, and_true] at h
    rw [← h.1, ← h.2, List.append_nil, List.nil_append]
    exact ⟨RowAs.refl _, rfl, rfl⟩
  | p :: a, b, x, y, h => by
    rw [swapP] at h
    split at h
    · rename_i h1
      split at h
      · rename_i h2
        obtain ⟨r, hr⟩ : ∃ r, swapP a b = r := ⟨_, rfl⟩
        rw [hr] at h h1 h2
        obtain ⟨s1, s2, t⟩ := r
        simp only at h h1 h2
        subst h1
        obtain ⟨u, hu⟩ : ∃ u, pastP p s1 = u := ⟨_, rfl⟩
        rw [hu] at h h2
        obtain ⟨A, c, t⟩ := u
        simp only at h h2
        subst h2
        simp only [Prod.mk.injEq, and_true] at h
        obtain ⟨rfl, rfl⟩ := h
        obtain ⟨i1, i2, i3⟩ := swap_row hr
        obtain ⟨j1, j2⟩ := past_row hu
        refine ⟨?_, by rw [j2, i2], by rw [List.length_cons, List.length_cons, i3]⟩
        have k1 : RowAs ((A ++ [c]) ++ s2) ((p :: s1) ++ s2) := j1.app (RowAs.refl s2)
        have k2 : RowAs ([p] ++ (s1 ++ s2)) ([p] ++ (a ++ b)) := (RowAs.refl [p]).app i1
        have e : A ++ c :: s2 = (A ++ [c]) ++ s2 := by simp
        rw [e]
        exact k1.trans k2
      · simp at h
    · simp at h

theorem as_run {L X : List En} {x y : List Pr} {k : Nat} (h : RowAs x y) (e : allE L y = (X, 0, k)) : allE L x = (X, 0, 0) ∨ ((∃ z, allE L x = ([], 2, z)) ∧ 1024 ≤ L.length + x.length) := by
  cases ht : treeRight L with
  | false => rw [runE_bad ht] at e; simp at e
  | true =>
    rw [runE_good ht] at e ⊢
    have hT := (treeR L).1 ht
    obtain ⟨o, hX, hTX⟩ := run_row hT e
    obtain ⟨o2, he⟩ := h _ o
    rcases row_run hT o2 with ⟨Y, h1, h2, h3⟩ | ⟨h1, h2⟩
    · left
      rw [h1 0]
      have : Y = X := find_ext h3.strict hTX.strict (fun s => by rw [h2, he, hX])
      rw [this]
    · exact Or.inr ⟨h1 0, h2⟩

end Go.Proofs.YtpfkkpghgmmijaaGreatDoor

namespace Go.Proofs.YtpfkkpghgmmijaaGreatDoor
open Go.RowKit
set_option maxRecDepth 100000

theorem chg_two {L L1 M : List En} (h : TreeR L) {p q z : Pr} (rp : rightP p = true) (rq : rightP q = true) (rz : rightP z = true) (kp : p.kind = 7 ∨ p.kind = 9) (kq : q.kind = p.kind) (kz : z.kind = p.kind) (eq : q.path = p.path) (ez : z.path = p.path) (a1 : actE L p = (L1, 0)) (a2 : actE L1 q = (M, 0)) (hw : ∀ x y u, withE x p = some y → withE y q = some u → withE x z = some u) : actE L z = (M, 0) := by
  have h1 := h.act rp a1
  obtain ⟨o1, _, _, t1⟩ := (h.told rp).1 a1
  obtain ⟨o2, _, sM, t2⟩ := (h1.told rq).1 a2
  have hf : findE L1 = effF p (findE L) := funext t1
  rw [hf] at o2 t2
  have cp : p.kind = 7 ∨ p.kind = 8 ∨ p.kind = 9 := by omega
  have cq : q.kind = 7 ∨ q.kind = 8 ∨ q.kind = 9 := by omega
  have cz : z.kind = 7 ∨ z.kind = 8 ∨ z.kind = 9 := by omega
  obtain ⟨x, y, hx, hk, hy⟩ := (ok_chg cp).1 o1
  obtain ⟨y', u, hy', _, hu⟩ := (ok_chg cq).1 o2
  rw [eff_chg cp, eq, if_pos rfl, hx] at hy'
  have ey : y' = y := by simpa [hy] using hy'.symm
  subst ey
  refine (h.told rz).2 ⟨(ok_chg cz).2 ⟨x, u, by rw [ez]; exact hx, by rw [kz]; exact hk, hw x y' u hy hu⟩, fun e => ?_, sM, fun s => ?_⟩
  · unfold wants at e; omega
  · rw [t2 s, eff_chg cz, eff_chg cq, eff_chg cp, eq, ez]
    by_cases e : s = bl p.path
    · rw [if_pos e, if_pos e, if_pos e, e, hx]
      simp only [Option.bind_some, hy, hu, hw x y' u hy hu]
    · rw [if_neg e, if_neg e, if_neg e]

theorem hunk_join {l l1 l2 o n m : List ByteArray} {x : Int} (h1 : hunkL l x o n = some l1) (h2 : hunkL l1 x n m = some l2) : hunkL l x o m = some l2 := by
  obtain ⟨a, b, rfl, ha, rfl⟩ := hunk_some h1
  obtain ⟨c, d, e, hc, rfl⟩ := hunk_some h2
  have hl : a.length = c.length := by omega
  rw [List.append_assoc, List.append_assoc] at e
  obtain ⟨e1, e2⟩ := List.append_inj e hl
  obtain ⟨_, e3⟩ := List.append_inj e2 rfl
  subst e1 e3
  rw [← ha]
  exact hunk_mk a o m b

theorem join_do {L L1 M : List En} (h : TreeR L) {p q : Pr} {l : List Pr} (hk : p.kind ≠ 10 ∨ q = inv p) (hj : joinP p q = some l) (a1 : actE L p = (L1, 0)) (a2 : actE L1 q = (M, 0)) : (l = [] ∧ M = L) ∨ ∃ z, l = [z] ∧ rightP z = true ∧ actE L z = (M, 0) := by
  have hj0 := hj
  unfold joinP at hj
  split at hj
  · cases hj
  rename_i h0
  simp only [Bool.not_eq_true, Bool.not_eq_false', Bool.and_eq_true] at h0
  obtain ⟨rp, rq⟩ := h0
  split at hj
  · rename_i hi
    have e := alike_iff.1 hi
    subst e
    cases hj
    have := h.undo rp a1
    rw [this] at a2
    cases a2
    exact Or.inl ⟨rfl, rfl⟩
  rename_i hi
  have hi' : ¬ q = inv p := fun e => hi (alike_iff.2 e)
  have hk' : p.kind ≠ 10 := hk.resolve_right hi'
  split at hj
  · cases hj
  rename_i h2
  have h2' : p.kind = q.kind := by simpa using h2
  split at hj
  · rename_i h3
    obtain ⟨k9, e1, e2⟩ := h3
    cases hj
    have rz := join_right hj0
    refine Or.inr ⟨_, rfl, rz, chg_two h rp rq rz (Or.inr k9) h2'.symm rfl e1.symm rfl a1 a2 (fun x y u g1 g2 => ?_)⟩
    unfold withE at g1 g2 ⊢
    rw [if_neg (by omega), if_neg (by omega)] at g1 g2
    rw [if_neg (by show ¬ p.kind = 7; omega), if_neg (by show ¬ p.kind = 8; omega)]
    split at g1
    · rename_i hd
      cases g1
      have g3 : some { x with data := q.dst } = some u := by rw [← g2]; exact (if_pos e2).symm
      cases g3
      exact if_pos hd
    · cases g1
  · split at hj
    · rename_i h3
      obtain ⟨k7, e1, e2, e3⟩ := h3
      cases hj
      have rz := join_right hj0
      refine Or.inr ⟨_, rfl, rz, chg_two h rp rq rz (Or.inl k7) h2'.symm rfl e1.symm rfl a1 a2 (fun x y u g1 g2 => ?_)⟩
      unfold withE at g1 g2 ⊢
      rw [if_pos k7] at g1
      rw [if_pos (by omega)] at g2
      rw [if_pos (show p.kind = 7 from k7)]
      obtain ⟨l1, c1, rfl⟩ := Option.map_eq_some_iff.1 g1
      obtain ⟨l2, c2, rfl⟩ := Option.map_eq_some_iff.1 g2
      rw [← e2, ← e3] at c2
      rw [hunk_join c1 c2]
      rfl
    · split at hj
      · rename_i h3
        exact absurd h3.1 hk'
      · cases hj

end Go.Proofs.YtpfkkpghgmmijaaGreatDoor

namespace Go.Proofs.YtpfkkpghgmmijaaGreatDoor
open Go.RowKit
set_option maxRecDepth 100000

theorem moved_app {A C r : List UInt8} (hr : r = [] ∨ ∃ t, r = 47 :: t) : Path.moved (A ++ r) A C = C ++ r := by
  rw [Path.moved, if_pos (within_of hr), List.drop_left]

theorem mv_two {A B C r : List UInt8} {x : En} (hr : r = [] ∨ ∃ t, r = 47 :: t) (e : bl x.path = A ++ r) : mvE B C (mvE A B x) = mvE A C x := by
  have h1 : bl (mvE A B x).path = B ++ r := mv_path e (by rw [e]; exact within_of hr)
  have h2 : Path.moved (bl (mvE A B x).path) B C = Path.moved (bl x.path) A C := by rw [h1, e, moved_app hr, moved_app hr]
  show ({ (mvE A B x) with path := ⟨(Path.moved (bl (mvE A B x).path) B C).toArray⟩ } : En) = { x with path := ⟨(Path.moved (bl x.path) A C).toArray⟩ }
  rw [h2]
  rfl

theorem mov_two {L L1 M : List En} (h : TreeR L) {p q z : Pr} (rp : rightP p = true) (rq : rightP q = true) (rz : rightP z = true) (kp : p.kind = 10) (kq : q.kind = 10) (kz : z.kind = 10) (e1 : p.dst = q.path) (ez : z.path = p.path) (ed : z.dst = q.dst) (ha : Path.apart (bl p.path) (bl q.dst) = true) (a1 : actE L p = (L1, 0)) (a2 : actE L1 q = (M, 0)) : actE L z = (M, 0) := by
  have h1 := h.act rp a1
  obtain ⟨o1, _, _, t1⟩ := (h.told rp).1 a1
  obtain ⟨o2, _, sM, t2⟩ := (h1.told rq).1 a2
  have hf : findE L1 = effF p (findE L) := funext t1
  rw [hf] at o2 t2
  obtain ⟨u1, ⟨u2, _⟩, _⟩ := (ok_mov kp).1 o1
  obtain ⟨_, ⟨v2, v3⟩, v4⟩ := (ok_mov kq).1 o2
  obtain ⟨c1, c2⟩ := apart_no ha
  obtain ⟨c3, c4⟩ := apart_no (apart_of rq kq)
  rw [← e1] at v4 c3 c4
  have hg : ∀ s, effF p (findE L) s = _ := fun s => eff_mov kp s
  have noB : ∀ s, Path.within s (bl p.dst) = true → findE L s = none := fun s hs => by
    cases hx : findE L s with
    | none => rfl
    | some x =>
      obtain ⟨m1, m2⟩ := find_some hx
      have := h.none_in u2 x m1
      rw [m2, hs] at this
      cases this
  refine (h.told rz).2 ⟨(ok_mov kz).2 ⟨by rw [ez]; exact u1, ⟨?_, ?_⟩, ?_⟩, fun e => by unfold wants at e; omega, sM, fun s => ?_⟩
  · rw [ed]
    rw [hg, if_neg (by rw [c3]; simp), if_neg (by rw [c2]; simp)] at v2
    exact v2
  · rw [ed]
    intro q' hq'
    obtain ⟨d, hd, hk⟩ := v3 q' hq'
    have w1 : Path.within q' (bl p.dst) = false := by
      cases hw : Path.within q' (bl p.dst) with
      | false => rfl
      | true =>
        have := Path.within_trans (parent_in hq') hw
        rw [c3] at this
        cases this
    rw [hg, if_neg (by rw [w1]; simp)] at hd
    split at hd
    · cases hd
    · exact ⟨d, hd, hk⟩
  · rw [ez, ed]
    intro s hs hn
    obtain ⟨r, rfl, hr⟩ := within_app hs
    rw [moved_app hr]
    have hw : Path.within (bl p.dst ++ r) (bl p.dst) = true := within_of hr
    have := v4 (bl p.dst ++ r) hw (by
      rw [hg, if_pos hw, back_in]
      cases hx : findE L (bl p.path ++ r) with
      | none => exact absurd hx hn
      | some x => simp)
    rw [moved_app hr] at this
    exact this
  · rw [t2 s, eff_mov kz, eff_mov kq, ez, ed, ← e1]
    by_cases w1 : Path.within s (bl q.dst) = true
    · rw [if_pos w1, if_pos w1]
      obtain ⟨r, rfl, hr⟩ := within_app w1
      have hw : Path.within (bl p.dst ++ r) (bl p.dst) = true := within_of hr
      rw [back_in, back_in, hg, if_pos hw, back_in]
      cases hx : findE L (bl p.path ++ r) with
      | none => rfl
      | some x => simp only [Option.map_some]; rw [mv_two hr (find_path hx)]
    · rw [if_neg w1, if_neg w1]
      by_cases w2 : Path.within s (bl p.dst) = true
      · rw [if_pos w2, noB s w2]
        simp
      · rw [if_neg w2, hg, if_neg w2]

theorem join_all {L L1 M : List En} (h : TreeR L) {p q : Pr} {l : List Pr} (hj : joinP p q = some l) (d1 : doE L p = (L1, 0)) (d2 : doE L1 q = (M, 0)) : (l = [] ∧ M = L) ∨ ∃ z, l = [z] ∧ doE L z = (M, 0) := by
  obtain ⟨_, a1⟩ := do_of d1
  obtain ⟨_, a2⟩ := do_of d2
  have fin : ∀ z, rightP z = true → actE L z = (M, 0) → doE L z = (M, 0) := fun z hz e => by unfold doE; rw [if_pos hz, e]
  by_cases hk : p.kind ≠ 10 ∨ q = inv p
  · rcases join_do h hk hj a1 a2 with h1 | ⟨z, h1, h2, h3⟩
    · exact Or.inl h1
    · exact Or.inr ⟨z, h1, fin z h2 h3⟩
  · have k10 : p.kind = 10 := by
      rcases Classical.em (p.kind = 10) with e | e
      · exact e
      · exact absurd (Or.inl e) hk
    have hi' : ¬ q = inv p := fun e => hk (Or.inr e)
    have hj0 := hj
    unfold joinP at hj
    split at hj
    · cases hj
    rename_i h0
    simp only [Bool.not_eq_true, Bool.not_eq_false', Bool.and_eq_true] at h0
    obtain ⟨rp, rq⟩ := h0
    split at hj
    · rename_i hi
      exact absurd (alike_iff.1 hi) hi'
    split at hj
    · cases hj
    rename_i h2
    have h2' : p.kind = q.kind := by simpa using h2
    split at hj
    · rename_i h3; have := h3.1; omega
    split at hj
    · rename_i h3; have := h3.1; omega
    split at hj
    · rename_i h3
      obtain ⟨_, e1, e2⟩ := h3
      cases hj
      have rz := join_right hj0
      exact Or.inr ⟨_, rfl, fin _ rz (mov_two h rp rq rz k10 (h2' ▸ k10) k10 e1 rfl rfl e2 a1 a2)⟩
    · cases hj

theorem run_split : ∀ {a b : List Pr} {L X : List En} {j k : Nat}, runE L (a ++ b) j = (X, 0, k) → ∃ M, runE L a 0 = (M, 0, 0) ∧ runE M b 0 = (X, 0, 0)
  | [], b, L, X, j, k, e => by
    have := run_place 0 e
    rw [run_zero e] at this
    exact ⟨L, rfl, this⟩
  | p :: a, b, L, X, j, k, e => by
    rw [List.cons_append] at e
    obtain ⟨L1, e1, e2⟩ := run_cons.1 e
    obtain ⟨M, h1, h2⟩ := run_split e2
    exact ⟨M, run_cons.2 ⟨L1, e1, run_place 1 h1⟩, h2⟩

theorem push_run : ∀ (st : List Pr) (x : Pr) {L X : List En}, TreeR L → runE L (st.reverse ++ [x]) 0 = (X, 0, 0) → runE L (pushR st x).reverse 0 = (X, 0, 0)
  | [], x, L, X, _, e => by simpa [pushR] using e
  | y :: st, x, L, X, hT, e => by
    rw [List.reverse_cons, List.append_assoc] at e
    obtain ⟨L0, e0, e1⟩ := run_split e
    rw [List.singleton_append] at e1
    obtain ⟨L1, d1, e2⟩ := run_cons.1 e1
    obtain ⟨L2, d2, e3⟩ := run_cons.1 e2
    simp only [runE, Prod.mk.injEq, and_true] at e3
    subst e3
    have hT0 := hT.run e0
    unfold pushR
    cases hj : joinP y x with
    | none =>
      simp only [List.reverse_cons, List.append_assoc]
      exact run_append e0 (run_cons.2 ⟨L1, d1, run_cons.2 ⟨L2, d2, rfl⟩⟩)
    | some l =>
      rcases join_all hT0 hj d1 d2 with ⟨rfl, rfl⟩ | ⟨z, rfl, hz⟩
      · simp only
        exact e0
      · simp only
        exact push_run st z hT (run_append e0 (run_cons.2 ⟨L2, hz, rfl⟩))

theorem coal_run : ∀ (l st : List Pr) {L X : List En}, TreeR L → runE L (st.reverse ++ l) 0 = (X, 0, 0) → runE L (coalR st l).reverse 0 = (X, 0, 0)
  | [], st, L, X, _, e => by simpa [coalR] using e
  | x :: l, st, L, X, hT, e => by
    have e' : runE L ((st.reverse ++ [x]) ++ l) 0 = (X, 0, 0) := by simpa using e
    obtain ⟨M, e1, e2⟩ := run_split e'
    exact coal_run l (pushR st x) hT (run_append (push_run st x hT e1) e2)

theorem all_coal {L X : List En} {a : List Pr} {k : Nat} (e : allE L a = (X, 0, k)) : allE L (coalP a) = (X, 0, 0) := by
  cases ht : treeRight L with
  | false => rw [runE_bad ht] at e; simp at e
  | true =>
    rw [runE_good ht] at e ⊢
    rw [run_zero e] at e
    exact coal_run a [] ((treeR L).1 ht) e

end Go.Proofs.YtpfkkpghgmmijaaGreatDoor

namespace Go.Proofs.YtpfkkpghgmmijaaGreatDoor
open Go.RowKit
set_option maxRecDepth 100000

theorem past_mk {p q a c b : Pr} {l A : List Pr} (h1 : commP p q = (a, c, true)) (h2 : pastP c l = (A, b, true)) : pastP p (q :: l) = (a :: A, b, true) := by
  rw [pastP, h1]
  simp only [if_true, h2]

theorem swap_mk {p c : Pr} {a b s1 s2 A : List Pr} (h1 : swapP a b = (s1, s2, true)) (h2 : pastP p s1 = (A, c, true)) : swapP (p :: a) b = (A, c :: s2, true) := by
  rw [swapP, h1]
  simp only [if_true, h2]

theorem swap_cons {p : Pr} {a b x y : List Pr} (h : swapP (p :: a) b = (x, y, true)) : ∃ s1 s2 c, swapP a b = (s1, s2, true) ∧ pastP p s1 = (x, c, true) ∧ y = c :: s2 := by
  rw [swapP] at h
  split at h
  · rename_i h1
    split at h
    · rename_i h2
      obtain ⟨r, hr⟩ : ∃ r, swapP a b = r := ⟨_, rfl⟩
      rw [hr] at h h1 h2
      obtain ⟨s1, s2, t⟩ := r
      simp only at h h1 h2
      subst h1
      obtain ⟨u, hu⟩ : ∃ u, pastP p s1 = u := ⟨_, rfl⟩
      rw [hu] at h h2
      obtain ⟨A, c, t⟩ := u
      simp only at h h2
      subst h2
      simp only [Prod.mk.injEq, and_true] at h
      obtain ⟨rfl, rfl⟩ := h
      exact ⟨s1, s2, c, hr, hu, rfl⟩
    · simp at h
  · simp at h

theorem past_back : ∀ {l : List Pr} {p c : Pr} {A : List Pr}, pastP p l = (A, c, true) → swapP A [c] = ([p], l, true)
  | [], p, c, A, h => by
    simp only [pastP, Prod.mk.injEq, and_true] at h
    obtain ⟨rfl, rfl⟩ := h
    rfl
  | q :: l, p, c, A, h => by
    obtain ⟨a, c1, A', h1, h2, rfl⟩ := past_cons8 h
    have ih := past_back h2
    have hb := (comm_back (x := p) (y := q) (by rw [h1])).2.2
    rw [h1] at hb
    exact swap_mk ih (past_mk hb rfl)

theorem swap_right : ∀ {x : List Pr} {c p : Pr} {s1 s2 a b : List Pr}, swapP x [c] = ([p], s1, true) → swapP s1 s2 = (a, b, true) → swapP x (c :: s2) = (p :: a, b, true)
  | [], c, p, s1, s2, a, b, h1, h2 => by
    simp only [swapP, Prod.mk.injEq, and_true, List.cons.injEq] at h1
    obtain ⟨rfl, rfl⟩ := h1
    simp only [swapP, Prod.mk.injEq, and_true] at h2
    obtain ⟨rfl, rfl⟩ := h2
    rfl
  | e :: x, c, p, s1, s2, a, b, h1, h2 => by
    obtain ⟨u, t, e1, g1, g2, rfl⟩ := swap_cons h1
    obtain ⟨_, hul, _⟩ := swap_row g1
    obtain ⟨p0, rfl⟩ : ∃ p0, u = [p0] := by
      cases u with
      | nil => simp at hul
      | cons p0 u =>
        cases u with
        | nil => exact ⟨p0, rfl⟩
        | cons _ _ => simp at hul
    obtain ⟨p', e1', A', k1, k2, k3⟩ := past_cons8 g2
    simp only [pastP, Prod.mk.injEq, and_true] at k2
    obtain ⟨rfl, rfl⟩ := k2
    cases k3
    obtain ⟨a0, b0, e2, m1, m2, rfl⟩ := swap_cons h2
    exact swap_mk (swap_right g1 m1) (past_mk k1 m2)

theorem swap_back : ∀ {a b x y : List Pr}, swapP a b = (x, y, true) → swapP x y = (a, b, true)
  | [], b, x, y, h => by
    simp only [swapP, Prod.mk.injEq, and_true] at h
    obtain ⟨rfl, rfl⟩ := h
    exact swap_nil _
  | p :: a, b, x, y, h => by
    obtain ⟨s1, s2, c, h1, h2, rfl⟩ := swap_cons h
    exact swap_right (past_back h2) (swap_back h1)

end Go.Proofs.YtpfkkpghgmmijaaGreatDoor

namespace Go.Proofs.YtpfkkpghgmmijaaGreatDoor
open Go.RowKit Go.Shelf
set_option maxRecDepth 100000
attribute [local go_sem] Oper.semAt_some

structure AllAt (w : World) (bl b : Nat) (L : List Pr) (U : List (Value × Value)) (pre : List (Nat × Value)) (W : World) : Prop where
  fr : Fr None' w W
  lt : b < W.heap.size
  row : ∃ m v V, m ≤ L.length ∧ pre = uptoB (aggs L U) m ∧ W.heap[bl]? = some (.cells #[v] 22 (0, 0)) ∧ OwnP w.heap.size W v ((L.reverse.take m).map inv) V ∧ ¬ v.ownBlock = some bl ∧ ¬ v.ownBlock = some b ∧ ∀ u ∈ V, ∀ k, (u.1.ownBlock = some k ∨ u.2.ownBlock = some k) → w.heap.size ≤ k ∧ k ≠ bl

theorem StrsAt.abide {base : Nat} {A B : World} {v : Value} {l : List ByteArray} (h : StrsAt A v l) (f : Fr (fun k => None' k ∨ (base ≤ k ∧ NoCells A k)) A B) : StrsAt B v l :=
  h.far f (fun hl k e m => by
    obtain ⟨va, c, rfl, h1, h2, h3⟩ := h
    cases l with
    | nil => exact hl rfl
    | cons x l =>
      obtain ⟨g, o, e', hc⟩ := h3 0 x rfl
      subst e'
      cases e
      rcases m with m | m
      · exact m
      · unfold World.cell? at hc
        split at hc
        · rename_i cs t z hh
          exact m.2 _ _ _ hh
        · cases hc)

theorem OwnP.abide {n0 base : Nat} {A B : World} {v : Value} {L : List Pr} {V : List (Value × Value)} (h : OwnP n0 A v L V) (f : Fr (fun k => None' k ∨ (base ≤ k ∧ NoCells A k)) A B) : OwnP n0 B v L V := by
  refine ⟨h.len, ⟨h.row.1, ?_⟩, fun k x u e1 e2 => ?_⟩
  · rcases h.row.2 with h | ⟨g, cap, cur, hv, hb, hh, h⟩
    · exact Or.inl h
    · exact Or.inr ⟨g, cap, cur, hv, hb, f.at hh (fun e => e.elim (fun e => e) (fun e => e.2 _ _ _ hh)), h⟩
  · obtain ⟨h1, h2, h3, h4⟩ := h.str k x u e1 e2
    exact ⟨h1.abide f, h2.abide f, h3, h4⟩

theorem AllAt.abide {w : World} {bl b base : Nat} {L : List Pr} {U : List (Value × Value)} (hb : w.heap.size ≤ base) : AbideN base None' (AllAt w bl b L U) := fun pre A B h f => by
  obtain ⟨m, v, V, h1, h2, h3, h4, h5, h6, h7⟩ := h.row
  exact ⟨h.fr.trans f (fun i e => e.elim (fun e => e.elim) (fun e => Or.inr (by omega))), Nat.lt_of_lt_of_le h.lt f.size, m, v, V, h1, h2, f.at h3 (fun e => e.elim (fun e => e) (fun e => e.2 _ _ _ h3)), h4.abide f, h5, h6, h7⟩

def Stepd (w W : World) (bl b : Nat) (L : List Pr) (U : List (Value × Value)) (t : Nat) (v : Value) (rn : Nat) (y0 y1 y2 y3 y4 vo vn : Value) (w5 : World) : Prop := ∃ g' cap' w4, (Builtin.append_ #[22, 22] 22 #[v, .slice (some ⟨w5.heap.size, 0, none⟩) 1 1]).run Tryz.prog (w5.alloc (.cells #[y0, y1, y2, y3, y4, vo, vn] 45)) = .ok (.slice (some ⟨g', 0, none⟩) (rn + 1) cap') w4 ∧
      w4.cell? ⟨bl, 0, none⟩ = some v ∧ (∀ o, w4.frozen? ⟨bl, o, none⟩ = false) ∧
      Hid (KeepsOthers W (w4.setCell ⟨bl, 0, none⟩ (.slice (some ⟨g', 0, none⟩) (rn + 1) cap')) ∧ KeepB (fun k => k = b ∨ k < w.heap.size) W (w4.setCell ⟨bl, 0, none⟩ (.slice (some ⟨g', 0, none⟩) (rn + 1) cap')) ∧ AllAt w bl b L U (uptoB (aggs L U) (t + 1)) (w4.setCell ⟨bl, 0, none⟩ (.slice (some ⟨g', 0, none⟩) (rn + 1) cap')))

theorem all_step {w W w2 : World} {bl b : Nat} {L : List Pr} {U : List (Value × Value)} {t : Nat} {v : Value} {V : List (Value × Value)} {R : List Pr} {y : Pr} {vo vn : Value}
    (hw : Fr None' w W) (hb : b < W.heap.size) (hbl : bl < b) (hwbl : w.heap.size ≤ bl)
    (hcell : W.heap[bl]? = some (.cells #[v] 22 (0, 0))) (hO : OwnP w.heap.size W v R V) (hR : R ++ [y] = (L.reverse.take (t + 1)).map inv) (hn : R.length ≤ 90000)
    (hv1 : ¬ v.ownBlock = some bl) (hv2 : ¬ v.ownBlock = some b) (hV : ∀ u ∈ V, ∀ k, (u.1.ownBlock = some k ∨ u.2.ownBlock = some k) → w.heap.size ≤ k ∧ k ≠ bl)
    (f2 : Fr None' W w2) (s1 : StrsAt w2 vo y.old) (s2 : StrsAt w2 vn y.new) (g1 : ∀ k, vo.ownBlock = some k → W.heap.size ≤ k) (g2 : ∀ k, vn.ownBlock = some k → W.heap.size ≤ k) (ht : t + 1 ≤ L.length) :
    Stepd w W bl b L U t v R.length (.int .i64 y.kind) (.string y.path) (.string y.dst) (.string y.src) (.int .i64 y.pos) vo vn w2 := by
  obtain ⟨w3, hw3⟩ : ∃ w3, w2.alloc (.cells #[.int .i64 y.kind, .string y.path, .string y.dst, .string y.src, .int .i64 y.pos, vo, vn] 45) = w3 := ⟨_, rfl⟩
  have F3 : Fr None' w2 w3 := hw3 ▸ Fr.alloc None' w2 _
  have B3 : Box w3 w2.heap.size (.int .i64 y.kind) (.string y.path) (.string y.dst) (.string y.src) (.int .i64 y.pos) vo vn := hw3 ▸ Box.new w2 _ _ _ _ _ _ _
  have fW3 : Fr None' W w3 := f2.then7 F3
  have far1 : Far v vo y.old := fun _ k e e' => by have := (hO.ge e').2; have := g1 k e; omega
  have far2 : Far v vn y.new := fun _ k e e' => by have := (hO.ge e').2; have := g2 k e; omega
  obtain ⟨v', w4, hr, hO4, hf, hown⟩ := (hO.kept fW3).push B3 (s1.kept F3) (s2.kept F3) far1 far2 hn (by have := hw.size; have := fW3.size; omega)
  unfold Stepd
  rw [hw3]
  have hs3 := fW3.size
  obtain ⟨g', cap', hv'⟩ : ∃ g' cap', v' = .slice (some ⟨g', 0, none⟩) (R.length + 1) cap' := by
    rcases hO4.row.2 with ⟨_, e⟩ | ⟨g, cap, cur, e, _⟩
    · simp at e
    · exact ⟨g, cap, by rw [e, List.length_append]; rfl⟩
  have f4 : Fr (fun k => v.ownBlock = some k) W w4 := (fW3.any).then hf
  have hc4 : w4.heap[bl]? = some (.cells #[v] 22 (0, 0)) := f4.at hcell hv1
  have hown1 : ¬ v'.ownBlock = some bl := fun e => by
    rcases hown with h | h
    · exact hv1 (h ▸ e)
    · rw [h] at e; cases e; omega
  have hown2 : ¬ v'.ownBlock = some b := fun e => by
    rcases hown with h | h
    · exact hv2 (h ▸ e)
    · rw [h] at e; cases e; omega
  have hV' : ∀ u ∈ V ++ [(vo, vn)], ∀ k, (u.1.ownBlock = some k ∨ u.2.ownBlock = some k) → w.heap.size ≤ k ∧ k ≠ bl := fun u hu k e => by
    rcases List.mem_append.1 hu with hu | hu
    · exact hV u hu k e
    · have hu := List.mem_singleton.1 hu
      subst hu
      have := hw.size
      rcases e with e | e
      · have := g1 k e; omega
      · have := g2 k e; omega
  subst hv'
  have f5 : Fr (fun k => v.ownBlock = some k ∨ k = bl) W (w4.setCell ⟨bl, 0, none⟩ (.slice (some ⟨g', 0, none⟩) (R.length + 1) cap')) := (f4.mono (fun _ e => Or.inl e)).then ((Fr.setQ w4 bl 0 _).mono (fun _ e => Or.inr e))
  have hc5 : (w4.setCell ⟨bl, 0, none⟩ (.slice (some ⟨g', 0, none⟩) (R.length + 1) cap')).heap[bl]? = some (.cells #[.slice (some ⟨g', 0, none⟩) (R.length + 1) cap'] 22 (0, 0)) := by
    have := Go.heap_setCell_same w4 bl 0 _ _ (.slice (some ⟨g', 0, none⟩) (R.length + 1) cap') hc4
    simpa using this
  refine ⟨g', cap', w4, hr, ?_, ?_, ⟨f5.size, fun k o' hk ho => ?_⟩, KeepB.of f5 (fun k hk e => ?_), hw.trans f5 (fun i e => Or.inr ?_), Nat.lt_of_lt_of_le hb f5.size, t + 1, _, _, ht, rfl, hc5, ?_, hown1, hown2, hV'⟩
  · rw [World.cell?, hc4]; rfl
  · intro o
    unfold World.frozen?
    rw [hc4]
    simp
  · refine (f5.block k (Array.getElem?_eq_some_iff.1 hk).1 (fun e => ?_)).trans hk
    rcases e with e | e
    · rcases hO.row.2 with ⟨h1, _⟩ | ⟨g, cap, cur, h1, _, hh, _⟩
      · rw [h1] at e; cases e
      · rw [h1] at e; cases e; rw [hh] at hk; cases hk; cases ho
    · subst e; rw [hcell] at hk; cases hk; cases ho
  · rcases hk with rfl | hk
    · rcases e with e | e
      · exact hv2 e
      · omega
    · rcases e with e | e
      · have := (hO.ge e).1; omega
      · omega
  · rcases e with e | e
    · exact (hO.ge e).1
    · omega
  · rw [← hR]
    exact hO4.fr (Fr.setQ w4 bl 0 _) (fun k e e' => hown1 (e' ▸ e)) (fun u hu k e _ e' => (hV' u hu k e).2 e')

def BoxOf (f : Nat → Nat × Value → Act) (x : Nat × Value) (a : Act) (W : World) : Prop := ∃ p y0 y1 y2 y3 y4 y5 y6, x.2 = .agg #[y0, y1, y2, y3, y4, y5, y6] ∧ a = f p x ∧ Box W p y0 y1 y2 y3 y4 y5 y6

end Go.Proofs.YtpfkkpghgmmijaaGreatDoor
