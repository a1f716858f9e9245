/- What is proved here: contracts for RecordMakes. Conditions: as named. -/
import Derived.Test.YtbnfjjjdnbcehaaGreatDoorX55RecD12
import Derived.Test.YtbnfjjjdnbcehaaGreatDoorX30RecC12
import Derived.Test.YtbnfjjjdnbcehaaGreatDoorX11RAll9
import Derived.Test.YtbnfjjjdnbcehaaGreatDoorXSameE
import Derived.Test.YtbnfjjjdnbcehaaGreatDoorX17Plain10
import Derived.Test.YtbnfjjjdnbcehaaGreatDoorX37Settle11
import Derived.Test.YtbnfjjjdnbcehaaGreatDoorX40Swap11
import Derived.Test.YtbnfjjjdnbcehaaGreatDoorX9Plain8
set_option maxHeartbeats 16000000
namespace Go.Proofs.YtbnfjjjdnbcehaaGreatDoor
open Go.RowKit Go.Maps Go.WideMaps
set_option maxRecDepth 100000
theorem Z8 {L : List En} (h : weight L < 4000) : SmallE L ∧ L.length ≤ 1000 ∧ SmLn 4000 L := by
 refine ⟨fun x hx => ?_, by have := weight_len L; omega, fun x hx => ?_⟩
 ·have h1 := weight_mem hx
  unfold En.weight at h1
  refine ⟨by omega, by omega, by omega, fun y hy => ?_⟩
  have := size_mem hy
  omega
 ·have h1 := weight_mem hx
  unfold En.weight at h1
  refine ⟨⟨by omega, by omega⟩, fun y hy => SmLine.of ?_⟩
  have := size_mem hy
  omega
theorem SmPr.inv {p : Pr} (h : SmPr p) : SmPr (inv p) := by
 unfold Proofs.YtbnfjjjdnbcehaaGreatDoor.inv
 (repeat' split) <;> first | exact ⟨h.1, h.2, h.3, h.4, h.5, h.6, h.7⟩ | exact ⟨h.1, h.2, h.3, h.5, h.4, h.7, h.6⟩ | exact ⟨h.1, h.3, h.2, h.4, h.5, h.6, h.7⟩ | exact ⟨h.2, h.1, h.3, h.4, h.5, h.6, h.7⟩ | exact ⟨by decide, by decide, by decide, by decide, by decide, fun y hy => (by cases hy), fun y hy => (by cases hy)⟩
theorem run_sm : ∀ {ps : List Pr} {L R : List En} {B j k : Nat}, Zl L → SmLn B L → (∀ p ∈ ps, SmPr p) → runE L ps j = (R, 0, k) → Zl R ∧ SmLn (B + 4000 * ps.length) R
 | [], _, _, B, _, _, h, hB, _, e => by simp [runE] at e; rw [← e.1]; exact ⟨h, hB⟩
 | p :: ps, _, _, B, _, _, h, hB, hp, e => by
  obtain ⟨M, h1, h2⟩ := run_cons.1 e
  obtain ⟨hr, ha⟩ := do_of h1
  have hpp := hp p (List.mem_cons_self ..)
  obtain ⟨a, b⟩ := run_sm (h.act hr ha) (hB.act hpp h.strict hr ha) (fun q hq => hp q (List.mem_cons_of_mem _ hq)) h2
  refine ⟨a, b.mono ?_⟩
  have := hpp.new
  simp only [List.length_cons]
  omega
theorem all_many {L R : List En} {ps : List Pr} {k : Nat} (e : allE L ps = (R, 0, k)) (hB : SmLn 4000 L) (hp : ∀ p ∈ ps, SmPr p) : Zl R ∧ SmLn (4000 + 4000 * ps.length) R ∧ allE R (ps.reverse.map inv) = (L, 0, 0) := by
 cases ht : Zw L with
 | false => rw [runE_bad ht] at e; simp at e
 | true =>
  rw [runE_good ht] at e
  have hT := (treeR L).1 ht
  obtain ⟨a, b⟩ := run_sm hT hB hp e
  have hk := run_zero e
  subst hk
  refine ⟨a, b, ?_⟩
  rw [runE_good ((treeR R).2 a)]
  exact Zl.undone hT e
theorem inv_sms {ps : List Pr} (h : ∀ p ∈ ps, SmPr p) : ∀ p ∈ ps.reverse.map inv, SmPr p := fun p hp => by
 obtain ⟨q, hq, rfl⟩ := List.mem_map.1 hp
 exact (h q (List.mem_reverse.1 hq)).inv
end Go.Proofs.YtbnfjjjdnbcehaaGreatDoor
namespace Go.Proofs.YtbnfjjjdnbcehaaGreatDoor
open Go.RowKit
set_option maxRecDepth 100000
def okRow : List Pr → Fm → Prop
 | [], _ => True
 | p :: ps, f => (Zv p = true ∧ okF p f) ∧ okRow ps (effF p f)
def effRow : List Pr → Fm → Fm
 | [], f => f
 | p :: ps, f => effRow ps (effF p f)
theorem okRow_append : ∀ (a b : List Pr) (f : Fm), okRow (a ++ b) f ↔ okRow a f ∧ okRow b (effRow a f)
 | [], b, f => by simp [okRow, effRow]
 | p :: a, b, f => by
  rw [List.cons_append, okRow, okRow, effRow, okRow_append a b (effF p f)]
  exact ⟨fun h => ⟨⟨h.1, h.2.1⟩, h.2.2⟩, fun h => ⟨h.1.1, h.1.2, h.2⟩⟩
theorem effRow_append : ∀ (a b : List Pr) (f : Fm), effRow (a ++ b) f = effRow b (effRow a f)
 | [], _, _ => rfl
 | p :: a, b, f => by rw [List.cons_append, effRow, effRow, effRow_append a b (effF p f)]
def RowAs (x y : List Pr) : Prop := ∀ f, okRow y f → okRow x f ∧ effRow x f = effRow y f
theorem RowAs.refl (x : List Pr) : RowAs x x := fun _ h => ⟨h, rfl⟩
theorem RowAs.trans {x y z : List Pr} (h : RowAs x y) (k : RowAs y z) : RowAs x z := fun f o => by
 obtain ⟨k1, k2⟩ := k f o
 obtain ⟨h1, h2⟩ := h f k1
 exact ⟨h1, h2.trans k2⟩
theorem RowAs.app {x y a b : List Pr} (h : RowAs x y) (k : RowAs a b) : RowAs (x ++ a) (y ++ b) := fun f o => by
 obtain ⟨o1, o2⟩ := (okRow_append y b f).1 o
 obtain ⟨h1, h2⟩ := h f o1
 obtain ⟨k1, k2⟩ := k _ o2
 refine ⟨(okRow_append x a f).2 ⟨h1, by rw [h2]; exact k1⟩, ?_⟩
 rw [effRow_append, effRow_append, h2, k2]
theorem chg_two {L L1 M : List En} (h : Zl L) {p q z : Pr} (rp : Zv p = true) (rq : Zv q = true) (rz : Zv z = true) (kp : p.kind = 7 ∨ p.kind = 9) (kq : q.kind = p.kind) (kz : z.kind = p.kind) (eq : q.path = p.path) (ez : z.path = p.path) (a1 : actE L p = (L1, 0)) (a2 : actE L1 q = (M, 0)) (hw : ∀ x y u, Zb x p = some y → Zb y q = some u → Zb x z = some u) : actE L z = (M, 0) := by
 have h1 := h.act rp a1
 obtain ⟨o1, _, _, t1⟩ := (h.told rp).1 a1
 obtain ⟨o2, _, sM, t2⟩ := (h1.told rq).1 a2
 have hf : Zt L1 = effF p (Zt L) := funext t1
 rw [hf] at o2 t2
 have cp : p.kind = 7 ∨ p.kind = 8 ∨ p.kind = 9 := by omega
 have cq : q.kind = 7 ∨ q.kind = 8 ∨ q.kind = 9 := by omega
 have cz : z.kind = 7 ∨ z.kind = 8 ∨ z.kind = 9 := by omega
 obtain ⟨x, y, hx, hk, hy⟩ := (ok_chg cp).1 o1
 obtain ⟨y', u, hy', _, hu⟩ := (ok_chg cq).1 o2
 rw [eff_chg cp, eq, if_pos rfl, hx] at hy'
 have ey : y' = y := by simpa [hy] using hy'.symm
 subst ey
 refine (h.told rz).2 ⟨(ok_chg cz).2 ⟨x, u, by rw [ez]; exact hx, by rw [kz]; exact hk, hw x y' u hy hu⟩, fun e => ?_, sM, fun s => ?_⟩
 ·unfold wants at e; omega
 ·rw [t2 s, eff_chg cz, eff_chg cq, eff_chg cp, eq, ez]
  by_cases e : s = bl p.path
  ·rw [if_pos e, if_pos e, if_pos e, e, hx]
   simp only [Option.bind_some, hy, hu, hw x y' u hy hu]
  ·rw [if_neg e, if_neg e, if_neg e]
theorem hunk_join {l l1 l2 o n m : List ByteArray} {x : Int} (h1 : hunkL l x o n = some l1) (h2 : hunkL l1 x n m = some l2) : hunkL l x o m = some l2 := by
 obtain ⟨a, b, rfl, ha, rfl⟩ := hunk_some h1
 obtain ⟨c, d, e, hc, rfl⟩ := hunk_some h2
 have hl : a.length = c.length := by omega
 rw [List.append_assoc, List.append_assoc] at e
 obtain ⟨e1, e2⟩ := List.append_inj e hl
 obtain ⟨_, e3⟩ := List.append_inj e2 rfl
 subst e1 e3
 rw [← ha]
 exact hunk_mk a o m b
theorem join_do {L L1 M : List En} (h : Zl L) {p q : Pr} {l : List Pr} (hk : p.kind ≠ 10 ∨ q = inv p) (hj : Z3 p q = some l) (a1 : actE L p = (L1, 0)) (a2 : actE L1 q = (M, 0)) : (l = [] ∧ M = L) ∨ ∃ z, l = [z] ∧ Zv z = true ∧ actE L z = (M, 0) := by
 have hj0 := hj
 unfold Z3 at hj
 split at hj
 ·cases hj
 rename_i h0
 simp only [Bool.not_eq_true, Bool.not_eq_false', Bool.and_eq_true] at h0
 obtain ⟨rp, rq⟩ := h0
 split at hj
 ·rename_i hi
  have e := alike_iff.1 hi
  subst e
  cases hj
  have := h.undo rp a1
  rw [this] at a2
  cases a2
  exact Or.inl ⟨rfl, rfl⟩
 rename_i hi
 have hi' : ¬ q = inv p := fun e => hi (alike_iff.2 e)
 have hk' : p.kind ≠ 10 := hk.resolve_right hi'
 split at hj
 ·cases hj
 rename_i h2
 have h2' : p.kind = q.kind := by simpa using h2
 split at hj
 ·rename_i h3
  obtain ⟨k9, e1, e2⟩ := h3
  cases hj
  have rz := join_right hj0
  refine Or.inr ⟨_, rfl, rz, chg_two h rp rq rz (Or.inr k9) h2'.symm rfl e1.symm rfl a1 a2 (fun x y u g1 g2 => ?_)⟩
  unfold Zb at g1 g2 ⊢
  rw [if_neg (by omega), if_neg (by omega)] at g1 g2
  rw [if_neg (by show ¬ p.kind = 7; omega), if_neg (by show ¬ p.kind = 8; omega)]
  split at g1
  ·rename_i hd
   cases g1
   have g3 : some { x with data := q.dst } = some u := by rw [← g2]; exact (if_pos e2).symm
   cases g3
   exact if_pos hd
  ·cases g1
 ·split at hj
  ·rename_i h3
   obtain ⟨k7, e1, e2, e3⟩ := h3
   cases hj
   have rz := join_right hj0
   refine Or.inr ⟨_, rfl, rz, chg_two h rp rq rz (Or.inl k7) h2'.symm rfl e1.symm rfl a1 a2 (fun x y u g1 g2 => ?_)⟩
   unfold Zb at g1 g2 ⊢
   rw [if_pos k7] at g1
   rw [if_pos (by omega)] at g2
   rw [if_pos (show p.kind = 7 from k7)]
   obtain ⟨l1, c1, rfl⟩ := Option.map_eq_some_iff.1 g1
   obtain ⟨l2, c2, rfl⟩ := Option.map_eq_some_iff.1 g2
   rw [← e2, ← e3] at c2
   rw [hunk_join c1 c2]
   rfl
  ·split at hj
   ·rename_i h3
    exact absurd h3.1 hk'
   ·cases hj
theorem moved_app {A C r : List UInt8} (hr : r = [] ∨ ∃ t, r = 47 :: t) : Path.moved (A ++ r) A C = C ++ r := by
 rw [Path.moved, if_pos (within_of hr), List.drop_left]
theorem mv_two {A B C r : List UInt8} {x : En} (hr : r = [] ∨ ∃ t, r = 47 :: t) (e : bl x.path = A ++ r) : mvE B C (mvE A B x) = mvE A C x := by
 have h1 : bl (mvE A B x).path = B ++ r := mv_path e (by rw [e]; exact within_of hr)
 have h2 : Path.moved (bl (mvE A B x).path) B C = Path.moved (bl x.path) A C := by rw [h1, e, moved_app hr, moved_app hr]
 show ({ (mvE A B x) with path := ⟨(Path.moved (bl (mvE A B x).path) B C).toArray⟩ } : En) = { x with path := ⟨(Path.moved (bl x.path) A C).toArray⟩ }
 rw [h2]
 rfl
theorem mov_two {L L1 M : List En} (h : Zl L) {p q z : Pr} (rp : Zv p = true) (rq : Zv q = true) (rz : Zv z = true) (kp : p.kind = 10) (kq : q.kind = 10) (kz : z.kind = 10) (e1 : p.dst = q.path) (ez : z.path = p.path) (ed : z.dst = q.dst) (ha : Path.apart (bl p.path) (bl q.dst) = true) (a1 : actE L p = (L1, 0)) (a2 : actE L1 q = (M, 0)) : actE L z = (M, 0) := by
 have h1 := h.act rp a1
 obtain ⟨o1, _, _, t1⟩ := (h.told rp).1 a1
 obtain ⟨o2, _, sM, t2⟩ := (h1.told rq).1 a2
 have hf : Zt L1 = effF p (Zt L) := funext t1
 rw [hf] at o2 t2
 obtain ⟨u1, ⟨u2, _⟩, _⟩ := (ok_mov kp).1 o1
 obtain ⟨_, ⟨v2, v3⟩, v4⟩ := (ok_mov kq).1 o2
 obtain ⟨c1, c2⟩ := apart_no ha
 obtain ⟨c3, c4⟩ := apart_no (apart_of rq kq)
 rw [← e1] at v4 c3 c4
 have hg : ∀ s, effF p (Zt L) s = _ := fun s => eff_mov kp s
 have noB : ∀ s, Path.within s (bl p.dst) = true → Zt L s = none := fun s hs => by
  cases hx : Zt L s with
  | none => rfl
  | some x =>
   obtain ⟨m1, m2⟩ := Yy hx
   have := h.none_in u2 x m1
   rw [m2, hs] at this
   cases this
 refine (h.told rz).2 ⟨(ok_mov kz).2 ⟨by rw [ez]; exact u1, ⟨?_, ?_⟩, ?_⟩, fun e => by unfold wants at e; omega, sM, fun s => ?_⟩
 ·rw [ed]
  rw [hg, if_neg (by rw [c3]; simp), if_neg (by rw [c2]; simp)] at v2
  exact v2
 ·rw [ed]
  intro q' hq'
  obtain ⟨d, hd, hk⟩ := v3 q' hq'
  have w1 : Path.within q' (bl p.dst) = false := by
   cases hw : Path.within q' (bl p.dst) with
   | false => rfl
   | true =>
    have := Path.within_trans (parent_in hq') hw
    rw [c3] at this
    cases this
  rw [hg, if_neg (by rw [w1]; simp)] at hd
  split at hd
  ·cases hd
  ·exact ⟨d, hd, hk⟩
 ·rw [ez, ed]
  intro s hs hn
  obtain ⟨r, rfl, hr⟩ := within_app hs
  rw [moved_app hr]
  have hw : Path.within (bl p.dst ++ r) (bl p.dst) = true := within_of hr
  have := v4 (bl p.dst ++ r) hw (by
   rw [hg, if_pos hw, back_in]
   cases hx : Zt L (bl p.path ++ r) with
   | none => exact absurd hx hn
   | some x => simp)
  rw [moved_app hr] at this
  exact this
 ·rw [t2 s, eff_mov kz, eff_mov kq, ez, ed, ← e1]
  by_cases w1 : Path.within s (bl q.dst) = true
  ·rw [if_pos w1, if_pos w1]
   obtain ⟨r, rfl, hr⟩ := within_app w1
   have hw : Path.within (bl p.dst ++ r) (bl p.dst) = true := within_of hr
   rw [back_in, back_in, hg, if_pos hw, back_in]
   cases hx : Zt L (bl p.path ++ r) with
   | none => rfl
   | some x => simp only [Option.map_some]; rw [mv_two hr (find_path hx)]
  ·rw [if_neg w1, if_neg w1]
   by_cases w2 : Path.within s (bl p.dst) = true
   ·rw [if_pos w2, noB s w2]
    simp
   ·rw [if_neg w2, hg, if_neg w2]
theorem join_all {L L1 M : List En} (h : Zl L) {p q : Pr} {l : List Pr} (hj : Z3 p q = some l) (d1 : doE L p = (L1, 0)) (d2 : doE L1 q = (M, 0)) : (l = [] ∧ M = L) ∨ ∃ z, l = [z] ∧ doE L z = (M, 0) := by
 obtain ⟨_, a1⟩ := do_of d1
 obtain ⟨_, a2⟩ := do_of d2
 have fin : ∀ z, Zv z = true → actE L z = (M, 0) → doE L z = (M, 0) := fun z hz e => by unfold doE; rw [if_pos hz, e]
 by_cases hk : p.kind ≠ 10 ∨ q = inv p
 ·rcases join_do h hk hj a1 a2 with h1 | ⟨z, h1, h2, h3⟩
  ·exact Or.inl h1
  ·exact Or.inr ⟨z, h1, fin z h2 h3⟩
 ·have k10 : p.kind = 10 := by
   rcases Classical.em (p.kind = 10) with e | e
   ·exact e
   ·exact absurd (Or.inl e) hk
  have hi' : ¬ q = inv p := fun e => hk (Or.inr e)
  have hj0 := hj
  unfold Z3 at hj
  split at hj
  ·cases hj
  rename_i h0
  simp only [Bool.not_eq_true, Bool.not_eq_false', Bool.and_eq_true] at h0
  obtain ⟨rp, rq⟩ := h0
  split at hj
  ·rename_i hi
   exact absurd (alike_iff.1 hi) hi'
  split at hj
  ·cases hj
  rename_i h2
  have h2' : p.kind = q.kind := by simpa using h2
  split at hj
  ·rename_i h3; have := h3.1; omega
  split at hj
  ·rename_i h3; have := h3.1; omega
  split at hj
  ·rename_i h3
   obtain ⟨_, e1, e2⟩ := h3
   cases hj
   have rz := join_right hj0
   exact Or.inr ⟨_, rfl, fin _ rz (mov_two h rp rq rz k10 (h2' ▸ k10) k10 e1 rfl rfl e2 a1 a2)⟩
  ·cases hj
theorem run_split : ∀ {a b : List Pr} {L X : List En} {j k : Nat}, runE L (a ++ b) j = (X, 0, k) → ∃ M, runE L a 0 = (M, 0, 0) ∧ runE M b 0 = (X, 0, 0)
 | [], b, L, X, j, k, e => by
  have := run_place 0 e
  rw [run_zero e] at this
  exact ⟨L, rfl, this⟩
 | p :: a, b, L, X, j, k, e => by
  rw [List.cons_append] at e
  obtain ⟨L1, e1, e2⟩ := run_cons.1 e
  obtain ⟨M, h1, h2⟩ := run_split e2
  exact ⟨M, run_cons.2 ⟨L1, e1, run_place 1 h1⟩, h2⟩
theorem push_run : ∀ (st : List Pr) (x : Pr) {L X : List En}, Zl L → runE L (st.reverse ++ [x]) 0 = (X, 0, 0) → runE L (pushR st x).reverse 0 = (X, 0, 0)
 | [], x, L, X, _, e => by simpa [pushR] using e
 | y :: st, x, L, X, hT, e => by
  rw [List.reverse_cons, List.append_assoc] at e
  obtain ⟨L0, e0, e1⟩ := run_split e
  rw [List.singleton_append] at e1
  obtain ⟨L1, d1, e2⟩ := run_cons.1 e1
  obtain ⟨L2, d2, e3⟩ := run_cons.1 e2
  simp only [runE, Prod.mk.injEq, and_true] at e3
  subst e3
  have hT0 := hT.run e0
  unfold pushR
  cases hj : Z3 y x with
  | none =>
   simp only [List.reverse_cons, List.append_assoc]
   exact run_append e0 (run_cons.2 ⟨L1, d1, run_cons.2 ⟨L2, d2, rfl⟩⟩)
  | some l =>
   rcases join_all hT0 hj d1 d2 with ⟨rfl, rfl⟩ | ⟨z, rfl, hz⟩
   ·simp only
    exact e0
   ·simp only
    exact push_run st z hT (run_append e0 (run_cons.2 ⟨L2, hz, rfl⟩))
theorem coal_run : ∀ (l st : List Pr) {L X : List En}, Zl L → runE L (st.reverse ++ l) 0 = (X, 0, 0) → runE L (coalR st l).reverse 0 = (X, 0, 0)
 | [], st, L, X, _, e => by simpa [coalR] using e
 | x :: l, st, L, X, hT, e => by
  have e' : runE L ((st.reverse ++ [x]) ++ l) 0 = (X, 0, 0) := by simpa using e
  obtain ⟨M, e1, e2⟩ := run_split e'
  exact coal_run l (pushR st x) hT (run_append (push_run st x hT e1) e2)
theorem all_coal {L X : List En} {a : List Pr} {k : Nat} (e : allE L a = (X, 0, k)) : allE L (coalP a) = (X, 0, 0) := by
 cases ht : Zw L with
 | false => rw [runE_bad ht] at e; simp at e
 | true =>
  rw [runE_good ht] at e ⊢
  rw [run_zero e] at e
  exact coal_run a [] ((treeR L).1 ht) e
end Go.Proofs.YtbnfjjjdnbcehaaGreatDoor
namespace Go.Proofs.YtbnfjjjdnbcehaaGreatDoor
open Go.RowKit Go.Maps Go.WideMaps
set_option maxRecDepth 100000
theorem Zk.one {w w1 : World} {p : Pr} {vo vn : Value} (hw : w.alloc (.cells #[.int .i64 p.kind, .string p.path, .string p.dst, .string p.src, .int .i64 p.pos, vo, vn] 43) = w1) (h1 : Zy w vo p.old) (h2 : Zy w vn p.new) : Zk w.heap.size w1 (.slice (some ⟨w.heap.size, 0, none⟩) 1 1) [p] [(vo, vn)] := by
 have f : Fr None' w w1 := hw ▸ Fr.alloc None' w _
 refine ⟨rfl, ⟨rfl, Or.inr ⟨w.heap.size, 1, #[.int .i64 p.kind, .string p.path, .string p.dst, .string p.src, .int .i64 p.pos, vo, vn], rfl, Nat.le_refl _, hw ▸ heap_alloc_new w _, Nat.le_refl _, by decide, rfl, rfl⟩⟩, fun k x u e1 e2 => ?_⟩
 have hk : k = 0 := by
  have := (List.getElem?_eq_some_iff.1 e1).1
  simpa using this
 subst hk
 simp at e1 e2
 subst e1 e2
 exact ⟨h1.kept f, h2.kept f, fun hl j e e' => by have := h1.lt hl e; have h : w.heap.size = j := Option.some.inj e'; omega, fun hl j e e' => by have := h2.lt hl e; have h : w.heap.size = j := Option.some.inj e'; omega⟩
end Go.Proofs.YtbnfjjjdnbcehaaGreatDoor
namespace Go.Proofs.YtbnfjjjdnbcehaaGreatDoor
open Go.RowKit
set_option maxRecDepth 100000
end Go.Proofs.YtbnfjjjdnbcehaaGreatDoor
namespace Go.Proofs.YtbnfjjjdnbcehaaGreatDoor
open Go.RowKit Go.Maps Go.WideMaps
set_option maxRecDepth 100000
theorem join_sm {p q z : Pr} {l : List Pr} (h : Z3 p q = some l) (hp : SmPr p) (hq : SmPr q) (hz : z ∈ l) : SmPr z := by
 unfold Z3 at h
 repeat' split at h
 all_goals first | (cases h; done) | (cases h; simp at hz; done) | skip
 all_goals
  cases h
  rw [List.mem_singleton.1 hz]
  first
   | exact ⟨hp.path, hq.dst, hp.src, hp.old, hp.new, hp.line, hp.oline⟩
   | exact ⟨hp.path, hp.dst, hp.src, hp.old, hq.new, hq.line, hp.oline⟩
theorem push_sm : ∀ (st : List Pr) (x : Pr), (∀ y ∈ st, SmPr y) → SmPr x → ∀ y ∈ pushR st x, SmPr y
 | [], x, _, hx => fun y hy => by
  simp [pushR] at hy
  rw [hy]; exact hx
 | s :: st, x, hs, hx => fun y hy => by
  have hst : ∀ y ∈ st, SmPr y := fun y hy => hs y (List.mem_cons_of_mem _ hy)
  unfold pushR at hy
  split at hy
  ·rcases List.mem_cons.1 hy with rfl | hy
   ·exact hx
   ·exact hs y hy
  ·exact hst y hy
  ·rename_i z l hj
   exact push_sm st z hst (join_sm hj (hs s (List.mem_cons_self ..)) hx (List.mem_cons_self ..)) y hy
theorem coalR_sm : ∀ (l st : List Pr), (∀ y ∈ st, SmPr y) → (∀ y ∈ l, SmPr y) → ∀ y ∈ coalR st l, SmPr y
 | [], _, hs, _ => hs
 | x :: l, _, hs, hl => coalR_sm l (pushR _ x) (push_sm _ x hs (hl x (List.mem_cons_self ..))) (fun y hy => hl y (List.mem_cons_of_mem _ hy))
theorem coal_sm {l : List Pr} (h : ∀ y ∈ l, SmPr y) : ∀ y ∈ coalP l, SmPr y := fun y hy => coalR_sm l [] (fun y hy => by cases hy) h y (List.mem_reverse.1 hy)
theorem coal_len (l : List Pr) : (coalP l).length ≤ l.length := by
 unfold coalP
 rw [List.length_reverse]
 simpa using coal_length l []
theorem Zk.max {base : Nat} {w : World} {pv : Option Addr} {n c : Nat} {L : List Pr} {V : List (Value × Value)} (h : Zk base w (.slice pv n c) L V) : c ≤ 9223372036854775807 := by
 rcases h.row.2 with ⟨hv, _⟩ | ⟨g, cap, cur, hv, _, _, _, hm, _⟩
 ·cases hv; decide
 ·cases hv; exact Nat.le_trans hm (by decide)
end Go.Proofs.YtbnfjjjdnbcehaaGreatDoor
namespace Go.Proofs.YtbnfjjjdnbcehaaGreatDoor
open Go.RowKit
set_option maxRecDepth 100000
def newS (ps : List Pr) : Nat := (ps.map (fun p => p.new.length)).sum
theorem newTo_all (ps : List Pr) : newTo ps ps.length = newS ps := by
 unfold newTo newS
 rw [List.take_length]
theorem newS_reverse (a : List Pr) : newS a.reverse = newS a := by
 unfold newS
 rw [List.map_reverse, List.sum_reverse]
theorem join_new {p q z : Pr} {l : List Pr} (h : Z3 p q = some (z :: l)) : z.new.length ≤ p.new.length + q.new.length := by
 unfold Z3 at h
 repeat' split at h
 all_goals first
  | (cases h; done)
  | (cases h; simp only; omega)
theorem push_new : ∀ (st : List Pr) (x : Pr), newS (pushR st x) ≤ newS st + x.new.length
 | [], x => by simp [pushR, newS]
 | y :: st, x => by
  unfold pushR
  cases h : Z3 y x with
  | none => simp [newS]; omega
  | some l =>
   cases l with
   | nil => simp [newS]; omega
   | cons z l =>
    have h1 := join_new h
    have h2 := push_new st z
    dsimp only
    simp only [newS, List.map_cons, List.sum_cons] at h2 ⊢
    omega
theorem coalR_new : ∀ (l st : List Pr), newS (coalR st l) ≤ newS st + newS l
 | [], st => by simp [coalR, newS]
 | x :: l, st => by
  have h1 := push_new st x
  have h2 := coalR_new l (pushR st x)
  unfold coalR at h2 ⊢
  rw [List.foldl_cons]
  simp only [newS, List.map_cons, List.sum_cons] at h1 h2 ⊢
  omega
theorem coal_new (l : List Pr) : newS (coalP l) ≤ newS l := by
 unfold coalP
 rw [newS_reverse]
 have := coalR_new l []
 simpa [newS] using this
theorem inv_new (ps : List Pr) : newS (ps.map inv) ≤ newS ps + (ps.map (fun p => p.old.length)).sum := by
 induction ps with
 | nil => simp [newS]
 | cons p ps ih =>
  simp only [newS, List.map_cons, List.sum_cons] at ih ⊢
  have : (inv p).new.length ≤ p.new.length + p.old.length := by
   unfold inv
   repeat' split
   all_goals simp [zeroP]
  omega
def linS (L : List En) : Nat := (L.map (fun x => x.lines.length)).sum
def bothS (ps : List Pr) : Nat := (ps.map (fun p => p.old.length + p.new.length)).sum
theorem bothS_append (a b : List Pr) : bothS (a ++ b) = bothS a + bothS b := by simp [bothS]
theorem new_both (ps : List Pr) : newS ps ≤ bothS ps ∧ (ps.map (fun p => p.old.length)).sum ≤ bothS ps := by
 induction ps with
 | nil => exact ⟨Nat.le_refl _, Nat.le_refl _⟩
 | cons p ps ih =>
  simp only [newS, bothS, List.map_cons, List.sum_cons] at ih ⊢
  omega
theorem diffs_count (a b : List ByteArray) : (Diff.diffs a b).length ≤ a.length + b.length ∧ bothS ((Diff.diffs a b).map (hunkP ⟨#[]⟩)) ≤ a.length + b.length := by
 have h1 := Diff.diffs_cost a b
 have h2 := Diff.diffs_spread a b
 have key : ∀ (H : List (Diff.Hk ByteArray)) (last : Int), Diff.Spread last H → H.length ≤ Diff.cost H ∧ bothS (H.map (hunkP ⟨#[]⟩)) = Diff.cost H := fun H => by
  induction H with
  | nil => intro _ _; exact ⟨Nat.le_refl _, rfl⟩
  | cons h H ih =>
   intro last hs
   obtain ⟨i1, i2⟩ := ih _ hs.2.2
   have h0 := hs.1
   rw [Diff.cost_cons]
   simp only [bothS, hunkP, List.map_cons, List.sum_cons, List.length_cons] at i1 i2 ⊢
   omega
 obtain ⟨k1, k2⟩ := key _ _ h2
 omega
theorem both_hunks (p : ByteArray) (H : List (Diff.Hk ByteArray)) : bothS (H.map (hunkP p)) = bothS (H.map (hunkP ⟨#[]⟩)) := by
 unfold bothS
 rw [List.map_map, List.map_map]
 rfl
theorem chg_count (p : ByteArray) (f t : En) : (chgL p f t).length ≤ f.lines.length + t.lines.length + 1 ∧ bothS (chgL p f t) ≤ f.lines.length + t.lines.length := by
 obtain ⟨h1, h2⟩ := diffs_count f.lines t.lines
 unfold chgL
 rw [bothS_append, both_hunks, List.length_append, List.length_map]
 split
 ·exact ⟨by simp; omega, by simpa [bothS] using h2⟩
 ·exact ⟨by simp; omega, by simpa [bothS, dataP] using h2⟩
theorem gos_count (b : List En) : ∀ s : List En, (s.flatMap (goL b)).length ≤ linS s + 2 * s.length ∧ bothS (s.flatMap (goL b)) ≤ linS s
 | [] => ⟨Nat.le_refl _, Nat.le_refl _⟩
 | x :: s => by
  obtain ⟨h1, h2⟩ := gos_count b s
  have h3 : (goL b x).length ≤ x.lines.length + 2 ∧ bothS (goL b x) ≤ x.lines.length := by
   unfold goL
   split
   ·exact ⟨Nat.zero_le _, Nat.zero_le _⟩
   ·obtain ⟨k1, k2⟩ := chg_count x.path x Yp
    have h0 : Yp.lines.length = 0 := rfl
    rw [List.length_append, bothS_append]
    have h5 : bothS [pathP (2 * x.kind) x.path] = 0 := rfl
    have h6 : [pathP (2 * x.kind) x.path].length = 1 := rfl
    omega
  rw [List.flatMap_cons, List.length_append, bothS_append]
  simp only [linS, List.map_cons, List.sum_cons, List.length_cons] at h1 h2 ⊢
  omega
theorem comes_count (a : List En) : ∀ s : List En, (s.flatMap (comeL a)).length ≤ linS s + linS (wasL a s) + 2 * s.length ∧ bothS (s.flatMap (comeL a)) ≤ linS s + linS (wasL a s)
 | [] => ⟨Nat.le_refl _, Nat.le_refl _⟩
 | x :: s => by
  obtain ⟨h1, h2⟩ := comes_count a s
  have h3 : (comeL a x).length ≤ x.lines.length + linS (likeE a x).toList + 2 ∧ bothS (comeL a x) ≤ x.lines.length + linS (likeE a x).toList := by
   unfold comeL
   cases hl : likeE a x with
   | some y =>
    obtain ⟨k1, k2⟩ := chg_count x.path y x
    simp only [Option.toList, linS, List.map_cons, List.map_nil, List.sum_cons, List.sum_nil] at k1 k2 ⊢
    omega
   | none =>
    obtain ⟨k1, k2⟩ := chg_count x.path Yp x
    have h0 : Yp.lines.length = 0 := rfl
    simp only [Option.toList, linS, List.map_nil, List.sum_nil, List.length_cons, bothS, List.map_cons, List.sum_cons] at k1 k2 ⊢
    have h5 : (pathP (2 * x.kind - 1) x.path).old.length = 0 := rfl
    have h6 : (pathP (2 * x.kind - 1) x.path).new.length = 0 := rfl
    omega
  have h4 : linS (wasL a (x :: s)) = linS (likeE a x).toList + linS (wasL a s) := by
   unfold wasL
   rw [List.filterMap_cons]
   cases likeE a x <;> simp [linS]
  rw [List.flatMap_cons, List.length_append, bothS_append, h4]
  simp only [linS, List.map_cons, List.sum_cons, List.length_cons] at h1 h2 h3 ⊢
  omega
theorem linS_filter (f : En → Bool) : ∀ L : List En, linS (L.filter f) ≤ linS L
 | [] => Nat.le_refl _
 | x :: L => by
  have ih := linS_filter f L
  rw [List.filter_cons]
  split <;> simp only [linS, List.map_cons, List.sum_cons] at ih ⊢ <;> omega
theorem lin_weight : ∀ L : List En, linS L + 5 * L.length ≤ weight L
 | [] => Nat.le_refl _
 | x :: L => by
  have ih := lin_weight L
  unfold weight at ih ⊢
  simp only [linS, List.map_cons, List.sum_cons, List.length_cons] at ih ⊢
  unfold En.weight at *
  omega
theorem linS_reverse (L : List En) : linS L.reverse = linS L := by
 unfold linS
 rw [List.map_reverse, List.sum_reverse]
theorem rec_count {a b : List En} (ha : Zl a) (hb : Zl b) (wa : weight a < 4000) (wb : weight b < 4000) : (recL a b).length ≤ 20000 ∧ bothS (recL a b) ≤ 12000 := by
 obtain ⟨h1, h2⟩ := gos_count b a.reverse
 obtain ⟨h3, h4⟩ := comes_count a b
 rw [← was_kept ha hb] at h3 h4
 have h5 := linS_filter (keptB b) a
 have h6 := lin_weight a
 have h7 := lin_weight b
 rw [linS_reverse] at h1 h2
 rw [List.length_reverse] at h1
 unfold recL
 rw [List.length_append, bothS_append]
 omega
theorem chg_sm {p : ByteArray} {f t : En} (hp : p.size ≤ 4000) (hf : f.lines.length ≤ 4000 ∧ f.data.size ≤ 4000 ∧ ∀ y ∈ f.lines, y.size ≤ 4000) (ht : t.lines.length ≤ 4000 ∧ t.data.size ≤ 4000 ∧ ∀ y ∈ t.lines, y.size ≤ 4000) : ∀ q ∈ chgL p f t, SmPr q := fun q hq => by
 rcases chg_mem hq with ⟨h, hh, rfl⟩ | ⟨_, rfl⟩
 ·obtain ⟨h1, h2, h3, h4⟩ := diffs_of hh
  exact ⟨hp, Nat.zero_le _, Nat.zero_le _, by show h.o.length ≤ 4000; omega, by show h.n.length ≤ 4000; omega, fun y hy => ht.2.2 y (h2 y hy), fun y hy => hf.2.2 y (h1 y hy)⟩
 ·exact ⟨hp, ht.2.1, hf.2.1, Nat.zero_le _, Nat.zero_le _, (fun y hy => by cases hy), (fun y hy => by cases hy)⟩
theorem path_sm (k : Int) {p : ByteArray} (hp : p.size ≤ 4000) : SmPr (pathP k p) := ⟨hp, Nat.zero_le _, Nat.zero_le _, Nat.zero_le _, Nat.zero_le _, (fun y hy => by cases hy), (fun y hy => by cases hy)⟩
theorem mem_sum_le : ∀ {l : List Nat} {n : Nat}, n ∈ l → n ≤ l.sum
 | x :: l, n, h => by
  rcases List.mem_cons.1 h with rfl | h
  ·simp
  ·have := mem_sum_le h
   simp
   omega
theorem en_sm {L : List En} (hw : weight L < 4000) {x : En} (hx : x ∈ L) : x.path.size ≤ 4000 ∧ x.lines.length ≤ 4000 ∧ x.data.size ≤ 4000 ∧ ∀ y ∈ x.lines, y.size ≤ 4000 := by
 have h1 := weight_mem hx
 unfold En.weight at h1
 refine ⟨by omega, by omega, by omega, fun y hy => ?_⟩
 have := mem_sum_le (List.mem_map.2 ⟨y, hy, rfl⟩ : y.size ∈ x.lines.map (·.size))
 omega
theorem none_sm : Yp.lines.length ≤ 4000 ∧ Yp.data.size ≤ 4000 ∧ ∀ y ∈ Yp.lines, y.size ≤ 4000 := ⟨Nat.zero_le _, Nat.zero_le _, fun y hy => by cases hy⟩
theorem rec_sm {a b : List En} (wa : weight a < 4000) (wb : weight b < 4000) : ∀ p ∈ recL a b, SmPr p := fun p hp => by
 unfold recL at hp
 rcases List.mem_append.1 hp with hp | hp
 ·obtain ⟨x, hx, hm⟩ := List.mem_flatMap.1 hp
  obtain ⟨h1, h2⟩ := en_sm wa (List.mem_reverse.1 hx)
  unfold goL at hm
  split at hm
  ·cases hm
  ·rcases List.mem_append.1 hm with hm | hm
   ·exact chg_sm h1 h2 none_sm p hm
   ·rw [List.mem_singleton] at hm
    rw [hm]
    exact path_sm _ h1
 ·obtain ⟨x, hx, hm⟩ := List.mem_flatMap.1 hp
  obtain ⟨h1, h2⟩ := en_sm wb hx
  unfold comeL at hm
  cases hl : likeE a x with
  | some y =>
   rw [hl] at hm
   exact chg_sm h1 (en_sm wa (like_some hl).1).2 h2 p hm
  | none =>
   rw [hl] at hm
   rcases List.mem_cons.1 hm with hm | hm
   ·rw [hm]
    exact path_sm _ h1
   ·exact chg_sm h1 none_sm h2 p hm
end Go.Proofs.YtbnfjjjdnbcehaaGreatDoor
namespace Go.Proofs.YtbnfjjjdnbcehaaGreatDoor
open Go.RowKit Go.Maps Go.WideMaps
set_option maxRecDepth 100000
theorem nilS8 (w : World) : Zy w (.slice none 0 0) [] := ⟨none, 0, rfl, fun _ => rfl, Nat.le_refl _, Lines.Row.nil _ _⟩
theorem row_one8 (w : World) (x : ByteArray) {b : Nat} (hb : w.heap.size = b) : Lines.Row (w.alloc (.cells #[.string x] 9)) (some ⟨b, 0, none⟩) [x] := fun j y hj => by
 subst hb
 have h0 : j = 0 := by have := (List.getElem?_eq_some_iff.1 hj).1; simp at this; omega
 subst h0
 have : x = y := by simpa using hj
 subst this
 exact ⟨_, 0, rfl, by rw [World.cell?, heap_alloc_new]; rfl⟩
theorem row_two8 (w : World) (x z : ByteArray) {b : Nat} (hb : w.heap.size = b) : Lines.Row (w.alloc (.cells #[.string x, .string z] 9)) (some ⟨b, 0, none⟩) [x, z] := fun j y hj => by
 subst hb
 have h0 : j < 2 := by have := (List.getElem?_eq_some_iff.1 hj).1; simpa using this
 have h1 : j = 0 ∨ j = 1 := by omega
 rcases h1 with rfl | rfl
 ·have : x = y := by simpa using hj
  subst this
  exact ⟨_, 0, rfl, by rw [World.cell?, heap_alloc_new]; rfl⟩
 ·have : z = y := by simpa using hj
  subst this
  exact ⟨_, 0, rfl, by rw [World.cell?, heap_alloc_new]; rfl⟩
end Go.Proofs.YtbnfjjjdnbcehaaGreatDoor
