/- What is proved here: contracts that SeqTells stands on. Conditions: as each theorem names them. -/
import Derived.Test.YtbnfjjjdnbcehaaGreatDoorM30Concat11
import Derived.Test.YtbnfjjjdnbcehaaGreatDoorM29Settle11
import Derived.Test.YtbnfjjjdnbcehaaGreatDoorM1Base
import Derived.Test.YtbnfjjjdnbcehaaGreatDoorMAll9
import Derived.Test.YtbnfjjjdnbcehaaGreatDoorM14Plain10
import Derived.Laws.MakeOwn
set_option maxHeartbeats 16000000
namespace Go.Proofs.YtbnfjjjdnbcehaaGreatDoor
open Go.RowKit Go.Shelf
set_option maxRecDepth 100000
@[reducible] def setAt (w : World) (g o : Nat) (y0 y1 y2 y3 y4 y5 y6 : Value) : World := ((((((w.setCell ⟨g, o, none⟩ y0).setCell ⟨g, o + 1, none⟩ y1).setCell ⟨g, o + 2, none⟩ y2).setCell ⟨g, o + 3, none⟩ y3).setCell ⟨g, o + 4, none⟩ y4).setCell ⟨g, o + 5, none⟩ y5).setCell ⟨g, o + 6, none⟩ y6
theorem Fr.setAt (w : World) (g o : Nat) (y0 y1 y2 y3 y4 y5 y6 : Value) : Fr (fun k => k = g) w (setAt w g o y0 y1 y2 y3 y4 y5 y6) :=
 ((((((Fr.setQ w g o y0).then (Fr.setQ _ g (o + 1) y1)).then (Fr.setQ _ g (o + 2) y2)).then (Fr.setQ _ g (o + 3) y3)).then (Fr.setQ _ g (o + 4) y4)).then (Fr.setQ _ g (o + 5) y5)).then (Fr.setQ _ g (o + 6) y6)
theorem pcells_put : ∀ (L : List Pr) (V : List (Value × Value)) (k : Nat) (y : Pr) (a b : Value), V.length = L.length → k < L.length → pcells (L.set k y) (V.set k (a, b)) = (((((((pcells L V).set (k * 7) (.int .i64 y.kind)).set (k * 7 + 1) (.string y.path)).set (k * 7 + 2) (.string y.dst)).set (k * 7 + 3) (.string y.src)).set (k * 7 + 4) (.int .i64 y.pos)).set (k * 7 + 5) a).set (k * 7 + 6) b
 | [], _, k, _, _, _, _, hk => by simp at hk
 | x :: L, [], _, _, _, _, e, _ => by cases e
 | x :: L, u :: V, 0, y, a, b, _, _ => by simp [pcells, prCells]
 | x :: L, u :: V, k + 1, y, a, b, e, hk => by
  have ih := pcells_put L V k y a b (by simpa using e) (by simpa using hk)
  simp only [List.set_cons_succ, pcells, ih]
  rw [show (k + 1) * 7 = k * 7 + 7 from by omega, show k * 7 + 7 + 1 = (k * 7 + 1) + 7 from by omega, show k * 7 + 7 + 2 = (k * 7 + 2) + 7 from by omega, show k * 7 + 7 + 3 = (k * 7 + 3) + 7 from by omega, show k * 7 + 7 + 4 = (k * 7 + 4) + 7 from by omega, show k * 7 + 7 + 5 = (k * 7 + 5) + 7 from by omega, show k * 7 + 7 + 6 = (k * 7 + 6) + 7 from by omega]
  simp [prCells]
theorem Zh.put {base : Nat} {w : World} {g n cap : Nat} {L : List Pr} {V : List (Value × Value)} (h : Zh base w (.slice (some ⟨g, 0, none⟩) n cap) L V) {k : Nat} (hk : k < L.length) {y : Pr} {a b : Value} (ha : Zv w a y.old) (hb : Zv w b y.new) (fa : ∀ j, a.ownBlock = some j → ¬ j = g) (fb : ∀ j, b.ownBlock = some j → ¬ j = g) :
  Zh base (setAt w g (k * 7) (.int .i64 y.kind) (.string y.path) (.string y.dst) (.string y.src) (.int .i64 y.pos) (a) (b)) (.slice (some ⟨g, 0, none⟩) n cap) (L.set k y) (V.set k (a, b)) := by
 have f : Fr (fun j => j = g) w (setAt w g (k * 7) (.int .i64 y.kind) (.string y.path) (.string y.dst) (.string y.src) (.int .i64 y.pos) (a) (b)) := Fr.setAt _ _ _ _ _ _ _ _ _ _
 refine ⟨by simp [h.len], ⟨by rw [pcells_put L V k y a b h.len hk]; simpa using h.row.1, ?_⟩, fun j x u e1 e2 => ?_⟩
 ·rcases h.row.2 with ⟨hv, _⟩ | ⟨g', cap', cur, he, hb', hh, h1, h2, h3, h4⟩
  ·cases hv
  ·cases he
   have e0 := Go.heap_setCell_same w g (k * 7) _ _ (.int .i64 y.kind) hh
   have e1 := Go.heap_setCell_same _ g (k * 7 + 1) _ _ (.string y.path) e0
   have e2 := Go.heap_setCell_same _ g (k * 7 + 2) _ _ (.string y.dst) e1
   have e3 := Go.heap_setCell_same _ g (k * 7 + 3) _ _ (.string y.src) e2
   have e4 := Go.heap_setCell_same _ g (k * 7 + 4) _ _ (.int .i64 y.pos) e3
   have e5 := Go.heap_setCell_same _ g (k * 7 + 5) _ _ a e4
   have e6 := Go.heap_setCell_same _ g (k * 7 + 6) _ _ b e5
   refine Or.inr ⟨g, cap, _, by simp, hb', e6, by simpa using h1, h2, by simp [h3], ?_⟩
   rw [pcells_put L V k y a b h.len hk, ← h4]
   simp [List.take_set]
 ·have key : Zv w u.1 x.old ∧ Zv w u.2 x.new ∧ Far (.slice (some ⟨g, 0, none⟩) n cap) u.1 x.old ∧ Far (.slice (some ⟨g, 0, none⟩) n cap) u.2 x.new := by
   by_cases hj : k = j
   ·subst hj
    rw [List.getElem?_set_self (by rw [h.len]; exact hk)] at e2
    rw [List.getElem?_set_self hk] at e1
    cases e1
    cases e2
    exact ⟨ha, hb, fun _ i e e' => fa i e (Option.some.inj e').symm, fun _ i e e' => fb i e (Option.some.inj e').symm⟩
   ·rw [List.getElem?_set_ne hj] at e2
    rw [List.getElem?_set_ne hj] at e1
    exact h.str j x u e1 e2
  obtain ⟨s1, s2, f1, f2⟩ := key
  exact ⟨s1.far f (fun hl i e e' => f1 hl i e (by rw [e']; rfl)), s2.far f (fun hl i e e' => f2 hl i e (by rw [e']; rfl)), f1, f2⟩
theorem pcells_zero : ∀ n : Nat, pcells (List.replicate n Yr) (List.replicate n (.slice none 0 0, .slice none 0 0)) = (List.range (n * 7)).map (fun i => zcells[i % 7]!)
 | 0 => rfl
 | n + 1 => by
  rw [List.replicate_succ', List.replicate_succ', pcells_append _ _ _ _ (by simp), pcells_zero n, show (n + 1) * 7 = n * 7 + 7 from by omega, List.range_add, List.map_append]
  congr 1
  simp [pcells, prCells, Yr, zcells, List.range_succ, Nat.add_mod]
theorem made_zero (n : Nat) : (madeCells zcells (n * 7)).toList = pcells (List.replicate n Yr) (List.replicate n (.slice none 0 0, .slice none 0 0)) := by
 rw [pcells_zero]
 simp [madeCells, zcells]
theorem makeP_run (w : World) (n : Nat) (hn : n ≤ 90000) : ∃ w1, (Instr.makeSlice 22 (.int .i64 n) (.int .i64 n)).run Tryz.prog w = .ok (.slice (some ⟨w.heap.size, 0, none⟩) n n) w1 ∧ w1 = w.alloc (.cells (madeCells zcells (n * 7)) 43) ∧ Zh w.heap.size w1 (.slice (some ⟨w.heap.size, 0, none⟩) n n) (List.replicate n Yr) (List.replicate n (.slice none 0 0, .slice none 0 0)) := by
 obtain ⟨i0, hi, hz0, hz1, hz2⟩ := info_parts infoP
 have hmk := run_make (P := Tryz.prog) w 22 43 i0 _ Tryz.underlying22 hi hz0 .i64 .i64 (n : Int) (n : Int) (by omega) (by omega) (by rw [hz2]; omega) (by omega)
 rw [hz1] at hmk
 refine ⟨_, hmk, rfl, by simp, ⟨by rw [Yc _ _ (by simp)], Or.inr ⟨w.heap.size, n, madeCells zcells (n * 7), by simp, Nat.le_refl _, heap_alloc_new w _, by simp, by unfold maxLen; omega, by rw [size_madeCells], ?_⟩⟩, fun k x u e1 e2 => ?_⟩
 ·rw [made_zero, List.length_replicate, List.take_of_length_le (by rw [Yc _ _ (by simp)]; simp)]
 ·have hx := List.eq_of_mem_replicate (List.mem_of_getElem? e1)
  have hu := List.eq_of_mem_replicate (List.mem_of_getElem? e2)
  subst hx hu
  exact ⟨⟨none, 0, rfl, fun _ => rfl, Nat.le_refl _, Lines.Row.nil _ _⟩, ⟨none, 0, rfl, fun _ => rfl, Nat.le_refl _, Lines.Row.nil _ _⟩, (fun h => absurd rfl h), (fun h => absurd rfl h)⟩
theorem past_small : ∀ (L : List Pr) (p : Pr), Zs p → (∀ y ∈ L, Zs y) → (Zk p L).2.2 = true → (∀ y ∈ (Zk p L).1, Zs y) ∧ Zs (Zk p L).2.1
 | [], p, hp, _, _ => ⟨(fun y hy => by simp [Zk] at hy), hp⟩
 | q :: L, p, hp, hL, h => by
  unfold Zk at h ⊢
  by_cases h1 : (Zj p q).2.2 = true
  ·rw [if_pos h1] at h ⊢
   obtain ⟨s1, s2⟩ := comm_small hp (hL q (List.mem_cons_self ..)) h1
   have ih := past_small L (Zj p q).2.1 s2 (fun y hy => hL y (List.mem_cons_of_mem _ hy))
   generalize Zk (Zj p q).2.1 L = r at h ih ⊢
   obtain ⟨a, b, t⟩ := r
   simp only at h ih ⊢
   by_cases h2 : t = true
   ·rw [if_pos h2] at h ⊢
    obtain ⟨i1, i2⟩ := ih h2
    refine ⟨fun y hy => ?_, i2⟩
    rcases List.mem_cons.1 hy with rfl | hy
    ·exact s1
    ·exact i1 y hy
   ·rw [if_neg h2] at h
    cases h
  ·rw [if_neg h1] at h
   cases h
theorem swap_small : ∀ (a b : List Pr), (∀ y ∈ a, Zs y) → (∀ y ∈ b, Zs y) → (Z1 a b).2.2 = true → (∀ y ∈ (Z1 a b).1, Zs y) ∧ ∀ y ∈ (Z1 a b).2.1, Zs y
 | [], b, _, hb, _ => ⟨hb, fun y hy => by simp [Z1] at hy⟩
 | p :: a, b, ha, hb, h => by
  unfold Z1 at h ⊢
  by_cases h1 : (Z1 a b).2.2 = true
  ·rw [if_pos h1] at h ⊢
   obtain ⟨i1, i2⟩ := swap_small a b (fun y hy => ha y (List.mem_cons_of_mem _ hy)) hb h1
   by_cases h2 : (Zk p (Z1 a b).1).2.2 = true
   ·rw [if_pos h2]
    obtain ⟨j1, j2⟩ := past_small _ p (ha p (List.mem_cons_self ..)) i1 h2
    refine ⟨j1, fun y hy => ?_⟩
    rcases List.mem_cons.1 hy with rfl | hy
    ·exact j2
    ·exact i2 y hy
   ·rw [if_neg h2] at h
    cases h
  ·rw [if_neg h1] at h
   cases h
theorem swap_len : ∀ (a b : List Pr), (Z1 a b).1.length ≤ b.length
 | [], b => Nat.le_refl _
 | p :: a, b => by
  unfold Z1
  split
  ·split
   ·exact Nat.le_trans (past_le11 _ _) (swap_len a b)
   ·exact Nat.zero_le _
  ·exact Nat.zero_le _
structure SwapAt (w : World) (ba bb bh b n : Nat) (L B : List Pr) (U : List (Value × Value)) (pre : List (Nat × Value)) (W : World) : Prop where
 fr : Fr None' w W
 lt : ba < W.heap.size ∧ bb < W.heap.size ∧ bh < W.heap.size ∧ b < W.heap.size
 beh : W.heap[bb]? = some (.cells #[.slice (some ⟨bh, 0, none⟩) n n] 22 (0, 0))
 row : ∃ m k va A back V Vb, m + k = n ∧ pre = uptoB (aggs L U) m ∧ Z1 (L.drop k) B = (A, back, true) ∧ W.heap[ba]? = some (.cells #[va] 22 (0, 0)) ∧ Zh w.heap.size W va A V ∧ (∀ u ∈ V, ∀ j, (u.1.ownBlock = some j ∨ u.2.ownBlock = some j) → w.heap.size ≤ j) ∧ Zh w.heap.size W (.slice (some ⟨bh, 0, none⟩) n n) (List.replicate k Yr ++ back) Vb ∧ ∀ u ∈ Vb, ∀ j, (u.1.ownBlock = some j ∨ u.2.ownBlock = some j) → w.heap.size ≤ j ∧ ¬ (j = ba ∨ j = bh)
theorem SwapAt.abide {w : World} {ba bb bh b n base : Nat} {L B : List Pr} {U : List (Value × Value)} (hb : w.heap.size ≤ base) : AbideN base None' (SwapAt w ba bb bh b n L B U) := fun pre A' B' h f => by
 obtain ⟨m, k, va, A, back, V, Vb, h1, h2, h3, h4, h5, h6, h7, h8⟩ := h.row
 obtain ⟨l1, l2, l3, l4⟩ := h.lt
 have hs := f.size
 exact ⟨h.fr.trans f (fun i e => e.elim (fun e => e.elim) (fun e => Or.inr (by omega))), ⟨by omega, by omega, by omega, by omega⟩,
  f.at h.beh (fun e => e.elim (fun e => e) (fun e => e.2 _ _ _ h.beh)),
  m, k, va, A, back, V, Vb, h1, h2, h3, f.at h4 (fun e => e.elim (fun e => e) (fun e => e.2 _ _ _ h4)), h5.abide f, h6, h7.abide f, h8⟩
theorem behind_put {k : Nat} {y : Pr} {back : List Pr} : (List.replicate (k + 1) Yr ++ back).set k y = List.replicate k Yr ++ y :: back := by
 rw [List.replicate_succ', List.append_assoc, List.set_append_right _ _ (by simp)]
 simp
theorem swap_more11 {L B A back A' : List Pr} {y : Pr} {k : Nat} (hk : k < L.length) (h : Z1 (L.drop (k + 1)) B = (A, back, true)) (hp : Zk L[k] A = (A', y, true)) : Z1 (L.drop k) B = (A', y :: back, true) := by
 rw [List.drop_eq_getElem_cons hk]
 unfold Z1
 rw [h]
 simp only [if_true, hp]
theorem swap_fails {L B A back A' : List Pr} {y : Pr} {k : Nat} (hk : k < L.length) (h : Z1 (L.drop (k + 1)) B = (A, back, true)) (hp : Zk L[k] A = (A', y, false)) : Z1 L B = ([], [], false) := by
 have h1 : Z1 (L.drop k) B = ([], [], false) := by
  rw [List.drop_eq_getElem_cons hk]
  unfold Z1
  rw [h]
  simp only [if_true, hp, Bool.false_eq_true, if_false]
 rw [← List.take_append_drop k L, swap_append, h1]
 rfl
theorem swap_step {w W w5 : World} {ba bb bh b n : Nat} {L B : List Pr} {U : List (Value × Value)} {pre : List (Nat × Value)} (h : SwapAt w ba bb bh b n L B U pre W) (hw : w.heap.size ≤ ba ∧ w.heap.size ≤ bh) (d1 : ¬ ba = bb ∧ ¬ ba = bh ∧ ¬ ba = b) (d2 : ¬ bh = bb ∧ ¬ bh = b) (hn : L.length = n)
  {m k : Nat} {va : Value} {A back : List Pr} {Vb : List (Value × Value)} (hmk : m + (k + 1) = n) (hs : Z1 (L.drop (k + 1)) B = (A, back, true)) (hba : W.heap[ba]? = some (.cells #[va] 22 (0, 0))) (hOb : Zh w.heap.size W (.slice (some ⟨bh, 0, none⟩) n n) (List.replicate (k + 1) Yr ++ back) Vb) (hVb : ∀ u ∈ Vb, ∀ j, (u.1.ownBlock = some j ∨ u.2.ownBlock = some j) → w.heap.size ≤ j ∧ ¬ (j = ba ∨ j = bh))
  (hk : k < L.length) {A' : List Pr} {y : Pr} (hp : Zk L[k] A = (A', y, true)) (f5 : Fr None' W w5) {pv vo vn : Value} {V' : List (Value × Value)} (hO : Zh W.heap.size w5 pv A' V') (hV : ∀ u ∈ V', ∀ j, (u.1.ownBlock = some j ∨ u.2.ownBlock = some j) → W.heap.size ≤ j) (s1 : Zv w5 vo y.old) (s2 : Zv w5 vn y.new) (g1 : ∀ j, vo.ownBlock = some j → W.heap.size ≤ j) (g2 : ∀ j, vn.ownBlock = some j → W.heap.size ≤ j) :
  KeepsOthers W (setAt (w5.setCell ⟨ba, 0, none⟩ pv) bh (k * 7) (.int .i64 y.kind) (.string y.path) (.string y.dst) (.string y.src) (.int .i64 y.pos) (vo) (vn)) ∧ KeepB (fun j => j = b ∨ j < w.heap.size) W (setAt (w5.setCell ⟨ba, 0, none⟩ pv) bh (k * 7) (.int .i64 y.kind) (.string y.path) (.string y.dst) (.string y.src) (.int .i64 y.pos) (vo) (vn)) ∧ SwapAt w ba bb bh b n L B U (uptoB (aggs L U) (m + 1)) (setAt (w5.setCell ⟨ba, 0, none⟩ pv) bh (k * 7) (.int .i64 y.kind) (.string y.path) (.string y.dst) (.string y.src) (.int .i64 y.pos) (vo) (vn)) := by
 obtain ⟨l1, l2, l3, l4⟩ := h.lt
 have hws := h.fr.size
 obtain ⟨d11, d12, d13⟩ := d1
 obtain ⟨d21, d22⟩ := d2
 have f6 : Fr (fun j => j = ba) w5 (w5.setCell ⟨ba, 0, none⟩ pv) := Fr.setQ _ _ _ _
 have f67 : Fr (fun j => j = bh) (w5.setCell ⟨ba, 0, none⟩ pv) (setAt (w5.setCell ⟨ba, 0, none⟩ pv) bh (k * 7) (.int .i64 y.kind) (.string y.path) (.string y.dst) (.string y.src) (.int .i64 y.pos) (vo) (vn)) := Fr.setAt _ _ _ _ _ _ _ _ _ _
 have f57 : Fr (fun j => j = ba ∨ j = bh) w5 (setAt (w5.setCell ⟨ba, 0, none⟩ pv) bh (k * 7) (.int .i64 y.kind) (.string y.path) (.string y.dst) (.string y.src) (.int .i64 y.pos) (vo) (vn)) := (f6.mono (fun _ e => Or.inl e)).then (f67.mono (fun _ e => Or.inr e))
 have f7 : Fr (fun j => j = ba ∨ j = bh) W (setAt (w5.setCell ⟨ba, 0, none⟩ pv) bh (k * 7) (.int .i64 y.kind) (.string y.path) (.string y.dst) (.string y.src) (.int .i64 y.pos) (vo) (vn)) := (f5.mono (fun _ e => e.elim)).then f57
 have hs5 := f5.size
 have hs7 := f7.size
 have hbh : ∃ cs, W.heap[bh]? = some (.cells cs 43 (0, 0)) := by
  rcases hOb.row.2 with ⟨hv, _⟩ | ⟨g', cap', cur, he, hb', hh, _⟩
  ·cases hv
  ·cases he; exact ⟨_, hh⟩
 obtain ⟨csh, hbh⟩ := hbh
 have hOb6 : Zh w.heap.size (w5.setCell ⟨ba, 0, none⟩ pv) (.slice (some ⟨bh, 0, none⟩) n n) (List.replicate (k + 1) Yr ++ back) Vb := (hOb.kept f5).fr f6 (fun j e e' => by have h1 : bh = j := Option.some.inj e; omega) (fun u hu j e _ e' => (hVb u hu j e).2 (Or.inl e'))
 have hlt : k < (List.replicate (k + 1) Yr ++ back).length := by simp; omega
 have hO7 := hOb6.put (y := y) (a := vo) (b := vn) hlt (s1.far f6 (fun _ j e e' => by have := g1 j e; omega)) (s2.far f6 (fun _ j e e' => by have := g2 j e; omega)) (fun j e e' => by have := g1 j e; omega) (fun j e e' => by have := g2 j e; omega)
 rw [behind_put] at hO7
 have hpv : ∀ j, pv.ownBlock = some j → W.heap.size ≤ j := fun j e => (hO.ge e).1
 refine ⟨⟨f7.size, fun j o' hj ho => ?_⟩, KeepB.of f7 (fun j hj e => ?_), h.fr.trans f7 (fun i e => Or.inr (by omega)), ⟨by omega, by omega, by omega, by omega⟩, f7.at h.beh (by omega), m + 1, k, pv, A', y :: back, V', _, by omega, rfl, swap_more11 hk hs hp, ?_, ?_, fun u hu j e => ?_, hO7, fun u hu j e => ?_⟩
 ·refine (f7.block j (Array.getElem?_eq_some_iff.1 hj).1 (fun e => ?_)).trans hj
  rcases e with rfl | rfl
  ·rw [hba] at hj; cases hj; cases ho
  ·rw [hbh] at hj; cases hj; cases ho
 ·rcases hj with rfl | hj
  ·omega
  ·omega
 ·have e1 : w5.heap[ba]? = some (.cells #[va] 22 (0, 0)) := f5.at hba (fun e => e)
  have e2 := Go.heap_setCell_same w5 ba 0 _ _ pv e1
  exact f67.at (by simpa using e2) (fun e => by omega)
 ·refine (hO.fr f57 (fun j e e' => ?_) (fun u hu j e _ e' => ?_)).weaken (by omega)
  ·have := hpv j e; omega
  ·have := hV u hu j e; omega
 ·have := hV u hu j e; omega
 ·rcases List.mem_or_eq_of_mem_set hu with hu | rfl
  ·exact hVb u hu j e
  ·rcases e with e | e
   ·have := g1 j e; omega
   ·have := g2 j e; omega
end Go.Proofs.YtbnfjjjdnbcehaaGreatDoor
