/- What is proved here: contracts for RecordMakes. Conditions: as named. -/
import Derived.Test.YtbnfjjjdnbcehaaGreatDoorX37Settle11
import Derived.Lib.AppendZeros
import Derived.Test.YtbnfjjjdnbcehaaGreatDoorXBack9
import Derived.Test.YtbnfjjjdnbcehaaGreatDoorX2Base
import Derived.Test.YtbnfjjjdnbcehaaGreatDoorXAll9
import Derived.Test.YtbnfjjjdnbcehaaGreatDoorX17Plain10
import Derived.Laws.MakeOwn
set_option maxHeartbeats 16000000
namespace Go.Proofs.YtbnfjjjdnbcehaaGreatDoor
open Go.RowKit
set_option maxRecDepth 100000
def PrsIn (w : World) (v : Value) (L : List Pr) : Prop := ∃ va c, v = .slice va L.length c ∧ (va = none → c = 0) ∧ PrsAt w va L
theorem PrsIn.kept {w w' : World} {v : Value} {L : List Pr} (h : PrsIn w v L) (f : Fr None' w w') : PrsIn w' v L := by
 obtain ⟨va, c, e, h1, h2⟩ := h
 exact ⟨va, c, e, h1, h2.kept f⟩
def PastC (A : List Pr) (b : Pr) (t : Bool) (w cw : World) (e : Ending) (w1 : World) : Prop := ∃ (sz : Nat) (pv : Option Addr) (cv : Nat) (po : Option Addr) (co : Nat) (pn : Option Addr) (cn : Nat), e = .returned (.tuple #[.slice pv A.length cv, .agg #[.int .i64 b.kind, .string b.path, .string b.dst, .string b.src, .int .i64 b.pos, .slice po b.old.length co, .slice pn b.new.length cn], .bool t]) ∧
 Hid (∀ c y0 y1 y2 y3 y4 y5 y6, Box cw c y0 y1 y2 y3 y4 y5 y6 → c < sz) ∧ Hid (∀ (W : World) (b7 : Nat), (b7 < sz ∨ w1.heap.size ≤ b7) → w.heap.size ≤ b7 → Fr (fun k => k = b7) w1 W → ∃ V, Zk w.heap.size W (.slice pv A.length cv) A V ∧ Zy W (.slice po b.old.length co) b.old ∧ Zy W (.slice pn b.new.length cn) b.new ∧ Fr None' w W) ∧ Fr None' cw w1
theorem PastPost11.is {x : Pr} {L A : List Pr} {b : Pr} {t : Bool} {w cw w1 : World} {e : Ending} (hp : pastP x L = (A, b, t)) (f : Fr None' w cw) (h : PastPost11 x L cw e w1) : PastC A b t w cw e w1 := by
 obtain ⟨va, vb, V, he, hO, hnw, ⟨vo1, vn1, rfl, s1, s2, g1, g2⟩, f1⟩ := h
 rw [hp] at he hO s1 s2
 simp only at he hO s1 s2
 obtain ⟨po, co, rfl⟩ := s1.as2
 obtain ⟨pn, cn, rfl⟩ := s2.as2
 obtain ⟨pv, cv, rfl, _⟩ := hO.slice
 refine ⟨cw.heap.size, pv, cv, po, co, pn, cn, he, (fun c y0 y1 y2 y3 y4 y5 y6 h => h.lt), fun W b7 hb hwb fW => ⟨V, ?_, ?_, ?_, ?_⟩, f1⟩
 ·refine (hO.fr2 fW (fun k e e' => ?_) (fun i y u e1 e2 => ?_)).weaken f.size
  ·have := hO.ge e
   omega
  ·have hu := List.mem_of_getElem? e2
   obtain ⟨q1, q2, _, _⟩ := hO.str i y u e1 e2
   refine ⟨fun hl j e e' => ?_, fun hl j e e' => ?_⟩
   ·have h1 := hnw u hu j (Or.inl e); have h2 := q1.lt hl e; omega
   ·have h1 := hnw u hu j (Or.inr e); have h2 := q2.lt hl e; omega
 ·exact s1.far fW (fun hl j e e' => by have h1 := g1 j e; have h2 := s1.lt hl e; omega)
 ·exact s2.far fW (fun hl j e e' => by have h1 := g2 j e; have h2 := s2.lt hl e; omega)
 ·exact (f.then7 f1).trans fW (fun i e => Or.inr (by omega))
theorem heap_two (w : World) (a b : Obj) : ((w.alloc a).alloc b).heap[w.heap.size + 1]? = some b := by
 have := heap_alloc_new (w.alloc a) b
 simpa using this
end Go.Proofs.YtbnfjjjdnbcehaaGreatDoor
namespace Go.Proofs.YtbnfjjjdnbcehaaGreatDoor
open Go.RowKit Go.Shelf
set_option maxRecDepth 100000
@[reducible] def setAt (w : World) (g o : Nat) (y0 y1 y2 y3 y4 y5 y6 : Value) : World := ((((((w.setCell ⟨g, o, none⟩ y0).setCell ⟨g, o + 1, none⟩ y1).setCell ⟨g, o + 2, none⟩ y2).setCell ⟨g, o + 3, none⟩ y3).setCell ⟨g, o + 4, none⟩ y4).setCell ⟨g, o + 5, none⟩ y5).setCell ⟨g, o + 6, none⟩ y6
theorem Fr.setAt (w : World) (g o : Nat) (y0 y1 y2 y3 y4 y5 y6 : Value) : Fr (fun k => k = g) w (setAt w g o y0 y1 y2 y3 y4 y5 y6) :=
 ((((((Fr.setQ w g o y0).then (Fr.setQ _ g (o + 1) y1)).then (Fr.setQ _ g (o + 2) y2)).then (Fr.setQ _ g (o + 3) y3)).then (Fr.setQ _ g (o + 4) y4)).then (Fr.setQ _ g (o + 5) y5)).then (Fr.setQ _ g (o + 6) y6)
theorem pcells_put : ∀ (L : List Pr) (V : List (Value × Value)) (k : Nat) (y : Pr) (a b : Value), V.length = L.length → k < L.length → pcells (L.set k y) (V.set k (a, b)) = (((((((pcells L V).set (k * 7) (.int .i64 y.kind)).set (k * 7 + 1) (.string y.path)).set (k * 7 + 2) (.string y.dst)).set (k * 7 + 3) (.string y.src)).set (k * 7 + 4) (.int .i64 y.pos)).set (k * 7 + 5) a).set (k * 7 + 6) b
 | [], _, k, _, _, _, _, hk => by simp at hk
 | x :: L, [], _, _, _, _, e, _ => by cases e
 | x :: L, u :: V, 0, y, a, b, _, _ => by simp [pcells, prCells]
 | x :: L, u :: V, k + 1, y, a, b, e, hk => by
  have ih := pcells_put L V k y a b (by simpa using e) (by simpa using hk)
  simp only [List.set_cons_succ, pcells, ih]
  rw [show (k + 1) * 7 = k * 7 + 7 from by omega, show k * 7 + 7 + 1 = (k * 7 + 1) + 7 from by omega, show k * 7 + 7 + 2 = (k * 7 + 2) + 7 from by omega, show k * 7 + 7 + 3 = (k * 7 + 3) + 7 from by omega, show k * 7 + 7 + 4 = (k * 7 + 4) + 7 from by omega, show k * 7 + 7 + 5 = (k * 7 + 5) + 7 from by omega, show k * 7 + 7 + 6 = (k * 7 + 6) + 7 from by omega]
  simp [prCells]
theorem Zk.put {base : Nat} {w : World} {g n cap : Nat} {L : List Pr} {V : List (Value × Value)} (h : Zk base w (.slice (some ⟨g, 0, none⟩) n cap) L V) {k : Nat} (hk : k < L.length) {y : Pr} {a b : Value} (ha : Zy w a y.old) (hb : Zy w b y.new) (fa : ∀ j, a.ownBlock = some j → ¬ j = g) (fb : ∀ j, b.ownBlock = some j → ¬ j = g) :
  Zk base (setAt w g (k * 7) (.int .i64 y.kind) (.string y.path) (.string y.dst) (.string y.src) (.int .i64 y.pos) (a) (b)) (.slice (some ⟨g, 0, none⟩) n cap) (L.set k y) (V.set k (a, b)) := by
 have f : Fr (fun j => j = g) w (setAt w g (k * 7) (.int .i64 y.kind) (.string y.path) (.string y.dst) (.string y.src) (.int .i64 y.pos) (a) (b)) := Fr.setAt _ _ _ _ _ _ _ _ _ _
 refine ⟨by simp [h.len], ⟨by rw [pcells_put L V k y a b h.len hk]; simpa using h.row.1, ?_⟩, fun j x u e1 e2 => ?_⟩
 ·rcases h.row.2 with ⟨hv, _⟩ | ⟨g', cap', cur, he, hb', hh, h1, h2, h3, h4⟩
  ·cases hv
  ·cases he
   have e0 := Go.heap_setCell_same w g (k * 7) _ _ (.int .i64 y.kind) hh
   have e1 := Go.heap_setCell_same _ g (k * 7 + 1) _ _ (.string y.path) e0
   have e2 := Go.heap_setCell_same _ g (k * 7 + 2) _ _ (.string y.dst) e1
   have e3 := Go.heap_setCell_same _ g (k * 7 + 3) _ _ (.string y.src) e2
   have e4 := Go.heap_setCell_same _ g (k * 7 + 4) _ _ (.int .i64 y.pos) e3
   have e5 := Go.heap_setCell_same _ g (k * 7 + 5) _ _ a e4
   have e6 := Go.heap_setCell_same _ g (k * 7 + 6) _ _ b e5
   refine Or.inr ⟨g, cap, _, by simp, hb', e6, by simpa using h1, h2, by simp [h3], ?_⟩
   rw [pcells_put L V k y a b h.len hk, ← h4]
   simp [List.take_set]
 ·have key : Zy w u.1 x.old ∧ Zy w u.2 x.new ∧ Far (.slice (some ⟨g, 0, none⟩) n cap) u.1 x.old ∧ Far (.slice (some ⟨g, 0, none⟩) n cap) u.2 x.new := by
   by_cases hj : k = j
   ·subst hj
    rw [List.getElem?_set_self (by rw [h.len]; exact hk)] at e2
    rw [List.getElem?_set_self hk] at e1
    cases e1
    cases e2
    exact ⟨ha, hb, fun _ i e e' => fa i e (Option.some.inj e').symm, fun _ i e e' => fb i e (Option.some.inj e').symm⟩
   ·rw [List.getElem?_set_ne hj] at e2
    rw [List.getElem?_set_ne hj] at e1
    exact h.str j x u e1 e2
  obtain ⟨s1, s2, f1, f2⟩ := key
  exact ⟨s1.far f (fun hl i e e' => f1 hl i e (by rw [e']; rfl)), s2.far f (fun hl i e e' => f2 hl i e (by rw [e']; rfl)), f1, f2⟩
structure SwapAt (w : World) (ba bb bh b n : Nat) (L B : List Pr) (U : List (Value × Value)) (pre : List (Nat × Value)) (W : World) : Prop where
 fr : Fr None' w W
 lt : ba < W.heap.size ∧ bb < W.heap.size ∧ bh < W.heap.size ∧ b < W.heap.size
 beh : W.heap[bb]? = some (.cells #[.slice (some ⟨bh, 0, none⟩) n n] 22 (0, 0))
 row : ∃ m k va A back V Vb, m + k = n ∧ pre = Zj (aggs L U) m ∧ swapP (L.drop k) B = (A, back, true) ∧ W.heap[ba]? = some (.cells #[va] 22 (0, 0)) ∧ Zk w.heap.size W va A V ∧ (∀ u ∈ V, ∀ j, (u.1.ownBlock = some j ∨ u.2.ownBlock = some j) → w.heap.size ≤ j) ∧ Zk w.heap.size W (.slice (some ⟨bh, 0, none⟩) n n) (List.replicate k zeroP ++ back) Vb ∧ ∀ u ∈ Vb, ∀ j, (u.1.ownBlock = some j ∨ u.2.ownBlock = some j) → w.heap.size ≤ j ∧ ¬ (j = ba ∨ j = bh)
theorem SwapAt.abide {w : World} {ba bb bh b n base : Nat} {L B : List Pr} {U : List (Value × Value)} (hb : w.heap.size ≤ base) : AbideN base None' (SwapAt w ba bb bh b n L B U) := fun pre A' B' h f => by
 obtain ⟨m, k, va, A, back, V, Vb, h1, h2, h3, h4, h5, h6, h7, h8⟩ := h.row
 obtain ⟨l1, l2, l3, l4⟩ := h.lt
 have hs := f.size
 exact ⟨h.fr.trans f (fun i e => e.elim (fun e => e.elim) (fun e => Or.inr (by omega))), ⟨by omega, by omega, by omega, by omega⟩,
  f.at h.beh (fun e => e.elim (fun e => e) (fun e => e.2 _ _ _ h.beh)),
  m, k, va, A, back, V, Vb, h1, h2, h3, f.at h4 (fun e => e.elim (fun e => e) (fun e => e.2 _ _ _ h4)), h5.abide f, h6, h7.abide f, h8⟩
attribute [local go_sem] Oper.semAt_some
theorem Zk.boxed {base : Nat} {w : World} {v : Value} {L : List Pr} {V : List (Value × Value)} (h : Zk base w v L V) {g : Nat} {x : Value} (hg : w.heap[g]? = some (.cells #[x] 22 (0, 0))) (hx : ∃ p n c, x = .slice p n c) (y : Value) : Zk base (w.setCell ⟨g, 0, none⟩ y) v L V := by
 have key : ∀ (u : Value) (l : List ByteArray), Zy w u l → l ≠ [] → ∀ j, u.ownBlock = some j → ¬ j = g := fun u l hs hl j e ej => by
  obtain ⟨pa, ca, rfl, _, _, hr⟩ := hs
  cases hll : l with
  | nil => exact hl hll
  | cons z l =>
   obtain ⟨g', o, e', hc⟩ := hr 0 z (by rw [hll]; rfl)
   subst e'
   cases e
   subst ej
   obtain ⟨p, n, c, rfl⟩ := hx
   rw [World.cell?, hg] at hc
   simp only [Nat.add_zero] at hc
   cases o with
   | zero => simp at hc
   | succ o => simp at hc
 refine h.fr2 (Fr.setQ w g 0 y) (fun k e ek => ?_) (fun k z u e1 e2 => ?_)
 ·rcases h.row.2 with ⟨hv, _⟩ | ⟨g', cap, cur, hv, _, hh, _⟩
  ·rw [hv] at e; cases e
  ·rw [hv] at e
   cases e
   subst ek
   rw [hg] at hh
   simp at hh
 ·obtain ⟨s1, s2, _, _⟩ := h.str k z u e1 e2
  exact ⟨fun hl j e => key _ _ s1 hl j e, fun hl j e => key _ _ s2 hl j e⟩
structure R1 (w1 : World) (va vb : Option Addr) (n c m d : Nat) (B : List Pr) (t7 t8 t14 t15 t16 t17 t18 : Value) (V : List (Value × Value)) (g4 g5 g6 : Nat) (S : Nat → Bool) (w' : World) : Prop where
 fr : Fr None' w1 w'
 o0 : S 0 = true → t14 = .slice vb m d
 o2 : S 2 = true → t16 = .slice va n c
 o3 : S 3 = true → t17 = .int .i64 n
 o1 : S 1 = true → Zk w1.heap.size w' t15 B V ∧ ∀ u ∈ V, ∀ j, (u.1.ownBlock = some j ∨ u.2.ownBlock = some j) → w1.heap.size ≤ j
 o4 : S 4 = true → t18 = .slice (some ⟨g4, 0, none⟩) n n ∧ Zk w1.heap.size w' t18 (List.replicate n zeroP) (List.replicate n (.slice none 0 0, .slice none 0 0))
 o5 : S 5 = true → t7 = .pointer (some ⟨g5, 0, none⟩) ∧ w1.heap.size ≤ g5 ∧ w'.heap[g5]? = some (.cells #[if S 7 then t15 else .slice none 0 0] 22 (0, 0))
 o6 : S 6 = true → t8 = .pointer (some ⟨g6, 0, none⟩) ∧ w1.heap.size ≤ g6 ∧ w'.heap[g6]? = some (.cells #[if S 8 then t18 else .slice none 0 0] 22 (0, 0))
 o56 : S 5 = true → S 6 = true → ¬ g5 = g6
 o7 : S 7 = true → S 1 = true ∧ S 5 = true
 o8 : S 8 = true → S 4 = true ∧ S 6 = true
theorem Zk.sl {base : Nat} {w : World} {v : Value} {L : List Pr} {V : List (Value × Value)} (h : Zk base w v L V) : ∃ p n c, v = .slice p n c := by
 obtain ⟨p, c, hv, _⟩ := h.slice
 exact ⟨p, _, c, hv⟩
def SwapNo (w : World) (L B : List Pr) (c : Code) (_pre : List (Nat × Value)) (W : World) : Prop := c = .ret ∧ swapP L B = ([], [], false) ∧ Fr None' w W ∧ W.heap[w.heap.size]? = some (.cells #[.slice none 0 0] 22 (0, 0)) ∧ W.heap[w.heap.size + 1]? = some (.cells #[.slice none 0 0] 22 (0, 0)) ∧ W.heap[w.heap.size + 1 + 1]? = some (.cells #[.bool false] 4 (0, 0))
theorem SwapNo.abide {w : World} {L B : List Pr} {base : Nat} (hb : w.heap.size ≤ base) (c : Code) : AbideN base None' (SwapNo w L B c) := fun _ A' B' h f => by
 obtain ⟨h1, h2, h3, h4, h5, h6⟩ := h
 exact ⟨h1, h2, h3.trans f (fun i e => e.elim (fun e => e.elim) (fun e => Or.inr (by omega))), f.at h4 (fun e => e.elim (fun e => e) (fun e => e.2 _ _ _ h4)), f.at h5 (fun e => e.elim (fun e => e) (fun e => e.2 _ _ _ h5)), f.at h6 (fun e => e.elim (fun e => e) (fun e => e.2 _ _ _ h6))⟩
def Inv9 (T : Value → Value → Array Value) (ds : List Deferred) (b : Nat) (W : World) (v37 v38 : Value) (S : Nat → Bool) (a : Act) (w' : World) : Prop := ∃ t37 t38, a = { tmps := T t37 t38, defers := ds } ∧ Fr (fun k => k = b ∨ k = b + 1 ∨ k = b + 1 + 1) W w' ∧ w'.heap[b]? = some (.cells #[if S 2 = true then t37 else .slice none 0 0] 22 (0, 0)) ∧ w'.heap[b + 1]? = some (.cells #[if S 3 = true then t38 else .slice none 0 0] 22 (0, 0)) ∧ w'.heap[b + 1 + 1]? = some (.cells #[.bool (S 4)] 4 (0, 0)) ∧ (S 0 = true → t37 = v37) ∧ (S 1 = true → t38 = v38) ∧ (S 2 = true → S 0 = true) ∧ (S 3 = true → S 1 = true)
end Go.Proofs.YtbnfjjjdnbcehaaGreatDoor
namespace Go.Proofs.YtbnfjjjdnbcehaaGreatDoor
open Go.RowKit
set_option maxRecDepth 100000
def hB2 : Pr := ⟨2, ⟨#[98]⟩, ⟨#[]⟩, ⟨#[]⟩, 0, [], []⟩
end Go.Proofs.YtbnfjjjdnbcehaaGreatDoor
