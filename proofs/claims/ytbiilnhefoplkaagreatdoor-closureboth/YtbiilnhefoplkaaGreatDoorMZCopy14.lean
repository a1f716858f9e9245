/-
  What is proved here: the copy that closure.copied makes of a patch: all its lists are new. Conditions: it lies in memory, and is of bounded size.
-/
import Derived.Test.YtbiilnhefoplkaaGreatDoorMZSet14
import Derived.Test.YtbiilnhefoplkaaGreatDoorM7ZClone11
import Derived.Test.YtbiilnhefoplkaaGreatDoorM1Base
namespace Go.Proofs.YtbiilnhefoplkaaGreatDoor
open Go.RowKit
set_option maxRecDepth 100000

structure RC1 (wb : World) (b1 nd nb : Nat) (D : List ByteArray) (L : List Pr) (U : List (Value × Value)) (vd vb : Value) (t5 t6 t7 t8 t9 t10 t11 t12 : Value) (S : Nat → Bool) (w' wm : World) : Prop where
  fm : Fr None' wb wm
  e0 : S 7 = false → w' = wm
  e1 : S 7 = true → S 9 = false → w' = wm.setCell ⟨b1, 1, none⟩ t7
  e2 : S 9 = true → w' = (wm.setCell ⟨b1, 1, none⟩ t7).setCell ⟨b1, 2, none⟩ t10
  o0 : S 0 = true → t5 = .pointer (some ⟨b1, 1, none⟩)
  o1 : S 1 = true → t6 = vd
  c2 : S 2 = true → ∃ pa ca, t7 = .slice pa nd ca ∧ StrsAt wm t7 D ∧ ∀ j, t7.ownBlock = some j → wb.heap.size ≤ j
  o3 : S 3 = true → t8 = .pointer (some ⟨b1, 2, none⟩)
  o4 : S 4 = true → t9 = vb
  c5 : S 5 = true → ∃ pb cb, t10 = .slice pb nb cb ∧ OwnP wb.heap.size wm t10 L U ∧ (D ≠ [] → ∀ j, t7.ownBlock = some j → ¬ t10.ownBlock = some j)
  o6 : S 6 = true → t11 = .pointer (some ⟨b1, 1, none⟩)
  o8 : S 8 = true → t12 = .pointer (some ⟨b1, 2, none⟩)
  d2 : S 2 = true → S 1 = true
  d5 : S 5 = true → S 4 = true ∧ S 2 = true
  d7 : S 7 = true → S 5 = true ∧ S 2 = true
  d9 : S 9 = true → S 7 = true

def RC1I (wb : World) (b1 nd nb : Nat) (D : List ByteArray) (L : List Pr) (U : List (Value × Value)) (vd vb : Value) (T : Value → Value → Value → Value → Value → Value → Value → Value → Array Value) (S : Nat → Bool) (a : Act) (w' : World) : Prop := ∃ t5 t6 t7 t8 t9 t10 t11 t12 wm, a = { tmps := T t5 t6 t7 t8 t9 t10 t11 t12, defers := [] } ∧ RC1 wb b1 nd nb D L U vd vb t5 t6 t7 t8 t9 t10 t11 t12 S w' wm

structure RC5 (wr : World) (g k no nn b1 bx : Nat) (lo ln : List ByteArray) (vb vo vn : Value) (t21 t22 t23 t24 t25 t26 t27 t28 t29 t30 t31 t32 t33 t34 t35 t36 : Value) (S : Nat → Bool) (w' wm : World) : Prop where
  fm : Fr None' wr wm
  fg : Fr (fun i => i = g) wr w'
  e0 : S 14 = false → w' = wm
  e1 : S 14 = true → S 17 = false → w' = wm.setCell ⟨g, k * 7 + 5, none⟩ t29
  e2 : S 17 = true → w' = (wm.setCell ⟨g, k * 7 + 5, none⟩ t29).setCell ⟨g, k * 7 + 6, none⟩ t32
  o0 : S 0 = true → t21 = .pointer (some ⟨b1, 2, none⟩)
  o1 : S 1 = true → t22 = vb
  o2 : S 2 = true → t23 = .int .i64 k
  o3 : S 3 = true → t24 = .pointer (some ⟨b1, 2, none⟩)
  o4 : S 4 = true → t25 = vb
  o5 : S 5 = true → t26 = .int .i64 k
  o6 : S 6 = true → t27 = .pointer (some ⟨bx, 5, none⟩)
  o7 : S 7 = true → t28 = vo
  o9 : S 9 = true → t30 = .pointer (some ⟨bx, 6, none⟩)
  o10 : S 10 = true → t31 = vn
  o12 : S 12 = true → t33 = .pointer (some ⟨g, k * 7, none⟩)
  o13 : S 13 = true → t34 = .pointer (some ⟨g, k * 7 + 5, none⟩)
  o15 : S 15 = true → t35 = .pointer (some ⟨g, k * 7, none⟩)
  o16 : S 16 = true → t36 = .pointer (some ⟨g, k * 7 + 6, none⟩)
  c8 : S 8 = true → ∃ pa ca, t29 = .slice pa no ca ∧ StrsAt wm t29 lo ∧ ∀ j, t29.ownBlock = some j → wr.heap.size ≤ j
  c11 : S 11 = true → ∃ pa ca, t32 = .slice pa nn ca ∧ StrsAt wm t32 ln ∧ ∀ j, t32.ownBlock = some j → wr.heap.size ≤ j
  d11 : S 11 = true → S 8 = true
  d14 : S 14 = true → S 11 = true ∧ S 8 = true
  d17 : S 17 = true → S 14 = true

def RC5I (wr : World) (g k no nn b1 bx : Nat) (lo ln : List ByteArray) (vb vo vn : Value) (T : Value → Value → Value → Value → Value → Value → Value → Value → Value → Value → Value → Value → Value → Value → Value → Value → Array Value) (S : Nat → Bool) (a : Act) (w' : World) : Prop := ∃ t21 t22 t23 t24 t25 t26 t27 t28 t29 t30 t31 t32 t33 t34 t35 t36 wm, a = { tmps := T t21 t22 t23 t24 t25 t26 t27 t28 t29 t30 t31 t32 t33 t34 t35 t36, defers := [] } ∧ RC5 wr g k no nn b1 bx lo ln vb vo vn t21 t22 t23 t24 t25 t26 t27 t28 t29 t30 t31 t32 t33 t34 t35 t36 S w' wm

theorem OwnP.fr14 {M : Nat → Prop} {base : Nat} {w w' : World} {v : Value} {L : List Pr} {V : List (Value × Value)} (h : OwnP base w v L V) (f : Fr M w w') (hv : ∀ k, v.ownBlock = some k → ¬ M k) (hs : ∀ (k : Nat) (x : Pr) (u : Value × Value), L[k]? = some x → V[k]? = some u → (x.old ≠ [] → ∀ j, u.1.ownBlock = some j → ¬ M j) ∧ (x.new ≠ [] → ∀ j, u.2.ownBlock = some j → ¬ M j)) : OwnP base w' v L V := by
  refine ⟨h.len, ⟨h.row.1, ?_⟩, fun k x u e1 e2 => ?_⟩
  · rcases h.row.2 with h | ⟨g, cap, cur, he, hb, hh, h⟩
    · exact Or.inl h
    · exact Or.inr ⟨g, cap, cur, he, hb, f.at hh (hv g (by rw [he]; rfl)), h⟩
  · obtain ⟨h1, h2, h3, h4⟩ := h.str k x u e1 e2
    obtain ⟨g1, g2⟩ := hs k x u e1 e2
    exact ⟨h1.far f g1, h2.far f g2, h3, h4⟩

theorem prs_named14 {W : World} {va : Option Addr} {L : List Pr} (h : PrsAt W va L) : ∃ U : List (Value × Value), U.length = L.length ∧ (∀ ad, va = some ad → ∀ j u, (pcells L U)[j]? = some u → W.cell? (ad.add j) = some u) ∧ (∀ (k : Nat) (x : Pr) (u : Value × Value), L[k]? = some x → U[k]? = some u → StrsAt W u.1 x.old ∧ StrsAt W u.2 x.new) := by
  cases L with
  | nil => exact ⟨[], rfl, (fun _ _ j u h => by simp [pcells] at h), fun k x u e => by simp at e⟩
  | cons x L =>
    obtain ⟨g, o, rfl, _⟩ := h 0 x rfl
    obtain ⟨U, h1, h2, h3⟩ := prs_cells (x :: L) o h
    exact ⟨U, h1, (fun ad e j v hj => by
      cases e
      rw [show (⟨g, o, none⟩ : Addr).add j = ⟨g, o + j, none⟩ from Addr.add_lit ..]
      exact h2 j v hj), h3⟩

theorem OwnP.first14 {base : Nat} {W w : World} {v : Value} (h : OwnP base w v [] []) {va : Option Addr} {n c : Nat} {L : List Pr} {U : List (Value × Value)} (hn : L.length = n) (hc : va = none → c = 0) (hva : va = none → L = []) (h1 : U.length = L.length) (h2 : ∀ ad, va = some ad → ∀ j u, (pcells L U)[j]? = some u → w.cell? (ad.add j) = some u) (hW : ∀ (k : Nat) (x : Pr) (u : Value × Value), L[k]? = some x → U[k]? = some u → StrsAt W u.1 x.old ∧ StrsAt W u.2 x.new) (hS : ∀ (k : Nat) (x : Pr) (u : Value × Value), L[k]? = some x → U[k]? = some u → StrsAt w u.1 x.old ∧ StrsAt w u.2 x.new) (hWb : W.heap.size ≤ base) (hb : base ≤ w.heap.size) (hlen : n ≤ 100000) :
    ∃ v' w', (Builtin.append_ #[34, 34] 34 #[v, .slice va n c]).run Tryz.prog w = .ok v' w' ∧ OwnP base w' v' L U ∧ Fr (fun k => v.ownBlock = some k) w w' ∧ (v'.ownBlock = v.ownBlock ∨ v'.ownBlock = some w.heap.size) := by
  cases va with
  | none =>
    obtain rfl := hc rfl
    obtain rfl := hva rfl
    obtain rfl : U = [] := List.length_eq_zero_iff.1 h1
    have hn0 : n = 0 := hn.symm
    subst hn0
    obtain ⟨i0, hi, _⟩ := info_parts infoP
    exact ⟨v, w, run_append_owned_none (P := Tryz.prog) (w := w) base 34 34 67 i0 7 Tryz.underlying34 hi v 0 (pcells [] []) h.row, h, Fr.refl _ _, .inl rfl⟩
  | some ad =>
    obtain ⟨v', w', r1, r2, r3, r4⟩ := h.append (c := c) hn h1 (h2 ad rfl) (fun k x u e1 e2 => by
      obtain ⟨s1, s2⟩ := hW k x u e1 e2
      obtain ⟨t1, t2⟩ := hS k x u e1 e2
      exact ⟨t1, t2, fun hl k e e' => by have := s1.lt hl e; have := (h.ge e').1; omega, fun hl k e e' => by have := s2.lt hl e; have := (h.ge e').1; omega⟩) (by simp; omega) hb
    exact ⟨v', w', r1, r2, r3, r4⟩

set_option maxHeartbeats 2000000 in
theorem cloneP14_any (va : Option Addr) (n c : Nat) (L : List Pr) (U : List (Value × Value)) (w : World) (hl : L.length = n) (hc : va = none → c = 0) (hva : va = none → L = []) (h1 : U.length = L.length) (h2 : ∀ ad, va = some ad → ∀ j u, (pcells L U)[j]? = some u → w.cell? (ad.add j) = some u) (hS : ∀ (k : Nat) (x : Pr) (u : Value × Value), L[k]? = some x → U[k]? = some u → StrsAt w u.1 x.old ∧ StrsAt w u.2 x.new) (hn : n ≤ 90000) :
    Calls Tryz.prog 42 #[.slice va n c] w fun e w' => ∃ v', e = .returned v' ∧ OwnP w.heap.size w' v' L U ∧ Fr None' w w' := by
  cases va with
  | none =>
    obtain rfl := hva rfl
    obtain rfl := hc rfl
    obtain rfl : n = 0 := hl.symm
    obtain rfl : U = [] := List.length_eq_zero_iff.1 h1
    have q : ∀ w, (binOp .eql 34 (.slice none 0 0) (.slice none 0 0)).run Tryz.prog w = .ok (.bool true) w := fun w => Lib.run_eql_slice_nil w _ _ _ 0 0 0 0 Tryz.underlying34
    clear hc hl hva h1 h2 hS
    go_enter Tryz.func42, Tryz.ntmps42
    go_wp2_with fail
    go_ret
    exact ⟨_, rfl, OwnP.nil _ _, Fr.refl _ _⟩
  | some a =>
    have q : ∀ w, (binOp .eql 34 (.slice (some a) n c) (.slice none 0 0)).run Tryz.prog w = .ok (.bool false) w := fun w => Lib.run_eql_slice_nil w _ _ _ n c 0 0 Tryz.underlying34
    obtain ⟨w1, hw1⟩ : ∃ w1, w.alloc (.cells #[] 67) = w1 := ⟨_, rfl⟩
    have F1 : Fr None' w w1 := hw1 ▸ Fr.alloc None' w _
    have O1 : OwnP w.heap.size w1 (.slice (some ⟨w.heap.size, 0, none⟩) 0 0) [] [] := hw1 ▸ OwnP.empty (Nat.le_refl _)
    obtain ⟨v2, w2, r2, O2, f2, -⟩ := O1.first14 (W := w) (c := c) hl hc hva h1 (fun ad e j u hj => F1.keepCell (h2 ad e j u hj) (fun e => e)) hS (fun k x u e1 e2 => ⟨(hS k x u e1 e2).1.kept F1, (hS k x u e1 e2).2.kept F1⟩) (Nat.le_refl _) F1.size (by omega)
    have F2 : Fr None' w w2 := F1.trans f2 (fun i e => Or.inr (O1.ge e).1)
    have HR := toHid8 r2
    have HO := toHid8 (show OwnP w.heap.size w2 v2 L U ∧ Fr None' w w2 from ⟨O2, F2⟩)
    clear hc hl hn F1 O1 r2 O2 f2 F2 hva h1 h2 hS
    go_enter Tryz.func42, Tryz.ntmps42
    go_wp2_with (at_builtin
                 refine app_list9 rfl _ _ rfl rfl rfl HR.out ?_)
    go_ret
    exact ⟨_, rfl, HO.out.1, HO.out.2⟩

@[reducible] def setP14 (w : World) (b : Nat) (y0 y1 y2 : Value) : World := ((w.setCell ⟨b, 0, none⟩ y0).setCell ⟨b, 1, none⟩ y1).setCell ⟨b, 2, none⟩ y2

theorem Box3.all14 {w : World} {b : Nat} {x0 x1 x2 : Value} (h : Box3 w b x0 x1 x2) (y0 y1 y2 : Value) : Box3 (setP14 w b y0 y1 y2) b y0 y1 y2 := ((h.set0 y0).set1 y1).set2 y2

theorem setP14_fr (w : World) (b : Nat) (y0 y1 y2 : Value) : Fr (fun k => k = b) w (setP14 w b y0 y1 y2) := by
  have f : ∀ (w : World) (i : Nat) (v : Value), Fr (fun k => k = b) w (w.setCell ⟨b, i, none⟩ v) := fun w i v => Fr.setCell (M := fun k => k = b) w (a := ⟨b, i, none⟩) rfl v
  exact ((f w 0 y0).then (f _ 1 y1)).then (f _ 2 y2)

theorem ret_b14 {fn : Func} {p : Tmp} (hres : fn.results = #[.cell p 36]) {Q : Ending → World → Prop} {a : Act} {w : World} {b : Nat} {y0 y1 y2 : Value} (hd : a.defers = []) (hp : a.tmps.getD p undef = .pointer (some ⟨b, 0, none⟩)) (h : Box3 w b y0 y1 y2) (hq : Q (.returned (.agg #[y0, y1, y2])) w) : bodyPost Tryz.prog fn Q .ret a w :=
  bodyPost_ret (results_cell_row hres _ _ b 36 _ (0, 0) _ hp h Tryz.underlying36 rfl (by kernel_rfl)) hd hq

theorem cell_other14 {w : World} {b i j : Nat} {v : Value} (hn : i ≠ j) : (w.setCell ⟨b, i, none⟩ v).cell? ⟨b, j, none⟩ = w.cell? ⟨b, j, none⟩ := by
  apply World.cell?_setCell_other
  intro e
  cases e
  exact hn rfl

theorem OwnP.mono14 {B C : Nat} {w : World} {v : Value} {L : List Pr} {V : List (Value × Value)} (h : OwnP C w v L V) (hB : B ≤ C) : OwnP B w v L V := by
  refine ⟨h.len, ⟨h.row.1, ?_⟩, h.str⟩
  rcases h.row.2 with h | ⟨g, cap, cur, hv, hb, h⟩
  · exact Or.inl h
  · exact Or.inr ⟨g, cap, cur, hv, Nat.le_trans hB hb, h⟩

/-- The copy is new: it stays while blocks turn that were there before. -/
def NewV (B : Nat) (w : World) (c : Pv) : Prop := PvIn w c ∧ ∀ (M : Nat → Prop) (w' : World), Fr M w w' → (∀ k, M k → k < B) → PvIn w' c

set_option maxHeartbeats 32000000 in
theorem copied14_any (x : Pa) (pd : Option Addr) (cd : Nat) (pb : Option Addr) (cb : Nat) (w : World) (h : PvIn w ⟨x, pd, cd, pb, cb⟩) (ld : x.deps.length ≤ 900000) (lb : x.body.length ≤ 90000) (ll : ∀ y ∈ x.body, y.old.length ≤ 900000 ∧ y.new.length ≤ 900000) :
    Calls Tryz.prog 27 #[.agg #[.string x.name, .slice pd x.deps.length cd, .slice pb x.body.length cb]] w fun e w' => ∃ c : Pv, e = .returned (mkV c) ∧ c.x = x ∧ NewV w.heap.size w' c ∧ Fr None' w w' := by
  obtain ⟨N, hN⟩ : ∃ N, x.name = N := ⟨_, rfl⟩
  obtain ⟨nd, hnd⟩ : ∃ n, x.deps.length = n := ⟨_, rfl⟩
  obtain ⟨nb, hnb⟩ : ∃ n, x.body.length = n := ⟨_, rfl⟩
  have HN := toHid8 hN
  have HNd := toHid8 hnd
  have HNb := toHid8 hnb
  have HIn := toHid8 h
  have HLl := toHid8 ll
  have i0 : (nb : Int) ≤ 90000 := by omega
  rw [hN, hnd, hnb]
  obtain ⟨w1, hw1⟩ : ∃ y, w.alloc (.cells #[.string N, .slice pd nd cd, .slice pb nb cb] 36) = y := ⟨_, rfl⟩
  obtain ⟨wb, hwb⟩ : ∃ y, w1.alloc (.cells #[.string ⟨#[]⟩, .slice none 0 0, .slice none 0 0] 36) = y := ⟨_, rfl⟩
  have F1 : Fr None' w w1 := hw1 ▸ Fr.alloc None' w _
  have Fb : Fr None' w1 wb := hwb ▸ Fr.alloc None' w1 _
  obtain ⟨b1, hb1⟩ : ∃ b, w.heap.size = b := ⟨_, rfl⟩
  obtain ⟨b2, hb2⟩ : ∃ b, w1.heap.size = b := ⟨_, rfl⟩
  have HBx := toHid8 (show Box3 wb b1 (.string N) (.slice pd nd cd) (.slice pb nb cb) from Box3.kept (by rw [← hb1, ← hw1]; exact Box3.new w _ _ _) Fb)
  have HB2 := toHid8 (show Box3 wb b2 (.string ⟨#[]⟩) (.slice none 0 0) (.slice none 0 0) from by rw [← hb2, ← hwb]; exact Box3.new w1 _ _ _)
  have HFb := toHid8 (F1.then7 Fb)
  have e12 : b2 = b1 + 1 := by rw [← hb1, ← hb2, ← hw1]; simp
  have ewb : wb.heap.size = b2 + 1 := by rw [← hb2, ← hwb]; simp
  have HLo := toHid8 (show b2 = b1 + 1 ∧ wb.heap.size = b2 + 1 ∧ w.heap.size = b1 from ⟨e12, ewb, hb1⟩)
  have HC1 := toHid8 (fun w' (f : Fr None' wb w') => (clone_any (.slice pd nd cd) x.deps w' (by have := h.deps.kept (HFb.out.then7 f); rwa [hnd] at this) (by omega)).mono (fun e w'' (hh : ∃ v', e = .returned v' ∧ StrsAt w'' v' x.deps ∧ Fr None' w' w'' ∧ ∀ j, v'.ownBlock = some j → w'.heap.size ≤ j) => (show ∃ pa ca, e = .returned (.slice pa nd ca) ∧ StrsAt w'' (.slice pa nd ca) x.deps ∧ (∀ j, (Value.slice pa nd ca).ownBlock = some j → wb.heap.size ≤ j) ∧ Fr None' w' w'' from by
    obtain ⟨v, rfl, h1, h2, h3⟩ := hh
    obtain ⟨p, c, rfl⟩ := h1.as2
    rw [HNd.out] at h1 h3 ⊢
    exact ⟨p, c, rfl, h1, fun j e => Nat.le_trans f.size (h3 j e), h2⟩)))
  obtain ⟨U, hU1, hU2, hU3⟩ := prs_named14 h.body
  have HUr := toHid8 hU3
  have HC2 := toHid8 (fun w' (f : Fr None' wb w') => (cloneP14_any pb nb cb x.body U w' hnb h.nil (fun e => by
    cases hb : x.body with
    | nil => rfl
    | cons y l =>
      obtain ⟨_, _, e', _⟩ := h.body 0 y (by rw [hb]; rfl)
      rw [e] at e'; cases e') hU1 (fun ad e j u hj => (HFb.out.then7 f).keepCell (hU2 ad e j u hj) (fun e => e)) (fun k y u e1 e2 => ⟨(hU3 k y u e1 e2).1.kept (HFb.out.then7 f), (hU3 k y u e1 e2).2.kept (HFb.out.then7 f)⟩) (by omega)).mono (fun e w'' (hh : ∃ v', e = .returned v' ∧ OwnP w'.heap.size w'' v' x.body U ∧ Fr None' w' w'') => (show ∃ pb' cb', e = .returned (.slice pb' nb cb') ∧ OwnP w'.heap.size w'' (.slice pb' nb cb') x.body U ∧ Fr None' w' w'' from by
    obtain ⟨v, rfl, h1, h2⟩ := hh
    obtain ⟨p, c, rfl, _, _, _⟩ := h1.slice
    rw [HNb.out] at h1 ⊢
    exact ⟨p, c, rfl, h1, h2⟩)))
  clear h ld lb ll hN hnd hnb F1 Fb e12 ewb hU1 hU2 hU3
  go_enter Tryz.func27, Tryz.ntmps27
  go_wp2_with fail
  refine (wpIn_wide (n := 1)).1 (region_inv (by kernel_rfl) (by decide +kernel) (RC1I wb b1 nd nb x.deps x.body U (.slice pd nd cd) (.slice pb nb cb) (fun t5 t6 t7 t8 t9 t10 t11 t12 => #[.agg #[.string N, .slice pd nd cd, .slice pb nb cb], .pointer (some ⟨b1, 0, none⟩), .pointer (some ⟨b2, 0, none⟩), undef, undef, t5, t6, t7, t8, t9, t10, t11, t12, undef, undef, undef, undef, undef, undef, undef, undef, undef, undef, undef, undef, undef, undef, undef, undef, undef, undef, undef, undef, undef, undef, undef, undef, undef, undef])) ?h0 ?step ?done1)
  case h0 => exact ⟨undef, undef, undef, undef, undef, undef, undef, undef, _, rfl, Fr.drew None' wb, (fun _ => rfl), (fun h => by cases h), (fun h => by cases h), (fun h => by cases h), (fun h => by cases h), (fun h => by cases h), (fun h => by cases h), (fun h => by cases h), (fun h => by cases h), (fun h => by cases h), (fun h => by cases h), (fun h => by cases h), (fun h => by cases h), (fun h => by cases h), (fun h => by cases h)⟩
  case step =>
    rintro S a w' ⟨t5, t6, t7, t8, t9, t10, t11, t12, wm, rfl, R⟩
    dsimp only
    refine StepsL.cons (fun h0 hd => ?s0) (StepsL.cons (fun h0 hd => ?s1) (StepsL.cons (fun h0 hd => ?s2) (StepsL.cons (fun h0 hd => ?s3) (StepsL.cons (fun h0 hd => ?s4) (StepsL.cons (fun h0 hd => ?s5) (StepsL.cons (fun h0 hd => ?s6) (StepsL.cons (fun h0 hd => ?s7) (StepsL.cons (fun h0 hd => ?s8) (StepsL.cons (fun h0 hd => ?s9) (StepsL.nil))))))))))
    case s0 =>
     as_aux_lemma =>
      clear hd
      go_simp
      exact ⟨_, _, _, _, _, _, _, _, wm, rfl, R.fm, R.e0, R.e1, R.e2, (fun _ => rfl), R.o1, R.c2, R.o3, R.o4, R.c5, R.o6, R.o8, R.d2, R.d5, R.d7, R.d9⟩
    case s1 =>
     as_aux_lemma =>
      have k0 : S 0 = true := hd { on := 0, ground := .data } (by simp) rfl
      have e0 := R.o0 k0
      subst e0
      have n7 : S 7 = false := by
        cases h : S 7 with
        | false => rfl
        | true => exact absurd (R.d2 (R.d7 h).2) (by rw [h0]; decide)
      have ew := R.e0 n7
      subst ew
      obtain ⟨x0, x1, x2⟩ := (HBx.out.kept R.fm).cells
      clear hd k0
      go_simp
      exact ⟨_, _, _, _, _, _, _, _, w', rfl, R.fm, R.e0, R.e1, R.e2, (fun _ => rfl), (fun _ => rfl), R.c2, R.o3, R.o4, R.c5, R.o6, R.o8, (fun _ => rfl), R.d5, R.d7, R.d9⟩
    case s2 =>
     as_aux_lemma =>
      have k1 : S 1 = true := hd { on := 1, ground := .data } (by simp) rfl
      have e1 := R.o1 k1
      subst e1
      have n7 : S 7 = false := by
        cases h : S 7 with
        | false => rfl
        | true => exact absurd ((R.d7 h).2) (by rw [h0]; decide)
      have n5 : S 5 = false := by
        cases h : S 5 with
        | false => rfl
        | true => exact absurd ((R.d5 h).2) (by rw [h0]; decide)
      have ew := R.e0 n7
      subst ew
      have hk1 := k1
      clear hd k1
      go_simp
      refine ⟨trivial, (callsIn_wide.2 (HC1.out w' R.fm)).mono ?_⟩
      rintro e w'' ⟨pa, ca, rfl, hs, hf, f⟩
      exact ⟨_, _, _, _, _, _, _, _, w'', rfl, R.fm.then7 f, (fun _ => rfl), (fun h => absurd (show S 7 = true from h) (by rw [n7]; decide)), (fun h => absurd (R.d9 h) (by rw [n7]; decide)), R.o0, (fun _ => rfl), (fun _ => ⟨pa, ca, rfl, hs, hf⟩), R.o3, R.o4, (fun h => absurd (show S 5 = true from h) (by rw [n5]; decide)), R.o6, R.o8, (fun _ => hk1), (fun h => ⟨(R.d5 h).1, rfl⟩), (fun h => ⟨(R.d7 h).1, rfl⟩), R.d9⟩
    case s3 =>
     as_aux_lemma =>
      clear hd
      go_simp
      exact ⟨_, _, _, _, _, _, _, _, wm, rfl, R.fm, R.e0, R.e1, R.e2, R.o0, R.o1, R.c2, (fun _ => rfl), R.o4, R.c5, R.o6, R.o8, R.d2, R.d5, R.d7, R.d9⟩
    case s4 =>
     as_aux_lemma =>
      have k3 : S 3 = true := hd { on := 3, ground := .data } (by simp) rfl
      have e3 := R.o3 k3
      subst e3
      have n7 : S 7 = false := by
        cases h : S 7 with
        | false => rfl
        | true => exact absurd ((R.d5 (R.d7 h).1).1) (by rw [h0]; decide)
      have ew := R.e0 n7
      subst ew
      obtain ⟨x0, x1, x2⟩ := (HBx.out.kept R.fm).cells
      clear hd k3
      go_simp
      exact ⟨_, _, _, _, _, _, _, _, w', rfl, R.fm, R.e0, R.e1, R.e2, R.o0, R.o1, R.c2, (fun _ => rfl), (fun _ => rfl), R.c5, R.o6, R.o8, R.d2, (fun h => ⟨rfl, (R.d5 h).2⟩), R.d7, R.d9⟩
    case s5 =>
     as_aux_lemma =>
      have k4 : S 4 = true := hd { on := 4, ground := .data } (by simp) rfl
      have e4 := R.o4 k4
      subst e4
      have n7 : S 7 = false := by
        cases h : S 7 with
        | false => rfl
        | true => exact absurd ((R.d7 h).1) (by rw [h0]; decide)
      have ew := R.e0 n7
      subst ew
      have hk4 := k4
      have hk2 : S 2 = true := hd { on := 2, ground := .chain } (by simp) rfl
      clear hd k4
      go_simp
      refine ⟨trivial, (callsIn_wide.2 (HC2.out w' R.fm)).mono ?_⟩
      rintro e w'' ⟨pb', cb', rfl, hs, f⟩
      exact ⟨_, _, _, _, _, _, _, _, w'', rfl, R.fm.then7 f, (fun _ => rfl), (fun h => absurd (show S 7 = true from h) (by rw [n7]; decide)), (fun h => absurd (R.d9 h) (by rw [n7]; decide)), R.o0, R.o1, (fun h => by obtain ⟨pa, ca, e, g1, g2⟩ := R.c2 h; exact ⟨pa, ca, e, g1.kept f, g2⟩), R.o3, (fun _ => rfl), (fun _ => ⟨pb', cb', rfl, hs.mono14 R.fm.size, fun hl j e e' => by (obtain ⟨pa, ca, e7, g1, g2⟩ := R.c2 hk2; have h1 := g1.lt hl e; have h2 := (hs.ge e').1; omega)⟩), R.o6, R.o8, R.d2, (fun _ => ⟨hk4, hk2⟩), (fun h => ⟨rfl, (R.d7 h).2⟩), R.d9⟩
    case s6 =>
     as_aux_lemma =>
      clear hd
      go_simp
      exact ⟨_, _, _, _, _, _, _, _, wm, rfl, R.fm, R.e0, R.e1, R.e2, R.o0, R.o1, R.c2, R.o3, R.o4, R.c5, (fun _ => rfl), R.o8, R.d2, R.d5, R.d7, R.d9⟩
    case s7 =>
     as_aux_lemma =>
      have k6 : S 6 = true := hd { on := 6, ground := .data } (by simp) rfl
      have e6 := R.o6 k6
      subst e6
      have k2 : S 2 = true := hd { on := 2, ground := .data } (by simp) rfl
      have k5 : S 5 = true := hd { on := 5, ground := .chain } (by simp) rfl
      have h0s := h0
      have ew := R.e0 h0
      subst ew
      obtain ⟨pa, ca, e7, g1, g2⟩ := R.c2 k2
      subst e7
      have hb := HBx.out.kept R.fm
      obtain ⟨x0, x1, x2⟩ := hb.cells
      have z1 := hb.frozen 1
      clear hb
      clear hd k6
      go_simp
      exact ⟨_, _, _, _, _, _, _, _, w', rfl, R.fm, (fun h => by cases h), (fun _ _ => rfl), (fun h => absurd (R.d9 h) (by rw [h0s]; decide)), R.o0, R.o1, (fun _ => ⟨pa, ca, rfl, g1, g2⟩), R.o3, R.o4, R.c5, (fun _ => rfl), R.o8, R.d2, R.d5, (fun _ => ⟨k5, k2⟩), (fun _ => rfl)⟩
    case s8 =>
     as_aux_lemma =>
      clear hd
      go_simp
      exact ⟨_, _, _, _, _, _, _, _, wm, rfl, R.fm, R.e0, R.e1, R.e2, R.o0, R.o1, R.c2, R.o3, R.o4, R.c5, R.o6, (fun _ => rfl), R.d2, R.d5, R.d7, R.d9⟩
    case s9 =>
     as_aux_lemma =>
      have k8 : S 8 = true := hd { on := 8, ground := .data } (by simp) rfl
      have e8 := R.o8 k8
      subst e8
      have k5 : S 5 = true := hd { on := 5, ground := .data } (by simp) rfl
      have k7 : S 7 = true := hd { on := 7, ground := .chain } (by simp) rfl
      have ew := R.e1 k7 h0
      subst ew
      obtain ⟨pb', cb', e10, g1, g2⟩ := R.c5 k5
      subst e10
      have hb := (HBx.out.kept R.fm).set1 t7
      obtain ⟨x0, x1, x2⟩ := hb.cells
      have z2 := hb.frozen 2
      clear hb
      clear hd k8
      go_simp
      exact ⟨_, _, _, _, _, _, _, _, wm, rfl, R.fm, (fun h => absurd (show S 7 = false from h) (by rw [k7]; decide)), (fun _ h => by cases h), (fun _ => rfl), R.o0, R.o1, R.c2, R.o3, R.o4, (fun _ => ⟨pb', cb', rfl, g1, g2⟩), R.o6, (fun _ => rfl), R.d2, R.d5, R.d7, (fun _ => k7)⟩
  case done1 =>
    rintro S a w3 ⟨t5, t6, t7, t8, t9, t10, t11, t12, wm, rfl, R⟩ hall
    dsimp only
    have ew := R.e2 (hall 9 (by simp))
    obtain ⟨pa', ca', e7, g1, g2⟩ := R.c2 (hall 2 (by simp))
    obtain ⟨pb', cb', e10, g3, g4⟩ := R.c5 (hall 5 (by simp))
    subst e7 e10
    have hm := R.fm
    have hlo := HLo.out
    have f3 : Fr (fun k => k = b1) wm w3 := by
      rw [ew]
      exact (Fr.setCell (M := fun k => k = b1) wm (a := ⟨b1, 1, none⟩) rfl _).then (Fr.setCell (M := fun k => k = b1) _ (a := ⟨b1, 2, none⟩) rfl _)
    have HX3 := toHid8 (show Box3 w3 b1 (.string N) (.slice pa' nd ca') (.slice pb' nb cb') from by rw [ew]; exact ((HBx.out.kept hm).set1 _).set2 _)
    have HZ3 := toHid8 (show Box3 w3 b2 (.string ⟨#[]⟩) (.slice none 0 0) (.slice none 0 0) from (HB2.out.kept hm).fr f3 (by omega))
    have HD3 := toHid8 (show StrsAt w3 (.slice pa' nd ca') x.deps from g1.far f3 (fun _ j e e' => by have := g2 j e; omega))
    have HO3 := toHid8 (show OwnP wb.heap.size w3 (.slice pb' nb cb') x.body U from g3.fr14 f3 (fun j e => by have := (g3.ge e).1; omega) (fun k y u e1 e2 => ⟨fun hl j e => by have := (HUr.out k y u e1 e2).1.lt hl e; omega, fun hl j e => by have := (HUr.out k y u e1 e2).2.lt hl e; omega⟩))
    have HDg := toHid8 (show ∀ j, (Value.slice pa' nd ca').ownBlock = some j → wb.heap.size ≤ j from g2)
    have HDn := toHid8 g4
    have HW3 := toHid8 (show Fr None' w w3 from (HFb.out.then7 hm).trans f3 (fun i e => Or.inr (by omega)))
    have HS3 := toHid8 (show wb.heap.size ≤ w3.heap.size from Nat.le_trans hm.size f3.size)
    clear R hall g1 g2 g3 g4 hm hlo f3 ew HC1 HC2
    have HG0 := toHid8 (show ∀ j, (Value.slice pb' nb cb').ownBlock = some j → wb.heap.size ≤ j from fun j e => (HO3.out.ge e).1)
    have HI0 := toHid8 (show CopyAt w w3 (.slice pb' nb cb') x.body U 0 from ⟨HW3.out, HO3.out.mono14 HFb.out.size, fun j u hj => by omega⟩)
    have HY0 := toHid8 (show Box3 w3 b1 (.string N) (.slice pa' nd ca') (.slice pb' nb cb') ∧ Box3 w3 b2 (.string ⟨#[]⟩) (.slice none 0 0) (.slice none 0 0) ∧ StrsAt w3 (.slice pa' nd ca') x.deps from ⟨HX3.out, HZ3.out, HD3.out⟩)
    have HCn0 := toHid8 (show pb' = none → cb' = 0 from by
      obtain ⟨va, c, e, _, hc, _⟩ := HO3.out.slice
      cases e
      exact hc)
    obtain ⟨a0, a1, a2⟩ := HX3.out.cells
    have HS30 := toHid8 HS3.out
    clear HX3 HZ3 HD3 HO3 HW3
    go_wp2_with fail
    clear a0 a1 a2
    go_loopw [16] (fun vi wr => ∃ (k : Nat) (V : List (Value × Value)), k ≤ nb ∧ vi = .int .i64 k ∧ Hid (CopyAt w wr (.slice pb' nb cb') x.body V k) ∧ Hid (Box3 wr b1 (.string N) (.slice pa' nd ca') (.slice pb' nb cb') ∧ Box3 wr b2 (.string ⟨#[]⟩) (.slice none 0 0) (.slice none 0 0) ∧ StrsAt wr (.slice pa' nd ca') x.deps) ∧ Hid ((∀ (j : Nat) (u : Value × Value), j < k → V[j]? = some u → (∀ i, u.1.ownBlock = some i → wb.heap.size ≤ i) ∧ ∀ i, u.2.ownBlock = some i → wb.heap.size ≤ i) ∧ wb.heap.size ≤ wr.heap.size)) (fun vi _ => nb - (intOf vi).toNat)
    case atStart => exact ⟨0, U, Nat.zero_le _, rfl, HI0.out, HY0.out, fun j u hj => by omega, HS30.out⟩
    case round =>
      clear HI0 HY0
      obtain ⟨k, V, hk, rfl, HI, HY, HV⟩ := hrel
      by_cases hlt : k < nb
      case pos =>
        have hkL : k < x.body.length := by rw [HNb.out]; exact hlt
        obtain ⟨g, rfl, hg, hg2⟩ := HI.out.own.at0 hkL
        obtain ⟨⟨u1, u2⟩, hu, ⟨c0, c1, c2, c3, c4, c5, c6⟩, ⟨t1, t2⟩, cz⟩ := HI.out.own.cellsAt hkL
        obtain ⟨l1, l2⟩ := HLl.out _ (List.getElem_mem hkL)
        simp only at c5 c6 t1 t2
        obtain ⟨po, co, rfl⟩ := t1.as2
        obtain ⟨pn, cn, rfl⟩ := t2.as2
        have hgb := HG0.out g rfl
        have hlo := HLo.out
        have HG := toHid8 (show w.heap.size ≤ g ∧ g < wr.heap.size ∧ b1 ≠ g ∧ b2 ≠ g from ⟨hg, hg2, by omega, by omega⟩)
        have HSt := toHid8 (fun w5 (f : Fr None' wr w5) a b (ha : StrsAt w5 a x.body[k].old) (hb : StrsAt w5 b x.body[k].new) fa fb => HI.out.step hkL f hg hg2 (a := a) (b := b) ha hb fa fb)
        have HCzr := toHid8 (show ∀ w', Fr None' wr w' → w'.cell? ⟨g, k * 7 + 5, none⟩ = some (.slice po x.body[k].old.length co) ∧ w'.cell? ⟨g, k * 7 + 6, none⟩ = some (.slice pn x.body[k].new.length cn) ∧ ∀ o, w'.frozen? ⟨g, o, none⟩ = false from fun w' f => by
          obtain ⟨u', hu', ⟨_, _, _, _, _, d5, d6⟩, _, dz⟩ := (HI.out.own.kept f).cellsAt hkL
          rw [hu] at hu'
          cases hu'
          exact ⟨d5, d6, dz⟩)
        have HT1 := toHid8 t1
        have HT2 := toHid8 t2
        obtain ⟨no, hno⟩ : ∃ m, x.body[k].old.length = m := ⟨_, rfl⟩
        obtain ⟨nn, hnn⟩ : ∃ m, x.body[k].new.length = m := ⟨_, rfl⟩
        have HNo := toHid8 hno
        have HNn := toHid8 hnn
        have HLl1 := toHid8 l1
        have HLl2 := toHid8 l2
        rw [hno] at c5 HCzr
        rw [hnn] at c6 HCzr
        clear t1 t2 l1 l2 hno hnn hu hg hg2 hgb hlo
        generalize x.body[k] = y at c0 c1 c2 c3 c4 HSt HT1 HT2 HNo HNn HLl1 HLl2
        clear hkL
        have i3 : (k : Int) < (nb : Int) := by omega
        have i4 : (0 : Int) ≤ (k : Int) := by omega
        obtain ⟨w2, hw2⟩ : ∃ w2, wr.alloc (.cells #[.int .i64 y.kind, .string y.path, .string y.dst, .string y.src, .int .i64 y.pos, .slice po no co, .slice pn nn cn] 67) = w2 := ⟨_, rfl⟩
        have F2 : Fr None' wr w2 := hw2 ▸ Fr.alloc None' _ _
        obtain ⟨bx, hbx⟩ : ∃ b, wr.heap.size = b := ⟨_, rfl⟩
        have HBq := toHid8 (show Box w2 bx (.int .i64 y.kind) (.string y.path) (.string y.dst) (.string y.src) (.int .i64 y.pos) (.slice po no co) (.slice pn nn cn) from by rw [← hbx, ← hw2]; exact Box.new wr _ _ _ _ _ _ _)
        have HF2 := toHid8 F2
        have hgx : bx ≠ g := by have := HG.out.2.1; omega
        have HB1 := toHid8 (fun w' (f : Fr (fun i => i = g) w2 w') => ((HY.out.1.kept F2).fr f (fun e => HG.out.2.2.1 e)).cells.2.2)
        have HBo := toHid8 (show ∀ w', Fr (fun i => i = g) w2 w' → w'.cell? ⟨bx, 5, none⟩ = some (.slice po no co) ∧ w'.cell? ⟨bx, 6, none⟩ = some (.slice pn nn cn) from fun w' f => ⟨(HBq.out.fr f hgx).cells.2.2.2.2.2.1, (HBq.out.fr f hgx).cells.2.2.2.2.2.2⟩)
        have HCz := toHid8 (fun w' (f : Fr None' w2 w') => HCzr.out w' (F2.then7 f))
        have HSetC := toHid8 (show ∀ wm, Fr None' w2 wm → ∀ v, (wm.setCell ⟨g, k * 7 + 5, none⟩ v).cell? ⟨g, k * 7 + 6, none⟩ = some (.slice pn nn cn) ∧ wm.frozen? ⟨g, k * 7 + 6, none⟩ = false from fun wm f v => ⟨by rw [cell_other14 (by omega)]; exact (HCz.out wm f).2.1, (HCz.out wm f).2.2 _⟩)
        have HCo := toHid8 (fun w' (f : Fr None' w2 w') => (clone_any (.slice po no co) y.old w' (by have := HT1.out.kept (F2.then7 f); rwa [HNo.out] at this) HLl1.out).mono (fun e w'' (hh : ∃ v', e = .returned v' ∧ StrsAt w'' v' y.old ∧ Fr None' w' w'' ∧ ∀ j, v'.ownBlock = some j → w'.heap.size ≤ j) => (show ∃ pa ca, e = .returned (.slice pa no ca) ∧ StrsAt w'' (.slice pa no ca) y.old ∧ (∀ j, (Value.slice pa no ca).ownBlock = some j → w2.heap.size ≤ j) ∧ Fr None' w' w'' from by
          obtain ⟨v, rfl, h1, h2, h3⟩ := hh
          obtain ⟨p, c, rfl⟩ := h1.as2
          rw [HNo.out] at h1 h3 ⊢
          exact ⟨p, c, rfl, h1, fun j e => Nat.le_trans f.size (h3 j e), h2⟩)))
        have HCn := toHid8 (fun w' (f : Fr None' w2 w') => (clone_any (.slice pn nn cn) y.new w' (by have := HT2.out.kept (F2.then7 f); rwa [HNn.out] at this) HLl2.out).mono (fun e w'' (hh : ∃ v', e = .returned v' ∧ StrsAt w'' v' y.new ∧ Fr None' w' w'' ∧ ∀ j, v'.ownBlock = some j → w'.heap.size ≤ j) => (show ∃ pa ca, e = .returned (.slice pa nn ca) ∧ StrsAt w'' (.slice pa nn ca) y.new ∧ (∀ j, (Value.slice pa nn ca).ownBlock = some j → w2.heap.size ≤ j) ∧ Fr None' w' w'' from by
          obtain ⟨v, rfl, h1, h2, h3⟩ := hh
          obtain ⟨p, c, rfl⟩ := h1.as2
          rw [HNn.out] at h1 h3 ⊢
          exact ⟨p, c, rfl, h1, fun j e => Nat.le_trans f.size (h3 j e), h2⟩)))
        have HLt := toHid8 hlt
        clear F2 hlt
        go_wp2_with fail
        refine (wpIn_wide (n := 5)).1 (region_inv (by kernel_rfl) (by decide +kernel) (RC5I w2 g k no nn b1 bx y.old y.new (.slice (some ⟨g, 0, none⟩) nb cb') (.slice po no co) (.slice pn nn cn) (fun t21 t22 t23 t24 t25 t26 t27 t28 t29 t30 t31 t32 t33 t34 t35 t36 => #[.agg #[.string N, .slice pd nd cd, .slice pb nb cb], .pointer (some ⟨b1, 0, none⟩), .pointer (some ⟨b2, 0, none⟩), .int .i64 k, .pointer (some ⟨bx, 0, none⟩), t5, t6, .slice pa' nd ca', t8, t9, .slice (some ⟨g, 0, none⟩) nb cb', t11, t12, .pointer (some ⟨b1, 2, none⟩), .slice (some ⟨g, 0, none⟩) nb cb', .int .i64 nb, .int .i64 k, .bool true, .int .i64 k, .pointer (some ⟨g, k * 7, none⟩), .agg #[.int .i64 y.kind, .string y.path, .string y.dst, .string y.src, .int .i64 y.pos, .slice po no co, .slice pn nn cn], t21, t22, t23, t24, t25, t26, t27, t28, t29, t30, t31, t32, t33, t34, t35, t36, u37, undef])) ?h0 ?step ?done5)
        case h0 => exact ⟨u21, u22, u23, u24, u25, u26, u27, u28, u29, u30, u31, u32, u33, u34, u35, u36, _, rfl, Fr.drew None' w2, Fr.drew _ w2, (fun _ => rfl), (fun h => by cases h), (fun h => by cases h), (fun h => by cases h), (fun h => by cases h), (fun h => by cases h), (fun h => by cases h), (fun h => by cases h), (fun h => by cases h), (fun h => by cases h), (fun h => by cases h), (fun h => by cases h), (fun h => by cases h), (fun h => by cases h), (fun h => by cases h), (fun h => by cases h), (fun h => by cases h), (fun h => by cases h), (fun h => by cases h), (fun h => by cases h), (fun h => by cases h), (fun h => by cases h)⟩
        case step =>
          rintro S a w' ⟨t21, t22, t23, t24, t25, t26, t27, t28, t29, t30, t31, t32, t33, t34, t35, t36, wm, rfl, R⟩
          dsimp only
          refine StepsL.cons (fun h0 hd => ?s0) (StepsL.cons (fun h0 hd => ?s1) (StepsL.cons (fun h0 hd => ?s2) (StepsL.cons (fun h0 hd => ?s3) (StepsL.cons (fun h0 hd => ?s4) (StepsL.cons (fun h0 hd => ?s5) (StepsL.cons (fun h0 hd => ?s6) (StepsL.cons (fun h0 hd => ?s7) (StepsL.cons (fun h0 hd => ?s8) (StepsL.cons (fun h0 hd => ?s9) (StepsL.cons (fun h0 hd => ?s10) (StepsL.cons (fun h0 hd => ?s11) (StepsL.cons (fun h0 hd => ?s12) (StepsL.cons (fun h0 hd => ?s13) (StepsL.cons (fun h0 hd => ?s14) (StepsL.cons (fun h0 hd => ?s15) (StepsL.cons (fun h0 hd => ?s16) (StepsL.cons (fun h0 hd => ?s17) (StepsL.nil))))))))))))))))))
          case s0 =>
           as_aux_lemma =>
            clear hd
            go_simp
            exact ⟨_, _, _, _, _, _, _, _, _, _, _, _, _, _, _, _, wm, rfl, R.fm, R.fg, R.e0, R.e1, R.e2, (fun _ => rfl), R.o1, R.o2, R.o3, R.o4, R.o5, R.o6, R.o7, R.o9, R.o10, R.o12, R.o13, R.o15, R.o16, R.c8, R.c11, R.d11, R.d14, R.d17⟩
          case s1 =>
           as_aux_lemma =>
            have k0 : S 0 = true := hd { on := 0, ground := .data } (by simp) rfl
            have e0 := R.o0 k0
            subst e0
            have y2 := HB1.out w' R.fg
            clear hd k0
            go_simp
            exact ⟨_, _, _, _, _, _, _, _, _, _, _, _, _, _, _, _, wm, rfl, R.fm, R.fg, R.e0, R.e1, R.e2, (fun _ => rfl), (fun _ => rfl), R.o2, R.o3, R.o4, R.o5, R.o6, R.o7, R.o9, R.o10, R.o12, R.o13, R.o15, R.o16, R.c8, R.c11, R.d11, R.d14, R.d17⟩
          case s2 =>
           as_aux_lemma =>
            clear hd
            go_simp
            exact ⟨_, _, _, _, _, _, _, _, _, _, _, _, _, _, _, _, wm, rfl, R.fm, R.fg, R.e0, R.e1, R.e2, R.o0, R.o1, (fun _ => rfl), R.o3, R.o4, R.o5, R.o6, R.o7, R.o9, R.o10, R.o12, R.o13, R.o15, R.o16, R.c8, R.c11, R.d11, R.d14, R.d17⟩
          case s3 =>
           as_aux_lemma =>
            clear hd
            go_simp
            exact ⟨_, _, _, _, _, _, _, _, _, _, _, _, _, _, _, _, wm, rfl, R.fm, R.fg, R.e0, R.e1, R.e2, R.o0, R.o1, R.o2, (fun _ => rfl), R.o4, R.o5, R.o6, R.o7, R.o9, R.o10, R.o12, R.o13, R.o15, R.o16, R.c8, R.c11, R.d11, R.d14, R.d17⟩
          case s4 =>
           as_aux_lemma =>
            have k3 : S 3 = true := hd { on := 3, ground := .data } (by simp) rfl
            have e3 := R.o3 k3
            subst e3
            have y2 := HB1.out w' R.fg
            clear hd k3
            go_simp
            exact ⟨_, _, _, _, _, _, _, _, _, _, _, _, _, _, _, _, wm, rfl, R.fm, R.fg, R.e0, R.e1, R.e2, R.o0, R.o1, R.o2, (fun _ => rfl), (fun _ => rfl), R.o5, R.o6, R.o7, R.o9, R.o10, R.o12, R.o13, R.o15, R.o16, R.c8, R.c11, R.d11, R.d14, R.d17⟩
          case s5 =>
           as_aux_lemma =>
            clear hd
            go_simp
            exact ⟨_, _, _, _, _, _, _, _, _, _, _, _, _, _, _, _, wm, rfl, R.fm, R.fg, R.e0, R.e1, R.e2, R.o0, R.o1, R.o2, R.o3, R.o4, (fun _ => rfl), R.o6, R.o7, R.o9, R.o10, R.o12, R.o13, R.o15, R.o16, R.c8, R.c11, R.d11, R.d14, R.d17⟩
          case s6 =>
           as_aux_lemma =>
            clear hd
            go_simp
            exact ⟨_, _, _, _, _, _, _, _, _, _, _, _, _, _, _, _, wm, rfl, R.fm, R.fg, R.e0, R.e1, R.e2, R.o0, R.o1, R.o2, R.o3, R.o4, R.o5, (fun _ => rfl), R.o7, R.o9, R.o10, R.o12, R.o13, R.o15, R.o16, R.c8, R.c11, R.d11, R.d14, R.d17⟩
          case s7 =>
           as_aux_lemma =>
            have k6 : S 6 = true := hd { on := 6, ground := .data } (by simp) rfl
            have e6 := R.o6 k6
            subst e6
            obtain ⟨y5, y6⟩ := HBo.out w' R.fg
            clear hd k6
            go_simp
            exact ⟨_, _, _, _, _, _, _, _, _, _, _, _, _, _, _, _, wm, rfl, R.fm, R.fg, R.e0, R.e1, R.e2, R.o0, R.o1, R.o2, R.o3, R.o4, R.o5, (fun _ => rfl), (fun _ => rfl), R.o9, R.o10, R.o12, R.o13, R.o15, R.o16, R.c8, R.c11, R.d11, R.d14, R.d17⟩
          case s8 =>
           as_aux_lemma =>
            have k7 : S 7 = true := hd { on := 7, ground := .data } (by simp) rfl
            have e7 := R.o7 k7
            subst e7
            have n14 : S 14 = false := by
              cases h : S 14 with
              | false => rfl
              | true => exact absurd ((R.d14 h).2) (by rw [h0]; decide)
            have n11 : S 11 = false := by
              cases h : S 11 with
              | false => rfl
              | true => exact absurd (R.d11 h) (by rw [h0]; decide)
            have ew := R.e0 n14
            subst ew
            clear hd k7
            go_simp
            refine ⟨trivial, (callsIn_wide.2 (HCo.out w' R.fm)).mono ?_⟩
            rintro e w'' ⟨pa, ca, rfl, hs, hf, f⟩
            exact ⟨_, _, _, _, _, _, _, _, _, _, _, _, _, _, _, _, w'', rfl, R.fm.then7 f, R.fg.trans f (fun _ e => e.elim), (fun _ => rfl), (fun h => absurd (show S 14 = true from h) (by rw [n14]; decide)), (fun h => absurd (R.d17 h) (by rw [n14]; decide)), R.o0, R.o1, R.o2, R.o3, R.o4, R.o5, R.o6, (fun _ => rfl), R.o9, R.o10, R.o12, R.o13, R.o15, R.o16, (fun _ => ⟨pa, ca, rfl, hs, hf⟩), (fun h => absurd (show S 11 = true from h) (by rw [n11]; decide)), (fun _ => rfl), (fun h => ⟨(R.d14 h).1, rfl⟩), R.d17⟩
          case s9 =>
           as_aux_lemma =>
            clear hd
            go_simp
            exact ⟨_, _, _, _, _, _, _, _, _, _, _, _, _, _, _, _, wm, rfl, R.fm, R.fg, R.e0, R.e1, R.e2, R.o0, R.o1, R.o2, R.o3, R.o4, R.o5, R.o6, R.o7, (fun _ => rfl), R.o10, R.o12, R.o13, R.o15, R.o16, R.c8, R.c11, R.d11, R.d14, R.d17⟩
          case s10 =>
           as_aux_lemma =>
            have k9 : S 9 = true := hd { on := 9, ground := .data } (by simp) rfl
            have e9 := R.o9 k9
            subst e9
            obtain ⟨y5, y6⟩ := HBo.out w' R.fg
            clear hd k9
            go_simp
            exact ⟨_, _, _, _, _, _, _, _, _, _, _, _, _, _, _, _, wm, rfl, R.fm, R.fg, R.e0, R.e1, R.e2, R.o0, R.o1, R.o2, R.o3, R.o4, R.o5, R.o6, R.o7, (fun _ => rfl), (fun _ => rfl), R.o12, R.o13, R.o15, R.o16, R.c8, R.c11, R.d11, R.d14, R.d17⟩
          case s11 =>
           as_aux_lemma =>
            have k10 : S 10 = true := hd { on := 10, ground := .data } (by simp) rfl
            have e10 := R.o10 k10
            subst e10
            have n14 : S 14 = false := by
              cases h : S 14 with
              | false => rfl
              | true => exact absurd ((R.d14 h).1) (by rw [h0]; decide)
            have ew := R.e0 n14
            subst ew
            have k8 : S 8 = true := hd { on := 8, ground := .chain } (by simp) rfl
            clear hd k10
            go_simp
            refine ⟨trivial, (callsIn_wide.2 (HCn.out w' R.fm)).mono ?_⟩
            rintro e w'' ⟨pa, ca, rfl, hs, hf, f⟩
            exact ⟨_, _, _, _, _, _, _, _, _, _, _, _, _, _, _, _, w'', rfl, R.fm.then7 f, R.fg.trans f (fun _ e => e.elim), (fun _ => rfl), (fun h => absurd (show S 14 = true from h) (by rw [n14]; decide)), (fun h => absurd (R.d17 h) (by rw [n14]; decide)), R.o0, R.o1, R.o2, R.o3, R.o4, R.o5, R.o6, R.o7, R.o9, (fun _ => rfl), R.o12, R.o13, R.o15, R.o16, (fun h => by obtain ⟨pa, ca, e, g1, g2⟩ := R.c8 h; exact ⟨pa, ca, e, g1.kept f, g2⟩), (fun _ => ⟨pa, ca, rfl, hs, hf⟩), (fun _ => k8), (fun h => ⟨rfl, (R.d14 h).2⟩), R.d17⟩
          case s12 =>
           as_aux_lemma =>
            have k1 : S 1 = true := hd { on := 1, ground := .data } (by simp) rfl
            have e1 := R.o1 k1
            subst e1
            have k2 : S 2 = true := hd { on := 2, ground := .data } (by simp) rfl
            have e2 := R.o2 k2
            subst e2
            clear hd k1 k2
            go_simp
            exact ⟨_, _, _, _, _, _, _, _, _, _, _, _, _, _, _, _, wm, rfl, R.fm, R.fg, R.e0, R.e1, R.e2, R.o0, (fun _ => rfl), (fun _ => rfl), R.o3, R.o4, R.o5, R.o6, R.o7, R.o9, R.o10, (fun _ => rfl), R.o13, R.o15, R.o16, R.c8, R.c11, R.d11, R.d14, R.d17⟩
          case s13 =>
           as_aux_lemma =>
            have k12 : S 12 = true := hd { on := 12, ground := .data } (by simp) rfl
            have e12 := R.o12 k12
            subst e12
            clear hd k12
            go_simp
            exact ⟨_, _, _, _, _, _, _, _, _, _, _, _, _, _, _, _, wm, rfl, R.fm, R.fg, R.e0, R.e1, R.e2, R.o0, R.o1, R.o2, R.o3, R.o4, R.o5, R.o6, R.o7, R.o9, R.o10, (fun _ => rfl), (fun _ => rfl), R.o15, R.o16, R.c8, R.c11, R.d11, R.d14, R.d17⟩
          case s14 =>
           as_aux_lemma =>
            have k13 : S 13 = true := hd { on := 13, ground := .data } (by simp) rfl
            have e13 := R.o13 k13
            subst e13
            have k8 : S 8 = true := hd { on := 8, ground := .data } (by simp) rfl
            have k11 : S 11 = true := hd { on := 11, ground := .chain } (by simp) rfl
            have h0s := h0
            have ew := R.e0 h0
            subst ew
            obtain ⟨pa, ca, e8, g1, g2⟩ := R.c8 k8
            subst e8
            obtain ⟨y5, y6, yz⟩ := HCz.out w' R.fm
            have z5 := yz (k * 7 + 5)
            clear hd k13
            go_simp
            exact ⟨_, _, _, _, _, _, _, _, _, _, _, _, _, _, _, _, w', rfl, R.fm, R.fg.trans (Fr.setCell (M := fun i => i = g) w' (a := ⟨g, k * 7 + 5, none⟩) rfl _) (fun _ e => Or.inl e), (fun h => by cases h), (fun _ _ => rfl), (fun h => absurd (R.d17 h) (by rw [h0s]; decide)), R.o0, R.o1, R.o2, R.o3, R.o4, R.o5, R.o6, R.o7, R.o9, R.o10, R.o12, (fun _ => rfl), R.o15, R.o16, (fun _ => ⟨pa, ca, rfl, g1, g2⟩), R.c11, R.d11, (fun _ => ⟨k11, k8⟩), (fun _ => rfl)⟩
          case s15 =>
           as_aux_lemma =>
            have k4 : S 4 = true := hd { on := 4, ground := .data } (by simp) rfl
            have e4 := R.o4 k4
            subst e4
            have k5 : S 5 = true := hd { on := 5, ground := .data } (by simp) rfl
            have e5 := R.o5 k5
            subst e5
            clear hd k4 k5
            go_simp
            exact ⟨_, _, _, _, _, _, _, _, _, _, _, _, _, _, _, _, wm, rfl, R.fm, R.fg, R.e0, R.e1, R.e2, R.o0, R.o1, R.o2, R.o3, (fun _ => rfl), (fun _ => rfl), R.o6, R.o7, R.o9, R.o10, R.o12, R.o13, (fun _ => rfl), R.o16, R.c8, R.c11, R.d11, R.d14, R.d17⟩
          case s16 =>
           as_aux_lemma =>
            have k15 : S 15 = true := hd { on := 15, ground := .data } (by simp) rfl
            have e15 := R.o15 k15
            subst e15
            clear hd k15
            go_simp
            exact ⟨_, _, _, _, _, _, _, _, _, _, _, _, _, _, _, _, wm, rfl, R.fm, R.fg, R.e0, R.e1, R.e2, R.o0, R.o1, R.o2, R.o3, R.o4, R.o5, R.o6, R.o7, R.o9, R.o10, R.o12, R.o13, (fun _ => rfl), (fun _ => rfl), R.c8, R.c11, R.d11, R.d14, R.d17⟩
          case s17 =>
           as_aux_lemma =>
            have k16 : S 16 = true := hd { on := 16, ground := .data } (by simp) rfl
            have e16 := R.o16 k16
            subst e16
            have k11 : S 11 = true := hd { on := 11, ground := .data } (by simp) rfl
            have k14 : S 14 = true := hd { on := 14, ground := .chain } (by simp) rfl
            have ew := R.e1 k14 h0
            subst ew
            obtain ⟨pa, ca, e11, g1, g2⟩ := R.c11 k11
            subst e11
            have hset := HSetC.out wm R.fm t29
            obtain ⟨y6, z6⟩ := hset
            clear hd k16
            go_simp
            exact ⟨_, _, _, _, _, _, _, _, _, _, _, _, _, _, _, _, wm, rfl, R.fm, R.fg.trans (Fr.setCell (M := fun i => i = g) _ (a := ⟨g, k * 7 + 6, none⟩) rfl _) (fun _ e => Or.inl e), (fun h => absurd (show S 14 = false from h) (by rw [k14]; decide)), (fun _ h => by cases h), (fun _ => rfl), R.o0, R.o1, R.o2, R.o3, R.o4, R.o5, R.o6, R.o7, R.o9, R.o10, R.o12, R.o13, R.o15, (fun _ => rfl), R.c8, (fun _ => ⟨pa, ca, rfl, g1, g2⟩), R.d11, R.d14, (fun _ => k14)⟩
        case done5 =>
          rintro S a w5 ⟨t21, t22, t23, t24, t25, t26, t27, t28, t29, t30, t31, t32, t33, t34, t35, t36, wm, rfl, R⟩ hall
          dsimp only
          have ew := R.e2 (hall 17 (by simp))
          obtain ⟨qa, qc, e8, g1, g2⟩ := R.c8 (hall 8 (by simp))
          obtain ⟨ra, rc, e11, g3, g4⟩ := R.c11 (hall 11 (by simp))
          subst e8 e11
          have hm := R.fm
          have hfg := R.fg
          have hsz := HF2.out.size
          have hI := HSt.out wm (HF2.out.then7 hm) _ _ g1 g3 (fun j e => by have := g2 j e; omega) (fun j e => by have := g4 j e; omega)
          rw [← ew] at hI
          have HI' := toHid8 hI
          have HV' := toHid8 (show (∀ (j : Nat) (u : Value × Value), j < k + 1 → (V.set k (.slice qa no qc, .slice ra nn rc))[j]? = some u → (∀ i, u.1.ownBlock = some i → wb.heap.size ≤ i) ∧ ∀ i, u.2.ownBlock = some i → wb.heap.size ≤ i) ∧ wb.heap.size ≤ w5.heap.size from ⟨fun j u hj e => by
            have h3 := HV.out.2
            by_cases hjk : k = j
            · subst hjk
              have hlt := (List.getElem?_eq_some_iff.1 e).1
              rw [List.length_set] at hlt
              rw [List.getElem?_set_self hlt] at e
              cases e
              exact ⟨fun i e => by have := g2 i e; omega, fun i e => by have := g4 i e; omega⟩
            · rw [List.getElem?_set_ne hjk] at e
              exact HV.out.1 j u (by omega) e, by have h3 := HV.out.2; have h4 := hfg.size; omega⟩)
          have HG' := HG
          have HY' := toHid8 (show Box3 w5 b1 (.string N) (.slice pa' nd ca') (.slice (some ⟨g, 0, none⟩) nb cb') ∧ Box3 w5 b2 (.string ⟨#[]⟩) (.slice none 0 0) (.slice none 0 0) ∧ StrsAt w5 (.slice pa' nd ca') x.deps from
            ⟨(HY.out.1.kept HF2.out).fr hfg (fun e => HG.out.2.2.1 e), (HY.out.2.1.kept HF2.out).fr hfg (fun e => HG.out.2.2.2 e), (HY.out.2.2.kept HF2.out).far hfg (fun hl j e e' => HDn.out hl j e (by rw [e']; rfl))⟩)
          clear R hall g1 g2 g3 g4 hm hfg hI ew HSt HCzr HT1 HT2 HB1 HBo HCz HSetC HCo HCn
          go_wp2_with fail
          exact ⟨⟨k + 1, _, by have := HLt.out; omega, by go_num, HI'.out, HY'.out, HV'.out⟩, by simp [intOf]; have := HLt.out; omega⟩
      case neg =>
        have i3 : ¬ (k : Int) < (nb : Int) := by omega
        have hkn : k = nb := by omega
        have HKn := toHid8 hkn
        obtain ⟨a0, a1, a2⟩ := HY.out.1.cells
        obtain ⟨d0, d1, d2⟩ := HY.out.2.1.cells
        have fz := HY.out.2.1.frozen
        clear hlt hkn
        go_wp2_with fail
        have hlo := HLo.out
        have ff := setP14_fr wr b2 (.string N) (.slice pa' nd ca') (.slice pb' nb cb')
        have hown := HI.out.own
        have hnew : ∀ u ∈ V, ∀ j, (u.1.ownBlock = some j ∨ u.2.ownBlock = some j) → wb.heap.size ≤ j := fun u hu j e => by
          obtain ⟨i, hi, rfl⟩ := List.getElem_of_mem hu
          have := HV.out.1 i V[i] (by have := hown.len; have h2 := HNb.out; have h3 := HKn.out; omega) (List.getElem?_eq_getElem hi)
          rcases e with e | e
          · exact this.1 j e
          · exact this.2 j e
        have key : ∀ (M : Nat → Prop) (w' : World), Fr M wr w' → (∀ j, M j → j < w.heap.size ∨ j = b2) → PvIn w' ⟨x, pa', ca', pb', cb'⟩ := fun M w' f hM => by
          refine ⟨?_, HCn0.out, ?_⟩
          · show StrsAt w' (.slice pa' x.deps.length ca') x.deps
            rw [HNd.out]
            exact HY.out.2.2.far f (fun _ j e e' => by have h1 := HDg.out j e; rcases hM j e' with h | h <;> omega)
          · obtain ⟨va, c, e, _, _, hp⟩ := (hown.fr f (fun j e e' => by have h1 := HG0.out j e; rcases hM j e' with h | h <;> omega) (fun u hu j e _ e' => by have h1 := hnew u hu j e; rcases hM j e' with h | h <;> omega)).slice
            cases e
            exact hp
        have hnv : NewV b1 (setP14 wr b2 (.string N) (.slice pa' nd ca') (.slice pb' nb cb')) ⟨x, pa', ca', pb', cb'⟩ := by
          refine ⟨key _ _ ff (fun j e => .inr e), fun M w' f hM => key _ _ ((ff.mono (M' := fun k => k = b2 ∨ M k) (fun _ e => Or.inl e)).then (f.mono (fun _ e => Or.inr e))) (fun j e => ?_)⟩
          rcases e with e | e
          · exact .inr e
          · exact .inl (by have := hM j e; omega)
        refine ret_b14 rfl rfl rfl (HY.out.2.1.all14 _ _ _) ⟨⟨x, pa', ca', pb', cb'⟩, ?_, rfl, hnv, HI.out.fr.trans ff (fun i e => Or.inr (by omega))⟩
        show Ending.returned (.agg #[.string N, .slice pa' nd ca', .slice pb' nb cb']) = .returned (.agg #[.string x.name, .slice pa' x.deps.length ca', .slice pb' x.body.length cb'])
        rw [HN.out, HNd.out, HNb.out]

end Go.Proofs.YtbiilnhefoplkaaGreatDoor
