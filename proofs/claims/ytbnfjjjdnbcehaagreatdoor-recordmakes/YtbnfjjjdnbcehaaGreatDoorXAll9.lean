/- What is proved here: contracts for RecordMakes. Conditions: as named. -/
import Derived.Test.YtbnfjjjdnbcehaaGreatDoorXBack9
import Derived.Test.YtbnfjjjdnbcehaaGreatDoorX2Base
import Derived.Test.YtbnfjjjdnbcehaaGreatDoorX11RAll9
import Derived.Laws.MakeOwn
set_option maxHeartbeats 16000000
namespace Go.Proofs.YtbnfjjjdnbcehaaGreatDoor
open Go.RowKit Go.Shelf
set_option maxRecDepth 100000
attribute [local go_sem] Oper.semAt_some
structure AllAt (w : World) (bl b : Nat) (L : List Pr) (U : List (Value × Value)) (pre : List (Nat × Value)) (W : World) : Prop where
 fr : Fr None' w W
 lt : b < W.heap.size
 row : ∃ m v V, m ≤ L.length ∧ pre = Zj (aggs L U) m ∧ W.heap[bl]? = some (.cells #[v] 22 (0, 0)) ∧ Zk w.heap.size W v ((L.reverse.take m).map inv) V ∧ ¬ v.ownBlock = some bl ∧ ¬ v.ownBlock = some b ∧ ∀ u ∈ V, ∀ k, (u.1.ownBlock = some k ∨ u.2.ownBlock = some k) → w.heap.size ≤ k ∧ k ≠ bl
theorem Zy.abide {base : Nat} {A B : World} {v : Value} {l : List ByteArray} (h : Zy A v l) (f : Fr (fun k => None' k ∨ (base ≤ k ∧ Za A k)) A B) : Zy B v l :=
 h.far f (fun hl k e m => by
  obtain ⟨va, c, rfl, h1, h2, h3⟩ := h
  cases l with
  | nil => exact hl rfl
  | cons x l =>
   obtain ⟨g, o, e', hc⟩ := h3 0 x rfl
   subst e'
   cases e
   rcases m with m | m
   ·exact m
   ·unfold World.cell? at hc
    split at hc
    ·rename_i cs t z hh
     exact m.2 _ _ _ hh
    ·cases hc)
theorem Zk.abide {n0 base : Nat} {A B : World} {v : Value} {L : List Pr} {V : List (Value × Value)} (h : Zk n0 A v L V) (f : Fr (fun k => None' k ∨ (base ≤ k ∧ Za A k)) A B) : Zk n0 B v L V := by
 refine ⟨h.len, ⟨h.row.1, ?_⟩, fun k x u e1 e2 => ?_⟩
 ·rcases h.row.2 with h | ⟨g, cap, cur, hv, hb, hh, h⟩
  ·exact Or.inl h
  ·exact Or.inr ⟨g, cap, cur, hv, hb, f.at hh (fun e => e.elim (fun e => e) (fun e => e.2 _ _ _ hh)), h⟩
 ·obtain ⟨h1, h2, h3, h4⟩ := h.str k x u e1 e2
  exact ⟨h1.abide f, h2.abide f, h3, h4⟩
theorem AllAt.abide {w : World} {bl b base : Nat} {L : List Pr} {U : List (Value × Value)} (hb : w.heap.size ≤ base) : AbideN base None' (AllAt w bl b L U) := fun pre A B h f => by
 obtain ⟨m, v, V, h1, h2, h3, h4, h5, h6, h7⟩ := h.row
 exact ⟨h.fr.trans f (fun i e => e.elim (fun e => e.elim) (fun e => Or.inr (by omega))), Nat.lt_of_lt_of_le h.lt f.size, m, v, V, h1, h2, f.at h3 (fun e => e.elim (fun e => e) (fun e => e.2 _ _ _ h3)), h4.abide f, h5, h6, h7⟩
theorem rev_take {L : List Pr} {t k : Nat} (h : t + k + 1 = L.length) : (L.reverse.take t).map inv ++ [inv (L[k]'(by omega))] = (L.reverse.take (t + 1)).map inv := by
 have ht : t < L.reverse.length := by rw [List.length_reverse]; omega
 have e : L.reverse[t] = L[k]'(by omega) := by
  rw [List.getElem_reverse]
  congr 1
  omega
 rw [List.take_succ_eq_append_getElem ht, List.map_append, e]
 rfl
def Stepd (w W : World) (bl b : Nat) (L : List Pr) (U : List (Value × Value)) (t : Nat) (v : Value) (rn : Nat) (y0 y1 y2 y3 y4 vo vn : Value) (w5 : World) : Prop := ∃ g' cap' w4, (Builtin.append_ #[22, 22] 22 #[v, .slice (some ⟨w5.heap.size, 0, none⟩) 1 1]).run Tryz.prog (w5.alloc (.cells #[y0, y1, y2, y3, y4, vo, vn] 43)) = .ok (.slice (some ⟨g', 0, none⟩) (rn + 1) cap') w4 ∧
   w4.cell? ⟨bl, 0, none⟩ = some v ∧ (∀ o, w4.frozen? ⟨bl, o, none⟩ = false) ∧
   Hid (KeepsOthers W (w4.setCell ⟨bl, 0, none⟩ (.slice (some ⟨g', 0, none⟩) (rn + 1) cap')) ∧ Zh (fun k => k = b ∨ k < w.heap.size) W (w4.setCell ⟨bl, 0, none⟩ (.slice (some ⟨g', 0, none⟩) (rn + 1) cap')) ∧ AllAt w bl b L U (Zj (aggs L U) (t + 1)) (w4.setCell ⟨bl, 0, none⟩ (.slice (some ⟨g', 0, none⟩) (rn + 1) cap')))
theorem all_step {w W w2 : World} {bl b : Nat} {L : List Pr} {U : List (Value × Value)} {t : Nat} {v : Value} {V : List (Value × Value)} {R : List Pr} {y : Pr} {vo vn : Value}
  (hw : Fr None' w W) (hb : b < W.heap.size) (hbl : bl < b) (hwbl : w.heap.size ≤ bl)
  (hcell : W.heap[bl]? = some (.cells #[v] 22 (0, 0))) (hO : Zk w.heap.size W v R V) (hR : R ++ [y] = (L.reverse.take (t + 1)).map inv) (hn : R.length ≤ 90000)
  (hv1 : ¬ v.ownBlock = some bl) (hv2 : ¬ v.ownBlock = some b) (hV : ∀ u ∈ V, ∀ k, (u.1.ownBlock = some k ∨ u.2.ownBlock = some k) → w.heap.size ≤ k ∧ k ≠ bl)
  (f2 : Fr None' W w2) (s1 : Zy w2 vo y.old) (s2 : Zy w2 vn y.new) (g1 : ∀ k, vo.ownBlock = some k → W.heap.size ≤ k) (g2 : ∀ k, vn.ownBlock = some k → W.heap.size ≤ k) (ht : t + 1 ≤ L.length) :
  Stepd w W bl b L U t v R.length (.int .i64 y.kind) (.string y.path) (.string y.dst) (.string y.src) (.int .i64 y.pos) vo vn w2 := by
 obtain ⟨w3, hw3⟩ : ∃ w3, w2.alloc (.cells #[.int .i64 y.kind, .string y.path, .string y.dst, .string y.src, .int .i64 y.pos, vo, vn] 43) = w3 := ⟨_, rfl⟩
 have F3 : Fr None' w2 w3 := hw3 ▸ Fr.alloc None' w2 _
 have B3 : Box w3 w2.heap.size (.int .i64 y.kind) (.string y.path) (.string y.dst) (.string y.src) (.int .i64 y.pos) vo vn := hw3 ▸ Box.new w2 _ _ _ _ _ _ _
 have fW3 : Fr None' W w3 := f2.then7 F3
 have far1 : Far v vo y.old := fun _ k e e' => by have := (hO.ge e').2; have := g1 k e; omega
 have far2 : Far v vn y.new := fun _ k e e' => by have := (hO.ge e').2; have := g2 k e; omega
 obtain ⟨v', w4, hr, hO4, hf, hown⟩ := (hO.kept fW3).push B3 (s1.kept F3) (s2.kept F3) far1 far2 hn (by have := hw.size; have := fW3.size; omega)
 unfold Stepd
 rw [hw3]
 have hs3 := fW3.size
 obtain ⟨g', cap', hv'⟩ : ∃ g' cap', v' = .slice (some ⟨g', 0, none⟩) (R.length + 1) cap' := by
  rcases hO4.row.2 with ⟨_, e⟩ | ⟨g, cap, cur, e, _⟩
  ·simp at e
  ·exact ⟨g, cap, by rw [e, List.length_append]; rfl⟩
 have f4 : Fr (fun k => v.ownBlock = some k) W w4 := (fW3.any).then hf
 have hc4 : w4.heap[bl]? = some (.cells #[v] 22 (0, 0)) := f4.at hcell hv1
 have hown1 : ¬ v'.ownBlock = some bl := fun e => by
  rcases hown with h | h
  ·exact hv1 (h ▸ e)
  ·rw [h] at e; cases e; omega
 have hown2 : ¬ v'.ownBlock = some b := fun e => by
  rcases hown with h | h
  ·exact hv2 (h ▸ e)
  ·rw [h] at e; cases e; omega
 have hV' : ∀ u ∈ V ++ [(vo, vn)], ∀ k, (u.1.ownBlock = some k ∨ u.2.ownBlock = some k) → w.heap.size ≤ k ∧ k ≠ bl := fun u hu k e => by
  rcases List.mem_append.1 hu with hu | hu
  ·exact hV u hu k e
  ·have hu := List.mem_singleton.1 hu
   subst hu
   have := hw.size
   rcases e with e | e
   ·have := g1 k e; omega
   ·have := g2 k e; omega
 subst hv'
 have f5 : Fr (fun k => v.ownBlock = some k ∨ k = bl) W (w4.setCell ⟨bl, 0, none⟩ (.slice (some ⟨g', 0, none⟩) (R.length + 1) cap')) := (f4.mono (fun _ e => Or.inl e)).then ((Fr.setQ w4 bl 0 _).mono (fun _ e => Or.inr e))
 have hc5 : (w4.setCell ⟨bl, 0, none⟩ (.slice (some ⟨g', 0, none⟩) (R.length + 1) cap')).heap[bl]? = some (.cells #[.slice (some ⟨g', 0, none⟩) (R.length + 1) cap'] 22 (0, 0)) := by
  have := Go.heap_setCell_same w4 bl 0 _ _ (.slice (some ⟨g', 0, none⟩) (R.length + 1) cap') hc4
  simpa using this
 refine ⟨g', cap', w4, hr, ?_, ?_, ⟨f5.size, fun k o' hk ho => ?_⟩, Zh.of f5 (fun k hk e => ?_), hw.trans f5 (fun i e => Or.inr ?_), Nat.lt_of_lt_of_le hb f5.size, t + 1, _, _, ht, rfl, hc5, ?_, hown1, hown2, hV'⟩
 ·rw [World.cell?, hc4]; rfl
 ·intro o
  unfold World.frozen?
  rw [hc4]
  simp
 ·refine (f5.block k (Array.getElem?_eq_some_iff.1 hk).1 (fun e => ?_)).trans hk
  rcases e with e | e
  ·rcases hO.row.2 with ⟨h1, _⟩ | ⟨g, cap, cur, h1, _, hh, _⟩
   ·rw [h1] at e; cases e
   ·rw [h1] at e; cases e; rw [hh] at hk; cases hk; cases ho
  ·subst e; rw [hcell] at hk; cases hk; cases ho
 ·rcases hk with rfl | hk
  ·rcases e with e | e
   ·exact hv2 e
   ·omega
  ·rcases e with e | e
   ·have := (hO.ge e).1; omega
   ·omega
 ·rcases e with e | e
  ·exact (hO.ge e).1
  ·omega
 ·rw [← hR]
  exact hO4.fr (Fr.setQ w4 bl 0 _) (fun k e e' => hown1 (e' ▸ e)) (fun u hu k e _ e' => (hV' u hu k e).2 e')
theorem step_in9 {l m : Nat} {ops : Array Oper} {o : Oper} {a : Act} {K : Act → World → Prop} {Q : Exit → Act → World → Prop} {E : Prop} {w w' : World} {v : Value} {t : TypeId} (hgd : o.guard = none) (s x : Operand)
  (ho : o.op = .call { callee := .builtin .append, args := #[s, x], argTypes := #[t, t] }) {vs vx : Value} (hs : a.eval s = vs) (hx : a.eval x = vx) (hr : (Builtin.append_ #[t, t] o.type #[vs, vx]).run Tryz.prog w = .ok v w') (h : K (a.put o.dst v) w') :
  if Region.wanted o (yielded ops a.tmps) = true then o.wpIn (Fence.wide.inRound l) m Tryz.prog a w K Q else E := by
 rw [if_pos (by simp [Region.wanted, hgd])]
 unfold Oper.wpIn
 rw [show (Fence.wide.inRound l).round = some l from rfl, Oper.semAt_some _ _ _ (fun c e => by rw [ho] at e; cases e)]
 refine ⟨fun f hf => ?_, ?_⟩
 ·trivial
 unfold execOp
 simp only [ho, resolve, invoke, builtin, Sem.run_bind, Sem.run_pure, Result.andThen_ok, List.map_toArray, List.map_cons, List.map_nil, hs, hx, hr]
 exact h
def BoxOf (f : Nat → Nat × Value → Act) (x : Nat × Value) (a : Act) (W : World) : Prop := ∃ p y0 y1 y2 y3 y4 y5 y6, x.2 = .agg #[y0, y1, y2, y3, y4, y5, y6] ∧ a = f p x ∧ Box W p y0 y1 y2 y3 y4 y5 y6
theorem all_new (va : Option Addr) (n c : Nat) (L : List Pr) (w : World) (hl : L.length = n) (ha : PrsAt w va L) (hn : n ≤ 90000) (hs : ∀ x ∈ L, x.old.length ≤ 900000 ∧ x.new.length ≤ 900000) :
  Calls Tryz.prog 22 #[.slice va n c] w fun e w' => ∃ v V, e = .returned v ∧ (Zk w.heap.size w' v (L.reverse.map inv) V ∧ Fr None' w w') ∧ ∀ u ∈ V, ∀ k, (u.1.ownBlock = some k ∨ u.2.ownBlock = some k) → w.heap.size ≤ k := by
 obtain ⟨w1, hmk, F1, O1⟩ : ∃ w1, (Instr.makeSlice 22 (.int .i64 0) (.int .i64 n)).run Tryz.prog w = .ok (.slice (some ⟨w.heap.size, 0, none⟩) 0 n) w1 ∧ Fr None' w w1 ∧ Zk w.heap.size w1 (.slice (some ⟨w.heap.size, 0, none⟩) 0 n) [] [] := by
  obtain ⟨i0, hi, hz0, hz1, hz2⟩ := info_parts infoP
  have hmk := run_make (P := Tryz.prog) w 22 43 i0 _ Tryz.underlying22 hi hz0 .i64 .i64 0 (n : Int) (Int.le_refl _) (by omega) (by rw [hz2]; omega) (by omega)
  refine ⟨_, hmk, Fr.alloc _ _ _, rfl, ⟨rfl, Or.inr ⟨w.heap.size, n, _, rfl, Nat.le_refl _, heap_alloc_new w _, Nat.zero_le _, by unfold maxLen; omega, ?_, rfl⟩⟩, fun k x u e => by simp at e⟩
  simp [size_madeCells, hz1]
 obtain ⟨w2, hw2⟩ : ∃ w2, w1.alloc (.cells #[.slice (some ⟨w.heap.size, 0, none⟩) 0 n] 22) = w2 := ⟨_, rfl⟩
 have cB := backP_any va n c w2
 have HW2 : Hid (w1.alloc (.cells #[.slice (some ⟨w.heap.size, 0, none⟩) 0 n] 22) = w2) := hw2
 obtain ⟨U, hU1, hU2, hU3⟩ : ∃ U : List (Value × Value), U.length = L.length ∧ RowC w va (pcells L U) ∧ ∀ (k : Nat) (x : Pr) (u : Value × Value), L[k]? = some x → U[k]? = some u → Zy w u.1 x.old ∧ Zy w u.2 x.new := by
  cases L with
  | nil => exact ⟨[], rfl, fun j v h => by simp [pcells] at h, fun k x u e => by simp at e⟩
  | cons x L =>
   obtain ⟨g, o, rfl, _⟩ := ha 0 x rfl
   obtain ⟨U, h1, h2, h3⟩ := prs_cells (x :: L) o ha
   exact ⟨U, h1, fun j v h => ⟨g, o, rfl, h2 j v h⟩, h3⟩
 have i1 : (n : Int) ≤ 90000 := by omega
 refine (callsIn_wide (n := 3)).1 ?_
 refine callsIn_of_wp_marks Tryz.func22 rfl trivial ?_ rfl
 simp only [Tryz.ntmps22, List.size_toArray, List.length_cons, List.length_nil, Nat.reduceAdd, Nat.reduceSub, Array.replicate_succ, Array.replicate_zero, List.push_toArray, List.append_toArray, List.nil_append, List.cons_append]
 gi_wp2_with fail
 refine ⟨trivial, (callsIn_wide.2 cB).mono ?_⟩
 rintro e w3 ⟨rfl, hw3⟩
 clear cB
 gi_wp2_with fail
 have hsz : w2.heap.size < w3.heap.size := by rw [hw3]; simp
 have hs2 : w1.heap.size < w2.heap.size := by rw [← hw2]; simp
 have F2 : Fr None' w1 w2 := hw2 ▸ Fr.alloc None' w1 _
 have F3 : Fr None' w2 w3 := hw3 ▸ Fr.alloc None' w2 _
 have hlt1 : w.heap.size < w1.heap.size := (O1.ge (k := w.heap.size) rfl).2
 have hbox : w3.cell? ⟨w2.heap.size, 0, none⟩ = some (.slice va n c) := by rw [hw3, World.cell?, heap_alloc_new]; rfl
 have hcl : w3.heap[w1.heap.size]? = some (.cells #[.slice (some ⟨w.heap.size, 0, none⟩) 0 n] 22 (0, 0)) := F3.at (by rw [← hw2]; exact heap_alloc_new w1 _) (fun e => e)
 have hAt : AllAt w w1.heap.size w2.heap.size L U [] w3 := ⟨(F1.then7 F2).then7 F3, by omega, 0, _, [], Nat.zero_le _, rfl, hcl, (O1.kept F2).kept F3, (fun e => by have h : w.heap.size = w1.heap.size := Option.some.inj e; omega), (fun e => by have h : w.heap.size = w2.heap.size := Option.some.inj e; omega), fun u hu => by cases hu⟩
 have hva : L ≠ [] → ∀ a, va = some a → a.block < w.heap.size := fun hne a e => by
  cases L with
  | nil => exact absurd rfl hne
  | cons x L =>
   obtain ⟨g, o, e', hc⟩ := ha 0 x rfl
   rw [e'] at e
   cases e
   obtain ⟨_, _, h0, _⟩ := hc
   exact Zq h0
 have hsl : ∀ u ∈ U, (∃ a n c, u.1 = .slice a n c) ∧ ∃ a n c, u.2 = .slice a n c := fun u hu => by
  obtain ⟨j, hj, rfl⟩ := List.getElem_of_mem hu
  obtain ⟨⟨p1, c1, e1, _⟩, p2, c2, e2, _⟩ := hU3 j (L[j]'(by omega)) U[j] (List.getElem?_eq_getElem (by omega)) (List.getElem?_eq_getElem hj)
  exact ⟨⟨_, _, _, e1⟩, _, _, _, e2⟩
 rw [← hw3]
 refine range_box (α := Nat × Value) rfl (by omega) (gf := 54) (lb := #[.pointer (some ⟨w2.heap.size, 0, none⟩)]) rfl trivial (enters_of Tryz.func54 (by kernel_rfl) rfl) (backP_seq w2.heap.size _ c va L U n (fun k => k = w2.heap.size ∨ k < w.heap.size) (Or.inl rfl) (fun hne a e => Or.inr (hva hne a e)) hU1 hl hn hsl)
  (fun k hk => hk.elim) (fun W hb => ⟨(ofBelow hb).keepCell hbox (fun e => e), fun j v h => by
   obtain ⟨g, o, e, hc⟩ := hU2 j v h
   exact ⟨g, o, e, (((F1.then7 F2).then7 F3).then7 (ofBelow hb)).keepCell hc (fun e => e)⟩⟩) (fun h1 h2 => h1.trans h2) (fun W l o' hl' => Zh.put W (fun k hk => by
   rcases hk with rfl | hk
   ·omega
   ·omega) o') (fun _ => rfl)
  (AllAt w w1.heap.size w2.heap.size L U) (fun _ _ _ => False) (AllAt.abide (by have := F2.size; have := F3.size; omega)) (fun _ _ _ _ h _ => h) hAt
  (BoxOf (fun p x => { tmps := #[.slice va n c, undef, .slice none 0 0, .pointer (some ⟨w1.heap.size, 0, none⟩), undef, .pointer (some ⟨p, 0, none⟩), .slice va n c, .int .i64 n, .slice (some ⟨w.heap.size, 0, none⟩) 0 n, .slice va n c, .func (.func 54) #[] #[.pointer (some ⟨w2.heap.size, 0, none⟩)], .int .i64 x.1, x.2, undef, undef, undef, undef, undef, undef], defers := [] }))
  (fun A B f => Zh.of f (fun _ _ e => e)) (fun x a' A B h f => ?keep) ?assign ?body ?done ?stop
 case keep =>
  obtain ⟨p, y0, y1, y2, y3, y4, y5, y6, h1, h2, h3⟩ := h
  exact ⟨p, y0, y1, y2, y3, y4, y5, y6, h1, h2, h3.fr f (fun e => e _ _ _ h3)⟩
 case assign =>
  rintro l pre x W K ⟨m, hm, hp⟩ hK
  obtain ⟨t, rfl, hpre, rfl⟩ := uptoB_snoc hp
  obtain ⟨k, hk⟩ : ∃ k, t + k + 1 = L.length := ⟨L.length - 1 - t, by omega⟩
  have hkL : k < L.length := by omega
  have hel := elB_get (L := aggs L U) (t := t) (k := k) (by rw [aggs_length hU1]; exact hk)
  rw [aggs_get hU1 hkL] at hel
  obtain ⟨⟨pa, na, ca, hua⟩, pb, nb, cb, hub⟩ := hsl (U[k]'(by omega)) (List.getElem_mem _)
  rw [hua, hub] at hel
  rw [hel] at hK ⊢
  generalize L[k] = x at hK ⊢
  obtain ⟨xK, xP, xT, xF, xA, xO, xN⟩ := x
  simp only at hK ⊢
  clear hel hua hub hp hAt hbox hcl ha hU2 hU3 hs hsl
  gi_wp2_with fail
  exact hK _ _ (Fr.alloc _ _ _) ⟨W.heap.size, _, _, _, _, _, _, _, rfl, rfl, Box.new W _ _ _ _ _ _ _⟩
 case body =>
  rintro l pre x a' W hA ⟨m, hm, hp⟩ ⟨p, y0, y1, y2, y3, y4, y5, y6, hx2, rfl, hB⟩ hl'
  obtain ⟨t, rfl, hpre, rfl⟩ := uptoB_snoc hp
  obtain ⟨k, hk⟩ : ∃ k, t + k + 1 = L.length := ⟨L.length - 1 - t, by omega⟩
  have hkL : k < L.length := by omega
  have hel := elB_get (L := aggs L U) (t := t) (k := k) (by rw [aggs_length hU1]; exact hk)
  rw [aggs_get hU1 hkL] at hel
  obtain ⟨⟨pa, na, ca, hua⟩, pb, nb, cb, hub⟩ := hsl (U[k]'(by omega)) (List.getElem_mem _)
  obtain ⟨m', v, V, h1, h2, h3, h4, h5, h6, h7⟩ := hA.row
  have hmt : m' = t := by
   have := congrArg List.length (hpre.symm.trans h2)
   rw [Zd, Zd] at this
   exact this.symm
  subst hmt
  have hR := rev_take (L := L) (t := m') (k := k) hk
  have hRn : ((L.reverse.take m').map inv).length ≤ 90000 := by simp; omega
  obtain ⟨s1, s2⟩ := hU3 k L[k] (U[k]'(by omega)) (List.getElem?_eq_getElem hkL) (List.getElem?_eq_getElem (by omega))
  obtain ⟨z1, z2⟩ := hs L[k] (List.getElem_mem hkL)
  rw [hua] at s1
  rw [hub] at s2
  rw [hua, hub] at hel
  have HUP : Hid (pre ++ [elB (aggs L U) m'] = Zj (aggs L U) (m' + 1)) := hp
  have HStep : Hid (∀ (w5 : World) (vo vn : Value), Fr None' W w5 → Zy w5 vo (inv L[k]).old → Zy w5 vn (inv L[k]).new → (∀ k, vo.ownBlock = some k → W.heap.size ≤ k) → (∀ k, vn.ownBlock = some k → W.heap.size ≤ k) → Stepd w W w1.heap.size w2.heap.size L U m' v ((L.reverse.take m').map inv).length (.int .i64 (inv L[k]).kind) (.string (inv L[k]).path) (.string (inv L[k]).dst) (.string (inv L[k]).src) (.int .i64 (inv L[k]).pos) vo vn w5) := fun w5 vo vn f t1 t2 g1 g2 => all_step (U := U) hA.fr hA.lt hs2 (by omega) h3 h4 hR hRn h5 h6 h7 f t1 t2 g1 g2 (by omega)
  have c1 : W.cell? ⟨w1.heap.size, 0, none⟩ = some v := by rw [World.cell?, h3]; rfl
  have cT : ∀ u, Fr None' W u → Calls Tryz.prog 49 #[.agg #[.int .i64 L[k].kind, .string L[k].path, .string L[k].dst, .string L[k].src, .int .i64 L[k].pos, .slice pa na ca, .slice pb nb cb]] u fun e w5 => ∃ po co pn cn, e = .returned (.agg #[.int .i64 (inv L[k]).kind, .string (inv L[k]).path, .string (inv L[k]).dst, .string (inv L[k]).src, .int .i64 (inv L[k]).pos, .slice po (inv L[k]).old.length co, .slice pn (inv L[k]).new.length cn]) ∧ w5.cell? ⟨w1.heap.size, 0, none⟩ = some v ∧ (∀ o, (w5.alloc o).cell? ⟨w1.heap.size, 0, none⟩ = some v) ∧ Hid (Stepd w W w1.heap.size w2.heap.size L U m' v ((L.reverse.take m').map inv).length (.int .i64 (inv L[k]).kind) (.string (inv L[k]).path) (.string (inv L[k]).dst) (.string (inv L[k]).src) (.int .i64 (inv L[k]).pos) (.slice po (inv L[k]).old.length co) (.slice pn (inv L[k]).new.length cn) w5) := fun u f => by
   refine (invert_any L[k] _ _ u ((s1.kept hA.fr).kept f) ((s2.kept hA.fr).kept f) z1 z2).mono ?_
   rintro e w5 ⟨v', rfl, ⟨vo, vn, rfl, t1, t2, g1, g2⟩, f5⟩
   obtain ⟨po, co, rfl⟩ := t1.as
   obtain ⟨pn, cn, rfl⟩ := t2.as
   have fW := f.then7 f5
   exact ⟨po, co, pn, cn, rfl, fW.keepCell c1 (fun e => e), (fun o => (fW.then7 (Fr.alloc None' w5 o)).keepCell c1 (fun e => e)), HStep.out w5 _ _ fW t1 t2 (fun k e => Nat.le_trans f.size (g1 k e)) (fun k e => Nat.le_trans f.size (g2 k e))⟩
  rw [hel] at hx2
  simp at hx2
  obtain ⟨rfl, rfl, rfl, rfl, rfl, rfl, rfl⟩ := hx2
  obtain ⟨b0, b1, b2, b3, b4, b5, b6⟩ := hB.cells
  rw [HUP.out, hel]
  obtain ⟨vz, cz, hv, _⟩ := h4.slice
  generalize ((L.reverse.take m').map inv).length = rn at cT hv
  clear hR hRn s1 s2 z1 z2 HStep hel hua hub hB h4 h5 h6 h7 h3 hA hp HUP hAt hcl hbox
  generalize inv L[k] = X at cT
  generalize L[k] = x at b0 b1 b2 b3 b4 b5 b6 cT
  obtain ⟨xK, xP, xT, xF, xA, xO, xN⟩ := x
  obtain ⟨XK, XP, XT, XF, XA, XO, XN⟩ := X
  simp only at b0 b1 b2 b3 b4 b5 b6 cT
  generalize XO.length = xo at cT
  generalize XN.length = xn at cT
  subst hv
  dsimp only
  clear ha hs hU2 hU3 hva hsl hk hkL hm hpre h1 h2 F1 O1 F2 F3 hmk
  gi_wp2_with fail
  refine wpIn_region_any (by kernel_rfl) ?_
  change wpAnyIn _ _ _ _ _ _ _ _ _ (World.drew _)
  repeat' (first
   | (refine wpAnyIn_done (by decide +kernel) ?_ _)
   | (refine wpAnyIn_ready (rs := [0, 1]) (by decide +kernel) (by simp) ?_; refine AllReadyIn.cons rfl (fun K hK => ?_) (AllReadyIn.cons rfl (fun K hK => ?_) AllReadyIn.nil))
   | (refine wpAnyIn_ready (rs := [0, 2]) (by decide +kernel) (by simp) ?_; refine AllReadyIn.cons rfl (fun K hK => ?_) (AllReadyIn.cons rfl (fun K hK => ?_) AllReadyIn.nil))
   | (refine wpAnyIn_ready (rs := [0, 3]) (by decide +kernel) (by simp) ?_; refine AllReadyIn.cons rfl (fun K hK => ?_) (AllReadyIn.cons rfl (fun K hK => ?_) AllReadyIn.nil))
   | (refine wpAnyIn_ready (rs := [0]) (by decide +kernel) (by simp) ?_; refine AllReadyIn.cons rfl (fun K hK => ?_) AllReadyIn.nil)
   | (refine wpAnyIn_ready (rs := [1]) (by decide +kernel) (by simp) ?_; refine AllReadyIn.cons rfl (fun K hK => ?_) AllReadyIn.nil)
   | (refine wpAnyIn_ready (rs := [2]) (by decide +kernel) (by simp) ?_; refine AllReadyIn.cons rfl (fun K hK => ?_) AllReadyIn.nil)
   | (refine wpAnyIn_ready (rs := [3]) (by decide +kernel) (by simp) ?_; refine AllReadyIn.cons rfl (fun K hK => ?_) AllReadyIn.nil)
   | (refine wpAnyIn_ready (rs := [4]) (by decide +kernel) (by simp) ?_; refine AllReadyIn.cons rfl (fun K hK => ?_) AllReadyIn.nil)
   | (refine wpAnyIn_ready (rs := [5]) (by decide +kernel) (by simp) ?_; refine AllReadyIn.cons rfl (fun K hK => ?_) AllReadyIn.nil)
   | (obtain ⟨g', cap', w6, hr, k1, k2, HF⟩ := HSt.out
      refine step_in9 rfl _ _ rfl rfl rfl hr ?_
      refine hK _ _ ?_
      clear hK K hr HSt)
   | (go_simp
      refine ⟨trivial, (CallsIn.inRound l (callsIn_wide.2 (cT _ (Fr.drew None' W)))).mono ?_⟩
      rintro e w5 ⟨po, co, pn, cn, rfl, j1, j2, HSt⟩
      refine hK _ _ ?_
      clear hK K)
   | (go_simp; refine hK _ _ ?_; clear hK K))
  all_goals
   gi_wp2_with fail
   exact HF.out
 case done =>
  rintro D xs W hxs hA hK hD
  obtain ⟨m', v, V, h1, h2, h3, h4, h5, h6, h7⟩ := hA.row
  have hmn : m' = n := by
   have := congrArg List.length (hxs.symm.trans h2)
   rw [Zd, Zd] at this
   exact this.symm
  subst hmn
  rw [List.take_of_length_le (by rw [List.length_reverse]; omega)] at h4
  have c1 : W.cell? ⟨w1.heap.size, 0, none⟩ = some v := by rw [World.cell?, h3]; rfl
  obtain ⟨vz, cz, hv, _⟩ := h4.slice
  have HM : Hid (Zk w.heap.size (W.putObj D (.deferred none)) v (L.reverse.map inv) V ∧ Fr None' w (W.putObj D (.deferred none))) := by
   have f : Fr (fun k => None' k ∨ (w3.heap.size ≤ k ∧ Za W k)) W (W.putObj D (.deferred none)) := Fr.putObj _ (Or.inr ⟨hD, fun c t f e => by rw [hK] at e; cases e⟩) _
   exact ⟨h4.abide f, hA.fr.trans f (fun i e => e.elim (fun e => e.elim) (fun e => Or.inr (by have := F1.size; have := F2.size; have := F3.size; omega)))⟩
  have HV : Hid (∀ u ∈ V, ∀ k, (u.1.ownBlock = some k ∨ u.2.ownBlock = some k) → w.heap.size ≤ k ∧ k ≠ w1.heap.size) := h7
  generalize (L.reverse.map inv).length = rn at hv
  subst hv
  clear h1 h2 h3 h4 h5 h6 h7 hA hAt hbox hcl ha hs hU2 hU3 hva hsl hxs
  gi_wp2_with fail
  refine ⟨by simp, .inl ⟨_, _, rfl, run_takeDeferred hK, ?_⟩⟩
  exact ⟨_, results_tmp (show Tryz.f22.results = #[.tmp 2] from rfl) _ _ _, .slice vz rn cz, V, rfl, HM.out, fun u hu k e => (HV.out u hu k e).1⟩
 case stop => exact fun D c pre W _ h => h.elim
theorem all_any (va : Option Addr) (n c : Nat) (L : List Pr) (w : World) (hl : L.length = n) (ha : PrsAt w va L) (hn : n ≤ 90000) (hs : ∀ x ∈ L, x.old.length ≤ 900000 ∧ x.new.length ≤ 900000) :
  Calls Tryz.prog 22 #[.slice va n c] w fun e w' => ∃ v V, e = .returned v ∧ Zk w.heap.size w' v (L.reverse.map inv) V ∧ Fr None' w w' :=
 (all_new va n c L w hl ha hn hs).mono fun _ _ ⟨v, V, h1, h2, _⟩ => ⟨v, V, h1, h2⟩
end Go.Proofs.YtbnfjjjdnbcehaaGreatDoor
