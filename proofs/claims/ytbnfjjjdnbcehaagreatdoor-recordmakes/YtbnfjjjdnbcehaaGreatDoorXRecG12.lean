/- What is proved here: contracts for RecordMakes. Conditions: as named. -/
import Derived.Test.YtbnfjjjdnbcehaaGreatDoorX30RecC12
import Derived.Test.YtbnfjjjdnbcehaaGreatDoorXAll9
import Derived.Test.YtbnfjjjdnbcehaaGreatDoorX37Settle11
import Derived.Test.YtbnfjjjdnbcehaaGreatDoorX40Swap11
set_option maxHeartbeats 16000000
namespace Go.Proofs.YtbnfjjjdnbcehaaGreatDoor
open Go.RowKit Go.Shelf
set_option maxRecDepth 100000
attribute [local go_sem] Oper.semAt_some
def EntU (w : World) (va : Option Addr) (L : List En) (U : List Value) : Prop := ∀ k x u, L[k]? = some x → U[k]? = some u → ∃ g o, va = some ⟨g, o, none⟩ ∧ w.cell? ⟨g, o + k * 4, none⟩ = some (.string x.path) ∧ w.cell? ⟨g, o + k * 4 + 1, none⟩ = some (.int .i64 x.kind) ∧ w.cell? ⟨g, o + k * 4 + 2, none⟩ = some u ∧ w.cell? ⟨g, o + k * 4 + 3, none⟩ = some (.string x.data)
theorem EntU.kept {w w' : World} {va : Option Addr} {L : List En} {U : List Value} (h : EntU w va L U) (f : Fr None' w w') : EntU w' va L U := fun k x u e1 e2 => by
 obtain ⟨g, o, e, c0, c1, c2, c3⟩ := h k x u e1 e2
 exact ⟨g, o, e, f.keepCell c0 (fun e => e), f.keepCell c1 (fun e => e), f.keepCell c2 (fun e => e), f.keepCell c3 (fun e => e)⟩
theorem Zh.ents {R : Nat → Prop} {w w' : World} {va : Option Addr} {L : List En} {U : List Value} (h : Zh R w w') (he : EntU w va L U) (hR : ∀ a, va = some a → R a.block) : EntU w' va L U := fun k x u e1 e2 => by
 obtain ⟨g, o, e, c0, c1, c2, c3⟩ := he k x u e1 e2
 have hr : R g := hR ⟨g, o, none⟩ e
 exact ⟨g, o, e, h.cell c0 hr, h.cell c1 hr, h.cell c2 hr, h.cell c3 hr⟩
theorem Z0.units {w : World} {va : Option Addr} : ∀ {L : List En}, Z0 w va L → ∃ U : List Value, U.length = L.length ∧ EntU w va L U ∧ ∀ (k : Nat) (x : En) (u : Value), L[k]? = some x → U[k]? = some u → Zy w u x.lines := fun {L} h => by
 have key : ∀ n, n ≤ L.length → ∃ U : List Value, U.length = n ∧ ∀ (k : Nat) (x : En) (u : Value), k < n → L[k]? = some x → U[k]? = some u → (∃ g o, va = some ⟨g, o, none⟩ ∧ w.cell? ⟨g, o + k * 4, none⟩ = some (.string x.path) ∧ w.cell? ⟨g, o + k * 4 + 1, none⟩ = some (.int .i64 x.kind) ∧ w.cell? ⟨g, o + k * 4 + 2, none⟩ = some u ∧ w.cell? ⟨g, o + k * 4 + 3, none⟩ = some (.string x.data)) ∧ Zy w u x.lines := fun n => by
  induction n with
  | zero => exact fun _ => ⟨[], rfl, fun k x u h => by omega⟩
  | succ n ih =>
   intro hn
   obtain ⟨U, hU, h1⟩ := ih (by omega)
   obtain ⟨g, o, e, vl, c0, c1, c2, c3, s⟩ := h.get (k := n) (by omega)
   refine ⟨U ++ [vl], by simp [hU], fun k x u hk e1 e2 => ?_⟩
   by_cases hkn : k = n
   ·subst hkn
    rw [List.getElem?_append_right (by omega), hU, Nat.sub_self] at e2
    simp at e2
    subst e2
    rw [List.getElem?_eq_getElem (by omega)] at e1
    cases e1
    exact ⟨⟨g, o, e, c0, c1, c2, c3⟩, s⟩
   ·rw [List.getElem?_append_left (by omega)] at e2
    exact h1 k x u (by omega) e1 e2
 obtain ⟨U, hU, h1⟩ := key L.length (Nat.le_refl _)
 exact ⟨U, hU, fun k x u e1 e2 => (h1 k x u (List.getElem?_eq_some_iff.1 e1).1 e1 e2).1, fun k x u e1 e2 => (h1 k x u (List.getElem?_eq_some_iff.1 e1).1 e1 e2).2⟩
def aggE (L : List En) (U : List Value) : List Value := List.zipWith (fun x u => .agg #[.string x.path, .int .i64 x.kind, u, .string x.data]) L U
theorem Yr {L : List En} {U : List Value} (h : U.length = L.length) : (aggE L U).length = L.length := by simp [aggE, h]
theorem aggE_get {L : List En} {U : List Value} (h : U.length = L.length) {k : Nat} (hk : k < L.length) : (aggE L U)[k]'(by rw [Yr h]; exact hk) = .agg #[.string L[k].path, .int .i64 L[k].kind, U[k]'(by omega), .string L[k].data] := by
 simp [aggE]
theorem backE_any (va : Option Addr) (n c : Nat) (w : World) : Calls Tryz.prog 39 #[.slice va n c] w fun e w' => e = .returned (.func (.func 67) #[] #[.pointer (some ⟨w.heap.size, 0, none⟩)]) ∧ w' = w.alloc (.cells #[.slice va n c] 32) := by
 go_enter Tryz.func39, Tryz.ntmps39
 go_wp2_with fail
 go_ret
 exact ⟨rfl, rfl⟩
theorem valuesE_any (va : Option Addr) (n c : Nat) (w : World) : Calls Tryz.prog 42 #[.slice va n c] w fun e w' => e = .returned (.func (.func 69) #[] #[.pointer (some ⟨w.heap.size, 0, none⟩)]) ∧ w' = w.alloc (.cells #[.slice va n c] 32) := by
 go_enter Tryz.func42, Tryz.ntmps42
 go_wp2_with fail
 go_ret
 exact ⟨rfl, rfl⟩
theorem backE_seq (b n c : Nat) (va : Option Addr) (L : List En) (U : List Value) (N : Nat) (Rk : Nat → Prop) (hRb : Rk b) (hRa : L ≠ [] → ∀ a, va = some a → Rk a.block) (hU : U.length = L.length) (hN : L.length = N) (hL : N ≤ 90000) (hsl : ∀ u ∈ U, ∃ a n c, u = .slice a n c) : SeqM (α := Nat × Value) Fence.wide n Tryz.prog 67 #[.pointer (some ⟨b, 0, none⟩)] (fun x => #[.int .i64 x.1, x.2]) None' (Zh Rk)
  (fun xs => xs = Zj (aggE L U) N) (fun pre => ∃ m, m ≤ N ∧ pre = Zj (aggE L U) m) (fun W => W.cell? ⟨b, 0, none⟩ = some (.slice va N c) ∧ EntU W va L U) := fun l J Jx W hB hJ hJx hY h0 => by
 obtain ⟨hb, hr⟩ := hB
 have HN : Hid (L.length = N ∧ U.length = L.length) := ⟨hN, hU⟩
 have HSL : Hid (∀ u ∈ U, ∃ a n c, u = .slice a n c) := hsl
 have i1 : (N : Int) ≤ 90000 := by omega
 refine callsIn_of_wp Tryz.func67 rfl trivial ?_ rfl
 simp only [Tryz.ntmps67, List.size_toArray, List.length_cons, List.length_nil, Nat.reduceAdd, Nat.reduceSub, Array.replicate_succ, Array.replicate_zero, List.push_toArray, List.append_toArray, List.nil_append, List.cons_append]
 clear hN hU hsl
 gi_wp2
 gi_loopw [3] (fun v wr => ∃ k m : Nat, m + k = N ∧ v = .int .i64 ((k : Int) - 1) ∧ Hid (J (Zj (aggE L U) m) wr) ∧ wr.cell? ⟨b, 0, none⟩ = some (.slice va N c) ∧ Hid (EntU wr va L U)) (fun v _ => (intOf v + 1).toNat)
 case atStart => exact ⟨N, 0, by omega, rfl, h0, hb, hr⟩
 case round =>
  clear hb hr h0
  obtain ⟨k, m, hkm, rfl, HJ, hb, HR⟩ := hrel
  cases k with
  | zero =>
   gi_wp2_with fail
   go_end0
   exact ⟨⟨_, rfl⟩, .inl ⟨_, by rw [show m = N by omega], HJ.out⟩⟩
  | succ k =>
   have hkB : k < L.length := by rw [HN.out.1]; omega
   have hkU : k < U.length := by rw [HN.out.2]; exact hkB
   obtain ⟨g, o, rfl, c0, c1, c2, c3⟩ := HR.out k L[k] U[k] (List.getElem?_eq_getElem hkB) (List.getElem?_eq_getElem hkU)
   have e1 : ((k + 1 : Nat) : Int) - 1 = (k : Int) := by omega
   rw [e1]
   have i3 : (0 : Int) ≤ (k : Int) := by omega
   have i4 : (k : Int) < (N : Int) := by omega
   have hel := elB_get (L := aggE L U) (t := m) (k := k) (by rw [Yr HN.out.2, HN.out.1]; omega)
   rw [aggE_get HN.out.2 hkB] at hel
   obtain ⟨pa, na, ca, hua⟩ := HSL.out U[k] (List.getElem_mem hkU)
   rw [hua] at hel
   rw [hua] at c2
   generalize L[k] = x at c0 c1 c3 hel
   obtain ⟨P, K, lO, D⟩ := x
   simp only at c0 c1 c3 hel
   have hup : Zj (aggE L U) m ++ [(k, .agg #[.string P, .int .i64 K, .slice pa na ca, .string D])] = Zj (aggE L U) (m + 1) := by rw [uptoB_succ, hel]
   obtain ⟨fn, tmps, assign, body, hy, hR⟩ := hY (Zj (aggE L U) m) (k, .agg #[.string P, .int .i64 K, .slice pa na ca, .string D]) wr HJ.out ⟨m + 1, by omega, hup⟩
   dsimp only at hy
   have HU : Hid (Zj (aggE L U) m ++ [(k, .agg #[.string P, .int .i64 K, .slice pa na ca, .string D])] = Zj (aggE L U) (m + 1)) := hup
   have HRr : Hid (EntU wr (some ⟨g, o, none⟩) L U) := HR.out
   clear hup hel HR HJ hY hua
   gi_wp2_with fail
   refine ⟨(fun h => by cases h), hR.mono ?_⟩
   clear hy hR
   rintro e W' (⟨rfl, hJ', hK⟩ | ⟨rfl, hJx'⟩)
   ·rw [HU.out] at hJ'
    have HJ' : Hid (J (Zj (aggE L U) (m + 1)) W') := hJ'
    have hb' := hK.cell hb hRb
    have HR' : Hid (EntU W' (some ⟨g, o, none⟩) L U) := hK.ents HRr.out (hRa (fun e => by rw [e] at hkB; cases hkB))
    clear hJ' hK HRr hb c0 c1 c2 c3
    gi_wp2_with fail
    go_roundw
    case rel => exact ⟨k, m + 1, by omega, rfl, HJ'.out, hb', HR'.out⟩
    case measure => simp [intOf]
   ·gi_wp2_with fail
    refine bodyPost_ret (results_none rfl _ _ _) rfl ?_
    rw [HU.out] at hJx'
    exact ⟨⟨_, rfl⟩, .inr ⟨_, ⟨m + 1, by omega, rfl⟩, hJx'⟩⟩
theorem take_snoc {L : List Value} {pre : List Value} {x : Value} {m : Nat} (hm : m ≤ L.length) (h : pre ++ [x] = L.take m) : ∃ t, m = t + 1 ∧ pre = L.take t ∧ L[t]? = some x := by
 have hl := congrArg List.length h
 rw [List.length_append, List.length_take] at hl
 cases m with
 | zero => simp at hl
 | succ t =>
  have ht : t < L.length := by omega
  rw [List.take_succ_eq_append_getElem ht] at h
  obtain ⟨h1, h2⟩ := List.append_inj' h rfl
  refine ⟨t, rfl, h1, ?_⟩
  rw [List.getElem?_eq_getElem ht]
  simp at h2
  rw [h2]
theorem valuesE_seq (b n c : Nat) (va : Option Addr) (L : List En) (U : List Value) (N : Nat) (Rk : Nat → Prop) (hRa : L ≠ [] → ∀ a, va = some a → Rk a.block) (hU : U.length = L.length) (hN : L.length = N) (hL : N ≤ 90000) (hsl : ∀ u ∈ U, ∃ a n c, u = .slice a n c) : SeqM (α := Value) Fence.wide n Tryz.prog 69 #[.pointer (some ⟨b, 0, none⟩)] (fun x => #[x]) None' (Zh Rk)
  (fun xs => xs = aggE L U) (fun pre => ∃ m, m ≤ N ∧ pre = (aggE L U).take m) (fun W => W.cell? ⟨b, 0, none⟩ = some (.slice va N c) ∧ EntU W va L U) := fun l J Jx W hB hJ hJx hY h0 => by
 obtain ⟨hb, hr⟩ := hB
 have HN : Hid (L.length = N ∧ U.length = L.length) := ⟨hN, hU⟩
 have HSL : Hid (∀ u ∈ U, ∃ a n c, u = .slice a n c) := hsl
 have HJb := Zz hJ
 have i1 : (N : Int) ≤ 90000 := by omega
 refine callsIn_of_wp Tryz.func69 rfl trivial ?_ rfl
 simp only [Tryz.ntmps69, List.size_toArray, List.length_cons, List.length_nil, Nat.reduceAdd, Nat.reduceSub, Array.replicate_succ, Array.replicate_zero, List.push_toArray, List.append_toArray, List.nil_append, List.cons_append]
 clear hN hU hsl hJ
 gi_wp2
 gi_loopw [7] (fun v wr => ∃ k : Nat, k ≤ N ∧ v = .int .i64 (k : Int) ∧ Hid (J ((aggE L U).take k) wr) ∧ Hid (EntU wr va L U)) (fun v _ => N - (intOf v).toNat)
 case atStart => exact ⟨0, Nat.zero_le _, rfl, h0, hr⟩
 case round =>
  clear hb hr h0
  obtain ⟨k, hk, rfl, HJ, HR⟩ := hrel
  by_cases hlt : k < N
  ·have hkB : k < L.length := by rw [HN.out.1]; omega
   have hkU : k < U.length := by rw [HN.out.2]; exact hkB
   obtain ⟨g, o, rfl, c0, c1, c2, c3⟩ := HR.out k L[k] U[k] (List.getElem?_eq_getElem hkB) (List.getElem?_eq_getElem hkU)
   have i3 : (0 : Int) ≤ (k : Int) := by omega
   have i4 : (k : Int) < (N : Int) := by omega
   have hkA : k < (aggE L U).length := by rw [Yr HN.out.2]; exact hkB
   have hup := List.take_succ_eq_append_getElem hkA
   rw [aggE_get HN.out.2 hkB] at hup
   obtain ⟨pa, na, ca, hua⟩ := HSL.out U[k] (List.getElem_mem hkU)
   rw [hua] at hup
   rw [hua] at c2
   generalize L[k] = x at c0 c1 c3 hup
   obtain ⟨P, K, lO, D⟩ := x
   simp only at c0 c1 c3 hup
   obtain ⟨w1, hw1⟩ : ∃ w1, wr.alloc (.cells #[.string P, .int .i64 K, .slice pa na ca, .string D] 45) = w1 := ⟨_, rfl⟩
   have F1 : Fr None' wr w1 := hw1 ▸ Fr.alloc None' wr _
   have B1 : w1.heap[wr.heap.size]? = some (.cells #[.string P, .int .i64 K, .slice pa na ca, .string D] 45) := by rw [← hw1]; exact heap_alloc_new wr _
   obtain ⟨b0, b1, b2, b3, _⟩ := Zo B1
   obtain ⟨fn, tmps, assign, body, hy, hR⟩ := hY ((aggE L U).take k) (.agg #[.string P, .int .i64 K, .slice pa na ca, .string D]) w1 (HJb.out _ _ _ HJ.out F1) ⟨k + 1, by omega, hup.symm⟩
   have HU := Zz hup
   have HRr : Hid (EntU w1 (some ⟨g, o, none⟩) L U) := HR.out.kept F1
   clear hup HR HJ hY hua F1 B1
   gi_wp2_with fail
   refine ⟨(fun h => by cases h), hR.mono ?_⟩
   clear hy hR
   rintro e W' (⟨rfl, hJ', hK⟩ | ⟨rfl, hJx'⟩)
   ·rw [← HU.out] at hJ'
    have HJ' := Zz hJ'
    have HR' : Hid (EntU W' (some ⟨g, o, none⟩) L U) := hK.ents HRr.out (hRa (fun e => by rw [e] at hkB; cases hkB))
    clear hJ' hK HRr c0 c1 c2 c3 b0 b1 b2 b3 hw1
    gi_wp2_with fail
    go_roundw
    case rel => exact ⟨k + 1, by omega, by go_num, HJ'.out, HR'.out⟩
    case measure => simp [intOf]; omega
   ·gi_wp2_with fail
    refine bodyPost_ret (results_none rfl _ _ _) rfl ?_
    rw [← HU.out] at hJx'
    exact ⟨⟨_, rfl⟩, .inr ⟨_, ⟨k + 1, by omega, rfl⟩, hJx'⟩⟩
  ·have e : k = N := by omega
   subst e
   have HJ2 := Zz (show J (aggE L U) wr from by
    have h := HJ.out
    rw [List.take_of_length_le (by rw [Yr HN.out.2, HN.out.1]; exact Nat.le_refl _)] at h
    exact h)
   gi_wp2_with fail
   go_end0
   exact ⟨⟨_, rfl⟩, .inl ⟨_, rfl, HJ2.out⟩⟩
structure GatAt (w4 : World) (bx ib : Nat) (L : List Pr) (W : World) : Prop where
 fr : Fr (fun k => k = bx) w4 W
 lt : bx < w4.heap.size
 ibo : ¬ ib = bx ∧ ib < W.heap.size
 row : ∃ v V, W.heap[bx]? = some (.cells #[v] 22 (0, 0)) ∧ Zk w4.heap.size W v L V ∧ ¬ v.ownBlock = some ib ∧ ∀ u ∈ V, ∀ k, (u.1.ownBlock = some k ∨ u.2.ownBlock = some k) → w4.heap.size ≤ k
theorem GatAt.start {w4 : World} {bx ib : Nat} (h : w4.heap[bx]? = some (.cells #[.slice none 0 0] 22 (0, 0))) (hb : ¬ ib = bx) (hl : ib < w4.heap.size) : GatAt w4 bx ib [] w4 :=
 ⟨Fr.refl _ _, (Array.getElem?_eq_some_iff.1 h).1, ⟨hb, hl⟩, _, [], h, Zk.nil _ _, (fun e => by cases e), fun u hu => by cases hu⟩
theorem GatAt.kept {w4 W W' : World} {bx ib : Nat} {L : List Pr} (h : GatAt w4 bx ib L W) (f : Fr None' W W') : GatAt w4 bx ib L W' := by
 obtain ⟨v, V, h1, h2, h3, h4⟩ := h.row
 exact ⟨h.fr.trans f (fun i e => e.elim), h.lt, ⟨h.ibo.1, Nat.lt_of_lt_of_le h.ibo.2 f.size⟩, v, V, f.at h1 (fun e => e), h2.kept f, h3, h4⟩
theorem GatAt.turn {w4 W W' : World} {bx ib : Nat} {L : List Pr} (h : GatAt w4 bx ib L W) (f : Fr None' W W') (hl : W.heap.size < W'.heap.size) : GatAt w4 bx W.heap.size L W' := by
 obtain ⟨v, V, h1, h2, h3, h4⟩ := h.row
 exact ⟨h.fr.trans f (fun i e => e.elim), h.lt, ⟨fun e => by have := (Array.getElem?_eq_some_iff.1 h1).1; omega, hl⟩, v, V, f.at h1 (fun e => e), h2.kept f, (fun e => by have := (h2.ge e).2; omega), h4⟩
theorem GatAt.abide {base : Nat} {w4 : World} {bx ib : Nat} {L : List Pr} {A B : World} (h : GatAt w4 bx ib L A) (hb : w4.heap.size ≤ base) (f : Fr (fun k => None' k ∨ (base ≤ k ∧ Za A k)) A B) : GatAt w4 bx ib L B := by
 obtain ⟨v, V, h1, h2, h3, h4⟩ := h.row
 exact ⟨h.fr.trans f (fun i e => e.elim (fun e => e.elim) (fun e => Or.inr (by omega))), h.lt, ⟨h.ibo.1, Nat.lt_of_lt_of_le h.ibo.2 f.size⟩, v, V, f.at h1 (fun e => e.elim (fun e => e) (fun e => e.2 _ _ _ h1)), h2.abide f, h3, h4⟩
theorem GatAt.keepB {w4 W W' : World} {bx ib n : Nat} {L L' : List Pr} (h : GatAt w4 bx ib L W) (h' : GatAt w4 bx ib L' W') (hs : W.heap.size ≤ W'.heap.size) (hi : W'.heap[ib]? = W.heap[ib]?) (hn : n ≤ bx) : Zh (fun k => k = ib ∨ k < n) W W' := by
 refine ⟨hs, fun k hk hl => ?_⟩
 rcases hk with rfl | hk
 ·exact hi
 ·have := h.lt
  rw [h.fr.block k (by omega) (by omega), h'.fr.block k (by omega) (by omega)]
theorem addOwn12 {base b2 : Nat} {w : World} {v v2 : Value} {L B : List Pr} {V U : List (Value × Value)} (h : Zk base w v L V) (k : Zk b2 w v2 B U) (hf : ∀ u ∈ U, ∀ j, (u.1.ownBlock = some j ∨ u.2.ownBlock = some j) → ¬ v.ownBlock = some j) (hbase : base ≤ w.heap.size) (hlen : L.length + B.length ≤ 100000) :
  ∃ v' w', (Builtin.append_ #[22, 22] 22 #[v, v2]).run Tryz.prog w = .ok v' w' ∧ Zk base w' v' (L ++ B) (V ++ U) ∧ Fr (fun k => v.ownBlock = some k) w w' ∧ (v'.ownBlock = v.ownBlock ∨ v'.ownBlock = some w.heap.size) := by
 rcases k.row.2 with ⟨rfl, h0⟩ | ⟨g, cap, cur, rfl, hb, hh, hc, _, hs, ht⟩
 ·have e2 : B = [] := List.length_eq_zero_iff.1 h0
  subst e2
  have e3 : U = [] := List.length_eq_zero_iff.1 k.len
  subst e3
  obtain ⟨i0, hi, _⟩ := info_parts infoP
  exact ⟨v, w, run_append_owned_none (P := Tryz.prog) (w := w) base 22 22 43 i0 7 Tryz.underlying22 hi v L.length (pcells L V) h.row, by simpa using h, Fr.refl _ _, Or.inl rfl⟩
 ·exact h.append (ad := ⟨g, 0, none⟩) (c := cap) (B := B) (U := U) rfl k.len (fun j u hj => by
   rw [Addr.add_lit, Nat.zero_add]
   have hjl := (List.getElem?_eq_some_iff.1 hj).1
   rw [pcells_length B U k.len] at hjl
   rw [← ht, List.getElem?_take, if_pos hjl] at hj
   rw [World.cell?, hh]
   simpa using hj) (fun i x u e1 e2 => by
   obtain ⟨s1, s2, _, _⟩ := k.str i x u e1 e2
   have hu := List.mem_of_getElem? e2
   exact ⟨s1, s2, fun _ j e e' => hf u hu j (Or.inl e) e', fun _ j e e' => hf u hu j (Or.inr e) e'⟩) hlen hbase
structure GatPost (w4 : World) (bx ib : Nat) (L : List Pr) (W W' : World) : Prop where
 at' : GatAt w4 bx ib L W'
 oth : KeepsOthers W W'
 ibk : W'.heap[ib]? = W.heap[ib]?
 box : ∀ (k : Nat) (cs : Array Value), W.heap[k]? = some (Obj.cells cs 45 (0, 0)) → W'.heap[k]? = some (Obj.cells cs 45 (0, 0))
theorem GatPost.trans {w4 : World} {bx ib : Nat} {L L' : List Pr} {A B C : World} (h : GatPost w4 bx ib L A B) (k : GatPost w4 bx ib L' B C) : GatPost w4 bx ib L' A C := ⟨k.at', h.oth.trans k.oth, k.ibk.trans h.ibk, fun i cs e => k.box i cs (h.box i cs e)⟩
theorem GatAt.none' {w4 : World} {bx ib : Nat} {L : List Pr} {W W' : World} (h : GatAt w4 bx ib L W) (f : Fr None' W W') : GatPost w4 bx ib L W W' := ⟨h.kept f, ⟨f.size, fun _ _ hk _ => f.at hk (fun e => e)⟩, f.block ib h.ibo.2 (fun e => e), fun _ _ e => f.at e (fun e => e)⟩
theorem gather12_any {w4 : World} {bx ib : Nat} {L : List Pr} {W : World} (h : GatAt w4 bx ib L W) {w1 : World} (f1 : Fr None' W w1) {b2 : Nat} {v2 : Value} {B : List Pr} {U : List (Value × Value)} (hO : Zk b2 w1 v2 B U) (hU : ∀ u ∈ U, ∀ k, (u.1.ownBlock = some k ∨ u.2.ownBlock = some k) → W.heap.size ≤ k) (hlen : L.length + B.length ≤ 90000) :
  Calls Tryz.prog 37 #[v2, .pointer (some ⟨bx, 0, none⟩)] w1 fun e w2 => e = .returned (.tuple #[]) ∧ GatPost w4 bx ib (L ++ B) W w2 := by
 obtain ⟨v, V, h1, h2, h0, h3⟩ := h.row
 have hW := h.fr.size
 have hf := f1.size
 have h1w := f1.at h1 (fun e => e)
 obtain ⟨v', w2, hr, O2, F2, how⟩ := addOwn12 (h2.kept f1) hO (fun u hu j e e' => by have h4 := hU u hu j e; have h5 := (h2.ge e').2; omega) (by omega) (by omega)
 have hvb : ¬ v.ownBlock = some bx := fun e => by have := (h2.ge e).1; have := h.lt; omega
 have hvi : ¬ v'.ownBlock = some ib := fun e => by
  rcases how with h4 | h4
  ·exact h0 (h4 ▸ e)
  ·rw [h4] at e; cases e; have := h.ibo.2; omega
 have h1x := F2.at h1w hvb
 have c1 : w1.cell? ⟨bx, 0, none⟩ = some v := by rw [World.cell?, h1w]; rfl
 have c2 : w2.cell? ⟨bx, 0, none⟩ = some v := by rw [World.cell?, h1x]; rfl
 have z2 : ∀ o, w2.frozen? ⟨bx, o, none⟩ = false := fun o => by unfold World.frozen?; rw [h1x]; simp
 obtain ⟨p2, n2, d2, rfl⟩ : ∃ p n c, v2 = .slice p n c := let ⟨p, c, e, _⟩ := hO.slice; ⟨p, _, c, e⟩
 obtain ⟨p1, n1, d1, rfl⟩ : ∃ p n c, v = .slice p n c := let ⟨p, c, e, _⟩ := h2.slice; ⟨p, _, c, e⟩
 obtain ⟨p3, n3, d3, rfl⟩ : ∃ p n c, v' = .slice p n c := let ⟨p, c, e, _⟩ := O2.slice; ⟨p, _, c, e⟩
 obtain ⟨w3, hw3⟩ : ∃ w3, w2.setCell ⟨bx, 0, none⟩ (.slice p3 n3 d3) = w3 := ⟨_, rfl⟩
 have F3 : Fr (fun k => k = bx) w2 w3 := hw3 ▸ Fr.setQ _ _ _ _
 have h3x : w3.heap[bx]? = some (.cells #[.slice p3 n3 d3] 22 (0, 0)) := by
  rw [← hw3]
  have := Go.heap_setCell_same w2 bx 0 _ _ (.slice p3 n3 d3) h1x
  simpa using this
 have O3 : Zk w4.heap.size w3 (.slice p3 n3 d3) (L ++ B) (V ++ U) := hw3 ▸ O2.boxed h1x ⟨_, _, _, rfl⟩ _
 have HR := Zz hr
 have HG : Hid (GatPost w4 bx ib (L ++ B) W w3) := by
  have F23 : Fr (fun k => (Value.slice p1 n1 d1).ownBlock = some k ∨ k = bx) w1 w3 := (F2.mono (fun _ e => Or.inl e)).then (F3.mono (fun _ e => Or.inr e))
  have FW : Fr (fun k => (Value.slice p1 n1 d1).ownBlock = some k ∨ k = bx) W w3 := (f1.mono (fun _ e => e.elim)).then F23
  refine ⟨⟨(h.fr.trans f1 (fun i e => e.elim)).trans F23 (fun i e => e.elim (fun e => Or.inr (h2.ge e).1) Or.inl), h.lt, ⟨h.ibo.1, Nat.lt_of_lt_of_le h.ibo.2 FW.size⟩, _, _, h3x, O3, hvi, fun u hu k e => ?_⟩, ⟨FW.size, fun k o' hk ho => ?_⟩, FW.block ib h.ibo.2 (fun e => e.elim h0 h.ibo.1), fun k cs hk => FW.at hk (fun e => ?_)⟩
  ·rcases List.mem_append.1 hu with hu | hu
   ·exact h3 u hu k e
   ·have := hU u hu k e; omega
  ·refine (FW.block k (Array.getElem?_eq_some_iff.1 hk).1 (fun e => ?_)).trans hk
   rcases e with e | e
   ·rcases h2.row.2 with ⟨h4, _⟩ | ⟨g, cap, cur, h4, _, hh, _⟩
    ·rw [h4] at e; cases e
    ·rw [h4] at e; cases e; rw [hh] at hk; cases hk; cases ho
   ·subst e; rw [h1] at hk; cases hk; cases ho
  ·rcases e with e | e
   ·rcases h2.row.2 with ⟨h4, _⟩ | ⟨g, cap, cur, h4, _, hh, _⟩
    ·rw [h4] at e; cases e
    ·rw [h4] at e; cases e; rw [hh] at hk; simp at hk
   ·subst e; rw [h1] at hk; simp at hk
 clear h hO hU hlen h1 h2 h3 h0 hW hf h1w O2 F2 hvb hvi how h1x F3 h3x O3 hr
 go_enter Tryz.func37, Tryz.ntmps37
 go_wp2_with (at_builtin
              refine app_list9 rfl _ _ rfl rfl rfl HR.out ?_)
 go_end0
 exact ⟨rfl, HG.out⟩
end Go.Proofs.YtbnfjjjdnbcehaaGreatDoor
