/- What is proved here: contracts for RecordMakes. Conditions: as named. -/
import Derived.Test.YtbnfjjjdnbcehaaGreatDoorX2Base
import Derived.Test.YtbnfjjjdnbcehaaGreatDoorX9Plain8
import Derived.Test.YtbnfjjjdnbcehaaGreatDoorX12Clone11
import Derived.Shelf.Abstract
import Derived.Shelf.RegionOpen
import Derived.WalkKit
import Derived.OwnWalkIn
import Derived.TacticsInMore
import Derived.LoopNIn
import Derived.LoopIn
set_option maxHeartbeats 16000000
namespace Go.Proofs.YtbnfjjjdnbcehaaGreatDoor
open Go.RowKit Go.Shelf
set_option maxRecDepth 100000
attribute [local go_sem] Oper.semAt_some
structure Zh (R : Nat → Prop) (W W' : World) : Prop where
 size : W.heap.size ≤ W'.heap.size
 same : ∀ k, R k → k < W.heap.size → W'.heap[k]? = W.heap[k]?
theorem Zh.refl (R : Nat → Prop) (W : World) : Zh R W W := ⟨Nat.le_refl _, fun _ _ _ => rfl⟩
theorem Zh.trans {R : Nat → Prop} {A B C : World} (h : Zh R A B) (k : Zh R B C) : Zh R A C := ⟨Nat.le_trans h.size k.size, fun i hi hl => (k.same i hi (by have := h.size; omega)).trans (h.same i hi hl)⟩
theorem Zh.put {R : Nat → Prop} (W : World) {l : Nat} (hl : ∀ k, R k → k ≠ l) (o : Obj) : Zh R W (W.putObj l o) := ⟨by simp, fun k hk _ => World.putObj_heap_other (fun e => hl k hk e)⟩
theorem Zh.of {R M : Nat → Prop} {W W' : World} (f : Fr M W W') (h : ∀ k, R k → ¬ M k) : Zh R W W' := ⟨f.size, fun k hk hl => f.block k hl (h k hk)⟩
theorem Zh.cell {R : Nat → Prop} {W W' : World} (h : Zh R W W') {a : Addr} {v : Value} (hc : W.cell? a = some v) (hr : R a.block) : W'.cell? a = some v := by
 have := h.same a.block hr (Zq hc)
 unfold World.cell? at hc ⊢
 rw [this]; exact hc
def RowC (W : World) (ad : Option Addr) (vs : List Value) : Prop := ∀ j v, vs[j]? = some v → ∃ g o, ad = some ⟨g, o, none⟩ ∧ W.cell? ⟨g, o + j, none⟩ = some v
theorem Zh.row {R : Nat → Prop} {W W' : World} (h : Zh R W W') {va : Option Addr} {L : List Value} (hr : RowC W va L) (hR : ∀ a, va = some a → R a.block) : RowC W' va L := fun j v hj => by
 obtain ⟨g, o, e, hc⟩ := hr j v hj
 exact ⟨g, o, e, h.cell hc (hR ⟨g, o, none⟩ e)⟩
def aggs (L : List Pr) (U : List (Value × Value)) : List Value := List.zipWith (fun x u => .agg #[.int .i64 x.kind, .string x.path, .string x.dst, .string x.src, .int .i64 x.pos, u.1, u.2]) L U
theorem aggs_length {L : List Pr} {U : List (Value × Value)} (h : U.length = L.length) : (aggs L U).length = L.length := by simp [aggs, h]
theorem aggs_get {L : List Pr} {U : List (Value × Value)} (h : U.length = L.length) {k : Nat} (hk : k < L.length) : (aggs L U)[k]'(by rw [aggs_length h]; exact hk) = .agg #[.int .i64 L[k].kind, .string L[k].path, .string L[k].dst, .string L[k].src, .int .i64 L[k].pos, (U[k]'(by omega)).1, (U[k]'(by omega)).2] := by
 simp [aggs]
def elB (L : List Value) (t : Nat) : Nat × Value := (L.length - 1 - t, L[L.length - 1 - t]?.getD (.bool false))
def Zj (L : List Value) (m : Nat) : List (Nat × Value) := (List.range m).map (elB L)
theorem uptoB_succ (L : List Value) (m : Nat) : Zj L (m + 1) = Zj L m ++ [elB L m] := by
 simp [Zj, List.range_succ]
theorem Zd (L : List Value) (m : Nat) : (Zj L m).length = m := by simp [Zj]
theorem uptoB_snoc {L : List Value} {pre : List (Nat × Value)} {x : Nat × Value} {m : Nat} (h : pre ++ [x] = Zj L m) : ∃ t, m = t + 1 ∧ pre = Zj L t ∧ x = elB L t := by
 have hl := congrArg List.length h
 rw [Zd, List.length_append] at hl
 cases m with
 | zero => simp at hl
 | succ t =>
  rw [uptoB_succ] at h
  obtain ⟨h1, h2⟩ := List.append_inj' h rfl
  exact ⟨t, rfl, h1, by simpa using h2⟩
theorem elB_get {L : List Value} {t k : Nat} (h : t + k + 1 = L.length) : elB L t = (k, L[k]'(by omega)) := by
 unfold elB
 rw [show L.length - 1 - t = k by omega, List.getElem?_eq_getElem (by omega)]
 rfl
theorem backP_any (va : Option Addr) (n c : Nat) (w : World) : Calls Tryz.prog 28 #[.slice va n c] w fun e w' => e = .returned (.func (.func 54) #[] #[.pointer (some ⟨w.heap.size, 0, none⟩)]) ∧ w' = w.alloc (.cells #[.slice va n c] 22) := by
 go_enter Tryz.func28, Tryz.ntmps28
 go_wp2_with fail
 go_ret
 exact ⟨rfl, rfl⟩
theorem backP_seq (b n c : Nat) (va : Option Addr) (L : List Pr) (U : List (Value × Value)) (N : Nat) (Rk : Nat → Prop) (hRb : Rk b) (hRa : L ≠ [] → ∀ a, va = some a → Rk a.block) (hU : U.length = L.length) (hN : L.length = N) (hL : N ≤ 90000) (hsl : ∀ u ∈ U, (∃ a n c, u.1 = .slice a n c) ∧ ∃ a n c, u.2 = .slice a n c) : SeqM (α := Nat × Value) Fence.wide n Tryz.prog 54 #[.pointer (some ⟨b, 0, none⟩)] (fun x => #[.int .i64 x.1, x.2]) None' (Zh Rk)
  (fun xs => xs = Zj (aggs L U) N) (fun pre => ∃ m, m ≤ N ∧ pre = Zj (aggs L U) m) (fun W => W.cell? ⟨b, 0, none⟩ = some (.slice va N c) ∧ RowC W va (pcells L U)) := fun l J Jx W hB hJ hJx hY h0 => by
 obtain ⟨hb, hr⟩ := hB
 have HN : Hid (L.length = N ∧ U.length = L.length) := ⟨hN, hU⟩
 have HSL : Hid (∀ u ∈ U, (∃ a n c, u.1 = .slice a n c) ∧ ∃ a n c, u.2 = .slice a n c) := hsl
 have i1 : (N : Int) ≤ 90000 := by omega
 refine callsIn_of_wp Tryz.func54 rfl trivial ?_ rfl
 simp only [Tryz.ntmps54, List.size_toArray, List.length_cons, List.length_nil, Nat.reduceAdd, Nat.reduceSub, Array.replicate_succ, Array.replicate_zero, List.push_toArray, List.append_toArray, List.nil_append, List.cons_append]
 clear hN hU hsl
 gi_wp2
 gi_loopw [3] (fun v wr => ∃ k m : Nat, m + k = N ∧ v = .int .i64 ((k : Int) - 1) ∧ Hid (J (Zj (aggs L U) m) wr) ∧ wr.cell? ⟨b, 0, none⟩ = some (.slice va N c) ∧ Hid (RowC wr va (pcells L U))) (fun v _ => (intOf v + 1).toNat)
 case atStart => exact ⟨N, 0, by omega, rfl, h0, hb, hr⟩
 case round =>
  clear hb hr h0
  obtain ⟨k, m, hkm, rfl, HJ, hb, HR⟩ := hrel
  cases k with
  | zero =>
   gi_wp2_with fail
   go_end0
   exact ⟨⟨_, rfl⟩, .inl ⟨_, by rw [show m = N by omega], HJ.out⟩⟩
  | succ k =>
   have hkB : k < L.length := by rw [HN.out.1]; omega
   have hkU : k < U.length := by rw [HN.out.2]; exact hkB
   have hx := pcells_get L U k L[k] U[k] (List.getElem?_eq_getElem hkB) (List.getElem?_eq_getElem hkU)
   obtain ⟨g, o, rfl, c0⟩ := HR.out _ _ (hx 0 (by omega))
   obtain ⟨g1, o1, e1, c1⟩ := HR.out _ _ (hx 1 (by omega))
   obtain ⟨g2, o2, e2, c2⟩ := HR.out _ _ (hx 2 (by omega))
   obtain ⟨g3, o3, e3, c3⟩ := HR.out _ _ (hx 3 (by omega))
   obtain ⟨g4, o4, e4, c4⟩ := HR.out _ _ (hx 4 (by omega))
   obtain ⟨g5, o5, e5, c5⟩ := HR.out _ _ (hx 5 (by omega))
   obtain ⟨g6, o6, e6, c6⟩ := HR.out _ _ (hx 6 (by omega))
   cases e1; cases e2; cases e3; cases e4; cases e5; cases e6
   rw [Nat.add_zero] at c0
   rw [← Nat.add_assoc] at c1 c2 c3 c4 c5 c6
   have e1 : ((k + 1 : Nat) : Int) - 1 = (k : Int) := by omega
   rw [e1]
   have i3 : (0 : Int) ≤ (k : Int) := by omega
   have i4 : (k : Int) < (N : Int) := by omega
   have hel := elB_get (L := aggs L U) (t := m) (k := k) (by rw [aggs_length HN.out.2, HN.out.1]; omega)
   rw [aggs_get HN.out.2 hkB] at hel
   obtain ⟨⟨pa, na, ca, hua⟩, pb, nb, cb, hub⟩ := HSL.out U[k] (List.getElem_mem hkU)
   rw [hua, hub] at hel
   rw [hua] at c5
   rw [hub] at c6
   generalize L[k] = x at c0 c1 c2 c3 c4 hel
   obtain ⟨K, P, T, F, A, lO, lN⟩ := x
   simp only at c0 c1 c2 c3 c4 hel
   have hup : Zj (aggs L U) m ++ [(k, .agg #[.int .i64 K, .string P, .string T, .string F, .int .i64 A, .slice pa na ca, .slice pb nb cb])] = Zj (aggs L U) (m + 1) := by rw [uptoB_succ, hel]
   obtain ⟨fn, tmps, assign, body, hy, hR⟩ := hY (Zj (aggs L U) m) (k, .agg #[.int .i64 K, .string P, .string T, .string F, .int .i64 A, .slice pa na ca, .slice pb nb cb]) wr HJ.out ⟨m + 1, by omega, hup⟩
   dsimp only at hy
   have HU : Hid (Zj (aggs L U) m ++ [(k, .agg #[.int .i64 K, .string P, .string T, .string F, .int .i64 A, .slice pa na ca, .slice pb nb cb])] = Zj (aggs L U) (m + 1)) := hup
   have HRr : Hid (RowC wr (some ⟨g, o, none⟩) (pcells L U)) := HR.out
   clear hup hel HR HJ hY hua hub hx
   gi_wp2_with fail
   refine ⟨(fun h => by cases h), hR.mono ?_⟩
   clear hy hR
   rintro e W' (⟨rfl, hJ', hK⟩ | ⟨rfl, hJx'⟩)
   ·rw [HU.out] at hJ'
    have HJ' : Hid (J (Zj (aggs L U) (m + 1)) W') := hJ'
    have hb' := hK.cell hb hRb
    have HR' : Hid (RowC W' (some ⟨g, o, none⟩) (pcells L U)) := hK.row HRr.out (hRa (fun e => by rw [e] at hkB; cases hkB))
    clear hJ' hK HRr hb c0 c1 c2 c3 c4 c5 c6
    gi_wp2_with fail
    go_roundw
    case rel => exact ⟨k, m + 1, by omega, rfl, HJ'.out, hb', HR'.out⟩
    case measure => simp [intOf]
   ·gi_wp2_with fail
    refine bodyPost_ret (results_none rfl _ _ _) rfl ?_
    rw [HU.out] at hJx'
    exact ⟨⟨_, rfl⟩, .inr ⟨_, ⟨m + 1, by omega, rfl⟩, hJx'⟩⟩
end Go.Proofs.YtbnfjjjdnbcehaaGreatDoor
