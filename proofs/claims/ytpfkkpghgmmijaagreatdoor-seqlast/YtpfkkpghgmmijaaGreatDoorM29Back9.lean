/-
  What is proved here: the contracts that the statement stands on: Back9, RAll9, Clone11, Copy11. Conditions: as each theorem names them.
-/
import Derived.Test.YtpfkkpghgmmijaaGreatDoorM2Base
import Derived.Test.YtpfkkpghgmmijaaGreatDoorM10Box9
import Derived.Test.YtpfkkpghgmmijaaGreatDoorM28Copy10
import Derived.Shelf.Abstract
import Derived.Shelf.RegionOpen
import Derived.WalkKit
import Derived.OwnWalkIn
import Derived.TacticsInMore
import Derived.LoopNIn
import Derived.LoopIn
import Derived.Test.YtpfkkpghgmmijaaGreatDoorM11Great9
import Derived.Deep.RegionHeld3
import Derived.Lib.SliceRun
namespace Go.Proofs.YtpfkkpghgmmijaaGreatDoor
open Go.RowKit Go.Shelf
set_option maxRecDepth 100000
attribute [local go_sem] Oper.semAt_some

structure KeepB (R : Nat → Prop) (W W' : World) : Prop where
  size : W.heap.size ≤ W'.heap.size
  same : ∀ k, R k → k < W.heap.size → W'.heap[k]? = W.heap[k]?

theorem KeepB.refl (R : Nat → Prop) (W : World) : KeepB R W W := ⟨Nat.le_refl _, fun _ _ _ => rfl⟩
theorem KeepB.trans {R : Nat → Prop} {A B C : World} (h : KeepB R A B) (k : KeepB R B C) : KeepB R A C := ⟨Nat.le_trans h.size k.size, fun i hi hl => (k.same i hi (by have := h.size; omega)).trans (h.same i hi hl)⟩
theorem KeepB.put {R : Nat → Prop} (W : World) {l : Nat} (hl : ∀ k, R k → k ≠ l) (o : Obj) : KeepB R W (W.putObj l o) := ⟨by simp, fun k hk _ => World.putObj_heap_other (fun e => hl k hk e)⟩
theorem KeepB.of {R M : Nat → Prop} {W W' : World} (f : Fr M W W') (h : ∀ k, R k → ¬ M k) : KeepB R W W' := ⟨f.size, fun k hk hl => f.block k hl (h k hk)⟩
theorem KeepB.cell {R : Nat → Prop} {W W' : World} (h : KeepB R W W') {a : Addr} {v : Value} (hc : W.cell? a = some v) (hr : R a.block) : W'.cell? a = some v := by
  have := h.same a.block hr (cell_lt hc)
  unfold World.cell? at hc ⊢
  rw [this]; exact hc

def RowC (W : World) (ad : Option Addr) (vs : List Value) : Prop := ∀ j v, vs[j]? = some v → ∃ g o, ad = some ⟨g, o, none⟩ ∧ W.cell? ⟨g, o + j, none⟩ = some v

theorem KeepB.row {R : Nat → Prop} {W W' : World} (h : KeepB R W W') {va : Option Addr} {L : List Value} (hr : RowC W va L) (hR : ∀ a, va = some a → R a.block) : RowC W' va L := fun j v hj => by
  obtain ⟨g, o, e, hc⟩ := hr j v hj
  exact ⟨g, o, e, h.cell hc (hR ⟨g, o, none⟩ e)⟩

def aggs (L : List Pr) (U : List (Value × Value)) : List Value := List.zipWith (fun x u => .agg #[.int .i64 x.kind, .string x.path, .string x.dst, .string x.src, .int .i64 x.pos, u.1, u.2]) L U

theorem aggs_length {L : List Pr} {U : List (Value × Value)} (h : U.length = L.length) : (aggs L U).length = L.length := by simp [aggs, h]

theorem aggs_get {L : List Pr} {U : List (Value × Value)} (h : U.length = L.length) {k : Nat} (hk : k < L.length) : (aggs L U)[k]'(by rw [aggs_length h]; exact hk) = .agg #[.int .i64 L[k].kind, .string L[k].path, .string L[k].dst, .string L[k].src, .int .i64 L[k].pos, (U[k]'(by omega)).1, (U[k]'(by omega)).2] := by
  simp [aggs]

def elB (L : List Value) (t : Nat) : Nat × Value := (L.length - 1 - t, L[L.length - 1 - t]?.getD (.bool false))
def uptoB (L : List Value) (m : Nat) : List (Nat × Value) := (List.range m).map (elB L)

theorem uptoB_succ (L : List Value) (m : Nat) : uptoB L (m + 1) = uptoB L m ++ [elB L m] := by
  simp [uptoB, List.range_succ]

theorem uptoB_length (L : List Value) (m : Nat) : (uptoB L m).length = m := by simp [uptoB]

theorem uptoB_snoc {L : List Value} {pre : List (Nat × Value)} {x : Nat × Value} {m : Nat} (h : pre ++ [x] = uptoB L m) : ∃ t, m = t + 1 ∧ pre = uptoB L t ∧ x = elB L t := by
  have hl := congrArg List.length h
  rw [uptoB_length, List.length_append] at hl
  cases m with
  | zero => simp at hl
  | succ t =>
    rw [uptoB_succ] at h
    obtain ⟨h1, h2⟩ := List.append_inj' h rfl
    exact ⟨t, rfl, h1, by simpa using h2⟩

theorem elB_get {L : List Value} {t k : Nat} (h : t + k + 1 = L.length) : elB L t = (k, L[k]'(by omega)) := by
  unfold elB
  rw [show L.length - 1 - t = k by omega, List.getElem?_eq_getElem (by omega)]
  rfl

set_option maxHeartbeats 1000000 in
theorem backP_any (va : Option Addr) (n c : Nat) (w : World) : Calls Tryz.prog 25 #[.slice va n c] w fun e w' => e = .returned (.func (.func 42) #[] #[.pointer (some ⟨w.heap.size, 0, none⟩)]) ∧ w' = w.alloc (.cells #[.slice va n c] 22) := by
  go_enter Tryz.func25, Tryz.ntmps25
  go_wp2_with fail
  go_ret
  exact ⟨rfl, rfl⟩

set_option maxHeartbeats 2000000 in
theorem backP_seq (b n c : Nat) (va : Option Addr) (L : List Pr) (U : List (Value × Value)) (N : Nat) (Rk : Nat → Prop) (hRb : Rk b) (hRa : L ≠ [] → ∀ a, va = some a → Rk a.block) (hU : U.length = L.length) (hN : L.length = N) (hL : N ≤ 90000) (hsl : ∀ u ∈ U, (∃ a n c, u.1 = .slice a n c) ∧ ∃ a n c, u.2 = .slice a n c) : SeqM (α := Nat × Value) Fence.wide n Tryz.prog 42 #[.pointer (some ⟨b, 0, none⟩)] (fun x => #[.int .i64 x.1, x.2]) None' (KeepB Rk)
    (fun xs => xs = uptoB (aggs L U) N) (fun pre => ∃ m, m ≤ N ∧ pre = uptoB (aggs L U) m) (fun W => W.cell? ⟨b, 0, none⟩ = some (.slice va N c) ∧ RowC W va (pcells L U)) := fun l J Jx W hB hJ hJx hY h0 => by
  obtain ⟨hb, hr⟩ := hB
  have HN : Hid (L.length = N ∧ U.length = L.length) := ⟨hN, hU⟩
  have HSL : Hid (∀ u ∈ U, (∃ a n c, u.1 = .slice a n c) ∧ ∃ a n c, u.2 = .slice a n c) := hsl
  have i1 : (N : Int) ≤ 90000 := by omega
  refine callsIn_of_wp Tryz.func42 rfl trivial ?_ rfl
  simp only [Tryz.ntmps42, List.size_toArray, List.length_cons, List.length_nil, Nat.reduceAdd, Nat.reduceSub, Array.replicate_succ, Array.replicate_zero, List.push_toArray, List.append_toArray, List.nil_append, List.cons_append]
  clear hN hU hsl
  gi_wp2
  gi_loopw [3] (fun v wr => ∃ k m : Nat, m + k = N ∧ v = .int .i64 ((k : Int) - 1) ∧ Hid (J (uptoB (aggs L U) m) wr) ∧ wr.cell? ⟨b, 0, none⟩ = some (.slice va N c) ∧ Hid (RowC wr va (pcells L U))) (fun v _ => (intOf v + 1).toNat)
  case atStart => exact ⟨N, 0, by omega, rfl, h0, hb, hr⟩
  case round =>
    clear hb hr h0
    obtain ⟨k, m, hkm, rfl, HJ, hb, HR⟩ := hrel
    cases k with
    | zero =>
      gi_wp2_with fail
      go_end0
      exact ⟨⟨_, rfl⟩, .inl ⟨_, by rw [show m = N by omega], HJ.out⟩⟩
    | succ k =>
      have hkB : k < L.length := by rw [HN.out.1]; omega
      have hkU : k < U.length := by rw [HN.out.2]; exact hkB
      have hx := pcells_get L U k L[k] U[k] (List.getElem?_eq_getElem hkB) (List.getElem?_eq_getElem hkU)
      obtain ⟨g, o, rfl, c0⟩ := HR.out _ _ (hx 0 (by omega))
      obtain ⟨g1, o1, e1, c1⟩ := HR.out _ _ (hx 1 (by omega))
      obtain ⟨g2, o2, e2, c2⟩ := HR.out _ _ (hx 2 (by omega))
      obtain ⟨g3, o3, e3, c3⟩ := HR.out _ _ (hx 3 (by omega))
      obtain ⟨g4, o4, e4, c4⟩ := HR.out _ _ (hx 4 (by omega))
      obtain ⟨g5, o5, e5, c5⟩ := HR.out _ _ (hx 5 (by omega))
      obtain ⟨g6, o6, e6, c6⟩ := HR.out _ _ (hx 6 (by omega))
      cases e1; cases e2; cases e3; cases e4; cases e5; cases e6
      rw [Nat.add_zero] at c0
      rw [← Nat.add_assoc] at c1 c2 c3 c4 c5 c6
      have e1 : ((k + 1 : Nat) : Int) - 1 = (k : Int) := by omega
      rw [e1]
      have i3 : (0 : Int) ≤ (k : Int) := by omega
      have i4 : (k : Int) < (N : Int) := by omega
      have hel := elB_get (L := aggs L U) (t := m) (k := k) (by rw [aggs_length HN.out.2, HN.out.1]; omega)
      rw [aggs_get HN.out.2 hkB] at hel
      obtain ⟨⟨pa, na, ca, hua⟩, pb, nb, cb, hub⟩ := HSL.out U[k] (List.getElem_mem hkU)
      rw [hua, hub] at hel
      rw [hua] at c5
      rw [hub] at c6
      generalize L[k] = x at c0 c1 c2 c3 c4 hel
      obtain ⟨K, P, T, F, A, lO, lN⟩ := x
      simp only at c0 c1 c2 c3 c4 hel
      have hup : uptoB (aggs L U) m ++ [(k, .agg #[.int .i64 K, .string P, .string T, .string F, .int .i64 A, .slice pa na ca, .slice pb nb cb])] = uptoB (aggs L U) (m + 1) := by rw [uptoB_succ, hel]
      obtain ⟨fn, tmps, assign, body, hy, hR⟩ := hY (uptoB (aggs L U) m) (k, .agg #[.int .i64 K, .string P, .string T, .string F, .int .i64 A, .slice pa na ca, .slice pb nb cb]) wr HJ.out ⟨m + 1, by omega, hup⟩
      dsimp only at hy
      have HU : Hid (uptoB (aggs L U) m ++ [(k, .agg #[.int .i64 K, .string P, .string T, .string F, .int .i64 A, .slice pa na ca, .slice pb nb cb])] = uptoB (aggs L U) (m + 1)) := hup
      have HRr : Hid (RowC wr (some ⟨g, o, none⟩) (pcells L U)) := HR.out
      clear hup hel HR HJ hY hua hub hx
      gi_wp2_with fail
      refine ⟨(fun h => by cases h), hR.mono ?_⟩
      clear hy hR
      rintro e W' (⟨rfl, hJ', hK⟩ | ⟨rfl, hJx'⟩)
      · rw [HU.out] at hJ'
        have HJ' : Hid (J (uptoB (aggs L U) (m + 1)) W') := hJ'
        have hb' := hK.cell hb hRb
        have HR' : Hid (RowC W' (some ⟨g, o, none⟩) (pcells L U)) := hK.row HRr.out (hRa (fun e => by rw [e] at hkB; cases hkB))
        clear hJ' hK HRr hb c0 c1 c2 c3 c4 c5 c6
        gi_wp2_with fail
        go_roundw
        case rel => exact ⟨k, m + 1, by omega, rfl, HJ'.out, hb', HR'.out⟩
        case measure => simp [intOf]
      · gi_wp2_with fail
        refine bodyPost_ret (results_none rfl _ _ _) rfl ?_
        rw [HU.out] at hJx'
        exact ⟨⟨_, rfl⟩, .inr ⟨_, ⟨m + 1, by omega, rfl⟩, hJx'⟩⟩

end Go.Proofs.YtpfkkpghgmmijaaGreatDoor

namespace Go.Proofs.YtpfkkpghgmmijaaGreatDoor
open Go.RowKit
set_option maxRecDepth 100000

theorem rev_step {L : List Pr} {k : Nat} (hk : k < L.length) : (L.drop k).reverse.map inv = (L.drop (k + 1)).reverse.map inv ++ [inv L[k]] := by
  rw [List.drop_eq_getElem_cons hk, List.reverse_cons, List.map_append]
  rfl

theorem step_app9 {P : Program} {ops : Array Oper} {o : Oper} {a : Act} {w w' : World} {K : Act → World → Prop} {Q : Exit → Act → World → Prop} {E : Prop} {v : Value} {t : TypeId} (hgd : o.guard = none) (s x : Operand)
    (ho : o.op = .call { callee := .builtin .append, args := #[s, x], argTypes := #[t, t] }) {vs vx : Value} (hs : a.eval s = vs) (hx : a.eval x = vx) (hr : (Builtin.append_ #[t, t] o.type #[vs, vx]).run P w = .ok v w') (h : K (a.put o.dst v) w') :
    if Region.wanted o (yielded ops a.tmps) = true then Oper.wp P o a w K Q else E := by
  have hw : Region.wanted o (yielded ops a.tmps) = true := by simp [Region.wanted, hgd]
  rw [if_pos hw]
  unfold Oper.wp execOp
  simp only [ho, resolve, invoke, builtin, Sem.run_bind, Sem.run_pure, Result.andThen_ok, List.map_toArray, List.map_cons, List.map_nil, hs, hx, hr]
  exact h

theorem app_list9 {ops : Array Oper} {rest : List Oper} {o : Oper} {a : Act} {w w' : World} {Q : Exit → Act → World → Prop} {t : TypeId} (hgd : o.guard = none) (s x : Operand)
    (ho : o.op = .call { callee := .builtin .append, args := #[s, x], argTypes := #[t, t] }) {vs vx v : Value} (hs : a.eval s = vs) (hx : a.eval x = vx) (hr : (Builtin.append_ #[t, t] o.type #[vs, vx]).run Tryz.prog w = .ok v w')
    (h : wpList Tryz.prog ops Q rest (a.put o.dst v) w') : wpList Tryz.prog ops Q (o :: rest) a w := by
  refine wpList_plain hgd fun K hK => ?_
  unfold Oper.wp execOp
  simp only [ho, resolve, invoke, builtin, Sem.run_bind, Sem.run_pure, Result.andThen_ok, List.map_toArray, List.map_cons, List.map_nil, hs, hx, hr]
  exact hK _ _ h

theorem OwnP.push {base : Nat} {w : World} {v : Value} {L : List Pr} {V : List (Value × Value)} (h : OwnP base w v L V) {b : Nat} {x : Pr} {vo vn : Value} (hb : Box w b (.int .i64 x.kind) (.string x.path) (.string x.dst) (.string x.src) (.int .i64 x.pos) vo vn) (s1 : StrsAt w vo x.old) (s2 : StrsAt w vn x.new) (f1 : Far v vo x.old) (f2 : Far v vn x.new) (hn : L.length ≤ 90000) (hbase : base ≤ w.heap.size) :
    ∃ v' w', (Builtin.append_ #[22, 22] 22 #[v, .slice (some ⟨b, 0, none⟩) 1 1]).run Tryz.prog w = .ok v' w' ∧ OwnP base w' v' (L ++ [x]) (V ++ [(vo, vn)]) ∧ Fr (fun k => v.ownBlock = some k) w w' ∧ (v'.ownBlock = v.ownBlock ∨ v'.ownBlock = some w.heap.size) := by
  obtain ⟨c0, c1, c2, c3, c4, c5, c6⟩ := hb.cells
  refine h.append (ad := ⟨b, 0, none⟩) (B := [x]) (U := [(vo, vn)]) rfl rfl (fun j u hj => ?_) (fun k y u e1 e2 => ?_) (by omega) hbase
  · simp only [pcells, prCells, List.cons_append, List.nil_append] at hj
    rw [show (⟨b, 0, none⟩ : Addr).add j = ⟨b, 0 + j, none⟩ from Addr.add_lit .., Nat.zero_add]
    match j, hj with
    | 0, hj => simp at hj; subst hj; exact c0
    | 1, hj => simp at hj; subst hj; exact c1
    | 2, hj => simp at hj; subst hj; exact c2
    | 3, hj => simp at hj; subst hj; exact c3
    | 4, hj => simp at hj; subst hj; exact c4
    | 5, hj => simp at hj; subst hj; exact c5
    | 6, hj => simp at hj; subst hj; exact c6
    | j + 7, hj => simp at hj
  · have hk : k = 0 := by
      have := (List.getElem?_eq_some_iff.1 e1).1
      simpa using this
    subst hk
    simp at e1 e2
    subst e1 e2
    exact ⟨s1, s2, f1, f2⟩

set_option maxHeartbeats 4000000 in
theorem rall_any (va : Option Addr) (n c : Nat) (L : List Pr) (w : World) (hl : L.length = n) (ha : PrsAt w va L) (hn : n ≤ 90000) :
    Calls Tryz.prog 22 #[.slice va n c] w fun e w' => ∃ v V, e = .returned v ∧ OwnP w.heap.size w' v (L.reverse.map inv) V ∧ Fr None' w w' := by
  have i1 : (n : Int) ≤ 90000 := by omega
  have HL : Hid (L.length = n) := hl
  have HA : Hid (PrsAt w va L) := ha
  clear hl ha hn
  go_enter Tryz.func22, Tryz.ntmps22
  go_wp2_with fail
  go_loopw [3, 4] (fun vo vi wr => ∃ (k : Nat) (V : List (Value × Value)), k ≤ n ∧ vi = .int .i64 ((k : Int) - 1) ∧ Hid (OwnP w.heap.size wr vo ((L.drop k).reverse.map inv) V) ∧ Hid (Fr None' w wr)) (fun _ vi _ => (intOf vi + 1).toNat)
  case atStart => exact ⟨n, [], Nat.le_refl _, rfl, by rw [List.drop_of_length_le (by rw [HL.out]; exact Nat.le_refl _)]; exact OwnP.nil _ _, Fr.refl _ _⟩
  case round =>
    obtain ⟨k, V, hk, rfl, HO, HF⟩ := hrel
    cases k with
    | zero =>
      have HOz : Hid (OwnP w.heap.size wr u3 (L.reverse.map inv) V) := HO.out
      obtain ⟨vz, cz, hv, _⟩ := HO.out.slice
      go_wp2_with fail
      go_ret
      exact ⟨_, V, rfl, HOz.out, HF.out⟩
    | succ k =>
      have hkL : k < L.length := by rw [HL.out]; omega
      have e1 : ((k + 1 : Nat) : Int) - 1 = (k : Int) := by omega
      rw [e1]
      obtain ⟨vz, cz, hv, _⟩ := HO.out.slice
      have HR : Hid ((L.drop k).reverse.map inv = (L.drop (k + 1)).reverse.map inv ++ [inv L[k]]) := rev_step hkL
      obtain ⟨g, o, rfl, vo, vn, d0, d1, d2, d3, d4, d5, d6, s1, s2⟩ := HA.out.get hkL
      have cI : ∀ w', Calls Tryz.prog 39 #[.agg #[.int .i64 L[k].kind, .string L[k].path, .string L[k].dst, .string L[k].src, .int .i64 L[k].pos, vo, vn]] w' fun e w'' => ∃ v, e = .returned v ∧ PrVal w v (inv L[k]) ∧ Fr None' w' w'' := fun w' => rinv_any L[k] vo vn w w' s1 s2
      have HLn : Hid (((L.drop (k + 1)).reverse.map inv).length ≤ 90000) := by show _ ≤ _; have := HL.out; simp; omega
      generalize (L.drop (k + 1)).reverse.map inv = R at HO HR HLn hv
      obtain ⟨R2, hR2⟩ : ∃ R2, (L.drop k).reverse.map inv = R2 := ⟨_, rfl⟩
      rw [hR2] at HR
      have HR2 : Hid ((L.drop k).reverse.map inv = R2) := hR2
      clear hR2
      generalize inv L[k] = X at HR cI
      generalize L[k] = x at d0 d1 d2 d3 d4 s1 s2 cI
      obtain ⟨pa, ca, rfl⟩ := s1.is
      obtain ⟨pb, cb, rfl⟩ := s2.is
      obtain ⟨K, P, T, F, A, lO, lN⟩ := x
      simp only at d0 d1 d2 d3 d4 d5 d6 cI
      generalize lO.length = no at d5 cI
      generalize lN.length = nn at d6 cI
      generalize R.length = rn at hv
      subst hv
      have HK : Hid (∀ w', Fr None' w w' → w'.cell? ⟨g, o + k * 7, none⟩ = some (.int .i64 K) ∧ w'.cell? ⟨g, o + k * 7 + 1, none⟩ = some (.string P) ∧ w'.cell? ⟨g, o + k * 7 + 2, none⟩ = some (.string T) ∧ w'.cell? ⟨g, o + k * 7 + 3, none⟩ = some (.string F) ∧ w'.cell? ⟨g, o + k * 7 + 4, none⟩ = some (.int .i64 A) ∧ w'.cell? ⟨g, o + k * 7 + 5, none⟩ = some (.slice pa no ca) ∧ w'.cell? ⟨g, o + k * 7 + 6, none⟩ = some (.slice pb nn cb)) := fun w' f => ⟨f.keepCell d0 (fun e => e), f.keepCell d1 (fun e => e), f.keepCell d2 (fun e => e), f.keepCell d3 (fun e => e), f.keepCell d4 (fun e => e), f.keepCell d5 (fun e => e), f.keepCell d6 (fun e => e)⟩
      obtain ⟨c0, c1, c2, c3, c4, c5, c6⟩ := HK.out wr HF.out
      have i2 : (k : Int) < (n : Int) := by omega
      have i3 : (0 : Int) ≤ (k : Int) := by omega
      clear s1 s2 d0 d1 d2 d3 d4 d5 d6 e1
      have q1 := cI wr
      go_wp2_with fail
      with_reducible refine q1.mono ?_
      rintro e w2 ⟨v, rfl, ⟨uo, un, rfl, t1, t2⟩, F2⟩
      obtain ⟨po, co, rfl⟩ := t1.is
      obtain ⟨pn, cn, rfl⟩ := t2.is
      have hw := HF.out.then7 F2
      obtain ⟨w3, hw3⟩ : ∃ w3, w2.alloc (.cells #[.int .i64 X.kind, .string X.path, .string X.dst, .string X.src, .int .i64 X.pos, .slice po X.old.length co, .slice pn X.new.length cn] 45) = w3 := ⟨_, rfl⟩
      have F3 : Fr None' w2 w3 := hw3 ▸ Fr.alloc None' w2 _
      have B3 : Box w3 w2.heap.size (.int .i64 X.kind) (.string X.path) (.string X.dst) (.string X.src) (.int .i64 X.pos) (.slice po X.old.length co) (.slice pn X.new.length cn) := hw3 ▸ Box.new w2 _ _ _ _ _ _ _
      have hO := (HO.out.kept F2).kept F3
      obtain ⟨v', w4, hr, hO4, hf, hown⟩ := hO.push B3 ((t1.kept hw).kept F3) ((t2.kept hw).kept F3) (fun hl k e e' => by have := t1.lt hl e; have := (hO.ge e').1; omega) (fun hl k e e' => by have := t2.lt hl e; have := (hO.ge e').1; omega) HLn.out (by have := hw.size; have := F3.size; omega)
      obtain ⟨va', ca', hv', _⟩ := hO4.slice
      have HO4 : Hid (OwnP w.heap.size w4 v' R2 (V ++ [(.slice po X.old.length co, .slice pn X.new.length cn)])) := by rw [HR.out]; exact hO4
      have HF4 : Hid (Fr None' w w4) := (hw.then7 F3).trans hf (fun i e => Or.inr (hO.ge e).1)
      have HRr : Hid _ := hr
      generalize X.old.length = xo at hw3 HO4 HRr
      generalize X.new.length = xn at hw3 HO4 HRr
      obtain ⟨XK, XP, XT, XF, XA, XO, XN⟩ := X
      simp only at hw3 HRr
      subst hv'
      generalize (R ++ [(⟨XK, XP, XT, XF, XA, XO, XN⟩ : Pr)]).length = rl at HRr HO4
      clear q1 F2 F3 B3 hO hr hO4 hf hown t1 t2 hw c0 c1 c2 c3 c4 c5 c6 cI
      go_wp2_with (at_builtin
                   refine app_list9 rfl _ _ rfl rfl rfl HRr.out ?_)
      exact ⟨⟨k, _, by omega, by go_num, by rw [HR2.out]; exact HO4.out, HF4.out⟩, by simp [intOf]⟩

end Go.Proofs.YtpfkkpghgmmijaaGreatDoor

namespace Go.Proofs.YtpfkkpghgmmijaaGreatDoor
open Go.RowKit
set_option maxRecDepth 100000

set_option maxHeartbeats 1000000 in
theorem cloneP_any (va : Option Addr) (n c : Nat) (L : List Pr) (w : World) (hl : L.length = n) (ha : PrsAt w va L) (hc : va = none → c = 0) (hn : n ≤ 90000) :
    Calls Tryz.prog 40 #[.slice va n c] w fun e w' => ∃ v' U, e = .returned v' ∧ OwnP w.heap.size w' v' L U ∧ Fr None' w w' := by
  cases va with
  | none =>
    have e : L = [] := by
      cases L with
      | nil => rfl
      | cons x l => obtain ⟨_, _, e, _⟩ := ha 0 x rfl; cases e
    subst e
    obtain rfl := hc rfl
    obtain rfl : n = 0 := hl.symm
    have q : ∀ w, (binOp .eql 22 (.slice none 0 0) (.slice none 0 0)).run Tryz.prog w = .ok (.bool true) w := fun w => Lib.run_eql_slice_nil w _ _ _ 0 0 0 0 Tryz.underlying22
    clear ha hc hl
    go_enter Tryz.func40, Tryz.ntmps40
    go_wp2_with fail
    go_ret
    exact ⟨_, [], rfl, OwnP.nil _ _, Fr.refl _ _⟩
  | some a =>
    have q : ∀ w, (binOp .eql 22 (.slice (some a) n c) (.slice none 0 0)).run Tryz.prog w = .ok (.bool false) w := fun w => Lib.run_eql_slice_nil w _ _ _ n c 0 0 Tryz.underlying22
    obtain ⟨w1, hw1⟩ : ∃ w1, w.alloc (.cells #[] 45) = w1 := ⟨_, rfl⟩
    have F1 : Fr None' w w1 := hw1 ▸ Fr.alloc None' w _
    have O1 : OwnP w.heap.size w1 (.slice (some ⟨w.heap.size, 0, none⟩) 0 0) [] [] := hw1 ▸ OwnP.empty (Nat.le_refl _)
    obtain ⟨v2, U2, w2, r2, O2, f2⟩ := O1.addAll ha hl hc F1 (Nat.le_refl _) F1.size (by simp; omega)
    have F2 : Fr None' w w2 := F1.trans f2 (fun i e => Or.inr (O1.ge e).1)
    obtain ⟨p2, c2, hv2, _⟩ := O2.slice
    have HR : Hid ((Builtin.append_ #[22, 22] 22 #[.slice (some ⟨w.heap.size, 0, none⟩) 0 0, .slice (some a) n c]).run Tryz.prog w1 = .ok v2 w2) := r2
    have HO : Hid (OwnP w.heap.size w2 v2 L U2 ∧ Fr None' w w2) := ⟨by simpa using O2, F2⟩
    clear ha hc hl hn F1 O1 r2 O2 f2 F2 hv2
    go_enter Tryz.func40, Tryz.ntmps40
    go_wp2_with (at_builtin
                 refine app_list9 rfl _ _ rfl rfl rfl HR.out ?_)
    go_ret
    exact ⟨_, U2, rfl, HO.out.1, HO.out.2⟩

theorem pcells_set : ∀ (L : List Pr) (V : List (Value × Value)) (k : Nat) (a b : Value), V.length = L.length → k < L.length → pcells L (V.set k (a, b)) = ((pcells L V).set (k * 7 + 5) a).set (k * 7 + 6) b
  | [], _, k, _, _, _, hk => by simp at hk
  | x :: L, [], _, _, _, e, _ => by cases e
  | x :: L, u :: V, 0, a, b, _, _ => by simp [pcells, prCells]
  | x :: L, u :: V, k + 1, a, b, e, hk => by
    have ih := pcells_set L V k a b (by simpa using e) (by simpa using hk)
    simp only [List.set_cons_succ, pcells, ih]
    rw [show (k + 1) * 7 + 5 = (k * 7 + 5) + 7 from by omega, show (k + 1) * 7 + 6 = (k * 7 + 6) + 7 from by omega]
    simp [prCells]

theorem OwnP.setRows {base : Nat} {w : World} {g n cap : Nat} {L : List Pr} {V : List (Value × Value)} (h : OwnP base w (.slice (some ⟨g, 0, none⟩) n cap) L V) {k : Nat} (hk : k < L.length) {a b : Value} (ha : StrsAt w a L[k].old) (hb : StrsAt w b L[k].new) (fa : ∀ j, a.ownBlock = some j → ¬ j = g) (fb : ∀ j, b.ownBlock = some j → ¬ j = g) :
    OwnP base ((w.setCell ⟨g, k * 7 + 5, none⟩ a).setCell ⟨g, k * 7 + 6, none⟩ b) (.slice (some ⟨g, 0, none⟩) n cap) L (V.set k (a, b)) ∧ Fr (fun j => j = g) w ((w.setCell ⟨g, k * 7 + 5, none⟩ a).setCell ⟨g, k * 7 + 6, none⟩ b) := by
  have f : Fr (fun j => j = g) w ((w.setCell ⟨g, k * 7 + 5, none⟩ a).setCell ⟨g, k * 7 + 6, none⟩ b) := (Fr.setQ _ _ _ _).then (Fr.setQ _ _ _ _)
  refine ⟨⟨by simp [h.len], ⟨by rw [pcells_set L V k a b h.len hk]; simpa using h.row.1, ?_⟩, fun j x u e1 e2 => ?_⟩, f⟩
  · rcases h.row.2 with ⟨hv, _⟩ | ⟨g', cap', cur, he, hb', hh, h1, h2, h3, h4⟩
    · cases hv
    · cases he
      have e1 := Go.heap_setCell_same w g (k * 7 + 5) _ _ a hh
      have e2 := Go.heap_setCell_same _ g (k * 7 + 6) _ _ b e1
      refine Or.inr ⟨g, cap, _, rfl, hb', e2, h1, h2, by simp [h3], ?_⟩
      rw [pcells_set L V k a b h.len hk, ← h4]
      simp [List.take_set]
  · have key : StrsAt w u.1 x.old ∧ StrsAt w u.2 x.new ∧ Far (.slice (some ⟨g, 0, none⟩) n cap) u.1 x.old ∧ Far (.slice (some ⟨g, 0, none⟩) n cap) u.2 x.new := by
      by_cases hj : k = j
      · subst hj
        rw [List.getElem?_set_self (by rw [h.len]; exact hk)] at e2
        rw [List.getElem?_eq_getElem hk] at e1
        cases e1
        cases e2
        exact ⟨ha, hb, fun _ i e e' => fa i e (Option.some.inj e').symm, fun _ i e e' => fb i e (Option.some.inj e').symm⟩
      · rw [List.getElem?_set_ne hj] at e2
        exact h.str j x u e1 e2
    obtain ⟨s1, s2, f1, f2⟩ := key
    exact ⟨s1.far f (fun hl i e e' => f1 hl i e (by rw [e']; rfl)), s2.far f (fun hl i e e' => f2 hl i e (by rw [e']; rfl)), f1, f2⟩

end Go.Proofs.YtpfkkpghgmmijaaGreatDoor

namespace Go.Proofs.YtpfkkpghgmmijaaGreatDoor
open Go.RowKit
set_option maxRecDepth 100000

theorem toHid11c {p : Prop} (h : p) : Hid p := h

structure CopyAt (w wr : World) (v : Value) (L : List Pr) (V : List (Value × Value)) (k : Nat) : Prop where
  fr : Fr None' w wr
  own : OwnP w.heap.size wr v L V
  new : ∀ j u, j < k → V[j]? = some u → (∀ i, u.1.ownBlock = some i → w.heap.size ≤ i) ∧ ∀ i, u.2.ownBlock = some i → w.heap.size ≤ i

theorem OwnP.cellsAt {base : Nat} {w : World} {g n cap : Nat} {L : List Pr} {V : List (Value × Value)} (h : OwnP base w (.slice (some ⟨g, 0, none⟩) n cap) L V) {k : Nat} (hk : k < L.length) :
    ∃ u, V[k]? = some u ∧ (w.cell? ⟨g, k * 7, none⟩ = some (.int .i64 L[k].kind) ∧ w.cell? ⟨g, k * 7 + 1, none⟩ = some (.string L[k].path) ∧ w.cell? ⟨g, k * 7 + 2, none⟩ = some (.string L[k].dst) ∧ w.cell? ⟨g, k * 7 + 3, none⟩ = some (.string L[k].src) ∧ w.cell? ⟨g, k * 7 + 4, none⟩ = some (.int .i64 L[k].pos) ∧ w.cell? ⟨g, k * 7 + 5, none⟩ = some u.1 ∧ w.cell? ⟨g, k * 7 + 6, none⟩ = some u.2) ∧ (StrsAt w u.1 L[k].old ∧ StrsAt w u.2 L[k].new) ∧ ∀ o, w.frozen? ⟨g, o, none⟩ = false := by
  obtain ⟨u, hp⟩ : ∃ u, V[k]? = some u := ⟨_, List.getElem?_eq_getElem (by rw [h.len]; exact hk)⟩
  have hx := pcells_get L V k _ u (List.getElem?_eq_getElem hk) hp
  rcases h.row.2 with ⟨hv, _⟩ | ⟨g', cap', cur, he, hb', hh, h1, h2, h3, h4⟩
  · cases hv
  · cases he
    have hc' : ∀ j u, j < L.length * 7 → (pcells L V)[j]? = some u → w.cell? ⟨g, j, none⟩ = some u := fun j u hj h1 => by
      rw [← h4, List.getElem?_take, if_pos hj] at h1
      rw [World.cell?, hh]
      simpa using h1
    obtain ⟨s1, s2, _, _⟩ := h.str k _ u (List.getElem?_eq_getElem hk) hp
    refine ⟨u, hp, ⟨?_, ?_, ?_, ?_, ?_, ?_, ?_⟩, ⟨s1, s2⟩, fun o => ?_⟩
    · exact hc' _ _ (by omega) (hx 0 (by omega))
    · exact hc' _ _ (by omega) (hx 1 (by omega))
    · exact hc' _ _ (by omega) (hx 2 (by omega))
    · exact hc' _ _ (by omega) (hx 3 (by omega))
    · exact hc' _ _ (by omega) (hx 4 (by omega))
    · exact hc' _ _ (by omega) (hx 5 (by omega))
    · exact hc' _ _ (by omega) (hx 6 (by omega))
    · unfold World.frozen?
      rw [hh]
      simp

theorem OwnP.at0 {base : Nat} {w : World} {pv : Option Addr} {n cap : Nat} {L : List Pr} {V : List (Value × Value)} (h : OwnP base w (.slice pv n cap) L V) {k : Nat} (hk : k < L.length) : ∃ g, pv = some ⟨g, 0, none⟩ ∧ base ≤ g ∧ g < w.heap.size := by
  rcases h.row.2 with ⟨_, h0⟩ | ⟨g, cap', cur, he, hb', hh, _⟩
  · omega
  · cases he
    exact ⟨g, rfl, hb', (Array.getElem?_eq_some_iff.1 hh).1⟩

theorem CopyAt.step {w wr w5 : World} {g n cap : Nat} {L : List Pr} {V : List (Value × Value)} {k : Nat} (h : CopyAt w wr (.slice (some ⟨g, 0, none⟩) n cap) L V k) (hk : k < L.length) (f : Fr None' wr w5) (hg : w.heap.size ≤ g) (hg2 : g < wr.heap.size) {a b : Value} (ha : StrsAt w5 a L[k].old) (hb : StrsAt w5 b L[k].new) (fa : ∀ j, a.ownBlock = some j → wr.heap.size ≤ j) (fb : ∀ j, b.ownBlock = some j → wr.heap.size ≤ j) :
    CopyAt w ((w5.setCell ⟨g, k * 7 + 5, none⟩ a).setCell ⟨g, k * 7 + 6, none⟩ b) (.slice (some ⟨g, 0, none⟩) n cap) L (V.set k (a, b)) (k + 1) := by
  obtain ⟨h1, h2⟩ := (h.own.kept f).setRows hk ha hb (fun j e e' => by have := fa j e; omega) (fun j e e' => by have := fb j e; omega)
  have hw := h.fr.size
  refine ⟨(h.fr.then7 f).trans h2 (fun i e => Or.inr (by omega)), h1, fun j u hj e => ?_⟩
  by_cases hjk : k = j
  · subst hjk
    rw [List.getElem?_set_self (by rw [h.own.len]; exact hk)] at e
    cases e
    exact ⟨fun i e => by have := fa i e; omega, fun i e => by have := fb i e; omega⟩
  · rw [List.getElem?_set_ne hjk] at e
    exact h.new j u (by omega) e

set_option maxHeartbeats 8000000 in
theorem copiedR_any (va : Option Addr) (n c : Nat) (L : List Pr) (w : World) (hl : L.length = n) (ha : PrsAt w va L) (hc : va = none → c = 0) (hn : n ≤ 90000) (hs : ∀ x ∈ L, x.old.length ≤ 900000 ∧ x.new.length ≤ 900000) :
    Calls Tryz.prog 24 #[.slice va n c] w fun e w' => ∃ v' V, e = .returned v' ∧ OwnP w.heap.size w' v' L V ∧ Fr None' w w' ∧ ∀ u ∈ V, ∀ k, (u.1.ownBlock = some k ∨ u.2.ownBlock = some k) → w.heap.size ≤ k := by
  have HCl := toHid11c (fun w' (f : Fr None' w w') => cloneP_any va n c L w' hl (ha.kept f) hc hn)
  have HS := toHid11c hs
  have HL := toHid11c hl
  have i1 : (n : Int) ≤ 90000 := by omega
  have q1 := HCl.out w (Fr.refl _ _)
  clear hl ha hc hs hn
  go_enter Tryz.func24, Tryz.ntmps24
  go_wp2_with fail
  with_reducible refine q1.mono ?_
  rintro e w1 ⟨v, U, rfl, O1, f1⟩
  obtain ⟨pv, cv, hv, _, _, _⟩ := O1.slice
  rw [HL.out] at hv
  subst hv
  have HI0 := toHid11c (show CopyAt w w1 (.slice pv n cv) L U 0 from ⟨f1, O1, fun j u hj => by omega⟩)
  clear q1 O1 f1 HCl
  go_wp2_with fail
  go_loopw [10] (fun vi wr => ∃ (k : Nat) (V : List (Value × Value)), k ≤ n ∧ vi = .int .i64 k ∧ Hid (CopyAt w wr (.slice pv n cv) L V k)) (fun vi _ => n - (intOf vi).toNat)
  case atStart => exact ⟨0, U, Nat.zero_le _, rfl, HI0.out⟩
  case round =>
    obtain ⟨k, V, hk, rfl, HI⟩ := hrel
    clear HI0
    by_cases hlt : k < n
    · have hkL : k < L.length := by rw [HL.out]; exact hlt
      obtain ⟨g, rfl, hg, hg2⟩ := HI.out.own.at0 hkL
      obtain ⟨⟨u1, u2⟩, hu, ⟨c0, c1, c2, c3, c4, c5, c6⟩, ⟨t1, t2⟩, cz⟩ := HI.out.own.cellsAt hkL
      obtain ⟨l1, l2⟩ := HS.out _ (List.getElem_mem hkL)
      simp only at c5 c6 t1 t2
      obtain ⟨pa, ca, rfl⟩ := t1.as2
      obtain ⟨pb, cb, rfl⟩ := t2.as2
      have HG := toHid11c (show w.heap.size ≤ g ∧ g < wr.heap.size from ⟨hg, hg2⟩)
      have HSt := toHid11c (fun w5 (f : Fr None' wr w5) a b (ha : StrsAt w5 a L[k].old) (hb : StrsAt w5 b L[k].new) fa fb => HI.out.step hkL f hg hg2 (a := a) (b := b) ha hb fa fb)
      have HO := toHid11c (fun w' (f : Fr None' wr w') => (clone_any _ _ w' (t1.kept f) l1).mono (fun e w'' (h : ∃ v', e = .returned v' ∧ StrsAt w'' v' L[k].old ∧ Fr None' w' w'' ∧ ∀ j, v'.ownBlock = some j → w'.heap.size ≤ j) => (show ∃ pa' ca', e = .returned (.slice pa' L[k].old.length ca') ∧ Hid (StrsAt w'' (.slice pa' L[k].old.length ca') L[k].old ∧ ∀ j, (Value.slice pa' L[k].old.length ca').ownBlock = some j → wr.heap.size ≤ j) ∧ Hid (Fr None' wr w'' ∧ Fr None' w' w'') from by
        obtain ⟨v, rfl, h1, h2, h3⟩ := h
        obtain ⟨p, c, rfl⟩ := h1.as2
        exact ⟨p, c, rfl, ⟨h1, fun j e => Nat.le_trans f.size (h3 j e)⟩, f.then7 h2, h2⟩)))
      have HP := toHid11c (fun w' (f : Fr None' wr w') => (clone_any _ _ w' (t2.kept f) l2).mono (fun e w'' (h : ∃ v', e = .returned v' ∧ StrsAt w'' v' L[k].new ∧ Fr None' w' w'' ∧ ∀ j, v'.ownBlock = some j → w'.heap.size ≤ j) => (show ∃ pa' ca', e = .returned (.slice pa' L[k].new.length ca') ∧ Hid (StrsAt w'' (.slice pa' L[k].new.length ca') L[k].new ∧ ∀ j, (Value.slice pa' L[k].new.length ca').ownBlock = some j → wr.heap.size ≤ j) ∧ Hid (Fr None' wr w'' ∧ Fr None' w' w'') from by
        obtain ⟨v, rfl, h1, h2, h3⟩ := h
        obtain ⟨p, c, rfl⟩ := h1.as2
        exact ⟨p, c, rfl, ⟨h1, fun j e => Nat.le_trans f.size (h3 j e)⟩, f.then7 h2, h2⟩)))
      have HCz := toHid11c (show ∀ w', Fr None' wr w' → w'.cell? ⟨g, k * 7 + 5, none⟩ = some (.slice pa L[k].old.length ca) ∧ w'.cell? ⟨g, k * 7 + 6, none⟩ = some (.slice pb L[k].new.length cb) ∧ ∀ o, w'.frozen? ⟨g, o, none⟩ = false from fun w' f => by
        obtain ⟨u', hu', ⟨_, _, _, _, _, d5, d6⟩, _, dz⟩ := (HI.out.own.kept f).cellsAt hkL
        rw [hu] at hu'
        cases hu'
        exact ⟨d5, d6, dz⟩)
      obtain ⟨no, hno⟩ : ∃ m, L[k].old.length = m := ⟨_, rfl⟩
      obtain ⟨nn, hnn⟩ : ∃ m, L[k].new.length = m := ⟨_, rfl⟩
      rw [hno] at c5 HO HCz
      rw [hnn] at c6 HP HCz
      clear t1 t2 l1 l2 hno hnn hu hg hg2
      generalize L[k] = x at c0 c1 c2 c3 c4 HSt HO HP
      clear hkL
      obtain ⟨K, P, T, F, A, lO, lN⟩ := x
      simp only at c0 c1 c2 c3 c4 HSt HO HP
      have i3 : (k : Int) < (n : Int) := by omega
      have i4 : (0 : Int) ≤ (k : Int) := by omega
      obtain ⟨w2, hw2⟩ : ∃ w2, wr.alloc (.cells #[.int .i64 K, .string P, .string T, .string F, .int .i64 A, .slice pa no ca, .slice pb nn cb] 45) = w2 := ⟨_, rfl⟩
      have F2 := toHid11c (show Fr None' wr w2 from hw2 ▸ Fr.alloc None' _ _)
      have HB2 := toHid11c (show ∀ w', Fr None' w2 w' → w'.cell? ⟨wr.heap.size, 5, none⟩ = some (.slice pa no ca) ∧ w'.cell? ⟨wr.heap.size, 6, none⟩ = some (.slice pb nn cb) from fun w' f => ⟨((hw2 ▸ Box.new wr _ _ _ _ _ _ _ : Box w2 _ _ _ _ _ _ _ _).kept f).cells.2.2.2.2.2.1, ((hw2 ▸ Box.new wr _ _ _ _ _ _ _ : Box w2 _ _ _ _ _ _ _ _).kept f).cells.2.2.2.2.2.2⟩)
      obtain ⟨a5, a6⟩ := HB2.out w2 (Fr.refl _ _)
      go_wp2_with fail
      clear c0 c1 c2 c3 c4 c5 c6 cz hw2
      go_region_with (first
          | (go_at_call 41; with_reducible (refine (HO.out _ (Fr.then7 (Hid.out F2) (Fr.drew _ _))).mono ?_); rintro e w4 ⟨pa', ca', rfl, HO4, H4⟩; obtain ⟨b5, b6⟩ := HB2.out w4 (Fr.then7 (Fr.drew _ _) (Hid.out H4).2))
          | (go_at_call 41; with_reducible (refine (HP.out _ (Hid.out H4).1).mono ?_); rintro e w5 ⟨pb', cb', rfl, HN5, H5⟩; obtain ⟨d5, d6, dz⟩ := HCz.out _ (Hid.out H5).1))
      all_goals
        have HI' := toHid11c (HSt.out w5 H5.out.1 _ _ (HO4.out.1.kept H5.out.2) HN5.out.1 HO4.out.2 HN5.out.2)
        clear a5 a6 b5 b6 d5 d6 dz HSt
        go_wp2_with fail
        exact ⟨⟨k + 1, _, by omega, by go_num, HI'.out⟩, by simp [intOf]; omega⟩
    · go_wp2_with fail
      go_ret
      exact ⟨_, V, rfl, HI.out.own, HI.out.fr, fun u hu j e => by
        obtain ⟨i, hi, rfl⟩ := List.getElem_of_mem hu
        have := HI.out.new i V[i] (by have := HI.out.own.len; have := HL.out; omega) (List.getElem?_eq_getElem hi)
        rcases e with e | e
        · exact this.1 j e
        · exact this.2 j e⟩

end Go.Proofs.YtpfkkpghgmmijaaGreatDoor
