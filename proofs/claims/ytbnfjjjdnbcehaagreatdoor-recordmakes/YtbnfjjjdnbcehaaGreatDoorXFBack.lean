/- What is proved here: contracts for RecordMakes. Conditions: as named. -/
import Derived.Test.YtbnfjjjdnbcehaaGreatDoorX1FPlain
import Derived.Shelf.Abstract
import Derived.Shelf.RegionOpen
import Derived.WalkKit
import Derived.OwnWalkIn
import Derived.TacticsInMore
import Derived.LoopNIn
import Derived.LoopIn
set_option maxHeartbeats 16000000
namespace Go.Proofs.YtbnfjjjdnbcehaaGreatDoor.Diff
open Go.RowKit Go.Shelf
set_option maxRecDepth 100000
attribute [local go_sem] Oper.semAt_some
structure Zh (R : Nat → Prop) (W W' : World) : Prop where
 size : W.heap.size ≤ W'.heap.size
 same : ∀ k, R k → k < W.heap.size → W'.heap[k]? = W.heap[k]?
theorem Zh.refl (R : Nat → Prop) (W : World) : Zh R W W := ⟨Nat.le_refl _, fun _ _ _ => rfl⟩
theorem Zh.trans {R : Nat → Prop} {A B C : World} (h : Zh R A B) (k : Zh R B C) : Zh R A C := ⟨Nat.le_trans h.size k.size, fun i hi hl => (k.same i hi (by have := h.size; omega)).trans (h.same i hi hl)⟩
theorem Zh.put {R : Nat → Prop} (W : World) {l : Nat} (hl : ∀ k, R k → k ≠ l) (o : Obj) : Zh R W (W.putObj l o) := ⟨by simp, fun k hk _ => World.putObj_heap_other (fun e => hl k hk e)⟩
theorem Zh.of {R M : Nat → Prop} {W W' : World} (f : Fr M W W') (h : ∀ k, R k → ¬ M k) : Zh R W W' := ⟨f.size, fun k hk hl => f.block k hl (h k hk)⟩
theorem Zh.cell {R : Nat → Prop} {W W' : World} (h : Zh R W W') {a : Addr} {v : Value} (hc : W.cell? a = some v) (hr : R a.block) : W'.cell? a = some v := by
 have := h.same a.block hr (Zq hc)
 unfold World.cell? at hc ⊢
 rw [this]; exact hc
theorem Zh.row {R : Nat → Prop} {W W' : World} (h : Zh R W W') {va : Option Addr} {L : List Value} (hr : RowV W va L) (hR : ∀ a, va = some a → R a.block) : RowV W' va L := fun j v hj => by
 obtain ⟨g, o, e, hc⟩ := hr j v hj
 exact ⟨g, o, e, h.cell hc (hR ⟨g, o, none⟩ e)⟩
def BackR (b : Nat) (va : Option Addr) : Nat → Prop := fun k => k = b ∨ ∃ a, va = some a ∧ k = a.block
def elB (L : List Value) (t : Nat) : Nat × Value := (L.length - 1 - t, L[L.length - 1 - t]?.getD (.bool false))
def Zj (L : List Value) (m : Nat) : List (Nat × Value) := (List.range m).map (elB L)
theorem uptoB_succ (L : List Value) (m : Nat) : Zj L (m + 1) = Zj L m ++ [elB L m] := by
 simp [Zj, List.range_succ]
theorem Zd (L : List Value) (m : Nat) : (Zj L m).length = m := by simp [Zj]
theorem uptoB_snoc {L : List Value} {pre : List (Nat × Value)} {x : Nat × Value} {m : Nat} (h : pre ++ [x] = Zj L m) : ∃ t, m = t + 1 ∧ pre = Zj L t ∧ x = elB L t := by
 have hl := congrArg List.length h
 rw [Zd, List.length_append] at hl
 cases m with
 | zero => simp at hl
 | succ t =>
  rw [uptoB_succ] at h
  obtain ⟨h1, h2⟩ := List.append_inj' h rfl
  exact ⟨t, rfl, h1, by simpa using h2⟩
theorem elB_get {L : List Value} {t k : Nat} (h : t + k + 1 = L.length) : elB L t = (k, L[k]'(by omega)) := by
 unfold elB
 rw [show L.length - 1 - t = k by omega, List.getElem?_eq_getElem (by omega)]
 rfl
theorem backI_any (va : Option Addr) (n c : Nat) (w : World) : Calls Tryz.prog 203 #[.slice va n c] w fun e w' => e = .returned (.func (.func 225) #[] #[.pointer (some ⟨w.heap.size, 0, none⟩)]) ∧ w' = w.alloc (.cells #[.slice va n c] 122) := by
 go_enter Tryz.func203, Tryz.ntmps203
 go_wp2_with fail
 go_ret
 exact ⟨rfl, rfl⟩
theorem backI_seq (b n c : Nat) (va : Option Addr) (L : List Value) (N : Nat) (hN : L.length = N) (hL : N ≤ 1000000000) : SeqM (α := Nat × Value) Fence.wide n Tryz.prog 225 #[.pointer (some ⟨b, 0, none⟩)] (fun x => #[.int .i64 x.1, x.2]) None' (Zh (BackR b va))
  (fun xs => xs = Zj L N) (fun pre => ∃ m, m ≤ N ∧ pre = Zj L m) (fun W => W.cell? ⟨b, 0, none⟩ = some (.slice va N c) ∧ RowV W va L) := fun l J Jx W hB hJ hJx hY h0 => by
 obtain ⟨hb, hr⟩ := hB
 have HN : Hid (L.length = N) := hN
 have i1 : (N : Int) ≤ 1000000000 := by omega
 refine callsIn_of_wp Tryz.func225 rfl trivial ?_ rfl
 simp only [Tryz.ntmps225, List.size_toArray, List.length_cons, List.length_nil, Nat.reduceAdd, Nat.reduceSub, Array.replicate_succ, Array.replicate_zero, List.push_toArray, List.append_toArray, List.nil_append, List.cons_append]
 clear hN
 gi_wp2
 gi_loopw [3] (fun v wr => ∃ k m : Nat, m + k = N ∧ v = .int .i64 ((k : Int) - 1) ∧ Hid (J (Zj L m) wr) ∧ wr.cell? ⟨b, 0, none⟩ = some (.slice va N c) ∧ Hid (RowV wr va L)) (fun v _ => (intOf v + 1).toNat)
 case atStart => exact ⟨N, 0, by omega, rfl, h0, hb, hr⟩
 case round =>
  clear hb hr h0
  obtain ⟨k, m, hkm, rfl, HJ, hb, HR⟩ := hrel
  cases k with
  | zero =>
   gi_wp2_with fail
   go_end0
   exact ⟨⟨_, rfl⟩, .inl ⟨_, by rw [show m = N by omega], HJ.out⟩⟩
  | succ k =>
   have hkB : k < L.length := by rw [HN.out]; omega
   obtain ⟨g, o, rfl, c2⟩ := HR.out.get hkB
   have e1 : ((k + 1 : Nat) : Int) - 1 = (k : Int) := by omega
   rw [e1]
   have i3 : (0 : Int) ≤ (k : Int) := by omega
   have i4 : (k : Int) < (N : Int) := by omega
   have hel := elB_get (L := L) (t := m) (k := k) (by rw [HN.out]; omega)
   obtain ⟨x, hx⟩ : ∃ x, L[k] = x := ⟨_, rfl⟩
   rw [hx] at c2 hel
   have hup : Zj L m ++ [(k, x)] = Zj L (m + 1) := by rw [uptoB_succ, hel]
   obtain ⟨fn, tmps, assign, body, hy, hR⟩ := hY (Zj L m) (k, x) wr HJ.out ⟨m + 1, by omega, hup⟩
   dsimp only at hy
   have HU : Hid (Zj L m ++ [(k, x)] = Zj L (m + 1)) := hup
   have HRr : Hid (RowV wr (some ⟨g, o, none⟩) L) := HR.out
   clear hup hel hx HR HJ hY
   gi_wp2_with fail
   refine ⟨(fun h => by cases h), hR.mono ?_⟩
   clear hy hR
   rintro e W' (⟨rfl, hJ', hK⟩ | ⟨rfl, hJx'⟩)
   ·rw [HU.out] at hJ'
    have HJ' : Hid (J (Zj L (m + 1)) W') := hJ'
    have hb' := hK.cell hb (Or.inl rfl)
    have HR' : Hid (RowV W' (some ⟨g, o, none⟩) L) := hK.row HRr.out (fun a e => Or.inr ⟨a, e, rfl⟩)
    clear hJ' hK HRr hb c2
    gi_wp2_with fail
    go_roundw
    case rel => exact ⟨k, m + 1, by omega, rfl, HJ'.out, hb', HR'.out⟩
    case measure => simp [intOf]
   ·gi_wp2_with fail
    refine bodyPost_ret (results_none rfl _ _ _) rfl ?_
    rw [HU.out] at hJx'
    exact ⟨⟨_, rfl⟩, .inr ⟨_, ⟨m + 1, by omega, rfl⟩, hJx'⟩⟩
theorem backB_any (va : Option Addr) (n c : Nat) (w : World) : Calls Tryz.prog 201 #[.slice va n c] w fun e w' => e = .returned (.func (.func 224) #[] #[.pointer (some ⟨w.heap.size, 0, none⟩)]) ∧ w' = w.alloc (.cells #[.slice va n c] 173) := by
 go_enter Tryz.func201, Tryz.ntmps201
 go_wp2_with fail
 go_ret
 exact ⟨rfl, rfl⟩
theorem backB_seq (b n c : Nat) (va : Option Addr) (L : List Value) (N : Nat) (hN : L.length = N) (hL : N ≤ 1000000000) : SeqM (α := Nat × Value) Fence.wide n Tryz.prog 224 #[.pointer (some ⟨b, 0, none⟩)] (fun x => #[.int .i64 x.1, x.2]) None' (Zh (BackR b va))
  (fun xs => xs = Zj L N) (fun pre => ∃ m, m ≤ N ∧ pre = Zj L m) (fun W => W.cell? ⟨b, 0, none⟩ = some (.slice va N c) ∧ RowV W va L) := fun l J Jx W hB hJ hJx hY h0 => by
 obtain ⟨hb, hr⟩ := hB
 have HN : Hid (L.length = N) := hN
 have i1 : (N : Int) ≤ 1000000000 := by omega
 refine callsIn_of_wp Tryz.func224 rfl trivial ?_ rfl
 simp only [Tryz.ntmps224, List.size_toArray, List.length_cons, List.length_nil, Nat.reduceAdd, Nat.reduceSub, Array.replicate_succ, Array.replicate_zero, List.push_toArray, List.append_toArray, List.nil_append, List.cons_append]
 clear hN
 gi_wp2
 gi_loopw [3] (fun v wr => ∃ k m : Nat, m + k = N ∧ v = .int .i64 ((k : Int) - 1) ∧ Hid (J (Zj L m) wr) ∧ wr.cell? ⟨b, 0, none⟩ = some (.slice va N c) ∧ Hid (RowV wr va L)) (fun v _ => (intOf v + 1).toNat)
 case atStart => exact ⟨N, 0, by omega, rfl, h0, hb, hr⟩
 case round =>
  clear hb hr h0
  obtain ⟨k, m, hkm, rfl, HJ, hb, HR⟩ := hrel
  cases k with
  | zero =>
   gi_wp2_with fail
   go_end0
   exact ⟨⟨_, rfl⟩, .inl ⟨_, by rw [show m = N by omega], HJ.out⟩⟩
  | succ k =>
   have hkB : k < L.length := by rw [HN.out]; omega
   obtain ⟨g, o, rfl, c2⟩ := HR.out.get hkB
   have e1 : ((k + 1 : Nat) : Int) - 1 = (k : Int) := by omega
   rw [e1]
   have i3 : (0 : Int) ≤ (k : Int) := by omega
   have i4 : (k : Int) < (N : Int) := by omega
   have hel := elB_get (L := L) (t := m) (k := k) (by rw [HN.out]; omega)
   obtain ⟨x, hx⟩ : ∃ x, L[k] = x := ⟨_, rfl⟩
   rw [hx] at c2 hel
   have hup : Zj L m ++ [(k, x)] = Zj L (m + 1) := by rw [uptoB_succ, hel]
   obtain ⟨fn, tmps, assign, body, hy, hR⟩ := hY (Zj L m) (k, x) wr HJ.out ⟨m + 1, by omega, hup⟩
   dsimp only at hy
   have HU : Hid (Zj L m ++ [(k, x)] = Zj L (m + 1)) := hup
   have HRr : Hid (RowV wr (some ⟨g, o, none⟩) L) := HR.out
   clear hup hel hx HR HJ hY
   gi_wp2_with fail
   refine ⟨(fun h => by cases h), hR.mono ?_⟩
   clear hy hR
   rintro e W' (⟨rfl, hJ', hK⟩ | ⟨rfl, hJx'⟩)
   ·rw [HU.out] at hJ'
    have HJ' : Hid (J (Zj L (m + 1)) W') := hJ'
    have hb' := hK.cell hb (Or.inl rfl)
    have HR' : Hid (RowV W' (some ⟨g, o, none⟩) L) := hK.row HRr.out (fun a e => Or.inr ⟨a, e, rfl⟩)
    clear hJ' hK HRr hb c2
    gi_wp2_with fail
    go_roundw
    case rel => exact ⟨k, m + 1, by omega, rfl, HJ'.out, hb', HR'.out⟩
    case measure => simp [intOf]
   ·gi_wp2_with fail
    refine bodyPost_ret (results_none rfl _ _ _) rfl ?_
    rw [HU.out] at hJx'
    exact ⟨⟨_, rfl⟩, .inr ⟨_, ⟨m + 1, by omega, rfl⟩, hJx'⟩⟩
end Go.Proofs.YtbnfjjjdnbcehaaGreatDoor.Diff
