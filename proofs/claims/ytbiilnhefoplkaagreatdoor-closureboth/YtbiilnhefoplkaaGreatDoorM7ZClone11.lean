/-
  What is proved here: the contracts that the statement stands on: ZClone11, ZClone9, ZCopy10, ZCopy11, ZGreat9, ZSame9, ZSameD13. Conditions: as each theorem names them.
-/
import Derived.Test.YtbiilnhefoplkaaGreatDoorM6ZStrs9
import Derived.Lib.SliceRun
import Derived.Deep.RegionHeld3
namespace Go.Proofs.YtbiilnhefoplkaaGreatDoor
open Go.RowKit
set_option maxRecDepth 100000

set_option maxHeartbeats 1000000 in
theorem cloneP_any (va : Option Addr) (n c : Nat) (L : List Pr) (w : World) (hl : L.length = n) (ha : PrsAt w va L) (hc : va = none → c = 0) (hn : n ≤ 90000) :
    Calls Tryz.prog 42 #[.slice va n c] w fun e w' => ∃ v' U, e = .returned v' ∧ OwnP w.heap.size w' v' L U ∧ Fr None' w w' := by
  cases va with
  | none =>
    have e : L = [] := by
      cases L with
      | nil => rfl
      | cons x l => obtain ⟨_, _, e, _⟩ := ha 0 x rfl; cases e
    subst e
    obtain rfl := hc rfl
    obtain rfl : n = 0 := hl.symm
    have q : ∀ w, (binOp .eql 34 (.slice none 0 0) (.slice none 0 0)).run Tryz.prog w = .ok (.bool true) w := fun w => Lib.run_eql_slice_nil w _ _ _ 0 0 0 0 Tryz.underlying34
    clear ha hc hl
    go_enter Tryz.func42, Tryz.ntmps42
    go_wp2_with fail
    go_ret
    exact ⟨_, [], rfl, OwnP.nil _ _, Fr.refl _ _⟩
  | some a =>
    have q : ∀ w, (binOp .eql 34 (.slice (some a) n c) (.slice none 0 0)).run Tryz.prog w = .ok (.bool false) w := fun w => Lib.run_eql_slice_nil w _ _ _ n c 0 0 Tryz.underlying34
    obtain ⟨w1, hw1⟩ : ∃ w1, w.alloc (.cells #[] 67) = w1 := ⟨_, rfl⟩
    have F1 : Fr None' w w1 := hw1 ▸ Fr.alloc None' w _
    have O1 : OwnP w.heap.size w1 (.slice (some ⟨w.heap.size, 0, none⟩) 0 0) [] [] := hw1 ▸ OwnP.empty (Nat.le_refl _)
    obtain ⟨v2, U2, w2, r2, O2, f2⟩ := O1.addAll ha hl hc F1 (Nat.le_refl _) F1.size (by simp; omega)
    have F2 : Fr None' w w2 := F1.trans f2 (fun i e => Or.inr (O1.ge e).1)
    obtain ⟨p2, c2, hv2, _⟩ := O2.slice
    have HR : Hid ((Builtin.append_ #[34, 34] 34 #[.slice (some ⟨w.heap.size, 0, none⟩) 0 0, .slice (some a) n c]).run Tryz.prog w1 = .ok v2 w2) := r2
    have HO : Hid (OwnP w.heap.size w2 v2 L U2 ∧ Fr None' w w2) := ⟨by simpa using O2, F2⟩
    clear ha hc hl hn F1 O1 r2 O2 f2 F2 hv2
    go_enter Tryz.func42, Tryz.ntmps42
    go_wp2_with (at_builtin
                 refine app_list9 rfl _ _ rfl rfl rfl HR.out ?_)
    go_ret
    exact ⟨_, U2, rfl, HO.out.1, HO.out.2⟩

theorem pcells_set : ∀ (L : List Pr) (V : List (Value × Value)) (k : Nat) (a b : Value), V.length = L.length → k < L.length → pcells L (V.set k (a, b)) = ((pcells L V).set (k * 7 + 5) a).set (k * 7 + 6) b
  | [], _, k, _, _, _, hk => by simp at hk
  | x :: L, [], _, _, _, e, _ => by cases e
  | x :: L, u :: V, 0, a, b, _, _ => by simp [pcells, prCells]
  | x :: L, u :: V, k + 1, a, b, e, hk => by
    have ih := pcells_set L V k a b (by simpa using e) (by simpa using hk)
    simp only [List.set_cons_succ, pcells, ih]
    rw [show (k + 1) * 7 + 5 = (k * 7 + 5) + 7 from by omega, show (k + 1) * 7 + 6 = (k * 7 + 6) + 7 from by omega]
    simp [prCells]

/-- The rows of one patch are set. -/
theorem OwnP.setRows {base : Nat} {w : World} {g n cap : Nat} {L : List Pr} {V : List (Value × Value)} (h : OwnP base w (.slice (some ⟨g, 0, none⟩) n cap) L V) {k : Nat} (hk : k < L.length) {a b : Value} (ha : StrsAt w a L[k].old) (hb : StrsAt w b L[k].new) (fa : ∀ j, a.ownBlock = some j → ¬ j = g) (fb : ∀ j, b.ownBlock = some j → ¬ j = g) :
    OwnP base ((w.setCell ⟨g, k * 7 + 5, none⟩ a).setCell ⟨g, k * 7 + 6, none⟩ b) (.slice (some ⟨g, 0, none⟩) n cap) L (V.set k (a, b)) ∧ Fr (fun j => j = g) w ((w.setCell ⟨g, k * 7 + 5, none⟩ a).setCell ⟨g, k * 7 + 6, none⟩ b) := by
  have f : Fr (fun j => j = g) w ((w.setCell ⟨g, k * 7 + 5, none⟩ a).setCell ⟨g, k * 7 + 6, none⟩ b) := (Fr.setQ _ _ _ _).then (Fr.setQ _ _ _ _)
  refine ⟨⟨by simp [h.len], ⟨by rw [pcells_set L V k a b h.len hk]; simpa using h.row.1, ?_⟩, fun j x u e1 e2 => ?_⟩, f⟩
  · rcases h.row.2 with ⟨hv, _⟩ | ⟨g', cap', cur, he, hb', hh, h1, h2, h3, h4⟩
    · cases hv
    · cases he
      have e1 := Go.heap_setCell_same w g (k * 7 + 5) _ _ a hh
      have e2 := Go.heap_setCell_same _ g (k * 7 + 6) _ _ b e1
      refine Or.inr ⟨g, cap, _, rfl, hb', e2, h1, h2, by simp [h3], ?_⟩
      rw [pcells_set L V k a b h.len hk, ← h4]
      simp [List.take_set]
  · have key : StrsAt w u.1 x.old ∧ StrsAt w u.2 x.new ∧ Far (.slice (some ⟨g, 0, none⟩) n cap) u.1 x.old ∧ Far (.slice (some ⟨g, 0, none⟩) n cap) u.2 x.new := by
      by_cases hj : k = j
      · subst hj
        rw [List.getElem?_set_self (by rw [h.len]; exact hk)] at e2
        rw [List.getElem?_eq_getElem hk] at e1
        cases e1
        cases e2
        exact ⟨ha, hb, fun _ i e e' => fa i e (Option.some.inj e').symm, fun _ i e e' => fb i e (Option.some.inj e').symm⟩
      · rw [List.getElem?_set_ne hj] at e2
        exact h.str j x u e1 e2
    obtain ⟨s1, s2, f1, f2⟩ := key
    exact ⟨s1.far f (fun hl i e e' => f1 hl i e (by rw [e']; rfl)), s2.far f (fun hl i e e' => f2 hl i e (by rw [e']; rfl)), f1, f2⟩

end Go.Proofs.YtbiilnhefoplkaaGreatDoor

namespace Go.Proofs.YtbiilnhefoplkaaGreatDoor
open Go.RowKit
set_option maxRecDepth 100000

set_option maxHeartbeats 1000000 in
theorem clone_any (v : Value) (l : List ByteArray) (w : World) (h : StrsAt w v l) (hl : l.length ≤ 900000) :
    Calls Tryz.prog 41 #[v] w fun e w' => ∃ v', e = .returned v' ∧ StrsAt w' v' l ∧ Fr None' w w' ∧ ∀ k, v'.ownBlock = some k → w.heap.size ≤ k := by
  obtain ⟨va, c, rfl, h1, h2, h3⟩ := h
  cases va with
  | none =>
    have e : l = [] := by
      cases l with
      | nil => rfl
      | cons x l => obtain ⟨_, _, e, _⟩ := h3 0 x rfl; cases e
    subst e
    obtain rfl := h1 rfl
    have q : ∀ w, (binOp .eql 23 (.slice none 0 0) (.slice none 0 0)).run Tryz.prog w = .ok (.bool true) w := fun w => Lib.run_eql_slice_nil w _ _ _ 0 0 0 0 Tryz.underlying23
    clear h1 h2 h3
    go_enter Tryz.func41, Tryz.ntmps41
    go_wp2_with fail
    go_ret
    exact ⟨_, rfl, ⟨none, 0, rfl, fun _ => rfl, Nat.le_refl _, Lines.Row.nil _ _⟩, Fr.refl _ _, fun k e => by cases e⟩
  | some a =>
    have q : ∀ w, (binOp .eql 23 (.slice (some a) l.length c) (.slice none 0 0)).run Tryz.prog w = .ok (.bool false) w := fun w => Lib.run_eql_slice_nil w _ _ _ l.length c 0 0 Tryz.underlying23
    have HR : Hid (Lines.Row w (some a) l) := h3
    have HL : Hid (l.length ≤ 900000) := hl
    clear h1 h2 h3 hl
    go_enter Tryz.func41, Tryz.ntmps41
    go_wp2_with (at_builtin
                 refine Lines.append_str rfl _ _ rfl rfl (Lines.OwnS.empty (w0 := w) (Nat.le_refl _)) (Lines.Fr.alloc _ _ _) (m := l) rfl (HR.out.fr (Lines.Fr.alloc _ _ _)) (fun e => by cases e) (by have := HL.out; simp; omega) ?_
                 intro v1 w1 own1 f1 _)
    rw [List.nil_append] at own1
    go_ret
    exact ⟨_, rfl, own_strs own1, ofLN f1, fun k e => own_ge own1 e⟩

end Go.Proofs.YtbiilnhefoplkaaGreatDoor

namespace Go.Proofs.YtbiilnhefoplkaaGreatDoor
open Go.RowKit
set_option maxRecDepth 100000

theorem StrsAt.as2 {w : World} {v : Value} {l : List ByteArray} (h : StrsAt w v l) : ∃ pa ca, v = .slice pa l.length ca := by
  obtain ⟨pa, ca, e, _⟩ := h
  exact ⟨pa, ca, e⟩

end Go.Proofs.YtbiilnhefoplkaaGreatDoor

namespace Go.Proofs.YtbiilnhefoplkaaGreatDoor
open Go.RowKit
set_option maxRecDepth 100000

theorem toHid11c {p : Prop} (h : p) : Hid p := h

/-- What copied's loop has made: the rows of the first k patches are new. -/
structure CopyAt (w wr : World) (v : Value) (L : List Pr) (V : List (Value × Value)) (k : Nat) : Prop where
  fr : Fr None' w wr
  own : OwnP w.heap.size wr v L V
  new : ∀ j u, j < k → V[j]? = some u → (∀ i, u.1.ownBlock = some i → w.heap.size ≤ i) ∧ ∀ i, u.2.ownBlock = some i → w.heap.size ≤ i

/-- The cells of one patch of a row. -/
theorem OwnP.cellsAt {base : Nat} {w : World} {g n cap : Nat} {L : List Pr} {V : List (Value × Value)} (h : OwnP base w (.slice (some ⟨g, 0, none⟩) n cap) L V) {k : Nat} (hk : k < L.length) :
    ∃ u, V[k]? = some u ∧ (w.cell? ⟨g, k * 7, none⟩ = some (.int .i64 L[k].kind) ∧ w.cell? ⟨g, k * 7 + 1, none⟩ = some (.string L[k].path) ∧ w.cell? ⟨g, k * 7 + 2, none⟩ = some (.string L[k].dst) ∧ w.cell? ⟨g, k * 7 + 3, none⟩ = some (.string L[k].src) ∧ w.cell? ⟨g, k * 7 + 4, none⟩ = some (.int .i64 L[k].pos) ∧ w.cell? ⟨g, k * 7 + 5, none⟩ = some u.1 ∧ w.cell? ⟨g, k * 7 + 6, none⟩ = some u.2) ∧ (StrsAt w u.1 L[k].old ∧ StrsAt w u.2 L[k].new) ∧ ∀ o, w.frozen? ⟨g, o, none⟩ = false := by
  obtain ⟨u, hp⟩ : ∃ u, V[k]? = some u := ⟨_, List.getElem?_eq_getElem (by rw [h.len]; exact hk)⟩
  have hx := pcells_get L V k _ u (List.getElem?_eq_getElem hk) hp
  rcases h.row.2 with ⟨hv, _⟩ | ⟨g', cap', cur, he, hb', hh, h1, h2, h3, h4⟩
  · cases hv
  · cases he
    have hc' : ∀ j u, j < L.length * 7 → (pcells L V)[j]? = some u → w.cell? ⟨g, j, none⟩ = some u := fun j u hj h1 => by
      rw [← h4, List.getElem?_take, if_pos hj] at h1
      rw [World.cell?, hh]
      simpa using h1
    obtain ⟨s1, s2, _, _⟩ := h.str k _ u (List.getElem?_eq_getElem hk) hp
    refine ⟨u, hp, ⟨?_, ?_, ?_, ?_, ?_, ?_, ?_⟩, ⟨s1, s2⟩, fun o => ?_⟩
    · exact hc' _ _ (by omega) (hx 0 (by omega))
    · exact hc' _ _ (by omega) (hx 1 (by omega))
    · exact hc' _ _ (by omega) (hx 2 (by omega))
    · exact hc' _ _ (by omega) (hx 3 (by omega))
    · exact hc' _ _ (by omega) (hx 4 (by omega))
    · exact hc' _ _ (by omega) (hx 5 (by omega))
    · exact hc' _ _ (by omega) (hx 6 (by omega))
    · unfold World.frozen?
      rw [hh]
      simp

theorem OwnP.at0 {base : Nat} {w : World} {pv : Option Addr} {n cap : Nat} {L : List Pr} {V : List (Value × Value)} (h : OwnP base w (.slice pv n cap) L V) {k : Nat} (hk : k < L.length) : ∃ g, pv = some ⟨g, 0, none⟩ ∧ base ≤ g ∧ g < w.heap.size := by
  rcases h.row.2 with ⟨_, h0⟩ | ⟨g, cap', cur, he, hb', hh, _⟩
  · omega
  · cases he
    exact ⟨g, rfl, hb', (Array.getElem?_eq_some_iff.1 hh).1⟩

theorem CopyAt.step {w wr w5 : World} {g n cap : Nat} {L : List Pr} {V : List (Value × Value)} {k : Nat} (h : CopyAt w wr (.slice (some ⟨g, 0, none⟩) n cap) L V k) (hk : k < L.length) (f : Fr None' wr w5) (hg : w.heap.size ≤ g) (hg2 : g < wr.heap.size) {a b : Value} (ha : StrsAt w5 a L[k].old) (hb : StrsAt w5 b L[k].new) (fa : ∀ j, a.ownBlock = some j → wr.heap.size ≤ j) (fb : ∀ j, b.ownBlock = some j → wr.heap.size ≤ j) :
    CopyAt w ((w5.setCell ⟨g, k * 7 + 5, none⟩ a).setCell ⟨g, k * 7 + 6, none⟩ b) (.slice (some ⟨g, 0, none⟩) n cap) L (V.set k (a, b)) (k + 1) := by
  obtain ⟨h1, h2⟩ := (h.own.kept f).setRows hk ha hb (fun j e e' => by have := fa j e; omega) (fun j e e' => by have := fb j e; omega)
  have hw := h.fr.size
  refine ⟨(h.fr.then7 f).trans h2 (fun i e => Or.inr (by omega)), h1, fun j u hj e => ?_⟩
  by_cases hjk : k = j
  · subst hjk
    rw [List.getElem?_set_self (by rw [h.own.len]; exact hk)] at e
    cases e
    exact ⟨fun i e => by have := fa i e; omega, fun i e => by have := fb i e; omega⟩
  · rw [List.getElem?_set_ne hjk] at e
    exact h.new j u (by omega) e

end Go.Proofs.YtbiilnhefoplkaaGreatDoor

namespace Go.Proofs.YtbiilnhefoplkaaGreatDoor
open Go.RowKit
set_option maxRecDepth 100000

def GreatP (x : Pr) (w : World) (e : Ending) (w' : World) : Prop := ∃ g, e = .returned (.bool g) ∧ (g = false → x.weight < 4000) ∧ Fr None' w w'

set_option maxHeartbeats 4000000 in
theorem pgreat_any (x : Pr) (vo vn : Value) (w : World) (ho : StrsAt w vo x.old) (hn : StrsAt w vn x.new) (lo : x.old.length ≤ 140737488355328) (ln : x.new.length ≤ 140737488355328) :
    Calls Tryz.prog 61 #[.agg #[.int .i64 x.kind, .string x.path, .string x.dst, .string x.src, .int .i64 x.pos, vo, vn]] w fun e w' => GreatP x w e w' := by
  obtain ⟨K, P, T, F, A, lO, lN⟩ := x
  simp only at ho hn lo ln ⊢
  obtain ⟨pa, ca, rfl, _, _, r1⟩ := ho
  obtain ⟨pb, cb, rfl, _, _, r2⟩ := hn
  obtain ⟨no, hno⟩ : ∃ n, lO.length = n := ⟨_, rfl⟩
  obtain ⟨nn, hnn⟩ : ∃ n, lN.length = n := ⟨_, rfl⟩
  rw [hno] at lo
  rw [hnn] at ln
  rw [hno, hnn]
  have HL : Hid (lO.length = no ∧ lN.length = nn) := ⟨hno, hnn⟩
  have HR1 : Hid (Lines.Row w pa lO) := r1
  have HR2 : Hid (Lines.Row w pb lN) := r2
  obtain ⟨w1, hw1⟩ : ∃ w1, w.alloc (.cells #[.int .i64 K, .string P, .string T, .string F, .int .i64 A, .slice pa no ca, .slice pb nn cb] 67) = w1 := ⟨_, rfl⟩
  have F1 : Fr None' w w1 := hw1 ▸ Fr.alloc None' w _
  have B1 : Box w1 w.heap.size (.int .i64 K) (.string P) (.string T) (.string F) (.int .i64 A) (.slice pa no ca) (.slice pb nn cb) := hw1 ▸ Box.new w _ _ _ _ _ _ _
  obtain ⟨a0, a1, a2, a3, a4, a5, a6⟩ := B1.cells
  have HB : Hid (Box w1 w.heap.size (.int .i64 K) (.string P) (.string T) (.string F) (.int .i64 A) (.slice pa no ca) (.slice pb nn cb)) := B1
  have HF : Hid (Fr None' w w1) := F1
  obtain ⟨mP, hmP⟩ : ∃ m : Nat, min P.size 4000 = m := ⟨_, rfl⟩
  obtain ⟨mT, hmT⟩ : ∃ m : Nat, min T.size 4000 = m := ⟨_, rfl⟩
  obtain ⟨mF, hmF⟩ : ∃ m : Nat, min F.size 4000 = m := ⟨_, rfl⟩
  have eP : (if (4000 : Int) < (P.size : Int) then (4000 : Int) else (P.size : Int)) = (mP : Int) := by split <;> omega
  have eP2 : min (P.size : Int) 4000 = (mP : Int) := by omega
  have eT : (if (4000 : Int) < (T.size : Int) then (4000 : Int) else (T.size : Int)) = (mT : Int) := by split <;> omega
  have eT2 : min (T.size : Int) 4000 = (mT : Int) := by omega
  have eF : (if (4000 : Int) < (F.size : Int) then (4000 : Int) else (F.size : Int)) = (mF : Int) := by split <;> omega
  have eF2 : min (F.size : Int) 4000 = (mF : Int) := by omega
  have HM : Hid ((mP < 4000 → mP = P.size) ∧ (mT < 4000 → mT = T.size) ∧ (mF < 4000 → mF = F.size)) := ⟨by omega, by omega, by omega⟩
  have i1 : (mP : Int) ≤ 4000 := by omega
  have i2 : (mT : Int) ≤ 4000 := by omega
  have i3 : (mF : Int) ≤ 4000 := by omega
  have i4 : (no : Int) ≤ 140737488355328 := by omega
  have i5 : (nn : Int) ≤ 140737488355328 := by omega
  have u1 : IntKind.i64.wrap ((mP : Int) + (mT : Int)) = (mP : Int) + (mT : Int) := by rw [IntKind.wrap_i64]; omega
  have u2 : IntKind.i64.wrap ((mP : Int) + (mT : Int) + (mF : Int)) = (mP : Int) + (mT : Int) + (mF : Int) := by rw [IntKind.wrap_i64]; omega
  have u3 : IntKind.i64.wrap ((mP : Int) + (mT : Int) + (mF : Int) + (no : Int)) = (mP : Int) + (mT : Int) + (mF : Int) + (no : Int) := by rw [IntKind.wrap_i64]; omega
  have u4 : IntKind.i64.wrap ((mP : Int) + (mT : Int) + (mF : Int) + (no : Int) + (nn : Int)) = ((mP + mT + mF + no + nn : Nat) : Int) := by rw [IntKind.wrap_i64]; omega
  obtain ⟨N0, hN0⟩ : ∃ N0, mP + mT + mF + no + nn = N0 := ⟨_, rfl⟩
  rw [hN0] at u4
  have i6 : (N0 : Int) ≤ 281474976730000 := by omega
  have HN0 : Hid (N0 < 4000 → N0 = P.size + T.size + F.size + no + nn) := fun h => by
    have h1 := HM.out.1 (by omega)
    have h2 := HM.out.2.1 (by omega)
    have h3 := HM.out.2.2 (by omega)
    omega
  clear hno hnn lo ln r1 r2 F1 B1 hmP hmT hmF hN0
  go_enter Tryz.func61, Tryz.ntmps61
  go_wp2_with fail
  have HK : Hid (∀ w2, Fr None' w1 w2 → w2.cell? ⟨w.heap.size, 5, none⟩ = some (.slice pa no ca) ∧ w2.cell? ⟨w.heap.size, 6, none⟩ = some (.slice pb nn cb) ∧ Lines.Row w2 pa lO ∧ Lines.Row w2 pb lN) := fun w2 f => ⟨f.keepCell a5 (fun e => e), f.keepCell a6 (fun e => e), HR1.out.fr (toLN (HF.out.then7 f)), HR2.out.fr (toLN (HF.out.then7 f))⟩
  clear u1 u2 u3 u4 eP eP2 eT eT2 eF eF2 i1 i2 i3 a0 a1 a2 a3 a4 a5 a6 HR1 HR2 hw1 HB HM
  go_loopw [3, 4] (fun vn vi w2 => ∃ q M : Nat, q ≤ no ∧ vi = .int .i64 q ∧ vn = .int .i64 M ∧ (M : Int) ≤ 281474976740000 ∧ Hid (M < 4000 → M = P.size + T.size + F.size + no + nn + ((lO.take q).map (·.size)).sum) ∧ Hid (Fr None' w1 w2)) (fun _ vi _ => no - (intOf vi).toNat)
  case atStart => exact ⟨0, N0, Nat.zero_le _, rfl, rfl, by omega, fun h => by have := HN0.out h; simpa using this, Fr.refl _ _⟩
  case round =>
    obtain ⟨q, M, hq, rfl, rfl, hM, HMM, HF2⟩ := hrel
    obtain ⟨d5, d6, hr, _⟩ := HK.out wr HF2.out
    by_cases hqt : q < no
    · by_cases hs : M < 4000
      · have hql : q < lO.length := by rw [HL.out.1]; exact hqt
        obtain ⟨gl, ol, rfl, e1⟩ := hr.get hql
        have HZ : Hid (((lO.take (q + 1)).map (·.size)).sum = ((lO.take q).map (·.size)).sum + lO[q].size) := sizes_step hql
        obtain ⟨s, hse⟩ : ∃ s, lO[q] = s := ⟨_, rfl⟩
        rw [hse] at e1 HZ
        obtain ⟨mS, hmS⟩ : ∃ m : Nat, min s.size 4000 = m := ⟨_, rfl⟩
        have eS : (if (4000 : Int) < (s.size : Int) then (4000 : Int) else (s.size : Int)) = (mS : Int) := by split <;> omega
        have eS2 : min (s.size : Int) 4000 = (mS : Int) := by omega
        have HM2 : Hid (mS < 4000 → mS = s.size) := by show _ → _; omega
        have u1 : (mS : Int) ≤ 4000 := by omega
        have u2 : (M : Int) < 4000 := by omega
        have u3 : (q : Int) < (no : Int) := by omega
        have u4 : (0 : Int) ≤ (q : Int) := by omega
        clear hse hmS hr hs hM
        go_wp2_with fail
        refine ⟨⟨q + 1, M + mS, by omega, by go_num, by go_num, by omega, fun hh => ?_, HF2.out⟩, by simp [intOf]; omega⟩
        have h1 := HMM.out (by omega)
        have h2 := HM2.out (by omega)
        rw [HZ.out]
        omega
      · have u2 : ¬ (M : Int) < 4000 := by omega
        have u3 : (q : Int) < (no : Int) := by omega
        have u5 : (4000 : Int) ≤ (M : Int) := by omega
        have HFW : Hid (Fr None' w1 wr) := HF2.out
        have HQ : Hid (M < 4000 → M = P.size + T.size + F.size + no + nn + (lO.map (·.size)).sum) := fun h => absurd h hs
        clear hr hs HMM HN0
        go_wp2_with fail
        clear d5 d6 u2 u3 u5 hqt
        go_loopw [3, 5] (fun vn vi w2 => ∃ j R : Nat, j ≤ nn ∧ vi = .int .i64 j ∧ vn = .int .i64 R ∧ (R : Int) ≤ 281474976750000 ∧ Hid (R < 4000 → R = P.size + T.size + F.size + no + nn + (lO.map (·.size)).sum + ((lN.take j).map (·.size)).sum) ∧ Hid (Fr None' w1 w2)) (fun _ vi _ => nn - (intOf vi).toNat)
        case atStart => exact ⟨0, M, Nat.zero_le _, rfl, rfl, by omega, fun h => by have := HQ.out h; simpa using this, HFW.out⟩
        case round =>
          clear HQ
          obtain ⟨j, R, hj, rfl, rfl, hR, HRR, HF3⟩ := hrel
          obtain ⟨_, d6, _, hr⟩ := HK.out wr HF3.out
          by_cases hjt : j < nn
          · by_cases hs : R < 4000
            · have hql : j < lN.length := by rw [HL.out.2]; exact hjt
              obtain ⟨gl, ol, rfl, e1⟩ := hr.get hql
              have HZ : Hid (((lN.take (j + 1)).map (·.size)).sum = ((lN.take j).map (·.size)).sum + lN[j].size) := sizes_step hql
              obtain ⟨s, hse⟩ : ∃ s, lN[j] = s := ⟨_, rfl⟩
              rw [hse] at e1 HZ
              obtain ⟨mS, hmS⟩ : ∃ m : Nat, min s.size 4000 = m := ⟨_, rfl⟩
              have eS : (if (4000 : Int) < (s.size : Int) then (4000 : Int) else (s.size : Int)) = (mS : Int) := by split <;> omega
              have eS2 : min (s.size : Int) 4000 = (mS : Int) := by omega
              have HM2 : Hid (mS < 4000 → mS = s.size) := by show _ → _; omega
              have u1 : (mS : Int) ≤ 4000 := by omega
              have u2 : (R : Int) < 4000 := by omega
              have u3 : (j : Int) < (nn : Int) := by omega
              have u4 : (0 : Int) ≤ (j : Int) := by omega
              clear hse hmS hr hs hR
              go_wp2_with fail
              refine ⟨⟨j + 1, R + mS, by omega, by go_num, by go_num, by omega, fun hh => ?_, HF3.out⟩, by simp [intOf]; omega⟩
              have h1 := HRR.out (by omega)
              have h2 := HM2.out (by omega)
              rw [HZ.out]
              omega
            · have u2 : ¬ (R : Int) < 4000 := by omega
              have u3 : (j : Int) < (nn : Int) := by omega
              have u5 : (4000 : Int) ≤ (R : Int) := by omega
              have HFX : Hid (Fr None' w wr) := HF.out.then7 HF3.out
              clear hr hs HRR
              go_wp2_with fail
              go_ret
              exact ⟨true, by first | rfl | exact ret_bool7 (by simp; omega), fun h => (by cases h), HFX.out⟩
          · have e : j = nn := by omega
            subst e
            have HFX : Hid (Fr None' w wr) := HF.out.then7 HF3.out
            by_cases hs : R < 4000
            · have HW : Hid (Pr.weight ⟨K, P, T, F, A, lO, lN⟩ < 4000) := by
                have h1 := HRR.out hs
                rw [List.take_of_length_le (by rw [HL.out.2]; exact Nat.le_refl _)] at h1
                have h2 := HL.out
                show _ < _
                unfold Pr.weight
                simp only
                omega
              have u3 : (R : Int) < 4000 := by omega
              clear hr hs hR HRR
              go_wp2_with fail
              go_ret
              exact ⟨false, by first | rfl | exact ret_bool7 (by simp; omega), fun _ => HW.out, HFX.out⟩
            · have u3 : (4000 : Int) ≤ (R : Int) := by omega
              clear hr hs hR HRR
              go_wp2_with fail
              go_ret
              exact ⟨true, by first | rfl | exact ret_bool7 (by simp; omega), fun h => (by cases h), HFX.out⟩
    · have e : q = no := by omega
      subst e
      have HQ : Hid (M < 4000 → M = P.size + T.size + F.size + q + nn + (lO.map (·.size)).sum) := fun h => by
        have h1 := HMM.out h
        rw [List.take_of_length_le (by rw [HL.out.1]; exact Nat.le_refl _)] at h1
        exact h1
      have HFW : Hid (Fr None' w1 wr) := HF2.out
      clear hr hqt HMM HN0
      go_wp2_with fail
      clear d5 d6
      go_loopw [3, 5] (fun vn vi w2 => ∃ j R : Nat, j ≤ nn ∧ vi = .int .i64 j ∧ vn = .int .i64 R ∧ (R : Int) ≤ 281474976750000 ∧ Hid (R < 4000 → R = P.size + T.size + F.size + q + nn + (lO.map (·.size)).sum + ((lN.take j).map (·.size)).sum) ∧ Hid (Fr None' w1 w2)) (fun _ vi _ => nn - (intOf vi).toNat)
      case atStart => exact ⟨0, M, Nat.zero_le _, rfl, rfl, by omega, fun h => by have := HQ.out h; simpa using this, HFW.out⟩
      case round =>
        clear HQ
        obtain ⟨j, R, hj, rfl, rfl, hR, HRR, HF3⟩ := hrel
        obtain ⟨_, d6, _, hr⟩ := HK.out wr HF3.out
        by_cases hjt : j < nn
        · by_cases hs : R < 4000
          · have hql : j < lN.length := by rw [HL.out.2]; exact hjt
            obtain ⟨gl, ol, rfl, e1⟩ := hr.get hql
            have HZ : Hid (((lN.take (j + 1)).map (·.size)).sum = ((lN.take j).map (·.size)).sum + lN[j].size) := sizes_step hql
            obtain ⟨s, hse⟩ : ∃ s, lN[j] = s := ⟨_, rfl⟩
            rw [hse] at e1 HZ
            obtain ⟨mS, hmS⟩ : ∃ m : Nat, min s.size 4000 = m := ⟨_, rfl⟩
            have eS : (if (4000 : Int) < (s.size : Int) then (4000 : Int) else (s.size : Int)) = (mS : Int) := by split <;> omega
            have eS2 : min (s.size : Int) 4000 = (mS : Int) := by omega
            have HM2 : Hid (mS < 4000 → mS = s.size) := by show _ → _; omega
            have u1 : (mS : Int) ≤ 4000 := by omega
            have u2 : (R : Int) < 4000 := by omega
            have u3 : (j : Int) < (nn : Int) := by omega
            have u4 : (0 : Int) ≤ (j : Int) := by omega
            clear hse hmS hr hs hR
            go_wp2_with fail
            refine ⟨⟨j + 1, R + mS, by omega, by go_num, by go_num, by omega, fun hh => ?_, HF3.out⟩, by simp [intOf]; omega⟩
            have h1 := HRR.out (by omega)
            have h2 := HM2.out (by omega)
            rw [HZ.out]
            omega
          · have u2 : ¬ (R : Int) < 4000 := by omega
            have u3 : (j : Int) < (nn : Int) := by omega
            have u5 : (4000 : Int) ≤ (R : Int) := by omega
            have HFX : Hid (Fr None' w wr) := HF.out.then7 HF3.out
            clear hr hs HRR
            go_wp2_with fail
            go_ret
            exact ⟨true, by first | rfl | exact ret_bool7 (by simp; omega), fun h => (by cases h), HFX.out⟩
        · have e : j = nn := by omega
          subst e
          have HFX : Hid (Fr None' w wr) := HF.out.then7 HF3.out
          by_cases hs : R < 4000
          · have HW : Hid (Pr.weight ⟨K, P, T, F, A, lO, lN⟩ < 4000) := by
              have h1 := HRR.out hs
              rw [List.take_of_length_le (by rw [HL.out.2]; exact Nat.le_refl _)] at h1
              have h2 := HL.out
              show _ < _
              unfold Pr.weight
              simp only
              omega
            have u3 : (R : Int) < 4000 := by omega
            clear hr hs hR HRR
            go_wp2_with fail
            go_ret
            exact ⟨false, by first | rfl | exact ret_bool7 (by simp; omega), fun _ => HW.out, HFX.out⟩
          · have u3 : (4000 : Int) ≤ (R : Int) := by omega
            clear hr hs hR HRR
            go_wp2_with fail
            go_ret
            exact ⟨true, by first | rfl | exact ret_bool7 (by simp; omega), fun h => (by cases h), HFX.out⟩

def GreatPs (L : List Pr) (n : Nat) (w : World) (e : Ending) (w' : World) : Prop := ∃ g, e = .returned (.bool g) ∧ (g = false → n ≤ 60 ∧ ∀ x ∈ L, x.weight < 4000) ∧ Fr None' w w'

set_option maxHeartbeats 4000000 in
theorem pgreats_any (va : Option Addr) (n c : Nat) (L : List Pr) (w : World) (hl : L.length = n) (ha : PrsAt w va L) (hs : ∀ x ∈ L, x.old.length ≤ 140737488355328 ∧ x.new.length ≤ 140737488355328) :
    Calls Tryz.prog 48 #[.slice va n c] w fun e w' => GreatPs L n w e w' := by
  have HL : Hid (L.length = n) := hl
  have HA : Hid (PrsAt w va L) := ha
  have HS : Hid (∀ x ∈ L, x.old.length ≤ 140737488355328 ∧ x.new.length ≤ 140737488355328) := hs
  clear hl ha hs
  by_cases h60 : 60 < n
  · have i0 : (60 : Int) < (n : Int) := by omega
    go_enter Tryz.func48, Tryz.ntmps48
    go_wp2_with fail
    go_ret
    exact ⟨true, rfl, fun h => (by cases h), Fr.refl _ _⟩
  have i1 : (n : Int) ≤ 60 := by omega
  clear h60
  go_enter Tryz.func48, Tryz.ntmps48
  go_wp2_with fail
  go_loopw [3] (fun vi wr => ∃ k : Nat, k ≤ n ∧ vi = .int .i64 k ∧ Hid (∀ x ∈ L.take k, x.weight < 4000) ∧ Hid (Fr None' w wr)) (fun vi _ => n - (intOf vi).toNat)
  case atStart => exact ⟨0, Nat.zero_le _, rfl, (fun x hx => by simp at hx), Fr.refl _ _⟩
  case round =>
    obtain ⟨k, hk, rfl, HW, HF⟩ := hrel
    by_cases hlt : k < n
    · have hkL : k < L.length := by rw [HL.out]; exact hlt
      obtain ⟨g, o, rfl, vo, vn, d0, d1, d2, d3, d4, d5, d6, s1, s2⟩ := (HA.out.kept HF.out).get hkL
      obtain ⟨z1, z2⟩ := HS.out _ (List.getElem_mem hkL)
      have HT : Hid (L.take (k + 1) = L.take k ++ [L[k]]) := List.take_succ_eq_append_getElem hkL
      generalize L[k] = x at d0 d1 d2 d3 d4 s1 s2 z1 z2 HT
      have cS := pgreat_any x vo vn wr s1 s2 z1 z2
      obtain ⟨pa, ca, rfl, _⟩ := s1
      obtain ⟨pb, cb, rfl, _⟩ := s2
      have HX : Hid (∀ w', GreatP x wr (.returned (.bool false)) w' → (∀ y ∈ L.take (k + 1), y.weight < 4000) ∧ Fr None' w w') := fun w' h => by
        obtain ⟨g, e, h1, h2⟩ := h
        cases e
        refine ⟨fun y hy => ?_, HF.out.then7 h2⟩
        rw [HT.out] at hy
        rcases List.mem_append.1 hy with hy | hy
        · exact HW.out y hy
        · rw [List.mem_singleton.1 hy]; exact h1 rfl
      have HY : Hid (∀ w', GreatP x wr (.returned (.bool true)) w' → Fr None' w w') := fun w' h => by
        obtain ⟨g, e, h1, h2⟩ := h
        exact HF.out.then7 h2
      have HG : Hid (∀ e w', GreatP x wr e w' → (e = .returned (.bool true) ∧ Fr None' w w') ∨ (e = .returned (.bool false) ∧ Hid (∀ y ∈ L.take (k + 1), y.weight < 4000) ∧ Fr None' w w')) := fun e w' h => by
        obtain ⟨g, e1, h1, h2⟩ := id h
        subst e1
        cases g
        · exact Or.inr ⟨rfl, HX.out w' h⟩
        · exact Or.inl ⟨rfl, HY.out w' h⟩
      obtain ⟨K, P, T, F, A, lO, lN⟩ := x
      simp only at d0 d1 d2 d3 d4 d5 d6 cS HG
      have i2 : (k : Int) < (n : Int) := by omega
      have i3 : (0 : Int) ≤ (k : Int) := by omega
      clear z1 z2 HX HY HT
      go_wp2_with fail
      with_reducible refine cS.mono ?_
      rintro e w2 h
      rcases HG.out e w2 h with ⟨rfl, f2⟩ | ⟨rfl, HW2, f2⟩
      · have HF2 : Hid (Fr None' w w2) := f2
        clear cS h f2 HG d0 d1 d2 d3 d4 d5 d6
        go_wp2_with fail
        go_ret
        exact ⟨true, rfl, fun h => (by cases h), HF2.out⟩
      · have HF2 : Hid (Fr None' w w2) := f2
        clear cS h f2 HG d0 d1 d2 d3 d4 d5 d6
        go_wp2_with fail
        exact ⟨⟨k + 1, by omega, by go_num, HW2.out, HF2.out⟩, by simp [intOf]; omega⟩
    · have e : k = n := by omega
      subst e
      have HW2 : Hid (∀ x ∈ L, x.weight < 4000) := fun x hx => HW.out x (by rw [List.take_of_length_le (by rw [HL.out]; exact Nat.le_refl _)]; exact hx)
      have HK60 : Hid (k ≤ 60) := by show _ ≤ _; omega
      go_wp2_with fail
      go_ret
      exact ⟨false, rfl, fun _ => ⟨HK60.out, HW2.out⟩, HF.out⟩

end Go.Proofs.YtbiilnhefoplkaaGreatDoor

namespace Go.Proofs.YtbiilnhefoplkaaGreatDoor
open Go.RowKit
set_option maxRecDepth 100000

set_option maxHeartbeats 4000000 in
theorem psame_any (x : Pr) (vo vn uo un : Value) (w : World) (ho : StrsAt w vo x.old) (hn : StrsAt w vn x.new) (go : StrsAt w uo x.old) (gn : StrsAt w un x.new) (lo : x.old.length ≤ 900000) (ln : x.new.length ≤ 900000) :
    Calls Tryz.prog 59 #[.agg #[.int .i64 x.kind, .string x.path, .string x.dst, .string x.src, .int .i64 x.pos, vo, vn], .agg #[.int .i64 x.kind, .string x.path, .string x.dst, .string x.src, .int .i64 x.pos, uo, un]] w fun e w' => e = .returned (.bool true) ∧ Fr None' w w' := by
  obtain ⟨K, P, T, F, A, lO, lN⟩ := x
  simp only at ho hn go gn lo ln ⊢
  obtain ⟨pa, ca, rfl, _, _, r1⟩ := ho
  obtain ⟨pb, cb, rfl, _, _, r2⟩ := hn
  obtain ⟨qa, da, rfl, _, _, r3⟩ := go
  obtain ⟨qb, db, rfl, _, _, r4⟩ := gn
  obtain ⟨w1, hw1⟩ : ∃ w1, w.alloc (.cells #[.int .i64 K, .string P, .string T, .string F, .int .i64 A, .slice pa lO.length ca, .slice pb lN.length cb] 67) = w1 := ⟨_, rfl⟩
  obtain ⟨w2, hw2⟩ : ∃ w2, w1.alloc (.cells #[.int .i64 K, .string P, .string T, .string F, .int .i64 A, .slice qa lO.length da, .slice qb lN.length db] 67) = w2 := ⟨_, rfl⟩
  have F1 : Fr None' w w1 := hw1 ▸ Fr.alloc None' w _
  have F2 : Fr None' w1 w2 := hw2 ▸ Fr.alloc None' w1 _
  have HF : Hid (Fr None' w w2) := F1.then7 F2
  have B1 : Box w2 w.heap.size (.int .i64 K) (.string P) (.string T) (.string F) (.int .i64 A) (.slice pa lO.length ca) (.slice pb lN.length cb) := (hw1 ▸ Box.new w _ _ _ _ _ _ _ : Box w1 _ _ _ _ _ _ _ _).kept F2
  have B2 : Box w2 w1.heap.size (.int .i64 K) (.string P) (.string T) (.string F) (.int .i64 A) (.slice qa lO.length da) (.slice qb lN.length db) := hw2 ▸ Box.new w1 _ _ _ _ _ _ _
  have cO : ∀ w', Fr None' w2 w' → Calls Tryz.prog 14 #[.slice pa lO.length ca, .slice qa lO.length da] w' fun e w'' => e = .returned (.bool true) ∧ Fr None' w2 w'' := fun w' f => by
    have h := Lines.same_any pa qa ca da lO lO w' (r1.fr (toLN (HF.out.then7 f))) (r3.fr (toLN (HF.out.then7 f))) (by omega)
    rw [decide_eq_true rfl] at h
    exact h.mono fun _ _ h => ⟨h.1, f.then7 (ofLN h.2)⟩
  have cN : ∀ w', Fr None' w2 w' → Calls Tryz.prog 14 #[.slice pb lN.length cb, .slice qb lN.length db] w' fun e w'' => e = .returned (.bool true) ∧ Fr None' w2 w'' := fun w' f => by
    have h := Lines.same_any pb qb cb db lN lN w' (r2.fr (toLN (HF.out.then7 f))) (r4.fr (toLN (HF.out.then7 f))) (by omega)
    rw [decide_eq_true rfl] at h
    exact h.mono fun _ _ h => ⟨h.1, f.then7 (ofLN h.2)⟩
  obtain ⟨no, hno⟩ : ∃ n, lO.length = n := ⟨_, rfl⟩
  obtain ⟨nn, hnn⟩ : ∃ n, lN.length = n := ⟨_, rfl⟩
  rw [hno] at cO B1 B2 hw1 hw2
  rw [hnn] at cN B1 B2 hw1 hw2
  rw [hno, hnn]
  have HK : Hid (∀ w', Fr None' w2 w' → w'.cell? ⟨w.heap.size, 5, none⟩ = some (.slice pa no ca) ∧ w'.cell? ⟨w.heap.size, 6, none⟩ = some (.slice pb nn cb) ∧ w'.cell? ⟨w1.heap.size, 5, none⟩ = some (.slice qa no da) ∧ w'.cell? ⟨w1.heap.size, 6, none⟩ = some (.slice qb nn db)) := fun w' f => ⟨(B1.kept f).cells.2.2.2.2.2.1, (B1.kept f).cells.2.2.2.2.2.2, (B2.kept f).cells.2.2.2.2.2.1, (B2.kept f).cells.2.2.2.2.2.2⟩
  obtain ⟨a0, a1, a2, a3, a4, a5, a6⟩ := B1.cells
  obtain ⟨b0, b1, b2, b3, b4, b5, b6⟩ := B2.cells
  clear hno hnn F1 F2 B1 B2 r1 r2 r3 r4 lo ln
  have q1 := cO w2 (Fr.refl _ _)
  go_enter Tryz.func59, Tryz.ntmps59
  go_wp2_with fail
  with_reducible refine q1.mono ?_
  rintro e w3 ⟨rfl, F3⟩
  have q2 := cN w3 F3
  obtain ⟨_, k6, _, j6⟩ := HK.out w3 F3
  clear q1 F3 a0 a1 a2 a3 a4 a5 a6 b0 b1 b2 b3 b4 b5 b6 cO cN
  go_wp2_with fail
  with_reducible refine q2.mono ?_
  rintro e w4 ⟨rfl, F4⟩
  have HX : Hid (Fr None' w w4) := HF.out.then7 F4
  clear q2 F4 k6 j6
  go_wp2_with fail
  go_ret
  exact ⟨rfl, HX.out⟩

set_option maxHeartbeats 4000000 in
theorem psames_any (va vb : Option Addr) (n c d : Nat) (L : List Pr) (w : World) (hl : L.length = n) (ha : PrsAt w va L) (hb : PrsAt w vb L) (hn : n ≤ 100000) (hs : ∀ x ∈ L, x.old.length ≤ 900000 ∧ x.new.length ≤ 900000) :
    Calls Tryz.prog 45 #[.slice va n c, .slice vb n d] w fun e w' => e = .returned (.bool true) ∧ Fr None' w w' := by
  have HL : Hid (L.length = n) := hl
  have HA : Hid (PrsAt w va L) := ha
  have HB : Hid (PrsAt w vb L) := hb
  have HS : Hid (∀ x ∈ L, x.old.length ≤ 900000 ∧ x.new.length ≤ 900000) := hs
  have i1 : (n : Int) ≤ 100000 := by omega
  clear hl ha hb hn hs
  go_enter Tryz.func45, Tryz.ntmps45
  go_wp2_with fail
  go_loopw [5] (fun vi wr => ∃ k : Nat, k ≤ n ∧ vi = .int .i64 k ∧ Hid (Fr None' w wr)) (fun vi _ => n - (intOf vi).toNat)
  case atStart => exact ⟨0, Nat.zero_le _, rfl, Fr.refl _ _⟩
  case round =>
    obtain ⟨k, hk, rfl, HF⟩ := hrel
    by_cases hlt : k < n
    · have hkL : k < L.length := by rw [HL.out]; exact hlt
      obtain ⟨g, o, rfl, vo, vn, d0, d1, d2, d3, d4, d5, d6, s1, s2⟩ := (HA.out.kept HF.out).get hkL
      obtain ⟨g2, o2, rfl, uo, un, e0, e1, e2, e3, e4, e5, e6, s3, s4⟩ := (HB.out.kept HF.out).get hkL
      obtain ⟨z1, z2⟩ := HS.out _ (List.getElem_mem hkL)
      obtain ⟨x, hxe⟩ : ∃ x, L[k] = x := ⟨_, rfl⟩
      rw [hxe] at d0 d1 d2 d3 d4 e0 e1 e2 e3 e4 s1 s2 s3 s4 z1 z2
      have cS : ∀ w', Fr None' wr w' → Calls Tryz.prog 59 #[.agg #[.int .i64 x.kind, .string x.path, .string x.dst, .string x.src, .int .i64 x.pos, vo, vn], .agg #[.int .i64 x.kind, .string x.path, .string x.dst, .string x.src, .int .i64 x.pos, uo, un]] w' fun e w'' => e = .returned (.bool true) ∧ Fr None' w' w'' := fun w' f => psame_any x vo vn uo un w' (s1.kept f) (s2.kept f) (s3.kept f) (s4.kept f) z1 z2
      obtain ⟨pa, ca, rfl, _⟩ := s1
      obtain ⟨pb, cb, rfl, _⟩ := s2
      obtain ⟨qa, da, rfl, _⟩ := s3
      obtain ⟨qb, db, rfl, _⟩ := s4
      obtain ⟨K, P, T, F, A, lO, lN⟩ := x
      simp only at d0 d1 d2 d3 d4 d5 d6 e0 e1 e2 e3 e4 e5 e6 cS
      have i2 : (k : Int) < (n : Int) := by omega
      have i3 : (0 : Int) ≤ (k : Int) := by omega
      clear hxe z1 z2
      have HK : Hid (∀ w', Fr None' wr w' → Fr None' wr w' ∧ w'.cell? ⟨g, o + k * 7, none⟩ = some (.int .i64 K) ∧ w'.cell? ⟨g, o + k * 7 + 1, none⟩ = some (.string P) ∧ w'.cell? ⟨g, o + k * 7 + 2, none⟩ = some (.string T) ∧ w'.cell? ⟨g, o + k * 7 + 3, none⟩ = some (.string F) ∧ w'.cell? ⟨g, o + k * 7 + 4, none⟩ = some (.int .i64 A) ∧ w'.cell? ⟨g, o + k * 7 + 5, none⟩ = some (.slice pa lO.length ca) ∧ w'.cell? ⟨g, o + k * 7 + 6, none⟩ = some (.slice pb lN.length cb) ∧ w'.cell? ⟨g2, o2 + k * 7, none⟩ = some (.int .i64 K) ∧ w'.cell? ⟨g2, o2 + k * 7 + 1, none⟩ = some (.string P) ∧ w'.cell? ⟨g2, o2 + k * 7 + 2, none⟩ = some (.string T) ∧ w'.cell? ⟨g2, o2 + k * 7 + 3, none⟩ = some (.string F) ∧ w'.cell? ⟨g2, o2 + k * 7 + 4, none⟩ = some (.int .i64 A) ∧ w'.cell? ⟨g2, o2 + k * 7 + 5, none⟩ = some (.slice qa lO.length da) ∧ w'.cell? ⟨g2, o2 + k * 7 + 6, none⟩ = some (.slice qb lN.length db)) := fun w' f => ⟨f, f.keepCell d0 (fun e => e), f.keepCell d1 (fun e => e), f.keepCell d2 (fun e => e), f.keepCell d3 (fun e => e), f.keepCell d4 (fun e => e), f.keepCell d5 (fun e => e), f.keepCell d6 (fun e => e), f.keepCell e0 (fun e => e), f.keepCell e1 (fun e => e), f.keepCell e2 (fun e => e), f.keepCell e3 (fun e => e), f.keepCell e4 (fun e => e), f.keepCell e5 (fun e => e), f.keepCell e6 (fun e => e)⟩
      clear d0 d1 d2 d3 d4 d5 d6 e0 e1 e2 e3 e4 e5 e6
      go_wp2_with fail
      go_region_held3 (fun w' => Fr None' wr w' ∧ w'.cell? ⟨g, o + k * 7, none⟩ = some (.int .i64 K) ∧ w'.cell? ⟨g, o + k * 7 + 1, none⟩ = some (.string P) ∧ w'.cell? ⟨g, o + k * 7 + 2, none⟩ = some (.string T) ∧ w'.cell? ⟨g, o + k * 7 + 3, none⟩ = some (.string F) ∧ w'.cell? ⟨g, o + k * 7 + 4, none⟩ = some (.int .i64 A) ∧ w'.cell? ⟨g, o + k * 7 + 5, none⟩ = some (.slice pa lO.length ca) ∧ w'.cell? ⟨g, o + k * 7 + 6, none⟩ = some (.slice pb lN.length cb) ∧ w'.cell? ⟨g2, o2 + k * 7, none⟩ = some (.int .i64 K) ∧ w'.cell? ⟨g2, o2 + k * 7 + 1, none⟩ = some (.string P) ∧ w'.cell? ⟨g2, o2 + k * 7 + 2, none⟩ = some (.string T) ∧ w'.cell? ⟨g2, o2 + k * 7 + 3, none⟩ = some (.string F) ∧ w'.cell? ⟨g2, o2 + k * 7 + 4, none⟩ = some (.int .i64 A) ∧ w'.cell? ⟨g2, o2 + k * 7 + 5, none⟩ = some (.slice qa lO.length da) ∧ w'.cell? ⟨g2, o2 + k * 7 + 6, none⟩ = some (.slice qb lN.length db))
        (exact HK.out _ (by first | exact Fr.drew None' wr | assumption | exact Fr.then7 (Fr.drew None' wr) (by assumption)))
        (first | (go_at_call 59; with_reducible (refine (cS _ (Fr.drew None' wr)).mono ?_); rintro e w6 ⟨rfl, F6⟩))
      have HX : Hid (Fr None' w w6) := HF.out.then7 ((Fr.drew None' wr).then7 F6)
      clear cS F6 HK
      go_wp2_with fail
      exact ⟨⟨k + 1, by omega, by go_num, HX.out⟩, by simp [intOf]; omega⟩
    · go_wp2_with fail
      go_ret
      exact ⟨rfl, HF.out⟩

end Go.Proofs.YtbiilnhefoplkaaGreatDoor

namespace Go.Proofs.YtbiilnhefoplkaaGreatDoor
open Go.RowKit
set_option maxRecDepth 100000

set_option maxHeartbeats 8000000 in
theorem psame_dec (x y : Pr) (vo vn uo un : Value) (w : World) (ho : StrsAt w vo x.old) (hn : StrsAt w vn x.new) (go : StrsAt w uo y.old) (gn : StrsAt w un y.new) (lo : x.old.length ≤ 900000) (ln : x.new.length ≤ 900000) :
    Calls Tryz.prog 59 #[.agg #[.int .i64 x.kind, .string x.path, .string x.dst, .string x.src, .int .i64 x.pos, vo, vn], .agg #[.int .i64 y.kind, .string y.path, .string y.dst, .string y.src, .int .i64 y.pos, uo, un]] w fun e w' => e = .returned (.bool (alikeP x y)) ∧ Fr None' w w' := by
  obtain ⟨K, P, T, F, A, lO, lN⟩ := x
  obtain ⟨K', P', T', F', A', mO, mN⟩ := y
  simp only at ho hn go gn lo ln ⊢
  obtain ⟨pa, ca, rfl, _, _, r1⟩ := ho
  obtain ⟨pb, cb, rfl, _, _, r2⟩ := hn
  obtain ⟨qa, da, rfl, _, _, r3⟩ := go
  obtain ⟨qb, db, rfl, _, _, r4⟩ := gn
  have cO : ∀ w', Fr None' w w' → Calls Tryz.prog 14 #[.slice pa lO.length ca, .slice qa mO.length da] w' fun e w'' => e = .returned (.bool (decide (lO = mO))) ∧ Fr None' w' w'' := fun w' f => (Lines.same_any pa qa ca da lO mO w' (r1.fr (toLN f)) (r3.fr (toLN f)) (by omega)).mono fun _ _ h => ⟨h.1, ofLN h.2⟩
  have cN : ∀ w', Fr None' w w' → Calls Tryz.prog 14 #[.slice pb lN.length cb, .slice qb mN.length db] w' fun e w'' => e = .returned (.bool (decide (lN = mN))) ∧ Fr None' w' w'' := fun w' f => (Lines.same_any pb qb cb db lN mN w' (r2.fr (toLN f)) (r4.fr (toLN f)) (by omega)).mono fun _ _ h => ⟨h.1, ofLN h.2⟩
  obtain ⟨no, hno⟩ : ∃ n, lO.length = n := ⟨_, rfl⟩
  obtain ⟨nn, hnn⟩ : ∃ n, lN.length = n := ⟨_, rfl⟩
  obtain ⟨mo, hmo⟩ : ∃ n, mO.length = n := ⟨_, rfl⟩
  obtain ⟨mn, hmn⟩ : ∃ n, mN.length = n := ⟨_, rfl⟩
  rw [hno, hmo] at cO
  rw [hnn, hmn] at cN
  rw [hno, hnn, hmo, hmn]
  have HE := toHid8 (show alikeP ⟨K, P, T, F, A, lO, lN⟩ ⟨K', P', T', F', A', mO, mN⟩ = (decide (K = K') && decide (P = P') && decide (T = T') && decide (F = F') && decide (A = A') && decide (lO = mO) && decide (lN = mN)) from rfl)
  rw [HE.out]
  obtain ⟨RO, hRO⟩ : ∃ R, decide (lO = mO) = R := ⟨_, rfl⟩
  obtain ⟨RN, hRN⟩ : ∃ R, decide (lN = mN) = R := ⟨_, rfl⟩
  rw [hRO, hRN]
  rw [hRO] at cO
  rw [hRN] at cN
  have HO := toHid8 cO
  have HNn := toHid8 cN
  obtain ⟨w1, hw1⟩ : ∃ w1, w.alloc (.cells #[.int .i64 K, .string P, .string T, .string F, .int .i64 A, .slice pa no ca, .slice pb nn cb] 67) = w1 := ⟨_, rfl⟩
  obtain ⟨w2, hw2⟩ : ∃ w2, w1.alloc (.cells #[.int .i64 K', .string P', .string T', .string F', .int .i64 A', .slice qa mo da, .slice qb mn db] 67) = w2 := ⟨_, rfl⟩
  have F1 : Fr None' w w1 := hw1 ▸ Fr.alloc None' w _
  have F2 : Fr None' w1 w2 := hw2 ▸ Fr.alloc None' w1 _
  have HF := toHid8 (F1.then7 F2)
  have B1 : Box w2 w.heap.size (.int .i64 K) (.string P) (.string T) (.string F) (.int .i64 A) (.slice pa no ca) (.slice pb nn cb) := (hw1 ▸ Box.new w _ _ _ _ _ _ _ : Box w1 _ _ _ _ _ _ _ _).kept F2
  have B2 : Box w2 w1.heap.size (.int .i64 K') (.string P') (.string T') (.string F') (.int .i64 A') (.slice qa mo da) (.slice qb mn db) := hw2 ▸ Box.new w1 _ _ _ _ _ _ _
  have HK := toHid8 (show ∀ w', Fr None' w2 w' → w'.cell? ⟨w.heap.size, 6, none⟩ = some (.slice pb nn cb) ∧ w'.cell? ⟨w1.heap.size, 6, none⟩ = some (.slice qb mn db) from fun w' f => ⟨(B1.kept f).cells.2.2.2.2.2.2, (B2.kept f).cells.2.2.2.2.2.2⟩)
  obtain ⟨a0, a1, a2, a3, a4, a5, a6⟩ := B1.cells
  obtain ⟨b0, b1, b2, b3, b4, b5, b6⟩ := B2.cells
  clear hno hnn hmo hmn F1 F2 B1 B2 r1 r2 r3 r4 lo ln cO cN hRO hRN HE
  by_cases hK : K = K'
  case neg =>
    rw [decide_eq_false hK]
    simp only [Bool.false_and]
    have z1 : (K == K') = false := beq_eq_false_iff_ne.2 hK
    clear hK
    go_enter Tryz.func59, Tryz.ntmps59
    go_wp2_with fail
    go_ret
    exact ⟨rfl, HF.out⟩
  case pos =>
  subst hK
  by_cases hP : P = P'
  case neg =>
    rw [decide_eq_false hP]
    simp only [Bool.and_false, Bool.false_and]
    obtain ⟨z1, z2⟩ := Lines.str_no hP
    clear hP
    go_enter Tryz.func59, Tryz.ntmps59
    go_wp2_with fail
    go_ret
    exact ⟨rfl, HF.out⟩
  case pos =>
  subst hP
  by_cases hT : T = T'
  case neg =>
    rw [decide_eq_false hT]
    simp only [Bool.and_false, Bool.false_and]
    obtain ⟨z1, z2⟩ := Lines.str_no hT
    clear hT
    go_enter Tryz.func59, Tryz.ntmps59
    go_wp2_with fail
    go_ret
    exact ⟨rfl, HF.out⟩
  case pos =>
  subst hT
  by_cases hF : F = F'
  case neg =>
    rw [decide_eq_false hF]
    simp only [Bool.and_false, Bool.false_and]
    obtain ⟨z1, z2⟩ := Lines.str_no hF
    clear hF
    go_enter Tryz.func59, Tryz.ntmps59
    go_wp2_with fail
    go_ret
    exact ⟨rfl, HF.out⟩
  case pos =>
  subst hF
  by_cases hA : A = A'
  case neg =>
    rw [decide_eq_false hA]
    simp only [Bool.and_false, Bool.false_and]
    have z1 : (A == A') = false := beq_eq_false_iff_ne.2 hA
    clear hA
    go_enter Tryz.func59, Tryz.ntmps59
    go_wp2_with fail
    go_ret
    exact ⟨rfl, HF.out⟩
  case pos =>
  subst hA
  simp only [decide_true, Bool.true_and]
  have q1 := HO.out w2 HF.out
  go_enter Tryz.func59, Tryz.ntmps59
  go_wp2_with fail
  with_reducible refine q1.mono ?_
  rintro e w3 ⟨rfl, F3⟩
  have q2 := HNn.out w3 (HF.out.then7 F3)
  obtain ⟨k6, j6⟩ := HK.out w3 F3
  have HF3 := toHid8 (HF.out.then7 F3)
  clear q1 F3 a0 a1 a2 a3 a4 a5 a6 b0 b1 b2 b3 b4 b5 b6
  cases RO with
  | false =>
    go_wp2_with fail
    go_ret
    exact ⟨rfl, HF3.out⟩
  | true =>
    go_wp2_with fail
    with_reducible refine q2.mono ?_
    rintro e w4 ⟨rfl, F4⟩
    have HX := toHid8 (HF3.out.then7 F4)
    clear q2 F4 k6 j6
    cases RN <;> (go_wp2_with fail; go_ret; exact ⟨rfl, HX.out⟩)

end Go.Proofs.YtbiilnhefoplkaaGreatDoor
