/-
  What is proved here: the contracts that the statement stands on: Clone11, Clone9, Exch9, Inv9, Copy10, Copy11. Conditions: as each theorem names them.
-/
import Derived.Test.YtbnfjjjdnbcehaaGreatDoorQ11RAll9
import Derived.Lib.SliceRun
import Derived.Test.YtbnfjjjdnbcehaaGreatDoorQ8Strs9
import Derived.Test.YtbnfjjjdnbcehaaGreatDoorQ9Plain8
import Derived.Deep.RegionHeld3
namespace Go.Proofs.YtbnfjjjdnbcehaaGreatDoor
open Go.RowKit
set_option maxRecDepth 100000

theorem pcells_set : ∀ (L : List Pr) (V : List (Value × Value)) (k : Nat) (a b : Value), V.length = L.length → k < L.length → pcells L (V.set k (a, b)) = ((pcells L V).set (k * 7 + 5) a).set (k * 7 + 6) b
  | [], _, k, _, _, _, hk => by simp at hk
  | x :: L, [], _, _, _, e, _ => by cases e
  | x :: L, u :: V, 0, a, b, _, _ => by simp [pcells, prCells]
  | x :: L, u :: V, k + 1, a, b, e, hk => by
    have ih := pcells_set L V k a b (by simpa using e) (by simpa using hk)
    simp only [List.set_cons_succ, pcells, ih]
    rw [show (k + 1) * 7 + 5 = (k * 7 + 5) + 7 from by omega, show (k + 1) * 7 + 6 = (k * 7 + 6) + 7 from by omega]
    simp [prCells]

/-- The rows of one patch are set. -/
theorem OwnP.setRows {base : Nat} {w : World} {g n cap : Nat} {L : List Pr} {V : List (Value × Value)} (h : OwnP base w (.slice (some ⟨g, 0, none⟩) n cap) L V) {k : Nat} (hk : k < L.length) {a b : Value} (ha : StrsAt w a L[k].old) (hb : StrsAt w b L[k].new) (fa : ∀ j, a.ownBlock = some j → ¬ j = g) (fb : ∀ j, b.ownBlock = some j → ¬ j = g) :
    OwnP base ((w.setCell ⟨g, k * 7 + 5, none⟩ a).setCell ⟨g, k * 7 + 6, none⟩ b) (.slice (some ⟨g, 0, none⟩) n cap) L (V.set k (a, b)) ∧ Fr (fun j => j = g) w ((w.setCell ⟨g, k * 7 + 5, none⟩ a).setCell ⟨g, k * 7 + 6, none⟩ b) := by
  have f : Fr (fun j => j = g) w ((w.setCell ⟨g, k * 7 + 5, none⟩ a).setCell ⟨g, k * 7 + 6, none⟩ b) := (Fr.setQ _ _ _ _).then (Fr.setQ _ _ _ _)
  refine ⟨⟨by simp [h.len], ⟨by rw [pcells_set L V k a b h.len hk]; simpa using h.row.1, ?_⟩, fun j x u e1 e2 => ?_⟩, f⟩
  · rcases h.row.2 with ⟨hv, _⟩ | ⟨g', cap', cur, he, hb', hh, h1, h2, h3, h4⟩
    · cases hv
    · cases he
      have e1 := Go.heap_setCell_same w g (k * 7 + 5) _ _ a hh
      have e2 := Go.heap_setCell_same _ g (k * 7 + 6) _ _ b e1
      refine Or.inr ⟨g, cap, _, rfl, hb', e2, h1, h2, by simp [h3], ?_⟩
      rw [pcells_set L V k a b h.len hk, ← h4]
      simp [List.take_set]
  · have key : StrsAt w u.1 x.old ∧ StrsAt w u.2 x.new ∧ Far (.slice (some ⟨g, 0, none⟩) n cap) u.1 x.old ∧ Far (.slice (some ⟨g, 0, none⟩) n cap) u.2 x.new := by
      by_cases hj : k = j
      · subst hj
        rw [List.getElem?_set_self (by rw [h.len]; exact hk)] at e2
        rw [List.getElem?_eq_getElem hk] at e1
        cases e1
        cases e2
        exact ⟨ha, hb, fun _ i e e' => fa i e (Option.some.inj e').symm, fun _ i e e' => fb i e (Option.some.inj e').symm⟩
      · rw [List.getElem?_set_ne hj] at e2
        exact h.str j x u e1 e2
    obtain ⟨s1, s2, f1, f2⟩ := key
    exact ⟨s1.far f (fun hl i e e' => f1 hl i e (by rw [e']; rfl)), s2.far f (fun hl i e e' => f2 hl i e (by rw [e']; rfl)), f1, f2⟩

end Go.Proofs.YtbnfjjjdnbcehaaGreatDoor

namespace Go.Proofs.YtbnfjjjdnbcehaaGreatDoor
open Go.RowKit
set_option maxRecDepth 100000

set_option maxHeartbeats 1000000 in
theorem clone_any (v : Value) (l : List ByteArray) (w : World) (h : StrsAt w v l) (hl : l.length ≤ 900000) :
    Calls Tryz.prog 53 #[v] w fun e w' => ∃ v', e = .returned v' ∧ StrsAt w' v' l ∧ Fr None' w w' ∧ ∀ k, v'.ownBlock = some k → w.heap.size ≤ k := by
  obtain ⟨va, c, rfl, h1, h2, h3⟩ := h
  cases va with
  | none =>
    have e : l = [] := by
      cases l with
      | nil => rfl
      | cons x l => obtain ⟨_, _, e, _⟩ := h3 0 x rfl; cases e
    subst e
    obtain rfl := h1 rfl
    have q : ∀ w, (binOp .eql 41 (.slice none 0 0) (.slice none 0 0)).run Tryz.prog w = .ok (.bool true) w := fun w => Lib.run_eql_slice_nil w _ _ _ 0 0 0 0 Tryz.underlying41
    clear h1 h2 h3
    go_enter Tryz.func53, Tryz.ntmps53
    go_wp2_with fail
    go_ret
    exact ⟨_, rfl, ⟨none, 0, rfl, fun _ => rfl, Nat.le_refl _, Lines.Row.nil _ _⟩, Fr.refl _ _, fun k e => by cases e⟩
  | some a =>
    have q : ∀ w, (binOp .eql 41 (.slice (some a) l.length c) (.slice none 0 0)).run Tryz.prog w = .ok (.bool false) w := fun w => Lib.run_eql_slice_nil w _ _ _ l.length c 0 0 Tryz.underlying41
    have HR : Hid (Lines.Row w (some a) l) := h3
    have HL : Hid (l.length ≤ 900000) := hl
    clear h1 h2 h3 hl
    go_enter Tryz.func53, Tryz.ntmps53
    go_wp2_with (at_builtin
                 refine Lines.append_str rfl _ _ rfl rfl (Lines.OwnS.empty (w0 := w) (Nat.le_refl _)) (Lines.Fr.alloc _ _ _) (m := l) rfl (HR.out.fr (Lines.Fr.alloc _ _ _)) (fun e => by cases e) (by have := HL.out; simp; omega) ?_
                 intro v1 w1 own1 f1 _)
    rw [List.nil_append] at own1
    go_ret
    exact ⟨_, rfl, own_strs own1, ofLN f1, fun k e => own_ge own1 e⟩

end Go.Proofs.YtbnfjjjdnbcehaaGreatDoor

namespace Go.Proofs.YtbnfjjjdnbcehaaGreatDoor
open Go.RowKit
set_option maxRecDepth 100000

end Go.Proofs.YtbnfjjjdnbcehaaGreatDoor

namespace Go.Proofs.YtbnfjjjdnbcehaaGreatDoor
open Go.RowKit
set_option maxRecDepth 100000

end Go.Proofs.YtbnfjjjdnbcehaaGreatDoor

namespace Go.Proofs.YtbnfjjjdnbcehaaGreatDoor
open Go.RowKit
set_option maxRecDepth 100000

theorem StrsAt.as2 {w : World} {v : Value} {l : List ByteArray} (h : StrsAt w v l) : ∃ pa ca, v = .slice pa l.length ca := by
  obtain ⟨pa, ca, e, _⟩ := h
  exact ⟨pa, ca, e⟩

set_option maxHeartbeats 4000000 in
theorem copied_any (x : Pr) (vo vn : Value) (w : World) (ho : StrsAt w vo x.old) (hn : StrsAt w vn x.new) (lo : x.old.length ≤ 900000) (ln : x.new.length ≤ 900000) :
    Calls Tryz.prog 55 #[.agg #[.int .i64 x.kind, .string x.path, .string x.dst, .string x.src, .int .i64 x.pos, vo, vn]] w fun e w' => ∃ v, e = .returned v ∧ PrNew w w' v x ∧ Fr None' w w' := by
  obtain ⟨K, P, T, F, A, lO, lN⟩ := x
  simp only at ho hn lo ln ⊢
  obtain ⟨pa, ca, rfl⟩ := ho.as2
  obtain ⟨pb, cb, rfl⟩ := hn.as2
  obtain ⟨no, hno⟩ : ∃ n, lO.length = n := ⟨_, rfl⟩
  obtain ⟨nn, hnn⟩ : ∃ n, lN.length = n := ⟨_, rfl⟩
  rw [hno] at ho
  rw [hnn] at hn
  rw [hno, hnn]
  obtain ⟨w1, hw1⟩ : ∃ w1, w.alloc (.cells #[.int .i64 K, .string P, .string T, .string F, .int .i64 A, .slice pa no ca, .slice pb nn cb] 43) = w1 := ⟨_, rfl⟩
  obtain ⟨w2, hw2⟩ : ∃ w2, w1.alloc (.cells #[.int .i64 0, .string ⟨#[]⟩, .string ⟨#[]⟩, .string ⟨#[]⟩, .int .i64 0, .slice none 0 0, .slice none 0 0] 43) = w2 := ⟨_, rfl⟩
  have F1 : Fr None' w w1 := hw1 ▸ Fr.alloc None' w _
  have F2 : Fr None' w1 w2 := hw2 ▸ Fr.alloc None' w1 _
  have B1 : Box w2 w.heap.size (.int .i64 K) (.string P) (.string T) (.string F) (.int .i64 A) (.slice pa no ca) (.slice pb nn cb) := (hw1 ▸ Box.new w _ _ _ _ _ _ _ : Box w1 _ _ _ _ _ _ _ _).kept F2
  have B2 : Box w2 w1.heap.size (.int .i64 0) (.string ⟨#[]⟩) (.string ⟨#[]⟩) (.string ⟨#[]⟩) (.int .i64 0) (.slice none 0 0) (.slice none 0 0) := hw2 ▸ Box.new w1 _ _ _ _ _ _ _
  have s1 : w1.heap.size = w.heap.size + 1 := by rw [← hw1]; simp
  have HF : Hid (Fr None' w w2) := F1.then7 F2
  have HN : Hid (w.heap.size < w1.heap.size) := by show _ < _; omega
  have HB : Hid (∀ w', Fr None' w2 w' → Box w' w.heap.size (.int .i64 K) (.string P) (.string T) (.string F) (.int .i64 A) (.slice pa no ca) (.slice pb nn cb) ∧ Box w' w1.heap.size (.int .i64 0) (.string ⟨#[]⟩) (.string ⟨#[]⟩) (.string ⟨#[]⟩) (.int .i64 0) (.slice none 0 0) (.slice none 0 0)) := fun w' f => ⟨B1.kept f, B2.kept f⟩
  have HLn : Hid (lO.length = no ∧ lN.length = nn) := ⟨hno, hnn⟩
  have cO : ∀ w', Fr None' w2 w' → Calls Tryz.prog 53 #[.slice pa no ca] w' fun e w'' => ∃ pa' ca', e = .returned (.slice pa' no ca') ∧ Hid (StrsAt w'' (.slice pa' no ca') lO ∧ ∀ k, (Value.slice pa' no ca').ownBlock = some k → w2.heap.size ≤ k) ∧ Hid (Fr None' w2 w'') := fun w' f => by
    refine (clone_any _ lO w' ((ho.kept HF.out).kept f) (by omega)).mono ?_
    rintro e w'' ⟨v, rfl, h1, h2, h3⟩
    obtain ⟨p, c, rfl⟩ := h1.as2
    rw [HLn.out.1] at h1 h3 ⊢
    exact ⟨p, c, rfl, ⟨h1, fun k e => Nat.le_trans f.size (h3 k e)⟩, f.then7 h2⟩
  have cN : ∀ w', Fr None' w2 w' → Calls Tryz.prog 53 #[.slice pb nn cb] w' fun e w'' => ∃ pa' ca', e = .returned (.slice pa' nn ca') ∧ Hid (StrsAt w'' (.slice pa' nn ca') lN ∧ ∀ k, (Value.slice pa' nn ca').ownBlock = some k → w2.heap.size ≤ k) ∧ Hid (Fr None' w' w'') := fun w' f => by
    refine (clone_any _ lN w' ((hn.kept HF.out).kept f) (by omega)).mono ?_
    rintro e w'' ⟨v, rfl, h1, h2, h3⟩
    obtain ⟨p, c, rfl⟩ := h1.as2
    rw [HLn.out.2] at h1 h3 ⊢
    exact ⟨p, c, rfl, ⟨h1, fun k e => Nat.le_trans f.size (h3 k e)⟩, h2⟩
  have HC : Hid (∀ w', Fr None' w2 w' → w'.cell? ⟨w.heap.size, 5, none⟩ = some (.slice pa no ca) ∧ w'.cell? ⟨w.heap.size, 6, none⟩ = some (.slice pb nn cb) ∧ (∀ o, w'.frozen? ⟨w.heap.size, o, none⟩ = false)) := fun w' f => ⟨(HB.out w' f).1.cells.2.2.2.2.2.1, (HB.out w' f).1.cells.2.2.2.2.2.2, (HB.out w' f).1.frozen⟩
  obtain ⟨a5, a6, az⟩ := HC.out w2 (Fr.refl _ _)
  clear ho hn lo ln hno hnn F1 F2 B1 B2 s1
  go_enter Tryz.func55, Tryz.ntmps55
  go_wp2_with fail
  go_region_with (first
      | (go_at_call 53; with_reducible (refine (cO _ (Fr.drew _ _)).mono ?_); rintro e w4 ⟨pa', ca', rfl, HO4, H4⟩; obtain ⟨b5, b6, bz⟩ := HC.out _ (Hid.out H4))
      | (go_at_call 53; with_reducible (refine (cN _ (Hid.out H4)).mono ?_); rintro e w5 ⟨pb', cb', rfl, HN5, H5⟩; obtain ⟨d5, d6, dz⟩ := HC.out _ (Fr.then7 (Hid.out H4) (Hid.out H5))))
  all_goals
    obtain ⟨w6, hw6⟩ : ∃ y, (w5.setCell ⟨w.heap.size, 5, none⟩ (.slice pa' no ca')).setCell ⟨w.heap.size, 6, none⟩ (.slice pb' nn cb') = y := ⟨_, rfl⟩
    have F25 : Fr None' w2 w5 := H4.out.then7 H5.out
    have F56 : Fr (fun k => k = w.heap.size) w5 w6 := hw6 ▸ (Fr.setQ _ _ _ _).then (Fr.setQ _ _ _ _)
    have hn6 : ¬ w1.heap.size = w.heap.size := by have := HN.out; omega
    have C6 : Box w6 w.heap.size (.int .i64 K) (.string P) (.string T) (.string F) (.int .i64 A) (.slice pa' no ca') (.slice pb' nn cb') := hw6 ▸ ((HB.out w5 F25).1.set5 _).set6 _
    have D6 : Box w6 w1.heap.size (.int .i64 0) (.string ⟨#[]⟩) (.string ⟨#[]⟩) (.string ⟨#[]⟩) (.int .i64 0) (.slice none 0 0) (.slice none 0 0) := (HB.out w5 F25).2.fr F56 hn6
    have HFW : Hid (Fr None' w w6) := (HF.out.then7 F25).trans F56 (fun _ e => Or.inr (by omega))
    have HD6 : Hid (Box w6 w1.heap.size (.int .i64 0) (.string ⟨#[]⟩) (.string ⟨#[]⟩) (.string ⟨#[]⟩) (.int .i64 0) (.slice none 0 0) (.slice none 0 0)) := D6
    have H56 : Hid (Fr (fun k => k = w.heap.size) w5 w6) := F56
    obtain ⟨c0, c1, c2, c3, c4, c5, c6⟩ := C6.cells
    obtain ⟨e0, e1, e2, e3, e4, e5, e6⟩ := D6.cells
    have ez := D6.frozen
    rw [hw6]
    clear F25 F56 C6 D6 a5 a6 az b5 b6 bz d5 d6 dz cO cN hw6
    go_wp2_with fail
    have hfin := fin9 (W := w6) HFW.out HD6.out (Fr.refl (fun k => k = w6.heap.size) _) (by have := HD6.out.lt; omega) (by have := HN.out; omega) (by exact HFW.out.size) (.int .i64 K) (.string P) (.string T) (.string F) (.int .i64 A) (.slice pa' no ca') (.slice pb' nn cb')
    have FW : Fr (fun k => k = w.heap.size ∨ k = w1.heap.size) w5 _ := (Fr.mono H56.out (fun _ e => Or.inl e)).then (Fr.setP (M := fun k => k = w.heap.size ∨ k = w1.heap.size) w6 (Or.inr rfl) (.int .i64 K) (.string P) (.string T) (.string F) (.int .i64 A) (.slice pa' no ca') (.slice pb' nn cb'))
    have hlt := (HB.out w2 (Fr.refl _ _)).2.lt
    have t1 := (HO4.out.1.kept H5.out).far FW (fun hl k e => by have := HO4.out.2 k e; have := HN.out; omega)
    have t2 := HN5.out.1.far FW (fun hl k e => by have := HN5.out.2 k e; have := HN.out; omega)
    exact ret_box rfl rfl rfl hfin.1 ⟨_, rfl, ⟨_, _, rfl, t1, t2, (fun k e => Nat.le_trans HF.out.size (HO4.out.2 k e)), (fun k e => Nat.le_trans HF.out.size (HN5.out.2 k e))⟩, hfin.2⟩

end Go.Proofs.YtbnfjjjdnbcehaaGreatDoor

namespace Go.Proofs.YtbnfjjjdnbcehaaGreatDoor
open Go.RowKit
set_option maxRecDepth 100000

theorem toHid11c {p : Prop} (h : p) : Hid p := h

/-- What copied's loop has made: the rows of the first k patches are new. -/
structure CopyAt (w wr : World) (v : Value) (L : List Pr) (V : List (Value × Value)) (k : Nat) : Prop where
  fr : Fr None' w wr
  own : OwnP w.heap.size wr v L V
  new : ∀ j u, j < k → V[j]? = some u → (∀ i, u.1.ownBlock = some i → w.heap.size ≤ i) ∧ ∀ i, u.2.ownBlock = some i → w.heap.size ≤ i

theorem CopyAt.step {w wr w5 : World} {g n cap : Nat} {L : List Pr} {V : List (Value × Value)} {k : Nat} (h : CopyAt w wr (.slice (some ⟨g, 0, none⟩) n cap) L V k) (hk : k < L.length) (f : Fr None' wr w5) (hg : w.heap.size ≤ g) (hg2 : g < wr.heap.size) {a b : Value} (ha : StrsAt w5 a L[k].old) (hb : StrsAt w5 b L[k].new) (fa : ∀ j, a.ownBlock = some j → wr.heap.size ≤ j) (fb : ∀ j, b.ownBlock = some j → wr.heap.size ≤ j) :
    CopyAt w ((w5.setCell ⟨g, k * 7 + 5, none⟩ a).setCell ⟨g, k * 7 + 6, none⟩ b) (.slice (some ⟨g, 0, none⟩) n cap) L (V.set k (a, b)) (k + 1) := by
  obtain ⟨h1, h2⟩ := (h.own.kept f).setRows hk ha hb (fun j e e' => by have := fa j e; omega) (fun j e e' => by have := fb j e; omega)
  have hw := h.fr.size
  refine ⟨(h.fr.then7 f).trans h2 (fun i e => Or.inr (by omega)), h1, fun j u hj e => ?_⟩
  by_cases hjk : k = j
  · subst hjk
    rw [List.getElem?_set_self (by rw [h.own.len]; exact hk)] at e
    cases e
    exact ⟨fun i e => by have := fa i e; omega, fun i e => by have := fb i e; omega⟩
  · rw [List.getElem?_set_ne hjk] at e
    exact h.new j u (by omega) e

end Go.Proofs.YtbnfjjjdnbcehaaGreatDoor
