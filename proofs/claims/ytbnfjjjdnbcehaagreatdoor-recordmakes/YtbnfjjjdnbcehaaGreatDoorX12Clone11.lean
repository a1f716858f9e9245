/- What is proved here: contracts for RecordMakes. Conditions: as named. -/
import Derived.Test.YtbnfjjjdnbcehaaGreatDoorX11RAll9
import Derived.Lib.SliceRun
import Derived.Test.YtbnfjjjdnbcehaaGreatDoorX8Strs9
import Derived.Test.YtbnfjjjdnbcehaaGreatDoorX9Plain8
import Derived.Deep.RegionHeld3
set_option maxHeartbeats 16000000
namespace Go.Proofs.YtbnfjjjdnbcehaaGreatDoor
open Go.RowKit
set_option maxRecDepth 100000
theorem cloneP_any (va : Option Addr) (n c : Nat) (L : List Pr) (w : World) (hl : L.length = n) (ha : PrsAt w va L) (hc : va = none → c = 0) (hn : n ≤ 90000) :
  Calls Tryz.prog 52 #[.slice va n c] w fun e w' => ∃ v' U, e = .returned v' ∧ Zk w.heap.size w' v' L U ∧ Fr None' w w' := by
 cases va with
 | none =>
  have e : L = [] := by
   cases L with
   | nil => rfl
   | cons x l => obtain ⟨_, _, e, _⟩ := ha 0 x rfl; cases e
  subst e
  obtain rfl := hc rfl
  obtain rfl : n = 0 := hl.symm
  have q : ∀ w, (binOp .eql 22 (.slice none 0 0) (.slice none 0 0)).run Tryz.prog w = .ok (.bool true) w := fun w => Lib.run_eql_slice_nil w _ _ _ 0 0 0 0 Tryz.underlying22
  clear ha hc hl
  go_enter Tryz.func52, Tryz.ntmps52
  go_wp2_with fail
  go_ret
  exact ⟨_, [], rfl, Zk.nil _ _, Fr.refl _ _⟩
 | some a =>
  have q : ∀ w, (binOp .eql 22 (.slice (some a) n c) (.slice none 0 0)).run Tryz.prog w = .ok (.bool false) w := fun w => Lib.run_eql_slice_nil w _ _ _ n c 0 0 Tryz.underlying22
  obtain ⟨w1, hw1⟩ : ∃ w1, w.alloc (.cells #[] 43) = w1 := ⟨_, rfl⟩
  have F1 : Fr None' w w1 := hw1 ▸ Fr.alloc None' w _
  have O1 : Zk w.heap.size w1 (.slice (some ⟨w.heap.size, 0, none⟩) 0 0) [] [] := hw1 ▸ Zk.empty (Nat.le_refl _)
  obtain ⟨v2, U2, w2, r2, O2, f2⟩ := O1.addAll ha hl hc F1 (Nat.le_refl _) F1.size (by simp; omega)
  have F2 : Fr None' w w2 := F1.trans f2 (fun i e => Or.inr (O1.ge e).1)
  obtain ⟨p2, c2, hv2, _⟩ := O2.slice
  have HR : Hid ((Builtin.append_ #[22, 22] 22 #[.slice (some ⟨w.heap.size, 0, none⟩) 0 0, .slice (some a) n c]).run Tryz.prog w1 = .ok v2 w2) := r2
  have HO : Hid (Zk w.heap.size w2 v2 L U2 ∧ Fr None' w w2) := ⟨by simpa using O2, F2⟩
  clear ha hc hl hn F1 O1 r2 O2 f2 F2 hv2
  go_enter Tryz.func52, Tryz.ntmps52
  go_wp2_with (at_builtin
               refine app_list9 rfl _ _ rfl rfl rfl HR.out ?_)
  go_ret
  exact ⟨_, U2, rfl, HO.out.1, HO.out.2⟩
theorem pcells_set : ∀ (L : List Pr) (V : List (Value × Value)) (k : Nat) (a b : Value), V.length = L.length → k < L.length → pcells L (V.set k (a, b)) = ((pcells L V).set (k * 7 + 5) a).set (k * 7 + 6) b
 | [], _, k, _, _, _, hk => by simp at hk
 | x :: L, [], _, _, _, e, _ => by cases e
 | x :: L, u :: V, 0, a, b, _, _ => by simp [pcells, prCells]
 | x :: L, u :: V, k + 1, a, b, e, hk => by
  have ih := pcells_set L V k a b (by simpa using e) (by simpa using hk)
  simp only [List.set_cons_succ, pcells, ih]
  rw [show (k + 1) * 7 + 5 = (k * 7 + 5) + 7 from by omega, show (k + 1) * 7 + 6 = (k * 7 + 6) + 7 from by omega]
  simp [prCells]
theorem Zk.setRows {base : Nat} {w : World} {g n cap : Nat} {L : List Pr} {V : List (Value × Value)} (h : Zk base w (.slice (some ⟨g, 0, none⟩) n cap) L V) {k : Nat} (hk : k < L.length) {a b : Value} (ha : Zy w a L[k].old) (hb : Zy w b L[k].new) (fa : ∀ j, a.ownBlock = some j → ¬ j = g) (fb : ∀ j, b.ownBlock = some j → ¬ j = g) :
  Zk base ((w.setCell ⟨g, k * 7 + 5, none⟩ a).setCell ⟨g, k * 7 + 6, none⟩ b) (.slice (some ⟨g, 0, none⟩) n cap) L (V.set k (a, b)) ∧ Fr (fun j => j = g) w ((w.setCell ⟨g, k * 7 + 5, none⟩ a).setCell ⟨g, k * 7 + 6, none⟩ b) := by
 have f : Fr (fun j => j = g) w ((w.setCell ⟨g, k * 7 + 5, none⟩ a).setCell ⟨g, k * 7 + 6, none⟩ b) := (Fr.setQ _ _ _ _).then (Fr.setQ _ _ _ _)
 refine ⟨⟨by simp [h.len], ⟨by rw [pcells_set L V k a b h.len hk]; simpa using h.row.1, ?_⟩, fun j x u e1 e2 => ?_⟩, f⟩
 ·rcases h.row.2 with ⟨hv, _⟩ | ⟨g', cap', cur, he, hb', hh, h1, h2, h3, h4⟩
  ·cases hv
  ·cases he
   have e1 := Go.heap_setCell_same w g (k * 7 + 5) _ _ a hh
   have e2 := Go.heap_setCell_same _ g (k * 7 + 6) _ _ b e1
   refine Or.inr ⟨g, cap, _, rfl, hb', e2, h1, h2, by simp [h3], ?_⟩
   rw [pcells_set L V k a b h.len hk, ← h4]
   simp [List.take_set]
 ·have key : Zy w u.1 x.old ∧ Zy w u.2 x.new ∧ Far (.slice (some ⟨g, 0, none⟩) n cap) u.1 x.old ∧ Far (.slice (some ⟨g, 0, none⟩) n cap) u.2 x.new := by
   by_cases hj : k = j
   ·subst hj
    rw [List.getElem?_set_self (by rw [h.len]; exact hk)] at e2
    rw [List.getElem?_eq_getElem hk] at e1
    cases e1
    cases e2
    exact ⟨ha, hb, fun _ i e e' => fa i e (Option.some.inj e').symm, fun _ i e e' => fb i e (Option.some.inj e').symm⟩
   ·rw [List.getElem?_set_ne hj] at e2
    exact h.str j x u e1 e2
  obtain ⟨s1, s2, f1, f2⟩ := key
  exact ⟨s1.far f (fun hl i e e' => f1 hl i e (by rw [e']; rfl)), s2.far f (fun hl i e e' => f2 hl i e (by rw [e']; rfl)), f1, f2⟩
theorem clone_any (v : Value) (l : List ByteArray) (w : World) (h : Zy w v l) (hl : l.length ≤ 900000) :
  Calls Tryz.prog 53 #[v] w fun e w' => ∃ v', e = .returned v' ∧ Zy w' v' l ∧ Fr None' w w' ∧ ∀ k, v'.ownBlock = some k → w.heap.size ≤ k := by
 obtain ⟨va, c, rfl, h1, h2, h3⟩ := h
 cases va with
 | none =>
  have e : l = [] := by
   cases l with
   | nil => rfl
   | cons x l => obtain ⟨_, _, e, _⟩ := h3 0 x rfl; cases e
  subst e
  obtain rfl := h1 rfl
  have q : ∀ w, (binOp .eql 41 (.slice none 0 0) (.slice none 0 0)).run Tryz.prog w = .ok (.bool true) w := fun w => Lib.run_eql_slice_nil w _ _ _ 0 0 0 0 Tryz.underlying41
  clear h1 h2 h3
  go_enter Tryz.func53, Tryz.ntmps53
  go_wp2_with fail
  go_ret
  exact ⟨_, rfl, ⟨none, 0, rfl, fun _ => rfl, Nat.le_refl _, Lines.Row.nil _ _⟩, Fr.refl _ _, fun k e => by cases e⟩
 | some a =>
  have q : ∀ w, (binOp .eql 41 (.slice (some a) l.length c) (.slice none 0 0)).run Tryz.prog w = .ok (.bool false) w := fun w => Lib.run_eql_slice_nil w _ _ _ l.length c 0 0 Tryz.underlying41
  have HR : Hid (Lines.Row w (some a) l) := h3
  have HL : Hid (l.length ≤ 900000) := hl
  clear h1 h2 h3 hl
  go_enter Tryz.func53, Tryz.ntmps53
  go_wp2_with (at_builtin
               refine Lines.append_str rfl _ _ rfl rfl (Lines.OwnS.empty (w0 := w) (Nat.le_refl _)) (Lines.Fr.alloc _ _ _) (m := l) rfl (HR.out.fr (Lines.Fr.alloc _ _ _)) (fun e => by cases e) (by have := HL.out; simp; omega) ?_
               intro v1 w1 own1 f1 _)
  rw [List.nil_append] at own1
  go_ret
  exact ⟨_, rfl, own_strs own1, ofLN f1, fun k e => own_ge own1 e⟩
def exch (x : Pr) : Pr :=
 if x.kind = 7 then { x with old := x.new, new := x.old }
 else if x.kind = 8 ∨ x.kind = 9 then { x with dst := x.src, src := x.dst }
 else if x.kind = 10 then { x with path := x.dst, dst := x.path }
 else x
theorem Zy.as {w : World} {v : Value} {l : List ByteArray} (h : Zy w v l) : ∃ pa ca, v = .slice pa l.length ca := by
 obtain ⟨pa, ca, e, _⟩ := h
 exact ⟨pa, ca, e⟩
theorem exch_any (x : Pr) (vo vn : Value) (w : World) (ho : Zy w vo x.old) (hn : Zy w vn x.new) (lo : x.old.length ≤ 900000) (ln : x.new.length ≤ 900000) :
  Calls Tryz.prog 74 #[.agg #[.int .i64 x.kind, .string x.path, .string x.dst, .string x.src, .int .i64 x.pos, vo, vn]] w fun e w' => ∃ v, e = .returned v ∧ PrNew w w' v (exch x) ∧ Fr None' w w' := by
 obtain ⟨K, P, T, F, A, lO, lN⟩ := x
 simp only at ho hn lo ln ⊢
 obtain ⟨pa, ca, rfl⟩ := ho.as
 obtain ⟨pb, cb, rfl⟩ := hn.as
 obtain ⟨no, hno⟩ : ∃ n, lO.length = n := ⟨_, rfl⟩
 obtain ⟨nn, hnn⟩ : ∃ n, lN.length = n := ⟨_, rfl⟩
 rw [hno] at ho
 rw [hnn] at hn
 rw [hno, hnn]
 obtain ⟨w1, hw1⟩ : ∃ w1, w.alloc (.cells #[.int .i64 K, .string P, .string T, .string F, .int .i64 A, .slice pa no ca, .slice pb nn cb] 43) = w1 := ⟨_, rfl⟩
 obtain ⟨w2, hw2⟩ : ∃ w2, w1.alloc (.cells #[.int .i64 0, .string ⟨#[]⟩, .string ⟨#[]⟩, .string ⟨#[]⟩, .int .i64 0, .slice none 0 0, .slice none 0 0] 43) = w2 := ⟨_, rfl⟩
 obtain ⟨w3, hw3⟩ : ∃ w3, w2.alloc (.cells #[.int .i64 K, .string P, .string T, .string F, .int .i64 A, .slice pa no ca, .slice pb nn cb] 43) = w3 := ⟨_, rfl⟩
 have F1 : Fr None' w w1 := hw1 ▸ Fr.alloc None' w _
 have F2 : Fr None' w1 w2 := hw2 ▸ Fr.alloc None' w1 _
 have F3 : Fr None' w2 w3 := hw3 ▸ Fr.alloc None' w2 _
 have B1 : Box w3 w.heap.size (.int .i64 K) (.string P) (.string T) (.string F) (.int .i64 A) (.slice pa no ca) (.slice pb nn cb) := ((hw1 ▸ Box.new w _ _ _ _ _ _ _ : Box w1 _ _ _ _ _ _ _ _).kept F2).kept F3
 have B2 : Box w3 w1.heap.size (.int .i64 0) (.string ⟨#[]⟩) (.string ⟨#[]⟩) (.string ⟨#[]⟩) (.int .i64 0) (.slice none 0 0) (.slice none 0 0) := (hw2 ▸ Box.new w1 _ _ _ _ _ _ _ : Box w2 _ _ _ _ _ _ _ _).kept F3
 have B3 : Box w3 w2.heap.size (.int .i64 K) (.string P) (.string T) (.string F) (.int .i64 A) (.slice pa no ca) (.slice pb nn cb) := hw3 ▸ Box.new w2 _ _ _ _ _ _ _
 obtain ⟨p0, p1, p2, p3, p4, p5, p6⟩ := (((hw1 ▸ Box.new w _ _ _ _ _ _ _ : Box w1 w.heap.size (.int .i64 K) (.string P) (.string T) (.string F) (.int .i64 A) (.slice pa no ca) (.slice pb nn cb))).kept F2).cells
 have s1 : w1.heap.size = w.heap.size + 1 := by rw [← hw1]; simp
 have s2 : w2.heap.size = w1.heap.size + 1 := by rw [← hw2]; simp
 have HF : Hid (Fr None' w w3) := (F1.then7 F2).then7 F3
 have HB : Hid (Box w3 w.heap.size (.int .i64 K) (.string P) (.string T) (.string F) (.int .i64 A) (.slice pa no ca) (.slice pb nn cb) ∧ Box w3 w1.heap.size (.int .i64 0) (.string ⟨#[]⟩) (.string ⟨#[]⟩) (.string ⟨#[]⟩) (.int .i64 0) (.slice none 0 0) (.slice none 0 0) ∧ Box w3 w2.heap.size (.int .i64 K) (.string P) (.string T) (.string F) (.int .i64 A) (.slice pa no ca) (.slice pb nn cb)) := ⟨B1, B2, B3⟩
 have HN : Hid (w.heap.size < w1.heap.size ∧ w1.heap.size < w2.heap.size) := ⟨by omega, by omega⟩
 have HLn : Hid (lO.length = no ∧ lN.length = nn) := ⟨hno, hnn⟩
 have cO : ∀ w', Fr None' w3 w' → Calls Tryz.prog 53 #[.slice pa no ca] w' fun e w'' => ∃ pa' ca', e = .returned (.slice pa' no ca') ∧ Hid (Zy w'' (.slice pa' no ca') lO ∧ ∀ k, (Value.slice pa' no ca').ownBlock = some k → w3.heap.size ≤ k) ∧ Hid (Fr None' w3 w'') := fun w' f => by
  refine (clone_any _ lO w' ((ho.kept HF.out).kept f) (by omega)).mono ?_
  rintro e w'' ⟨v, rfl, h1, h2, h3⟩
  obtain ⟨p, c, rfl⟩ := h1.as
  rw [HLn.out.1] at h1 h3 ⊢
  exact ⟨p, c, rfl, ⟨h1, fun k e => Nat.le_trans f.size (h3 k e)⟩, f.then7 h2⟩
 have cN : ∀ w', Fr None' w3 w' → Calls Tryz.prog 53 #[.slice pb nn cb] w' fun e w'' => ∃ pa' ca', e = .returned (.slice pa' nn ca') ∧ Hid (Zy w'' (.slice pa' nn ca') lN ∧ ∀ k, (Value.slice pa' nn ca').ownBlock = some k → w3.heap.size ≤ k) ∧ Hid (Fr None' w' w'') := fun w' f => by
  refine (clone_any _ lN w' ((hn.kept HF.out).kept f) (by omega)).mono ?_
  rintro e w'' ⟨v, rfl, h1, h2, h3⟩
  obtain ⟨p, c, rfl⟩ := h1.as
  rw [HLn.out.2] at h1 h3 ⊢
  exact ⟨p, c, rfl, ⟨h1, fun k e => Nat.le_trans f.size (h3 k e)⟩, h2⟩
 have HKS : Hid (∀ w', Fr (fun k => k = w2.heap.size) w3 w' → Fr (fun k => k = w2.heap.size) w3 w' ∧ w'.cell? ⟨w.heap.size, 5, none⟩ = some (.slice pa no ca) ∧ w'.cell? ⟨w.heap.size, 6, none⟩ = some (.slice pb nn cb)) := fun w' f => by
  have hne : ¬ w.heap.size = w2.heap.size := by omega
  obtain ⟨_, _, _, _, _, h5, h6⟩ := (B1.fr f hne).cells
  exact ⟨f, h5, h6⟩
 have HKQ : Hid (∀ w', Fr None' w3 w' → (∀ o, w'.frozen? ⟨w2.heap.size, o, none⟩ = false) ∧ w'.cell? ⟨w2.heap.size, 5, none⟩ = some (.slice pa no ca) ∧ w'.cell? ⟨w2.heap.size, 6, none⟩ = some (.slice pb nn cb)) := fun w' f => by
  obtain ⟨_, _, _, _, _, h5, h6⟩ := (B3.kept f).cells
  exact ⟨(B3.kept f).frozen, h5, h6⟩
 clear ho hn lo ln hno hnn F1 F2 F3 B1 B2 B3 s1 s2
 go_enter Tryz.func74, Tryz.ntmps74
 go_wp2_with fail
 go_region_held3 (fun w' => Fr (fun k => k = w2.heap.size) w3 w' ∧ w'.cell? ⟨w.heap.size, 5, none⟩ = some (.slice pa no ca) ∧ w'.cell? ⟨w.heap.size, 6, none⟩ = some (.slice pb nn cb))
  (exact HKS.out _ (by first | exact Fr.drew _ w3 | exact Fr.any (Hid.out ‹_›) | exact Fr.any (Fr.then7 (Hid.out ‹_›) (Hid.out ‹_›)) | exact Fr.then (Fr.any (Fr.then7 H4.out H5.out)) (Fr.setQ _ _ _ _) | exact Fr.then (Fr.then (Fr.any (Fr.then7 H4.out H5.out)) (Fr.setQ _ _ _ _)) (Fr.setQ _ _ _ _)))
  (first
   | (go_at_call 53; with_reducible (refine (cO _ (Fr.drew _ _)).mono ?_); rintro e w4 ⟨pa', ca', rfl, HO4, H4⟩)
   | (go_at_call 53; with_reducible (refine (cN _ H4.out).mono ?_); rintro e w5 ⟨pb', cb', rfl, HN5, H5⟩; obtain ⟨z5, k5, k6⟩ := HKQ.out _ (Fr.then7 H4.out H5.out)))
 obtain ⟨w6, hw6⟩ : ∃ x, (w5.setCell ⟨w2.heap.size, 5, none⟩ (.slice pa' no ca')).setCell ⟨w2.heap.size, 6, none⟩ (.slice pb' nn cb') = x := ⟨_, rfl⟩
 have F35 : Fr None' w3 w5 := H4.out.then7 H5.out
 have F56 : Fr (fun k => k = w2.heap.size) w5 w6 := hw6 ▸ (Fr.setQ _ _ _ _).then (Fr.setQ _ _ _ _)
 obtain ⟨B1, B2, B3⟩ := HB.out
 have n1 : ¬ w.heap.size = w2.heap.size := by have := HN.out; omega
 have n2 : ¬ w1.heap.size = w2.heap.size := by have := HN.out; omega
 have n4 : ¬ w2.heap.size = w1.heap.size := by have := HN.out; omega
 have C1 := (B1.kept F35).fr F56 n1
 have C2 := (B2.kept F35).fr F56 n2
 have C3 : Box w6 w2.heap.size (.int .i64 K) (.string P) (.string T) (.string F) (.int .i64 A) (.slice pa' no ca') (.slice pb' nn cb') := by
  rw [← hw6]
  exact ((B3.kept F35).set5 _).set6 _
 have hlt : w2.heap.size < w3.heap.size := B3.lt
 have S1 : Zy w6 (.slice pa' no ca') lO := (HO4.out.1.kept H5.out).fr F56 (fun k e => by have := HO4.out.2 k e; omega)
 have S2 : Zy w6 (.slice pb' nn cb') lN := HN5.out.1.fr F56 (fun k e => by have := HN5.out.2 k e; omega)
 have HSS : Hid ((Zy w6 (.slice pa' no ca') lO ∧ ∀ k, (Value.slice pa' no ca').ownBlock = some k → w3.heap.size ≤ k) ∧ (Zy w6 (.slice pb' nn cb') lN ∧ ∀ k, (Value.slice pb' nn cb').ownBlock = some k → w3.heap.size ≤ k) ∧ w2.heap.size < w3.heap.size) := ⟨⟨S1, HO4.out.2⟩, ⟨S2, HN5.out.2⟩, hlt⟩
 have HF6 : Hid (Fr None' w w6) := (HF.out.then7 F35).trans F56 (fun _ e => Or.inr (by have := HN.out; omega))
 have HC2 : Hid (Box w6 w1.heap.size (.int .i64 0) (.string ⟨#[]⟩) (.string ⟨#[]⟩) (.string ⟨#[]⟩) (.int .i64 0) (.slice none 0 0) (.slice none 0 0)) := C2
 obtain ⟨a0, a1, a2, a3, a4, a5, a6⟩ := C1.cells
 have HKS6 : Hid (∀ w', Fr (fun k => k = w2.heap.size) w6 w' → Fr (fun k => k = w2.heap.size) w6 w' ∧ w'.cell? ⟨w.heap.size, 1, none⟩ = some (.string P) ∧ w'.cell? ⟨w.heap.size, 2, none⟩ = some (.string T) ∧ w'.cell? ⟨w.heap.size, 3, none⟩ = some (.string F)) := fun w' f => by
  obtain ⟨_, h1, h2, h3, _⟩ := (C1.fr f n1).cells
  exact ⟨f, h1, h2, h3⟩
 obtain ⟨b0, b1, b2, b3, b4, b5, b6⟩ := C2.cells
 obtain ⟨c0, c1, c2, c3, c4, c5, c6⟩ := C3.cells
 have z2 := C2.frozen
 have z3 := C3.frozen
 rw [hw6]
 clear hw6 F35 F56 B1 B2 B3 C1 C2 C3 hlt S1 S2 HO4 HN5 H4 H5 z5 k5 k6 HKQ HKS cO cN HB HF hw1 hw2 hw3 p0 p1 p2 p3 p4 p5 p6
 by_cases h7 : K = 7
 ·subst h7
  have HI : Hid (exch ⟨7, P, T, F, A, lO, lN⟩ = ⟨7, P, T, F, A, lN, lO⟩) := by show _ = _; simp [exch]
  go_wp2_with fail
  have hfin := fin9 (W := ((w6.setCell ⟨w2.heap.size, 5, none⟩ (.slice pb' nn cb')).setCell ⟨w2.heap.size, 6, none⟩ (.slice pa' no ca'))) HF6.out HC2.out ((Fr.setQ (w6) w2.heap.size 5 (.slice pb' nn cb')).then (Fr.setQ ((w6.setCell ⟨w2.heap.size, 5, none⟩ (.slice pb' nn cb'))) w2.heap.size 6 (.slice pa' no ca'))) n2 (by have := HN.out; omega) (by have := HN.out; omega) (.int .i64 7) (.string P) (.string T) (.string F) (.int .i64 A) (.slice pb' nn cb') (.slice pa' no ca')
  have FW : Fr (fun k => k = w2.heap.size ∨ k = w1.heap.size) w6 _ := ((Fr.mono ((Fr.setQ (w6) w2.heap.size 5 (.slice pb' nn cb')).then (Fr.setQ ((w6.setCell ⟨w2.heap.size, 5, none⟩ (.slice pb' nn cb'))) w2.heap.size 6 (.slice pa' no ca'))) (fun _ e => Or.inl e)).then (Fr.setP (M := fun k => k = w2.heap.size ∨ k = w1.heap.size) ((w6.setCell ⟨w2.heap.size, 5, none⟩ (.slice pb' nn cb')).setCell ⟨w2.heap.size, 6, none⟩ (.slice pa' no ca')) (Or.inr rfl) (.int .i64 7) (.string P) (.string T) (.string F) (.int .i64 A) (.slice pb' nn cb') (.slice pa' no ca')))
  have s1 := HSS.out.1.1.fr FW (fun k e => by have := HSS.out.1.2 k e; have := HSS.out.2.2; have := HN.out; omega)
  have s2 := HSS.out.2.1.1.fr FW (fun k e => by have := HSS.out.2.1.2 k e; have := HSS.out.2.2; have := HN.out; omega)
  have g1 : ∀ k, (Value.slice pa' no ca').ownBlock = some k → w.heap.size ≤ k := fun k e => by have := HSS.out.1.2 k e; have := HSS.out.2.2; have := HN.out; omega
  have g2 : ∀ k, (Value.slice pb' nn cb').ownBlock = some k → w.heap.size ≤ k := fun k e => by have := HSS.out.2.1.2 k e; have := HSS.out.2.2; have := HN.out; omega
  exact ret_box rfl rfl rfl hfin.1 ⟨_, rfl, by rw [HI.out]; exact ⟨_, _, rfl, s2, s1, g2, g1⟩, hfin.2⟩
 by_cases h8 : K = 8
 ·subst h8
  have HI : Hid (exch ⟨8, P, T, F, A, lO, lN⟩ = ⟨8, P, F, T, A, lO, lN⟩) := by show _ = _; simp [exch]
  go_wp2_with fail
  go_region_held3 (fun w' => Fr (fun k => k = w2.heap.size) w6 w' ∧ w'.cell? ⟨w.heap.size, 1, none⟩ = some (.string P) ∧ w'.cell? ⟨w.heap.size, 2, none⟩ = some (.string T) ∧ w'.cell? ⟨w.heap.size, 3, none⟩ = some (.string F))
   (exact HKS6.out _ (by first | exact Fr.drew _ w6 | exact Fr.then (Fr.drew _ w6) (Fr.setQ _ _ _ _) | exact Fr.then (Fr.then (Fr.drew _ w6) (Fr.setQ _ _ _ _)) (Fr.setQ _ _ _ _)))
   (fail)
  go_wp2_with fail
  have hfin0 := fin9 (W := ((w6.setCell ⟨w2.heap.size, 3, none⟩ (.string T)).setCell ⟨w2.heap.size, 2, none⟩ (.string F))) HF6.out HC2.out ((Fr.setQ (w6) w2.heap.size 3 (.string T)).then (Fr.setQ ((w6.setCell ⟨w2.heap.size, 3, none⟩ (.string T))) w2.heap.size 2 (.string F))) n2 (by have := HN.out; omega) (by have := HN.out; omega) (.int .i64 8) (.string P) (.string F) (.string T) (.int .i64 A) (.slice pa' no ca') (.slice pb' nn cb')
  have hfin := And.intro (hfin0.1.kept (Fr.drew None' _)) (hfin0.2.then7 (Fr.drew None' _))
  have FW : Fr (fun k => k = w2.heap.size ∨ k = w1.heap.size) w6 _ := ((Fr.mono ((Fr.setQ (w6) w2.heap.size 3 (.string T)).then (Fr.setQ ((w6.setCell ⟨w2.heap.size, 3, none⟩ (.string T))) w2.heap.size 2 (.string F))) (fun _ e => Or.inl e)).then (Fr.setP (M := fun k => k = w2.heap.size ∨ k = w1.heap.size) ((w6.setCell ⟨w2.heap.size, 3, none⟩ (.string T)).setCell ⟨w2.heap.size, 2, none⟩ (.string F)) (Or.inr rfl) (.int .i64 8) (.string P) (.string F) (.string T) (.int .i64 A) (.slice pa' no ca') (.slice pb' nn cb'))).then (Fr.drew _ _)
  have s1 := HSS.out.1.1.fr FW (fun k e => by have := HSS.out.1.2 k e; have := HSS.out.2.2; have := HN.out; omega)
  have s2 := HSS.out.2.1.1.fr FW (fun k e => by have := HSS.out.2.1.2 k e; have := HSS.out.2.2; have := HN.out; omega)
  have g1 : ∀ k, (Value.slice pa' no ca').ownBlock = some k → w.heap.size ≤ k := fun k e => by have := HSS.out.1.2 k e; have := HSS.out.2.2; have := HN.out; omega
  have g2 : ∀ k, (Value.slice pb' nn cb').ownBlock = some k → w.heap.size ≤ k := fun k e => by have := HSS.out.2.1.2 k e; have := HSS.out.2.2; have := HN.out; omega
  exact ret_box rfl rfl rfl hfin.1 ⟨_, rfl, by rw [HI.out]; exact ⟨_, _, rfl, s1, s2, g1, g2⟩, hfin.2⟩
 by_cases h9 : K = 9
 ·subst h9
  have HI : Hid (exch ⟨9, P, T, F, A, lO, lN⟩ = ⟨9, P, F, T, A, lO, lN⟩) := by show _ = _; simp [exch]
  go_wp2_with fail
  go_region_held3 (fun w' => Fr (fun k => k = w2.heap.size) w6 w' ∧ w'.cell? ⟨w.heap.size, 1, none⟩ = some (.string P) ∧ w'.cell? ⟨w.heap.size, 2, none⟩ = some (.string T) ∧ w'.cell? ⟨w.heap.size, 3, none⟩ = some (.string F))
   (exact HKS6.out _ (by first | exact Fr.drew _ w6 | exact Fr.then (Fr.drew _ w6) (Fr.setQ _ _ _ _) | exact Fr.then (Fr.then (Fr.drew _ w6) (Fr.setQ _ _ _ _)) (Fr.setQ _ _ _ _)))
   (fail)
  go_wp2_with fail
  have hfin0 := fin9 (W := ((w6.setCell ⟨w2.heap.size, 3, none⟩ (.string T)).setCell ⟨w2.heap.size, 2, none⟩ (.string F))) HF6.out HC2.out ((Fr.setQ (w6) w2.heap.size 3 (.string T)).then (Fr.setQ ((w6.setCell ⟨w2.heap.size, 3, none⟩ (.string T))) w2.heap.size 2 (.string F))) n2 (by have := HN.out; omega) (by have := HN.out; omega) (.int .i64 9) (.string P) (.string F) (.string T) (.int .i64 A) (.slice pa' no ca') (.slice pb' nn cb')
  have hfin := And.intro (hfin0.1.kept (Fr.drew None' _)) (hfin0.2.then7 (Fr.drew None' _))
  have FW : Fr (fun k => k = w2.heap.size ∨ k = w1.heap.size) w6 _ := ((Fr.mono ((Fr.setQ (w6) w2.heap.size 3 (.string T)).then (Fr.setQ ((w6.setCell ⟨w2.heap.size, 3, none⟩ (.string T))) w2.heap.size 2 (.string F))) (fun _ e => Or.inl e)).then (Fr.setP (M := fun k => k = w2.heap.size ∨ k = w1.heap.size) ((w6.setCell ⟨w2.heap.size, 3, none⟩ (.string T)).setCell ⟨w2.heap.size, 2, none⟩ (.string F)) (Or.inr rfl) (.int .i64 9) (.string P) (.string F) (.string T) (.int .i64 A) (.slice pa' no ca') (.slice pb' nn cb'))).then (Fr.drew _ _)
  have s1 := HSS.out.1.1.fr FW (fun k e => by have := HSS.out.1.2 k e; have := HSS.out.2.2; have := HN.out; omega)
  have s2 := HSS.out.2.1.1.fr FW (fun k e => by have := HSS.out.2.1.2 k e; have := HSS.out.2.2; have := HN.out; omega)
  have g1 : ∀ k, (Value.slice pa' no ca').ownBlock = some k → w.heap.size ≤ k := fun k e => by have := HSS.out.1.2 k e; have := HSS.out.2.2; have := HN.out; omega
  have g2 : ∀ k, (Value.slice pb' nn cb').ownBlock = some k → w.heap.size ≤ k := fun k e => by have := HSS.out.2.1.2 k e; have := HSS.out.2.2; have := HN.out; omega
  exact ret_box rfl rfl rfl hfin.1 ⟨_, rfl, by rw [HI.out]; exact ⟨_, _, rfl, s1, s2, g1, g2⟩, hfin.2⟩
 by_cases h10 : K = 10
 ·subst h10
  have HI : Hid (exch ⟨10, P, T, F, A, lO, lN⟩ = ⟨10, T, P, F, A, lO, lN⟩) := by show _ = _; simp [exch]
  go_wp2_with fail
  go_region_held3 (fun w' => Fr (fun k => k = w2.heap.size) w6 w' ∧ w'.cell? ⟨w.heap.size, 1, none⟩ = some (.string P) ∧ w'.cell? ⟨w.heap.size, 2, none⟩ = some (.string T) ∧ w'.cell? ⟨w.heap.size, 3, none⟩ = some (.string F))
   (exact HKS6.out _ (by first | exact Fr.drew _ w6 | exact Fr.then (Fr.drew _ w6) (Fr.setQ _ _ _ _) | exact Fr.then (Fr.then (Fr.drew _ w6) (Fr.setQ _ _ _ _)) (Fr.setQ _ _ _ _)))
   (fail)
  go_wp2_with fail
  have hfin0 := fin9 (W := ((w6.setCell ⟨w2.heap.size, 1, none⟩ (.string T)).setCell ⟨w2.heap.size, 2, none⟩ (.string P))) HF6.out HC2.out ((Fr.setQ (w6) w2.heap.size 1 (.string T)).then (Fr.setQ ((w6.setCell ⟨w2.heap.size, 1, none⟩ (.string T))) w2.heap.size 2 (.string P))) n2 (by have := HN.out; omega) (by have := HN.out; omega) (.int .i64 10) (.string T) (.string P) (.string F) (.int .i64 A) (.slice pa' no ca') (.slice pb' nn cb')
  have hfin := And.intro (hfin0.1.kept (Fr.drew None' _)) (hfin0.2.then7 (Fr.drew None' _))
  have FW : Fr (fun k => k = w2.heap.size ∨ k = w1.heap.size) w6 _ := ((Fr.mono ((Fr.setQ (w6) w2.heap.size 1 (.string T)).then (Fr.setQ ((w6.setCell ⟨w2.heap.size, 1, none⟩ (.string T))) w2.heap.size 2 (.string P))) (fun _ e => Or.inl e)).then (Fr.setP (M := fun k => k = w2.heap.size ∨ k = w1.heap.size) ((w6.setCell ⟨w2.heap.size, 1, none⟩ (.string T)).setCell ⟨w2.heap.size, 2, none⟩ (.string P)) (Or.inr rfl) (.int .i64 10) (.string T) (.string P) (.string F) (.int .i64 A) (.slice pa' no ca') (.slice pb' nn cb'))).then (Fr.drew _ _)
  have s1 := HSS.out.1.1.fr FW (fun k e => by have := HSS.out.1.2 k e; have := HSS.out.2.2; have := HN.out; omega)
  have s2 := HSS.out.2.1.1.fr FW (fun k e => by have := HSS.out.2.1.2 k e; have := HSS.out.2.2; have := HN.out; omega)
  have g1 : ∀ k, (Value.slice pa' no ca').ownBlock = some k → w.heap.size ≤ k := fun k e => by have := HSS.out.1.2 k e; have := HSS.out.2.2; have := HN.out; omega
  have g2 : ∀ k, (Value.slice pb' nn cb').ownBlock = some k → w.heap.size ≤ k := fun k e => by have := HSS.out.2.1.2 k e; have := HSS.out.2.2; have := HN.out; omega
  exact ret_box rfl rfl rfl hfin.1 ⟨_, rfl, by rw [HI.out]; exact ⟨_, _, rfl, s1, s2, g1, g2⟩, hfin.2⟩
 have HI : Hid (exch ⟨K, P, T, F, A, lO, lN⟩ = ⟨K, P, T, F, A, lO, lN⟩) := by show _ = _; unfold exch; simp only; rw [if_neg h7, if_neg (by omega), if_neg h10]
 go_wp2_with fail
 have hfin := fin9 (W := w6) HF6.out HC2.out (Fr.refl (fun k => k = w2.heap.size) _) n2 (by have := HN.out; omega) (by have := HN.out; omega) (.int .i64 K) (.string P) (.string T) (.string F) (.int .i64 A) (.slice pa' no ca') (.slice pb' nn cb')
 have FW : Fr (fun k => k = w2.heap.size ∨ k = w1.heap.size) w6 _ := ((Fr.mono (Fr.refl (fun k => k = w2.heap.size) _) (fun _ e => Or.inl e)).then (Fr.setP (M := fun k => k = w2.heap.size ∨ k = w1.heap.size) w6 (Or.inr rfl) (.int .i64 K) (.string P) (.string T) (.string F) (.int .i64 A) (.slice pa' no ca') (.slice pb' nn cb')))
 have s1 := HSS.out.1.1.fr FW (fun k e => by have := HSS.out.1.2 k e; have := HSS.out.2.2; have := HN.out; omega)
 have s2 := HSS.out.2.1.1.fr FW (fun k e => by have := HSS.out.2.1.2 k e; have := HSS.out.2.2; have := HN.out; omega)
 have g1 : ∀ k, (Value.slice pa' no ca').ownBlock = some k → w.heap.size ≤ k := fun k e => by have := HSS.out.1.2 k e; have := HSS.out.2.2; have := HN.out; omega
 have g2 : ∀ k, (Value.slice pb' nn cb').ownBlock = some k → w.heap.size ≤ k := fun k e => by have := HSS.out.2.1.2 k e; have := HSS.out.2.2; have := HN.out; omega
 exact ret_box rfl rfl rfl hfin.1 ⟨_, rfl, by rw [HI.out]; exact ⟨_, _, rfl, s1, s2, g1, g2⟩, hfin.2⟩
theorem inv_none {x : Pr} (h : undo x.kind = 0) : inv x = zeroP := by
 unfold undo at h
 unfold inv
 rcases eleven x.kind with e | e | e | e | e | e | e | e | e | e | e | e | e
 all_goals first | (rw [if_neg (by omega), if_neg (by omega), if_neg (by omega), if_neg (by omega), if_neg (by omega)]; done) | (rw [e] at h; simp at h)
theorem inv_some {x : Pr} (h : ¬ undo x.kind = 0) : inv x = { exch x with kind := undo x.kind } := by
 obtain ⟨K, P, T, F, A, lO, lN⟩ := x
 simp only at h ⊢
 unfold undo at h ⊢
 unfold inv exch
 simp only
 rcases eleven K with e | e | e | e | e | e | e | e | e | e | e | e | e
 all_goals first | (exact absurd (by rw [if_neg (by omega), if_neg (by omega), if_neg (by omega)]) h) | (subst e; simp at h ⊢)
theorem invert_any (x : Pr) (vo vn : Value) (w : World) (ho : Zy w vo x.old) (hn : Zy w vn x.new) (lo : x.old.length ≤ 900000) (ln : x.new.length ≤ 900000) :
  Calls Tryz.prog 49 #[.agg #[.int .i64 x.kind, .string x.path, .string x.dst, .string x.src, .int .i64 x.pos, vo, vn]] w fun e w' => ∃ v, e = .returned v ∧ PrNew w w' v (inv x) ∧ Fr None' w w' := by
 have cE : Hid (∀ w', Fr None' w w' → Calls Tryz.prog 74 #[.agg #[.int .i64 x.kind, .string x.path, .string x.dst, .string x.src, .int .i64 x.pos, vo, vn]] w' fun e w'' => ∃ v, e = .returned v ∧ PrNew w' w'' v (exch x) ∧ Fr None' w' w'') := fun w' f => exch_any x vo vn w' (ho.kept f) (hn.kept f) lo ln
 have HI1 : Hid (undo x.kind = 0 → inv x = zeroP) := inv_none
 have HI2 : Hid (¬ undo x.kind = 0 → inv x = { exch x with kind := undo x.kind }) := inv_some
 generalize inv x = R at HI1 HI2 ⊢
 generalize exch x = E at HI2 cE
 obtain ⟨K, P, T, F, A, lO, lN⟩ := x
 simp only at ho hn lo ln HI1 HI2 cE ⊢
 obtain ⟨pa, ca, rfl⟩ := ho.as
 obtain ⟨pb, cb, rfl⟩ := hn.as
 generalize lO.length = no at ho hn cE
 generalize lN.length = nn at ho hn cE
 obtain ⟨w1, hw1⟩ : ∃ w1, w.alloc (.cells #[.int .i64 K, .string P, .string T, .string F, .int .i64 A, .slice pa no ca, .slice pb nn cb] 43) = w1 := ⟨_, rfl⟩
 obtain ⟨w2, hw2⟩ : ∃ w2, w1.alloc (.cells #[.int .i64 0, .string ⟨#[]⟩, .string ⟨#[]⟩, .string ⟨#[]⟩, .int .i64 0, .slice none 0 0, .slice none 0 0] 43) = w2 := ⟨_, rfl⟩
 have F1 : Fr None' w w1 := hw1 ▸ Fr.alloc None' w _
 have F2 : Fr None' w1 w2 := hw2 ▸ Fr.alloc None' w1 _
 have B1 : Box w2 w.heap.size (.int .i64 K) (.string P) (.string T) (.string F) (.int .i64 A) (.slice pa no ca) (.slice pb nn cb) := (hw1 ▸ Box.new w _ _ _ _ _ _ _ : Box w1 _ _ _ _ _ _ _ _).kept F2
 have B2 : Box w2 w1.heap.size (.int .i64 0) (.string ⟨#[]⟩) (.string ⟨#[]⟩) (.string ⟨#[]⟩) (.int .i64 0) (.slice none 0 0) (.slice none 0 0) := hw2 ▸ Box.new w1 _ _ _ _ _ _ _
 have s1 : w1.heap.size = w.heap.size + 1 := by rw [← hw1]; simp
 have HF : Hid (Fr None' w w2) := F1.then7 F2
 have HB : Hid (Box w2 w.heap.size (.int .i64 K) (.string P) (.string T) (.string F) (.int .i64 A) (.slice pa no ca) (.slice pb nn cb) ∧ Box w2 w1.heap.size (.int .i64 0) (.string ⟨#[]⟩) (.string ⟨#[]⟩) (.string ⟨#[]⟩) (.int .i64 0) (.slice none 0 0) (.slice none 0 0)) := ⟨B1, B2⟩
 have HN : Hid (w.heap.size < w1.heap.size) := by show _ < _; omega
 obtain ⟨a0, a1, a2, a3, a4, a5, a6⟩ := B1.cells
 have q1 := undoing_any K w2
 generalize undo K = U at q1 HI1 HI2
 clear ho hn lo ln F1 F2 B1 B2 s1
 go_enter Tryz.func49, Tryz.ntmps49
 go_wp2_with fail
 with_reducible refine q1.mono ?_
 rintro e w3 ⟨rfl, F3⟩
 obtain ⟨B1, B2⟩ := HB.out
 have C1 := B1.kept F3
 have C2 := B2.kept F3
 have HF3 : Hid (Fr None' w w3) := HF.out.then7 F3
 have HC2 : Hid (Box w3 w1.heap.size (.int .i64 0) (.string ⟨#[]⟩) (.string ⟨#[]⟩) (.string ⟨#[]⟩) (.int .i64 0) (.slice none 0 0) (.slice none 0 0)) := C2
 have q2 := cE.out w3 HF3.out
 obtain ⟨k0, k1, k2, k3, k4, k5, k6⟩ := C1.cells
 obtain ⟨b0, b1, b2, b3, b4, b5, b6⟩ := C2.cells
 have z2 := C2.frozen
 clear q1 F3 a0 a1 a2 a3 a4 a5 a6 B1 B2 C1 C2 HB HF cE
 by_cases hU : U = 0
 ·have HR : Hid (R = zeroP) := HI1.out hU
  subst hU
  clear HI1 HI2 q2
  go_wp2_with fail
  have hfin := fin9 (W := w3) HF3.out HC2.out (Fr.refl (fun k => k = w3.heap.size) _) (by have := HC2.out.lt; omega) (by have := HN.out; omega) (by exact HF3.out.size) (.int .i64 0) (.string ⟨#[]⟩) (.string ⟨#[]⟩) (.string ⟨#[]⟩) (.int .i64 0) (.slice none 0 0) (.slice none 0 0)
  exact ret_box rfl rfl rfl hfin.1 ⟨_, rfl, by rw [HR.out]; exact ⟨_, _, rfl, ⟨none, 0, rfl, fun _ => rfl, Nat.le_refl _, Lines.Row.nil _ _⟩, ⟨none, 0, rfl, fun _ => rfl, Nat.le_refl _, Lines.Row.nil _ _⟩, (fun k e => by cases e), (fun k e => by cases e)⟩, hfin.2⟩
 ·have HR : Hid (R = { E with kind := U }) := HI2.out hU
  clear HI1 HI2
  obtain ⟨EK, EP, ET, EF, EA, EO, EN⟩ := E
  simp only at q2 HR
  go_wp2_with fail
  with_reducible refine q2.mono ?_
  rintro e w4 ⟨v, rfl, ⟨vo, vn, rfl, hso, hsn, hgo, hgn⟩, F4⟩
  simp only at hso hsn
  obtain ⟨po, co, rfl⟩ := hso.as
  obtain ⟨pn, cn, rfl⟩ := hsn.as
  generalize EO.length = eo at hso hsn hgo hgn
  generalize EN.length = en at hso hsn hgo hgn
  obtain ⟨w5, hw5⟩ : ∃ w5, w4.alloc (.cells #[.int .i64 EK, .string EP, .string ET, .string EF, .int .i64 EA, .slice po eo co, .slice pn en cn] 43) = w5 := ⟨_, rfl⟩
  have F5 : Fr None' w4 w5 := hw5 ▸ Fr.alloc None' w4 _
  have C3 : Box w5 w4.heap.size (.int .i64 EK) (.string EP) (.string ET) (.string EF) (.int .i64 EA) (.slice po eo co) (.slice pn en cn) := hw5 ▸ Box.new w4 _ _ _ _ _ _ _
  have C2 := (HC2.out.kept F4).kept F5
  have HC5 : Hid (Box w5 w1.heap.size (.int .i64 0) (.string ⟨#[]⟩) (.string ⟨#[]⟩) (.string ⟨#[]⟩) (.int .i64 0) (.slice none 0 0) (.slice none 0 0)) := C2
  have HF5 : Hid (Fr None' w w5) := (HF3.out.then7 F4).then7 F5
  have HS : Hid (Zy w4 (.slice po eo co) EO ∧ Zy w4 (.slice pn en cn) EN ∧ (∀ k, (Value.slice po eo co).ownBlock = some k → w3.heap.size ≤ k) ∧ (∀ k, (Value.slice pn en cn).ownBlock = some k → w3.heap.size ≤ k) ∧ Fr None' w4 w5) := ⟨hso, hsn, hgo, hgn, F5⟩
  have n2 : ¬ w1.heap.size = w4.heap.size := by have := HC2.out.lt; have := F4.size; omega
  have HM : Hid (w.heap.size ≤ w4.heap.size) := by show _ ≤ _; have := HF3.out.size; have := F4.size; omega
  obtain ⟨d0, d1, d2, d3, d4, d5, d6⟩ := C2.cells
  obtain ⟨c0, c1, c2, c3, c4, c5, c6⟩ := C3.cells
  have z5 := C2.frozen
  have z6 := C3.frozen
  clear q2 F4 F5 C2 C3 hso hsn hgo hgn k0 k1 k2 k3 k4 k5 k6 b0 b1 b2 b3 b4 b5 b6 z2
  go_wp2_with fail
  have hfin := fin9 (W := w5.setCell ⟨w4.heap.size, 0, none⟩ (.int .i64 U)) HF5.out HC5.out (Fr.setQ w5 w4.heap.size 0 (.int .i64 U)) n2 (by have := HN.out; omega) HM.out (.int .i64 U) (.string EP) (.string ET) (.string EF) (.int .i64 EA) (.slice po eo co) (.slice pn en cn)
  have FW : Fr (fun k => k = w4.heap.size ∨ k = w1.heap.size) w5 _ := (Fr.mono (Fr.setQ w5 w4.heap.size 0 (.int .i64 U)) (fun _ e => Or.inl e)).then (Fr.setP (M := fun k => k = w4.heap.size ∨ k = w1.heap.size) (w5.setCell ⟨w4.heap.size, 0, none⟩ (.int .i64 U)) (Or.inr rfl) (.int .i64 U) (.string EP) (.string ET) (.string EF) (.int .i64 EA) (.slice po eo co) (.slice pn en cn))
  obtain ⟨t1, t2, t3, t4, t5⟩ := HS.out
  have hlt := HC2.out.lt
  have s1 := (t1.kept t5).far FW (fun hl k e => by have := t1.lt hl e; have := t3 k e; omega)
  have s2 := (t2.kept t5).far FW (fun hl k e => by have := t2.lt hl e; have := t4 k e; omega)
  exact ret_box rfl rfl rfl hfin.1 ⟨_, rfl, by rw [HR.out]; exact ⟨_, _, rfl, s1, s2, (fun k e => Nat.le_trans HF3.out.size (t3 k e)), (fun k e => Nat.le_trans HF3.out.size (t4 k e))⟩, hfin.2⟩
theorem Zy.as2 {w : World} {v : Value} {l : List ByteArray} (h : Zy w v l) : ∃ pa ca, v = .slice pa l.length ca := by
 obtain ⟨pa, ca, e, _⟩ := h
 exact ⟨pa, ca, e⟩
theorem copied_any (x : Pr) (vo vn : Value) (w : World) (ho : Zy w vo x.old) (hn : Zy w vn x.new) (lo : x.old.length ≤ 900000) (ln : x.new.length ≤ 900000) :
  Calls Tryz.prog 55 #[.agg #[.int .i64 x.kind, .string x.path, .string x.dst, .string x.src, .int .i64 x.pos, vo, vn]] w fun e w' => ∃ v, e = .returned v ∧ PrNew w w' v x ∧ Fr None' w w' := by
 obtain ⟨K, P, T, F, A, lO, lN⟩ := x
 simp only at ho hn lo ln ⊢
 obtain ⟨pa, ca, rfl⟩ := ho.as2
 obtain ⟨pb, cb, rfl⟩ := hn.as2
 obtain ⟨no, hno⟩ : ∃ n, lO.length = n := ⟨_, rfl⟩
 obtain ⟨nn, hnn⟩ : ∃ n, lN.length = n := ⟨_, rfl⟩
 rw [hno] at ho
 rw [hnn] at hn
 rw [hno, hnn]
 obtain ⟨w1, hw1⟩ : ∃ w1, w.alloc (.cells #[.int .i64 K, .string P, .string T, .string F, .int .i64 A, .slice pa no ca, .slice pb nn cb] 43) = w1 := ⟨_, rfl⟩
 obtain ⟨w2, hw2⟩ : ∃ w2, w1.alloc (.cells #[.int .i64 0, .string ⟨#[]⟩, .string ⟨#[]⟩, .string ⟨#[]⟩, .int .i64 0, .slice none 0 0, .slice none 0 0] 43) = w2 := ⟨_, rfl⟩
 have F1 : Fr None' w w1 := hw1 ▸ Fr.alloc None' w _
 have F2 : Fr None' w1 w2 := hw2 ▸ Fr.alloc None' w1 _
 have B1 : Box w2 w.heap.size (.int .i64 K) (.string P) (.string T) (.string F) (.int .i64 A) (.slice pa no ca) (.slice pb nn cb) := (hw1 ▸ Box.new w _ _ _ _ _ _ _ : Box w1 _ _ _ _ _ _ _ _).kept F2
 have B2 : Box w2 w1.heap.size (.int .i64 0) (.string ⟨#[]⟩) (.string ⟨#[]⟩) (.string ⟨#[]⟩) (.int .i64 0) (.slice none 0 0) (.slice none 0 0) := hw2 ▸ Box.new w1 _ _ _ _ _ _ _
 have s1 : w1.heap.size = w.heap.size + 1 := by rw [← hw1]; simp
 have HF : Hid (Fr None' w w2) := F1.then7 F2
 have HN : Hid (w.heap.size < w1.heap.size) := by show _ < _; omega
 have HB : Hid (∀ w', Fr None' w2 w' → Box w' w.heap.size (.int .i64 K) (.string P) (.string T) (.string F) (.int .i64 A) (.slice pa no ca) (.slice pb nn cb) ∧ Box w' w1.heap.size (.int .i64 0) (.string ⟨#[]⟩) (.string ⟨#[]⟩) (.string ⟨#[]⟩) (.int .i64 0) (.slice none 0 0) (.slice none 0 0)) := fun w' f => ⟨B1.kept f, B2.kept f⟩
 have HLn : Hid (lO.length = no ∧ lN.length = nn) := ⟨hno, hnn⟩
 have cO : ∀ w', Fr None' w2 w' → Calls Tryz.prog 53 #[.slice pa no ca] w' fun e w'' => ∃ pa' ca', e = .returned (.slice pa' no ca') ∧ Hid (Zy w'' (.slice pa' no ca') lO ∧ ∀ k, (Value.slice pa' no ca').ownBlock = some k → w2.heap.size ≤ k) ∧ Hid (Fr None' w2 w'') := fun w' f => by
  refine (clone_any _ lO w' ((ho.kept HF.out).kept f) (by omega)).mono ?_
  rintro e w'' ⟨v, rfl, h1, h2, h3⟩
  obtain ⟨p, c, rfl⟩ := h1.as2
  rw [HLn.out.1] at h1 h3 ⊢
  exact ⟨p, c, rfl, ⟨h1, fun k e => Nat.le_trans f.size (h3 k e)⟩, f.then7 h2⟩
 have cN : ∀ w', Fr None' w2 w' → Calls Tryz.prog 53 #[.slice pb nn cb] w' fun e w'' => ∃ pa' ca', e = .returned (.slice pa' nn ca') ∧ Hid (Zy w'' (.slice pa' nn ca') lN ∧ ∀ k, (Value.slice pa' nn ca').ownBlock = some k → w2.heap.size ≤ k) ∧ Hid (Fr None' w' w'') := fun w' f => by
  refine (clone_any _ lN w' ((hn.kept HF.out).kept f) (by omega)).mono ?_
  rintro e w'' ⟨v, rfl, h1, h2, h3⟩
  obtain ⟨p, c, rfl⟩ := h1.as2
  rw [HLn.out.2] at h1 h3 ⊢
  exact ⟨p, c, rfl, ⟨h1, fun k e => Nat.le_trans f.size (h3 k e)⟩, h2⟩
 have HC : Hid (∀ w', Fr None' w2 w' → w'.cell? ⟨w.heap.size, 5, none⟩ = some (.slice pa no ca) ∧ w'.cell? ⟨w.heap.size, 6, none⟩ = some (.slice pb nn cb) ∧ (∀ o, w'.frozen? ⟨w.heap.size, o, none⟩ = false)) := fun w' f => ⟨(HB.out w' f).1.cells.2.2.2.2.2.1, (HB.out w' f).1.cells.2.2.2.2.2.2, (HB.out w' f).1.frozen⟩
 obtain ⟨a5, a6, az⟩ := HC.out w2 (Fr.refl _ _)
 clear ho hn lo ln hno hnn F1 F2 B1 B2 s1
 go_enter Tryz.func55, Tryz.ntmps55
 go_wp2_with fail
 go_region_with (first
   | (go_at_call 53; with_reducible (refine (cO _ (Fr.drew _ _)).mono ?_); rintro e w4 ⟨pa', ca', rfl, HO4, H4⟩; obtain ⟨b5, b6, bz⟩ := HC.out _ (Hid.out H4))
   | (go_at_call 53; with_reducible (refine (cN _ (Hid.out H4)).mono ?_); rintro e w5 ⟨pb', cb', rfl, HN5, H5⟩; obtain ⟨d5, d6, dz⟩ := HC.out _ (Fr.then7 (Hid.out H4) (Hid.out H5))))
 all_goals
  obtain ⟨w6, hw6⟩ : ∃ y, (w5.setCell ⟨w.heap.size, 5, none⟩ (.slice pa' no ca')).setCell ⟨w.heap.size, 6, none⟩ (.slice pb' nn cb') = y := ⟨_, rfl⟩
  have F25 : Fr None' w2 w5 := H4.out.then7 H5.out
  have F56 : Fr (fun k => k = w.heap.size) w5 w6 := hw6 ▸ (Fr.setQ _ _ _ _).then (Fr.setQ _ _ _ _)
  have hn6 : ¬ w1.heap.size = w.heap.size := by have := HN.out; omega
  have C6 : Box w6 w.heap.size (.int .i64 K) (.string P) (.string T) (.string F) (.int .i64 A) (.slice pa' no ca') (.slice pb' nn cb') := hw6 ▸ ((HB.out w5 F25).1.set5 _).set6 _
  have D6 : Box w6 w1.heap.size (.int .i64 0) (.string ⟨#[]⟩) (.string ⟨#[]⟩) (.string ⟨#[]⟩) (.int .i64 0) (.slice none 0 0) (.slice none 0 0) := (HB.out w5 F25).2.fr F56 hn6
  have HFW : Hid (Fr None' w w6) := (HF.out.then7 F25).trans F56 (fun _ e => Or.inr (by omega))
  have HD6 : Hid (Box w6 w1.heap.size (.int .i64 0) (.string ⟨#[]⟩) (.string ⟨#[]⟩) (.string ⟨#[]⟩) (.int .i64 0) (.slice none 0 0) (.slice none 0 0)) := D6
  have H56 : Hid (Fr (fun k => k = w.heap.size) w5 w6) := F56
  obtain ⟨c0, c1, c2, c3, c4, c5, c6⟩ := C6.cells
  obtain ⟨e0, e1, e2, e3, e4, e5, e6⟩ := D6.cells
  have ez := D6.frozen
  rw [hw6]
  clear F25 F56 C6 D6 a5 a6 az b5 b6 bz d5 d6 dz cO cN hw6
  go_wp2_with fail
  have hfin := fin9 (W := w6) HFW.out HD6.out (Fr.refl (fun k => k = w6.heap.size) _) (by have := HD6.out.lt; omega) (by have := HN.out; omega) (by exact HFW.out.size) (.int .i64 K) (.string P) (.string T) (.string F) (.int .i64 A) (.slice pa' no ca') (.slice pb' nn cb')
  have FW : Fr (fun k => k = w.heap.size ∨ k = w1.heap.size) w5 _ := (Fr.mono H56.out (fun _ e => Or.inl e)).then (Fr.setP (M := fun k => k = w.heap.size ∨ k = w1.heap.size) w6 (Or.inr rfl) (.int .i64 K) (.string P) (.string T) (.string F) (.int .i64 A) (.slice pa' no ca') (.slice pb' nn cb'))
  have hlt := (HB.out w2 (Fr.refl _ _)).2.lt
  have t1 := (HO4.out.1.kept H5.out).far FW (fun hl k e => by have := HO4.out.2 k e; have := HN.out; omega)
  have t2 := HN5.out.1.far FW (fun hl k e => by have := HN5.out.2 k e; have := HN.out; omega)
  exact ret_box rfl rfl rfl hfin.1 ⟨_, rfl, ⟨_, _, rfl, t1, t2, (fun k e => Nat.le_trans HF.out.size (HO4.out.2 k e)), (fun k e => Nat.le_trans HF.out.size (HN5.out.2 k e))⟩, hfin.2⟩
theorem toHid11c {p : Prop} (h : p) : Hid p := h
structure CopyAt (w wr : World) (v : Value) (L : List Pr) (V : List (Value × Value)) (k : Nat) : Prop where
 fr : Fr None' w wr
 own : Zk w.heap.size wr v L V
 new : ∀ j u, j < k → V[j]? = some u → (∀ i, u.1.ownBlock = some i → w.heap.size ≤ i) ∧ ∀ i, u.2.ownBlock = some i → w.heap.size ≤ i
theorem Zk.cellsAt {base : Nat} {w : World} {g n cap : Nat} {L : List Pr} {V : List (Value × Value)} (h : Zk base w (.slice (some ⟨g, 0, none⟩) n cap) L V) {k : Nat} (hk : k < L.length) :
  ∃ u, V[k]? = some u ∧ (w.cell? ⟨g, k * 7, none⟩ = some (.int .i64 L[k].kind) ∧ w.cell? ⟨g, k * 7 + 1, none⟩ = some (.string L[k].path) ∧ w.cell? ⟨g, k * 7 + 2, none⟩ = some (.string L[k].dst) ∧ w.cell? ⟨g, k * 7 + 3, none⟩ = some (.string L[k].src) ∧ w.cell? ⟨g, k * 7 + 4, none⟩ = some (.int .i64 L[k].pos) ∧ w.cell? ⟨g, k * 7 + 5, none⟩ = some u.1 ∧ w.cell? ⟨g, k * 7 + 6, none⟩ = some u.2) ∧ (Zy w u.1 L[k].old ∧ Zy w u.2 L[k].new) ∧ ∀ o, w.frozen? ⟨g, o, none⟩ = false := by
 obtain ⟨u, hp⟩ : ∃ u, V[k]? = some u := ⟨_, List.getElem?_eq_getElem (by rw [h.len]; exact hk)⟩
 have hx := pcells_get L V k _ u (List.getElem?_eq_getElem hk) hp
 rcases h.row.2 with ⟨hv, _⟩ | ⟨g', cap', cur, he, hb', hh, h1, h2, h3, h4⟩
 ·cases hv
 ·cases he
  have hc' : ∀ j u, j < L.length * 7 → (pcells L V)[j]? = some u → w.cell? ⟨g, j, none⟩ = some u := fun j u hj h1 => by
   rw [← h4, List.getElem?_take, if_pos hj] at h1
   rw [World.cell?, hh]
   simpa using h1
  obtain ⟨s1, s2, _, _⟩ := h.str k _ u (List.getElem?_eq_getElem hk) hp
  refine ⟨u, hp, ⟨?_, ?_, ?_, ?_, ?_, ?_, ?_⟩, ⟨s1, s2⟩, fun o => ?_⟩
  ·exact hc' _ _ (by omega) (hx 0 (by omega))
  ·exact hc' _ _ (by omega) (hx 1 (by omega))
  ·exact hc' _ _ (by omega) (hx 2 (by omega))
  ·exact hc' _ _ (by omega) (hx 3 (by omega))
  ·exact hc' _ _ (by omega) (hx 4 (by omega))
  ·exact hc' _ _ (by omega) (hx 5 (by omega))
  ·exact hc' _ _ (by omega) (hx 6 (by omega))
  ·unfold World.frozen?
   rw [hh]
   simp
theorem Zk.at0 {base : Nat} {w : World} {pv : Option Addr} {n cap : Nat} {L : List Pr} {V : List (Value × Value)} (h : Zk base w (.slice pv n cap) L V) {k : Nat} (hk : k < L.length) : ∃ g, pv = some ⟨g, 0, none⟩ ∧ base ≤ g ∧ g < w.heap.size := by
 rcases h.row.2 with ⟨_, h0⟩ | ⟨g, cap', cur, he, hb', hh, _⟩
 ·omega
 ·cases he
  exact ⟨g, rfl, hb', (Array.getElem?_eq_some_iff.1 hh).1⟩
theorem CopyAt.step {w wr w5 : World} {g n cap : Nat} {L : List Pr} {V : List (Value × Value)} {k : Nat} (h : CopyAt w wr (.slice (some ⟨g, 0, none⟩) n cap) L V k) (hk : k < L.length) (f : Fr None' wr w5) (hg : w.heap.size ≤ g) (hg2 : g < wr.heap.size) {a b : Value} (ha : Zy w5 a L[k].old) (hb : Zy w5 b L[k].new) (fa : ∀ j, a.ownBlock = some j → wr.heap.size ≤ j) (fb : ∀ j, b.ownBlock = some j → wr.heap.size ≤ j) :
  CopyAt w ((w5.setCell ⟨g, k * 7 + 5, none⟩ a).setCell ⟨g, k * 7 + 6, none⟩ b) (.slice (some ⟨g, 0, none⟩) n cap) L (V.set k (a, b)) (k + 1) := by
 obtain ⟨h1, h2⟩ := (h.own.kept f).setRows hk ha hb (fun j e e' => by have := fa j e; omega) (fun j e e' => by have := fb j e; omega)
 have hw := h.fr.size
 refine ⟨(h.fr.then7 f).trans h2 (fun i e => Or.inr (by omega)), h1, fun j u hj e => ?_⟩
 by_cases hjk : k = j
 ·subst hjk
  rw [List.getElem?_set_self (by rw [h.own.len]; exact hk)] at e
  cases e
  exact ⟨fun i e => by have := fa i e; omega, fun i e => by have := fb i e; omega⟩
 ·rw [List.getElem?_set_ne hjk] at e
  exact h.new j u (by omega) e
theorem copiedR_any (va : Option Addr) (n c : Nat) (L : List Pr) (w : World) (hl : L.length = n) (ha : PrsAt w va L) (hc : va = none → c = 0) (hn : n ≤ 90000) (hs : ∀ x ∈ L, x.old.length ≤ 900000 ∧ x.new.length ≤ 900000) :
  Calls Tryz.prog 27 #[.slice va n c] w fun e w' => ∃ v' V, e = .returned v' ∧ Zk w.heap.size w' v' L V ∧ Fr None' w w' ∧ ∀ u ∈ V, ∀ k, (u.1.ownBlock = some k ∨ u.2.ownBlock = some k) → w.heap.size ≤ k := by
 have HCl := toHid11c (fun w' (f : Fr None' w w') => cloneP_any va n c L w' hl (ha.kept f) hc hn)
 have HS := toHid11c hs
 have HL := toHid11c hl
 have i1 : (n : Int) ≤ 90000 := by omega
 have q1 := HCl.out w (Fr.refl _ _)
 clear hl ha hc hs hn
 go_enter Tryz.func27, Tryz.ntmps27
 go_wp2_with fail
 with_reducible refine q1.mono ?_
 rintro e w1 ⟨v, U, rfl, O1, f1⟩
 obtain ⟨pv, cv, hv, _, _, _⟩ := O1.slice
 rw [HL.out] at hv
 subst hv
 have HI0 := toHid11c (show CopyAt w w1 (.slice pv n cv) L U 0 from ⟨f1, O1, fun j u hj => by omega⟩)
 clear q1 O1 f1 HCl
 go_wp2_with fail
 go_loopw [10] (fun vi wr => ∃ (k : Nat) (V : List (Value × Value)), k ≤ n ∧ vi = .int .i64 k ∧ Hid (CopyAt w wr (.slice pv n cv) L V k)) (fun vi _ => n - (intOf vi).toNat)
 case atStart => exact ⟨0, U, Nat.zero_le _, rfl, HI0.out⟩
 case round =>
  obtain ⟨k, V, hk, rfl, HI⟩ := hrel
  clear HI0
  by_cases hlt : k < n
  ·have hkL : k < L.length := by rw [HL.out]; exact hlt
   obtain ⟨g, rfl, hg, hg2⟩ := HI.out.own.at0 hkL
   obtain ⟨⟨u1, u2⟩, hu, ⟨c0, c1, c2, c3, c4, c5, c6⟩, ⟨t1, t2⟩, cz⟩ := HI.out.own.cellsAt hkL
   obtain ⟨l1, l2⟩ := HS.out _ (List.getElem_mem hkL)
   simp only at c5 c6 t1 t2
   obtain ⟨pa, ca, rfl⟩ := t1.as2
   obtain ⟨pb, cb, rfl⟩ := t2.as2
   have HG := toHid11c (show w.heap.size ≤ g ∧ g < wr.heap.size from ⟨hg, hg2⟩)
   have HSt := toHid11c (fun w5 (f : Fr None' wr w5) a b (ha : Zy w5 a L[k].old) (hb : Zy w5 b L[k].new) fa fb => HI.out.step hkL f hg hg2 (a := a) (b := b) ha hb fa fb)
   have HO := toHid11c (fun w' (f : Fr None' wr w') => (clone_any _ _ w' (t1.kept f) l1).mono (fun e w'' (h : ∃ v', e = .returned v' ∧ Zy w'' v' L[k].old ∧ Fr None' w' w'' ∧ ∀ j, v'.ownBlock = some j → w'.heap.size ≤ j) => (show ∃ pa' ca', e = .returned (.slice pa' L[k].old.length ca') ∧ Hid (Zy w'' (.slice pa' L[k].old.length ca') L[k].old ∧ ∀ j, (Value.slice pa' L[k].old.length ca').ownBlock = some j → wr.heap.size ≤ j) ∧ Hid (Fr None' wr w'' ∧ Fr None' w' w'') from by
    obtain ⟨v, rfl, h1, h2, h3⟩ := h
    obtain ⟨p, c, rfl⟩ := h1.as2
    exact ⟨p, c, rfl, ⟨h1, fun j e => Nat.le_trans f.size (h3 j e)⟩, f.then7 h2, h2⟩)))
   have HP := toHid11c (fun w' (f : Fr None' wr w') => (clone_any _ _ w' (t2.kept f) l2).mono (fun e w'' (h : ∃ v', e = .returned v' ∧ Zy w'' v' L[k].new ∧ Fr None' w' w'' ∧ ∀ j, v'.ownBlock = some j → w'.heap.size ≤ j) => (show ∃ pa' ca', e = .returned (.slice pa' L[k].new.length ca') ∧ Hid (Zy w'' (.slice pa' L[k].new.length ca') L[k].new ∧ ∀ j, (Value.slice pa' L[k].new.length ca').ownBlock = some j → wr.heap.size ≤ j) ∧ Hid (Fr None' wr w'' ∧ Fr None' w' w'') from by
    obtain ⟨v, rfl, h1, h2, h3⟩ := h
    obtain ⟨p, c, rfl⟩ := h1.as2
    exact ⟨p, c, rfl, ⟨h1, fun j e => Nat.le_trans f.size (h3 j e)⟩, f.then7 h2, h2⟩)))
   have HCz := toHid11c (show ∀ w', Fr None' wr w' → w'.cell? ⟨g, k * 7 + 5, none⟩ = some (.slice pa L[k].old.length ca) ∧ w'.cell? ⟨g, k * 7 + 6, none⟩ = some (.slice pb L[k].new.length cb) ∧ ∀ o, w'.frozen? ⟨g, o, none⟩ = false from fun w' f => by
    obtain ⟨u', hu', ⟨_, _, _, _, _, d5, d6⟩, _, dz⟩ := (HI.out.own.kept f).cellsAt hkL
    rw [hu] at hu'
    cases hu'
    exact ⟨d5, d6, dz⟩)
   obtain ⟨no, hno⟩ : ∃ m, L[k].old.length = m := ⟨_, rfl⟩
   obtain ⟨nn, hnn⟩ : ∃ m, L[k].new.length = m := ⟨_, rfl⟩
   rw [hno] at c5 HO HCz
   rw [hnn] at c6 HP HCz
   clear t1 t2 l1 l2 hno hnn hu hg hg2
   generalize L[k] = x at c0 c1 c2 c3 c4 HSt HO HP
   clear hkL
   obtain ⟨K, P, T, F, A, lO, lN⟩ := x
   simp only at c0 c1 c2 c3 c4 HSt HO HP
   have i3 : (k : Int) < (n : Int) := by omega
   have i4 : (0 : Int) ≤ (k : Int) := by omega
   obtain ⟨w2, hw2⟩ : ∃ w2, wr.alloc (.cells #[.int .i64 K, .string P, .string T, .string F, .int .i64 A, .slice pa no ca, .slice pb nn cb] 43) = w2 := ⟨_, rfl⟩
   have F2 := toHid11c (show Fr None' wr w2 from hw2 ▸ Fr.alloc None' _ _)
   have HB2 := toHid11c (show ∀ w', Fr None' w2 w' → w'.cell? ⟨wr.heap.size, 5, none⟩ = some (.slice pa no ca) ∧ w'.cell? ⟨wr.heap.size, 6, none⟩ = some (.slice pb nn cb) from fun w' f => ⟨((hw2 ▸ Box.new wr _ _ _ _ _ _ _ : Box w2 _ _ _ _ _ _ _ _).kept f).cells.2.2.2.2.2.1, ((hw2 ▸ Box.new wr _ _ _ _ _ _ _ : Box w2 _ _ _ _ _ _ _ _).kept f).cells.2.2.2.2.2.2⟩)
   obtain ⟨a5, a6⟩ := HB2.out w2 (Fr.refl _ _)
   go_wp2_with fail
   clear c0 c1 c2 c3 c4 c5 c6 cz hw2
   go_region_with (first
     | (go_at_call 53; with_reducible (refine (HO.out _ (Fr.then7 (Hid.out F2) (Fr.drew _ _))).mono ?_); rintro e w4 ⟨pa', ca', rfl, HO4, H4⟩; obtain ⟨b5, b6⟩ := HB2.out w4 (Fr.then7 (Fr.drew _ _) (Hid.out H4).2))
     | (go_at_call 53; with_reducible (refine (HP.out _ (Hid.out H4).1).mono ?_); rintro e w5 ⟨pb', cb', rfl, HN5, H5⟩; obtain ⟨d5, d6, dz⟩ := HCz.out _ (Hid.out H5).1))
   all_goals
    have HI' := toHid11c (HSt.out w5 H5.out.1 _ _ (HO4.out.1.kept H5.out.2) HN5.out.1 HO4.out.2 HN5.out.2)
    clear a5 a6 b5 b6 d5 d6 dz HSt
    go_wp2_with fail
    exact ⟨⟨k + 1, _, by omega, by go_num, HI'.out⟩, by simp [intOf]; omega⟩
  ·go_wp2_with fail
   go_ret
   exact ⟨_, V, rfl, HI.out.own, HI.out.fr, fun u hu j e => by
    obtain ⟨i, hi, rfl⟩ := List.getElem_of_mem hu
    have := HI.out.new i V[i] (by have := HI.out.own.len; have := HL.out; omega) (List.getElem?_eq_getElem hi)
    rcases e with e | e
    ·exact this.1 j e
    ·exact this.2 j e⟩
end Go.Proofs.YtbnfjjjdnbcehaaGreatDoor
