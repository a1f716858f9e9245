/-
  What is proved here: the contracts that the statement stands on: Exch9, Great9, Inv9. Conditions: as each theorem names them.
-/
import Derived.Test.YtjpgpbfnmokmiabGreatDoorMClone9
import Derived.Test.YtjpgpbfnmokmiabGreatDoorM8Strs9
import Derived.Test.YtjpgpbfnmokmiabGreatDoorM9Box9
import Derived.Deep.RegionHeld3
namespace Go.Proofs.YtjpgpbfnmokmiabGreatDoor
open Go.RowKit
set_option maxRecDepth 100000

/-- A patch with what its kind makes, and of what, in one another's place. -/
def exch (x : Pr) : Pr :=
  if x.kind = 7 then { x with old := x.new, new := x.old }
  else if x.kind = 8 ∨ x.kind = 9 then { x with dst := x.src, src := x.dst }
  else if x.kind = 10 then { x with path := x.dst, dst := x.path }
  else x

theorem StrsAt.as {w : World} {v : Value} {l : List ByteArray} (h : StrsAt w v l) : ∃ pa ca, v = .slice pa l.length ca := by
  obtain ⟨pa, ca, e, _⟩ := h
  exact ⟨pa, ca, e⟩

set_option maxHeartbeats 4000000 in
theorem exch_any (x : Pr) (vo vn : Value) (w : World) (ho : StrsAt w vo x.old) (hn : StrsAt w vn x.new) (lo : x.old.length ≤ 900000) (ln : x.new.length ≤ 900000) :
    Calls Tryz.prog 29 #[.agg #[.int .i64 x.kind, .string x.path, .string x.dst, .string x.src, .int .i64 x.pos, vo, vn]] w fun e w' => ∃ v, e = .returned v ∧ PrNew w w' v (exch x) ∧ Fr None' w w' := by
  obtain ⟨K, P, T, F, A, lO, lN⟩ := x
  simp only at ho hn lo ln ⊢
  obtain ⟨pa, ca, rfl⟩ := ho.as
  obtain ⟨pb, cb, rfl⟩ := hn.as
  obtain ⟨no, hno⟩ : ∃ n, lO.length = n := ⟨_, rfl⟩
  obtain ⟨nn, hnn⟩ : ∃ n, lN.length = n := ⟨_, rfl⟩
  rw [hno] at ho
  rw [hnn] at hn
  rw [hno, hnn]
  obtain ⟨w1, hw1⟩ : ∃ w1, w.alloc (.cells #[.int .i64 K, .string P, .string T, .string F, .int .i64 A, .slice pa no ca, .slice pb nn cb] 32) = w1 := ⟨_, rfl⟩
  obtain ⟨w2, hw2⟩ : ∃ w2, w1.alloc (.cells #[.int .i64 0, .string ⟨#[]⟩, .string ⟨#[]⟩, .string ⟨#[]⟩, .int .i64 0, .slice none 0 0, .slice none 0 0] 32) = w2 := ⟨_, rfl⟩
  obtain ⟨w3, hw3⟩ : ∃ w3, w2.alloc (.cells #[.int .i64 K, .string P, .string T, .string F, .int .i64 A, .slice pa no ca, .slice pb nn cb] 32) = w3 := ⟨_, rfl⟩
  have F1 : Fr None' w w1 := hw1 ▸ Fr.alloc None' w _
  have F2 : Fr None' w1 w2 := hw2 ▸ Fr.alloc None' w1 _
  have F3 : Fr None' w2 w3 := hw3 ▸ Fr.alloc None' w2 _
  have B1 : Box w3 w.heap.size (.int .i64 K) (.string P) (.string T) (.string F) (.int .i64 A) (.slice pa no ca) (.slice pb nn cb) := ((hw1 ▸ Box.new w _ _ _ _ _ _ _ : Box w1 _ _ _ _ _ _ _ _).kept F2).kept F3
  have B2 : Box w3 w1.heap.size (.int .i64 0) (.string ⟨#[]⟩) (.string ⟨#[]⟩) (.string ⟨#[]⟩) (.int .i64 0) (.slice none 0 0) (.slice none 0 0) := (hw2 ▸ Box.new w1 _ _ _ _ _ _ _ : Box w2 _ _ _ _ _ _ _ _).kept F3
  have B3 : Box w3 w2.heap.size (.int .i64 K) (.string P) (.string T) (.string F) (.int .i64 A) (.slice pa no ca) (.slice pb nn cb) := hw3 ▸ Box.new w2 _ _ _ _ _ _ _
  obtain ⟨p0, p1, p2, p3, p4, p5, p6⟩ := (((hw1 ▸ Box.new w _ _ _ _ _ _ _ : Box w1 w.heap.size (.int .i64 K) (.string P) (.string T) (.string F) (.int .i64 A) (.slice pa no ca) (.slice pb nn cb))).kept F2).cells
  have s1 : w1.heap.size = w.heap.size + 1 := by rw [← hw1]; simp
  have s2 : w2.heap.size = w1.heap.size + 1 := by rw [← hw2]; simp
  have HF : Hid (Fr None' w w3) := (F1.then7 F2).then7 F3
  have HB : Hid (Box w3 w.heap.size (.int .i64 K) (.string P) (.string T) (.string F) (.int .i64 A) (.slice pa no ca) (.slice pb nn cb) ∧ Box w3 w1.heap.size (.int .i64 0) (.string ⟨#[]⟩) (.string ⟨#[]⟩) (.string ⟨#[]⟩) (.int .i64 0) (.slice none 0 0) (.slice none 0 0) ∧ Box w3 w2.heap.size (.int .i64 K) (.string P) (.string T) (.string F) (.int .i64 A) (.slice pa no ca) (.slice pb nn cb)) := ⟨B1, B2, B3⟩
  have HN : Hid (w.heap.size < w1.heap.size ∧ w1.heap.size < w2.heap.size) := ⟨by omega, by omega⟩
  have HLn : Hid (lO.length = no ∧ lN.length = nn) := ⟨hno, hnn⟩
  have cO : ∀ w', Fr None' w3 w' → Calls Tryz.prog 40 #[.slice pa no ca] w' fun e w'' => ∃ pa' ca', e = .returned (.slice pa' no ca') ∧ Hid (StrsAt w'' (.slice pa' no ca') lO ∧ ∀ k, (Value.slice pa' no ca').ownBlock = some k → w3.heap.size ≤ k) ∧ Hid (Fr None' w3 w'') := fun w' f => by
    refine (clone_any _ lO w' ((ho.kept HF.out).kept f) (by omega)).mono ?_
    rintro e w'' ⟨v, rfl, h1, h2, h3⟩
    obtain ⟨p, c, rfl⟩ := h1.as
    rw [HLn.out.1] at h1 h3 ⊢
    exact ⟨p, c, rfl, ⟨h1, fun k e => Nat.le_trans f.size (h3 k e)⟩, f.then7 h2⟩
  have cN : ∀ w', Fr None' w3 w' → Calls Tryz.prog 40 #[.slice pb nn cb] w' fun e w'' => ∃ pa' ca', e = .returned (.slice pa' nn ca') ∧ Hid (StrsAt w'' (.slice pa' nn ca') lN ∧ ∀ k, (Value.slice pa' nn ca').ownBlock = some k → w3.heap.size ≤ k) ∧ Hid (Fr None' w' w'') := fun w' f => by
    refine (clone_any _ lN w' ((hn.kept HF.out).kept f) (by omega)).mono ?_
    rintro e w'' ⟨v, rfl, h1, h2, h3⟩
    obtain ⟨p, c, rfl⟩ := h1.as
    rw [HLn.out.2] at h1 h3 ⊢
    exact ⟨p, c, rfl, ⟨h1, fun k e => Nat.le_trans f.size (h3 k e)⟩, h2⟩
  have HKS : Hid (∀ w', Fr (fun k => k = w2.heap.size) w3 w' → Fr (fun k => k = w2.heap.size) w3 w' ∧ w'.cell? ⟨w.heap.size, 5, none⟩ = some (.slice pa no ca) ∧ w'.cell? ⟨w.heap.size, 6, none⟩ = some (.slice pb nn cb)) := fun w' f => by
    have hne : ¬ w.heap.size = w2.heap.size := by omega
    obtain ⟨_, _, _, _, _, h5, h6⟩ := (B1.fr f hne).cells
    exact ⟨f, h5, h6⟩
  have HKQ : Hid (∀ w', Fr None' w3 w' → (∀ o, w'.frozen? ⟨w2.heap.size, o, none⟩ = false) ∧ w'.cell? ⟨w2.heap.size, 5, none⟩ = some (.slice pa no ca) ∧ w'.cell? ⟨w2.heap.size, 6, none⟩ = some (.slice pb nn cb)) := fun w' f => by
    obtain ⟨_, _, _, _, _, h5, h6⟩ := (B3.kept f).cells
    exact ⟨(B3.kept f).frozen, h5, h6⟩
  clear ho hn lo ln hno hnn F1 F2 F3 B1 B2 B3 s1 s2
  go_enter Tryz.func29, Tryz.ntmps29
  go_wp2_with fail
  go_region_held3 (fun w' => Fr (fun k => k = w2.heap.size) w3 w' ∧ w'.cell? ⟨w.heap.size, 5, none⟩ = some (.slice pa no ca) ∧ w'.cell? ⟨w.heap.size, 6, none⟩ = some (.slice pb nn cb))
    (exact HKS.out _ (by first | exact Fr.drew _ w3 | exact Fr.any (Hid.out ‹_›) | exact Fr.any (Fr.then7 (Hid.out ‹_›) (Hid.out ‹_›)) | exact Fr.then (Fr.any (Fr.then7 H4.out H5.out)) (Fr.setQ _ _ _ _) | exact Fr.then (Fr.then (Fr.any (Fr.then7 H4.out H5.out)) (Fr.setQ _ _ _ _)) (Fr.setQ _ _ _ _)))
    (first
      | (go_at_call 40; with_reducible (refine (cO _ (Fr.drew _ _)).mono ?_); rintro e w4 ⟨pa', ca', rfl, HO4, H4⟩)
      | (go_at_call 40; with_reducible (refine (cN _ H4.out).mono ?_); rintro e w5 ⟨pb', cb', rfl, HN5, H5⟩; obtain ⟨z5, k5, k6⟩ := HKQ.out _ (Fr.then7 H4.out H5.out)))
  obtain ⟨w6, hw6⟩ : ∃ x, (w5.setCell ⟨w2.heap.size, 5, none⟩ (.slice pa' no ca')).setCell ⟨w2.heap.size, 6, none⟩ (.slice pb' nn cb') = x := ⟨_, rfl⟩
  have F35 : Fr None' w3 w5 := H4.out.then7 H5.out
  have F56 : Fr (fun k => k = w2.heap.size) w5 w6 := hw6 ▸ (Fr.setQ _ _ _ _).then (Fr.setQ _ _ _ _)
  obtain ⟨B1, B2, B3⟩ := HB.out
  have n1 : ¬ w.heap.size = w2.heap.size := by have := HN.out; omega
  have n2 : ¬ w1.heap.size = w2.heap.size := by have := HN.out; omega
  have n4 : ¬ w2.heap.size = w1.heap.size := by have := HN.out; omega
  have C1 := (B1.kept F35).fr F56 n1
  have C2 := (B2.kept F35).fr F56 n2
  have C3 : Box w6 w2.heap.size (.int .i64 K) (.string P) (.string T) (.string F) (.int .i64 A) (.slice pa' no ca') (.slice pb' nn cb') := by
    rw [← hw6]
    exact ((B3.kept F35).set5 _).set6 _
  have hlt : w2.heap.size < w3.heap.size := B3.lt
  have S1 : StrsAt w6 (.slice pa' no ca') lO := (HO4.out.1.kept H5.out).fr F56 (fun k e => by have := HO4.out.2 k e; omega)
  have S2 : StrsAt w6 (.slice pb' nn cb') lN := HN5.out.1.fr F56 (fun k e => by have := HN5.out.2 k e; omega)
  have HSS : Hid ((StrsAt w6 (.slice pa' no ca') lO ∧ ∀ k, (Value.slice pa' no ca').ownBlock = some k → w3.heap.size ≤ k) ∧ (StrsAt w6 (.slice pb' nn cb') lN ∧ ∀ k, (Value.slice pb' nn cb').ownBlock = some k → w3.heap.size ≤ k) ∧ w2.heap.size < w3.heap.size) := ⟨⟨S1, HO4.out.2⟩, ⟨S2, HN5.out.2⟩, hlt⟩
  have HF6 : Hid (Fr None' w w6) := (HF.out.then7 F35).trans F56 (fun _ e => Or.inr (by have := HN.out; omega))
  have HC2 : Hid (Box w6 w1.heap.size (.int .i64 0) (.string ⟨#[]⟩) (.string ⟨#[]⟩) (.string ⟨#[]⟩) (.int .i64 0) (.slice none 0 0) (.slice none 0 0)) := C2
  obtain ⟨a0, a1, a2, a3, a4, a5, a6⟩ := C1.cells
  have HKS6 : Hid (∀ w', Fr (fun k => k = w2.heap.size) w6 w' → Fr (fun k => k = w2.heap.size) w6 w' ∧ w'.cell? ⟨w.heap.size, 1, none⟩ = some (.string P) ∧ w'.cell? ⟨w.heap.size, 2, none⟩ = some (.string T) ∧ w'.cell? ⟨w.heap.size, 3, none⟩ = some (.string F)) := fun w' f => by
    obtain ⟨_, h1, h2, h3, _⟩ := (C1.fr f n1).cells
    exact ⟨f, h1, h2, h3⟩
  obtain ⟨b0, b1, b2, b3, b4, b5, b6⟩ := C2.cells
  obtain ⟨c0, c1, c2, c3, c4, c5, c6⟩ := C3.cells
  have z2 := C2.frozen
  have z3 := C3.frozen
  rw [hw6]
  clear hw6 F35 F56 B1 B2 B3 C1 C2 C3 hlt S1 S2 HO4 HN5 H4 H5 z5 k5 k6 HKQ HKS cO cN HB HF hw1 hw2 hw3 p0 p1 p2 p3 p4 p5 p6
  by_cases h7 : K = 7
  · subst h7
    have HI : Hid (exch ⟨7, P, T, F, A, lO, lN⟩ = ⟨7, P, T, F, A, lN, lO⟩) := by show _ = _; simp [exch]
    go_wp2_with fail
    have hfin := fin9 (W := ((w6.setCell ⟨w2.heap.size, 5, none⟩ (.slice pb' nn cb')).setCell ⟨w2.heap.size, 6, none⟩ (.slice pa' no ca'))) HF6.out HC2.out ((Fr.setQ (w6) w2.heap.size 5 (.slice pb' nn cb')).then (Fr.setQ ((w6.setCell ⟨w2.heap.size, 5, none⟩ (.slice pb' nn cb'))) w2.heap.size 6 (.slice pa' no ca'))) n2 (by have := HN.out; omega) (by have := HN.out; omega) (.int .i64 7) (.string P) (.string T) (.string F) (.int .i64 A) (.slice pb' nn cb') (.slice pa' no ca')
    have FW : Fr (fun k => k = w2.heap.size ∨ k = w1.heap.size) w6 _ := ((Fr.mono ((Fr.setQ (w6) w2.heap.size 5 (.slice pb' nn cb')).then (Fr.setQ ((w6.setCell ⟨w2.heap.size, 5, none⟩ (.slice pb' nn cb'))) w2.heap.size 6 (.slice pa' no ca'))) (fun _ e => Or.inl e)).then (Fr.setP (M := fun k => k = w2.heap.size ∨ k = w1.heap.size) ((w6.setCell ⟨w2.heap.size, 5, none⟩ (.slice pb' nn cb')).setCell ⟨w2.heap.size, 6, none⟩ (.slice pa' no ca')) (Or.inr rfl) (.int .i64 7) (.string P) (.string T) (.string F) (.int .i64 A) (.slice pb' nn cb') (.slice pa' no ca')))
    have s1 := HSS.out.1.1.fr FW (fun k e => by have := HSS.out.1.2 k e; have := HSS.out.2.2; have := HN.out; omega)
    have s2 := HSS.out.2.1.1.fr FW (fun k e => by have := HSS.out.2.1.2 k e; have := HSS.out.2.2; have := HN.out; omega)
    have g1 : ∀ k, (Value.slice pa' no ca').ownBlock = some k → w.heap.size ≤ k := fun k e => by have := HSS.out.1.2 k e; have := HSS.out.2.2; have := HN.out; omega
    have g2 : ∀ k, (Value.slice pb' nn cb').ownBlock = some k → w.heap.size ≤ k := fun k e => by have := HSS.out.2.1.2 k e; have := HSS.out.2.2; have := HN.out; omega
    exact ret_box rfl rfl rfl hfin.1 ⟨_, rfl, by rw [HI.out]; exact ⟨_, _, rfl, s2, s1, g2, g1⟩, hfin.2⟩
  by_cases h8 : K = 8
  · subst h8
    have HI : Hid (exch ⟨8, P, T, F, A, lO, lN⟩ = ⟨8, P, F, T, A, lO, lN⟩) := by show _ = _; simp [exch]
    go_wp2_with fail
    go_region_held3 (fun w' => Fr (fun k => k = w2.heap.size) w6 w' ∧ w'.cell? ⟨w.heap.size, 1, none⟩ = some (.string P) ∧ w'.cell? ⟨w.heap.size, 2, none⟩ = some (.string T) ∧ w'.cell? ⟨w.heap.size, 3, none⟩ = some (.string F))
      (exact HKS6.out _ (by first | exact Fr.drew _ w6 | exact Fr.then (Fr.drew _ w6) (Fr.setQ _ _ _ _) | exact Fr.then (Fr.then (Fr.drew _ w6) (Fr.setQ _ _ _ _)) (Fr.setQ _ _ _ _)))
      (fail)
    go_wp2_with fail
    have hfin0 := fin9 (W := ((w6.setCell ⟨w2.heap.size, 3, none⟩ (.string T)).setCell ⟨w2.heap.size, 2, none⟩ (.string F))) HF6.out HC2.out ((Fr.setQ (w6) w2.heap.size 3 (.string T)).then (Fr.setQ ((w6.setCell ⟨w2.heap.size, 3, none⟩ (.string T))) w2.heap.size 2 (.string F))) n2 (by have := HN.out; omega) (by have := HN.out; omega) (.int .i64 8) (.string P) (.string F) (.string T) (.int .i64 A) (.slice pa' no ca') (.slice pb' nn cb')
    have hfin := And.intro (hfin0.1.kept (Fr.drew None' _)) (hfin0.2.then7 (Fr.drew None' _))
    have FW : Fr (fun k => k = w2.heap.size ∨ k = w1.heap.size) w6 _ := ((Fr.mono ((Fr.setQ (w6) w2.heap.size 3 (.string T)).then (Fr.setQ ((w6.setCell ⟨w2.heap.size, 3, none⟩ (.string T))) w2.heap.size 2 (.string F))) (fun _ e => Or.inl e)).then (Fr.setP (M := fun k => k = w2.heap.size ∨ k = w1.heap.size) ((w6.setCell ⟨w2.heap.size, 3, none⟩ (.string T)).setCell ⟨w2.heap.size, 2, none⟩ (.string F)) (Or.inr rfl) (.int .i64 8) (.string P) (.string F) (.string T) (.int .i64 A) (.slice pa' no ca') (.slice pb' nn cb'))).then (Fr.drew _ _)
    have s1 := HSS.out.1.1.fr FW (fun k e => by have := HSS.out.1.2 k e; have := HSS.out.2.2; have := HN.out; omega)
    have s2 := HSS.out.2.1.1.fr FW (fun k e => by have := HSS.out.2.1.2 k e; have := HSS.out.2.2; have := HN.out; omega)
    have g1 : ∀ k, (Value.slice pa' no ca').ownBlock = some k → w.heap.size ≤ k := fun k e => by have := HSS.out.1.2 k e; have := HSS.out.2.2; have := HN.out; omega
    have g2 : ∀ k, (Value.slice pb' nn cb').ownBlock = some k → w.heap.size ≤ k := fun k e => by have := HSS.out.2.1.2 k e; have := HSS.out.2.2; have := HN.out; omega
    exact ret_box rfl rfl rfl hfin.1 ⟨_, rfl, by rw [HI.out]; exact ⟨_, _, rfl, s1, s2, g1, g2⟩, hfin.2⟩
  by_cases h9 : K = 9
  · subst h9
    have HI : Hid (exch ⟨9, P, T, F, A, lO, lN⟩ = ⟨9, P, F, T, A, lO, lN⟩) := by show _ = _; simp [exch]
    go_wp2_with fail
    go_region_held3 (fun w' => Fr (fun k => k = w2.heap.size) w6 w' ∧ w'.cell? ⟨w.heap.size, 1, none⟩ = some (.string P) ∧ w'.cell? ⟨w.heap.size, 2, none⟩ = some (.string T) ∧ w'.cell? ⟨w.heap.size, 3, none⟩ = some (.string F))
      (exact HKS6.out _ (by first | exact Fr.drew _ w6 | exact Fr.then (Fr.drew _ w6) (Fr.setQ _ _ _ _) | exact Fr.then (Fr.then (Fr.drew _ w6) (Fr.setQ _ _ _ _)) (Fr.setQ _ _ _ _)))
      (fail)
    go_wp2_with fail
    have hfin0 := fin9 (W := ((w6.setCell ⟨w2.heap.size, 3, none⟩ (.string T)).setCell ⟨w2.heap.size, 2, none⟩ (.string F))) HF6.out HC2.out ((Fr.setQ (w6) w2.heap.size 3 (.string T)).then (Fr.setQ ((w6.setCell ⟨w2.heap.size, 3, none⟩ (.string T))) w2.heap.size 2 (.string F))) n2 (by have := HN.out; omega) (by have := HN.out; omega) (.int .i64 9) (.string P) (.string F) (.string T) (.int .i64 A) (.slice pa' no ca') (.slice pb' nn cb')
    have hfin := And.intro (hfin0.1.kept (Fr.drew None' _)) (hfin0.2.then7 (Fr.drew None' _))
    have FW : Fr (fun k => k = w2.heap.size ∨ k = w1.heap.size) w6 _ := ((Fr.mono ((Fr.setQ (w6) w2.heap.size 3 (.string T)).then (Fr.setQ ((w6.setCell ⟨w2.heap.size, 3, none⟩ (.string T))) w2.heap.size 2 (.string F))) (fun _ e => Or.inl e)).then (Fr.setP (M := fun k => k = w2.heap.size ∨ k = w1.heap.size) ((w6.setCell ⟨w2.heap.size, 3, none⟩ (.string T)).setCell ⟨w2.heap.size, 2, none⟩ (.string F)) (Or.inr rfl) (.int .i64 9) (.string P) (.string F) (.string T) (.int .i64 A) (.slice pa' no ca') (.slice pb' nn cb'))).then (Fr.drew _ _)
    have s1 := HSS.out.1.1.fr FW (fun k e => by have := HSS.out.1.2 k e; have := HSS.out.2.2; have := HN.out; omega)
    have s2 := HSS.out.2.1.1.fr FW (fun k e => by have := HSS.out.2.1.2 k e; have := HSS.out.2.2; have := HN.out; omega)
    have g1 : ∀ k, (Value.slice pa' no ca').ownBlock = some k → w.heap.size ≤ k := fun k e => by have := HSS.out.1.2 k e; have := HSS.out.2.2; have := HN.out; omega
    have g2 : ∀ k, (Value.slice pb' nn cb').ownBlock = some k → w.heap.size ≤ k := fun k e => by have := HSS.out.2.1.2 k e; have := HSS.out.2.2; have := HN.out; omega
    exact ret_box rfl rfl rfl hfin.1 ⟨_, rfl, by rw [HI.out]; exact ⟨_, _, rfl, s1, s2, g1, g2⟩, hfin.2⟩
  by_cases h10 : K = 10
  · subst h10
    have HI : Hid (exch ⟨10, P, T, F, A, lO, lN⟩ = ⟨10, T, P, F, A, lO, lN⟩) := by show _ = _; simp [exch]
    go_wp2_with fail
    go_region_held3 (fun w' => Fr (fun k => k = w2.heap.size) w6 w' ∧ w'.cell? ⟨w.heap.size, 1, none⟩ = some (.string P) ∧ w'.cell? ⟨w.heap.size, 2, none⟩ = some (.string T) ∧ w'.cell? ⟨w.heap.size, 3, none⟩ = some (.string F))
      (exact HKS6.out _ (by first | exact Fr.drew _ w6 | exact Fr.then (Fr.drew _ w6) (Fr.setQ _ _ _ _) | exact Fr.then (Fr.then (Fr.drew _ w6) (Fr.setQ _ _ _ _)) (Fr.setQ _ _ _ _)))
      (fail)
    go_wp2_with fail
    have hfin0 := fin9 (W := ((w6.setCell ⟨w2.heap.size, 1, none⟩ (.string T)).setCell ⟨w2.heap.size, 2, none⟩ (.string P))) HF6.out HC2.out ((Fr.setQ (w6) w2.heap.size 1 (.string T)).then (Fr.setQ ((w6.setCell ⟨w2.heap.size, 1, none⟩ (.string T))) w2.heap.size 2 (.string P))) n2 (by have := HN.out; omega) (by have := HN.out; omega) (.int .i64 10) (.string T) (.string P) (.string F) (.int .i64 A) (.slice pa' no ca') (.slice pb' nn cb')
    have hfin := And.intro (hfin0.1.kept (Fr.drew None' _)) (hfin0.2.then7 (Fr.drew None' _))
    have FW : Fr (fun k => k = w2.heap.size ∨ k = w1.heap.size) w6 _ := ((Fr.mono ((Fr.setQ (w6) w2.heap.size 1 (.string T)).then (Fr.setQ ((w6.setCell ⟨w2.heap.size, 1, none⟩ (.string T))) w2.heap.size 2 (.string P))) (fun _ e => Or.inl e)).then (Fr.setP (M := fun k => k = w2.heap.size ∨ k = w1.heap.size) ((w6.setCell ⟨w2.heap.size, 1, none⟩ (.string T)).setCell ⟨w2.heap.size, 2, none⟩ (.string P)) (Or.inr rfl) (.int .i64 10) (.string T) (.string P) (.string F) (.int .i64 A) (.slice pa' no ca') (.slice pb' nn cb'))).then (Fr.drew _ _)
    have s1 := HSS.out.1.1.fr FW (fun k e => by have := HSS.out.1.2 k e; have := HSS.out.2.2; have := HN.out; omega)
    have s2 := HSS.out.2.1.1.fr FW (fun k e => by have := HSS.out.2.1.2 k e; have := HSS.out.2.2; have := HN.out; omega)
    have g1 : ∀ k, (Value.slice pa' no ca').ownBlock = some k → w.heap.size ≤ k := fun k e => by have := HSS.out.1.2 k e; have := HSS.out.2.2; have := HN.out; omega
    have g2 : ∀ k, (Value.slice pb' nn cb').ownBlock = some k → w.heap.size ≤ k := fun k e => by have := HSS.out.2.1.2 k e; have := HSS.out.2.2; have := HN.out; omega
    exact ret_box rfl rfl rfl hfin.1 ⟨_, rfl, by rw [HI.out]; exact ⟨_, _, rfl, s1, s2, g1, g2⟩, hfin.2⟩
  have HI : Hid (exch ⟨K, P, T, F, A, lO, lN⟩ = ⟨K, P, T, F, A, lO, lN⟩) := by show _ = _; unfold exch; simp only; rw [if_neg h7, if_neg (by omega), if_neg h10]
  go_wp2_with fail
  have hfin := fin9 (W := w6) HF6.out HC2.out (Fr.refl (fun k => k = w2.heap.size) _) n2 (by have := HN.out; omega) (by have := HN.out; omega) (.int .i64 K) (.string P) (.string T) (.string F) (.int .i64 A) (.slice pa' no ca') (.slice pb' nn cb')
  have FW : Fr (fun k => k = w2.heap.size ∨ k = w1.heap.size) w6 _ := ((Fr.mono (Fr.refl (fun k => k = w2.heap.size) _) (fun _ e => Or.inl e)).then (Fr.setP (M := fun k => k = w2.heap.size ∨ k = w1.heap.size) w6 (Or.inr rfl) (.int .i64 K) (.string P) (.string T) (.string F) (.int .i64 A) (.slice pa' no ca') (.slice pb' nn cb')))
  have s1 := HSS.out.1.1.fr FW (fun k e => by have := HSS.out.1.2 k e; have := HSS.out.2.2; have := HN.out; omega)
  have s2 := HSS.out.2.1.1.fr FW (fun k e => by have := HSS.out.2.1.2 k e; have := HSS.out.2.2; have := HN.out; omega)
  have g1 : ∀ k, (Value.slice pa' no ca').ownBlock = some k → w.heap.size ≤ k := fun k e => by have := HSS.out.1.2 k e; have := HSS.out.2.2; have := HN.out; omega
  have g2 : ∀ k, (Value.slice pb' nn cb').ownBlock = some k → w.heap.size ≤ k := fun k e => by have := HSS.out.2.1.2 k e; have := HSS.out.2.2; have := HN.out; omega
  exact ret_box rfl rfl rfl hfin.1 ⟨_, rfl, by rw [HI.out]; exact ⟨_, _, rfl, s1, s2, g1, g2⟩, hfin.2⟩

end Go.Proofs.YtjpgpbfnmokmiabGreatDoor

namespace Go.Proofs.YtjpgpbfnmokmiabGreatDoor
open Go.RowKit
set_option maxRecDepth 100000

def GreatP (x : Pr) (w : World) (e : Ending) (w' : World) : Prop := ∃ g, e = .returned (.bool g) ∧ (g = false → x.weight < 4000) ∧ Fr None' w w'

set_option maxHeartbeats 4000000 in
theorem pgreat_any (x : Pr) (vo vn : Value) (w : World) (ho : StrsAt w vo x.old) (hn : StrsAt w vn x.new) (lo : x.old.length ≤ 140737488355328) (ln : x.new.length ≤ 140737488355328) :
    Calls Tryz.prog 15 #[.agg #[.int .i64 x.kind, .string x.path, .string x.dst, .string x.src, .int .i64 x.pos, vo, vn]] w fun e w' => GreatP x w e w' := by
  obtain ⟨K, P, T, F, A, lO, lN⟩ := x
  simp only at ho hn lo ln ⊢
  obtain ⟨pa, ca, rfl, _, _, r1⟩ := ho
  obtain ⟨pb, cb, rfl, _, _, r2⟩ := hn
  obtain ⟨no, hno⟩ : ∃ n, lO.length = n := ⟨_, rfl⟩
  obtain ⟨nn, hnn⟩ : ∃ n, lN.length = n := ⟨_, rfl⟩
  rw [hno] at lo
  rw [hnn] at ln
  rw [hno, hnn]
  have HL : Hid (lO.length = no ∧ lN.length = nn) := ⟨hno, hnn⟩
  have HR1 : Hid (Lines.Row w pa lO) := r1
  have HR2 : Hid (Lines.Row w pb lN) := r2
  obtain ⟨w1, hw1⟩ : ∃ w1, w.alloc (.cells #[.int .i64 K, .string P, .string T, .string F, .int .i64 A, .slice pa no ca, .slice pb nn cb] 32) = w1 := ⟨_, rfl⟩
  have F1 : Fr None' w w1 := hw1 ▸ Fr.alloc None' w _
  have B1 : Box w1 w.heap.size (.int .i64 K) (.string P) (.string T) (.string F) (.int .i64 A) (.slice pa no ca) (.slice pb nn cb) := hw1 ▸ Box.new w _ _ _ _ _ _ _
  obtain ⟨a0, a1, a2, a3, a4, a5, a6⟩ := B1.cells
  have HB : Hid (Box w1 w.heap.size (.int .i64 K) (.string P) (.string T) (.string F) (.int .i64 A) (.slice pa no ca) (.slice pb nn cb)) := B1
  have HF : Hid (Fr None' w w1) := F1
  obtain ⟨mP, hmP⟩ : ∃ m : Nat, min P.size 4000 = m := ⟨_, rfl⟩
  obtain ⟨mT, hmT⟩ : ∃ m : Nat, min T.size 4000 = m := ⟨_, rfl⟩
  obtain ⟨mF, hmF⟩ : ∃ m : Nat, min F.size 4000 = m := ⟨_, rfl⟩
  have eP : (if (4000 : Int) < (P.size : Int) then (4000 : Int) else (P.size : Int)) = (mP : Int) := by split <;> omega
  have eP2 : min (P.size : Int) 4000 = (mP : Int) := by omega
  have eT : (if (4000 : Int) < (T.size : Int) then (4000 : Int) else (T.size : Int)) = (mT : Int) := by split <;> omega
  have eT2 : min (T.size : Int) 4000 = (mT : Int) := by omega
  have eF : (if (4000 : Int) < (F.size : Int) then (4000 : Int) else (F.size : Int)) = (mF : Int) := by split <;> omega
  have eF2 : min (F.size : Int) 4000 = (mF : Int) := by omega
  have HM : Hid ((mP < 4000 → mP = P.size) ∧ (mT < 4000 → mT = T.size) ∧ (mF < 4000 → mF = F.size)) := ⟨by omega, by omega, by omega⟩
  have i1 : (mP : Int) ≤ 4000 := by omega
  have i2 : (mT : Int) ≤ 4000 := by omega
  have i3 : (mF : Int) ≤ 4000 := by omega
  have i4 : (no : Int) ≤ 140737488355328 := by omega
  have i5 : (nn : Int) ≤ 140737488355328 := by omega
  have u1 : IntKind.i64.wrap ((mP : Int) + (mT : Int)) = (mP : Int) + (mT : Int) := by rw [IntKind.wrap_i64]; omega
  have u2 : IntKind.i64.wrap ((mP : Int) + (mT : Int) + (mF : Int)) = (mP : Int) + (mT : Int) + (mF : Int) := by rw [IntKind.wrap_i64]; omega
  have u3 : IntKind.i64.wrap ((mP : Int) + (mT : Int) + (mF : Int) + (no : Int)) = (mP : Int) + (mT : Int) + (mF : Int) + (no : Int) := by rw [IntKind.wrap_i64]; omega
  have u4 : IntKind.i64.wrap ((mP : Int) + (mT : Int) + (mF : Int) + (no : Int) + (nn : Int)) = ((mP + mT + mF + no + nn : Nat) : Int) := by rw [IntKind.wrap_i64]; omega
  obtain ⟨N0, hN0⟩ : ∃ N0, mP + mT + mF + no + nn = N0 := ⟨_, rfl⟩
  rw [hN0] at u4
  have i6 : (N0 : Int) ≤ 281474976730000 := by omega
  have HN0 : Hid (N0 < 4000 → N0 = P.size + T.size + F.size + no + nn) := fun h => by
    have h1 := HM.out.1 (by omega)
    have h2 := HM.out.2.1 (by omega)
    have h3 := HM.out.2.2 (by omega)
    omega
  clear hno hnn lo ln r1 r2 F1 B1 hmP hmT hmF hN0
  go_enter Tryz.func15, Tryz.ntmps15
  go_wp2_with fail
  have HK : Hid (∀ w2, Fr None' w1 w2 → w2.cell? ⟨w.heap.size, 5, none⟩ = some (.slice pa no ca) ∧ w2.cell? ⟨w.heap.size, 6, none⟩ = some (.slice pb nn cb) ∧ Lines.Row w2 pa lO ∧ Lines.Row w2 pb lN) := fun w2 f => ⟨f.keepCell a5 (fun e => e), f.keepCell a6 (fun e => e), HR1.out.fr (toLN (HF.out.then7 f)), HR2.out.fr (toLN (HF.out.then7 f))⟩
  clear u1 u2 u3 u4 eP eP2 eT eT2 eF eF2 i1 i2 i3 a0 a1 a2 a3 a4 a5 a6 HR1 HR2 hw1 HB HM
  go_loopw [3, 4] (fun vn vi w2 => ∃ q M : Nat, q ≤ no ∧ vi = .int .i64 q ∧ vn = .int .i64 M ∧ (M : Int) ≤ 281474976740000 ∧ Hid (M < 4000 → M = P.size + T.size + F.size + no + nn + ((lO.take q).map (·.size)).sum) ∧ Hid (Fr None' w1 w2)) (fun _ vi _ => no - (intOf vi).toNat)
  case atStart => exact ⟨0, N0, Nat.zero_le _, rfl, rfl, by omega, fun h => by have := HN0.out h; simpa using this, Fr.refl _ _⟩
  case round =>
    obtain ⟨q, M, hq, rfl, rfl, hM, HMM, HF2⟩ := hrel
    obtain ⟨d5, d6, hr, _⟩ := HK.out wr HF2.out
    by_cases hqt : q < no
    · by_cases hs : M < 4000
      · have hql : q < lO.length := by rw [HL.out.1]; exact hqt
        obtain ⟨gl, ol, rfl, e1⟩ := hr.get hql
        have HZ : Hid (((lO.take (q + 1)).map (·.size)).sum = ((lO.take q).map (·.size)).sum + lO[q].size) := sizes_step hql
        obtain ⟨s, hse⟩ : ∃ s, lO[q] = s := ⟨_, rfl⟩
        rw [hse] at e1 HZ
        obtain ⟨mS, hmS⟩ : ∃ m : Nat, min s.size 4000 = m := ⟨_, rfl⟩
        have eS : (if (4000 : Int) < (s.size : Int) then (4000 : Int) else (s.size : Int)) = (mS : Int) := by split <;> omega
        have eS2 : min (s.size : Int) 4000 = (mS : Int) := by omega
        have HM2 : Hid (mS < 4000 → mS = s.size) := by show _ → _; omega
        have u1 : (mS : Int) ≤ 4000 := by omega
        have u2 : (M : Int) < 4000 := by omega
        have u3 : (q : Int) < (no : Int) := by omega
        have u4 : (0 : Int) ≤ (q : Int) := by omega
        clear hse hmS hr hs hM
        go_wp2_with fail
        refine ⟨⟨q + 1, M + mS, by omega, by go_num, by go_num, by omega, fun hh => ?_, HF2.out⟩, by simp [intOf]; omega⟩
        have h1 := HMM.out (by omega)
        have h2 := HM2.out (by omega)
        rw [HZ.out]
        omega
      · have u2 : ¬ (M : Int) < 4000 := by omega
        have u3 : (q : Int) < (no : Int) := by omega
        have u5 : (4000 : Int) ≤ (M : Int) := by omega
        have HFW : Hid (Fr None' w1 wr) := HF2.out
        have HQ : Hid (M < 4000 → M = P.size + T.size + F.size + no + nn + (lO.map (·.size)).sum) := fun h => absurd h hs
        clear hr hs HMM HN0
        go_wp2_with fail
        clear d5 d6 u2 u3 u5 hqt
        go_loopw [3, 5] (fun vn vi w2 => ∃ j R : Nat, j ≤ nn ∧ vi = .int .i64 j ∧ vn = .int .i64 R ∧ (R : Int) ≤ 281474976750000 ∧ Hid (R < 4000 → R = P.size + T.size + F.size + no + nn + (lO.map (·.size)).sum + ((lN.take j).map (·.size)).sum) ∧ Hid (Fr None' w1 w2)) (fun _ vi _ => nn - (intOf vi).toNat)
        case atStart => exact ⟨0, M, Nat.zero_le _, rfl, rfl, by omega, fun h => by have := HQ.out h; simpa using this, HFW.out⟩
        case round =>
          clear HQ
          obtain ⟨j, R, hj, rfl, rfl, hR, HRR, HF3⟩ := hrel
          obtain ⟨_, d6, _, hr⟩ := HK.out wr HF3.out
          by_cases hjt : j < nn
          · by_cases hs : R < 4000
            · have hql : j < lN.length := by rw [HL.out.2]; exact hjt
              obtain ⟨gl, ol, rfl, e1⟩ := hr.get hql
              have HZ : Hid (((lN.take (j + 1)).map (·.size)).sum = ((lN.take j).map (·.size)).sum + lN[j].size) := sizes_step hql
              obtain ⟨s, hse⟩ : ∃ s, lN[j] = s := ⟨_, rfl⟩
              rw [hse] at e1 HZ
              obtain ⟨mS, hmS⟩ : ∃ m : Nat, min s.size 4000 = m := ⟨_, rfl⟩
              have eS : (if (4000 : Int) < (s.size : Int) then (4000 : Int) else (s.size : Int)) = (mS : Int) := by split <;> omega
              have eS2 : min (s.size : Int) 4000 = (mS : Int) := by omega
              have HM2 : Hid (mS < 4000 → mS = s.size) := by show _ → _; omega
              have u1 : (mS : Int) ≤ 4000 := by omega
              have u2 : (R : Int) < 4000 := by omega
              have u3 : (j : Int) < (nn : Int) := by omega
              have u4 : (0 : Int) ≤ (j : Int) := by omega
              clear hse hmS hr hs hR
              go_wp2_with fail
              refine ⟨⟨j + 1, R + mS, by omega, by go_num, by go_num, by omega, fun hh => ?_, HF3.out⟩, by simp [intOf]; omega⟩
              have h1 := HRR.out (by omega)
              have h2 := HM2.out (by omega)
              rw [HZ.out]
              omega
            · have u2 : ¬ (R : Int) < 4000 := by omega
              have u3 : (j : Int) < (nn : Int) := by omega
              have u5 : (4000 : Int) ≤ (R : Int) := by omega
              have HFX : Hid (Fr None' w wr) := HF.out.then7 HF3.out
              clear hr hs HRR
              go_wp2_with fail
              go_ret
              exact ⟨true, by first | rfl | exact ret_bool7 (by simp; omega), fun h => (by cases h), HFX.out⟩
          · have e : j = nn := by omega
            subst e
            have HFX : Hid (Fr None' w wr) := HF.out.then7 HF3.out
            by_cases hs : R < 4000
            · have HW : Hid (Pr.weight ⟨K, P, T, F, A, lO, lN⟩ < 4000) := by
                have h1 := HRR.out hs
                rw [List.take_of_length_le (by rw [HL.out.2]; exact Nat.le_refl _)] at h1
                have h2 := HL.out
                show _ < _
                unfold Pr.weight
                simp only
                omega
              have u3 : (R : Int) < 4000 := by omega
              clear hr hs hR HRR
              go_wp2_with fail
              go_ret
              exact ⟨false, by first | rfl | exact ret_bool7 (by simp; omega), fun _ => HW.out, HFX.out⟩
            · have u3 : (4000 : Int) ≤ (R : Int) := by omega
              clear hr hs hR HRR
              go_wp2_with fail
              go_ret
              exact ⟨true, by first | rfl | exact ret_bool7 (by simp; omega), fun h => (by cases h), HFX.out⟩
    · have e : q = no := by omega
      subst e
      have HQ : Hid (M < 4000 → M = P.size + T.size + F.size + q + nn + (lO.map (·.size)).sum) := fun h => by
        have h1 := HMM.out h
        rw [List.take_of_length_le (by rw [HL.out.1]; exact Nat.le_refl _)] at h1
        exact h1
      have HFW : Hid (Fr None' w1 wr) := HF2.out
      clear hr hqt HMM HN0
      go_wp2_with fail
      clear d5 d6
      go_loopw [3, 5] (fun vn vi w2 => ∃ j R : Nat, j ≤ nn ∧ vi = .int .i64 j ∧ vn = .int .i64 R ∧ (R : Int) ≤ 281474976750000 ∧ Hid (R < 4000 → R = P.size + T.size + F.size + q + nn + (lO.map (·.size)).sum + ((lN.take j).map (·.size)).sum) ∧ Hid (Fr None' w1 w2)) (fun _ vi _ => nn - (intOf vi).toNat)
      case atStart => exact ⟨0, M, Nat.zero_le _, rfl, rfl, by omega, fun h => by have := HQ.out h; simpa using this, HFW.out⟩
      case round =>
        clear HQ
        obtain ⟨j, R, hj, rfl, rfl, hR, HRR, HF3⟩ := hrel
        obtain ⟨_, d6, _, hr⟩ := HK.out wr HF3.out
        by_cases hjt : j < nn
        · by_cases hs : R < 4000
          · have hql : j < lN.length := by rw [HL.out.2]; exact hjt
            obtain ⟨gl, ol, rfl, e1⟩ := hr.get hql
            have HZ : Hid (((lN.take (j + 1)).map (·.size)).sum = ((lN.take j).map (·.size)).sum + lN[j].size) := sizes_step hql
            obtain ⟨s, hse⟩ : ∃ s, lN[j] = s := ⟨_, rfl⟩
            rw [hse] at e1 HZ
            obtain ⟨mS, hmS⟩ : ∃ m : Nat, min s.size 4000 = m := ⟨_, rfl⟩
            have eS : (if (4000 : Int) < (s.size : Int) then (4000 : Int) else (s.size : Int)) = (mS : Int) := by split <;> omega
            have eS2 : min (s.size : Int) 4000 = (mS : Int) := by omega
            have HM2 : Hid (mS < 4000 → mS = s.size) := by show _ → _; omega
            have u1 : (mS : Int) ≤ 4000 := by omega
            have u2 : (R : Int) < 4000 := by omega
            have u3 : (j : Int) < (nn : Int) := by omega
            have u4 : (0 : Int) ≤ (j : Int) := by omega
            clear hse hmS hr hs hR
            go_wp2_with fail
            refine ⟨⟨j + 1, R + mS, by omega, by go_num, by go_num, by omega, fun hh => ?_, HF3.out⟩, by simp [intOf]; omega⟩
            have h1 := HRR.out (by omega)
            have h2 := HM2.out (by omega)
            rw [HZ.out]
            omega
          · have u2 : ¬ (R : Int) < 4000 := by omega
            have u3 : (j : Int) < (nn : Int) := by omega
            have u5 : (4000 : Int) ≤ (R : Int) := by omega
            have HFX : Hid (Fr None' w wr) := HF.out.then7 HF3.out
            clear hr hs HRR
            go_wp2_with fail
            go_ret
            exact ⟨true, by first | rfl | exact ret_bool7 (by simp; omega), fun h => (by cases h), HFX.out⟩
        · have e : j = nn := by omega
          subst e
          have HFX : Hid (Fr None' w wr) := HF.out.then7 HF3.out
          by_cases hs : R < 4000
          · have HW : Hid (Pr.weight ⟨K, P, T, F, A, lO, lN⟩ < 4000) := by
              have h1 := HRR.out hs
              rw [List.take_of_length_le (by rw [HL.out.2]; exact Nat.le_refl _)] at h1
              have h2 := HL.out
              show _ < _
              unfold Pr.weight
              simp only
              omega
            have u3 : (R : Int) < 4000 := by omega
            clear hr hs hR HRR
            go_wp2_with fail
            go_ret
            exact ⟨false, by first | rfl | exact ret_bool7 (by simp; omega), fun _ => HW.out, HFX.out⟩
          · have u3 : (4000 : Int) ≤ (R : Int) := by omega
            clear hr hs hR HRR
            go_wp2_with fail
            go_ret
            exact ⟨true, by first | rfl | exact ret_bool7 (by simp; omega), fun h => (by cases h), HFX.out⟩

def GreatPs (L : List Pr) (n : Nat) (w : World) (e : Ending) (w' : World) : Prop := ∃ g, e = .returned (.bool g) ∧ (g = false → n ≤ 60 ∧ ∀ x ∈ L, x.weight < 4000) ∧ Fr None' w w'

set_option maxHeartbeats 4000000 in
theorem pgreats_any (va : Option Addr) (n c : Nat) (L : List Pr) (w : World) (hl : L.length = n) (ha : PrsAt w va L) (hs : ∀ x ∈ L, x.old.length ≤ 140737488355328 ∧ x.new.length ≤ 140737488355328) :
    Calls Tryz.prog 17 #[.slice va n c] w fun e w' => GreatPs L n w e w' := by
  have HL : Hid (L.length = n) := hl
  have HA : Hid (PrsAt w va L) := ha
  have HS : Hid (∀ x ∈ L, x.old.length ≤ 140737488355328 ∧ x.new.length ≤ 140737488355328) := hs
  clear hl ha hs
  by_cases h60 : 60 < n
  · have i0 : (60 : Int) < (n : Int) := by omega
    go_enter Tryz.func17, Tryz.ntmps17
    go_wp2_with fail
    go_ret
    exact ⟨true, rfl, fun h => (by cases h), Fr.refl _ _⟩
  have i1 : (n : Int) ≤ 60 := by omega
  clear h60
  go_enter Tryz.func17, Tryz.ntmps17
  go_wp2_with fail
  go_loopw [3] (fun vi wr => ∃ k : Nat, k ≤ n ∧ vi = .int .i64 k ∧ Hid (∀ x ∈ L.take k, x.weight < 4000) ∧ Hid (Fr None' w wr)) (fun vi _ => n - (intOf vi).toNat)
  case atStart => exact ⟨0, Nat.zero_le _, rfl, (fun x hx => by simp at hx), Fr.refl _ _⟩
  case round =>
    obtain ⟨k, hk, rfl, HW, HF⟩ := hrel
    by_cases hlt : k < n
    · have hkL : k < L.length := by rw [HL.out]; exact hlt
      obtain ⟨g, o, rfl, vo, vn, d0, d1, d2, d3, d4, d5, d6, s1, s2⟩ := (HA.out.kept HF.out).get hkL
      obtain ⟨z1, z2⟩ := HS.out _ (List.getElem_mem hkL)
      have HT : Hid (L.take (k + 1) = L.take k ++ [L[k]]) := List.take_succ_eq_append_getElem hkL
      generalize L[k] = x at d0 d1 d2 d3 d4 s1 s2 z1 z2 HT
      have cS := pgreat_any x vo vn wr s1 s2 z1 z2
      obtain ⟨pa, ca, rfl, _⟩ := s1
      obtain ⟨pb, cb, rfl, _⟩ := s2
      have HX : Hid (∀ w', GreatP x wr (.returned (.bool false)) w' → (∀ y ∈ L.take (k + 1), y.weight < 4000) ∧ Fr None' w w') := fun w' h => by
        obtain ⟨g, e, h1, h2⟩ := h
        cases e
        refine ⟨fun y hy => ?_, HF.out.then7 h2⟩
        rw [HT.out] at hy
        rcases List.mem_append.1 hy with hy | hy
        · exact HW.out y hy
        · rw [List.mem_singleton.1 hy]; exact h1 rfl
      have HY : Hid (∀ w', GreatP x wr (.returned (.bool true)) w' → Fr None' w w') := fun w' h => by
        obtain ⟨g, e, h1, h2⟩ := h
        exact HF.out.then7 h2
      have HG : Hid (∀ e w', GreatP x wr e w' → (e = .returned (.bool true) ∧ Fr None' w w') ∨ (e = .returned (.bool false) ∧ Hid (∀ y ∈ L.take (k + 1), y.weight < 4000) ∧ Fr None' w w')) := fun e w' h => by
        obtain ⟨g, e1, h1, h2⟩ := id h
        subst e1
        cases g
        · exact Or.inr ⟨rfl, HX.out w' h⟩
        · exact Or.inl ⟨rfl, HY.out w' h⟩
      obtain ⟨K, P, T, F, A, lO, lN⟩ := x
      simp only at d0 d1 d2 d3 d4 d5 d6 cS HG
      have i2 : (k : Int) < (n : Int) := by omega
      have i3 : (0 : Int) ≤ (k : Int) := by omega
      clear z1 z2 HX HY HT
      go_wp2_with fail
      with_reducible refine cS.mono ?_
      rintro e w2 h
      rcases HG.out e w2 h with ⟨rfl, f2⟩ | ⟨rfl, HW2, f2⟩
      · have HF2 : Hid (Fr None' w w2) := f2
        clear cS h f2 HG d0 d1 d2 d3 d4 d5 d6
        go_wp2_with fail
        go_ret
        exact ⟨true, rfl, fun h => (by cases h), HF2.out⟩
      · have HF2 : Hid (Fr None' w w2) := f2
        clear cS h f2 HG d0 d1 d2 d3 d4 d5 d6
        go_wp2_with fail
        exact ⟨⟨k + 1, by omega, by go_num, HW2.out, HF2.out⟩, by simp [intOf]; omega⟩
    · have e : k = n := by omega
      subst e
      have HW2 : Hid (∀ x ∈ L, x.weight < 4000) := fun x hx => HW.out x (by rw [List.take_of_length_le (by rw [HL.out]; exact Nat.le_refl _)]; exact hx)
      have HK60 : Hid (k ≤ 60) := by show _ ≤ _; omega
      go_wp2_with fail
      go_ret
      exact ⟨false, rfl, fun _ => ⟨HK60.out, HW2.out⟩, HF.out⟩

end Go.Proofs.YtjpgpbfnmokmiabGreatDoor

namespace Go.Proofs.YtjpgpbfnmokmiabGreatDoor
open Go.RowKit
set_option maxRecDepth 100000

theorem inv_none {x : Pr} (h : undo x.kind = 0) : inv x = zeroP := by
  unfold undo at h
  unfold inv
  rcases eleven x.kind with e | e | e | e | e | e | e | e | e | e | e | e | e
  all_goals first | (rw [if_neg (by omega), if_neg (by omega), if_neg (by omega), if_neg (by omega), if_neg (by omega)]; done) | (rw [e] at h; simp at h)

theorem inv_some {x : Pr} (h : ¬ undo x.kind = 0) : inv x = { exch x with kind := undo x.kind } := by
  obtain ⟨K, P, T, F, A, lO, lN⟩ := x
  simp only at h ⊢
  unfold undo at h ⊢
  unfold inv exch
  simp only
  rcases eleven K with e | e | e | e | e | e | e | e | e | e | e | e | e
  all_goals first | (exact absurd (by rw [if_neg (by omega), if_neg (by omega), if_neg (by omega)]) h) | (subst e; simp at h ⊢)

set_option maxHeartbeats 4000000 in
theorem invert_any (x : Pr) (vo vn : Value) (w : World) (ho : StrsAt w vo x.old) (hn : StrsAt w vn x.new) (lo : x.old.length ≤ 900000) (ln : x.new.length ≤ 900000) :
    Calls Tryz.prog 16 #[.agg #[.int .i64 x.kind, .string x.path, .string x.dst, .string x.src, .int .i64 x.pos, vo, vn]] w fun e w' => ∃ v, e = .returned v ∧ PrNew w w' v (inv x) ∧ Fr None' w w' := by
  have cE : Hid (∀ w', Fr None' w w' → Calls Tryz.prog 29 #[.agg #[.int .i64 x.kind, .string x.path, .string x.dst, .string x.src, .int .i64 x.pos, vo, vn]] w' fun e w'' => ∃ v, e = .returned v ∧ PrNew w' w'' v (exch x) ∧ Fr None' w' w'') := fun w' f => exch_any x vo vn w' (ho.kept f) (hn.kept f) lo ln
  have HI1 : Hid (undo x.kind = 0 → inv x = zeroP) := inv_none
  have HI2 : Hid (¬ undo x.kind = 0 → inv x = { exch x with kind := undo x.kind }) := inv_some
  generalize inv x = R at HI1 HI2 ⊢
  generalize exch x = E at HI2 cE
  obtain ⟨K, P, T, F, A, lO, lN⟩ := x
  simp only at ho hn lo ln HI1 HI2 cE ⊢
  obtain ⟨pa, ca, rfl⟩ := ho.as
  obtain ⟨pb, cb, rfl⟩ := hn.as
  generalize lO.length = no at ho hn cE
  generalize lN.length = nn at ho hn cE
  obtain ⟨w1, hw1⟩ : ∃ w1, w.alloc (.cells #[.int .i64 K, .string P, .string T, .string F, .int .i64 A, .slice pa no ca, .slice pb nn cb] 32) = w1 := ⟨_, rfl⟩
  obtain ⟨w2, hw2⟩ : ∃ w2, w1.alloc (.cells #[.int .i64 0, .string ⟨#[]⟩, .string ⟨#[]⟩, .string ⟨#[]⟩, .int .i64 0, .slice none 0 0, .slice none 0 0] 32) = w2 := ⟨_, rfl⟩
  have F1 : Fr None' w w1 := hw1 ▸ Fr.alloc None' w _
  have F2 : Fr None' w1 w2 := hw2 ▸ Fr.alloc None' w1 _
  have B1 : Box w2 w.heap.size (.int .i64 K) (.string P) (.string T) (.string F) (.int .i64 A) (.slice pa no ca) (.slice pb nn cb) := (hw1 ▸ Box.new w _ _ _ _ _ _ _ : Box w1 _ _ _ _ _ _ _ _).kept F2
  have B2 : Box w2 w1.heap.size (.int .i64 0) (.string ⟨#[]⟩) (.string ⟨#[]⟩) (.string ⟨#[]⟩) (.int .i64 0) (.slice none 0 0) (.slice none 0 0) := hw2 ▸ Box.new w1 _ _ _ _ _ _ _
  have s1 : w1.heap.size = w.heap.size + 1 := by rw [← hw1]; simp
  have HF : Hid (Fr None' w w2) := F1.then7 F2
  have HB : Hid (Box w2 w.heap.size (.int .i64 K) (.string P) (.string T) (.string F) (.int .i64 A) (.slice pa no ca) (.slice pb nn cb) ∧ Box w2 w1.heap.size (.int .i64 0) (.string ⟨#[]⟩) (.string ⟨#[]⟩) (.string ⟨#[]⟩) (.int .i64 0) (.slice none 0 0) (.slice none 0 0)) := ⟨B1, B2⟩
  have HN : Hid (w.heap.size < w1.heap.size) := by show _ < _; omega
  obtain ⟨a0, a1, a2, a3, a4, a5, a6⟩ := B1.cells
  have q1 := undoing_any K w2
  generalize undo K = U at q1 HI1 HI2
  clear ho hn lo ln F1 F2 B1 B2 s1
  go_enter Tryz.func16, Tryz.ntmps16
  go_wp2_with fail
  with_reducible refine q1.mono ?_
  rintro e w3 ⟨rfl, F3⟩
  obtain ⟨B1, B2⟩ := HB.out
  have C1 := B1.kept F3
  have C2 := B2.kept F3
  have HF3 : Hid (Fr None' w w3) := HF.out.then7 F3
  have HC2 : Hid (Box w3 w1.heap.size (.int .i64 0) (.string ⟨#[]⟩) (.string ⟨#[]⟩) (.string ⟨#[]⟩) (.int .i64 0) (.slice none 0 0) (.slice none 0 0)) := C2
  have q2 := cE.out w3 HF3.out
  obtain ⟨k0, k1, k2, k3, k4, k5, k6⟩ := C1.cells
  obtain ⟨b0, b1, b2, b3, b4, b5, b6⟩ := C2.cells
  have z2 := C2.frozen
  clear q1 F3 a0 a1 a2 a3 a4 a5 a6 B1 B2 C1 C2 HB HF cE
  by_cases hU : U = 0
  · have HR : Hid (R = zeroP) := HI1.out hU
    subst hU
    clear HI1 HI2 q2
    go_wp2_with fail
    have hfin := fin9 (W := w3) HF3.out HC2.out (Fr.refl (fun k => k = w3.heap.size) _) (by have := HC2.out.lt; omega) (by have := HN.out; omega) (by exact HF3.out.size) (.int .i64 0) (.string ⟨#[]⟩) (.string ⟨#[]⟩) (.string ⟨#[]⟩) (.int .i64 0) (.slice none 0 0) (.slice none 0 0)
    exact ret_box rfl rfl rfl hfin.1 ⟨_, rfl, by rw [HR.out]; exact ⟨_, _, rfl, ⟨none, 0, rfl, fun _ => rfl, Nat.le_refl _, Lines.Row.nil _ _⟩, ⟨none, 0, rfl, fun _ => rfl, Nat.le_refl _, Lines.Row.nil _ _⟩, (fun k e => by cases e), (fun k e => by cases e)⟩, hfin.2⟩
  · have HR : Hid (R = { E with kind := U }) := HI2.out hU
    clear HI1 HI2
    obtain ⟨EK, EP, ET, EF, EA, EO, EN⟩ := E
    simp only at q2 HR
    go_wp2_with fail
    with_reducible refine q2.mono ?_
    rintro e w4 ⟨v, rfl, ⟨vo, vn, rfl, hso, hsn, hgo, hgn⟩, F4⟩
    simp only at hso hsn
    obtain ⟨po, co, rfl⟩ := hso.as
    obtain ⟨pn, cn, rfl⟩ := hsn.as
    generalize EO.length = eo at hso hsn hgo hgn
    generalize EN.length = en at hso hsn hgo hgn
    obtain ⟨w5, hw5⟩ : ∃ w5, w4.alloc (.cells #[.int .i64 EK, .string EP, .string ET, .string EF, .int .i64 EA, .slice po eo co, .slice pn en cn] 32) = w5 := ⟨_, rfl⟩
    have F5 : Fr None' w4 w5 := hw5 ▸ Fr.alloc None' w4 _
    have C3 : Box w5 w4.heap.size (.int .i64 EK) (.string EP) (.string ET) (.string EF) (.int .i64 EA) (.slice po eo co) (.slice pn en cn) := hw5 ▸ Box.new w4 _ _ _ _ _ _ _
    have C2 := (HC2.out.kept F4).kept F5
    have HC5 : Hid (Box w5 w1.heap.size (.int .i64 0) (.string ⟨#[]⟩) (.string ⟨#[]⟩) (.string ⟨#[]⟩) (.int .i64 0) (.slice none 0 0) (.slice none 0 0)) := C2
    have HF5 : Hid (Fr None' w w5) := (HF3.out.then7 F4).then7 F5
    have HS : Hid (StrsAt w4 (.slice po eo co) EO ∧ StrsAt w4 (.slice pn en cn) EN ∧ (∀ k, (Value.slice po eo co).ownBlock = some k → w3.heap.size ≤ k) ∧ (∀ k, (Value.slice pn en cn).ownBlock = some k → w3.heap.size ≤ k) ∧ Fr None' w4 w5) := ⟨hso, hsn, hgo, hgn, F5⟩
    have n2 : ¬ w1.heap.size = w4.heap.size := by have := HC2.out.lt; have := F4.size; omega
    have HM : Hid (w.heap.size ≤ w4.heap.size) := by show _ ≤ _; have := HF3.out.size; have := F4.size; omega
    obtain ⟨d0, d1, d2, d3, d4, d5, d6⟩ := C2.cells
    obtain ⟨c0, c1, c2, c3, c4, c5, c6⟩ := C3.cells
    have z5 := C2.frozen
    have z6 := C3.frozen
    clear q2 F4 F5 C2 C3 hso hsn hgo hgn k0 k1 k2 k3 k4 k5 k6 b0 b1 b2 b3 b4 b5 b6 z2
    go_wp2_with fail
    have hfin := fin9 (W := w5.setCell ⟨w4.heap.size, 0, none⟩ (.int .i64 U)) HF5.out HC5.out (Fr.setQ w5 w4.heap.size 0 (.int .i64 U)) n2 (by have := HN.out; omega) HM.out (.int .i64 U) (.string EP) (.string ET) (.string EF) (.int .i64 EA) (.slice po eo co) (.slice pn en cn)
    have FW : Fr (fun k => k = w4.heap.size ∨ k = w1.heap.size) w5 _ := (Fr.mono (Fr.setQ w5 w4.heap.size 0 (.int .i64 U)) (fun _ e => Or.inl e)).then (Fr.setP (M := fun k => k = w4.heap.size ∨ k = w1.heap.size) (w5.setCell ⟨w4.heap.size, 0, none⟩ (.int .i64 U)) (Or.inr rfl) (.int .i64 U) (.string EP) (.string ET) (.string EF) (.int .i64 EA) (.slice po eo co) (.slice pn en cn))
    obtain ⟨t1, t2, t3, t4, t5⟩ := HS.out
    have hlt := HC2.out.lt
    have s1 := (t1.kept t5).far FW (fun hl k e => by have := t1.lt hl e; have := t3 k e; omega)
    have s2 := (t2.kept t5).far FW (fun hl k e => by have := t2.lt hl e; have := t4 k e; omega)
    exact ret_box rfl rfl rfl hfin.1 ⟨_, rfl, by rw [HR.out]; exact ⟨_, _, rfl, s1, s2, (fun k e => Nat.le_trans HF3.out.size (t3 k e)), (fun k e => Nat.le_trans HF3.out.size (t4 k e))⟩, hfin.2⟩

end Go.Proofs.YtjpgpbfnmokmiabGreatDoor
