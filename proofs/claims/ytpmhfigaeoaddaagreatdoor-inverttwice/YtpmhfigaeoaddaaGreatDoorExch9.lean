/-
  What is proved here: what exchanged and Invert hand back. Conditions: the patch lies in memory, and has at most 900000 lines.
-/
import Derived.Test.YtpmhfigaeoaddaaGreatDoorClone9
import Derived.Test.YtpmhfigaeoaddaaGreatDoorKind9
import Derived.Test.YtpmhfigaeoaddaaGreatDoorBox9
import Derived.Deep.RegionHeld3
namespace Go.Proofs.YtpmhfigaeoaddaaGreatDoor
open Go.RowKit
set_option maxRecDepth 100000

/-- A patch with what its kind makes, and of what, in one another's place. -/
def exch (x : Pr) : Pr :=
  if x.kind = 7 then { x with old := x.new, new := x.old }
  else if x.kind = 8 ∨ x.kind = 9 then { x with dst := x.src, src := x.dst }
  else if x.kind = 10 then { x with path := x.dst, dst := x.path }
  else x

theorem StrsAt.as {w : World} {v : Value} {l : List ByteArray} (h : StrsAt w v l) : ∃ pa ca, v = .slice pa l.length ca := by
  obtain ⟨pa, ca, e, _⟩ := h
  exact ⟨pa, ca, e⟩

set_option maxHeartbeats 4000000 in
theorem exch_any (x : Pr) (vo vn : Value) (w : World) (ho : StrsAt w vo x.old) (hn : StrsAt w vn x.new) (lo : x.old.length ≤ 900000) (ln : x.new.length ≤ 900000) :
    Calls Tryz.prog 13 #[.agg #[.int .i64 x.kind, .string x.path, .string x.dst, .string x.src, .int .i64 x.pos, vo, vn]] w fun e w' => ∃ v, e = .returned v ∧ PrNew w w' v (exch x) ∧ Fr None' w w' := by
  obtain ⟨K, P, T, F, A, lO, lN⟩ := x
  simp only at ho hn lo ln ⊢
  obtain ⟨pa, ca, rfl⟩ := ho.as
  obtain ⟨pb, cb, rfl⟩ := hn.as
  obtain ⟨no, hno⟩ : ∃ n, lO.length = n := ⟨_, rfl⟩
  obtain ⟨nn, hnn⟩ : ∃ n, lN.length = n := ⟨_, rfl⟩
  rw [hno] at ho
  rw [hnn] at hn
  rw [hno, hnn]
  obtain ⟨w1, hw1⟩ : ∃ w1, w.alloc (.cells #[.int .i64 K, .string P, .string T, .string F, .int .i64 A, .slice pa no ca, .slice pb nn cb] 24) = w1 := ⟨_, rfl⟩
  obtain ⟨w2, hw2⟩ : ∃ w2, w1.alloc (.cells #[.int .i64 0, .string ⟨#[]⟩, .string ⟨#[]⟩, .string ⟨#[]⟩, .int .i64 0, .slice none 0 0, .slice none 0 0] 24) = w2 := ⟨_, rfl⟩
  obtain ⟨w3, hw3⟩ : ∃ w3, w2.alloc (.cells #[.int .i64 K, .string P, .string T, .string F, .int .i64 A, .slice pa no ca, .slice pb nn cb] 24) = w3 := ⟨_, rfl⟩
  have F1 : Fr None' w w1 := hw1 ▸ Fr.alloc None' w _
  have F2 : Fr None' w1 w2 := hw2 ▸ Fr.alloc None' w1 _
  have F3 : Fr None' w2 w3 := hw3 ▸ Fr.alloc None' w2 _
  have B1 : Box w3 w.heap.size (.int .i64 K) (.string P) (.string T) (.string F) (.int .i64 A) (.slice pa no ca) (.slice pb nn cb) := ((hw1 ▸ Box.new w _ _ _ _ _ _ _ : Box w1 _ _ _ _ _ _ _ _).kept F2).kept F3
  have B2 : Box w3 w1.heap.size (.int .i64 0) (.string ⟨#[]⟩) (.string ⟨#[]⟩) (.string ⟨#[]⟩) (.int .i64 0) (.slice none 0 0) (.slice none 0 0) := (hw2 ▸ Box.new w1 _ _ _ _ _ _ _ : Box w2 _ _ _ _ _ _ _ _).kept F3
  have B3 : Box w3 w2.heap.size (.int .i64 K) (.string P) (.string T) (.string F) (.int .i64 A) (.slice pa no ca) (.slice pb nn cb) := hw3 ▸ Box.new w2 _ _ _ _ _ _ _
  obtain ⟨p0, p1, p2, p3, p4, p5, p6⟩ := (((hw1 ▸ Box.new w _ _ _ _ _ _ _ : Box w1 w.heap.size (.int .i64 K) (.string P) (.string T) (.string F) (.int .i64 A) (.slice pa no ca) (.slice pb nn cb))).kept F2).cells
  have s1 : w1.heap.size = w.heap.size + 1 := by rw [← hw1]; simp
  have s2 : w2.heap.size = w1.heap.size + 1 := by rw [← hw2]; simp
  have HF : Hid (Fr None' w w3) := (F1.then7 F2).then7 F3
  have HB : Hid (Box w3 w.heap.size (.int .i64 K) (.string P) (.string T) (.string F) (.int .i64 A) (.slice pa no ca) (.slice pb nn cb) ∧ Box w3 w1.heap.size (.int .i64 0) (.string ⟨#[]⟩) (.string ⟨#[]⟩) (.string ⟨#[]⟩) (.int .i64 0) (.slice none 0 0) (.slice none 0 0) ∧ Box w3 w2.heap.size (.int .i64 K) (.string P) (.string T) (.string F) (.int .i64 A) (.slice pa no ca) (.slice pb nn cb)) := ⟨B1, B2, B3⟩
  have HN : Hid (w.heap.size < w1.heap.size ∧ w1.heap.size < w2.heap.size) := ⟨by omega, by omega⟩
  have HLn : Hid (lO.length = no ∧ lN.length = nn) := ⟨hno, hnn⟩
  have cO : ∀ w', Fr None' w3 w' → Calls Tryz.prog 18 #[.slice pa no ca] w' fun e w'' => ∃ pa' ca', e = .returned (.slice pa' no ca') ∧ Hid (StrsAt w'' (.slice pa' no ca') lO ∧ ∀ k, (Value.slice pa' no ca').ownBlock = some k → w3.heap.size ≤ k) ∧ Hid (Fr None' w3 w'') := fun w' f => by
    refine (clone_any _ lO w' ((ho.kept HF.out).kept f) (by omega)).mono ?_
    rintro e w'' ⟨v, rfl, h1, h2, h3⟩
    obtain ⟨p, c, rfl⟩ := h1.as
    rw [HLn.out.1] at h1 h3 ⊢
    exact ⟨p, c, rfl, ⟨h1, fun k e => Nat.le_trans f.size (h3 k e)⟩, f.then7 h2⟩
  have cN : ∀ w', Fr None' w3 w' → Calls Tryz.prog 18 #[.slice pb nn cb] w' fun e w'' => ∃ pa' ca', e = .returned (.slice pa' nn ca') ∧ Hid (StrsAt w'' (.slice pa' nn ca') lN ∧ ∀ k, (Value.slice pa' nn ca').ownBlock = some k → w3.heap.size ≤ k) ∧ Hid (Fr None' w' w'') := fun w' f => by
    refine (clone_any _ lN w' ((hn.kept HF.out).kept f) (by omega)).mono ?_
    rintro e w'' ⟨v, rfl, h1, h2, h3⟩
    obtain ⟨p, c, rfl⟩ := h1.as
    rw [HLn.out.2] at h1 h3 ⊢
    exact ⟨p, c, rfl, ⟨h1, fun k e => Nat.le_trans f.size (h3 k e)⟩, h2⟩
  have HKS : Hid (∀ w', Fr (fun k => k = w2.heap.size) w3 w' → Fr (fun k => k = w2.heap.size) w3 w' ∧ w'.cell? ⟨w.heap.size, 5, none⟩ = some (.slice pa no ca) ∧ w'.cell? ⟨w.heap.size, 6, none⟩ = some (.slice pb nn cb)) := fun w' f => by
    have hne : ¬ w.heap.size = w2.heap.size := by omega
    obtain ⟨_, _, _, _, _, h5, h6⟩ := (B1.fr f hne).cells
    exact ⟨f, h5, h6⟩
  have HKQ : Hid (∀ w', Fr None' w3 w' → (∀ o, w'.frozen? ⟨w2.heap.size, o, none⟩ = false) ∧ w'.cell? ⟨w2.heap.size, 5, none⟩ = some (.slice pa no ca) ∧ w'.cell? ⟨w2.heap.size, 6, none⟩ = some (.slice pb nn cb)) := fun w' f => by
    obtain ⟨_, _, _, _, _, h5, h6⟩ := (B3.kept f).cells
    exact ⟨(B3.kept f).frozen, h5, h6⟩
  clear ho hn lo ln hno hnn F1 F2 F3 B1 B2 B3 s1 s2
  go_enter Tryz.func13, Tryz.ntmps13
  go_wp2_with fail
  go_region_held3 (fun w' => Fr (fun k => k = w2.heap.size) w3 w' ∧ w'.cell? ⟨w.heap.size, 5, none⟩ = some (.slice pa no ca) ∧ w'.cell? ⟨w.heap.size, 6, none⟩ = some (.slice pb nn cb))
    (exact HKS.out _ (by first | exact Fr.drew _ w3 | exact Fr.any (Hid.out ‹_›) | exact Fr.any (Fr.then7 (Hid.out ‹_›) (Hid.out ‹_›)) | exact Fr.then (Fr.any (Fr.then7 H4.out H5.out)) (Fr.setQ _ _ _ _) | exact Fr.then (Fr.then (Fr.any (Fr.then7 H4.out H5.out)) (Fr.setQ _ _ _ _)) (Fr.setQ _ _ _ _)))
    (first
      | (go_at_call 18; with_reducible (refine (cO _ (Fr.drew _ _)).mono ?_); rintro e w4 ⟨pa', ca', rfl, HO4, H4⟩)
      | (go_at_call 18; with_reducible (refine (cN _ H4.out).mono ?_); rintro e w5 ⟨pb', cb', rfl, HN5, H5⟩; obtain ⟨z5, k5, k6⟩ := HKQ.out _ (Fr.then7 H4.out H5.out)))
  obtain ⟨w6, hw6⟩ : ∃ x, (w5.setCell ⟨w2.heap.size, 5, none⟩ (.slice pa' no ca')).setCell ⟨w2.heap.size, 6, none⟩ (.slice pb' nn cb') = x := ⟨_, rfl⟩
  have F35 : Fr None' w3 w5 := H4.out.then7 H5.out
  have F56 : Fr (fun k => k = w2.heap.size) w5 w6 := hw6 ▸ (Fr.setQ _ _ _ _).then (Fr.setQ _ _ _ _)
  obtain ⟨B1, B2, B3⟩ := HB.out
  have n1 : ¬ w.heap.size = w2.heap.size := by have := HN.out; omega
  have n2 : ¬ w1.heap.size = w2.heap.size := by have := HN.out; omega
  have n4 : ¬ w2.heap.size = w1.heap.size := by have := HN.out; omega
  have C1 := (B1.kept F35).fr F56 n1
  have C2 := (B2.kept F35).fr F56 n2
  have C3 : Box w6 w2.heap.size (.int .i64 K) (.string P) (.string T) (.string F) (.int .i64 A) (.slice pa' no ca') (.slice pb' nn cb') := by
    rw [← hw6]
    exact ((B3.kept F35).set5 _).set6 _
  have hlt : w2.heap.size < w3.heap.size := B3.lt
  have S1 : StrsAt w6 (.slice pa' no ca') lO := (HO4.out.1.kept H5.out).fr F56 (fun k e => by have := HO4.out.2 k e; omega)
  have S2 : StrsAt w6 (.slice pb' nn cb') lN := HN5.out.1.fr F56 (fun k e => by have := HN5.out.2 k e; omega)
  have HSS : Hid ((StrsAt w6 (.slice pa' no ca') lO ∧ ∀ k, (Value.slice pa' no ca').ownBlock = some k → w3.heap.size ≤ k) ∧ (StrsAt w6 (.slice pb' nn cb') lN ∧ ∀ k, (Value.slice pb' nn cb').ownBlock = some k → w3.heap.size ≤ k) ∧ w2.heap.size < w3.heap.size) := ⟨⟨S1, HO4.out.2⟩, ⟨S2, HN5.out.2⟩, hlt⟩
  have HF6 : Hid (Fr None' w w6) := (HF.out.then7 F35).trans F56 (fun _ e => Or.inr (by have := HN.out; omega))
  have HC2 : Hid (Box w6 w1.heap.size (.int .i64 0) (.string ⟨#[]⟩) (.string ⟨#[]⟩) (.string ⟨#[]⟩) (.int .i64 0) (.slice none 0 0) (.slice none 0 0)) := C2
  obtain ⟨a0, a1, a2, a3, a4, a5, a6⟩ := C1.cells
  have HKS6 : Hid (∀ w', Fr (fun k => k = w2.heap.size) w6 w' → Fr (fun k => k = w2.heap.size) w6 w' ∧ w'.cell? ⟨w.heap.size, 1, none⟩ = some (.string P) ∧ w'.cell? ⟨w.heap.size, 2, none⟩ = some (.string T) ∧ w'.cell? ⟨w.heap.size, 3, none⟩ = some (.string F)) := fun w' f => by
    obtain ⟨_, h1, h2, h3, _⟩ := (C1.fr f n1).cells
    exact ⟨f, h1, h2, h3⟩
  obtain ⟨b0, b1, b2, b3, b4, b5, b6⟩ := C2.cells
  obtain ⟨c0, c1, c2, c3, c4, c5, c6⟩ := C3.cells
  have z2 := C2.frozen
  have z3 := C3.frozen
  rw [hw6]
  clear hw6 F35 F56 B1 B2 B3 C1 C2 C3 hlt S1 S2 HO4 HN5 H4 H5 z5 k5 k6 HKQ HKS cO cN HB HF hw1 hw2 hw3 p0 p1 p2 p3 p4 p5 p6
  by_cases h7 : K = 7
  · subst h7
    have HI : Hid (exch ⟨7, P, T, F, A, lO, lN⟩ = ⟨7, P, T, F, A, lN, lO⟩) := by show _ = _; simp [exch]
    go_wp2_with fail
    have hfin := fin9 (W := ((w6.setCell ⟨w2.heap.size, 5, none⟩ (.slice pb' nn cb')).setCell ⟨w2.heap.size, 6, none⟩ (.slice pa' no ca'))) HF6.out HC2.out ((Fr.setQ (w6) w2.heap.size 5 (.slice pb' nn cb')).then (Fr.setQ ((w6.setCell ⟨w2.heap.size, 5, none⟩ (.slice pb' nn cb'))) w2.heap.size 6 (.slice pa' no ca'))) n2 (by have := HN.out; omega) (by have := HN.out; omega) (.int .i64 7) (.string P) (.string T) (.string F) (.int .i64 A) (.slice pb' nn cb') (.slice pa' no ca')
    have FW : Fr (fun k => k = w2.heap.size ∨ k = w1.heap.size) w6 _ := ((Fr.mono ((Fr.setQ (w6) w2.heap.size 5 (.slice pb' nn cb')).then (Fr.setQ ((w6.setCell ⟨w2.heap.size, 5, none⟩ (.slice pb' nn cb'))) w2.heap.size 6 (.slice pa' no ca'))) (fun _ e => Or.inl e)).then (Fr.setP (M := fun k => k = w2.heap.size ∨ k = w1.heap.size) ((w6.setCell ⟨w2.heap.size, 5, none⟩ (.slice pb' nn cb')).setCell ⟨w2.heap.size, 6, none⟩ (.slice pa' no ca')) (Or.inr rfl) (.int .i64 7) (.string P) (.string T) (.string F) (.int .i64 A) (.slice pb' nn cb') (.slice pa' no ca')))
    have s1 := HSS.out.1.1.fr FW (fun k e => by have := HSS.out.1.2 k e; have := HSS.out.2.2; have := HN.out; omega)
    have s2 := HSS.out.2.1.1.fr FW (fun k e => by have := HSS.out.2.1.2 k e; have := HSS.out.2.2; have := HN.out; omega)
    have g1 : ∀ k, (Value.slice pa' no ca').ownBlock = some k → w.heap.size ≤ k := fun k e => by have := HSS.out.1.2 k e; have := HSS.out.2.2; have := HN.out; omega
    have g2 : ∀ k, (Value.slice pb' nn cb').ownBlock = some k → w.heap.size ≤ k := fun k e => by have := HSS.out.2.1.2 k e; have := HSS.out.2.2; have := HN.out; omega
    exact ret_box rfl rfl rfl hfin.1 ⟨_, rfl, by rw [HI.out]; exact ⟨_, _, rfl, s2, s1, g2, g1⟩, hfin.2⟩
  by_cases h8 : K = 8
  · subst h8
    have HI : Hid (exch ⟨8, P, T, F, A, lO, lN⟩ = ⟨8, P, F, T, A, lO, lN⟩) := by show _ = _; simp [exch]
    go_wp2_with fail
    go_region_held3 (fun w' => Fr (fun k => k = w2.heap.size) w6 w' ∧ w'.cell? ⟨w.heap.size, 1, none⟩ = some (.string P) ∧ w'.cell? ⟨w.heap.size, 2, none⟩ = some (.string T) ∧ w'.cell? ⟨w.heap.size, 3, none⟩ = some (.string F))
      (exact HKS6.out _ (by first | exact Fr.drew _ w6 | exact Fr.then (Fr.drew _ w6) (Fr.setQ _ _ _ _) | exact Fr.then (Fr.then (Fr.drew _ w6) (Fr.setQ _ _ _ _)) (Fr.setQ _ _ _ _)))
      (fail)
    go_wp2_with fail
    have hfin0 := fin9 (W := ((w6.setCell ⟨w2.heap.size, 3, none⟩ (.string T)).setCell ⟨w2.heap.size, 2, none⟩ (.string F))) HF6.out HC2.out ((Fr.setQ (w6) w2.heap.size 3 (.string T)).then (Fr.setQ ((w6.setCell ⟨w2.heap.size, 3, none⟩ (.string T))) w2.heap.size 2 (.string F))) n2 (by have := HN.out; omega) (by have := HN.out; omega) (.int .i64 8) (.string P) (.string F) (.string T) (.int .i64 A) (.slice pa' no ca') (.slice pb' nn cb')
    have hfin := And.intro (hfin0.1.kept (Fr.drew None' _)) (hfin0.2.then7 (Fr.drew None' _))
    have FW : Fr (fun k => k = w2.heap.size ∨ k = w1.heap.size) w6 _ := ((Fr.mono ((Fr.setQ (w6) w2.heap.size 3 (.string T)).then (Fr.setQ ((w6.setCell ⟨w2.heap.size, 3, none⟩ (.string T))) w2.heap.size 2 (.string F))) (fun _ e => Or.inl e)).then (Fr.setP (M := fun k => k = w2.heap.size ∨ k = w1.heap.size) ((w6.setCell ⟨w2.heap.size, 3, none⟩ (.string T)).setCell ⟨w2.heap.size, 2, none⟩ (.string F)) (Or.inr rfl) (.int .i64 8) (.string P) (.string F) (.string T) (.int .i64 A) (.slice pa' no ca') (.slice pb' nn cb'))).then (Fr.drew _ _)
    have s1 := HSS.out.1.1.fr FW (fun k e => by have := HSS.out.1.2 k e; have := HSS.out.2.2; have := HN.out; omega)
    have s2 := HSS.out.2.1.1.fr FW (fun k e => by have := HSS.out.2.1.2 k e; have := HSS.out.2.2; have := HN.out; omega)
    have g1 : ∀ k, (Value.slice pa' no ca').ownBlock = some k → w.heap.size ≤ k := fun k e => by have := HSS.out.1.2 k e; have := HSS.out.2.2; have := HN.out; omega
    have g2 : ∀ k, (Value.slice pb' nn cb').ownBlock = some k → w.heap.size ≤ k := fun k e => by have := HSS.out.2.1.2 k e; have := HSS.out.2.2; have := HN.out; omega
    exact ret_box rfl rfl rfl hfin.1 ⟨_, rfl, by rw [HI.out]; exact ⟨_, _, rfl, s1, s2, g1, g2⟩, hfin.2⟩
  by_cases h9 : K = 9
  · subst h9
    have HI : Hid (exch ⟨9, P, T, F, A, lO, lN⟩ = ⟨9, P, F, T, A, lO, lN⟩) := by show _ = _; simp [exch]
    go_wp2_with fail
    go_region_held3 (fun w' => Fr (fun k => k = w2.heap.size) w6 w' ∧ w'.cell? ⟨w.heap.size, 1, none⟩ = some (.string P) ∧ w'.cell? ⟨w.heap.size, 2, none⟩ = some (.string T) ∧ w'.cell? ⟨w.heap.size, 3, none⟩ = some (.string F))
      (exact HKS6.out _ (by first | exact Fr.drew _ w6 | exact Fr.then (Fr.drew _ w6) (Fr.setQ _ _ _ _) | exact Fr.then (Fr.then (Fr.drew _ w6) (Fr.setQ _ _ _ _)) (Fr.setQ _ _ _ _)))
      (fail)
    go_wp2_with fail
    have hfin0 := fin9 (W := ((w6.setCell ⟨w2.heap.size, 3, none⟩ (.string T)).setCell ⟨w2.heap.size, 2, none⟩ (.string F))) HF6.out HC2.out ((Fr.setQ (w6) w2.heap.size 3 (.string T)).then (Fr.setQ ((w6.setCell ⟨w2.heap.size, 3, none⟩ (.string T))) w2.heap.size 2 (.string F))) n2 (by have := HN.out; omega) (by have := HN.out; omega) (.int .i64 9) (.string P) (.string F) (.string T) (.int .i64 A) (.slice pa' no ca') (.slice pb' nn cb')
    have hfin := And.intro (hfin0.1.kept (Fr.drew None' _)) (hfin0.2.then7 (Fr.drew None' _))
    have FW : Fr (fun k => k = w2.heap.size ∨ k = w1.heap.size) w6 _ := ((Fr.mono ((Fr.setQ (w6) w2.heap.size 3 (.string T)).then (Fr.setQ ((w6.setCell ⟨w2.heap.size, 3, none⟩ (.string T))) w2.heap.size 2 (.string F))) (fun _ e => Or.inl e)).then (Fr.setP (M := fun k => k = w2.heap.size ∨ k = w1.heap.size) ((w6.setCell ⟨w2.heap.size, 3, none⟩ (.string T)).setCell ⟨w2.heap.size, 2, none⟩ (.string F)) (Or.inr rfl) (.int .i64 9) (.string P) (.string F) (.string T) (.int .i64 A) (.slice pa' no ca') (.slice pb' nn cb'))).then (Fr.drew _ _)
    have s1 := HSS.out.1.1.fr FW (fun k e => by have := HSS.out.1.2 k e; have := HSS.out.2.2; have := HN.out; omega)
    have s2 := HSS.out.2.1.1.fr FW (fun k e => by have := HSS.out.2.1.2 k e; have := HSS.out.2.2; have := HN.out; omega)
    have g1 : ∀ k, (Value.slice pa' no ca').ownBlock = some k → w.heap.size ≤ k := fun k e => by have := HSS.out.1.2 k e; have := HSS.out.2.2; have := HN.out; omega
    have g2 : ∀ k, (Value.slice pb' nn cb').ownBlock = some k → w.heap.size ≤ k := fun k e => by have := HSS.out.2.1.2 k e; have := HSS.out.2.2; have := HN.out; omega
    exact ret_box rfl rfl rfl hfin.1 ⟨_, rfl, by rw [HI.out]; exact ⟨_, _, rfl, s1, s2, g1, g2⟩, hfin.2⟩
  by_cases h10 : K = 10
  · subst h10
    have HI : Hid (exch ⟨10, P, T, F, A, lO, lN⟩ = ⟨10, T, P, F, A, lO, lN⟩) := by show _ = _; simp [exch]
    go_wp2_with fail
    go_region_held3 (fun w' => Fr (fun k => k = w2.heap.size) w6 w' ∧ w'.cell? ⟨w.heap.size, 1, none⟩ = some (.string P) ∧ w'.cell? ⟨w.heap.size, 2, none⟩ = some (.string T) ∧ w'.cell? ⟨w.heap.size, 3, none⟩ = some (.string F))
      (exact HKS6.out _ (by first | exact Fr.drew _ w6 | exact Fr.then (Fr.drew _ w6) (Fr.setQ _ _ _ _) | exact Fr.then (Fr.then (Fr.drew _ w6) (Fr.setQ _ _ _ _)) (Fr.setQ _ _ _ _)))
      (fail)
    go_wp2_with fail
    have hfin0 := fin9 (W := ((w6.setCell ⟨w2.heap.size, 1, none⟩ (.string T)).setCell ⟨w2.heap.size, 2, none⟩ (.string P))) HF6.out HC2.out ((Fr.setQ (w6) w2.heap.size 1 (.string T)).then (Fr.setQ ((w6.setCell ⟨w2.heap.size, 1, none⟩ (.string T))) w2.heap.size 2 (.string P))) n2 (by have := HN.out; omega) (by have := HN.out; omega) (.int .i64 10) (.string T) (.string P) (.string F) (.int .i64 A) (.slice pa' no ca') (.slice pb' nn cb')
    have hfin := And.intro (hfin0.1.kept (Fr.drew None' _)) (hfin0.2.then7 (Fr.drew None' _))
    have FW : Fr (fun k => k = w2.heap.size ∨ k = w1.heap.size) w6 _ := ((Fr.mono ((Fr.setQ (w6) w2.heap.size 1 (.string T)).then (Fr.setQ ((w6.setCell ⟨w2.heap.size, 1, none⟩ (.string T))) w2.heap.size 2 (.string P))) (fun _ e => Or.inl e)).then (Fr.setP (M := fun k => k = w2.heap.size ∨ k = w1.heap.size) ((w6.setCell ⟨w2.heap.size, 1, none⟩ (.string T)).setCell ⟨w2.heap.size, 2, none⟩ (.string P)) (Or.inr rfl) (.int .i64 10) (.string T) (.string P) (.string F) (.int .i64 A) (.slice pa' no ca') (.slice pb' nn cb'))).then (Fr.drew _ _)
    have s1 := HSS.out.1.1.fr FW (fun k e => by have := HSS.out.1.2 k e; have := HSS.out.2.2; have := HN.out; omega)
    have s2 := HSS.out.2.1.1.fr FW (fun k e => by have := HSS.out.2.1.2 k e; have := HSS.out.2.2; have := HN.out; omega)
    have g1 : ∀ k, (Value.slice pa' no ca').ownBlock = some k → w.heap.size ≤ k := fun k e => by have := HSS.out.1.2 k e; have := HSS.out.2.2; have := HN.out; omega
    have g2 : ∀ k, (Value.slice pb' nn cb').ownBlock = some k → w.heap.size ≤ k := fun k e => by have := HSS.out.2.1.2 k e; have := HSS.out.2.2; have := HN.out; omega
    exact ret_box rfl rfl rfl hfin.1 ⟨_, rfl, by rw [HI.out]; exact ⟨_, _, rfl, s1, s2, g1, g2⟩, hfin.2⟩
  have HI : Hid (exch ⟨K, P, T, F, A, lO, lN⟩ = ⟨K, P, T, F, A, lO, lN⟩) := by show _ = _; unfold exch; simp only; rw [if_neg h7, if_neg (by omega), if_neg h10]
  go_wp2_with fail
  have hfin := fin9 (W := w6) HF6.out HC2.out (Fr.refl (fun k => k = w2.heap.size) _) n2 (by have := HN.out; omega) (by have := HN.out; omega) (.int .i64 K) (.string P) (.string T) (.string F) (.int .i64 A) (.slice pa' no ca') (.slice pb' nn cb')
  have FW : Fr (fun k => k = w2.heap.size ∨ k = w1.heap.size) w6 _ := ((Fr.mono (Fr.refl (fun k => k = w2.heap.size) _) (fun _ e => Or.inl e)).then (Fr.setP (M := fun k => k = w2.heap.size ∨ k = w1.heap.size) w6 (Or.inr rfl) (.int .i64 K) (.string P) (.string T) (.string F) (.int .i64 A) (.slice pa' no ca') (.slice pb' nn cb')))
  have s1 := HSS.out.1.1.fr FW (fun k e => by have := HSS.out.1.2 k e; have := HSS.out.2.2; have := HN.out; omega)
  have s2 := HSS.out.2.1.1.fr FW (fun k e => by have := HSS.out.2.1.2 k e; have := HSS.out.2.2; have := HN.out; omega)
  have g1 : ∀ k, (Value.slice pa' no ca').ownBlock = some k → w.heap.size ≤ k := fun k e => by have := HSS.out.1.2 k e; have := HSS.out.2.2; have := HN.out; omega
  have g2 : ∀ k, (Value.slice pb' nn cb').ownBlock = some k → w.heap.size ≤ k := fun k e => by have := HSS.out.2.1.2 k e; have := HSS.out.2.2; have := HN.out; omega
  exact ret_box rfl rfl rfl hfin.1 ⟨_, rfl, by rw [HI.out]; exact ⟨_, _, rfl, s1, s2, g1, g2⟩, hfin.2⟩

end Go.Proofs.YtpmhfigaeoaddaaGreatDoor
