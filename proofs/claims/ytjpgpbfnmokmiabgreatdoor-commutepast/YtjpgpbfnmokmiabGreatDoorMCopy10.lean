/-
  What is proved here: what copied hands back. Conditions: the patch lies in memory, and has at most 900000 lines.
-/
import Derived.Test.YtjpgpbfnmokmiabGreatDoorM40Eff8
import Derived.Test.YtjpgpbfnmokmiabGreatDoorMClone9
import Derived.Deep.RegionHeld3
namespace Go.Proofs.YtjpgpbfnmokmiabGreatDoor
open Go.RowKit
set_option maxRecDepth 100000

theorem StrsAt.as2 {w : World} {v : Value} {l : List ByteArray} (h : StrsAt w v l) : ∃ pa ca, v = .slice pa l.length ca := by
  obtain ⟨pa, ca, e, _⟩ := h
  exact ⟨pa, ca, e⟩

set_option maxHeartbeats 4000000 in
theorem copied_any (x : Pr) (vo vn : Value) (w : World) (ho : StrsAt w vo x.old) (hn : StrsAt w vn x.new) (lo : x.old.length ≤ 900000) (ln : x.new.length ≤ 900000) :
    Calls Tryz.prog 36 #[.agg #[.int .i64 x.kind, .string x.path, .string x.dst, .string x.src, .int .i64 x.pos, vo, vn]] w fun e w' => ∃ v, e = .returned v ∧ PrNew w w' v x ∧ Fr None' w w' := by
  obtain ⟨K, P, T, F, A, lO, lN⟩ := x
  simp only at ho hn lo ln ⊢
  obtain ⟨pa, ca, rfl⟩ := ho.as2
  obtain ⟨pb, cb, rfl⟩ := hn.as2
  obtain ⟨no, hno⟩ : ∃ n, lO.length = n := ⟨_, rfl⟩
  obtain ⟨nn, hnn⟩ : ∃ n, lN.length = n := ⟨_, rfl⟩
  rw [hno] at ho
  rw [hnn] at hn
  rw [hno, hnn]
  obtain ⟨w1, hw1⟩ : ∃ w1, w.alloc (.cells #[.int .i64 K, .string P, .string T, .string F, .int .i64 A, .slice pa no ca, .slice pb nn cb] 32) = w1 := ⟨_, rfl⟩
  obtain ⟨w2, hw2⟩ : ∃ w2, w1.alloc (.cells #[.int .i64 0, .string ⟨#[]⟩, .string ⟨#[]⟩, .string ⟨#[]⟩, .int .i64 0, .slice none 0 0, .slice none 0 0] 32) = w2 := ⟨_, rfl⟩
  have F1 : Fr None' w w1 := hw1 ▸ Fr.alloc None' w _
  have F2 : Fr None' w1 w2 := hw2 ▸ Fr.alloc None' w1 _
  have B1 : Box w2 w.heap.size (.int .i64 K) (.string P) (.string T) (.string F) (.int .i64 A) (.slice pa no ca) (.slice pb nn cb) := (hw1 ▸ Box.new w _ _ _ _ _ _ _ : Box w1 _ _ _ _ _ _ _ _).kept F2
  have B2 : Box w2 w1.heap.size (.int .i64 0) (.string ⟨#[]⟩) (.string ⟨#[]⟩) (.string ⟨#[]⟩) (.int .i64 0) (.slice none 0 0) (.slice none 0 0) := hw2 ▸ Box.new w1 _ _ _ _ _ _ _
  have s1 : w1.heap.size = w.heap.size + 1 := by rw [← hw1]; simp
  have HF : Hid (Fr None' w w2) := F1.then7 F2
  have HN : Hid (w.heap.size < w1.heap.size) := by show _ < _; omega
  have HB : Hid (∀ w', Fr None' w2 w' → Box w' w.heap.size (.int .i64 K) (.string P) (.string T) (.string F) (.int .i64 A) (.slice pa no ca) (.slice pb nn cb) ∧ Box w' w1.heap.size (.int .i64 0) (.string ⟨#[]⟩) (.string ⟨#[]⟩) (.string ⟨#[]⟩) (.int .i64 0) (.slice none 0 0) (.slice none 0 0)) := fun w' f => ⟨B1.kept f, B2.kept f⟩
  have HLn : Hid (lO.length = no ∧ lN.length = nn) := ⟨hno, hnn⟩
  have cO : ∀ w', Fr None' w2 w' → Calls Tryz.prog 40 #[.slice pa no ca] w' fun e w'' => ∃ pa' ca', e = .returned (.slice pa' no ca') ∧ Hid (StrsAt w'' (.slice pa' no ca') lO ∧ ∀ k, (Value.slice pa' no ca').ownBlock = some k → w2.heap.size ≤ k) ∧ Hid (Fr None' w2 w'') := fun w' f => by
    refine (clone_any _ lO w' ((ho.kept HF.out).kept f) (by omega)).mono ?_
    rintro e w'' ⟨v, rfl, h1, h2, h3⟩
    obtain ⟨p, c, rfl⟩ := h1.as2
    rw [HLn.out.1] at h1 h3 ⊢
    exact ⟨p, c, rfl, ⟨h1, fun k e => Nat.le_trans f.size (h3 k e)⟩, f.then7 h2⟩
  have cN : ∀ w', Fr None' w2 w' → Calls Tryz.prog 40 #[.slice pb nn cb] w' fun e w'' => ∃ pa' ca', e = .returned (.slice pa' nn ca') ∧ Hid (StrsAt w'' (.slice pa' nn ca') lN ∧ ∀ k, (Value.slice pa' nn ca').ownBlock = some k → w2.heap.size ≤ k) ∧ Hid (Fr None' w' w'') := fun w' f => by
    refine (clone_any _ lN w' ((hn.kept HF.out).kept f) (by omega)).mono ?_
    rintro e w'' ⟨v, rfl, h1, h2, h3⟩
    obtain ⟨p, c, rfl⟩ := h1.as2
    rw [HLn.out.2] at h1 h3 ⊢
    exact ⟨p, c, rfl, ⟨h1, fun k e => Nat.le_trans f.size (h3 k e)⟩, h2⟩
  have HC : Hid (∀ w', Fr None' w2 w' → w'.cell? ⟨w.heap.size, 5, none⟩ = some (.slice pa no ca) ∧ w'.cell? ⟨w.heap.size, 6, none⟩ = some (.slice pb nn cb) ∧ (∀ o, w'.frozen? ⟨w.heap.size, o, none⟩ = false)) := fun w' f => ⟨(HB.out w' f).1.cells.2.2.2.2.2.1, (HB.out w' f).1.cells.2.2.2.2.2.2, (HB.out w' f).1.frozen⟩
  obtain ⟨a5, a6, az⟩ := HC.out w2 (Fr.refl _ _)
  clear ho hn lo ln hno hnn F1 F2 B1 B2 s1
  go_enter Tryz.func36, Tryz.ntmps36
  go_wp2_with fail
  go_region_with (first
      | (go_at_call 40; with_reducible (refine (cO _ (Fr.drew _ _)).mono ?_); rintro e w4 ⟨pa', ca', rfl, HO4, H4⟩; obtain ⟨b5, b6, bz⟩ := HC.out _ (Hid.out H4))
      | (go_at_call 40; with_reducible (refine (cN _ (Hid.out H4)).mono ?_); rintro e w5 ⟨pb', cb', rfl, HN5, H5⟩; obtain ⟨d5, d6, dz⟩ := HC.out _ (Fr.then7 (Hid.out H4) (Hid.out H5))))
  all_goals
    obtain ⟨w6, hw6⟩ : ∃ y, (w5.setCell ⟨w.heap.size, 5, none⟩ (.slice pa' no ca')).setCell ⟨w.heap.size, 6, none⟩ (.slice pb' nn cb') = y := ⟨_, rfl⟩
    have F25 : Fr None' w2 w5 := H4.out.then7 H5.out
    have F56 : Fr (fun k => k = w.heap.size) w5 w6 := hw6 ▸ (Fr.setQ _ _ _ _).then (Fr.setQ _ _ _ _)
    have hn6 : ¬ w1.heap.size = w.heap.size := by have := HN.out; omega
    have C6 : Box w6 w.heap.size (.int .i64 K) (.string P) (.string T) (.string F) (.int .i64 A) (.slice pa' no ca') (.slice pb' nn cb') := hw6 ▸ ((HB.out w5 F25).1.set5 _).set6 _
    have D6 : Box w6 w1.heap.size (.int .i64 0) (.string ⟨#[]⟩) (.string ⟨#[]⟩) (.string ⟨#[]⟩) (.int .i64 0) (.slice none 0 0) (.slice none 0 0) := (HB.out w5 F25).2.fr F56 hn6
    have HFW : Hid (Fr None' w w6) := (HF.out.then7 F25).trans F56 (fun _ e => Or.inr (by omega))
    have HD6 : Hid (Box w6 w1.heap.size (.int .i64 0) (.string ⟨#[]⟩) (.string ⟨#[]⟩) (.string ⟨#[]⟩) (.int .i64 0) (.slice none 0 0) (.slice none 0 0)) := D6
    have H56 : Hid (Fr (fun k => k = w.heap.size) w5 w6) := F56
    obtain ⟨c0, c1, c2, c3, c4, c5, c6⟩ := C6.cells
    obtain ⟨e0, e1, e2, e3, e4, e5, e6⟩ := D6.cells
    have ez := D6.frozen
    rw [hw6]
    clear F25 F56 C6 D6 a5 a6 az b5 b6 bz d5 d6 dz cO cN hw6
    go_wp2_with fail
    have hfin := fin9 (W := w6) HFW.out HD6.out (Fr.refl (fun k => k = w6.heap.size) _) (by have := HD6.out.lt; omega) (by have := HN.out; omega) (by exact HFW.out.size) (.int .i64 K) (.string P) (.string T) (.string F) (.int .i64 A) (.slice pa' no ca') (.slice pb' nn cb')
    have FW : Fr (fun k => k = w.heap.size ∨ k = w1.heap.size) w5 _ := (Fr.mono H56.out (fun _ e => Or.inl e)).then (Fr.setP (M := fun k => k = w.heap.size ∨ k = w1.heap.size) w6 (Or.inr rfl) (.int .i64 K) (.string P) (.string T) (.string F) (.int .i64 A) (.slice pa' no ca') (.slice pb' nn cb'))
    have hlt := (HB.out w2 (Fr.refl _ _)).2.lt
    have t1 := (HO4.out.1.kept H5.out).far FW (fun hl k e => by have := HO4.out.2 k e; have := HN.out; omega)
    have t2 := HN5.out.1.far FW (fun hl k e => by have := HN5.out.2 k e; have := HN.out; omega)
    exact ret_box rfl rfl rfl hfin.1 ⟨_, rfl, ⟨_, _, rfl, t1, t2, (fun k e => Nat.le_trans HF.out.size (HO4.out.2 k e)), (fun k e => Nat.le_trans HF.out.size (HN5.out.2 k e))⟩, hfin.2⟩

end Go.Proofs.YtjpgpbfnmokmiabGreatDoor
