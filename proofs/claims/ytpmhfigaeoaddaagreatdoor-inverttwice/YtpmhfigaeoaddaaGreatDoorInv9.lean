/-
  What is proved here: what Invert hands back. Conditions: the patch lies in memory, and has at most 900000 lines.
-/
import Derived.Test.YtpmhfigaeoaddaaGreatDoorExch9
namespace Go.Proofs.YtpmhfigaeoaddaaGreatDoor
open Go.RowKit
set_option maxRecDepth 100000

theorem inv_none {x : Pr} (h : undo x.kind = 0) : inv x = zeroP := by
  unfold undo at h
  unfold inv
  rcases eleven x.kind with e | e | e | e | e | e | e | e | e | e | e | e | e
  all_goals first | (rw [if_neg (by omega), if_neg (by omega), if_neg (by omega), if_neg (by omega), if_neg (by omega)]; done) | (rw [e] at h; simp at h)

theorem inv_some {x : Pr} (h : ¬ undo x.kind = 0) : inv x = { exch x with kind := undo x.kind } := by
  obtain ⟨K, P, T, F, A, lO, lN⟩ := x
  simp only at h ⊢
  unfold undo at h ⊢
  unfold inv exch
  simp only
  rcases eleven K with e | e | e | e | e | e | e | e | e | e | e | e | e
  all_goals first | (exact absurd (by rw [if_neg (by omega), if_neg (by omega), if_neg (by omega)]) h) | (subst e; simp at h ⊢)

set_option maxHeartbeats 4000000 in
theorem invert_any (x : Pr) (vo vn : Value) (w : World) (ho : StrsAt w vo x.old) (hn : StrsAt w vn x.new) (lo : x.old.length ≤ 900000) (ln : x.new.length ≤ 900000) :
    Calls Tryz.prog 7 #[.agg #[.int .i64 x.kind, .string x.path, .string x.dst, .string x.src, .int .i64 x.pos, vo, vn]] w fun e w' => ∃ v, e = .returned v ∧ PrNew w w' v (inv x) ∧ Fr None' w w' := by
  have cE : Hid (∀ w', Fr None' w w' → Calls Tryz.prog 13 #[.agg #[.int .i64 x.kind, .string x.path, .string x.dst, .string x.src, .int .i64 x.pos, vo, vn]] w' fun e w'' => ∃ v, e = .returned v ∧ PrNew w' w'' v (exch x) ∧ Fr None' w' w'') := fun w' f => exch_any x vo vn w' (ho.kept f) (hn.kept f) lo ln
  have HI1 : Hid (undo x.kind = 0 → inv x = zeroP) := inv_none
  have HI2 : Hid (¬ undo x.kind = 0 → inv x = { exch x with kind := undo x.kind }) := inv_some
  generalize inv x = R at HI1 HI2 ⊢
  generalize exch x = E at HI2 cE
  obtain ⟨K, P, T, F, A, lO, lN⟩ := x
  simp only at ho hn lo ln HI1 HI2 cE ⊢
  obtain ⟨pa, ca, rfl⟩ := ho.as
  obtain ⟨pb, cb, rfl⟩ := hn.as
  generalize lO.length = no at ho hn cE
  generalize lN.length = nn at ho hn cE
  obtain ⟨w1, hw1⟩ : ∃ w1, w.alloc (.cells #[.int .i64 K, .string P, .string T, .string F, .int .i64 A, .slice pa no ca, .slice pb nn cb] 24) = w1 := ⟨_, rfl⟩
  obtain ⟨w2, hw2⟩ : ∃ w2, w1.alloc (.cells #[.int .i64 0, .string ⟨#[]⟩, .string ⟨#[]⟩, .string ⟨#[]⟩, .int .i64 0, .slice none 0 0, .slice none 0 0] 24) = w2 := ⟨_, rfl⟩
  have F1 : Fr None' w w1 := hw1 ▸ Fr.alloc None' w _
  have F2 : Fr None' w1 w2 := hw2 ▸ Fr.alloc None' w1 _
  have B1 : Box w2 w.heap.size (.int .i64 K) (.string P) (.string T) (.string F) (.int .i64 A) (.slice pa no ca) (.slice pb nn cb) := (hw1 ▸ Box.new w _ _ _ _ _ _ _ : Box w1 _ _ _ _ _ _ _ _).kept F2
  have B2 : Box w2 w1.heap.size (.int .i64 0) (.string ⟨#[]⟩) (.string ⟨#[]⟩) (.string ⟨#[]⟩) (.int .i64 0) (.slice none 0 0) (.slice none 0 0) := hw2 ▸ Box.new w1 _ _ _ _ _ _ _
  have s1 : w1.heap.size = w.heap.size + 1 := by rw [← hw1]; simp
  have HF : Hid (Fr None' w w2) := F1.then7 F2
  have HB : Hid (Box w2 w.heap.size (.int .i64 K) (.string P) (.string T) (.string F) (.int .i64 A) (.slice pa no ca) (.slice pb nn cb) ∧ Box w2 w1.heap.size (.int .i64 0) (.string ⟨#[]⟩) (.string ⟨#[]⟩) (.string ⟨#[]⟩) (.int .i64 0) (.slice none 0 0) (.slice none 0 0)) := ⟨B1, B2⟩
  have HN : Hid (w.heap.size < w1.heap.size) := by show _ < _; omega
  obtain ⟨a0, a1, a2, a3, a4, a5, a6⟩ := B1.cells
  have q1 := undoing_any K w2
  generalize undo K = U at q1 HI1 HI2
  clear ho hn lo ln F1 F2 B1 B2 s1
  go_enter Tryz.func7, Tryz.ntmps7
  go_wp2_with fail
  with_reducible refine q1.mono ?_
  rintro e w3 ⟨rfl, F3⟩
  obtain ⟨B1, B2⟩ := HB.out
  have C1 := B1.kept F3
  have C2 := B2.kept F3
  have HF3 : Hid (Fr None' w w3) := HF.out.then7 F3
  have HC2 : Hid (Box w3 w1.heap.size (.int .i64 0) (.string ⟨#[]⟩) (.string ⟨#[]⟩) (.string ⟨#[]⟩) (.int .i64 0) (.slice none 0 0) (.slice none 0 0)) := C2
  have q2 := cE.out w3 HF3.out
  obtain ⟨k0, k1, k2, k3, k4, k5, k6⟩ := C1.cells
  obtain ⟨b0, b1, b2, b3, b4, b5, b6⟩ := C2.cells
  have z2 := C2.frozen
  clear q1 F3 a0 a1 a2 a3 a4 a5 a6 B1 B2 C1 C2 HB HF cE
  by_cases hU : U = 0
  · have HR : Hid (R = zeroP) := HI1.out hU
    subst hU
    clear HI1 HI2 q2
    go_wp2_with fail
    have hfin := fin9 (W := w3) HF3.out HC2.out (Fr.refl (fun k => k = w3.heap.size) _) (by have := HC2.out.lt; omega) (by have := HN.out; omega) (by exact HF3.out.size) (.int .i64 0) (.string ⟨#[]⟩) (.string ⟨#[]⟩) (.string ⟨#[]⟩) (.int .i64 0) (.slice none 0 0) (.slice none 0 0)
    exact ret_box rfl rfl rfl hfin.1 ⟨_, rfl, by rw [HR.out]; exact ⟨_, _, rfl, ⟨none, 0, rfl, fun _ => rfl, Nat.le_refl _, Lines.Row.nil _ _⟩, ⟨none, 0, rfl, fun _ => rfl, Nat.le_refl _, Lines.Row.nil _ _⟩, (fun k e => by cases e), (fun k e => by cases e)⟩, hfin.2⟩
  · have HR : Hid (R = { E with kind := U }) := HI2.out hU
    clear HI1 HI2
    obtain ⟨EK, EP, ET, EF, EA, EO, EN⟩ := E
    simp only at q2 HR
    go_wp2_with fail
    with_reducible refine q2.mono ?_
    rintro e w4 ⟨v, rfl, ⟨vo, vn, rfl, hso, hsn, hgo, hgn⟩, F4⟩
    simp only at hso hsn
    obtain ⟨po, co, rfl⟩ := hso.as
    obtain ⟨pn, cn, rfl⟩ := hsn.as
    generalize EO.length = eo at hso hsn hgo hgn
    generalize EN.length = en at hso hsn hgo hgn
    obtain ⟨w5, hw5⟩ : ∃ w5, w4.alloc (.cells #[.int .i64 EK, .string EP, .string ET, .string EF, .int .i64 EA, .slice po eo co, .slice pn en cn] 24) = w5 := ⟨_, rfl⟩
    have F5 : Fr None' w4 w5 := hw5 ▸ Fr.alloc None' w4 _
    have C3 : Box w5 w4.heap.size (.int .i64 EK) (.string EP) (.string ET) (.string EF) (.int .i64 EA) (.slice po eo co) (.slice pn en cn) := hw5 ▸ Box.new w4 _ _ _ _ _ _ _
    have C2 := (HC2.out.kept F4).kept F5
    have HC5 : Hid (Box w5 w1.heap.size (.int .i64 0) (.string ⟨#[]⟩) (.string ⟨#[]⟩) (.string ⟨#[]⟩) (.int .i64 0) (.slice none 0 0) (.slice none 0 0)) := C2
    have HF5 : Hid (Fr None' w w5) := (HF3.out.then7 F4).then7 F5
    have HS : Hid (StrsAt w4 (.slice po eo co) EO ∧ StrsAt w4 (.slice pn en cn) EN ∧ (∀ k, (Value.slice po eo co).ownBlock = some k → w3.heap.size ≤ k) ∧ (∀ k, (Value.slice pn en cn).ownBlock = some k → w3.heap.size ≤ k) ∧ Fr None' w4 w5) := ⟨hso, hsn, hgo, hgn, F5⟩
    have n2 : ¬ w1.heap.size = w4.heap.size := by have := HC2.out.lt; have := F4.size; omega
    have HM : Hid (w.heap.size ≤ w4.heap.size) := by show _ ≤ _; have := HF3.out.size; have := F4.size; omega
    obtain ⟨d0, d1, d2, d3, d4, d5, d6⟩ := C2.cells
    obtain ⟨c0, c1, c2, c3, c4, c5, c6⟩ := C3.cells
    have z5 := C2.frozen
    have z6 := C3.frozen
    clear q2 F4 F5 C2 C3 hso hsn hgo hgn k0 k1 k2 k3 k4 k5 k6 b0 b1 b2 b3 b4 b5 b6 z2
    go_wp2_with fail
    have hfin := fin9 (W := w5.setCell ⟨w4.heap.size, 0, none⟩ (.int .i64 U)) HF5.out HC5.out (Fr.setQ w5 w4.heap.size 0 (.int .i64 U)) n2 (by have := HN.out; omega) HM.out (.int .i64 U) (.string EP) (.string ET) (.string EF) (.int .i64 EA) (.slice po eo co) (.slice pn en cn)
    have FW : Fr (fun k => k = w4.heap.size ∨ k = w1.heap.size) w5 _ := (Fr.mono (Fr.setQ w5 w4.heap.size 0 (.int .i64 U)) (fun _ e => Or.inl e)).then (Fr.setP (M := fun k => k = w4.heap.size ∨ k = w1.heap.size) (w5.setCell ⟨w4.heap.size, 0, none⟩ (.int .i64 U)) (Or.inr rfl) (.int .i64 U) (.string EP) (.string ET) (.string EF) (.int .i64 EA) (.slice po eo co) (.slice pn en cn))
    obtain ⟨t1, t2, t3, t4, t5⟩ := HS.out
    have hlt := HC2.out.lt
    have s1 := (t1.kept t5).far FW (fun hl k e => by have := t1.lt hl e; have := t3 k e; omega)
    have s2 := (t2.kept t5).far FW (fun hl k e => by have := t2.lt hl e; have := t4 k e; omega)
    exact ret_box rfl rfl rfl hfin.1 ⟨_, rfl, by rw [HR.out]; exact ⟨_, _, rfl, s1, s2, (fun k e => Nat.le_trans HF3.out.size (t3 k e)), (fun k e => Nat.le_trans HF3.out.size (t4 k e))⟩, hfin.2⟩

end Go.Proofs.YtpmhfigaeoaddaaGreatDoor
