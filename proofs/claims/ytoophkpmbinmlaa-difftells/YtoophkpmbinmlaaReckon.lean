/-
  What is proved here: what reckon lays in memory, and what it hands back. Conditions: the rows lie in memory; they have from 1 to 900 numbers.
-/
import Derived.Test.YtoophkpmbinmlaaGoes
namespace Go.Proofs.Ytoophkpmbinmlaa
open Go.RowKit Go.Shelf
set_option maxRecDepth 100000
attribute [local go_sem] run_store_float

theorem chs_get {g o N sz nb k : Nat} (hk : k < nb) : (chs g o N sz nb)[k]? = some (chV g o N sz k) := by simp [chs, hk]

set_option maxHeartbeats 4000000 in
theorem reckon_any (H1 ga oa ca cb N m : Nat) (vb : Option Addr) (A B : List Int) (w : World) (hA : RowV w (some ⟨ga, oa, none⟩) (ints A)) (hN : A.length = N) (hN1 : 1 ≤ N) (hN9 : N ≤ 800) (hca : N ≤ ca) (hB : RowV w vb (ints B)) (hm : B.length = m) (hm1 : 1 ≤ m) (hm9 : m ≤ 800)
    (hga : H1 ≤ ga) (hvb : ∀ x, vb = some x → H1 ≤ x.block) (hH : H1 ≤ w.heap.size) :
    Calls Try.prog 30 #[.slice (some ⟨ga, oa, none⟩) N ca, .slice vb m cb] w fun e w' => ∃ (E : GE) (R : Nat → Value), e = .returned (.func (.func 36) #[] #[.pointer (some ⟨E.pn, 0, none⟩), .pointer (some ⟨E.ps, 0, none⟩), .pointer (some ⟨E.pr, 0, none⟩), .pointer (some ⟨E.pk, 0, none⟩), .pointer (some ⟨E.pb, 0, none⟩), .pointer (some ⟨E.pw, 0, none⟩)]) ∧ E.Fit ∧ E.A = A ∧ E.B = B ∧ E.H1 = H1 ∧ E.ga = ga ∧ E.oa = oa ∧ E.vb = vb ∧ E.m = m ∧ GoesAt E w' R (-1) ∧ Fr None' w w' ∧ ∀ k, E.foot R k → H1 ≤ k ∧ k < w'.heap.size := by
  obtain ⟨rt, s, hrt, hrs, hs40⟩ := root_ex (n := N) (by omega)
  have hga2 : ga < w.heap.size := by
    obtain ⟨g, o, e, hc⟩ := hA.get (k := 0) (by rw [ints_length, hN]; omega)
    cases e
    exact cell_lt hc
  have hvb2 : ∀ x, vb = some x → x.block < w.heap.size := fun x e => by
    obtain ⟨g, o, e2, hc⟩ := hB.get (k := 0) (by rw [ints_length, hm]; omega)
    rw [e] at e2
    cases e2
    exact cell_lt hc
  have HN : Hid (A.length = N) := hN
  have HM : Hid (B.length = m) := hm
  clear hN hm
  have i1 : (N : Int) ≤ 800 := by omega
  have i2 : (m : Int) ≤ 800 := by omega
  have i3 : (s : Int) ≤ 40 := by omega
  have i4 : (0 : Int) ≤ (s : Int) := by omega
  have cS := fun v => sqrt_any hrt v
  have cI : ∀ v, (convert 55 3 (.float .f64 rt)).run Try.prog v = .ok (.int .i64 (s : Int)) v := fun v => run_convert_float_int v 55 3 .f64 .i64 rt (s : Int) (by kernel_rfl) Try.underlying3 hrs
  obtain ⟨sz, hsz⟩ : ∃ sz, s + 1 = sz := ⟨_, rfl⟩
  have e1 : 1 + (s : Int) = (sz : Int) := by omega
  have hsz1 : 1 ≤ sz := by omega
  have hsz9 : sz ≤ 41 := by omega
  have i5 : (sz : Int) ≤ 41 := by omega
  have i6 : (1 : Int) ≤ (sz : Int) := by omega
  obtain ⟨w1, hw1⟩ : ∃ w1, (w.alloc (.cells #[.slice vb m cb] 37)).alloc (.cells #[.int .i64 (sz : Int)] 3) = w1 := ⟨_, rfl⟩
  have F1 : Fr None' w w1 := hw1 ▸ (Fr.alloc None' w _).then (Fr.alloc None' _ _)
  have hs1 : w1.heap.size = w.heap.size + 2 := by rw [← hw1]; simp
  have b3 : w1.cell? ⟨w.heap.size, 0, none⟩ = some (.slice vb m cb) := hw1 ▸ (Fr.alloc None' _ _).cell (cell_new1 w 37 _) (fun e => e)
  have b5 : w1.cell? ⟨w.heap.size + 1, 0, none⟩ = some (.int .i64 (sz : Int)) := hw1 ▸ cell_new2 (by simp) 3 _
  clear hsz
  go_enter Try.func30, Try.ntmps30
  go_wp2_with fail
  refine (cS _).mono ?_
  rintro e w' ⟨rfl, rfl⟩
  go_wp2_with fail
  clear cS cI hrt hrs hw1
  refine (chunk_any (some ⟨ga, oa, none⟩) N ca sz hsz1 w1).mono ?_
  rintro e w2 ⟨rfl, hw2⟩
  have F2 : Fr None' w1 w2 := hw2 ▸ (Fr.alloc None' w1 _).then (Fr.alloc None' _ _)
  have hs2 : w2.heap.size = w1.heap.size + 2 := by rw [hw2]; simp
  have x1 : w2.cell? ⟨w1.heap.size, 0, none⟩ = some (.slice (some ⟨ga, oa, none⟩) N ca) := hw2 ▸ (Fr.alloc None' _ _).cell (cell_new1 w1 37 _) (fun e => e)
  have x2 : w2.cell? ⟨w1.heap.size + 1, 0, none⟩ = some (.int .i64 (sz : Int)) := hw2 ▸ cell_new2 (by simp) 3 _
  have cC := collectV_any ga oa ca N sz w2 (by omega) hca hsz1 (by omega) w1.heap.size (w1.heap.size + 1) x1 x2
  rw [hs1] at cC
  clear hw2 x1 x2
  go_wp2_with fail
  refine cC.mono ?_
  rintro e w3 ⟨v, nb, rfl, o3, hnb, hnk, F3⟩
  clear cC
  have hnb1 : 1 ≤ nb := by
    rcases Nat.eq_zero_or_pos nb with e | e
    · rw [e] at hnb; omega
    · exact e
  obtain ⟨vl, cl, hv, _, _, r3, hvl⟩ := o3.slice
  rw [chs_length] at hv
  obtain ⟨gl, ol, hgl, _⟩ := r3.get (k := 0) (by rw [chs_length]; exact hnb1)
  obtain ⟨hg1, hg2, _, hg3⟩ := hvl _ hgl
  have hol : ol = 0 := hg2
  have hgl1 : w2.heap.size ≤ gl := hg1
  have hgl2 : gl < w3.heap.size := hg3
  rw [hol] at hgl
  subst hgl hv
  clear hvl hg1 hg2 hg3 o3 hol
  have hnb9 : nb ≤ 800 := by
    have h1 := hnk (nb - 1) (by omega)
    have : (nb - 1) * 1 ≤ (nb - 1) * sz := Nat.mul_le_mul_left _ hsz1
    omega
  obtain ⟨w4, hw4⟩ : ∃ w4, w3.alloc (.cells #[.slice (some ⟨gl, 0, none⟩) nb cl] 35) = w4 := ⟨_, rfl⟩
  have F4 : Fr None' w3 w4 := hw4 ▸ Fr.alloc None' w3 _
  have hs4 : w4.heap.size = w3.heap.size + 1 := by rw [← hw4]; simp
  have bk : w4.cell? ⟨w3.heap.size, 0, none⟩ = some (.slice (some ⟨gl, 0, none⟩) nb cl) := hw4 ▸ cell_new1 w3 35 _
  have hs3 := F3.size
  have F14 : Fr None' w1 w4 := (F2.then F3).then F4
  have F04 := F1.then F14
  have b34 := F14.cell b3 (fun e => e)
  have b54 := F14.cell b5 (fun e => e)
  have r4 := r3.fr F4 (Off.no _)
  have A4 := hA.fr F04 (Off.no _)
  have B4 := hB.fr F04 (Off.no _)
  have hlk : ∀ k, ((A.drop (k * sz)).take (chLen N sz k)).length = chLen N sz k := fun k => by
    rw [List.length_take, List.length_drop, HN.out]
    unfold chLen
    omega
  have cB := rowsBelow_any m cb nb cl vb (some ⟨gl, 0, none⟩) (chs ga oa N sz nb) (fun k => some ⟨ga, oa + k * sz, none⟩) (fun k => chLen N sz k) (fun k => (A.drop (k * sz)).take (chLen N sz k)) (fun k => A.drop (k * sz)) B w4 (chs_length _ _ _ _ _) hnb1 (by omega) r4
    (fun k hk => ⟨by rw [chs_get hk, hlk]; rfl, by
      have := A4.part (k * sz) (chLen N sz k)
      unfold ints at this ⊢
      rw [List.map_take, List.map_drop]
      exact this⟩) B4 HM.out hm1 (by omega) (fun k hk => by
        rw [hlk]
        have := hnk k hk
        unfold chLen
        omega) (by exact List.drop_of_length_le (by rw [HN.out]; exact hnb)) (fun k hk => by
        have := drop_part (A := A) (p := k * sz) (sz := sz) (i := 0) (Nat.zero_le _)
        rw [List.drop_zero, Nat.add_zero, HN.out] at this
        rw [Nat.succ_mul]
        exact this.symm) (fun k => by rw [List.length_drop, HN.out]; omega)
  have Hr4 : Hid (RowV w4 (some ⟨gl, 0, none⟩) (chs ga oa N sz nb)) := r4
  have HA4 : Hid (RowV w4 (some ⟨ga, oa, none⟩) (ints A)) := A4
  have HB4 : Hid (RowV w4 vb (ints B)) := B4
  have Hnk : Hid (∀ k, k < nb → k * sz < N) := hnk
  clear r3 r4 A4 B4 hA hB hnk hlk F1 F2 F3 F4
  go_wp2_with fail
  refine cB.mono ?_
  rintro e w5 ⟨gB, D, rfl, hgB, rD, F5⟩
  clear cB
  have hs5 := F5.size
  have hgB2 : gB < w5.heap.size := cell_lt (rD 0 hnb1).1
  have oD : ∀ k j, k < nb → Own1 (D k) j → w4.heap.size ≤ j ∧ j < w5.heap.size := fun k j hk hj => OwnV.lt (rD k hk).2 hj
  have hmk : ∀ w : World, (Instr.makeSlice 61 (.int .i64 ((sz : Int) + 1)) (.int .i64 ((sz : Int) + 1))).run Try.prog w = .ok (.slice (some ⟨w.heap.size, 0, none⟩) (sz + 1) (sz + 1)) (w.alloc (.cells (madeCells #[.slice none 0 0] (sz + 1)) 64)) := fun w => run_make_row' 61 64 (.slice none 0 0) 24 Try.underlying61 (by kernel_rfl) rfl .i64 .i64 (sz + 1) (by omega) (by omega) w
  obtain ⟨w6, hw6⟩ : ∃ w6, w5.alloc (.cells #[.slice (some ⟨gB, 0, none⟩) nb nb] 61) = w6 := ⟨_, rfl⟩
  have F6 : Fr None' w5 w6 := hw6 ▸ Fr.alloc None' w5 _
  have hs6 : w6.heap.size = w5.heap.size + 1 := by rw [← hw6]; simp
  have bw : w6.cell? ⟨w5.heap.size, 0, none⟩ = some (.slice (some ⟨gB, 0, none⟩) nb nb) := hw6 ▸ cell_new1 w5 61 _
  have b56 := (F5.then F6).cell b54 (fun e => e)
  obtain ⟨w7, hw7⟩ : ∃ w7, (w6.alloc (.cells (madeCells #[.slice none 0 0] (sz + 1)) 64)).alloc (.cells #[.slice (some ⟨w6.heap.size, 0, none⟩) (sz + 1) (sz + 1)] 61) = w7 := ⟨_, rfl⟩
  have F7 : Fr None' w6 w7 := hw7 ▸ (Fr.alloc None' w6 _).then (Fr.alloc None' _ _)
  have hs7 : w7.heap.size = w6.heap.size + 2 := by rw [← hw7]; simp
  have br : w7.cell? ⟨w6.heap.size + 1, 0, none⟩ = some (.slice (some ⟨w6.heap.size, 0, none⟩) (sz + 1) (sz + 1)) := hw7 ▸ cell_new2 (by simp) 61 _
  have rT : w7.rowIs w6.heap.size 64 (sz + 1) (fun _ => .slice none 0 0) := by rw [← hw7]; exact (World.rowIs_made w6 (.slice none 0 0) (sz + 1) 64).alloc _
  obtain ⟨w8, hw8⟩ : ∃ w8, w7.alloc (.cells #[.int .i64 (-1)] 3) = w8 := ⟨_, rfl⟩
  have F8 : Fr None' w7 w8 := hw8 ▸ Fr.alloc None' w7 _
  have hs8 : w8.heap.size = w7.heap.size + 1 := by rw [← hw8]; simp
  have bn : w8.cell? ⟨w7.heap.size, 0, none⟩ = some (.int .i64 (-1)) := hw8 ▸ cell_new1 w7 3 _
  have zn : w8.frozen? ⟨w7.heap.size, 0, none⟩ = false := by rw [← hw8]; simp
  have F68 := F7.then F8
  have F48 := (F5.then F6).then F68
  have rT8 := F8.rowIs rT (fun e => e)
  have hE : GE.Fit { pn := w7.heap.size, ps := w.heap.size + 1, pr := w6.heap.size + 1, pk := w3.heap.size, pb := w.heap.size, pw := w5.heap.size, g0 := w6.heap.size, gB, gl, ga, oa, sz, nb, m, c0 := sz + 1, cl, cb, H1, base := w8.heap.size, vb, D, A, B } := by
    refine ⟨hsz1, by show sz ≤ 100; omega, by rw [HN.out]; omega, HM.out, by show m ≤ 900; omega, hm1, by rw [HN.out]; exact hnb, by rw [HN.out]; exact Hnk.out, by show nb ≤ 900; omega, ?_, ?_, ?_, ?_, ?_, ?_, ?_⟩
    · intro k hk
      dsimp only at hk ⊢
      rcases hk with e | e | e | e | e | e | e | e | e | e <;> omega
    · intro x e
      have := hvb x e
      have := hvb2 x e
      dsimp only
      omega
    · intro k j hk hj
      have := oD k j hk hj
      dsimp only
      omega
    · refine ⟨?_, ?_, ?_, ?_, ?_, ?_, ?_, ?_, ?_⟩ <;> (dsimp only; omega)
    · intro x e
      have := hvb2 x e
      dsimp only
      omega
    · intro k j hk hj
      have := oD k j hk hj
      dsimp only
      omega
    · refine ⟨?_, ?_, ?_, ?_, ?_, ?_, ?_, ?_⟩ <;> (dsimp only; omega)
  have hG : GoesAt { pn := w7.heap.size, ps := w.heap.size + 1, pr := w6.heap.size + 1, pk := w3.heap.size, pb := w.heap.size, pw := w5.heap.size, g0 := w6.heap.size, gB, gl, ga, oa, sz, nb, m, c0 := sz + 1, cl, cb, H1, base := w8.heap.size, vb, D, A, B } w8 (fun _ => .slice none 0 0) (-1) := by
    refine ⟨bn, zn, F48.cell b54 (fun e => e), F8.cell br (fun e => e), F48.cell bk (fun e => e), F48.cell b34 (fun e => e), F68.cell bw (fun e => e), by rw [HN.out]; exact Hr4.out.fr F48 (Off.no _), HA4.out.fr F48 (Off.no _), HB4.out.fr F48 (Off.no _), fun k hk => ⟨(F6.then F68).cell (rD k hk).1 (fun e => e), (FRow.of (own_mono (rD k hk).2.own (by show H1 ≤ w4.heap.size; omega))).fr (F6.then F68) (fun _ _ e => e)⟩, ⟨by show w6.heap.size < w8.heap.size; omega, fun i hi => rT8.cell hi, fun i => rT8.frozen i, fun i hi => ⟨[], OwnV.nil _ _ _⟩, fun i j k _ _ _ e => by cases e⟩, Nat.le_refl _, Or.inl rfl⟩
  have HE : Hid (GE.Fit { pn := w7.heap.size, ps := w.heap.size + 1, pr := w6.heap.size + 1, pk := w3.heap.size, pb := w.heap.size, pw := w5.heap.size, g0 := w6.heap.size, gB, gl, ga, oa, sz, nb, m, c0 := sz + 1, cl, cb, H1, base := w8.heap.size, vb, D, A, B } ∧ GoesAt { pn := w7.heap.size, ps := w.heap.size + 1, pr := w6.heap.size + 1, pk := w3.heap.size, pb := w.heap.size, pw := w5.heap.size, g0 := w6.heap.size, gB, gl, ga, oa, sz, nb, m, c0 := sz + 1, cl, cb, H1, base := w8.heap.size, vb, D, A, B } w8 (fun _ => .slice none 0 0) (-1) ∧ Fr None' w w8) := ⟨hE, hG, F04.then F48⟩
  rw [hs6] at hw7
  clear hE hG rD oD rT rT8 F04 F48 F68 F14 hvb hvb2
  go_wp2_with fail
  go_ret
  refine ⟨_, _, ?_, HE.out.1, rfl, rfl, rfl, rfl, rfl, rfl, rfl, HE.out.2.1, HE.out.2.2, fun k e => ?_⟩
  · show Ending.returned (.func (.func 36) #[] #[.pointer (some ⟨w5.heap.size + 1 + 1 + 1, 0, none⟩), .pointer (some ⟨w.heap.size + 1, 0, none⟩), .pointer (some ⟨w5.heap.size + 1 + 1, 0, none⟩), .pointer (some ⟨w3.heap.size, 0, none⟩), .pointer (some ⟨w.heap.size, 0, none⟩), .pointer (some ⟨w5.heap.size, 0, none⟩)]) = Ending.returned (.func (.func 36) #[] #[.pointer (some ⟨w7.heap.size, 0, none⟩), .pointer (some ⟨w.heap.size + 1, 0, none⟩), .pointer (some ⟨w6.heap.size + 1, 0, none⟩), .pointer (some ⟨w3.heap.size, 0, none⟩), .pointer (some ⟨w.heap.size, 0, none⟩), .pointer (some ⟨w5.heap.size, 0, none⟩)])
    rw [hs7, hs6]
  · rcases e with e | ⟨i, _, e⟩
    · exact e
    · cases e

end Go.Proofs.Ytoophkpmbinmlaa
