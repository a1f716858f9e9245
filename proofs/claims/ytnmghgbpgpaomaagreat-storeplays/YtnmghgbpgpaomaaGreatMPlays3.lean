/-
  What is proved here: StorePlays answers true. Condition: its arguments lie in memory.
-/
import Derived.Test.YtnmghgbpgpaomaaGreatMG7
namespace Go.Proofs.YtnmghgbpgpaomaaGreat
open Go.RowKit Go.Maps Go.WideMaps
set_option maxRecDepth 100000

/-- The two disks behind k calls. -/
structure At (w wr : World) (p q k : Nat) (S : St) (R : RSt) : Prop where
  two : Two w wr p q S R
  rel : Rel S R
  inv : Inv (5700 * k) S
  few : Few k S

theorem At.fit {w wr : World} {p q k : Nat} {S : St} {R : RSt} (h : At w wr p q k S R) (hk : k ≤ 5000) : Fit S R := h.rel.fit h.inv (by omega) h.few (by omega)

theorem At.fresh {w wr wx : World} {p q k : Nat} {S : St} {R : RSt} (h : At w wr p q k S R) (f : Fr None' wr wx) : At w wx p q k S R := ⟨h.two.fresh f, h.rel, h.inv, h.few⟩

theorem box_cells {w : World} {b : Nat} {v0 v1 v2 v3 v4 : Value} {e : TypeId} {fz : Nat × Nat} (h : w.heap[b]? = some (.cells #[v0, v1, v2, v3, v4] e fz)) :
    w.cell? ⟨b, 0, none⟩ = some v0 ∧ w.cell? ⟨b, 1, none⟩ = some v1 ∧ w.cell? ⟨b, 2, none⟩ = some v2 ∧ w.cell? ⟨b, 3, none⟩ = some v3 ∧ w.cell? ⟨b, 4, none⟩ = some v4 := by
  refine ⟨?_, ?_, ?_, ?_, ?_⟩ <;> simp [World.cell?, h]

/-- Two names that have just been laid. -/
theorem two_names (w : World) (a b : List UInt8) : ∀ (j : Nat) (x : List UInt8), [a, b][j]? = some x → (w.alloc (.cells #[.string ⟨a.toArray⟩, .string ⟨b.toArray⟩] 9)).cell? ⟨w.heap.size, j, none⟩ = some (.string ⟨x.toArray⟩) := by
  intro j x hj
  have hh := (MapKept.heap_alloc w (.cells #[.string ⟨a.toArray⟩, .string ⟨b.toArray⟩] 9)).1
  have hx : (#[Value.string ⟨a.toArray⟩, Value.string ⟨b.toArray⟩] : Array Value)[j]? = some (.string ⟨x.toArray⟩) := by
    match j, hj with
    | 0, hj => simp at hj; subst hj; rfl
    | 1, hj => simp at hj; subst hj; rfl
    | j + 2, hj => simp at hj
  unfold World.cell?
  simp only [hh]
  simpa using hx

attribute [local irreducible] wpQuiet

set_option maxHeartbeats 400000000 in
theorem plays_walk (room : Int) (vf vl : Value) (FL : List FileD) (L : List OpE) (w : World) (hrm : room ≤ 9223372036854775807) (hfl : FilesAt w w.heap.size vf FL) (hFL : FL.length ≤ reachBytes) (hl : OpsAt w w.heap.size vl L) (hL : L.length ≤ reachBytes) :
    Calls Tryz.prog 3 #[.int .i64 room, vf, vl] w fun e w' => e = .returned (.bool true) ∧ Fr None' w w' := by
  obtain ⟨fa, fc, rfl, hfat⟩ := hfl.shape
  obtain ⟨va, vc, rfl, hat⟩ := hl.shape
  go_enter Tryz.func3, Tryz.ntmps3
  go_wp2_with fail
  refine (head_any w).mono ?_
  rintro e w1 ⟨rfl, F1⟩
  go_wp2_with fail
  refine (great_any w.heap.size _ L w1 (hl.fresh F1 (Nat.le_refl _)) hL).mono ?_
  rintro e w2 ⟨g, rfl, F2, hg⟩
  cases g
  · obtain ⟨hl3, hbs⟩ := hg rfl
    clear hg
    go_wp2_with fail
    refine (greatFiles_any w.heap.size _ FL w2 (hfl.kept (F1.then F2) (fun _ e => e.elim) (Nat.le_refl _)) hFL).mono ?_
    rintro e w3 ⟨gf, rfl, F3⟩
    have F13 := (F1.then F2).then F3
    cases gf
    · go_wp2_with fail
      have hf3 := (hfl.kept F13 (fun _ e => e.elim) (Nat.le_refl _))
      refine (of_any room _ FL w3 (hf3.higherP F13.size)).mono ?_
      rintro e w4 hOf
      have hf4 : ∀ w4, Fr None' w3 w4 → FilesAt w4 w4.heap.size (.slice fa FL.length fc) FL := fun w4 F4 => (hfl.kept (F13.then F4) (fun _ e => e.elim) (Nat.le_refl _)).higherP (F13.then F4).size
      rcases hOf with ⟨rfl, hbad, F4⟩ | ⟨p, T, rfl, h512, hgood, hbuilt, L0⟩
      · go_wp2_with fail
        refine (rof_any room _ FL w4 (hf4 _ F4)).mono ?_
        rintro e w5 (⟨rfl, _, F5⟩ | ⟨q, U, N, rfl, h512, hgood, _⟩)
        · go_wp2
          go_ret
          exact ⟨rfl, (F13.then F4).then F5⟩
        · exact absurd ⟨h512, hgood⟩ hbad
      · have FrL : Fr None' w3 w4 := by
          obtain ⟨_, _, h3, _⟩ := L0
          exact h3
        go_wp2_with fail
        refine (rof_any room _ FL w4 (hf4 _ FrL)).mono ?_
        rintro e w5 (⟨rfl, hbad, F5⟩ | ⟨q, U, N, rfl, _, _, hbU, hrU, hR, F5, hN⟩)
        · exact absurd ⟨h512, hgood⟩ hbad
        · have A0 : At w w5 p q 0 (St.of room T FL.length) (RSt.of room U) := by
            obtain ⟨M, a1, a2, a3⟩ := L0
            have a1' := a1
            obtain ⟨bf, bs, ca, d1, _⟩ := a1
            have hA := apart_of_tidy (d1.files.tidy lawS)
            have hal : Alike T U := built_alike hA hrU hbuilt hbU
            have hne := ne_of_good hgood hbuilt
            have hsz := d1.files.size_le
            rw [size_toD] at hsz
            have hsz' : T.length ≤ FL.length := hsz
            refine ⟨⟨M, N, a1'.fresh F5, hR, (F13.then a2).then F5, fun j hj => Nat.le_trans F13.size (a3 j hj), fun j hj => Nat.le_trans (F13.then a2).size (hN j hj)⟩, ?_, inv_ofP h512 hgood hbuilt, Few.of (by omega)⟩
            exact ⟨rfl, by show 0 ≤ max room 0; omega, by show max room 0 ≤ _; omega, hal, hal, hne, hne, rfl, fun i c d hc => by simp [St.of, St.new] at hc, rfl, Or.inl ⟨by simp [St.of, St.new], rfl, rfl⟩, rfl⟩
          generalize St.of room T FL.length = S0 at A0
          generalize RSt.of room U = R0' at A0 hR
          clear L0 hR F5 hN hbU hrU hbuilt hgood h512 hf4 hf3 hFL hL hfat F13 F1 F2 F3 hfl FrL hrm
          go_wp2_with fail
          go_loopw [10] (fun i wr => ∃ (k : Nat) (S : St) (R : RSt), k ≤ L.length ∧ i = .int .i64 k ∧ At w wr p q k S R) (fun i _ => L.length - (intOf i).toNat)
          case atStart => exact ⟨0, S0, R0', Nat.zero_le _, rfl, A0⟩
          case round =>
            obtain ⟨k, S, R, hk, rfl, hA⟩ := hrel
            clear A0
            by_cases hlt : k < L.length
            · obtain ⟨o, ho⟩ : ∃ o, L[k]? = some o := ⟨L[k], by simp [hlt]⟩
              obtain ⟨g, off, vb, vk, rfl, hgB, hov, hkl, c0, c1, c2, c3, c4⟩ := hat k o ho
              obtain ⟨hob, hon, hok⟩ := hbs o (List.mem_of_getElem? ho)
              obtain ⟨sb, cb, rfl⟩ := bytes_slice hov.1.bytes
              obtain ⟨sk, ck, rfl⟩ := bools_slice hov.2.1
              have i0 : (0 : Int) ≤ (k : Int) := by omega
              have i1 : (k : Int) < (L.length : Int) := by omega
              obtain ⟨nl, hnl⟩ : ∃ nl : List UInt8, o.name = ⟨nl.toArray⟩ := ⟨o.name.data.toList, by cases o.name; simp⟩
              rw [hnl] at c2 hon
              have hnx : nl.length ≤ maxLen := by
                rw [size_mk] at hon
                unfold maxLen
                omega
              have hnm : (nm o.b).length ≤ maxLen := by
                rw [nm_length]
                decide
              have hF := hA.two.fr
              have d0 := hF.cell c0
              have d1 := hF.cell c1
              have d2 := hF.cell c2
              have d3 := hF.cell c3
              have d4 := hF.cell c4
              obtain ⟨wb, hwb⟩ : ∃ wb, wr.alloc (.cells #[.int .i64 o.what, .slice sb o.b.length cb, .string ⟨nl.toArray⟩, .int .i64 o.n, .slice sk o.keep.length ck] 34) = wb := ⟨_, rfl⟩
              have fB : Fr None' wr wb := hwb ▸ Fr.alloc None' _ _
              have nB : wb.heap[wr.heap.size]? = some (.cells #[.int .i64 o.what, .slice sb o.b.length cb, .string ⟨nl.toArray⟩, .int .i64 o.n, .slice sk o.keep.length ck] 34) := hwb ▸ (MapKept.heap_alloc wr _).1
              have hNm := rname_is (hov.fresh (hF.then fB)).1 (hov.1.bytes.nilcap) (by omega)
              have HA : Hid (Rel S R ∧ Inv (5700 * k) S ∧ Few k S ∧ Fit S R) := ⟨hA.rel, hA.inv, hA.few, hA.fit (by omega)⟩
              have HV : Hid (OpVal w w.heap.size o (.slice sb o.b.length cb) (.slice sk o.keep.length ck)) := hov
              have TB := hA.two.fresh fB
              obtain ⟨b0, b1, b2, b3, b4⟩ := box_cells nB
              clear hat hl hbs hov hA c0 c1 c2 c3 c4 hkl hgB hF ho hon hok
              go_wp2_with fail
              refine hNm.mono ?_
              rintro e w6 ⟨rfl, F6⟩
              have T6 := TB.fresh F6
              have n6 := F6.at nB (fun e => e)
              obtain ⟨e0, e1, e2, e3, e4⟩ := box_cells n6
              clear hNm d0 d1 d2 d3 d4 TB nB fB F6 hwb b0 b1 b2 b3 b4
              -- ROUND
              by_cases h0 : o.what = 0
              case pos =>
                have hw := h0
                as_aux_lemma =>
                  rw [hw] at e0
                  go_wp2_with fail
                  refine (two_put T6 HA.out.2.2.2.sfine HA.out.2.2.2.sused _ o.b (HV.out.fresh T6.fr).1 HV.out.2.2.1 (by omega)).mono ?_
                  rintro e w7 ⟨v7, rfl, T7, k7⟩
                  clear e0 e1 e2 e3 e4
                  have n7 := k7 _ _ _ _ n6 (by decide) (by decide) (by decide) (by decide)
                  obtain ⟨e0, e1, e2, e3, e4⟩ := box_cells n7
                  rw [hw] at e0
                  go_wp2_with fail
                  refine (two_rput T7 HA.out.2.2.2.ready _ o.b (HV.out.fresh T7.fr).1 HV.out.2.2.1 (by omega)).mono ?_
                  rintro e w8 ⟨v8, rfl, T8, k8⟩
                  obtain ⟨r1, r2, r3⟩ := HA.out.1.put o.b v7 v8
                  rw [← r1, ← r2]
                  have A8 : At w w8 p q (k + 1) (S.put o.b v7).2.2 (R.put o.b v8).2.2 := ⟨T8, r3, (HA.out.2.1.put o.b v7).more (by omega), HA.out.2.2.1.put o.b v7⟩
                  generalize (S.put o.b v7).1 = sx
                  generalize (S.put o.b v7).2.1 = rx
                  clear e0 e1 e2 e3 e4 r1 r2 r3 T6 T7 T8 k7 k8 n6 n7
                  generalize (S.put o.b v7).2.2 = S8 at A8
                  generalize (R.put o.b v8).2.2 = R8 at A8
                  obtain ⟨ra, rc, la, lc, _, _, q4, q7, _⟩ := A8.two.cells
                  have K4 : ∀ y : FrW w8, y.to.cell? ⟨q, 4, none⟩ = some (.int .i64 R8.done) := fun y => y.fr.cell q4
                  have K7 : ∀ y : FrW w8, y.to.cell? ⟨q, 7, none⟩ = some (.bool R8.off) := fun y => y.fr.cell q7
                  have U3 : ∀ y : FrW w8, Calls Tryz.prog 24 #[.pointer (some ⟨p, 0, none⟩)] y.to fun e w' => e = .returned (.int .i64 R8.done) ∧ ∃ z : FrW w8, w' = z.to := fun y => (live_acts (A8.two.fresh y.fr).live).mono fun _ _ ⟨e1, hw⟩ => ⟨by rw [e1, A8.rel.acts], y, hw.symm⟩
                  have U4 : ∀ y : FrW w8, Calls Tryz.prog 25 #[.pointer (some ⟨p, 0, none⟩)] y.to fun e w' => e = .returned (.bool R8.off) ∧ ∃ z : FrW w8, w' = z.to := fun y => (two_down (A8.two.fresh y.fr)).mono fun _ _ ⟨e1, hw⟩ => ⟨by rw [e1, A8.rel.down], y, hw.symm⟩
                  have HZ : Hid (At w w8 p q (k + 1) S8 R8) := A8
                  clear A8 q4 q7
                  go_wp2_with fail
                  refine wp_region_quiet (C := fun w' => ∃ y : FrW w8, w' = y.to) (by kernel_rfl) (by kernel_rfl) ⟨⟨_, Fr.drew None' w8⟩, rfl⟩ ?_
                  simp only
                  repeat (quiet_step (first | (go_at_call 24; exact U3 _) | (go_at_call 25; exact U4 _)))
                  refine wpQuiet_nil ?_
                  intro w10 hw10
                  obtain ⟨y, rfl⟩ := hw10
                  clear K4 K7 U3 U4
                  go_wp2
                  go_roundw
                  case rel => exact ⟨k + 1, S8, R8, by omega, by go_num, HZ.out.fresh y.fr⟩
                  case measure => simp [intOf]; omega
              by_cases h1 : o.what = 1
              case pos =>
                have hw := h1
                as_aux_lemma =>
                  rw [hw] at e0
                  go_wp2_with fail
                  refine (two_put T6 HA.out.2.2.2.sfine HA.out.2.2.2.sused _ o.b (HV.out.fresh T6.fr).1 HV.out.2.2.1 (by omega)).mono ?_
                  rintro e w7 ⟨v7, rfl, T7, k7⟩
                  clear e0 e1 e2 e3 e4
                  have n7 := k7 _ _ _ _ n6 (by decide) (by decide) (by decide) (by decide)
                  obtain ⟨e0, e1, e2, e3, e4⟩ := box_cells n7
                  rw [hw] at e0
                  go_wp2_with fail
                  refine (two_rput T7 HA.out.2.2.2.ready _ o.b (HV.out.fresh T7.fr).1 HV.out.2.2.1 (by omega)).mono ?_
                  rintro e w8 ⟨v8, rfl, T8, k8⟩
                  obtain ⟨r1, r2, r3⟩ := HA.out.1.put o.b v7 v8
                  rw [← r1, ← r2]
                  have A8 : At w w8 p q (k + 1) (S.put o.b v7).2.2 (R.put o.b v8).2.2 := ⟨T8, r3, (HA.out.2.1.put o.b v7).more (by omega), HA.out.2.2.1.put o.b v7⟩
                  generalize (S.put o.b v7).1 = sx
                  generalize (S.put o.b v7).2.1 = rx
                  clear e0 e1 e2 e3 e4 r1 r2 r3 T6 T7 T8 k7 k8 n6 n7
                  generalize (S.put o.b v7).2.2 = S8 at A8
                  generalize (R.put o.b v8).2.2 = R8 at A8
                  obtain ⟨ra, rc, la, lc, _, _, q4, q7, _⟩ := A8.two.cells
                  have K4 : ∀ y : FrW w8, y.to.cell? ⟨q, 4, none⟩ = some (.int .i64 R8.done) := fun y => y.fr.cell q4
                  have K7 : ∀ y : FrW w8, y.to.cell? ⟨q, 7, none⟩ = some (.bool R8.off) := fun y => y.fr.cell q7
                  have U3 : ∀ y : FrW w8, Calls Tryz.prog 24 #[.pointer (some ⟨p, 0, none⟩)] y.to fun e w' => e = .returned (.int .i64 R8.done) ∧ ∃ z : FrW w8, w' = z.to := fun y => (live_acts (A8.two.fresh y.fr).live).mono fun _ _ ⟨e1, hw⟩ => ⟨by rw [e1, A8.rel.acts], y, hw.symm⟩
                  have U4 : ∀ y : FrW w8, Calls Tryz.prog 25 #[.pointer (some ⟨p, 0, none⟩)] y.to fun e w' => e = .returned (.bool R8.off) ∧ ∃ z : FrW w8, w' = z.to := fun y => (two_down (A8.two.fresh y.fr)).mono fun _ _ ⟨e1, hw⟩ => ⟨by rw [e1, A8.rel.down], y, hw.symm⟩
                  have HZ : Hid (At w w8 p q (k + 1) S8 R8) := A8
                  clear A8 q4 q7
                  go_wp2_with fail
                  refine wp_region_quiet (C := fun w' => ∃ y : FrW w8, w' = y.to) (by kernel_rfl) (by kernel_rfl) ⟨⟨_, Fr.drew None' w8⟩, rfl⟩ ?_
                  simp only
                  repeat (quiet_step (first | (go_at_call 24; exact U3 _) | (go_at_call 25; exact U4 _)))
                  refine wpQuiet_nil ?_
                  intro w10 hw10
                  obtain ⟨y, rfl⟩ := hw10
                  clear K4 K7 U3 U4
                  go_wp2
                  go_roundw
                  case rel => exact ⟨k + 1, S8, R8, by omega, by go_num, HZ.out.fresh y.fr⟩
                  case measure => simp [intOf]; omega
              by_cases h2 : o.what = 2
              case pos =>
                have hw := h2
                as_aux_lemma =>
                  rw [hw] at e0
                  go_wp2_with fail
                  refine (two_get T6 (nm o.b) hnm HA.out.2.2.2).mono ?_
                  rintro e w7 ⟨v7, rfl, D7, F7⟩
                  have T7 := T6.fresh F7
                  obtain ⟨a7, c7, rfl⟩ := row_slice D7
                  have n7 := F7.at n6 (fun e => e)
                  clear e0 e1 e2 e3 e4
                  obtain ⟨e0, e1, e2, e3, e4⟩ := box_cells n7
                  rw [hw] at e0
                  go_wp2_with fail
                  refine (two_rget T7 (nm o.b) hnm HA.out.2.2.2).mono ?_
                  rintro e w8 ⟨v8, rfl, D8, F8⟩
                  have T8 := T7.fresh F8
                  rw [← HA.out.1.getB] at D8 ⊢
                  obtain ⟨a8, c8, rfl⟩ := row_slice D8
                  have s1 := str_any (D7.fresh F8).bytes
                  have s2 := str_any D8.bytes
                  have A8 : At w w8 p q (k + 1) S R := ⟨T8, HA.out.1, HA.out.2.1.more (by omega), HA.out.2.2.1.more (by omega)⟩
                  generalize S.getB (nm o.b) = gb at s1 s2 ⊢
                  clear e0 e1 e2 e3 e4 T6 T7 T8 n6 n7 D7 D8
                  generalize S = S8 at A8 HA
                  generalize R = R8 at A8 HA
                  obtain ⟨ra, rc, la, lc, _, _, q4, q7, _⟩ := A8.two.cells
                  have K4 : ∀ y : FrW w8, y.to.cell? ⟨q, 4, none⟩ = some (.int .i64 R8.done) := fun y => y.fr.cell q4
                  have K7 : ∀ y : FrW w8, y.to.cell? ⟨q, 7, none⟩ = some (.bool R8.off) := fun y => y.fr.cell q7
                  have U3 : ∀ y : FrW w8, Calls Tryz.prog 24 #[.pointer (some ⟨p, 0, none⟩)] y.to fun e w' => e = .returned (.int .i64 R8.done) ∧ ∃ z : FrW w8, w' = z.to := fun y => (live_acts (A8.two.fresh y.fr).live).mono fun _ _ ⟨e1, hw⟩ => ⟨by rw [e1, A8.rel.acts], y, hw.symm⟩
                  have U4 : ∀ y : FrW w8, Calls Tryz.prog 25 #[.pointer (some ⟨p, 0, none⟩)] y.to fun e w' => e = .returned (.bool R8.off) ∧ ∃ z : FrW w8, w' = z.to := fun y => (two_down (A8.two.fresh y.fr)).mono fun _ _ ⟨e1, hw⟩ => ⟨by rw [e1, A8.rel.down], y, hw.symm⟩
                  have HZ : Hid (At w w8 p q (k + 1) S8 R8) := A8
                  clear A8 q4 q7
                  go_wp2_with fail
                  refine wp_region_quiet (C := fun w' => ∃ y : FrW w8, w' = y.to) (by kernel_rfl) (by kernel_rfl) ⟨⟨_, Fr.drew None' w8⟩, rfl⟩ ?_
                  simp only
                  repeat (quiet_step (first | (go_at_call 24; exact U3 _) | (go_at_call 25; exact U4 _)))
                  refine wpQuiet_nil ?_
                  intro w10 hw10
                  obtain ⟨y, rfl⟩ := hw10
                  clear K4 K7 U3 U4
                  go_wp2
                  go_roundw
                  case rel => exact ⟨k + 1, S8, R8, by omega, by go_num, HZ.out.fresh y.fr⟩
                  case measure => simp [intOf]; omega
              by_cases h3 : o.what = 3
              case pos =>
                have hw := h3
                as_aux_lemma =>
                  rw [hw] at e0
                  go_wp2_with fail
                  refine (two_set T6 HA.out.2.1 (by omega) (nm o.b) hnm).mono ?_
                  rintro e w7 ⟨x7, ⟨rfl, st7⟩, T7, k7⟩
                  clear e0 e1 e2 e3 e4
                  have n7 := k7 _ _ _ _ n6 (by decide) (by decide) (by decide) (by decide)
                  obtain ⟨e0, e1, e2, e3, e4⟩ := box_cells n7
                  rw [hw] at e0
                  go_wp2_with fail
                  refine (two_rset T7 HA.out.1 HA.out.2.1 (by omega) HA.out.2.2.1 (by omega) (nm o.b) hnm).mono ?_
                  rintro e w8 ⟨x8, ⟨rfl, st8⟩, T8, k8⟩
                  obtain ⟨r1, r3⟩ := HA.out.1.setTo st7 st8
                  rw [← r1]
                  have A8 : At w w8 p q (k + 1) x7.2 x8.2 := ⟨T8, r3, (st7.inv HA.out.2.1).more (by omega), st7.few HA.out.2.2.1⟩
                  clear e0 e1 e2 e3 e4 T6 T7 T8 k7 k8 n6 n7 st7 st8 r3
                  generalize x7.1 = rx
                  generalize x7.2 = S8 at A8
                  generalize x8.2 = R8 at A8
                  obtain ⟨ra, rc, la, lc, _, _, q4, q7, _⟩ := A8.two.cells
                  have K4 : ∀ y : FrW w8, y.to.cell? ⟨q, 4, none⟩ = some (.int .i64 R8.done) := fun y => y.fr.cell q4
                  have K7 : ∀ y : FrW w8, y.to.cell? ⟨q, 7, none⟩ = some (.bool R8.off) := fun y => y.fr.cell q7
                  have U3 : ∀ y : FrW w8, Calls Tryz.prog 24 #[.pointer (some ⟨p, 0, none⟩)] y.to fun e w' => e = .returned (.int .i64 R8.done) ∧ ∃ z : FrW w8, w' = z.to := fun y => (live_acts (A8.two.fresh y.fr).live).mono fun _ _ ⟨e1, hw⟩ => ⟨by rw [e1, A8.rel.acts], y, hw.symm⟩
                  have U4 : ∀ y : FrW w8, Calls Tryz.prog 25 #[.pointer (some ⟨p, 0, none⟩)] y.to fun e w' => e = .returned (.bool R8.off) ∧ ∃ z : FrW w8, w' = z.to := fun y => (two_down (A8.two.fresh y.fr)).mono fun _ _ ⟨e1, hw⟩ => ⟨by rw [e1, A8.rel.down], y, hw.symm⟩
                  have HZ : Hid (At w w8 p q (k + 1) S8 R8) := A8
                  clear A8 q4 q7
                  go_wp2_with fail
                  refine wp_region_quiet (C := fun w' => ∃ y : FrW w8, w' = y.to) (by kernel_rfl) (by kernel_rfl) ⟨⟨_, Fr.drew None' w8⟩, rfl⟩ ?_
                  simp only
                  repeat (quiet_step (first | (go_at_call 24; exact U3 _) | (go_at_call 25; exact U4 _)))
                  refine wpQuiet_nil ?_
                  intro w10 hw10
                  obtain ⟨y, rfl⟩ := hw10
                  clear K4 K7 U3 U4
                  go_wp2
                  go_roundw
                  case rel => exact ⟨k + 1, S8, R8, by omega, by go_num, HZ.out.fresh y.fr⟩
                  case measure => simp [intOf]; omega
              by_cases h4 : o.what = 4
              case pos =>
                have hw := h4
                as_aux_lemma =>
                  rw [hw] at e0
                  go_wp2_with fail
                  refine (two_root T6 HA.out.2.2.2).mono ?_
                  rintro e w7 ⟨rfl, F7⟩
                  have T7 := T6.fresh F7
                  go_wp2_with fail
                  refine (two_rroot T7 HA.out.2.2.2).mono ?_
                  rintro e w8 ⟨rfl, F8⟩
                  have T8 := T7.fresh F8
                  rw [← HA.out.1.rootB]
                  have A8 : At w w8 p q (k + 1) S R := ⟨T8, HA.out.1, HA.out.2.1.more (by omega), HA.out.2.2.1.more (by omega)⟩
                  generalize S.rootB = gb
                  clear e0 e1 e2 e3 e4 T6 T7 T8 n6
                  generalize S = S8 at A8 HA
                  generalize R = R8 at A8 HA
                  obtain ⟨ra, rc, la, lc, _, _, q4, q7, _⟩ := A8.two.cells
                  have K4 : ∀ y : FrW w8, y.to.cell? ⟨q, 4, none⟩ = some (.int .i64 R8.done) := fun y => y.fr.cell q4
                  have K7 : ∀ y : FrW w8, y.to.cell? ⟨q, 7, none⟩ = some (.bool R8.off) := fun y => y.fr.cell q7
                  have U3 : ∀ y : FrW w8, Calls Tryz.prog 24 #[.pointer (some ⟨p, 0, none⟩)] y.to fun e w' => e = .returned (.int .i64 R8.done) ∧ ∃ z : FrW w8, w' = z.to := fun y => (live_acts (A8.two.fresh y.fr).live).mono fun _ _ ⟨e1, hw⟩ => ⟨by rw [e1, A8.rel.acts], y, hw.symm⟩
                  have U4 : ∀ y : FrW w8, Calls Tryz.prog 25 #[.pointer (some ⟨p, 0, none⟩)] y.to fun e w' => e = .returned (.bool R8.off) ∧ ∃ z : FrW w8, w' = z.to := fun y => (two_down (A8.two.fresh y.fr)).mono fun _ _ ⟨e1, hw⟩ => ⟨by rw [e1, A8.rel.down], y, hw.symm⟩
                  have HZ : Hid (At w w8 p q (k + 1) S8 R8) := A8
                  clear A8 q4 q7
                  go_wp2_with fail
                  refine wp_region_quiet (C := fun w' => ∃ y : FrW w8, w' = y.to) (by kernel_rfl) (by kernel_rfl) ⟨⟨_, Fr.drew None' w8⟩, rfl⟩ ?_
                  simp only
                  repeat (quiet_step (first | (go_at_call 24; exact U3 _) | (go_at_call 25; exact U4 _)))
                  refine wpQuiet_nil ?_
                  intro w10 hw10
                  obtain ⟨y, rfl⟩ := hw10
                  clear K4 K7 U3 U4
                  go_wp2
                  go_roundw
                  case rel => exact ⟨k + 1, S8, R8, by omega, by go_num, HZ.out.fresh y.fr⟩
                  case measure => simp [intOf]; omega
              by_cases h5 : o.what = 5
              case pos =>
                have hw := h5
                as_aux_lemma =>
                  rw [hw] at e0
                  have HM : Hid (∀ x ∈ [nm o.b, nl], x.length ≤ maxLen) := fun x hx => by
                    rcases List.mem_cons.1 hx with rfl | hx
                    · exact hnm
                    · simp at hx
                      rw [hx]
                      exact hnx
                  go_wp2_with fail
                  refine (two_sweep (T6.fresh (Fr.alloc None' _ _)) HA.out.2.1 HA.out.2.2.1 (by omega) HA.out.2.2.2.sused _ 2 [nm o.b, nl] (two_names _ _ _) (by simp) (by simp) HM.out).mono ?_
                  rintro e w7 ⟨_, rfl, T7, k7⟩
                  clear e0 e1 e2 e3 e4
                  have n7 := k7 _ _ _ _ ((Fr.alloc None' _ _).at n6 (fun e => e)) (by decide) (by decide) (by decide) (by decide)
                  obtain ⟨e0, e1, e2, e3, e4⟩ := box_cells n7
                  rw [hw] at e0
                  go_wp2_with fail
                  refine (two_rsweep (T7.fresh (Fr.alloc None' _ _)) HA.out.1 HA.out.2.1 HA.out.2.2.1 (by omega) (by omega) _ 2 [nm o.b, nl] (two_names _ _ _) (by simp) ⟨_, (MapKept.heap_alloc w7 _).1⟩ (by simp) HM.out).mono ?_
                  rintro e w8 ⟨_, rfl, T8, k8⟩
                  obtain ⟨r1, r3⟩ := HA.out.1.sweep [nm o.b, nl]
                  rw [← r1]
                  have A8 : At w w8 p q (k + 1) (S.sweep [nm o.b, nl]).2 (R.sweep [nm o.b, nl]).2 := ⟨T8, r3, (HA.out.2.1.sweep HA.out.2.2.1 [nm o.b, nl]).more (by omega), (Few.run HA.out.2.2.1).more (by omega)⟩
                  generalize (S.sweep [nm o.b, nl]).1 = rx
                  clear e0 e1 e2 e3 e4 T6 T7 T8 k7 k8 n6 n7 r1 r3
                  generalize (S.sweep [nm o.b, nl]).2 = S8 at A8
                  generalize (R.sweep [nm o.b, nl]).2 = R8 at A8
                  obtain ⟨ra, rc, la, lc, _, _, q4, q7, _⟩ := A8.two.cells
                  have K4 : ∀ y : FrW w8, y.to.cell? ⟨q, 4, none⟩ = some (.int .i64 R8.done) := fun y => y.fr.cell q4
                  have K7 : ∀ y : FrW w8, y.to.cell? ⟨q, 7, none⟩ = some (.bool R8.off) := fun y => y.fr.cell q7
                  have U3 : ∀ y : FrW w8, Calls Tryz.prog 24 #[.pointer (some ⟨p, 0, none⟩)] y.to fun e w' => e = .returned (.int .i64 R8.done) ∧ ∃ z : FrW w8, w' = z.to := fun y => (live_acts (A8.two.fresh y.fr).live).mono fun _ _ ⟨e1, hw⟩ => ⟨by rw [e1, A8.rel.acts], y, hw.symm⟩
                  have U4 : ∀ y : FrW w8, Calls Tryz.prog 25 #[.pointer (some ⟨p, 0, none⟩)] y.to fun e w' => e = .returned (.bool R8.off) ∧ ∃ z : FrW w8, w' = z.to := fun y => (two_down (A8.two.fresh y.fr)).mono fun _ _ ⟨e1, hw⟩ => ⟨by rw [e1, A8.rel.down], y, hw.symm⟩
                  have HZ : Hid (At w w8 p q (k + 1) S8 R8) := A8
                  clear A8 q4 q7
                  go_wp2_with fail
                  refine wp_region_quiet (C := fun w' => ∃ y : FrW w8, w' = y.to) (by kernel_rfl) (by kernel_rfl) ⟨⟨_, Fr.drew None' w8⟩, rfl⟩ ?_
                  simp only
                  repeat (quiet_step (first | (go_at_call 24; exact U3 _) | (go_at_call 25; exact U4 _)))
                  refine wpQuiet_nil ?_
                  intro w10 hw10
                  obtain ⟨y, rfl⟩ := hw10
                  clear K4 K7 U3 U4
                  go_wp2
                  go_roundw
                  case rel => exact ⟨k + 1, S8, R8, by omega, by go_num, HZ.out.fresh y.fr⟩
                  case measure => simp [intOf]; omega
              by_cases h6 : o.what = 6
              case pos =>
                have hw := h6
                as_aux_lemma =>
                  rw [hw] at e0
                  go_wp2_with fail
                  refine (two_crash T6 HA.out.2.2.2.sfine _ o.keep (HV.out.fresh T6.fr).2.1 HV.out.2.2.2.1).mono ?_
                  rintro e w7 ⟨_, rfl, T7, k7⟩
                  clear e0 e1 e2 e3 e4
                  have n7 := k7 _ _ _ _ n6 (by decide) (by decide) (by decide) (by decide)
                  obtain ⟨e0, e1, e2, e3, e4⟩ := box_cells n7
                  rw [hw] at e0
                  go_wp2_with fail
                  refine (two_rcrash T7 HA.out.2.2.2.ready.fine HA.out.2.2.2.Y _ o.keep (HV.out.fresh T7.fr).2.1).mono ?_
                  rintro e w8 ⟨_, rfl, T8, k8⟩
                  have A8 : At w w8 p q (k + 1) (S.crash o.keep) (R.crash o.keep) := ⟨T8, HA.out.1.crash o.keep, (HA.out.2.1.crash o.keep).more (by omega), (HA.out.2.2.1.crash o.keep).more (by omega)⟩
                  clear e0 e1 e2 e3 e4 T6 T7 T8 k7 k8 n6 n7
                  generalize S.crash o.keep = S8 at A8
                  generalize R.crash o.keep = R8 at A8
                  obtain ⟨ra, rc, la, lc, _, _, q4, q7, _⟩ := A8.two.cells
                  have K4 : ∀ y : FrW w8, y.to.cell? ⟨q, 4, none⟩ = some (.int .i64 R8.done) := fun y => y.fr.cell q4
                  have K7 : ∀ y : FrW w8, y.to.cell? ⟨q, 7, none⟩ = some (.bool R8.off) := fun y => y.fr.cell q7
                  have U3 : ∀ y : FrW w8, Calls Tryz.prog 24 #[.pointer (some ⟨p, 0, none⟩)] y.to fun e w' => e = .returned (.int .i64 R8.done) ∧ ∃ z : FrW w8, w' = z.to := fun y => (live_acts (A8.two.fresh y.fr).live).mono fun _ _ ⟨e1, hw⟩ => ⟨by rw [e1, A8.rel.acts], y, hw.symm⟩
                  have U4 : ∀ y : FrW w8, Calls Tryz.prog 25 #[.pointer (some ⟨p, 0, none⟩)] y.to fun e w' => e = .returned (.bool R8.off) ∧ ∃ z : FrW w8, w' = z.to := fun y => (two_down (A8.two.fresh y.fr)).mono fun _ _ ⟨e1, hw⟩ => ⟨by rw [e1, A8.rel.down], y, hw.symm⟩
                  have HZ : Hid (At w w8 p q (k + 1) S8 R8) := A8
                  clear A8 q4 q7
                  go_wp2_with fail
                  refine wp_region_quiet (C := fun w' => ∃ y : FrW w8, w' = y.to) (by kernel_rfl) (by kernel_rfl) ⟨⟨_, Fr.drew None' w8⟩, rfl⟩ ?_
                  simp only
                  repeat (quiet_step (first | (go_at_call 24; exact U3 _) | (go_at_call 25; exact U4 _)))
                  refine wpQuiet_nil ?_
                  intro w10 hw10
                  obtain ⟨y, rfl⟩ := hw10
                  clear K4 K7 U3 U4
                  go_wp2
                  go_roundw
                  case rel => exact ⟨k + 1, S8, R8, by omega, by go_num, HZ.out.fresh y.fr⟩
                  case measure => simp [intOf]; omega
              by_cases h7 : o.what = 7
              case pos =>
                have hw := h7
                as_aux_lemma =>
                  rw [hw] at e0
                  go_wp2_with fail
                  refine (two_fuse T6 o.n).mono ?_
                  rintro e w7 ⟨_, rfl, T7, k7⟩
                  clear e0 e1 e2 e3 e4
                  have n7 := k7 _ _ _ _ n6 (by decide) (by decide) (by decide) (by decide)
                  obtain ⟨e0, e1, e2, e3, e4⟩ := box_cells n7
                  rw [hw] at e0
                  go_wp2_with fail
                  refine (two_rfuse T7 o.n).mono ?_
                  rintro e w8 ⟨_, rfl, T8, k8⟩
                  have A8 : At w w8 p q (k + 1) (S.fused o.n) (R.fuse o.n) := ⟨T8, HA.out.1.fused o.n, (HA.out.2.1.fusedN o.n HV.out.2.2.2.2.2.2.1).more (by omega), (HA.out.2.2.1.fused o.n).more (by omega)⟩
                  clear e0 e1 e2 e3 e4 T6 T7 T8 k7 k8 n6 n7
                  generalize S.fused o.n = S8 at A8
                  generalize R.fuse o.n = R8 at A8
                  obtain ⟨ra, rc, la, lc, _, _, q4, q7, _⟩ := A8.two.cells
                  have K4 : ∀ y : FrW w8, y.to.cell? ⟨q, 4, none⟩ = some (.int .i64 R8.done) := fun y => y.fr.cell q4
                  have K7 : ∀ y : FrW w8, y.to.cell? ⟨q, 7, none⟩ = some (.bool R8.off) := fun y => y.fr.cell q7
                  have U3 : ∀ y : FrW w8, Calls Tryz.prog 24 #[.pointer (some ⟨p, 0, none⟩)] y.to fun e w' => e = .returned (.int .i64 R8.done) ∧ ∃ z : FrW w8, w' = z.to := fun y => (live_acts (A8.two.fresh y.fr).live).mono fun _ _ ⟨e1, hw⟩ => ⟨by rw [e1, A8.rel.acts], y, hw.symm⟩
                  have U4 : ∀ y : FrW w8, Calls Tryz.prog 25 #[.pointer (some ⟨p, 0, none⟩)] y.to fun e w' => e = .returned (.bool R8.off) ∧ ∃ z : FrW w8, w' = z.to := fun y => (two_down (A8.two.fresh y.fr)).mono fun _ _ ⟨e1, hw⟩ => ⟨by rw [e1, A8.rel.down], y, hw.symm⟩
                  have HZ : Hid (At w w8 p q (k + 1) S8 R8) := A8
                  clear A8 q4 q7
                  go_wp2_with fail
                  refine wp_region_quiet (C := fun w' => ∃ y : FrW w8, w' = y.to) (by kernel_rfl) (by kernel_rfl) ⟨⟨_, Fr.drew None' w8⟩, rfl⟩ ?_
                  simp only
                  repeat (quiet_step (first | (go_at_call 24; exact U3 _) | (go_at_call 25; exact U4 _)))
                  refine wpQuiet_nil ?_
                  intro w10 hw10
                  obtain ⟨y, rfl⟩ := hw10
                  clear K4 K7 U3 U4
                  go_wp2
                  go_roundw
                  case rel => exact ⟨k + 1, S8, R8, by omega, by go_num, HZ.out.fresh y.fr⟩
                  case measure => simp [intOf]; omega
              by_cases h8 : o.what = 8
              case pos =>
                have hw := h8
                as_aux_lemma =>
                  rw [hw] at e0
                  go_wp2_with fail
                  refine (two_get T6 nl hnx HA.out.2.2.2).mono ?_
                  rintro e w7 ⟨v7, rfl, D7, F7⟩
                  have T7 := T6.fresh F7
                  obtain ⟨a7, c7, rfl⟩ := row_slice D7
                  have n7 := F7.at n6 (fun e => e)
                  clear e0 e1 e2 e3 e4
                  obtain ⟨e0, e1, e2, e3, e4⟩ := box_cells n7
                  rw [hw] at e0
                  go_wp2_with fail
                  refine (two_rget T7 nl hnx HA.out.2.2.2).mono ?_
                  rintro e w8 ⟨v8, rfl, D8, F8⟩
                  have T8 := T7.fresh F8
                  rw [← HA.out.1.getB] at D8 ⊢
                  obtain ⟨a8, c8, rfl⟩ := row_slice D8
                  have s1 := str_any (D7.fresh F8).bytes
                  have s2 := str_any D8.bytes
                  have A8 : At w w8 p q (k + 1) S R := ⟨T8, HA.out.1, HA.out.2.1.more (by omega), HA.out.2.2.1.more (by omega)⟩
                  generalize S.getB nl = gb at s1 s2 ⊢
                  clear e0 e1 e2 e3 e4 T6 T7 T8 n6 n7 D7 D8
                  generalize S = S8 at A8 HA
                  generalize R = R8 at A8 HA
                  obtain ⟨ra, rc, la, lc, _, _, q4, q7, _⟩ := A8.two.cells
                  have K4 : ∀ y : FrW w8, y.to.cell? ⟨q, 4, none⟩ = some (.int .i64 R8.done) := fun y => y.fr.cell q4
                  have K7 : ∀ y : FrW w8, y.to.cell? ⟨q, 7, none⟩ = some (.bool R8.off) := fun y => y.fr.cell q7
                  have U3 : ∀ y : FrW w8, Calls Tryz.prog 24 #[.pointer (some ⟨p, 0, none⟩)] y.to fun e w' => e = .returned (.int .i64 R8.done) ∧ ∃ z : FrW w8, w' = z.to := fun y => (live_acts (A8.two.fresh y.fr).live).mono fun _ _ ⟨e1, hw⟩ => ⟨by rw [e1, A8.rel.acts], y, hw.symm⟩
                  have U4 : ∀ y : FrW w8, Calls Tryz.prog 25 #[.pointer (some ⟨p, 0, none⟩)] y.to fun e w' => e = .returned (.bool R8.off) ∧ ∃ z : FrW w8, w' = z.to := fun y => (two_down (A8.two.fresh y.fr)).mono fun _ _ ⟨e1, hw⟩ => ⟨by rw [e1, A8.rel.down], y, hw.symm⟩
                  have HZ : Hid (At w w8 p q (k + 1) S8 R8) := A8
                  clear A8 q4 q7
                  go_wp2_with fail
                  refine wp_region_quiet (C := fun w' => ∃ y : FrW w8, w' = y.to) (by kernel_rfl) (by kernel_rfl) ⟨⟨_, Fr.drew None' w8⟩, rfl⟩ ?_
                  simp only
                  repeat (quiet_step (first | (go_at_call 24; exact U3 _) | (go_at_call 25; exact U4 _)))
                  refine wpQuiet_nil ?_
                  intro w10 hw10
                  obtain ⟨y, rfl⟩ := hw10
                  clear K4 K7 U3 U4
                  go_wp2
                  go_roundw
                  case rel => exact ⟨k + 1, S8, R8, by omega, by go_num, HZ.out.fresh y.fr⟩
                  case measure => simp [intOf]; omega
              by_cases h9 : o.what = 9
              case pos =>
                have hw := h9
                as_aux_lemma =>
                  rw [hw] at e0
                  go_wp2_with fail
                  refine (two_set T6 HA.out.2.1 (by omega) nl hnx).mono ?_
                  rintro e w7 ⟨x7, ⟨rfl, st7⟩, T7, k7⟩
                  clear e0 e1 e2 e3 e4
                  have n7 := k7 _ _ _ _ n6 (by decide) (by decide) (by decide) (by decide)
                  obtain ⟨e0, e1, e2, e3, e4⟩ := box_cells n7
                  rw [hw] at e0
                  go_wp2_with fail
                  refine (two_rset T7 HA.out.1 HA.out.2.1 (by omega) HA.out.2.2.1 (by omega) nl hnx).mono ?_
                  rintro e w8 ⟨x8, ⟨rfl, st8⟩, T8, k8⟩
                  obtain ⟨r1, r3⟩ := HA.out.1.setTo st7 st8
                  rw [← r1]
                  have A8 : At w w8 p q (k + 1) x7.2 x8.2 := ⟨T8, r3, (st7.inv HA.out.2.1).more (by omega), st7.few HA.out.2.2.1⟩
                  clear e0 e1 e2 e3 e4 T6 T7 T8 k7 k8 n6 n7 st7 st8 r3
                  generalize x7.1 = rx
                  generalize x7.2 = S8 at A8
                  generalize x8.2 = R8 at A8
                  obtain ⟨ra, rc, la, lc, _, _, q4, q7, _⟩ := A8.two.cells
                  have K4 : ∀ y : FrW w8, y.to.cell? ⟨q, 4, none⟩ = some (.int .i64 R8.done) := fun y => y.fr.cell q4
                  have K7 : ∀ y : FrW w8, y.to.cell? ⟨q, 7, none⟩ = some (.bool R8.off) := fun y => y.fr.cell q7
                  have U3 : ∀ y : FrW w8, Calls Tryz.prog 24 #[.pointer (some ⟨p, 0, none⟩)] y.to fun e w' => e = .returned (.int .i64 R8.done) ∧ ∃ z : FrW w8, w' = z.to := fun y => (live_acts (A8.two.fresh y.fr).live).mono fun _ _ ⟨e1, hw⟩ => ⟨by rw [e1, A8.rel.acts], y, hw.symm⟩
                  have U4 : ∀ y : FrW w8, Calls Tryz.prog 25 #[.pointer (some ⟨p, 0, none⟩)] y.to fun e w' => e = .returned (.bool R8.off) ∧ ∃ z : FrW w8, w' = z.to := fun y => (two_down (A8.two.fresh y.fr)).mono fun _ _ ⟨e1, hw⟩ => ⟨by rw [e1, A8.rel.down], y, hw.symm⟩
                  have HZ : Hid (At w w8 p q (k + 1) S8 R8) := A8
                  clear A8 q4 q7
                  go_wp2_with fail
                  refine wp_region_quiet (C := fun w' => ∃ y : FrW w8, w' = y.to) (by kernel_rfl) (by kernel_rfl) ⟨⟨_, Fr.drew None' w8⟩, rfl⟩ ?_
                  simp only
                  repeat (quiet_step (first | (go_at_call 24; exact U3 _) | (go_at_call 25; exact U4 _)))
                  refine wpQuiet_nil ?_
                  intro w10 hw10
                  obtain ⟨y, rfl⟩ := hw10
                  clear K4 K7 U3 U4
                  go_wp2
                  go_roundw
                  case rel => exact ⟨k + 1, S8, R8, by omega, by go_num, HZ.out.fresh y.fr⟩
                  case measure => simp [intOf]; omega
              as_aux_lemma =>
                have A8 : At w w6 p q (k + 1) S R := ⟨T6, HA.out.1, HA.out.2.1.more (by omega), HA.out.2.2.1.more (by omega)⟩
                clear T6
                generalize S = S8 at A8 HA
                generalize R = R8 at A8 HA
                obtain ⟨ra, rc, la, lc, _, _, q4, q7, _⟩ := A8.two.cells
                have K4 : ∀ y : FrW w6, y.to.cell? ⟨q, 4, none⟩ = some (.int .i64 R8.done) := fun y => y.fr.cell q4
                have K7 : ∀ y : FrW w6, y.to.cell? ⟨q, 7, none⟩ = some (.bool R8.off) := fun y => y.fr.cell q7
                have U3 : ∀ y : FrW w6, Calls Tryz.prog 24 #[.pointer (some ⟨p, 0, none⟩)] y.to fun e w' => e = .returned (.int .i64 R8.done) ∧ ∃ z : FrW w6, w' = z.to := fun y => (live_acts (A8.two.fresh y.fr).live).mono fun _ _ ⟨e1, hw⟩ => ⟨by rw [e1, A8.rel.acts], y, hw.symm⟩
                have U4 : ∀ y : FrW w6, Calls Tryz.prog 25 #[.pointer (some ⟨p, 0, none⟩)] y.to fun e w' => e = .returned (.bool R8.off) ∧ ∃ z : FrW w6, w' = z.to := fun y => (two_down (A8.two.fresh y.fr)).mono fun _ _ ⟨e1, hw⟩ => ⟨by rw [e1, A8.rel.down], y, hw.symm⟩
                have HZ : Hid (At w w6 p q (k + 1) S8 R8) := A8
                clear A8 q4 q7
                go_wp2_with fail
                refine wp_region_quiet (C := fun w' => ∃ y : FrW w6, w' = y.to) (by kernel_rfl) (by kernel_rfl) ⟨⟨_, Fr.drew None' w6⟩, rfl⟩ ?_
                simp only
                repeat (quiet_step (first | (go_at_call 24; exact U3 _) | (go_at_call 25; exact U4 _)))
                refine wpQuiet_nil ?_
                intro w10 hw10
                obtain ⟨y, rfl⟩ := hw10
                clear K4 K7 U3 U4
                go_wp2
                go_roundw
                case rel => exact ⟨k + 1, S8, R8, by omega, by go_num, HZ.out.fresh y.fr⟩
                case measure => simp [intOf]; omega
              -- END
            · have hkL : k = L.length := by omega
              have k1 : (L.length : Int) ≤ (k : Int) := by omega
              obtain ⟨ra, rc, la, lc, q1, _, _, _, hLr⟩ := hA.two.cells
              have hfit := hA.fit (by omega)
              have hFi : ∀ w', Fr None' wr w' → Calls Tryz.prog 27 #[.pointer (some ⟨p, 0, none⟩)] w' fun e w'' => ∃ v X, e = .returned v ∧ FilesRes w'' v X ∧ kb X = kb R.L ∧ X.length ≤ 1000000000 ∧ Fr None' wr w'' := fun w' f' => by
                have hrl := hA.rel
                obtain ⟨M, N, a1, _⟩ := hA.two
                refine (files_any p M S w' (a1.fresh f') hfit.sfine hfit.sused).mono ?_
                rintro e w'' ⟨v, X, e1, b1, b2, b3⟩
                have b4 : kb X = kb R.L := by rw [b2, hrl.F.sorted]
                have b5 : X.length = R.L.length := by
                  have := congrArg List.length b4
                  simpa [kb] using this
                exact ⟨v, X, e1, b1, b4, by have := hfit.ready.fine.len; omega, f'.then b3⟩
              have HT : Hid (Fr None' w wr) := hA.two.fr
              have qd : wr.drew.cell? ⟨q, 1, none⟩ = some (.slice la R.L.length lc) := q1
              clear hat hA hfit hbs hl
              go_wp2_with fail
              go_region_with (first
                | (go_at_call 27; refine (hFi _ (Fr.drew None' wr)).mono ?_; rintro e w11 ⟨v11, X, rfl, hX, hkX, hXl, F11⟩; obtain ⟨xa, xc, hv⟩ := row_slice hX.1; subst hv; have q1' := F11.cell q1)
                | (go_at_call 26; refine (same_any _ _ X R.L _ hX (hLr.kept F11 (stillN _)) hkX hXl).mono ?_; rintro e w12 ⟨rfl, F12⟩))
              all_goals go_wp2
              all_goals go_ret
              all_goals exact ⟨rfl, HT.out.then (F11.then F12)⟩
    · go_wp2
      go_ret
      exact ⟨rfl, F13⟩
  · go_wp2
    go_ret
    exact ⟨rfl, F1.then F2⟩
end Go.Proofs.YtnmghgbpgpaomaaGreat
