/-
  What is proved here: DiskPlays answers true. Condition: its arguments lie in memory.
-/
import Derived.Test.YthnneejkbobbcaaRTwo
import Derived.Test.YthnneejkbobbcaaROf
import Derived.Test.YthnneejkbobbcaaHead
import Derived.Test.YthnneejkbobbcaaEqs
import Derived.Test.YthnneejkbobbcaaGreat
namespace Go.Proofs.Ythnneejkbobbcaa
open Go.RowKit Go.Maps Go.WideMaps
set_option maxRecDepth 100000

theorem inv_ofP {room : Int} {T : List Tri} {L : List FileD} (hl : L.length ≤ 512) (hg : Good L L.length) (hb : Built L L.length T) : Inv 0 (St.of room T L.length) := by
  have hs : Small T := fun t ht => by
    obtain ⟨i, f, h1, h2, _, h4⟩ := hb.only t ht
    rw [h4]; exact (hg i f h1 h2).2.1
  exact ⟨by simp [St.of, St.new], by simp [St.of, St.new], by simp [St.of, St.new], by simp [St.of, St.new]; omega, hs, hs, fun c hc => by simp [St.of, St.new] at hc⟩

theorem LowN.higherP {B B' : Nat} {v : Value} (h : LowN B v) (hB : B ≤ B') : LowN B' v := fun ad n c e h0 => by
  have := h ad n c e h0
  omega

theorem FilesAt.higherP {w : World} {B B' : Nat} {v : Value} {L : List FileD} (h : FilesAt w B v L) (hB : B ≤ B') : FilesAt w B' v L := by
  rcases h with h | ⟨ad, c, hv, hc⟩
  · exact Or.inl h
  · refine Or.inr ⟨ad, c, hv, fun i o hi => ?_⟩
    obtain ⟨h0, h1, vb, h2, r⟩ := hc i o hi
    exact ⟨h0, by omega, vb, ⟨h2.1, h2.2.1.higherP hB, h2.2.2⟩, r⟩

/-- A world in which all of w lies as it was. -/
structure FrW (w : World) where
  to : World
  fr : Fr None' w to

instance (w : World) : Inhabited (FrW w) := ⟨⟨w, Fr.refl _ _⟩⟩

set_option maxHeartbeats 16000000 in
theorem plays_walk (room : Int) (vf vl : Value) (FL : List FileD) (L : List OpD) (w : World) (hrm : room ≤ 9223372036854775807) (hfl : FilesAt w w.heap.size vf FL) (hFL : FL.length ≤ reachBytes) (hl : OpsAt w w.heap.size vl L) (hL : L.length ≤ reachBytes) :
    Calls Try.prog 3 #[.int .i64 room, vf, vl] w fun e w' => e = .returned (.bool true) ∧ Fr None' w w' := by
  obtain ⟨fa, fc, rfl, hfat⟩ := hfl.shape
  obtain ⟨va, vc, rfl, hat⟩ := hl.shape
  go_enter Try.func3, Try.ntmps3
  go_wp2_with fail
  refine (head_any w).mono ?_
  rintro e w1 ⟨rfl, F1⟩
  go_wp2_with fail
  refine (greatFiles_any w.heap.size _ FL w1 (hfl.kept F1 (fun _ e => e.elim) (Nat.le_refl _)) hFL).mono ?_
  rintro e w2 ⟨gf, rfl, F2⟩
  cases gf
  · go_wp2_with fail
    refine (great_any w.heap.size _ L w2 (hl.kept (F1.then F2) (fun _ e => e.elim) (Nat.le_refl _)) hL).mono ?_
    rintro e w3 ⟨g, rfl, F3, hg⟩
    have F13 := (F1.then F2).then F3
    cases g
    · obtain ⟨hl3, hbs⟩ := hg rfl
      clear hg
      go_wp2_with fail
      have hf3 := (hfl.kept F13 (fun _ e => e.elim) (Nat.le_refl _))
      refine (of_any room _ FL w3 (hf3.higherP F13.size)).mono ?_
      rintro e w4 hOf
      have hf4 : ∀ w4, Fr None' w3 w4 → FilesAt w4 w4.heap.size (.slice fa FL.length fc) FL := fun w4 F4 => (hfl.kept (F13.then F4) (fun _ e => e.elim) (Nat.le_refl _)).higherP (F13.then F4).size
      rcases hOf with ⟨rfl, hbad, F4⟩ | ⟨p, T, rfl, h512, hgood, hbuilt, L0⟩
      · go_wp2_with fail
        refine (rof_any room _ FL w4 (hf4 _ F4)).mono ?_
        rintro e w5 (⟨rfl, _, F5⟩ | ⟨q, U, N, rfl, h512, hgood, _⟩)
        · go_wp2
          go_ret
          exact ⟨rfl, (F13.then F4).then F5⟩
        · exact absurd ⟨h512, hgood⟩ hbad
      · go_wp2_with fail
        refine (rof_any room _ FL w4 (hf4 _ L0.fr)).mono ?_
        rintro e w5 (⟨rfl, hbad, F5⟩ | ⟨q, U, N, rfl, _, _, hbU, hrU, hR, F5, hN⟩)
        · exact absurd ⟨h512, hgood⟩ hbad
        · have i0 := inv_ofP (room := room) h512 hgood hbuilt
          have T0 : Two w w5 p q (St.of room T FL.length) (RSt.of room U) := by
            have L1 := L0.lower F13
            obtain ⟨M, a1, a2, a3⟩ := L1
            exact ⟨M, N, a1.fresh F5, hR, a2.then F5, a3, fun j hj => Nat.le_trans a2.size (hN j hj)⟩
          have R0 : Rel (St.of room T FL.length) (RSt.of room U) := by
            obtain ⟨M, ⟨bf, bs, ca, a1, _⟩, _⟩ := L0
            have hA := apart_of_tidy (a1.files.tidy lawS)
            have hal : Alike T U := built_alike hA hrU hbuilt hbU
            have hne := ne_of_good hgood hbuilt
            exact ⟨rfl, by show 0 ≤ max room 0; omega, by show max room 0 ≤ _; omega, hal, hal, hne, hne, rfl, fun i c d hc => by simp [St.of, St.new] at hc, rfl, Or.inl ⟨by simp [St.of, St.new], rfl, rfl⟩, rfl⟩
          generalize St.of room T FL.length = S0 at i0 T0 R0
          generalize RSt.of room U = R0' at T0 R0 hR
          clear L0 hR F5 hN hbU hrU hbuilt hgood h512 hf4 hf3 hFL hL hfat F13 F1 F2 F3 hfl
          go_wp2_with fail
          go_loopw [10] (fun i wr => ∃ (k : Nat) (S : St) (R : RSt), k ≤ L.length ∧ i = .int .i64 k ∧ Two w wr p q S R ∧ Rel S R ∧ Inv k S) (fun i _ => L.length - (intOf i).toNat)
          case atStart => exact ⟨0, S0, R0', Nat.zero_le _, rfl, T0, R0, i0⟩
          case round =>
            obtain ⟨k, S, R, hk, rfl, hT, hrl, hinv⟩ := hrel
            clear T0 R0 i0
            by_cases hlt : k < L.length
            · obtain ⟨o, ho⟩ : ∃ o, L[k]? = some o := ⟨L[k], by simp [hlt]⟩
              obtain ⟨g, off, vb, vk, rfl, hgB, hov, hkl, c0, c1, c2, c3, c4, c5⟩ := hat k o ho
              have hob := (hbs o (List.mem_of_getElem? ho)).1
              have hon := hov.2.2.2.2.2.2.2.1
              have hsz := hov.2.2.2.2.1
              obtain ⟨sb, cb, rfl⟩ := bytes_slice hov.1
              obtain ⟨sk, ck, rfl⟩ : ∃ sk ck, vk = .slice sk o.keep.length ck := by
                rcases hov.2.1 with ⟨e1, e2⟩ | ⟨ad, c, e1, _⟩
                · exact ⟨none, 0, by rw [e1, e2]; rfl⟩
                · exact ⟨_, _, e1⟩
              have i0 : (0 : Int) ≤ (k : Int) := by omega
              have i1 : (k : Int) < (L.length : Int) := by omega
              have HC : Hid (∀ wr, Fr None' w wr → ∀ off, wr.cell? ⟨g, off, none⟩ = w.cell? ⟨g, off, none⟩) := fun wr hf off => World.cell?_of_block (w := w) (a := ⟨g, off, none⟩) (hf.block g hgB (fun e => e))
              have HO : Hid (OpVal w w.heap.size o (.slice sb o.b.length cb) (.slice sk o.keep.length ck)) := hov
              have ho4 := hov.kept hT.fr (fun _ e => e.elim)
              have d0 := (HC.out _ hT.fr _).trans c0
              have d1 := (HC.out _ hT.fr _).trans c1
              have d2 := (HC.out _ hT.fr _).trans c2
              have d3 := (HC.out _ hT.fr _).trans c3
              have d4 := (HC.out _ hT.fr _).trans c4
              have d5 := (HC.out _ hT.fr _).trans c5
              have hsm : R.fine ∧ R.Y.length ≤ 100000 ∧ used R.L < 1099511627776 := by
                obtain ⟨M, N, a1, _⟩ := hT
                exact hrl.small hinv (by omega) a1
              have HR : Hid (Rel S R ∧ Inv k S ∧ R.fine ∧ R.Y.length ≤ 100000 ∧ used R.L < 1099511627776) := ⟨hrl, hinv, hsm⟩
              clear hat hkl hl hbs ho hov hrl hsm
              go_wp2_with fail
              refine (hT.does hinv (by omega) o _ _ ho4 hob).mono ?_
              rintro e w6 ⟨v, rfl, T6⟩
              clear hT ho4 d0 d1 d2 d3 d4 d5 hinv
              have d0 := (HC.out _ T6.fr _).trans c0
              have d1 := (HC.out _ T6.fr _).trans c1
              have d2 := (HC.out _ T6.fr _).trans c2
              have d3 := (HC.out _ T6.fr _).trans c3
              have d4 := (HC.out _ T6.fr _).trans c4
              have d5 := (HC.out _ T6.fr _).trans c5
              go_wp2_with fail
              refine (T6.twin HR.out.2.2.1 HR.out.2.2.2.1 HR.out.2.2.2.2 HR.out.1.r0 HR.out.1.r1 o _ _ (HO.out.kept T6.fr (fun _ e => e.elim)) hob).mono ?_
              rintro e w7 ⟨v', rfl, T7⟩
              obtain ⟨r7, rel7⟩ := HR.out.1.does o v v'
              have i7 := HR.out.2.1.does o v hon
              rw [← r7]
              generalize (S.does o v).1 = r at r7 ⊢
              generalize (S.does o v).2 = S7 at T7 rel7 i7
              generalize (R.does o v').2 = R7 at T7 rel7
              have hsm : R7.fine ∧ R7.Y.length ≤ 100000 ∧ used R7.L < 1099511627776 := by
                obtain ⟨M, N, a1, _⟩ := T7
                exact rel7.small i7 (by omega) a1
              have hu7 : used S7.F < 1099511627776 := by rw [rel7.F.used]; exact hsm.2.2
              clear T6 d0 d1 d2 d3 d4 d5 r7 HR
              have d1 := (HC.out _ T7.fr _).trans c1
              go_wp2_with fail
              refine (live_read T7.live o.a hsz hu7).mono ?_
              rintro e w8 ⟨s8, rfl, B8, _, F8⟩
              rw [rel7.read] at B8 ⊢
              have T8 := T7.fresh F8
              clear T7 d1
              have d1 := (HC.out _ T8.fr _).trans c1
              obtain ⟨s8a, s8c, rfl⟩ := bytes_slice B8
              go_wp2_with fail
              refine (T8.rread o.a hsm.1.len hsm.2.2).mono ?_
              rintro e w9 ⟨t9, rfl, B9, F9⟩
              have T9 := T8.fresh F9
              have B8' := B8.kept F9 (fun _ _ _ _ _ e => e)
              obtain ⟨t9a, t9c, rfl⟩ := bytes_slice B9
              clear B8 T8 d1
              generalize R7.read o.a.data.toList = rd at B8' B9 ⊢
              obtain ⟨ra, rc, la, lc, _, q3, q4, q7, _⟩ := T9.cells
              have K1 : ∀ x : FrW w9, (convert 33 9 (.slice s8a rd.1.length s8c)).run Try.prog x.to = .ok (.string ⟨rd.1.toArray⟩) x.to := fun x => str_any (B8'.kept x.fr (fun _ _ _ _ _ e => e))
              have K2 : ∀ x : FrW w9, (convert 33 9 (.slice t9a rd.1.length t9c)).run Try.prog x.to = .ok (.string ⟨rd.1.toArray⟩) x.to := fun x => str_any (B9.kept x.fr (fun _ _ _ _ _ e => e))
              have K3 : ∀ x : FrW w9, x.to.cell? ⟨q, 3, none⟩ = some (.slice ra R7.ch.length rc) := fun x => x.fr.cell q3
              have K4 : ∀ x : FrW w9, x.to.cell? ⟨q, 4, none⟩ = some (.int .i64 R7.done) := fun x => x.fr.cell q4
              have K7 : ∀ x : FrW w9, x.to.cell? ⟨q, 7, none⟩ = some (.bool R7.off) := fun x => x.fr.cell q7
              have U1 : ∀ x : FrW w9, Calls Try.prog 13 #[.pointer (some ⟨p, 0, none⟩)] x.to fun e w' => e = .returned (.int .i64 (used R7.L)) ∧ ∃ y : FrW w9, w' = y.to := fun x => (live_used (T9.fresh x.fr).live hu7).mono fun _ _ ⟨e1, _, hf⟩ => ⟨by rw [e1, rel7.F.used], ⟨⟨_, x.fr.then hf⟩, rfl⟩⟩
              have U2 : ∀ x : FrW w9, Calls Try.prog 14 #[.pointer (some ⟨q, 0, none⟩)] x.to fun e w' => e = .returned (.int .i64 (used R7.L)) ∧ ∃ y : FrW w9, w' = y.to := fun x => ((T9.fresh x.fr).rused hsm.1.len hsm.2.2).mono fun _ _ ⟨e1, hw⟩ => ⟨e1, x, hw.symm⟩
              have U3 : ∀ x : FrW w9, Calls Try.prog 15 #[.pointer (some ⟨p, 0, none⟩)] x.to fun e w' => e = .returned (.int .i64 R7.done) ∧ ∃ y : FrW w9, w' = y.to := fun x => (live_acts (T9.fresh x.fr).live).mono fun _ _ ⟨e1, hw⟩ => ⟨by rw [e1, rel7.acts], x, hw.symm⟩
              have U4 : ∀ x : FrW w9, Calls Try.prog 16 #[.pointer (some ⟨p, 0, none⟩)] x.to fun e w' => e = .returned (.bool R7.off) ∧ ∃ y : FrW w9, w' = y.to := fun x => (live_down (T9.fresh x.fr).live).mono fun _ _ ⟨e1, hw⟩ => ⟨by rw [e1, rel7.down], x, hw.symm⟩
              have U5 : ∀ x : FrW w9, Calls Try.prog 17 #[.pointer (some ⟨p, 0, none⟩)] x.to fun e w' => e = .returned (.int .i64 R7.ch.length) ∧ ∃ y : FrW w9, w' = y.to := fun x => (live_loose (T9.fresh x.fr).live).mono fun _ _ ⟨e1, hw⟩ => ⟨by rw [e1, rel7.len], x, hw.symm⟩
              have HZ : Hid (Two w w9 p q S7 R7 ∧ Rel S7 R7 ∧ Inv (k + 1) S7) := ⟨T9, rel7, i7⟩
              clear T9 rel7 i7 B8' B9 q3 q4 q7 hsm hu7 HC HO c0 c1 c2 c3 c4 c5 hob hon hsz F8 F9
              go_wp2_with fail
              refine wp_region_quiet (C := fun w' => ∃ x : FrW w9, w' = x.to) (by kernel_rfl) (by kernel_rfl) ⟨⟨_, Fr.drew None' w9⟩, rfl⟩ ?_
              simp only
              repeat (quiet_step (first
                | (go_at_call 13; exact U1 _)
                | (go_at_call 14; exact U2 _)
                | (go_at_call 15; exact U3 _)
                | (go_at_call 16; exact U4 _)
                | (go_at_call 17; exact U5 _)))
              refine wpQuiet_nil ?_
              intro w10 hw10
              obtain ⟨x, rfl⟩ := hw10
              clear K1 K2 K3 K4 K7 U1 U2 U3 U4 U5
              go_wp2
              go_roundw
              case rel => exact ⟨k + 1, S7, R7, by omega, by go_num, HZ.out.1.fresh x.fr, HZ.out.2.1, HZ.out.2.2⟩
              case measure => simp [intOf]; omega
            · have hkL : k = L.length := by omega
              have k1 : (L.length : Int) ≤ (k : Int) := by omega
              obtain ⟨ra, rc, la, lc, q1, _, _, _, hLr⟩ := hT.cells
              have hsm : R.fine ∧ R.Y.length ≤ 100000 ∧ used R.L < 1099511627776 := by
                obtain ⟨M, N, a1, _⟩ := hT
                exact hrl.small hinv (by omega) a1
              have hFi : ∀ w', Fr None' wr w' → Calls Try.prog 19 #[.pointer (some ⟨p, 0, none⟩)] w' fun e w'' => ∃ v X, e = .returned v ∧ FilesRes w'' v X ∧ kb X = kb R.L ∧ X.length ≤ 1000000 ∧ Fr None' wr w'' := fun w' f' => by
                obtain ⟨M, N, a1, _⟩ := hT
                refine (files_any p M S w' (a1.fresh f') (hinv.fine (by omega)) (a1.used hinv (by omega))).mono ?_
                rintro e w'' ⟨v, X, e1, b1, b2, b3⟩
                have b4 : kb X = kb R.L := by rw [b2, hrl.F.sorted]
                have b5 : X.length = R.L.length := by
                  have := congrArg List.length b4
                  simpa [kb] using this
                exact ⟨v, X, e1, b1, b4, by have := hsm.1.len; omega, f'.then b3⟩
              have HT : Hid (Fr None' w wr) := hT.fr
              have qd : wr.drew.cell? ⟨q, 1, none⟩ = some (.slice la R.L.length lc) := q1
              clear hat hT hrl hinv hsm hbs hl
              go_wp2_with fail
              go_region_with (first
                | (go_at_call 19; refine (hFi _ (Fr.drew None' wr)).mono ?_; rintro e w11 ⟨v11, X, rfl, hX, hkX, hXl, F11⟩; obtain ⟨xa, xc, hv⟩ := row_slice hX.1; subst hv; have q1' := F11.cell q1)
                | (go_at_call 18; refine (same_any _ _ X R.L _ hX (hLr.kept F11 (stillN _)) hkX hXl).mono ?_; rintro e w12 ⟨rfl, F12⟩))
              all_goals go_wp2
              all_goals go_ret
              all_goals exact ⟨rfl, HT.out.then (F11.then F12)⟩
    · go_wp2
      go_ret
      exact ⟨rfl, F13⟩
  · go_wp2
    go_ret
    exact ⟨rfl, F1.then F2⟩
end Go.Proofs.Ythnneejkbobbcaa
