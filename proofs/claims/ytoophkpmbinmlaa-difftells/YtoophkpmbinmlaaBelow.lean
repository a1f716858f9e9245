/-
  What is proved here: what rowsBelow makes. Conditions: all lies in memory; there are at most 900 blocks, and 900 lines in them.
-/
import Derived.Test.YtoophkpmbinmlaaFill
namespace Go.Proofs.Ytoophkpmbinmlaa
open Go.RowKit Go.Shelf
set_option maxRecDepth 100000
attribute [local go_sem] run_store_float Oper.semAt_some

theorem own_mono {base base' : Nat} {w : World} {e : TypeId} {v : Value} {n : Nat} {xs : List Value} (h : w.ownsRow base e 1 v n xs) (hb : base' ≤ base) : w.ownsRow base' e 1 v n xs := by
  refine ⟨h.1, ?_⟩
  rcases h.2 with h | ⟨g, cap, cur, hv, hg, h⟩
  · exact Or.inl h
  · exact Or.inr ⟨g, cap, cur, hv, Nat.le_trans hb hg, h⟩

theorem cell_new1 (w : World) (e : TypeId) (x : Value) : (w.alloc (.cells #[x] e)).cell? ⟨w.heap.size, 0, none⟩ = some x := by simp

theorem cell_new2 {w : World} {n : Nat} (hn : w.heap.size = n) (e : TypeId) (x : Value) : (w.alloc (.cells #[x] e)).cell? ⟨n, 0, none⟩ = some x := hn ▸ cell_new1 w e x

theorem no_cells {A : World} {b o base : Nat} {v : Value} (hc : A.cell? ⟨b, o, none⟩ = some v) : ¬ (None' b ∨ (base ≤ b ∧ NoCells A b)) := fun e => by
  rcases e with e | ⟨_, e⟩
  · exact e
  · unfold World.cell? at hc
    split at hc
    · exact e _ _ _ (by assumption)
    · cases hc

/-- What rowsBelow has made when the blocks from lo on are done. -/
structure BelowAt (w0 : World) (gB gr m nb : Nat) (suf : Nat → List Int) (B : List Int) (lo : Nat) (a : List Int) (W : World) (D : Nat → Value) : Prop where
  cell : ∀ k, k < nb → W.cell? ⟨gB, k, none⟩ = some (D k)
  frz : ∀ k, W.frozen? ⟨gB, k, none⟩ = false
  rows : ∀ k, lo ≤ k → k < nb → FRow w0.heap.size W (D k) (m + 1) (rowK (suf (k + 1)) B)
  row : FRow w0.heap.size W (.slice (some ⟨gr, 0, none⟩) (m + 1) (m + 1)) (m + 1) (rowK a B)
  apart : ∀ k j, lo ≤ k → k < nb → Own1 (D k) j → j ≠ gr ∧ j ≠ gB
  ne : gB ≠ gr
  low : w0.heap.size ≤ gB ∧ w0.heap.size ≤ gr
  fr : Fr None' w0 W

theorem FRow.lt {base : Nat} {w : World} {g n c : Nat} {f : Nat → Option Nat} (h : FRow base w (.slice (some ⟨g, 0, none⟩) n c) n f) : base ≤ g ∧ g < w.heap.size := OwnV.lt h (k := g) rfl

/-- What is no cells, and newer, may be turned. -/
theorem BelowAt.keep {w0 : World} {gB gr m nb : Nat} {suf : Nat → List Int} {B : List Int} {lo : Nat} {a : List Int} {A C : World} {D : Nat → Value} (h : BelowAt w0 gB gr m nb suf B lo a A D) (h0 : 0 < nb) {Y : Nat → Prop} (f : Fr Y A C) (hY : ∀ k, Y k → w0.heap.size ≤ k ∧ NoCells A k) : BelowAt w0 gB gr m nb suf B lo a C D := by
  have nc : ∀ {k c t fz}, A.heap[k]? = some (.cells c t fz) → ¬ Y k := fun hk hy => (hY _ hy).2 _ _ _ hk
  have blk : ∀ {g o v}, A.cell? ⟨g, o, none⟩ = some v → ¬ Y g := fun hc => by
    unfold World.cell? at hc
    split at hc
    · exact nc (by assumption)
    · cases hc
  have hg : ¬ Y gB := blk (h.cell 0 h0)
  have own : ∀ {v vs}, OwnV w0.heap.size A 55 v vs → ∀ k, Own1 v k → ¬ Y k := fun hv k hk => by
    obtain ⟨c, t, fz, e⟩ := own_cells hv hk
    exact nc e
  exact ⟨fun k hk => f.cell (h.cell k hk) hg, fun k => (frozen_kept' (f.block gB (cell_lt (h.cell 0 h0)) hg)).trans (h.frz k), fun k h1 h2 => (h.rows k h1 h2).fr f (own (h.rows k h1 h2)), h.row.fr f (own h.row), h.apart, h.ne, h.low, h.fr.trans f (fun i e => Or.inr (hY i e).1)⟩

/-- A copy of the row is laid into the table. -/
theorem BelowAt.put {w0 : World} {gB gr m nb : Nat} {suf : Nat → List Int} {B : List Int} {lo : Nat} {W W2 : World} {D : Nat → Value} {v : Value} (h : BelowAt w0 gB gr m nb suf B (lo + 1) (suf (lo + 1)) W D) (hl : lo < nb) (f : Fr None' W W2) (hv : FRow W.heap.size W2 v (m + 1) (rowK (suf (lo + 1)) B)) :
    BelowAt w0 gB gr m nb suf B lo (suf (lo + 1)) (W2.setCell ⟨gB, lo, none⟩ v) (fun k => if k = lo then v else D k) ∧ Fr (fun k => k = gB) W (W2.setCell ⟨gB, lo, none⟩ v) := by
  have f2 : Fr (fun k => k = gB) W2 (W2.setCell ⟨gB, lo, none⟩ v) := Fr.setCell (M := fun k => k = gB) W2 (a := ⟨gB, lo, none⟩) rfl _
  have hBlt := cell_lt (h.cell lo hl)
  have hBlt' : gB < W.heap.size := hBlt
  have hwW := h.fr.size
  have c1 : ∀ k, k < nb → W2.cell? ⟨gB, k, none⟩ = some (D k) := fun k hk => f.cell (h.cell k hk) (fun e => e)
  have nv : ∀ j, Own1 v j → W.heap.size ≤ j := fun j hj => (OwnV.lt hv hj).1
  have hgr := h.row.lt
  have lower : FRow w0.heap.size W2 v (m + 1) (rowK (suf (lo + 1)) B) := FRow.of (own_mono hv.own hwW)
  refine ⟨⟨fun k hk => ?_, fun k => ?_, fun k h1 h2 => ?_, ?_, fun k j h1 h2 hj => ?_, h.ne, h.low, ?_⟩, (f.mono (fun _ e => e.elim)).then f2⟩
  · by_cases e : k = lo
    · subst e
      rw [if_pos rfl]
      exact World.cell?_setCell_same' _ _ _ (by rw [c1 k hk]; rfl)
    · rw [if_neg e, World.cell?_setCell_other]
      · exact c1 k hk
      · simp
  · rw [World.frozen?_setCell, frozen_kept' (f.block gB hBlt' (fun e => e))]
    exact h.frz k
  · by_cases e : k = lo
    · subst e
      rw [if_pos rfl]
      exact lower.fr f2 (fun j hj e => by have := nv j hj; omega)
    · rw [if_neg e]
      exact ((h.rows k (by omega) h2).fr f (fun _ _ e => e)).fr f2 (fun j hj => (h.apart k j (by omega) h2 hj).2)
  · refine (h.row.fr f (fun _ _ e => e)).fr f2 (fun j hj e => ?_)
    unfold Own1 at hj
    cases hj
    exact h.ne e.symm
  · by_cases e : k = lo
    · rw [if_pos e] at hj
      have := nv j hj
      omega
    · rw [if_neg e] at hj
      exact h.apart k j (by omega) h2 hj
  · exact (h.fr.then f).trans f2 (fun i e => Or.inr (by have := h.low.1; omega))

/-- A line is put ahead of the row. -/
theorem BelowAt.line {w0 : World} {gB gr m nb : Nat} {suf : Nat → List Int} {B : List Int} {lo : Nat} {a a' : List Int} {W W2 : World} {D : Nat → Value} (h : BelowAt w0 gB gr m nb suf B lo a W D) (h0 : 0 < nb) (f : Fr (fun k => k = gr) W W2) (hr : FRow w0.heap.size W2 (.slice (some ⟨gr, 0, none⟩) (m + 1) (m + 1)) (m + 1) (rowK a' B)) :
    BelowAt w0 gB gr m nb suf B lo a' W2 D :=
  ⟨fun k hk => f.cell (h.cell k hk) h.ne, fun k => (frozen_kept' (f.block gB (cell_lt (h.cell 0 h0)) h.ne)).trans (h.frz k), fun k h1 h2 => (h.rows k h1 h2).fr f (fun j hj => (h.apart k j h1 h2 hj).1), hr, h.apart, h.ne, h.low, h.fr.trans f (fun i e => Or.inr (by have := h.low.2; omega))⟩

theorem below_a {w0 : World} {gB gr m nb : Nat} {suf : Nat → List Int} {B : List Int} {lo : Nat} {a a' : List Int} {W : World} {D : Nat → Value} (e : a = a') (h : BelowAt w0 gB gr m nb suf B lo a W D) : BelowAt w0 gB gr m nb suf B lo a' W D := e ▸ h

theorem below_lo {w0 : World} {gB gr m nb : Nat} {suf : Nat → List Int} {B : List Int} {lo lo' : Nat} {a : List Int} {W : World} {D : Nat → Value} (e : lo = lo') (h : BelowAt w0 gB gr m nb suf B lo a W D) : BelowAt w0 gB gr m nb suf B lo' a W D := e ▸ h

set_option maxHeartbeats 4000000 in
theorem rowsBelow_any (m cb nb cl : Nat) (vb vl : Option Addr) (Vs : List Value) (vk : Nat → Option Addr) (ck : Nat → Nat) (Lk suf : Nat → List Int) (B : List Int) (w : World)
    (hnb : Vs.length = nb) (h0 : 0 < nb) (hnb9 : nb ≤ 900) (hL : RowV w vl Vs) (hV : ∀ k, k < nb → Vs[k]? = some (.slice (vk k) (Lk k).length (ck k)) ∧ RowV w (vk k) (ints (Lk k))) (hB : RowV w vb (ints B)) (hm : B.length = m) (hm0 : 0 < m) (hbm : m ≤ 900) (hne : ∀ k, k < nb → 0 < (Lk k).length)
    (hs0 : suf nb = []) (hs : ∀ k, k < nb → suf k = Lk k ++ suf (k + 1)) (hba : ∀ k, (suf k).length ≤ 900) :
    Calls Try.prog 35 #[.slice vl nb cl, .slice vb m cb] w fun e w' => ∃ (gB : Nat) (D : Nat → Value), e = .returned (.slice (some ⟨gB, 0, none⟩) nb nb) ∧ w.heap.size ≤ gB ∧ (∀ k, k < nb → w'.cell? ⟨gB, k, none⟩ = some (D k) ∧ FRow w.heap.size w' (D k) (m + 1) (rowK (suf (k + 1)) B)) ∧ Fr None' w w' := by
  have HN : Hid (Vs.length = nb) := hnb
  have HM : Hid (B.length = m) := hm
  have HS0 : Hid (suf nb = []) := hs0
  have HBA : Hid (∀ k, (suf k).length ≤ 900) := hba
  have HS : Hid (∀ k, k < nb → suf k = Lk k ++ suf (k + 1)) := hs
  clear hnb hm hba hs hs0
  have i1 : (m : Int) ≤ 900 := by omega
  have i2 : (nb : Int) ≤ 900 := by omega
  have i0 : (0 : Int) < (nb : Int) := by omega
  have hmk : ∀ w : World, (Instr.makeSlice 61 (.int .i64 (nb : Int)) (.int .i64 (nb : Int))).run Try.prog w = .ok (.slice (some ⟨w.heap.size, 0, none⟩) nb nb) (w.alloc (.cells (madeCells #[.slice none 0 0] nb) 64)) := fun w => run_make_row' 61 64 (.slice none 0 0) 24 Try.underlying61 (by kernel_rfl) rfl .i64 .i64 nb (by omega) (by omega) w
  obtain ⟨w1, hw1⟩ : ∃ w1, ((w.alloc (.cells #[.slice vb m cb] 37)).alloc (.cells (madeCells #[.slice none 0 0] nb) 64)).alloc (.cells #[.slice (some ⟨w.heap.size + 1, 0, none⟩) nb nb] 61) = w1 := ⟨_, rfl⟩
  have F1 : Fr None' w w1 := hw1 ▸ ((Fr.alloc None' w _).then (Fr.alloc None' _ _)).then (Fr.alloc None' _ _)
  have hs1 : w1.heap.size = w.heap.size + 3 := by rw [← hw1]; simp
  have b3 : w1.cell? ⟨w.heap.size, 0, none⟩ = some (.slice vb m cb) := hw1 ▸ ((Fr.alloc None' _ _).then (Fr.alloc None' _ _)).cell (cell_new1 w 37 _) (fun e => e)
  have b5 : w1.cell? ⟨w.heap.size + 1 + 1, 0, none⟩ = some (.slice (some ⟨w.heap.size + 1, 0, none⟩) nb nb) := hw1 ▸ cell_new2 (by simp) 61 _
  have rB : w1.rowIs (w.heap.size + 1) 64 nb (fun _ => .slice none 0 0) := by
    have := World.rowIs_made (w.alloc (.cells #[.slice vb m cb] 37)) (.slice none 0 0) nb 64
    rw [World.size_alloc] at this
    rw [← hw1]
    exact this.alloc _
  have cL := lastRow_any vb cb m B w1 HM.out hbm
  refine (callsIn_wide (n := 6)).1 ?_
  refine callsIn_of_wp_marks Try.func35 rfl trivial ?_ rfl
  simp only [Try.ntmps35, List.size_toArray, List.length_cons, List.length_nil, Nat.reduceAdd, Nat.reduceSub, Array.replicate_succ, Array.replicate_zero, List.push_toArray, List.append_toArray, List.nil_append, List.cons_append]
  gi_wp2_with fail
  refine ⟨trivial, (callsIn_wide.2 cL).mono ?_⟩
  rintro e w2 ⟨gr, rfl, hgr, r2, F2⟩
  have hgr2 := r2.lt.2
  obtain ⟨w3, hw3⟩ : ∃ w3, w2.alloc (.cells #[.slice (some ⟨gr, 0, none⟩) (m + 1) (m + 1)] 64) = w3 := ⟨_, rfl⟩
  have F3 : Fr None' w2 w3 := hw3 ▸ Fr.alloc None' w2 _
  have hs3 : w3.heap.size = w2.heap.size + 1 := by rw [← hw3]; simp
  have b6 : w3.cell? ⟨w2.heap.size, 0, none⟩ = some (.slice (some ⟨gr, 0, none⟩) (m + 1) (m + 1)) := hw3 ▸ cell_new1 w2 64 _
  have F23 := F2.then F3
  have A3 : BelowAt w (w.heap.size + 1) gr m nb suf B nb (suf nb) w3 (fun _ => .slice none 0 0) := by
    have rB3 := (F23.rowIs rB (fun e => e))
    refine ⟨fun k hk => rB3.cell hk, fun k => rB3.frozen k, fun k h1 h2 => by omega, ?_, fun k j h1 h2 => by omega, by omega, ⟨by omega, by omega⟩, F1.then F23⟩
    rw [HS0.out]
    exact (FRow.of (own_mono r2.own (by omega))).fr F3 (fun _ _ e => e)
  have b33 := F23.cell b3 (fun e => e)
  have b53 := F23.cell b5 (fun e => e)
  clear cL r2 F2 F3 hw1 b3 b5 rB hmk
  gi_wp2_with fail
  refine ⟨trivial, (callsIn_wide.2 (backB_any vl nb cl w3)).mono ?_⟩
  rintro e w4 ⟨rfl, hw4⟩
  have F4 : Fr None' w3 w4 := hw4 ▸ Fr.alloc None' w3 _
  have hs4 : w4.heap.size = w2.heap.size + 1 + 1 := by rw [hw4]; simp [hs3]
  have hbx : w4.cell? ⟨w2.heap.size + 1, 0, none⟩ = some (.slice vl nb cl) := by rw [hw4]; exact cell_new2 hs3 35 _
  clear hw4
  have hs2 : w1.heap.size ≤ w2.heap.size := by omega
  have A4 := A3.keep h0 F4 (fun k e => e.elim)
  have c30 := F4.cell b33 (fun e => e)
  have c50 := F4.cell b53 (fun e => e)
  have c60 := F4.cell b6 (fun e => e)
  have hlow : ∀ x, vl = some x → x.block < w.heap.size := fun x e => by
    obtain ⟨g, o, e2, hc⟩ := hL.get (k := 0) (by rw [HN.out]; exact h0)
    rw [e] at e2
    cases e2
    exact cell_lt hc
  have F04 := A4.fr
  have HA4 : Hid (BelowAt w (w.heap.size + 1) gr m nb suf B nb (suf nb) w4 (fun _ => .slice none 0 0)) := A4
  have hL4 : RowV w4 vl Vs := hL.fr F04 (Off.no _)
  have hkl : ∀ k, BackR (w2.heap.size + 1) vl k → k < w4.heap.size ∧ (k < w.heap.size ∨ k = w2.heap.size + 1) := fun k hkb => by
    rcases hkb with e | ⟨x, e1, e2⟩
    · omega
    · have := hlow x e1; omega
  clear A3 A4 b33 b53 b6 F4 F23 F1 hw3 hlow
  gi_wp2_with fail
  refine range_own (α := Nat × Value) rfl (by omega) (gf := 48) (lb := #[.pointer (some ⟨w2.heap.size + 1, 0, none⟩)]) rfl trivial (enters_of Try.func48 (by kernel_rfl) rfl) (backB_seq (w2.heap.size + 1) _ cl vl Vs nb HN.out (by omega))
    (fun k hk => hk.elim) (fun W hb => ⟨(Grew.of hb).cell hbx (fun e => e), hL4.fr (Grew.of hb) (Off.no _)⟩) KeepB.trans (fun W l o hl => KeepB.put W (fun k hkb e => by have := (hkl k hkb).1; omega) o) (fun _ => rfl)
    (fun pre W => ∃ t D, t ≤ nb ∧ pre = uptoB Vs t ∧ BelowAt w (w.heap.size + 1) gr m nb suf B (nb - t) (suf (nb - t)) W D ∧ W.cell? ⟨w.heap.size, 0, none⟩ = some (.slice vb m cb) ∧ W.cell? ⟨w.heap.size + 1 + 1, 0, none⟩ = some (.slice (some ⟨w.heap.size + 1, 0, none⟩) nb nb) ∧ W.cell? ⟨w2.heap.size, 0, none⟩ = some (.slice (some ⟨gr, 0, none⟩) (m + 1) (m + 1)) ∧ w4.heap.size ≤ W.heap.size)
    (fun _ _ _ => False)
    ?hI (fun _ _ _ _ h _ => h) ⟨0, _, Nat.zero_le _, rfl, HA4.out, c30, c50, c60, Nat.le_refl _⟩
    (fun x => { tmps := #[.slice vl nb cl, .slice vb m cb, undef, .pointer (some ⟨w.heap.size, 0, none⟩), .slice none 0 0, .pointer (some ⟨w.heap.size + 1 + 1, 0, none⟩), .pointer (some ⟨w2.heap.size, 0, none⟩), .int .i64 x.1, x.2, undef, undef, .slice vl nb cl, .int .i64 nb, .slice (some ⟨w.heap.size + 1, 0, none⟩) nb nb, .slice vb m cb, .slice (some ⟨gr, 0, none⟩) (m + 1) (m + 1), .slice vl nb cl, .func (.func 48) #[] #[.pointer (some ⟨w2.heap.size + 1, 0, none⟩)], .int .i64 x.1, x.2, undef, undef, undef, undef, undef, undef, undef, undef, undef, undef, undef, undef, undef, undef], defers := [] }) ?assign ?body ?done ?stop
  case hI =>
    rintro pre A C ⟨t, D, ht, hp, hF, h3, h5, h6, hs⟩ f
    exact ⟨t, D, ht, hp, hF.keep h0 f (fun k e => by
      rcases e with e | ⟨e1, e2⟩
      · exact e.elim
      · exact ⟨by omega, e2⟩), f.cell h3 (no_cells h3), f.cell h5 (no_cells h5), f.cell h6 (no_cells h6), Nat.le_trans hs f.size⟩
  case assign =>
    intro l x W K hK
    gi_wp2
    exact hK
  case body =>
    clear HA4 c30 c50 c60 hL4 hbx F04
    rintro l pre x W ⟨t, D, ht, rfl, hA, c3, c5, c6, hsW⟩ ⟨t', ht', hpre⟩ hlw ⟨rc, hrc⟩
    obtain ⟨t2, rfl, hp2, hx⟩ := uptoB_snoc hpre
    have htt : t = t2 := by have := congrArg List.length hp2; simpa [uptoB_length] using this
    subst htt
    obtain ⟨lo, hlo⟩ : ∃ lo, nb - t = lo + 1 := ⟨nb - t - 1, by omega⟩
    have hlo2 : lo < nb := by omega
    obtain ⟨hVk, hRk⟩ := hV lo hlo2
    have hx2 : x = (lo, .slice (vk lo) (Lk lo).length (ck lo)) := by
      rw [hx, elB_get (k := lo) (by rw [HN.out]; omega)]
      have hlt : lo < Vs.length := by rw [HN.out]; exact hlo2
      rw [List.getElem?_eq_getElem hlt] at hVk
      rw [Option.some.inj hVk]
    obtain ⟨nk, hnk⟩ : ∃ nk, (Lk lo).length = nk := ⟨_, rfl⟩
    rw [hnk] at hx2
    have HNK : Hid ((Lk lo).length = nk) := hnk
    have HUP : Hid (uptoB Vs t ++ [x] = uptoB Vs (t + 1)) := hpre
    rw [hlo] at hA
    have HLO : Hid (nb - t = lo + 1) := hlo
    have HSU : Hid (suf lo = Lk lo ++ suf (lo + 1)) := HS.out lo hlo2
    have hnk9 : nk ≤ 900 := by
      have h1 := HBA.out lo
      rw [HSU.out, List.length_append, hnk] at h1
      omega
    subst hx2
    clear hpre hp2 hx hlo hVk hnk
    have j1 : (lo : Int) < (nb : Int) := by omega
    have j0 : (0 : Int) ≤ (lo : Int) := by omega
    have HA : Hid (BelowAt w (w.heap.size + 1) gr m nb suf B (lo + 1) (suf (lo + 1)) W D) := hA
    have hwW := hA.fr.size
    have hBW := hB.fr hA.fr (Off.no _)
    have hRW := hRk.fr hA.fr (Off.no _)
    have hgrW := hA.row.lt
    have hgrw := hA.low.2
    have hklow : ∀ x, vk lo = some x → x.block < w.heap.size := fun x e => by
      obtain ⟨g, o, e2, hc⟩ := hRk.get (k := 0) (by rw [ints_length]; exact hne lo hlo2)
      rw [e] at e2
      cases e2
      exact cell_lt hc
    have hvlow : ∀ x, vb = some x → x.block < w.heap.size := fun x e => by
      obtain ⟨g, o, e2, hc⟩ := hB.get (k := 0) (by rw [ints_length, HM.out]; omega)
      rw [e] at e2
      cases e2
      exact cell_lt hc
    have cC := clone_any w.heap.size gr (m + 1) (m + 1) (rowK (suf (lo + 1)) B) W.drew (by omega) hA.row
    clear hA hRk
    gi_wp2_with fail
    refine region_round (S := (fun v => v.cell? ⟨w.heap.size + 1 + 1, 0, none⟩ = some (.slice (some ⟨w.heap.size + 1, 0, none⟩) nb nb) ∧ v.cell? ⟨w2.heap.size, 0, none⟩ = some (.slice (some ⟨gr, 0, none⟩) (m + 1) (m + 1)))) (by kernel_rfl) (by decide +kernel) ⟨c5, c6⟩ (fun hHeld => ?_)
    refine wpAnyH_take (i := 0) (oi := _) (v := ?_) rfl (by decide +kernel) (by decide +kernel) (by decide +kernel) (fun _ _ _ h => h) (Or.inl ⟨by rfl, ?_⟩) hHeld ?_
    rotate_left
    · intro wq hSw
      first
        | (go_simp; done)
        | (go_simp; with_reducible rfl)
    try simp only [Act.put, List.getElem_toArray, List.getElem_cons_zero, List.setIfInBounds_toArray, List.set_cons_zero, List.set_cons_succ]
    refine wpAnyH_take (i := 1) (oi := _) (v := ?_) rfl (by decide +kernel) (by decide +kernel) (by decide +kernel) (fun _ _ _ h => h) (Or.inl ⟨by rfl, ?_⟩) hHeld ?_
    rotate_left
    · intro wq hSw
      first
        | (go_simp; done)
        | (go_simp; with_reducible rfl)
    try simp only [Act.put, List.getElem_toArray, List.getElem_cons_zero, List.getElem_cons_succ, List.setIfInBounds_toArray, List.set_cons_zero, List.set_cons_succ]
    refine wpAnyH_take (i := 2) (oi := _) (v := ?_) rfl (by decide +kernel) (by decide +kernel) (by decide +kernel) (fun _ _ _ h => h) (Or.inl ⟨by rfl, ?_⟩) hHeld ?_
    rotate_left
    · intro wq hSw
      first
        | (go_simp; done)
        | (go_simp; with_reducible rfl)
    try simp only [Act.put, List.getElem_toArray, List.getElem_cons_zero, List.getElem_cons_succ, List.setIfInBounds_toArray, List.set_cons_zero, List.set_cons_succ]
    refine wpAnyH_ready (rs := [3]) (by decide +kernel) (by simp) ?_
    refine AllReadyH.cons rfl (fun K hK => ?_) AllReadyH.nil
    go_simp
    refine cC.mono ?_
    rintro e W2 ⟨v, rfl, rv, fv⟩
    obtain ⟨g2, c2, rfl, _, _⟩ := rv.slice (by omega)
    obtain ⟨A2, F2⟩ := HA.out.put hlo2 ((fr_drew None' W).then fv) rv
    have cc : W2.cell? ⟨w.heap.size + 1, lo, none⟩ = some (D lo) := fv.cell (w := W.drew) (HA.out.cell lo hlo2) (fun e => e)
    have zz : W2.frozen? ⟨w.heap.size + 1, lo, none⟩ = false := (frozen_kept' (w := W.drew) (fv.block (w.heap.size + 1) (cell_lt (HA.out.cell lo hlo2)) (fun e => e))).trans (HA.out.frz lo)
    have c5s := F2.cell c5 (fun e => by have e' : w.heap.size + 1 + 1 = w.heap.size + 1 := e; omega)
    have c6s := F2.cell c6 (fun e => by have e' : w2.heap.size = w.heap.size + 1 := e; omega)
    have c3s := F2.cell c3 (fun e => by have e' : w.heap.size = w.heap.size + 1 := e; omega)
    refine hK.out _ _ ⟨fv.cell (w := W.drew) c5 (fun e => e), fv.cell (w := W.drew) c6 (fun e => e)⟩ (fun hHeld => ?_)
    clear hK K
    try simp only [Act.put, List.getElem_toArray, List.getElem_cons_zero, List.getElem_cons_succ, List.setIfInBounds_toArray, List.set_cons_zero, List.set_cons_succ]
    refine wpAnyH_take (i := 4) (oi := _) (v := ?_) rfl (by decide +kernel) (by decide +kernel) (by decide +kernel) (fun _ _ _ h => h) (Or.inl ⟨by rfl, ?_⟩) hHeld ?_
    rotate_left
    · intro wq hSw
      first
        | (go_simp; done)
        | (go_simp; with_reducible rfl)
    try simp only [Act.put, List.getElem_toArray, List.getElem_cons_zero, List.getElem_cons_succ, List.setIfInBounds_toArray, List.set_cons_zero, List.set_cons_succ]
    refine wpAnyH_ready (rs := [5]) (by decide +kernel) (by simp) ?_
    refine AllReadyH.cons rfl (fun K hK => ?_) AllReadyH.nil
    go_simp
    refine hK.out _ _ ⟨c5s, c6s⟩ (fun hHeld => ?_)
    clear hK K
    try simp only [Act.put, List.getElem_toArray, List.getElem_cons_zero, List.getElem_cons_succ, List.setIfInBounds_toArray, List.set_cons_zero, List.set_cons_succ]
    refine wpAnyH_done (by decide +kernel) (onlyN ?_) _
    clear hHeld cC cc zz c3 c5 c6
    generalize W2.setCell ⟨w.heap.size + 1, lo, none⟩ (.slice (some ⟨g2, 0, none⟩) (m + 1) c2) = W3 at *
    clear rv fv
    gi_wp2_with fail
    refine ⟨trivial, (CallsIn.inRound l (callsIn_wide.2 (backI_any (vk lo) nk (ck lo) W3))).mono ?_⟩
    rintro e W4 ⟨rfl, hW4⟩
    have F4 : Fr None' W3 W4 := hW4 ▸ Fr.alloc None' W3 _
    have hsW3 := F2.size
    have hsW4 : W4.heap.size = W3.heap.size + 1 := by rw [hW4]; simp
    have hbi : W4.cell? ⟨W3.heap.size, 0, none⟩ = some (.slice (vk lo) nk (ck lo)) := by rw [hW4]; exact cell_new1 W3 37 _
    clear hW4
    have F24 : Fr (fun k => k = w.heap.size + 1) W W4 := F2.then (F4.mono (fun _ e => e.elim))
    have hr4 : W4.heap[l]? = some (.loop rc) := F24.at hrc (fun e => by omega)
    have A4 := A2.keep h0 F4 (fun k e => e.elim)
    have d3 := F4.cell c3s (fun e => e)
    have d5 := F4.cell c5s (fun e => e)
    have d6 := F4.cell c6s (fun e => e)
    have hR4 : RowV W4 (vk lo) (ints (Lk lo)) := hRW.fr F24 (fun x e => by
      show ¬ x.block = w.heap.size + 1
      have := hklow x e
      omega)
    have k1 : KeepsOthers W W4 := keeps_of_fr F24 (fun k e => by
      have := HA.out.cell 0 h0
      unfold World.cell? at this
      split at this
      · exact ⟨_, _, _, by rw [e]; assumption⟩
      · cases this)
    have k2 : KeepB (BackR (w2.heap.size + 1) vl) W W4 := KeepB.of F24 (fun k hkb e => by
      have := hkl k hkb
      omega)
    have HA4 : Hid (BelowAt w (w.heap.size + 1) gr m nb suf B lo (suf (lo + 1)) W4 (fun k => if k = lo then .slice (some ⟨g2, 0, none⟩) (m + 1) c2 else D k)) := A4
    have hki : ∀ k, BackR W3.heap.size (vk lo) k → k < W4.heap.size ∧ k ≠ gr := fun k hkb => by
      rcases hkb with e | ⟨x, e1, e2⟩
      · omega
      · have := hklow x e1; omega
    clear A2 A4 c3s c5s c6s F4 F2 hRW hrc
    gi_wp2_with fail
    refine range_in (α := Nat × Value) (l₀ := l) (r₀ := rc) rfl hr4 (by omega) (gf := 49) (lb := #[.pointer (some ⟨W3.heap.size, 0, none⟩)]) rfl trivial (enters_of Try.func49 (by kernel_rfl) rfl) ((backI_seq W3.heap.size _ (ck lo) (vk lo) (ints (Lk lo)) nk (by rw [ints_length]; exact HNK.out) (by omega)).inRound l)
      (fun k hk => hk.elim) (fun W' hb => ⟨(Grew.of hb).cell hbi (fun e => e), hR4.fr (Grew.of hb) (Off.no _)⟩) KeepB.trans (fun W' l' o hl' => KeepB.put W' (fun k hkb e => by have := (hki k hkb).1; omega) o) (fun _ => rfl)
      (fun pre' W' => (∃ t', t' ≤ nk ∧ pre' = uptoB (ints (Lk lo)) t' ∧ BelowAt w (w.heap.size + 1) gr m nb suf B lo ((Lk lo).drop (nk - t') ++ suf (lo + 1)) W' (fun k => if k = lo then .slice (some ⟨g2, 0, none⟩) (m + 1) c2 else D k) ∧ W'.cell? ⟨w.heap.size, 0, none⟩ = some (.slice vb m cb) ∧ W'.cell? ⟨w.heap.size + 1 + 1, 0, none⟩ = some (.slice (some ⟨w.heap.size + 1, 0, none⟩) nb nb) ∧ W'.cell? ⟨w2.heap.size, 0, none⟩ = some (.slice (some ⟨gr, 0, none⟩) (m + 1) (m + 1)) ∧ W4.heap.size ≤ W'.heap.size) ∧ KeepsOthers W W' ∧ KeepB (BackR (w2.heap.size + 1) vl) W W')
      (fun _ _ _ => False)
      ?hI2 (fun _ _ _ _ h _ => h) ⟨⟨0, Nat.zero_le _, rfl, below_a (by rw [Nat.sub_zero, List.drop_of_length_le (by rw [HNK.out]; exact Nat.le_refl _)]; rfl) HA4.out, d3, d5, d6, Nat.le_refl _⟩, k1, k2⟩
      (fun y => { tmps := #[.slice vl nb cl, .slice vb m cb, undef, .pointer (some ⟨w.heap.size, 0, none⟩), .slice none 0 0, .pointer (some ⟨w.heap.size + 1 + 1, 0, none⟩), .pointer (some ⟨w2.heap.size, 0, none⟩), .int .i64 lo, .slice (vk lo) nk (ck lo), undef, y.2, .slice vl nb cl, .int .i64 nb, .slice (some ⟨w.heap.size + 1, 0, none⟩) nb nb, .slice vb m cb, .slice (some ⟨gr, 0, none⟩) (m + 1) (m + 1), .slice vl nb cl, .func (.func 48) #[] #[.pointer (some ⟨w2.heap.size + 1, 0, none⟩)], .int .i64 lo, .slice (vk lo) nk (ck lo), .slice (some ⟨w.heap.size + 1, 0, none⟩) nb nb, .int .i64 lo, .slice (some ⟨gr, 0, none⟩) (m + 1) (m + 1), .slice (some ⟨g2, 0, none⟩) (m + 1) c2, .pointer (some ⟨w.heap.size + 1, lo, none⟩), .slice (vk lo) nk (ck lo), .func (.func 49) #[] #[.pointer (some ⟨W3.heap.size, 0, none⟩)], .int .i64 y.1, y.2, undef, undef, undef, undef, undef], defers := [] }) ?assign2 ?body2 ?done2 ?stop2
    case hI2 =>
      rintro pre' A C ⟨⟨t', ht', hp, hF, h3, h5, h6, hs⟩, q1, q2⟩ f
      refine ⟨⟨t', ht', hp, hF.keep h0 f (fun k e => by
        rcases e with e | ⟨e1, e2⟩
        · exact e.elim
        · exact ⟨by omega, e2⟩), f.cell h3 (no_cells h3), f.cell h5 (no_cells h5), f.cell h6 (no_cells h6), Nat.le_trans hs f.size⟩, abide_keeps (β := Unit) (by omega) () A C q1 f, q2.trans (KeepB.of f (fun k hkb e => ?_))⟩
      rcases e with e | ⟨e1, _⟩
      · exact e
      · have := (hkl k hkb).1
        omega
    case assign2 =>
      intro l2 y W' K hK
      gi_wp2
      exact hK
    case body2 =>
      clear HA4 d3 d5 d6 hR4 hbi k1 k2
      rintro l2 pre' y W' ⟨⟨t', ht', rfl, hA, c3, c5, c6, hsW'⟩, q1, q2⟩ ⟨t'', ht'', hpre⟩ _ _
      obtain ⟨t3, rfl, hp2, hy⟩ := uptoB_snoc hpre
      have htt : t' = t3 := by have := congrArg List.length hp2; simpa [uptoB_length] using this
      subst htt
      obtain ⟨li, hli⟩ : ∃ li, nk - t' = li + 1 := ⟨nk - t' - 1, by omega⟩
      have hliL : li < (Lk lo).length := by rw [HNK.out]; omega
      have hy2 : y = (li, .int .i64 (Lk lo)[li]) := by
        rw [hy, elB_get (k := li) (by rw [ints_length, HNK.out]; omega), ints_get hliL]
      obtain ⟨line, hline⟩ : ∃ line, (Lk lo)[li] = line := ⟨_, rfl⟩
      rw [hline] at hy2
      have HUP2 : Hid (uptoB (ints (Lk lo)) t' ++ [y] = uptoB (ints (Lk lo)) (t' + 1)) := hpre
      have HDR : Hid ((Lk lo).drop li = line :: (Lk lo).drop (li + 1)) := by
        show _ = _
        rw [List.drop_eq_getElem_cons hliL, hline]
      rw [hli] at hA
      have HLI : Hid (nk - t' = li + 1) := hli
      subst hy2
      clear hpre hp2 hy hline hli
      have hba := HBA.out lo
      rw [HSU.out, List.length_append, HNK.out] at hba
      have cP := putAhead_any w.heap.size gr (m + 1) m cb vb B ((Lk lo).drop (li + 1) ++ suf (lo + 1)) line W' (hB.fr hA.fr (Off.no _)) HM.out hbm (by rw [List.length_append, List.length_drop, HNK.out]; omega) hA.row (fun x e => by
        show ¬ x.block = gr
        have := hvlow x e
        omega)
      have HA2 : Hid (BelowAt w (w.heap.size + 1) gr m nb suf B lo ((Lk lo).drop (li + 1) ++ suf (lo + 1)) W' (fun k => if k = lo then .slice (some ⟨g2, 0, none⟩) (m + 1) c2 else D k)) := hA
      clear hA hba
      gi_wp2_with fail
      refine ⟨trivial, (CallsIn.inRound l2 (CallsIn.inRound l (callsIn_wide.2 cP))).mono ?_⟩
      rintro e W5 ⟨⟨vr, rfl⟩, r5, f5⟩
      clear cP
      have A5 := HA2.out.line h0 f5 r5
      have hgr' := HA2.out.row.lt
      have hc5 : KeepsOthers W' W5 := keeps_of_fr f5 (fun k e => by
        obtain ⟨c, t, fz, e2⟩ := own_cells HA2.out.row (k := gr) rfl
        exact ⟨c, t, fz, by rw [e]; exact e2⟩)
      gi_wp2_with fail
      refine ⟨hc5, KeepB.of f5 (fun k hkb => (hki k hkb).2), ⟨t' + 1, by omega, HUP2.out, below_a ?_ A5, f5.cell c3 (fun e => by have e' : w.heap.size = gr := e; omega), f5.cell c5 (fun e => by have e' : w.heap.size + 1 + 1 = gr := e; omega), f5.cell c6 (fun e => by have e' : w2.heap.size = gr := e; omega), Nat.le_trans hsW' f5.size⟩, q1.trans hc5, q2.trans (KeepB.of f5 (fun k hkb e => by
        have := hkl k hkb
        omega))⟩
      rw [show nk - (t' + 1) = li by have := HLI.out; omega, HDR.out]
      rfl
    case done2 =>
      rintro xs W' rfl ⟨⟨t', ht', hp, hF, h3, h5, h6, hs⟩, q1, q2⟩
      clear HA4 d3 d5 d6 hR4 hbi k1 k2
      have htt : t' = nk := by have := congrArg List.length hp; simpa [uptoB_length] using this.symm
      subst htt
      have HF : Hid (BelowAt w (w.heap.size + 1) gr m nb suf B (nb - (t + 1)) (suf (nb - (t + 1))) W' (fun k => if k = lo then .slice (some ⟨g2, 0, none⟩) (m + 1) c2 else D k)) := by
        have elo : lo = nb - (t + 1) := by have := HLO.out; omega
        refine below_lo elo (below_a ?_ hF)
        rw [Nat.sub_self, List.drop_zero, ← elo, HSU.out]
      clear hF
      gi_wp2_with fail
      exact ⟨q1, q2, t + 1, by omega, HUP.out, ⟨_, HF.out⟩, h3, h5, h6, by omega⟩
    case stop2 =>
      rintro c pre' W' _ h
      exact h.elim
  case done =>
    rintro Dd xs W rfl ⟨t, D, ht, hp, hF, h3, h5, h6, hs⟩ hK hD
    clear HA4 c30 c50 c60 hL4 hbx F04
    have htt : t = nb := by have := congrArg List.length hp; simpa [uptoB_length] using this.symm
    rw [htt, Nat.sub_self] at hF
    have hF2 := hF.keep h0 (Fr.putObj (M := fun k => k = Dd) W rfl (.deferred none)) (fun k e => ⟨by omega, fun c t f e2 => by rw [e, hK] at e2; cases e2⟩)
    have HF : Hid (BelowAt w (w.heap.size + 1) gr m nb suf B 0 (suf 0) (W.putObj Dd (.deferred none)) D) := hF2
    clear hF hF2
    gi_wp2
    refine ⟨by simp, .inl ⟨_, _, rfl, run_takeDeferred hK, ?_⟩⟩
    exact ⟨_, results_tmp rfl _ _ _, w.heap.size + 1, D, rfl, by omega, fun k hk => ⟨HF.out.cell k hk, HF.out.rows k (Nat.zero_le _) hk⟩, HF.out.fr⟩
  case stop =>
    rintro D c pre W _ h _ _
    exact h.elim

end Go.Proofs.Ytoophkpmbinmlaa
