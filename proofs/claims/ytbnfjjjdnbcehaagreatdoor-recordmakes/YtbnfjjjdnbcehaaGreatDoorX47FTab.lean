/- What is proved here: contracts for RecordMakes. Conditions: as named. -/
import Derived.Test.YtbnfjjjdnbcehaaGreatDoorXFLast
import Derived.Test.YtbnfjjjdnbcehaaGreatDoorXFRound
import Derived.Test.YtbnfjjjdnbcehaaGreatDoorXFHunks
set_option maxHeartbeats 16000000
namespace Go.Proofs.YtbnfjjjdnbcehaaGreatDoor.Diff
open Go.RowKit
set_option maxRecDepth 100000
structure Tab (base : Nat) (w : World) (g0 sz : Nat) (R : Nat → Value) : Prop where
 lt : g0 < base
 cell : ∀ i, i < sz → w.cell? ⟨g0, i, none⟩ = some (R i)
 frz : ∀ i, w.frozen? ⟨g0, i, none⟩ = false
 own : ∀ i, i < sz → ∃ vs, OwnV base w 171 (R i) vs
 apart : ∀ i j k, i < sz → j < sz → i ≠ j → Zr (R i) k → ¬ Zr (R j) k
theorem Zs {w w' : World} {k o : Nat} (h : w'.heap[k]? = w.heap[k]?) : w'.frozen? ⟨k, o, none⟩ = w.frozen? ⟨k, o, none⟩ := by
 unfold World.frozen?
 rw [h]
theorem Tab.blk {base : Nat} {w : World} {g0 sz : Nat} {R : Nat → Value} (h : Tab base w g0 sz R) (h0 : 0 < sz) : ∃ c t f, w.heap[g0]? = some (.cells c t f) := by
 have := h.cell 0 h0
 unfold World.cell? at this
 split at this
 ·exact ⟨_, _, _, by assumption⟩
 ·cases this
theorem own_cells {base : Nat} {w : World} {e : TypeId} {v : Value} {vs : List Value} (h : OwnV base w e v vs) {k : Nat} (hk : Zr v k) : ∃ c t f, w.heap[k]? = some (.cells c t f) := by
 rcases h.2 with ⟨hv, _⟩ | ⟨g, cap, cur, hv, hb, hh, _⟩
 ·rw [Zr, hv] at hk; cases hk
 ·rw [Zr, hv] at hk; cases hk; exact ⟨_, _, _, hh⟩
theorem Tab.fr {M : Nat → Prop} {base : Nat} {w w' : World} {g0 sz : Nat} {R : Nat → Value} (h : Tab base w g0 sz R) (h0 : 0 < sz) (f : Fr M w w') (hg : ¬ M g0) (ho : ∀ i k, i < sz → Zr (R i) k → ¬ M k) : Tab base w' g0 sz R := by
 have hlt : g0 < w.heap.size := Zq (h.cell 0 h0)
 exact ⟨h.lt, fun i hi => f.cell (h.cell i hi) hg, fun i => (Zs (f.block g0 hlt hg)).trans (h.frz i), fun i hi => let ⟨vs, hv⟩ := h.own i hi; ⟨vs, hv.fr f (fun k hk => ho i k hi hk)⟩, h.apart⟩
theorem Tab.put {base : Nat} {w w1 : World} {g0 sz i : Nat} {R : Nat → Value} {v : Value} {vs : List Value} (h : Tab base w g0 sz R) (hi : i < sz) (hv : OwnV base w1 171 v vs) (f : Fr (Zr (R i)) w w1) (ho : ∀ k, Zr v k → Zr (R i) k ∨ k = w.heap.size) :
  Tab base (w1.setCell ⟨g0, i, none⟩ v) g0 sz (fun j => if j = i then v else R j) ∧ Fr (fun k => k = g0 ∨ Zr (R i) k) w (w1.setCell ⟨g0, i, none⟩ v) ∧ OwnV base (w1.setCell ⟨g0, i, none⟩ v) 171 v vs := by
 have hlt : g0 < w.heap.size := Zq (h.cell i hi)
 have hng : ∀ j k, j < sz → Zr (R j) k → k ≠ g0 := fun j k hj hk e => by
  obtain ⟨vs, hv⟩ := h.own j hj
  have := (hv.lt hk).1
  have := h.lt
  omega
 have hnv : ∀ k, Zr v k → k ≠ g0 := fun k hk e => by
  have := (hv.lt hk).1
  have := h.lt
  omega
 have f2 : Fr (fun k => k = g0) w1 (w1.setCell ⟨g0, i, none⟩ v) := Fr.setCell (M := fun k => k = g0) w1 (a := ⟨g0, i, none⟩) rfl _
 have hg1 : ¬ Zr (R i) g0 := fun e => hng i g0 hi e rfl
 have c1 : ∀ j, j < sz → w1.cell? ⟨g0, j, none⟩ = some (R j) := fun j hj => f.cell (h.cell j hj) hg1
 refine ⟨⟨h.lt, fun j hj => ?_, fun j => ?_, fun j hj => ?_, fun j j' k hj hj' hne hk hk' => ?_⟩, ?_, hv.fr f2 hnv⟩
 ·by_cases e : j = i
  ·subst e
   rw [if_pos rfl]
   exact World.cell?_setCell_same' _ _ _ (by rw [c1 j hj]; rfl)
  ·rw [if_neg e, World.cell?_setCell_other]
   ·exact c1 j hj
   ·simp
 ·rw [World.frozen?_setCell, Zs (f.block g0 hlt hg1)]
  exact h.frz j
 ·by_cases e : j = i
  ·subst e
   rw [if_pos rfl]
   exact ⟨vs, hv.fr f2 hnv⟩
  ·rw [if_neg e]
   obtain ⟨us, hu⟩ := h.own j hj
   exact ⟨us, (hu.fr f (fun k hk hk' => h.apart j i k hj hi e hk hk')).fr f2 (fun k hk => hng j k hj hk)⟩
 ·have old : ∀ j' k, j' < sz → j' ≠ i → Zr v k → ¬ Zr (R j') k := fun j' k hj' hne hk hk' => by
   rcases ho k hk with h1 | h1
   ·exact h.apart i j' k hi hj' (fun e => hne e.symm) h1 hk'
   ·obtain ⟨us, hu⟩ := h.own j' hj'
    have := (hu.lt hk').2
    omega
  by_cases e : j = i
  ·rw [if_pos e] at hk
   have e' : j' ≠ i := fun h => hne (by rw [e, h])
   rw [if_neg e'] at hk'
   exact old j' k hj' e' hk hk'
  ·rw [if_neg e] at hk
   by_cases e' : j' = i
   ·rw [if_pos e'] at hk'
    exact old j k hj e hk' hk
   ·rw [if_neg e'] at hk'
    exact h.apart j j' k hj hj' hne hk hk'
 ·exact (f.mono (fun k hk => Or.inr hk)).then (f2.mono (fun k hk => Or.inl hk))
theorem keeps_of_fr {M : Nat → Prop} {w w' : World} (f : Fr M w w') (h : ∀ k, M k → ∃ c t fz, w.heap[k]? = some (.cells c t fz)) : KeepsOthers w w' :=
 ⟨f.size, fun k o hk ho => f.at hk (fun e => by
  obtain ⟨c, t, fz, e2⟩ := h k e
  rw [hk] at e2
  cases e2
  cases ho)⟩
structure FillAt (base g0 sz m : Nat) (w0 : World) (R0 : Nat → Value) (X : Nat → Prop) (Lb a B : List Int) (lo : Nat) (w : World) (R : Nat → Value) : Prop where
 tab : Tab base w g0 sz R
 rows : ∀ i, lo ≤ i → i ≤ Lb.length → Yw base w (R i) (m + 1) (rowK (Lb.drop i ++ a) B)
 far : ∀ i k, i < sz → Zr (R i) k → ¬ X k
 new : ∀ i k, i < sz → Zr (R i) k → Zr (R0 i) k ∨ w0.heap.size ≤ k
 fr : Fr (fun k => k = g0 ∨ ∃ i, i < sz ∧ Zr (R0 i) k) w0 w
theorem fillAt_lo {base g0 sz m : Nat} {w0 : World} {R0 : Nat → Value} {X : Nat → Prop} {Lb a B : List Int} {lo lo' : Nat} {A : World} {R : Nat → Value} (e : lo = lo') (h : FillAt base g0 sz m w0 R0 X Lb a B lo A R) : FillAt base g0 sz m w0 R0 X Lb a B lo' A R := e ▸ h
theorem FillAt.keep {base g0 sz m : Nat} {w0 : World} {R0 : Nat → Value} {X : Nat → Prop} {Lb a B : List Int} {lo : Nat} {A C : World} {R : Nat → Value} (h : FillAt base g0 sz m w0 R0 X Lb a B lo A R) (hl : Lb.length < sz) {Y : Nat → Prop} (f : Fr Y A C) (hY : ∀ k, Y k → w0.heap.size ≤ k ∧ Za A k) : FillAt base g0 sz m w0 R0 X Lb a B lo C R := by
 have h0 : 0 < sz := by omega
 have nc : ∀ {k c t fz}, A.heap[k]? = some (.cells c t fz) → ¬ Y k := fun hk hy => (hY _ hy).2 _ _ _ hk
 have hg : ¬ Y g0 := by
  obtain ⟨c, t, fz, e⟩ := h.tab.blk h0
  exact nc e
 have ho : ∀ i k, i < sz → Zr (R i) k → ¬ Y k := fun i k hi hk => by
  obtain ⟨vs, hv⟩ := h.tab.own i hi
  obtain ⟨c, t, fz, e⟩ := own_cells hv hk
  exact nc e
 exact ⟨h.tab.fr h0 f hg ho, fun i h1 h2 => (h.rows i h1 h2).fr f (fun k hk => ho i k (by omega) hk), h.far, h.new, h.fr.trans f (fun i e => Or.inr (hY i e).1)⟩
theorem FillAt.step {base g0 sz m lo c : Nat} {w0 : World} {R0 : Nat → Value} {X : Nat → Prop} {Lb a B : List Int} {w w2 w3 : World} {R : Nat → Value} {g' : Nat} (h : FillAt base g0 sz m w0 R0 X Lb a B (lo + 1) w R) (hlo : lo < Lb.length) (hl : Lb.length < sz)
  (t2 : Tab base w2 g0 sz (fun j => if j = lo then .slice (some ⟨g', 0, none⟩) (m + 1) c else R j)) (f2 : Fr (fun k => k = g0 ∨ Zr (R lo) k) w w2) (hn : Zr (R lo) g' ∨ g' = w.heap.size) (hb : base ≤ g')
  (r3 : Yw base w3 (.slice (some ⟨g', 0, none⟩) (m + 1) c) (m + 1) (rowK (Lb.drop lo ++ a) B)) (f3 : Fr (fun k => k = g') w2 w3) (hX : ∀ k, X k → k < w.heap.size) (hw : w0.heap.size ≤ w.heap.size) :
  FillAt base g0 sz m w0 R0 X Lb a B lo w3 (fun j => if j = lo then .slice (some ⟨g', 0, none⟩) (m + 1) c else R j) ∧ Fr (fun k => k = g0 ∨ Zr (R lo) k) w w3 := by
 have h0 : 0 < sz := by omega
 have hls : lo < sz := by omega
 have hg : g0 ≠ g' := by have := h.tab.lt; omega
 have f23 : Fr (fun k => k = g0 ∨ Zr (R lo) k) w w3 := f2.trans f3 (fun k e => by
  rcases hn with hn | hn
  ·exact Or.inl (Or.inr (e ▸ hn))
  ·exact Or.inr (by omega))
 have own' : ∀ k, Zr (.slice (some ⟨g', 0, none⟩) (m + 1) c) k → k = g' := fun k hk => by
  unfold Zr at hk; cases hk; rfl
 have other : ∀ j k, j < sz → j ≠ lo → Zr (R j) k → k ≠ g' := fun j k hj hne hk e => by
  rcases hn with hn | hn
  ·exact h.tab.apart j lo k hj hls hne hk (e ▸ hn)
  ·obtain ⟨vs, hv⟩ := h.tab.own j hj
   have := (hv.lt hk).2
   omega
 refine ⟨⟨?_, fun i h1 h2 => ?_, fun i k hi hk => ?_, fun i k hi hk => ?_, ?_⟩, f23⟩
 ·refine ⟨t2.lt, fun i hi => f3.cell (t2.cell i hi) hg, fun i => (Zs (f3.block g0 (Zq (t2.cell lo hls)) hg)).trans (t2.frz i), fun i hi => ?_, t2.apart⟩
  by_cases e : i = lo
  ·subst e
   rw [if_pos rfl]
   exact ⟨_, r3⟩
  ·obtain ⟨vs, hv⟩ := t2.own i hi
   rw [if_neg e] at hv ⊢
   exact ⟨vs, hv.fr f3 (fun k hk => other i k hi e hk)⟩
 ·by_cases e : i = lo
  ·subst e
   rw [if_pos rfl]
   exact r3
  ·rw [if_neg e]
   refine (h.rows i (by omega) h2).fr f23 (fun k hk => ?_)
   rintro (e1 | e1)
   ·obtain ⟨vs, hv⟩ := h.tab.own i (by omega)
    have := (hv.lt hk).1
    have := h.tab.lt
    omega
   ·exact h.tab.apart i lo k (by omega) hls e hk e1
 ·by_cases e : i = lo
  ·rw [if_pos e] at hk
   have := own' k hk
   subst this
   rcases hn with hn | hn
   ·exact h.far lo k hls hn
   ·intro hx
    have := hX k hx
    omega
  ·rw [if_neg e] at hk
   exact h.far i k hi hk
 ·by_cases e : i = lo
  ·rw [if_pos e] at hk
   have := own' k hk
   subst this
   rcases hn with hn | hn
   ·rw [e]; exact h.new lo k hls hn
   ·exact Or.inr (by omega)
  ·rw [if_neg e] at hk
   exact h.new i k hi hk
 ·refine h.fr.trans f23 (fun k e => ?_)
  rcases e with e | e
  ·exact Or.inl (Or.inl e)
  ·rcases h.new lo k hls e with e | e
   ·exact Or.inl (Or.inr ⟨lo, hls, e⟩)
   ·exact Or.inr e
end Go.Proofs.YtbnfjjjdnbcehaaGreatDoor.Diff
namespace Go.Proofs.YtbnfjjjdnbcehaaGreatDoor.Diff
open Go.RowKit Go.Shelf
set_option maxRecDepth 100000
attribute [local go_sem] run_store_float Oper.semAt_some
theorem fr_drew (M : Nat → Prop) (w : World) : Fr M w w.drew := ⟨rfl, rfl, rfl, Nat.le_refl _, fun _ _ _ => rfl⟩
theorem app_row {base bd n c' gd cd m : Nat} {va : Option Addr} {f : Nat → Option Nat} {vs : List Value} {w : World} (hv : OwnV base w 171 (.slice va n c') vs) (hn : vs.length = n) (hD : Yw bd w (.slice (some ⟨gd, 0, none⟩) m cd) m f) (hm : m ≤ 4220) (h0 : 0 < m) (hb : base ≤ w.heap.size) :
  ∃ g' c1 w1, (Builtin.append_ #[181, 181] 181 #[.slice va 0 c', .slice (some ⟨gd, 0, none⟩) m cd]).run Tryz.prog w = .ok (.slice (some ⟨g', 0, none⟩) m c1) w1 ∧ Yw base w1 (.slice (some ⟨g', 0, none⟩) m c1) m f ∧ Fr (Zr (.slice va n c')) w w1 ∧ (∀ k, Zr (.slice (some ⟨g', 0, none⟩) m c1) k → Zr (.slice va n c') k ∨ k = w.heap.size) := by
 subst hn
 obtain ⟨v1, w1, h1, h2, h3, h4⟩ := append_run oneF 181 hv.zero (va := some ⟨gd, 0, none⟩) (c := cd) (k := m) (m := (List.range m).map (fun i => flV (f i))) (by simp) hD.row (fun e => by cases e) (fls_one m f) (by simp; omega) hb
 rw [List.nil_append] at h2
 obtain ⟨g', c1, rfl, _, _⟩ := Yw.slice (n := m) h2 h0
 have own : ∀ k, Zr (.slice va 0 c') k → Zr (.slice va vs.length c') k := fun k hk => by
  unfold Zr at *
  cases va with
  | none => cases hk
  | some a => exact hk
 exact ⟨g', c1, w1, h1, h2, h3.mono own, fun k hk => (own_or h4 hk).imp (own k) id⟩
theorem fill_any (base bd g0 sz m c0 cb ck gd cd nb : Nat) (vb vk : Option Addr) (R0 : Nat → Value) (Lb a B : List Int) (w : World)
  (hT : Tab base w g0 sz R0) (hsz : sz ≤ 4220) (hnb : Lb.length = nb) (hl : nb < sz) (hK : RowV w vk (ints Lb)) (hB : RowV w vb (ints B)) (hm : B.length = m) (hbm : m ≤ 4120) (hba : Lb.length + a.length ≤ 4120)
  (hD : Yw bd w (.slice (some ⟨gd, 0, none⟩) (m + 1) cd) (m + 1) (rowK a B)) (hk : ∀ x, vk = some x → x.block < base ∧ x.block ≠ g0) (hbo : ∀ x, vb = some x → x.block < base ∧ x.block ≠ g0) (_hgd : gd < base ∧ gd ≠ g0) (hbw : base ≤ w.heap.size) :
  Calls Tryz.prog 169 #[.slice (some ⟨g0, 0, none⟩) sz c0, .slice vk nb ck, .slice vb m cb, .slice (some ⟨gd, 0, none⟩) (m + 1) cd] w fun e w' => (∃ v, e = .returned v) ∧ ∃ R, Tab base w' g0 sz R ∧ (∀ i, i ≤ Lb.length → Yw base w' (R i) (m + 1) (rowK (Lb.drop i ++ a) B)) ∧ (∀ i k, i < sz → Zr (R i) k → Zr (R0 i) k ∨ w.heap.size ≤ k) ∧ Fr (fun k => k = g0 ∨ ∃ i, i < sz ∧ Zr (R0 i) k) w w' := by
 have HN : Hid (Lb.length = nb) := hnb
 have HM : Hid (B.length = m) := hm
 have HBA : Hid (nb + a.length ≤ 4120) := by rw [hnb] at hba; exact hba
 clear hnb hm hba
 have i1 : (m : Int) ≤ 4120 := by omega
 have i2 : (nb : Int) < (sz : Int) := by omega
 have i3 : (sz : Int) ≤ 4220 := by omega
 have i0 : (0 : Int) ≤ (nb : Int) := by omega
 have h0 : 0 < sz := by omega
 obtain ⟨w1, hw1⟩ : ∃ w1, (w.alloc (.cells #[.slice (some ⟨g0, 0, none⟩) sz c0] 178)).alloc (.cells #[.slice vb m cb] 122) = w1 := ⟨_, rfl⟩
 have F1 : Fr None' w w1 := hw1 ▸ (Fr.alloc None' w _).then (Fr.alloc None' _ _)
 have hs1 : w1.heap.size = w.heap.size + 2 := by rw [← hw1]; simp
 have b4 : w1.cell? ⟨w.heap.size, 0, none⟩ = some (.slice (some ⟨g0, 0, none⟩) sz c0) := by rw [← hw1]; simp
 have b6 : w1.cell? ⟨w.heap.size + 1, 0, none⟩ = some (.slice vb m cb) := by rw [← hw1]; simp
 have T1 := hT.fr h0 F1 (fun e => e) (fun _ _ _ _ e => e)
 have D1 : Yw bd w1 (.slice (some ⟨gd, 0, none⟩) (m + 1) cd) (m + 1) (rowK a B) := hD.fr F1 (fun _ _ e => e)
 obtain ⟨us, hu⟩ := T1.own nb hl
 obtain ⟨va, c', hva, _, _, _, _⟩ := hu.slice
 have hu' : OwnV base w1.drew 171 (.slice va us.length c') us := hva ▸ hu
 obtain ⟨g', c1, w2, hr, r2, f2, o2⟩ := app_row hu' rfl (w := w1.drew) D1 (by omega) (by omega) (by show base ≤ w1.heap.size; omega)
 have f2' : Fr (Zr (R0 nb)) w1 w2 := by rw [hva]; exact (fr_drew _ w1).then f2
 obtain ⟨T3, F3, r3⟩ := T1.put hl r2 f2' (fun k e => by rw [hva]; exact o2 k e)
 have own1 : ∀ i k, i < sz → Zr (R0 i) k → base ≤ k ∧ k < w.heap.size := fun i k hi hk => by
  obtain ⟨vs, hv⟩ := hT.own i hi
  exact hv.lt hk
 have n4 : ¬ Zr (R0 nb) w.heap.size := fun e => by have := (own1 nb _ hl e).2; omega
 have n6 : ¬ Zr (R0 nb) (w.heap.size + 1) := fun e => by have := (own1 nb _ hl e).2; omega
 have ng : ¬ Zr (R0 nb) g0 := fun e => by have := (own1 nb _ hl e).1; have := hT.lt; omega
 have b4' := f2'.cell b4 n4
 have c2 := T1.cell nb hl
 have c2' := f2'.cell c2 ng
 have z2 : w2.frozen? ⟨g0, nb, none⟩ = false := (Zs (f2'.block g0 (Zq c2) ng)).trans (T1.frz nb)
 have b4s := F3.cell b4 (fun e => e.elim (fun e => by have e' : w.heap.size = g0 := e; have := hT.lt; omega) n4)
 rw [hva] at c2 c2'
 refine (callsIn_wide (n := 3)).1 ?_
 refine callsIn_of_wp_marks Tryz.func169 rfl trivial ?_ rfl
 simp only [Tryz.ntmps169, List.size_toArray, List.length_cons, List.length_nil, Nat.reduceAdd, Nat.reduceSub, Array.replicate_succ, Array.replicate_zero, List.push_toArray, List.append_toArray, List.nil_append, List.cons_append]
 gi_wp2_with fail
 refine region_wide (S := fun v => v.cell? ⟨w.heap.size, 0, none⟩ = some (.slice (some ⟨g0, 0, none⟩) sz c0)) (by kernel_rfl) b4 (fun hHeld => ?_)
 refine wpAnyH_take (i := 0) (oi := _) (v := ?_) rfl (by decide +kernel) (by decide +kernel) (by decide +kernel) (fun _ _ _ h => h) (Or.inl ⟨by rfl, ?_⟩) hHeld ?_
 rotate_left
 ·intro wq hSw
  first
   | (go_simp; done)
   | (go_simp; with_reducible rfl)
 try simp only [Act.put, List.getElem_toArray, List.getElem_cons_zero, List.setIfInBounds_toArray, List.set_cons_zero, List.set_cons_succ]
 refine wpAnyH_take (i := 1) (oi := _) (v := ?_) rfl (by decide +kernel) (by decide +kernel) (by decide +kernel) (fun _ _ _ h => h) (Or.inl ⟨by rfl, ?_⟩) hHeld ?_
 rotate_left
 ·intro wq hSw
  first
   | (go_simp; done)
   | (go_simp; with_reducible rfl)
 try simp only [Act.put, List.getElem_toArray, List.getElem_cons_zero, List.getElem_cons_succ, List.setIfInBounds_toArray, List.set_cons_zero, List.set_cons_succ]
 refine wpAnyH_take (i := 2) (oi := _) (v := ?_) rfl (by decide +kernel) (by decide +kernel) (by decide +kernel) (fun _ _ _ h => h) (Or.inl ⟨by rfl, ?_⟩) hHeld ?_
 rotate_left
 ·intro wq hSw
  first
   | (go_simp; done)
   | (go_simp; with_reducible rfl)
 try simp only [Act.put, List.getElem_toArray, List.getElem_cons_zero, List.getElem_cons_succ, List.setIfInBounds_toArray, List.set_cons_zero, List.set_cons_succ]
 refine wpAnyH_take (i := 3) (oi := _) (v := ?_) rfl (by decide +kernel) (by decide +kernel) (by decide +kernel) (fun _ _ _ h => h) (Or.inl ⟨by rfl, ?_⟩) hHeld ?_
 rotate_left
 ·intro wq hSw
  first
   | (go_simp; done)
   | (go_simp; with_reducible rfl)
 try simp only [Act.put, List.getElem_toArray, List.getElem_cons_zero, List.getElem_cons_succ, List.setIfInBounds_toArray, List.set_cons_zero, List.set_cons_succ]
 refine wpAnyH_take (i := 4) (oi := _) (v := ?_) rfl (by decide +kernel) (by decide +kernel) (by decide +kernel) (fun _ _ _ h => h) (Or.inl ⟨by rfl, ?_⟩) hHeld ?_
 rotate_left
 ·intro wq hSw
  first
   | (go_simp; done)
   | (go_simp; with_reducible rfl)
 try simp only [Act.put, List.getElem_toArray, List.getElem_cons_zero, List.getElem_cons_succ, List.setIfInBounds_toArray, List.set_cons_zero, List.set_cons_succ]
 refine wpAnyH_take (i := 5) (oi := _) (v := ?_) rfl (by decide +kernel) (by decide +kernel) (by decide +kernel) (fun _ _ _ h => h) (Or.inl ⟨by rfl, ?_⟩) hHeld ?_
 rotate_left
 ·intro wq hSw
  first
   | (go_simp; done)
   | (go_simp; with_reducible rfl)
 try simp only [Act.put, List.getElem_toArray, List.getElem_cons_zero, List.getElem_cons_succ, List.setIfInBounds_toArray, List.set_cons_zero, List.set_cons_succ]
 refine wpAnyH_take (i := 6) (oi := _) (v := ?_) rfl (by decide +kernel) (by decide +kernel) (by decide +kernel) (fun _ _ _ h => h) (Or.inl ⟨by rfl, ?_⟩) hHeld ?_
 rotate_left
 ·intro wq hSw
  first
   | (go_simp; done)
   | (go_simp; with_reducible rfl)
 try simp only [Act.put, List.getElem_toArray, List.getElem_cons_zero, List.getElem_cons_succ, List.setIfInBounds_toArray, List.set_cons_zero, List.set_cons_succ]
 refine wpAnyH_take (i := 9) (oi := _) (v := ?_) rfl (by decide +kernel) (by decide +kernel) (by decide +kernel) (fun _ _ _ h => h) (Or.inl ⟨by rfl, ?_⟩) hHeld ?_
 rotate_left
 ·intro wq hSw
  first
   | (go_simp; done)
   | (go_simp; with_reducible rfl)
 try simp only [Act.put, List.getElem_toArray, List.getElem_cons_zero, List.getElem_cons_succ, List.setIfInBounds_toArray, List.set_cons_zero, List.set_cons_succ]
 refine wpAnyH_ready (rs := [7]) (by decide +kernel) (by simp) ?_
 refine AllReadyH.cons rfl (fun K hK => ?_) AllReadyH.nil
 go_simp
 refine hK.out _ _ b4 (fun hHeld => ?_)
 clear hK K
 try simp only [Act.put, List.getElem_toArray, List.getElem_cons_zero, List.getElem_cons_succ, List.setIfInBounds_toArray, List.set_cons_zero, List.set_cons_succ]
 refine wpAnyH_take (i := 8) (oi := _) (v := ?_) rfl (by decide +kernel) (by decide +kernel) (by decide +kernel) (fun _ _ _ h => h) (Or.inl ⟨by rfl, ?_⟩) hHeld ?_
 rotate_left
 ·intro wq hSw
  first
   | (go_simp; done)
   | (go_simp; with_reducible rfl)
 try simp only [Act.put, List.getElem_toArray, List.getElem_cons_zero, List.getElem_cons_succ, List.setIfInBounds_toArray, List.set_cons_zero, List.set_cons_succ]
 refine wpAnyH_ready (rs := [10]) (by decide +kernel) (by simp) ?_
 refine AllReadyH.cons rfl (fun K hK => ?_) AllReadyH.nil
 refine step_app rfl _ _ rfl rfl rfl hr ?_
 refine hK.out _ _ b4' (fun hHeld => ?_)
 clear hK K
 try simp only [Act.put, List.getElem_toArray, List.getElem_cons_zero, List.getElem_cons_succ, List.setIfInBounds_toArray, List.set_cons_zero, List.set_cons_succ]
 refine wpAnyH_take (i := 11) (oi := _) (v := ?_) rfl (by decide +kernel) (by decide +kernel) (by decide +kernel) (fun _ _ _ h => h) (Or.inl ⟨by rfl, ?_⟩) hHeld ?_
 rotate_left
 ·intro wq hSw
  first
   | (go_simp; done)
   | (go_simp; with_reducible rfl)
 try simp only [Act.put, List.getElem_toArray, List.getElem_cons_zero, List.getElem_cons_succ, List.setIfInBounds_toArray, List.set_cons_zero, List.set_cons_succ]
 refine wpAnyH_ready (rs := [12]) (by decide +kernel) (by simp) ?_
 refine AllReadyH.cons rfl (fun K hK => ?_) AllReadyH.nil
 go_simp
 refine hK.out _ _ b4s (fun hHeld => ?_)
 clear hK K
 try simp only [Act.put, List.getElem_toArray, List.getElem_cons_zero, List.getElem_cons_succ, List.setIfInBounds_toArray, List.set_cons_zero, List.set_cons_succ]
 refine wpAnyH_done (by decide +kernel) (onlyN ?_) _
 have b6s : (w2.setCell ⟨g0, nb, none⟩ (.slice (some ⟨g', 0, none⟩) (m + 1) c1)).cell? ⟨w.heap.size + 1, 0, none⟩ = some (.slice vb m cb) := F3.cell b6 (fun e => e.elim (fun e => by have e' : w.heap.size + 1 = g0 := e; have := hT.lt; omega) n6)
 have hO : ∀ k, Zr (.slice (some ⟨g', 0, none⟩) (m + 1) c1) k → Zr (R0 nb) k ∨ k = w1.heap.size := fun k e => by rw [hva]; exact o2 k e
 clear hHeld b4 b4' b6 c2 c2' z2 hr f2 o2 hu hu' hw1 r2
 generalize w2.setCell ⟨g0, nb, none⟩ (.slice (some ⟨g', 0, none⟩) (m + 1) c1) = w3 at *
 gi_wp2_with fail
 refine ⟨trivial, (callsIn_wide.2 (backI_any vk nb ck w3)).mono ?_⟩
 rintro e w4 ⟨rfl, hw4⟩
 have hs3 := F3.size
 have F4 : Fr None' w3 w4 := hw4 ▸ Fr.alloc None' w3 _
 have hs4 : w4.heap.size = w3.heap.size + 1 := by rw [hw4]; simp
 have hbx : w4.cell? ⟨w3.heap.size, 0, none⟩ = some (.slice vk nb ck) := by rw [hw4]; simp
 clear hw4
 have hX : ∀ i k, i < sz → Zr (if i = nb then .slice (some ⟨g', 0, none⟩) (m + 1) c1 else R0 i) k → Zr (R0 i) k ∨ k = w1.heap.size := fun i k hi hk => by
  by_cases e : i = nb
  ·subst e
   rw [if_pos rfl] at hk
   exact hO k hk
  ·rw [if_neg e] at hk
   exact Or.inl hk
 have hg'3 : g' < w3.heap.size := (OwnV.lt r3 (k := g') rfl).2
 have A0 : FillAt base g0 sz m w R0 (fun k => k = w.heap.size ∨ k = w.heap.size + 1 ∨ k = w3.heap.size) Lb a B nb w4 (fun i => if i = nb then .slice (some ⟨g', 0, none⟩) (m + 1) c1 else R0 i) := by
  refine ⟨T3.fr h0 F4 (fun e => e) (fun _ _ _ _ e => e), fun i h1 h2 => ?_, fun i k hi hk => ?_, fun i k hi hk => ?_, ?_⟩
  ·have e : i = nb := by have := HN.out; omega
   rw [if_pos e, e, List.drop_of_length_le (by rw [HN.out]; exact Nat.le_refl _), List.nil_append]
   exact Yw.fr (M := None') r3 F4 (fun _ _ e => e)
  ·intro hx
   rcases hX i k hi hk with e | e
   ·have := (own1 i k hi e).2
    rcases hx with hx | hx | hx <;> omega
   ·by_cases e2 : i = nb
    ·rw [if_pos e2] at hk
     have e3 : k = g' := by unfold Zr at hk; cases hk; rfl
     rcases hx with hx | hx | hx <;> omega
    ·rw [if_neg e2] at hk
     have := (own1 i k hi hk).2
     rcases hx with hx | hx | hx <;> omega
  ·exact (hX i k hi hk).imp id (fun e => by omega)
  ·exact ((F1.mono (fun _ e => e.elim)).then (F3.mono (fun k e => e.imp id (fun e => ⟨nb, hl, e⟩)))).then (F4.mono (fun _ e => e.elim))
 have a40 := F4.cell b4s (fun e => e)
 have a60 := F4.cell b6s (fun e => e)
 have hK4 : RowV w4 vk (ints Lb) := hK.fr A0.fr (fun x e => by
  rintro (e2 | ⟨i, hi, e2⟩)
  ·exact (hk x e).2 e2
  ·have := (own1 i _ hi e2).1
   have := (hk x e).1
   omega)
 have HA0 : Hid (FillAt base g0 sz m w R0 (fun k => k = w.heap.size ∨ k = w.heap.size + 1 ∨ k = w3.heap.size) Lb a B nb w4 (fun i => if i = nb then .slice (some ⟨g', 0, none⟩) (m + 1) c1 else R0 i)) := A0
 have hkl : ∀ k, BackR w3.heap.size vk k → k < w4.heap.size ∧ k ≠ g0 ∧ (k < base ∨ k = w3.heap.size) := fun k hkb => by
  rcases hkb with e | ⟨x, e1, e2⟩
  ·have := hT.lt; omega
  ·have := hk x e1; omega
 clear A0 hX b4s b6s T3 F3 r3 T1 f2' n4 n6 ng hK F4 D1 hT
 gi_wp2_with fail
 refine range_own (α := Nat × Value) rfl (by omega) (gf := 225) (lb := #[.pointer (some ⟨w3.heap.size, 0, none⟩)]) rfl trivial (enters_of Tryz.func225 (by kernel_rfl) rfl) (backI_seq w3.heap.size _ ck vk (ints Lb) nb (by rw [Z9]; exact HN.out) (by omega))
  (fun k hk => hk.elim) (fun W hb => ⟨(Grew.of hb).cell hbx (fun e => e), hK4.fr (Grew.of hb) (Off.no _)⟩) Zh.trans (fun W l o hl => Zh.put W (fun k hkb e => by have := (hkl k hkb).1; omega) o) (fun _ => rfl)
  (fun pre W => ∃ t R, t ≤ nb ∧ pre = Zj (ints Lb) t ∧ FillAt base g0 sz m w R0 (fun k => k = w.heap.size ∨ k = w.heap.size + 1 ∨ k = w3.heap.size) Lb a B (nb - t) W R ∧ W.cell? ⟨w.heap.size, 0, none⟩ = some (.slice (some ⟨g0, 0, none⟩) sz c0) ∧ W.cell? ⟨w.heap.size + 1, 0, none⟩ = some (.slice vb m cb) ∧ w4.heap.size ≤ W.heap.size)
  (fun _ _ _ => False)
  ?hI (fun _ _ _ _ h _ => h) ⟨0, _, Nat.zero_le _, rfl, HA0.out, a40, a60, Nat.le_refl _⟩
  (fun x => { tmps := #[.slice (some ⟨g0, 0, none⟩) sz c0, .slice vk nb ck, .slice vb m cb, .slice (some ⟨gd, 0, none⟩) (m + 1) cd, .pointer (some ⟨w.heap.size, 0, none⟩), undef, .pointer (some ⟨w.heap.size + 1, 0, none⟩), undef, .int .i64 x.1, x.2, .slice (some ⟨g0, 0, none⟩) sz c0, .slice vk nb ck, .int .i64 nb, .slice (some ⟨g0, 0, none⟩) sz c0, .slice vk nb ck, .int .i64 nb, .pointer (some ⟨g0, nb, none⟩), .slice va us.length c', .slice va 0 c', .slice (some ⟨gd, 0, none⟩) (m + 1) cd, .slice (some ⟨g', 0, none⟩) (m + 1) c1, .pointer (some ⟨g0, nb, none⟩), .slice vk nb ck, .func (.func 225) #[] #[.pointer (some ⟨w3.heap.size, 0, none⟩)], .int .i64 x.1, x.2, undef, undef, undef, undef, undef, undef, undef, undef, undef, undef, undef, undef, undef, undef, undef, undef, undef, undef, undef, undef, undef], defers := [] }) ?assign ?body ?done ?stop
 case hI =>
  rintro pre A C ⟨t, R, ht, hp, hF, h4, h6, hs⟩ f
  have nc : ∀ {b : Nat} {v : Value}, A.cell? ⟨b, 0, none⟩ = some v → ¬ (None' b ∨ (w4.heap.size ≤ b ∧ Za A b)) := fun hc e => by
   rcases e with e | ⟨_, e⟩
   ·exact e
   ·unfold World.cell? at hc
    split at hc
    ·exact e _ _ _ (by assumption)
    ·cases hc
  exact ⟨t, R, ht, hp, hF.keep (by rw [HN.out]; exact hl) f (fun k e => by
   rcases e with e | ⟨e1, e2⟩
   ·exact e.elim
   ·exact ⟨by omega, e2⟩), f.cell h4 (nc h4), f.cell h6 (nc h6), Nat.le_trans hs f.size⟩
 case assign =>
  intro l x W K hK
  gi_wp2
  exact hK
 case body =>
  clear HA0 a40 a60 hK4 hbx
  rintro l pre x W ⟨t, R, ht, rfl, hF, a4, a6, hsW⟩ ⟨t', ht', hpre⟩ hlw ⟨rc, hrc⟩
  obtain ⟨t2, rfl, hp2, hx⟩ := uptoB_snoc hpre
  have htt : t = t2 := by have := congrArg List.length hp2; simpa [Zd] using this
  subst htt
  obtain ⟨lo, hlo⟩ : ∃ lo, nb - t = lo + 1 := ⟨nb - t - 1, by omega⟩
  have hloL : lo < Lb.length := by rw [HN.out]; omega
  have hx2 : x = (lo, .int .i64 Lb[lo]) := by
   rw [hx, elB_get (k := lo) (by rw [Z9, HN.out]; omega), ints_get hloL]
  obtain ⟨line, hline⟩ : ∃ line, Lb[lo] = line := ⟨_, rfl⟩
  rw [hline] at hx2
  have HUP : Hid (Zj (ints Lb) t ++ [x] = Zj (ints Lb) (t + 1)) := hpre
  have HDR : Hid (Lb.drop lo = line :: Lb.drop (lo + 1)) := by
   show _ = _
   rw [List.drop_eq_getElem_cons hloL, hline]
  rw [hlo] at hF
  have HLO : Hid (nb - t = lo + 1) := hlo
  subst hx2
  clear hpre hp2 hx hline hlo
  have hls : lo < sz := by have := HN.out; omega
  have j1 : (lo : Int) < (sz : Int) := by omega
  have j0 : (0 : Int) ≤ (lo : Int) := by omega
  have j2 : (lo : Int) + 1 < (sz : Int) := by have := HN.out; omega
  have j3 : (0 : Int) ≤ (lo : Int) + 1 := by omega
  have jw : IntKind.i64.wrap ((lo : Int) + 1) = (lo : Int) + 1 := by rw [IntKind.wrap_i64]; omega
  have jt : ((lo : Int) + 1).toNat = lo + 1 := by omega
  have TW := hF.tab
  have rs := hF.rows (lo + 1) (Nat.le_refl _) hloL
  obtain ⟨gs, cs, hgs, _, _⟩ := rs.slice (by omega)
  have aN := TW.cell (lo + 1) (by omega)
  rw [hgs] at rs aN
  obtain ⟨us2, hu2⟩ := TW.own lo hls
  obtain ⟨vo, co, hvo, _, _, _, _⟩ := hu2.slice
  have hu2' : OwnV base W.drew 171 (.slice vo us2.length co) us2 := hvo ▸ hu2
  obtain ⟨g2, c2, W2, hr, r2, f2, o2⟩ := app_row hu2' rfl (w := W.drew) rs (by omega) (by omega) (by show base ≤ W.heap.size; omega)
  have f2' : Fr (Zr (R lo)) W W2 := by rw [hvo]; exact (fr_drew _ W).then f2
  have o2' : ∀ k, Zr (.slice (some ⟨g2, 0, none⟩) (m + 1) c2) k → Zr (R lo) k ∨ k = W.heap.size := fun k e => by rw [hvo]; exact o2 k e
  obtain ⟨T3, F3, r3⟩ := TW.put hls r2 f2' o2'
  have n4 : ¬ Zr (R lo) w.heap.size := fun e => hF.far lo _ hls e (Or.inl rfl)
  have n6 : ¬ Zr (R lo) (w.heap.size + 1) := fun e => hF.far lo _ hls e (Or.inr (Or.inl rfl))
  have hlt := TW.lt
  have ng : ¬ Zr (R lo) g0 := fun e => by have := (hu2.lt e).1; omega
  have a4' := f2'.cell a4 n4
  have cl := TW.cell lo hls
  have cl' := f2'.cell cl ng
  have aN' := f2'.cell aN ng
  have z2 : W2.frozen? ⟨g0, lo, none⟩ = false := (Zs (f2'.block g0 (Zq cl) ng)).trans (TW.frz lo)
  have a4s := F3.cell a4 (fun e => e.elim (fun e => by have e' : w.heap.size = g0 := e; omega) n4)
  have a6s := F3.cell a6 (fun e => e.elim (fun e => by have e' : w.heap.size + 1 = g0 := e; omega) n6)
  have aNs := T3.cell (lo + 1) (by have := HN.out; omega)
  rw [if_neg (by omega), hgs] at aNs
  have ag := T3.cell lo hls
  rw [if_pos rfl] at ag
  have hg2 : Zr (R lo) g2 ∨ g2 = W.heap.size := o2' g2 rfl
  have hb2 : base ≤ g2 := (OwnV.lt r3 (k := g2) rfl).1
  have hBW : RowV (W2.setCell ⟨g0, lo, none⟩ (.slice (some ⟨g2, 0, none⟩) (m + 1) c2)) vb (ints B) := (hB.fr hF.fr (fun x e => by
   rintro (e2 | ⟨i, hi, e2⟩)
   ·exact (hbo x e).2 e2
   ·have := (own1 i _ hi e2).1
    have := (hbo x e).1
    omega)).fr F3 (fun x e => by
   rintro (e2 | e2)
   ·exact (hbo x e).2 e2
   ·have := (hu2.lt e2).1
    have := (hbo x e).1
    omega)
  have cP := putAhead_any base g2 c2 m cb vb B (Lb.drop (lo + 1) ++ a) line (W2.setCell ⟨g0, lo, none⟩ (.slice (some ⟨g2, 0, none⟩) (m + 1) c2)).drew hBW HM.out hbm (by have := HBA.out; have := HN.out; simp; omega) r3 (fun x e => by
   show ¬ x.block = g2
   have := (hbo x e).1
   omega)
  have e4 : ¬ w.heap.size = g2 := fun e => hg2.elim (fun h => n4 (e ▸ h)) (fun h => by omega)
  have e6 : ¬ w.heap.size + 1 = g2 := fun e => hg2.elim (fun h => n6 (e ▸ h)) (fun h => by omega)
  have eg : ¬ g0 = g2 := by omega
  rw [hvo] at cl cl'
  have HF : Hid (FillAt base g0 sz m w R0 (fun k => k = w.heap.size ∨ k = w.heap.size + 1 ∨ k = w3.heap.size) Lb a B (lo + 1) W R) := hF
  have HT3 : Hid (Tab base (W2.setCell ⟨g0, lo, none⟩ (.slice (some ⟨g2, 0, none⟩) (m + 1) c2)) g0 sz (fun j => if j = lo then .slice (some ⟨g2, 0, none⟩) (m + 1) c2 else R j)) := T3
  clear hF T3 TW rs r2 f2 o2 o2' hBW hu2' hB
  gi_wp2_with fail
  refine region_round (S := (fun v => v.cell? ⟨w.heap.size, 0, none⟩ = some (.slice (some ⟨g0, 0, none⟩) sz c0) ∧ v.cell? ⟨g0, lo + 1, none⟩ = some (.slice (some ⟨gs, 0, none⟩) (m + 1) cs))) (by kernel_rfl) (by decide +kernel) ⟨a4, aN⟩ (fun hHeld => ?_)
  refine wpAnyH_take (i := 0) (oi := _) (v := ?_) rfl (by decide +kernel) (by decide +kernel) (by decide +kernel) (fun _ _ _ h => h) (Or.inl ⟨by rfl, ?_⟩) hHeld ?_
  rotate_left
  ·intro wq hSw
   first
    | (go_simp; done)
    | (go_simp; with_reducible rfl)
  try simp only [Act.put, List.getElem_toArray, List.getElem_cons_zero, List.setIfInBounds_toArray, List.set_cons_zero, List.set_cons_succ]
  refine wpAnyH_take (i := 1) (oi := _) (v := ?_) rfl (by decide +kernel) (by decide +kernel) (by decide +kernel) (fun _ _ _ h => h) (Or.inl ⟨by rfl, ?_⟩) hHeld ?_
  rotate_left
  ·intro wq hSw
   first
    | (go_simp; done)
    | (go_simp; with_reducible rfl)
  try simp only [Act.put, List.getElem_toArray, List.getElem_cons_zero, List.getElem_cons_succ, List.setIfInBounds_toArray, List.set_cons_zero, List.set_cons_succ]
  refine wpAnyH_take (i := 2) (oi := _) (v := ?_) rfl (by decide +kernel) (by decide +kernel) (by decide +kernel) (fun _ _ _ h => h) (Or.inl ⟨by rfl, ?_⟩) hHeld ?_
  rotate_left
  ·intro wq hSw
   first
    | (go_simp; done)
    | (go_simp; with_reducible rfl)
  try simp only [Act.put, List.getElem_toArray, List.getElem_cons_zero, List.getElem_cons_succ, List.setIfInBounds_toArray, List.set_cons_zero, List.set_cons_succ]
  refine wpAnyH_take (i := 3) (oi := _) (v := ?_) rfl (by decide +kernel) (by decide +kernel) (by decide +kernel) (fun _ _ _ h => h) (Or.inl ⟨by rfl, ?_⟩) hHeld ?_
  rotate_left
  ·intro wq hSw
   first
    | (go_simp; done)
    | (go_simp; with_reducible rfl)
  try simp only [Act.put, List.getElem_toArray, List.getElem_cons_zero, List.getElem_cons_succ, List.setIfInBounds_toArray, List.set_cons_zero, List.set_cons_succ]
  refine wpAnyH_take (i := 4) (oi := _) (v := ?_) rfl (by decide +kernel) (by decide +kernel) (by decide +kernel) (fun _ _ _ h => h) (Or.inl ⟨by rfl, ?_⟩) hHeld ?_
  rotate_left
  ·intro wq hSw
   first
    | (go_simp; done)
    | (go_simp; with_reducible rfl)
  try simp only [Act.put, List.getElem_toArray, List.getElem_cons_zero, List.getElem_cons_succ, List.setIfInBounds_toArray, List.set_cons_zero, List.set_cons_succ]
  refine wpAnyH_take (i := 7) (oi := _) (v := ?_) rfl (by decide +kernel) (by decide +kernel) (by decide +kernel) (fun _ _ _ h => h) (Or.inl ⟨by rfl, ?_⟩) hHeld ?_
  rotate_left
  ·intro wq hSw
   first
    | (go_simp; done)
    | (go_simp; with_reducible rfl)
  try simp only [Act.put, List.getElem_toArray, List.getElem_cons_zero, List.getElem_cons_succ, List.setIfInBounds_toArray, List.set_cons_zero, List.set_cons_succ]
  refine wpAnyH_take (i := 8) (oi := _) (v := ?_) rfl (by decide +kernel) (by decide +kernel) (by decide +kernel) (fun _ _ _ h => h) (Or.inl ⟨by rfl, ?_⟩) hHeld ?_
  rotate_left
  ·intro wq hSw
   first
    | (go_simp; done)
    | (go_simp; with_reducible rfl)
  try simp only [Act.put, List.getElem_toArray, List.getElem_cons_zero, List.getElem_cons_succ, List.setIfInBounds_toArray, List.set_cons_zero, List.set_cons_succ]
  refine wpAnyH_take (i := 9) (oi := _) (v := ?_) rfl (by decide +kernel) (by decide +kernel) (by decide +kernel) (fun _ _ _ h => h) (Or.inl ⟨by rfl, ?_⟩) hHeld ?_
  rotate_left
  ·intro wq hSw
   first
    | (go_simp; done)
    | (go_simp; with_reducible rfl)
  try simp only [Act.put, List.getElem_toArray, List.getElem_cons_zero, List.getElem_cons_succ, List.setIfInBounds_toArray, List.set_cons_zero, List.set_cons_succ]
  refine wpAnyH_take (i := 10) (oi := _) (v := ?_) rfl (by decide +kernel) (by decide +kernel) (by decide +kernel) (fun _ _ _ h => h) (Or.inl ⟨by rfl, ?_⟩) hHeld ?_
  rotate_left
  ·intro wq hSw
   first
    | (go_simp; done)
    | (go_simp; with_reducible rfl)
  try simp only [Act.put, List.getElem_toArray, List.getElem_cons_zero, List.getElem_cons_succ, List.setIfInBounds_toArray, List.set_cons_zero, List.set_cons_succ]
  refine wpAnyH_take (i := 11) (oi := _) (v := ?_) rfl (by decide +kernel) (by decide +kernel) (by decide +kernel) (fun _ _ _ h => h) (Or.inl ⟨by rfl, ?_⟩) hHeld ?_
  rotate_left
  ·intro wq hSw
   first
    | (go_simp; done)
    | (go_simp; with_reducible rfl)
  try simp only [Act.put, List.getElem_toArray, List.getElem_cons_zero, List.getElem_cons_succ, List.setIfInBounds_toArray, List.set_cons_zero, List.set_cons_succ]
  refine wpAnyH_ready (rs := [5]) (by decide +kernel) (by simp) ?_
  refine AllReadyH.cons rfl (fun K hK => ?_) AllReadyH.nil
  go_simp
  refine hK.out _ _ ⟨a4, aN⟩ (fun hHeld => ?_)
  clear hK K
  try simp only [Act.put, List.getElem_toArray, List.getElem_cons_zero, List.getElem_cons_succ, List.setIfInBounds_toArray, List.set_cons_zero, List.set_cons_succ]
  refine wpAnyH_take (i := 6) (oi := _) (v := ?_) rfl (by decide +kernel) (by decide +kernel) (by decide +kernel) (fun _ _ _ h => h) (Or.inl ⟨by rfl, ?_⟩) hHeld ?_
  rotate_left
  ·intro wq hSw
   first
    | (go_simp; done)
    | (go_simp; with_reducible rfl)
  try simp only [Act.put, List.getElem_toArray, List.getElem_cons_zero, List.getElem_cons_succ, List.setIfInBounds_toArray, List.set_cons_zero, List.set_cons_succ]
  refine wpAnyH_ready (rs := [12]) (by decide +kernel) (by simp) ?_
  refine AllReadyH.cons rfl (fun K hK => ?_) AllReadyH.nil
  refine step_app rfl _ _ rfl rfl rfl hr ?_
  refine hK.out _ _ ⟨a4', aN'⟩ (fun hHeld => ?_)
  clear hK K
  try simp only [Act.put, List.getElem_toArray, List.getElem_cons_zero, List.getElem_cons_succ, List.setIfInBounds_toArray, List.set_cons_zero, List.set_cons_succ]
  refine wpAnyH_take (i := 13) (oi := _) (v := ?_) rfl (by decide +kernel) (by decide +kernel) (by decide +kernel) (fun _ _ _ h => h) (Or.inl ⟨by rfl, ?_⟩) hHeld ?_
  rotate_left
  ·intro wq hSw
   first
    | (go_simp; done)
    | (go_simp; with_reducible rfl)
  try simp only [Act.put, List.getElem_toArray, List.getElem_cons_zero, List.getElem_cons_succ, List.setIfInBounds_toArray, List.set_cons_zero, List.set_cons_succ]
  refine wpAnyH_ready (rs := [14]) (by decide +kernel) (by simp) ?_
  refine AllReadyH.cons rfl (fun K hK => ?_) AllReadyH.nil
  go_simp
  refine hK.out _ _ ⟨a4s, aNs⟩ (fun hHeld => ?_)
  clear hK K
  try simp only [Act.put, List.getElem_toArray, List.getElem_cons_zero, List.getElem_cons_succ, List.setIfInBounds_toArray, List.set_cons_zero, List.set_cons_succ]
  refine wpAnyH_done (by decide +kernel) (onlyN ?_) _
  gi_wp2_with fail
  refine region_round (S := (fun v => v.cell? ⟨w.heap.size, 0, none⟩ = some (.slice (some ⟨g0, 0, none⟩) sz c0) ∧ v.cell? ⟨w.heap.size + 1, 0, none⟩ = some (.slice vb m cb) ∧ v.cell? ⟨g0, lo, none⟩ = some (.slice (some ⟨g2, 0, none⟩) (m + 1) c2))) (by kernel_rfl) (by decide +kernel) ⟨a4s, a6s, ag⟩ (fun hHeld => ?_)
  refine wpAnyH_take (i := 0) (oi := _) (v := ?_) rfl (by decide +kernel) (by decide +kernel) (by decide +kernel) (fun _ _ _ h => h) (Or.inl ⟨by rfl, ?_⟩) hHeld ?_
  rotate_left
  ·intro wq hSw
   first
    | (go_simp; done)
    | (go_simp; with_reducible rfl)
  try simp only [Act.put, List.getElem_toArray, List.getElem_cons_zero, List.setIfInBounds_toArray, List.set_cons_zero, List.set_cons_succ]
  refine wpAnyH_take (i := 1) (oi := _) (v := ?_) rfl (by decide +kernel) (by decide +kernel) (by decide +kernel) (fun _ _ _ h => h) (Or.inl ⟨by rfl, ?_⟩) hHeld ?_
  rotate_left
  ·intro wq hSw
   first
    | (go_simp; done)
    | (go_simp; with_reducible rfl)
  try simp only [Act.put, List.getElem_toArray, List.getElem_cons_zero, List.getElem_cons_succ, List.setIfInBounds_toArray, List.set_cons_zero, List.set_cons_succ]
  refine wpAnyH_take (i := 2) (oi := _) (v := ?_) rfl (by decide +kernel) (by decide +kernel) (by decide +kernel) (fun _ _ _ h => h) (Or.inl ⟨by rfl, ?_⟩) hHeld ?_
  rotate_left
  ·intro wq hSw
   first
    | (go_simp; done)
    | (go_simp; with_reducible rfl)
  try simp only [Act.put, List.getElem_toArray, List.getElem_cons_zero, List.getElem_cons_succ, List.setIfInBounds_toArray, List.set_cons_zero, List.set_cons_succ]
  refine wpAnyH_take (i := 3) (oi := _) (v := ?_) rfl (by decide +kernel) (by decide +kernel) (by decide +kernel) (fun _ _ _ h => h) (Or.inl ⟨by rfl, ?_⟩) hHeld ?_
  rotate_left
  ·intro wq hSw
   first
    | (go_simp; done)
    | (go_simp; with_reducible rfl)
  try simp only [Act.put, List.getElem_toArray, List.getElem_cons_zero, List.getElem_cons_succ, List.setIfInBounds_toArray, List.set_cons_zero, List.set_cons_succ]
  refine wpAnyH_take (i := 4) (oi := _) (v := ?_) rfl (by decide +kernel) (by decide +kernel) (by decide +kernel) (fun _ _ _ h => h) (Or.inl ⟨by rfl, ?_⟩) hHeld ?_
  rotate_left
  ·intro wq hSw
   first
    | (go_simp; done)
    | (go_simp; with_reducible rfl)
  try simp only [Act.put, List.getElem_toArray, List.getElem_cons_zero, List.getElem_cons_succ, List.setIfInBounds_toArray, List.set_cons_zero, List.set_cons_succ]
  refine wpAnyH_take (i := 5) (oi := _) (v := ?_) rfl (by decide +kernel) (by decide +kernel) (by decide +kernel) (fun _ _ _ h => h) (Or.inl ⟨by rfl, ?_⟩) hHeld ?_
  rotate_left
  ·intro wq hSw
   first
    | (go_simp; done)
    | (go_simp; with_reducible rfl)
  try simp only [Act.put, List.getElem_toArray, List.getElem_cons_zero, List.getElem_cons_succ, List.setIfInBounds_toArray, List.set_cons_zero, List.set_cons_succ]
  refine wpAnyH_ready (rs := [6]) (by decide +kernel) (by simp) ?_
  refine AllReadyH.cons rfl (fun K hK => ?_) AllReadyH.nil
  go_simp
  refine cP.mono ?_
  rintro e W5 ⟨⟨vr, rfl⟩, r5, f5⟩
  refine hK.out _ _ ⟨f5.cell a4s e4, f5.cell a6s e6, f5.cell ag eg⟩ (fun hHeld => ?_)
  clear hK K
  try simp only [Act.put, List.getElem_toArray, List.getElem_cons_zero, List.getElem_cons_succ, List.setIfInBounds_toArray, List.set_cons_zero, List.set_cons_succ]
  refine wpAnyH_done (by decide +kernel) (onlyN ?_) _
  gi_wp2_with fail
  have hsz2 : Lb.length < sz := by have := HN.out; omega
  have r6 : Yw base W5 (.slice (some ⟨g2, 0, none⟩) (m + 1) c2) (m + 1) (rowK (Lb.drop lo ++ a) B) := by rw [HDR.out]; exact r5
  obtain ⟨A5, F5⟩ := HF.out.step hloL hsz2 HT3.out F3 hg2 hb2 r6 ((fr_drew _ _).then f5) (fun k e => by rcases e with e | e | e <;> omega) (by omega)
  have hgb := HF.out.tab.blk h0
  have A6 := A5
  have elo : lo = nb - (t + 1) := by have := HLO.out; omega
  refine ⟨keeps_of_fr F5 (fun k e => e.elim (fun e => e ▸ hgb) (fun e => own_cells hu2 e)), Zh.of F5 (fun k hkb e => ?_), t + 1, _, by have := HLO.out; omega, HUP.out, fillAt_lo elo A6, f5.cell a4s e4, f5.cell a6s e6, Nat.le_trans hsW F5.size⟩
  ·obtain ⟨_, k2, k3⟩ := hkl k hkb
   rcases e with e | e
   ·exact k2 e
   ·rcases k3 with k3 | k3
    ·have := (hu2.lt e).1
     omega
    ·exact HF.out.far lo k hls e (Or.inr (Or.inr k3))
 case done =>
  rintro D xs W rfl ⟨t, R, ht, hp, hF, _, _, hs⟩ hK hD
  clear HA0 a40 a60 hK4 hbx
  have htt : t = nb := by have := congrArg List.length hp; simpa [Zd] using this.symm
  rw [htt, Nat.sub_self] at hF
  have hsz2 : Lb.length < sz := by have := HN.out; omega
  have hF2 := hF.keep hsz2 (Fr.putObj (M := fun k => k = D) W rfl (.deferred none)) (fun k e => ⟨by omega, fun c t f e2 => by rw [e, hK] at e2; cases e2⟩)
  have HF : Hid (FillAt base g0 sz m w R0 (fun k => k = w.heap.size ∨ k = w.heap.size + 1 ∨ k = w3.heap.size) Lb a B 0 (W.putObj D (.deferred none)) R) := hF2
  clear hF hF2
  gi_wp2
  refine ⟨by simp, .inl ⟨_, _, rfl, run_takeDeferred hK, ?_⟩⟩
  exact ⟨_, results_none rfl _ _ _, ⟨_, rfl⟩, R, HF.out.tab, fun i hi => HF.out.rows i (Nat.zero_le _) hi, HF.out.new, HF.out.fr⟩
 case stop =>
  rintro D c pre W _ h _ _
  exact h.elim
end Go.Proofs.YtbnfjjjdnbcehaaGreatDoor.Diff
namespace Go.Proofs.YtbnfjjjdnbcehaaGreatDoor.Diff
open Go.RowKit Go.Shelf
set_option maxRecDepth 100000
attribute [local go_sem] run_store_float Oper.semAt_some
theorem own_mono {base base' : Nat} {w : World} {e : TypeId} {v : Value} {n : Nat} {xs : List Value} (h : w.ownsRow base e 1 v n xs) (hb : base' ≤ base) : w.ownsRow base' e 1 v n xs := by
 refine ⟨h.1, ?_⟩
 rcases h.2 with h | ⟨g, cap, cur, hv, hg, h⟩
 ·exact Or.inl h
 ·exact Or.inr ⟨g, cap, cur, hv, Nat.le_trans hb hg, h⟩
theorem cell_new1 (w : World) (e : TypeId) (x : Value) : (w.alloc (.cells #[x] e)).cell? ⟨w.heap.size, 0, none⟩ = some x := by simp
theorem cell_new2 {w : World} {n : Nat} (hn : w.heap.size = n) (e : TypeId) (x : Value) : (w.alloc (.cells #[x] e)).cell? ⟨n, 0, none⟩ = some x := hn ▸ cell_new1 w e x
theorem no_cells {A : World} {b o base : Nat} {v : Value} (hc : A.cell? ⟨b, o, none⟩ = some v) : ¬ (None' b ∨ (base ≤ b ∧ Za A b)) := fun e => by
 rcases e with e | ⟨_, e⟩
 ·exact e
 ·unfold World.cell? at hc
  split at hc
  ·exact e _ _ _ (by assumption)
  ·cases hc
structure Yq (w0 : World) (gB gr m nb : Nat) (suf : Nat → List Int) (B : List Int) (lo : Nat) (a : List Int) (W : World) (D : Nat → Value) : Prop where
 cell : ∀ k, k < nb → W.cell? ⟨gB, k, none⟩ = some (D k)
 frz : ∀ k, W.frozen? ⟨gB, k, none⟩ = false
 rows : ∀ k, lo ≤ k → k < nb → Yw w0.heap.size W (D k) (m + 1) (rowK (suf (k + 1)) B)
 row : Yw w0.heap.size W (.slice (some ⟨gr, 0, none⟩) (m + 1) (m + 1)) (m + 1) (rowK a B)
 apart : ∀ k j, lo ≤ k → k < nb → Zr (D k) j → j ≠ gr ∧ j ≠ gB
 ne : gB ≠ gr
 low : w0.heap.size ≤ gB ∧ w0.heap.size ≤ gr
 fr : Fr None' w0 W
theorem Yw.lt {base : Nat} {w : World} {g n c : Nat} {f : Nat → Option Nat} (h : Yw base w (.slice (some ⟨g, 0, none⟩) n c) n f) : base ≤ g ∧ g < w.heap.size := OwnV.lt h (k := g) rfl
theorem Yq.keep {w0 : World} {gB gr m nb : Nat} {suf : Nat → List Int} {B : List Int} {lo : Nat} {a : List Int} {A C : World} {D : Nat → Value} (h : Yq w0 gB gr m nb suf B lo a A D) (h0 : 0 < nb) {Y : Nat → Prop} (f : Fr Y A C) (hY : ∀ k, Y k → w0.heap.size ≤ k ∧ Za A k) : Yq w0 gB gr m nb suf B lo a C D := by
 have nc : ∀ {k c t fz}, A.heap[k]? = some (.cells c t fz) → ¬ Y k := fun hk hy => (hY _ hy).2 _ _ _ hk
 have blk : ∀ {g o v}, A.cell? ⟨g, o, none⟩ = some v → ¬ Y g := fun hc => by
  unfold World.cell? at hc
  split at hc
  ·exact nc (by assumption)
  ·cases hc
 have hg : ¬ Y gB := blk (h.cell 0 h0)
 have own : ∀ {v vs}, OwnV w0.heap.size A 171 v vs → ∀ k, Zr v k → ¬ Y k := fun hv k hk => by
  obtain ⟨c, t, fz, e⟩ := own_cells hv hk
  exact nc e
 exact ⟨fun k hk => f.cell (h.cell k hk) hg, fun k => (Zs (f.block gB (Zq (h.cell 0 h0)) hg)).trans (h.frz k), fun k h1 h2 => (h.rows k h1 h2).fr f (own (h.rows k h1 h2)), h.row.fr f (own h.row), h.apart, h.ne, h.low, h.fr.trans f (fun i e => Or.inr (hY i e).1)⟩
theorem Yq.put {w0 : World} {gB gr m nb : Nat} {suf : Nat → List Int} {B : List Int} {lo : Nat} {W W2 : World} {D : Nat → Value} {v : Value} (h : Yq w0 gB gr m nb suf B (lo + 1) (suf (lo + 1)) W D) (hl : lo < nb) (f : Fr None' W W2) (hv : Yw W.heap.size W2 v (m + 1) (rowK (suf (lo + 1)) B)) :
  Yq w0 gB gr m nb suf B lo (suf (lo + 1)) (W2.setCell ⟨gB, lo, none⟩ v) (fun k => if k = lo then v else D k) ∧ Fr (fun k => k = gB) W (W2.setCell ⟨gB, lo, none⟩ v) := by
 have f2 : Fr (fun k => k = gB) W2 (W2.setCell ⟨gB, lo, none⟩ v) := Fr.setCell (M := fun k => k = gB) W2 (a := ⟨gB, lo, none⟩) rfl _
 have hBlt := Zq (h.cell lo hl)
 have hBlt' : gB < W.heap.size := hBlt
 have hwW := h.fr.size
 have c1 : ∀ k, k < nb → W2.cell? ⟨gB, k, none⟩ = some (D k) := fun k hk => f.cell (h.cell k hk) (fun e => e)
 have nv : ∀ j, Zr v j → W.heap.size ≤ j := fun j hj => (OwnV.lt hv hj).1
 have hgr := h.row.lt
 have lower : Yw w0.heap.size W2 v (m + 1) (rowK (suf (lo + 1)) B) := Yw.of (own_mono hv.own hwW)
 refine ⟨⟨fun k hk => ?_, fun k => ?_, fun k h1 h2 => ?_, ?_, fun k j h1 h2 hj => ?_, h.ne, h.low, ?_⟩, (f.mono (fun _ e => e.elim)).then f2⟩
 ·by_cases e : k = lo
  ·subst e
   rw [if_pos rfl]
   exact World.cell?_setCell_same' _ _ _ (by rw [c1 k hk]; rfl)
  ·rw [if_neg e, World.cell?_setCell_other]
   ·exact c1 k hk
   ·simp
 ·rw [World.frozen?_setCell, Zs (f.block gB hBlt' (fun e => e))]
  exact h.frz k
 ·by_cases e : k = lo
  ·subst e
   rw [if_pos rfl]
   exact lower.fr f2 (fun j hj e => by have := nv j hj; omega)
  ·rw [if_neg e]
   exact ((h.rows k (by omega) h2).fr f (fun _ _ e => e)).fr f2 (fun j hj => (h.apart k j (by omega) h2 hj).2)
 ·refine (h.row.fr f (fun _ _ e => e)).fr f2 (fun j hj e => ?_)
  unfold Zr at hj
  cases hj
  exact h.ne e.symm
 ·by_cases e : k = lo
  ·rw [if_pos e] at hj
   have := nv j hj
   omega
  ·rw [if_neg e] at hj
   exact h.apart k j (by omega) h2 hj
 ·exact (h.fr.then f).trans f2 (fun i e => Or.inr (by have := h.low.1; omega))
theorem Yq.line {w0 : World} {gB gr m nb : Nat} {suf : Nat → List Int} {B : List Int} {lo : Nat} {a a' : List Int} {W W2 : World} {D : Nat → Value} (h : Yq w0 gB gr m nb suf B lo a W D) (h0 : 0 < nb) (f : Fr (fun k => k = gr) W W2) (hr : Yw w0.heap.size W2 (.slice (some ⟨gr, 0, none⟩) (m + 1) (m + 1)) (m + 1) (rowK a' B)) :
  Yq w0 gB gr m nb suf B lo a' W2 D :=
 ⟨fun k hk => f.cell (h.cell k hk) h.ne, fun k => (Zs (f.block gB (Zq (h.cell 0 h0)) h.ne)).trans (h.frz k), fun k h1 h2 => (h.rows k h1 h2).fr f (fun j hj => (h.apart k j h1 h2 hj).1), hr, h.apart, h.ne, h.low, h.fr.trans f (fun i e => Or.inr (by have := h.low.2; omega))⟩
theorem below_a {w0 : World} {gB gr m nb : Nat} {suf : Nat → List Int} {B : List Int} {lo : Nat} {a a' : List Int} {W : World} {D : Nat → Value} (e : a = a') (h : Yq w0 gB gr m nb suf B lo a W D) : Yq w0 gB gr m nb suf B lo a' W D := e ▸ h
theorem below_lo {w0 : World} {gB gr m nb : Nat} {suf : Nat → List Int} {B : List Int} {lo lo' : Nat} {a : List Int} {W : World} {D : Nat → Value} (e : lo = lo') (h : Yq w0 gB gr m nb suf B lo a W D) : Yq w0 gB gr m nb suf B lo' a W D := e ▸ h
theorem rowsBelow_any (m cb nb cl : Nat) (vb vl : Option Addr) (Vs : List Value) (vk : Nat → Option Addr) (ck : Nat → Nat) (Lk suf : Nat → List Int) (B : List Int) (w : World)
  (hnb : Vs.length = nb) (h0 : 0 < nb) (hnb9 : nb ≤ 4120) (hL : RowV w vl Vs) (hV : ∀ k, k < nb → Vs[k]? = some (.slice (vk k) (Lk k).length (ck k)) ∧ RowV w (vk k) (ints (Lk k))) (hB : RowV w vb (ints B)) (hm : B.length = m) (hm0 : 0 < m) (hbm : m ≤ 4120) (hne : ∀ k, k < nb → 0 < (Lk k).length)
  (hs0 : suf nb = []) (hs : ∀ k, k < nb → suf k = Lk k ++ suf (k + 1)) (hba : ∀ k, (suf k).length ≤ 4120) :
  Calls Tryz.prog 167 #[.slice vl nb cl, .slice vb m cb] w fun e w' => ∃ (gB : Nat) (D : Nat → Value), e = .returned (.slice (some ⟨gB, 0, none⟩) nb nb) ∧ w.heap.size ≤ gB ∧ (∀ k, k < nb → w'.cell? ⟨gB, k, none⟩ = some (D k) ∧ Yw w.heap.size w' (D k) (m + 1) (rowK (suf (k + 1)) B)) ∧ Fr None' w w' := by
 have HN : Hid (Vs.length = nb) := hnb
 have HM : Hid (B.length = m) := hm
 have HS0 : Hid (suf nb = []) := hs0
 have HBA : Hid (∀ k, (suf k).length ≤ 4120) := hba
 have HS : Hid (∀ k, k < nb → suf k = Lk k ++ suf (k + 1)) := hs
 clear hnb hm hba hs hs0
 have i1 : (m : Int) ≤ 4120 := by omega
 have i2 : (nb : Int) ≤ 4120 := by omega
 have i0 : (0 : Int) < (nb : Int) := by omega
 have hmk : ∀ w : World, (Instr.makeSlice 178 (.int .i64 (nb : Int)) (.int .i64 (nb : Int))).run Tryz.prog w = .ok (.slice (some ⟨w.heap.size, 0, none⟩) nb nb) (w.alloc (.cells (madeCells #[.slice none 0 0] nb) 181)) := fun w => run_make_row' 178 181 (.slice none 0 0) 24 Tryz.underlying178 (by kernel_rfl) rfl .i64 .i64 nb (by omega) (by omega) w
 obtain ⟨w1, hw1⟩ : ∃ w1, ((w.alloc (.cells #[.slice vb m cb] 122)).alloc (.cells (madeCells #[.slice none 0 0] nb) 181)).alloc (.cells #[.slice (some ⟨w.heap.size + 1, 0, none⟩) nb nb] 178) = w1 := ⟨_, rfl⟩
 have F1 : Fr None' w w1 := hw1 ▸ ((Fr.alloc None' w _).then (Fr.alloc None' _ _)).then (Fr.alloc None' _ _)
 have hs1 : w1.heap.size = w.heap.size + 3 := by rw [← hw1]; simp
 have b3 : w1.cell? ⟨w.heap.size, 0, none⟩ = some (.slice vb m cb) := hw1 ▸ ((Fr.alloc None' _ _).then (Fr.alloc None' _ _)).cell (cell_new1 w 122 _) (fun e => e)
 have b5 : w1.cell? ⟨w.heap.size + 1 + 1, 0, none⟩ = some (.slice (some ⟨w.heap.size + 1, 0, none⟩) nb nb) := hw1 ▸ cell_new2 (by simp) 178 _
 have rB : w1.rowIs (w.heap.size + 1) 181 nb (fun _ => .slice none 0 0) := by
  have := World.rowIs_made (w.alloc (.cells #[.slice vb m cb] 122)) (.slice none 0 0) nb 181
  rw [World.size_alloc] at this
  rw [← hw1]
  exact this.alloc _
 have cL := lastRow_any vb cb m B w1 HM.out hbm
 refine (callsIn_wide (n := 6)).1 ?_
 refine callsIn_of_wp_marks Tryz.func167 rfl trivial ?_ rfl
 simp only [Tryz.ntmps167, List.size_toArray, List.length_cons, List.length_nil, Nat.reduceAdd, Nat.reduceSub, Array.replicate_succ, Array.replicate_zero, List.push_toArray, List.append_toArray, List.nil_append, List.cons_append]
 gi_wp2_with fail
 refine ⟨trivial, (callsIn_wide.2 cL).mono ?_⟩
 rintro e w2 ⟨gr, rfl, hgr, r2, F2⟩
 have hgr2 := r2.lt.2
 obtain ⟨w3, hw3⟩ : ∃ w3, w2.alloc (.cells #[.slice (some ⟨gr, 0, none⟩) (m + 1) (m + 1)] 181) = w3 := ⟨_, rfl⟩
 have F3 : Fr None' w2 w3 := hw3 ▸ Fr.alloc None' w2 _
 have hs3 : w3.heap.size = w2.heap.size + 1 := by rw [← hw3]; simp
 have b6 : w3.cell? ⟨w2.heap.size, 0, none⟩ = some (.slice (some ⟨gr, 0, none⟩) (m + 1) (m + 1)) := hw3 ▸ cell_new1 w2 181 _
 have F23 := F2.then F3
 have A3 : Yq w (w.heap.size + 1) gr m nb suf B nb (suf nb) w3 (fun _ => .slice none 0 0) := by
  have rB3 := (F23.rowIs rB (fun e => e))
  refine ⟨fun k hk => rB3.cell hk, fun k => rB3.frozen k, fun k h1 h2 => by omega, ?_, fun k j h1 h2 => by omega, by omega, ⟨by omega, by omega⟩, F1.then F23⟩
  rw [HS0.out]
  exact (Yw.of (own_mono r2.own (by omega))).fr F3 (fun _ _ e => e)
 have b33 := F23.cell b3 (fun e => e)
 have b53 := F23.cell b5 (fun e => e)
 clear cL r2 F2 F3 hw1 b3 b5 rB hmk
 gi_wp2_with fail
 refine ⟨trivial, (callsIn_wide.2 (backB_any vl nb cl w3)).mono ?_⟩
 rintro e w4 ⟨rfl, hw4⟩
 have F4 : Fr None' w3 w4 := hw4 ▸ Fr.alloc None' w3 _
 have hs4 : w4.heap.size = w2.heap.size + 1 + 1 := by rw [hw4]; simp [hs3]
 have hbx : w4.cell? ⟨w2.heap.size + 1, 0, none⟩ = some (.slice vl nb cl) := by rw [hw4]; exact cell_new2 hs3 173 _
 clear hw4
 have hs2 : w1.heap.size ≤ w2.heap.size := by omega
 have A4 := A3.keep h0 F4 (fun k e => e.elim)
 have c30 := F4.cell b33 (fun e => e)
 have c50 := F4.cell b53 (fun e => e)
 have c60 := F4.cell b6 (fun e => e)
 have hlow : ∀ x, vl = some x → x.block < w.heap.size := fun x e => by
  obtain ⟨g, o, e2, hc⟩ := hL.get (k := 0) (by rw [HN.out]; exact h0)
  rw [e] at e2
  cases e2
  exact Zq hc
 have F04 := A4.fr
 have HA4 : Hid (Yq w (w.heap.size + 1) gr m nb suf B nb (suf nb) w4 (fun _ => .slice none 0 0)) := A4
 have hL4 : RowV w4 vl Vs := hL.fr F04 (Off.no _)
 have hkl : ∀ k, BackR (w2.heap.size + 1) vl k → k < w4.heap.size ∧ (k < w.heap.size ∨ k = w2.heap.size + 1) := fun k hkb => by
  rcases hkb with e | ⟨x, e1, e2⟩
  ·omega
  ·have := hlow x e1; omega
 clear A3 A4 b33 b53 b6 F4 F23 F1 hw3 hlow
 gi_wp2_with fail
 refine range_own (α := Nat × Value) rfl (by omega) (gf := 224) (lb := #[.pointer (some ⟨w2.heap.size + 1, 0, none⟩)]) rfl trivial (enters_of Tryz.func224 (by kernel_rfl) rfl) (backB_seq (w2.heap.size + 1) _ cl vl Vs nb HN.out (by omega))
  (fun k hk => hk.elim) (fun W hb => ⟨(Grew.of hb).cell hbx (fun e => e), hL4.fr (Grew.of hb) (Off.no _)⟩) Zh.trans (fun W l o hl => Zh.put W (fun k hkb e => by have := (hkl k hkb).1; omega) o) (fun _ => rfl)
  (fun pre W => ∃ t D, t ≤ nb ∧ pre = Zj Vs t ∧ Yq w (w.heap.size + 1) gr m nb suf B (nb - t) (suf (nb - t)) W D ∧ W.cell? ⟨w.heap.size, 0, none⟩ = some (.slice vb m cb) ∧ W.cell? ⟨w.heap.size + 1 + 1, 0, none⟩ = some (.slice (some ⟨w.heap.size + 1, 0, none⟩) nb nb) ∧ W.cell? ⟨w2.heap.size, 0, none⟩ = some (.slice (some ⟨gr, 0, none⟩) (m + 1) (m + 1)) ∧ w4.heap.size ≤ W.heap.size)
  (fun _ _ _ => False)
  ?hI (fun _ _ _ _ h _ => h) ⟨0, _, Nat.zero_le _, rfl, HA4.out, c30, c50, c60, Nat.le_refl _⟩
  (fun x => { tmps := #[.slice vl nb cl, .slice vb m cb, undef, .pointer (some ⟨w.heap.size, 0, none⟩), .slice none 0 0, .pointer (some ⟨w.heap.size + 1 + 1, 0, none⟩), .pointer (some ⟨w2.heap.size, 0, none⟩), .int .i64 x.1, x.2, undef, undef, .slice vl nb cl, .int .i64 nb, .slice (some ⟨w.heap.size + 1, 0, none⟩) nb nb, .slice vb m cb, .slice (some ⟨gr, 0, none⟩) (m + 1) (m + 1), .slice vl nb cl, .func (.func 224) #[] #[.pointer (some ⟨w2.heap.size + 1, 0, none⟩)], .int .i64 x.1, x.2, undef, undef, undef, undef, undef, undef, undef, undef, undef, undef, undef, undef, undef, undef], defers := [] }) ?assign ?body ?done ?stop
 case hI =>
  rintro pre A C ⟨t, D, ht, hp, hF, h3, h5, h6, hs⟩ f
  exact ⟨t, D, ht, hp, hF.keep h0 f (fun k e => by
   rcases e with e | ⟨e1, e2⟩
   ·exact e.elim
   ·exact ⟨by omega, e2⟩), f.cell h3 (no_cells h3), f.cell h5 (no_cells h5), f.cell h6 (no_cells h6), Nat.le_trans hs f.size⟩
 case assign =>
  intro l x W K hK
  gi_wp2
  exact hK
 case body =>
  clear HA4 c30 c50 c60 hL4 hbx F04
  rintro l pre x W ⟨t, D, ht, rfl, hA, c3, c5, c6, hsW⟩ ⟨t', ht', hpre⟩ hlw ⟨rc, hrc⟩
  obtain ⟨t2, rfl, hp2, hx⟩ := uptoB_snoc hpre
  have htt : t = t2 := by have := congrArg List.length hp2; simpa [Zd] using this
  subst htt
  obtain ⟨lo, hlo⟩ : ∃ lo, nb - t = lo + 1 := ⟨nb - t - 1, by omega⟩
  have hlo2 : lo < nb := by omega
  obtain ⟨hVk, hRk⟩ := hV lo hlo2
  have hx2 : x = (lo, .slice (vk lo) (Lk lo).length (ck lo)) := by
   rw [hx, elB_get (k := lo) (by rw [HN.out]; omega)]
   have hlt : lo < Vs.length := by rw [HN.out]; exact hlo2
   rw [List.getElem?_eq_getElem hlt] at hVk
   rw [Option.some.inj hVk]
  obtain ⟨nk, hnk⟩ : ∃ nk, (Lk lo).length = nk := ⟨_, rfl⟩
  rw [hnk] at hx2
  have HNK : Hid ((Lk lo).length = nk) := hnk
  have HUP : Hid (Zj Vs t ++ [x] = Zj Vs (t + 1)) := hpre
  rw [hlo] at hA
  have HLO : Hid (nb - t = lo + 1) := hlo
  have HSU : Hid (suf lo = Lk lo ++ suf (lo + 1)) := HS.out lo hlo2
  have hnk9 : nk ≤ 4120 := by
   have h1 := HBA.out lo
   rw [HSU.out, List.length_append, hnk] at h1
   omega
  subst hx2
  clear hpre hp2 hx hlo hVk hnk
  have j1 : (lo : Int) < (nb : Int) := by omega
  have j0 : (0 : Int) ≤ (lo : Int) := by omega
  have HA : Hid (Yq w (w.heap.size + 1) gr m nb suf B (lo + 1) (suf (lo + 1)) W D) := hA
  have hwW := hA.fr.size
  have hBW := hB.fr hA.fr (Off.no _)
  have hRW := hRk.fr hA.fr (Off.no _)
  have hgrW := hA.row.lt
  have hgrw := hA.low.2
  have hklow : ∀ x, vk lo = some x → x.block < w.heap.size := fun x e => by
   obtain ⟨g, o, e2, hc⟩ := hRk.get (k := 0) (by rw [Z9]; exact hne lo hlo2)
   rw [e] at e2
   cases e2
   exact Zq hc
  have hvlow : ∀ x, vb = some x → x.block < w.heap.size := fun x e => by
   obtain ⟨g, o, e2, hc⟩ := hB.get (k := 0) (by rw [Z9, HM.out]; omega)
   rw [e] at e2
   cases e2
   exact Zq hc
  have cC := clone_any w.heap.size gr (m + 1) (m + 1) (rowK (suf (lo + 1)) B) W.drew (by omega) hA.row
  clear hA hRk
  gi_wp2_with fail
  refine region_round (S := (fun v => v.cell? ⟨w.heap.size + 1 + 1, 0, none⟩ = some (.slice (some ⟨w.heap.size + 1, 0, none⟩) nb nb) ∧ v.cell? ⟨w2.heap.size, 0, none⟩ = some (.slice (some ⟨gr, 0, none⟩) (m + 1) (m + 1)))) (by kernel_rfl) (by decide +kernel) ⟨c5, c6⟩ (fun hHeld => ?_)
  refine wpAnyH_take (i := 0) (oi := _) (v := ?_) rfl (by decide +kernel) (by decide +kernel) (by decide +kernel) (fun _ _ _ h => h) (Or.inl ⟨by rfl, ?_⟩) hHeld ?_
  rotate_left
  ·intro wq hSw
   first
    | (go_simp; done)
    | (go_simp; with_reducible rfl)
  try simp only [Act.put, List.getElem_toArray, List.getElem_cons_zero, List.setIfInBounds_toArray, List.set_cons_zero, List.set_cons_succ]
  refine wpAnyH_take (i := 1) (oi := _) (v := ?_) rfl (by decide +kernel) (by decide +kernel) (by decide +kernel) (fun _ _ _ h => h) (Or.inl ⟨by rfl, ?_⟩) hHeld ?_
  rotate_left
  ·intro wq hSw
   first
    | (go_simp; done)
    | (go_simp; with_reducible rfl)
  try simp only [Act.put, List.getElem_toArray, List.getElem_cons_zero, List.getElem_cons_succ, List.setIfInBounds_toArray, List.set_cons_zero, List.set_cons_succ]
  refine wpAnyH_take (i := 2) (oi := _) (v := ?_) rfl (by decide +kernel) (by decide +kernel) (by decide +kernel) (fun _ _ _ h => h) (Or.inl ⟨by rfl, ?_⟩) hHeld ?_
  rotate_left
  ·intro wq hSw
   first
    | (go_simp; done)
    | (go_simp; with_reducible rfl)
  try simp only [Act.put, List.getElem_toArray, List.getElem_cons_zero, List.getElem_cons_succ, List.setIfInBounds_toArray, List.set_cons_zero, List.set_cons_succ]
  refine wpAnyH_ready (rs := [3]) (by decide +kernel) (by simp) ?_
  refine AllReadyH.cons rfl (fun K hK => ?_) AllReadyH.nil
  go_simp
  refine cC.mono ?_
  rintro e W2 ⟨v, rfl, rv, fv⟩
  obtain ⟨g2, c2, rfl, _, _⟩ := rv.slice (by omega)
  obtain ⟨A2, F2⟩ := HA.out.put hlo2 ((fr_drew None' W).then fv) rv
  have cc : W2.cell? ⟨w.heap.size + 1, lo, none⟩ = some (D lo) := fv.cell (w := W.drew) (HA.out.cell lo hlo2) (fun e => e)
  have zz : W2.frozen? ⟨w.heap.size + 1, lo, none⟩ = false := (Zs (w := W.drew) (fv.block (w.heap.size + 1) (Zq (HA.out.cell lo hlo2)) (fun e => e))).trans (HA.out.frz lo)
  have c5s := F2.cell c5 (fun e => by have e' : w.heap.size + 1 + 1 = w.heap.size + 1 := e; omega)
  have c6s := F2.cell c6 (fun e => by have e' : w2.heap.size = w.heap.size + 1 := e; omega)
  have c3s := F2.cell c3 (fun e => by have e' : w.heap.size = w.heap.size + 1 := e; omega)
  refine hK.out _ _ ⟨fv.cell (w := W.drew) c5 (fun e => e), fv.cell (w := W.drew) c6 (fun e => e)⟩ (fun hHeld => ?_)
  clear hK K
  try simp only [Act.put, List.getElem_toArray, List.getElem_cons_zero, List.getElem_cons_succ, List.setIfInBounds_toArray, List.set_cons_zero, List.set_cons_succ]
  refine wpAnyH_take (i := 4) (oi := _) (v := ?_) rfl (by decide +kernel) (by decide +kernel) (by decide +kernel) (fun _ _ _ h => h) (Or.inl ⟨by rfl, ?_⟩) hHeld ?_
  rotate_left
  ·intro wq hSw
   first
    | (go_simp; done)
    | (go_simp; with_reducible rfl)
  try simp only [Act.put, List.getElem_toArray, List.getElem_cons_zero, List.getElem_cons_succ, List.setIfInBounds_toArray, List.set_cons_zero, List.set_cons_succ]
  refine wpAnyH_ready (rs := [5]) (by decide +kernel) (by simp) ?_
  refine AllReadyH.cons rfl (fun K hK => ?_) AllReadyH.nil
  go_simp
  refine hK.out _ _ ⟨c5s, c6s⟩ (fun hHeld => ?_)
  clear hK K
  try simp only [Act.put, List.getElem_toArray, List.getElem_cons_zero, List.getElem_cons_succ, List.setIfInBounds_toArray, List.set_cons_zero, List.set_cons_succ]
  refine wpAnyH_done (by decide +kernel) (onlyN ?_) _
  clear hHeld cC cc zz c3 c5 c6
  generalize W2.setCell ⟨w.heap.size + 1, lo, none⟩ (.slice (some ⟨g2, 0, none⟩) (m + 1) c2) = W3 at *
  clear rv fv
  gi_wp2_with fail
  refine ⟨trivial, (CallsIn.inRound l (callsIn_wide.2 (backI_any (vk lo) nk (ck lo) W3))).mono ?_⟩
  rintro e W4 ⟨rfl, hW4⟩
  have F4 : Fr None' W3 W4 := hW4 ▸ Fr.alloc None' W3 _
  have hsW3 := F2.size
  have hsW4 : W4.heap.size = W3.heap.size + 1 := by rw [hW4]; simp
  have hbi : W4.cell? ⟨W3.heap.size, 0, none⟩ = some (.slice (vk lo) nk (ck lo)) := by rw [hW4]; exact cell_new1 W3 122 _
  clear hW4
  have F24 : Fr (fun k => k = w.heap.size + 1) W W4 := F2.then (F4.mono (fun _ e => e.elim))
  have hr4 : W4.heap[l]? = some (.loop rc) := F24.at hrc (fun e => by omega)
  have A4 := A2.keep h0 F4 (fun k e => e.elim)
  have d3 := F4.cell c3s (fun e => e)
  have d5 := F4.cell c5s (fun e => e)
  have d6 := F4.cell c6s (fun e => e)
  have hR4 : RowV W4 (vk lo) (ints (Lk lo)) := hRW.fr F24 (fun x e => by
   show ¬ x.block = w.heap.size + 1
   have := hklow x e
   omega)
  have k1 : KeepsOthers W W4 := keeps_of_fr F24 (fun k e => by
   have := HA.out.cell 0 h0
   unfold World.cell? at this
   split at this
   ·exact ⟨_, _, _, by rw [e]; assumption⟩
   ·cases this)
  have k2 : Zh (BackR (w2.heap.size + 1) vl) W W4 := Zh.of F24 (fun k hkb e => by
   have := hkl k hkb
   omega)
  have HA4 : Hid (Yq w (w.heap.size + 1) gr m nb suf B lo (suf (lo + 1)) W4 (fun k => if k = lo then .slice (some ⟨g2, 0, none⟩) (m + 1) c2 else D k)) := A4
  have hki : ∀ k, BackR W3.heap.size (vk lo) k → k < W4.heap.size ∧ k ≠ gr := fun k hkb => by
   rcases hkb with e | ⟨x, e1, e2⟩
   ·omega
   ·have := hklow x e1; omega
  clear A2 A4 c3s c5s c6s F4 F2 hRW hrc
  gi_wp2_with fail
  refine range_in (α := Nat × Value) (l₀ := l) (r₀ := rc) rfl hr4 (by omega) (gf := 225) (lb := #[.pointer (some ⟨W3.heap.size, 0, none⟩)]) rfl trivial (enters_of Tryz.func225 (by kernel_rfl) rfl) ((backI_seq W3.heap.size _ (ck lo) (vk lo) (ints (Lk lo)) nk (by rw [Z9]; exact HNK.out) (by omega)).inRound l)
   (fun k hk => hk.elim) (fun W' hb => ⟨(Grew.of hb).cell hbi (fun e => e), hR4.fr (Grew.of hb) (Off.no _)⟩) Zh.trans (fun W' l' o hl' => Zh.put W' (fun k hkb e => by have := (hki k hkb).1; omega) o) (fun _ => rfl)
   (fun pre' W' => (∃ t', t' ≤ nk ∧ pre' = Zj (ints (Lk lo)) t' ∧ Yq w (w.heap.size + 1) gr m nb suf B lo ((Lk lo).drop (nk - t') ++ suf (lo + 1)) W' (fun k => if k = lo then .slice (some ⟨g2, 0, none⟩) (m + 1) c2 else D k) ∧ W'.cell? ⟨w.heap.size, 0, none⟩ = some (.slice vb m cb) ∧ W'.cell? ⟨w.heap.size + 1 + 1, 0, none⟩ = some (.slice (some ⟨w.heap.size + 1, 0, none⟩) nb nb) ∧ W'.cell? ⟨w2.heap.size, 0, none⟩ = some (.slice (some ⟨gr, 0, none⟩) (m + 1) (m + 1)) ∧ W4.heap.size ≤ W'.heap.size) ∧ KeepsOthers W W' ∧ Zh (BackR (w2.heap.size + 1) vl) W W')
   (fun _ _ _ => False)
   ?hI2 (fun _ _ _ _ h _ => h) ⟨⟨0, Nat.zero_le _, rfl, below_a (by rw [Nat.sub_zero, List.drop_of_length_le (by rw [HNK.out]; exact Nat.le_refl _)]; rfl) HA4.out, d3, d5, d6, Nat.le_refl _⟩, k1, k2⟩
   (fun y => { tmps := #[.slice vl nb cl, .slice vb m cb, undef, .pointer (some ⟨w.heap.size, 0, none⟩), .slice none 0 0, .pointer (some ⟨w.heap.size + 1 + 1, 0, none⟩), .pointer (some ⟨w2.heap.size, 0, none⟩), .int .i64 lo, .slice (vk lo) nk (ck lo), undef, y.2, .slice vl nb cl, .int .i64 nb, .slice (some ⟨w.heap.size + 1, 0, none⟩) nb nb, .slice vb m cb, .slice (some ⟨gr, 0, none⟩) (m + 1) (m + 1), .slice vl nb cl, .func (.func 224) #[] #[.pointer (some ⟨w2.heap.size + 1, 0, none⟩)], .int .i64 lo, .slice (vk lo) nk (ck lo), .slice (some ⟨w.heap.size + 1, 0, none⟩) nb nb, .int .i64 lo, .slice (some ⟨gr, 0, none⟩) (m + 1) (m + 1), .slice (some ⟨g2, 0, none⟩) (m + 1) c2, .pointer (some ⟨w.heap.size + 1, lo, none⟩), .slice (vk lo) nk (ck lo), .func (.func 225) #[] #[.pointer (some ⟨W3.heap.size, 0, none⟩)], .int .i64 y.1, y.2, undef, undef, undef, undef, undef], defers := [] }) ?assign2 ?body2 ?done2 ?stop2
  case hI2 =>
   rintro pre' A C ⟨⟨t', ht', hp, hF, h3, h5, h6, hs⟩, q1, q2⟩ f
   refine ⟨⟨t', ht', hp, hF.keep h0 f (fun k e => by
    rcases e with e | ⟨e1, e2⟩
    ·exact e.elim
    ·exact ⟨by omega, e2⟩), f.cell h3 (no_cells h3), f.cell h5 (no_cells h5), f.cell h6 (no_cells h6), Nat.le_trans hs f.size⟩, abide_keeps (β := Unit) (by omega) () A C q1 f, q2.trans (Zh.of f (fun k hkb e => ?_))⟩
   rcases e with e | ⟨e1, _⟩
   ·exact e
   ·have := (hkl k hkb).1
    omega
  case assign2 =>
   intro l2 y W' K hK
   gi_wp2
   exact hK
  case body2 =>
   clear HA4 d3 d5 d6 hR4 hbi k1 k2
   rintro l2 pre' y W' ⟨⟨t', ht', rfl, hA, c3, c5, c6, hsW'⟩, q1, q2⟩ ⟨t'', ht'', hpre⟩ _ _
   obtain ⟨t3, rfl, hp2, hy⟩ := uptoB_snoc hpre
   have htt : t' = t3 := by have := congrArg List.length hp2; simpa [Zd] using this
   subst htt
   obtain ⟨li, hli⟩ : ∃ li, nk - t' = li + 1 := ⟨nk - t' - 1, by omega⟩
   have hliL : li < (Lk lo).length := by rw [HNK.out]; omega
   have hy2 : y = (li, .int .i64 (Lk lo)[li]) := by
    rw [hy, elB_get (k := li) (by rw [Z9, HNK.out]; omega), ints_get hliL]
   obtain ⟨line, hline⟩ : ∃ line, (Lk lo)[li] = line := ⟨_, rfl⟩
   rw [hline] at hy2
   have HUP2 : Hid (Zj (ints (Lk lo)) t' ++ [y] = Zj (ints (Lk lo)) (t' + 1)) := hpre
   have HDR : Hid ((Lk lo).drop li = line :: (Lk lo).drop (li + 1)) := by
    show _ = _
    rw [List.drop_eq_getElem_cons hliL, hline]
   rw [hli] at hA
   have HLI : Hid (nk - t' = li + 1) := hli
   subst hy2
   clear hpre hp2 hy hline hli
   have hba := HBA.out lo
   rw [HSU.out, List.length_append, HNK.out] at hba
   have cP := putAhead_any w.heap.size gr (m + 1) m cb vb B ((Lk lo).drop (li + 1) ++ suf (lo + 1)) line W' (hB.fr hA.fr (Off.no _)) HM.out hbm (by rw [List.length_append, List.length_drop, HNK.out]; omega) hA.row (fun x e => by
    show ¬ x.block = gr
    have := hvlow x e
    omega)
   have HA2 : Hid (Yq w (w.heap.size + 1) gr m nb suf B lo ((Lk lo).drop (li + 1) ++ suf (lo + 1)) W' (fun k => if k = lo then .slice (some ⟨g2, 0, none⟩) (m + 1) c2 else D k)) := hA
   clear hA hba
   gi_wp2_with fail
   refine ⟨trivial, (CallsIn.inRound l2 (CallsIn.inRound l (callsIn_wide.2 cP))).mono ?_⟩
   rintro e W5 ⟨⟨vr, rfl⟩, r5, f5⟩
   clear cP
   have A5 := HA2.out.line h0 f5 r5
   have hgr' := HA2.out.row.lt
   have hc5 : KeepsOthers W' W5 := keeps_of_fr f5 (fun k e => by
    obtain ⟨c, t, fz, e2⟩ := own_cells HA2.out.row (k := gr) rfl
    exact ⟨c, t, fz, by rw [e]; exact e2⟩)
   gi_wp2_with fail
   refine ⟨hc5, Zh.of f5 (fun k hkb => (hki k hkb).2), ⟨t' + 1, by omega, HUP2.out, below_a ?_ A5, f5.cell c3 (fun e => by have e' : w.heap.size = gr := e; omega), f5.cell c5 (fun e => by have e' : w.heap.size + 1 + 1 = gr := e; omega), f5.cell c6 (fun e => by have e' : w2.heap.size = gr := e; omega), Nat.le_trans hsW' f5.size⟩, q1.trans hc5, q2.trans (Zh.of f5 (fun k hkb e => by
    have := hkl k hkb
    omega))⟩
   rw [show nk - (t' + 1) = li by have := HLI.out; omega, HDR.out]
   rfl
  case done2 =>
   rintro xs W' rfl ⟨⟨t', ht', hp, hF, h3, h5, h6, hs⟩, q1, q2⟩
   clear HA4 d3 d5 d6 hR4 hbi k1 k2
   have htt : t' = nk := by have := congrArg List.length hp; simpa [Zd] using this.symm
   subst htt
   have HF : Hid (Yq w (w.heap.size + 1) gr m nb suf B (nb - (t + 1)) (suf (nb - (t + 1))) W' (fun k => if k = lo then .slice (some ⟨g2, 0, none⟩) (m + 1) c2 else D k)) := by
    have elo : lo = nb - (t + 1) := by have := HLO.out; omega
    refine below_lo elo (below_a ?_ hF)
    rw [Nat.sub_self, List.drop_zero, ← elo, HSU.out]
   clear hF
   gi_wp2_with fail
   exact ⟨q1, q2, t + 1, by omega, HUP.out, ⟨_, HF.out⟩, h3, h5, h6, by omega⟩
  case stop2 =>
   rintro c pre' W' _ h
   exact h.elim
 case done =>
  rintro Dd xs W rfl ⟨t, D, ht, hp, hF, h3, h5, h6, hs⟩ hK hD
  clear HA4 c30 c50 c60 hL4 hbx F04
  have htt : t = nb := by have := congrArg List.length hp; simpa [Zd] using this.symm
  rw [htt, Nat.sub_self] at hF
  have hF2 := hF.keep h0 (Fr.putObj (M := fun k => k = Dd) W rfl (.deferred none)) (fun k e => ⟨by omega, fun c t f e2 => by rw [e, hK] at e2; cases e2⟩)
  have HF : Hid (Yq w (w.heap.size + 1) gr m nb suf B 0 (suf 0) (W.putObj Dd (.deferred none)) D) := hF2
  clear hF hF2
  gi_wp2
  refine ⟨by simp, .inl ⟨_, _, rfl, run_takeDeferred hK, ?_⟩⟩
  exact ⟨_, results_tmp rfl _ _ _, w.heap.size + 1, D, rfl, by omega, fun k hk => ⟨HF.out.cell k hk, HF.out.rows k (Nat.zero_le _) hk⟩, HF.out.fr⟩
 case stop =>
  rintro D c pre W _ h _ _
  exact h.elim
end Go.Proofs.YtbnfjjjdnbcehaaGreatDoor.Diff
namespace Go.Proofs.YtbnfjjjdnbcehaaGreatDoor.Diff
open Go.RowKit
set_option maxRecDepth 100000
structure GB where
 (pa pb ph pl pi pj H1 ahead na nb ca cb : Nat)
 (va vb : Option Addr)
 A : List ByteArray
 B : List ByteArray
structure GB.Fit (E : GB) : Prop where
 o1 : E.pa < E.pb
 o2 : E.pb < E.ph
 o3 : E.ph < E.pl
 o4 : E.pl < E.pi
 o5 : E.pi < E.pj
 o6 : E.pj < E.H1
 lA : E.A.length = E.na
 lB : E.B.length = E.nb
 nA : E.na ≤ 4020
 nB : E.nb ≤ 4020
 nh : E.ahead ≤ 4020
 cA : E.na ≤ E.ca
 cB : E.nb ≤ E.cb
 vA : E.va = none → E.ca = 0
 vB : E.vb = none → E.cb = 0
 lowA : E.A ≠ [] → ∀ x, E.va = some x → x.block < E.pa
 lowB : E.B ≠ [] → ∀ x, E.vb = some x → x.block < E.pa
structure GAt (E : GB) (w : World) (i j : Nat) (L : List (Hk ByteArray)) (vl : Value) (V : List (Value × Value)) (G : Nat → Prop) : Prop where
 ca : w.cell? ⟨E.pa, 0, none⟩ = some (.slice E.va E.na E.ca)
 cb : w.cell? ⟨E.pb, 0, none⟩ = some (.slice E.vb E.nb E.cb)
 ch : w.cell? ⟨E.ph, 0, none⟩ = some (.int .i64 E.ahead)
 cl : w.cell? ⟨E.pl, 0, none⟩ = some vl
 ci : w.cell? ⟨E.pi, 0, none⟩ = some (.int .i64 i)
 cj : w.cell? ⟨E.pj, 0, none⟩ = some (.int .i64 j)
 zl : w.frozen? ⟨E.pl, 0, none⟩ = false
 zi : w.frozen? ⟨E.pi, 0, none⟩ = false
 zj : w.frozen? ⟨E.pj, 0, none⟩ = false
 ra : Row w E.va E.A
 rb : Row w E.vb E.B
 own : w.ownsRow E.H1 103 3 vl L.length (hcells L V)
 len : V.length = L.length
 gl : ∀ k, Zr vl k → G k
 st : ∀ (k : Nat) (h : Hk ByteArray) (p : Value × Value), L[k]? = some h → V[k]? = some p → StrAt w p.1 h.o ∧ StrAt w p.2 h.n ∧ ∀ b, Zr p.1 b ∨ Zr p.2 b → G b ∧ ¬ Zr vl b
 gH : ∀ k, G k → E.H1 ≤ k ∧ k < w.heap.size
 top : E.H1 ≤ w.heap.size
theorem ownH_fr {M : Nat → Prop} {base n s : Nat} {w w' : World} {e : TypeId} {v : Value} {vs : List Value} (h : w.ownsRow base e s v n vs) (f : Fr M w w') (hm : ∀ k, Zr v k → ¬ M k) : w'.ownsRow base e s v n vs := by
 refine ⟨h.1, ?_⟩
 rcases h.2 with h | ⟨g, cap, cur, hv, hg, hh, h⟩
 ·exact Or.inl h
 ·exact Or.inr ⟨g, cap, cur, hv, hg, f.at hh (hm g (by rw [hv]; rfl)), h⟩
theorem ownH_lt {base n s : Nat} {w : World} {e : TypeId} {v : Value} {vs : List Value} (h : w.ownsRow base e s v n vs) {k : Nat} (hk : Zr v k) : base ≤ k ∧ k < w.heap.size := by
 rcases h.2 with ⟨hv, _⟩ | ⟨g, cap, cur, hv, hg, hh, _⟩
 ·rw [Zr, hv] at hk; cases hk
 ·rw [Zr, hv] at hk; cases hk; exact ⟨hg, (Array.getElem?_eq_some_iff.1 hh).1⟩
theorem GAt.fr {E : GB} (hE : E.Fit) {w w' : World} {i j : Nat} {L : List (Hk ByteArray)} {vl : Value} {V : List (Value × Value)} {G : Nat → Prop} (h : GAt E w i j L vl V G) {M : Nat → Prop} (f : Fr M w w') (hM : ∀ k, M k → E.H1 ≤ k ∧ ¬ G k) : GAt E w' i j L vl V G := by
 have := hE.o1; have := hE.o2; have := hE.o3; have := hE.o4; have := hE.o5; have := hE.o6
 have low : ∀ k, k < E.H1 → ¬ M k := fun k hk e => by have := (hM k e).1; omega
 have nG : ∀ k, G k → ¬ M k := fun k hk e => (hM k e).2 hk
 refine ⟨f.cell h.ca (low E.pa (by omega)), f.cell h.cb (low E.pb (by omega)), f.cell h.ch (low E.ph (by omega)), f.cell h.cl (low E.pl (by omega)), f.cell h.ci (low E.pi (by omega)), f.cell h.cj (low E.pj (by omega)), (Zs (f.block _ (Zq h.cl) (low E.pl (by omega)))).trans h.zl, (Zs (f.block _ (Zq h.ci) (low E.pi (by omega)))).trans h.zi, (Zs (f.block _ (Zq h.cj) (low E.pj (by omega)))).trans h.zj,
  h.ra.frW f (fun hl x e => low x.block (by have := hE.lowA hl x e; omega)), h.rb.frW f (fun hl x e => low x.block (by have := hE.lowB hl x e; omega)), ownH_fr h.own f (fun k e => nG k (h.gl k e)), h.len, h.gl, fun k x p e1 e2 => ?_, fun k hk => ⟨(h.gH k hk).1, Nat.lt_of_lt_of_le (h.gH k hk).2 f.size⟩, Nat.le_trans h.top f.size⟩
 ·obtain ⟨s1, s2, s3⟩ := h.st k x p e1 e2
  exact ⟨s1.fr f (fun b hb => nG b (s3 b (Or.inl hb)).1), s2.fr f (fun b hb => nG b (s3 b (Or.inr hb)).1), s3⟩
theorem GAt.go {E : GB} (hE : E.Fit) {w : World} {i j : Nat} {L : List (Hk ByteArray)} {vl : Value} {V : List (Value × Value)} {G : Nat → Prop} (h : GAt E w i j L vl V G) (x y : Nat) :
  GAt E ((w.setCell ⟨E.pi, 0, none⟩ (.int .i64 (x : Int))).setCell ⟨E.pj, 0, none⟩ (.int .i64 (y : Int))) x y L vl V G ∧ Fr (fun k => k = E.pi ∨ k = E.pj) w ((w.setCell ⟨E.pi, 0, none⟩ (.int .i64 (x : Int))).setCell ⟨E.pj, 0, none⟩ (.int .i64 (y : Int))) := by
 have := hE.o1; have := hE.o2; have := hE.o3; have := hE.o4; have := hE.o5; have := hE.o6
 have f1 : Fr (fun k => k = E.pi ∨ k = E.pj) w (w.setCell ⟨E.pi, 0, none⟩ (.int .i64 (x : Int))) := Fr.setCell (M := fun k => k = E.pi ∨ k = E.pj) w (a := ⟨E.pi, 0, none⟩) (Or.inl rfl) _
 have f2 : Fr (fun k => k = E.pi ∨ k = E.pj) (w.setCell ⟨E.pi, 0, none⟩ (.int .i64 (x : Int))) ((w.setCell ⟨E.pi, 0, none⟩ (.int .i64 (x : Int))).setCell ⟨E.pj, 0, none⟩ (.int .i64 (y : Int))) := Fr.setCell (M := fun k => k = E.pi ∨ k = E.pj) _ (a := ⟨E.pj, 0, none⟩) (Or.inr rfl) _
 have f := f1.then f2
 have low : ∀ k, k ≠ E.pi → k ≠ E.pj → ¬ (k = E.pi ∨ k = E.pj) := fun k h1 h2 e => e.elim h1 h2
 have high : ∀ k, E.H1 ≤ k → ¬ (k = E.pi ∨ k = E.pj) := fun k h1 e => by omega
 have np : (⟨E.pj, 0, none⟩ : Addr).block ≠ (⟨E.pi, 0, none⟩ : Addr).block := by show E.pj ≠ E.pi; omega
 have nG : ∀ k, G k → ¬ (k = E.pi ∨ k = E.pj) := fun k hk => high k (h.gH k hk).1
 refine ⟨⟨f.cell h.ca (low E.pa (by omega) (by omega)), f.cell h.cb (low E.pb (by omega) (by omega)), f.cell h.ch (low E.ph (by omega) (by omega)), f.cell h.cl (low E.pl (by omega) (by omega)), ?_, ?_, (Zs (f.block _ (Zq h.cl) (low E.pl (by omega) (by omega)))).trans h.zl, ?_, ?_,
  h.ra.frW f (fun hl x e => low x.block (by have := hE.lowA hl x e; omega) (by have := hE.lowA hl x e; omega)), h.rb.frW f (fun hl x e => low x.block (by have := hE.lowB hl x e; omega) (by have := hE.lowB hl x e; omega)), ownH_fr h.own f (fun k e => nG k (h.gl k e)), h.len, h.gl, fun k x p e1 e2 => ?_, fun k hk => ⟨(h.gH k hk).1, Nat.lt_of_lt_of_le (h.gH k hk).2 f.size⟩, Nat.le_trans h.top f.size⟩, f⟩
 ·rw [World.cell?_setCell_far _ _ _ _ np]
  exact World.cell?_setCell_same' _ _ _ (by rw [h.ci]; rfl)
 ·refine World.cell?_setCell_same' _ _ _ ?_
  rw [World.cell?_setCell_far _ _ _ _ np.symm, h.cj]
  rfl
 ·rw [World.frozen?_setCell, World.frozen?_setCell]
  exact h.zi
 ·rw [World.frozen?_setCell, World.frozen?_setCell]
  exact h.zj
 ·obtain ⟨s1, s2, s3⟩ := h.st k x p e1 e2
  exact ⟨s1.fr f (fun b hb => nG b (s3 b (Or.inl hb)).1), s2.fr f (fun b hb => nG b (s3 b (Or.inr hb)).1), s3⟩
theorem GAt.app {E : GB} (hE : E.Fit) {w w2 : World} {i j : Nat} {L : List (Hk ByteArray)} {vl : Value} {V : List (Value × Value)} {G : Nat → Prop} (h : GAt E w i j L vl V G) (F : Fr None' w w2) {v1 v2 : Value} {o n : List ByteArray}
  (o1 : OwnV w.heap.size w2 9 v1 (o.map .string)) (o2 : OwnV w.heap.size w2 9 v2 (n.map .string)) (at' : Nat) (hL : L.length ≤ 8200) :
  ∃ g c w4, (Builtin.append_ #[100, 100] 100 #[vl, .slice (some ⟨w2.heap.size, 0, none⟩) 1 1]).run Tryz.prog (w2.alloc (.cells #[.int .i64 (at' : Int), v1, v2] 103 (0, 0))) = .ok (.slice (some ⟨g, 0, none⟩) (L.length + 1) c) w4 ∧
   Fr (Zr vl) w w4 ∧ Fr (fun k => k = E.pl ∨ Zr vl k) w (w4.setCell ⟨E.pl, 0, none⟩ (.slice (some ⟨g, 0, none⟩) (L.length + 1) c)) ∧ w4.cell? ⟨E.pl, 0, none⟩ = some vl ∧ w4.frozen? ⟨E.pl, 0, none⟩ = false ∧
   GAt E (w4.setCell ⟨E.pl, 0, none⟩ (.slice (some ⟨g, 0, none⟩) (L.length + 1) c)) i j (L ++ [⟨at', o, n⟩]) (.slice (some ⟨g, 0, none⟩) (L.length + 1) c) (V ++ [(v1, v2)]) (fun k => (G k ∨ w.heap.size ≤ k) ∧ k < w4.heap.size) := by
 have := hE.o1; have := hE.o2; have := hE.o3; have := hE.o4; have := hE.o5; have := hE.o6
 have one : ∀ {v : Value} {l : List ByteArray}, OwnV w.heap.size w2 9 v (l.map .string) → v.oneCell' = true := fun hv => by
  obtain ⟨va, c, e, _⟩ := hv.slice
  rw [e]; rfl
 have F3 : Fr None' w (w2.alloc (.cells #[.int .i64 (at' : Int), v1, v2] 103 (0, 0))) := F.then (Fr.alloc None' _ _)
 have hs3 : (w2.alloc (.cells #[.int .i64 (at' : Int), v1, v2] 103 (0, 0))).heap.size = w2.heap.size + 1 := by simp
 have hb : (w2.alloc (.cells #[.int .i64 (at' : Int), v1, v2] 103 (0, 0))).heap[w2.heap.size]? = some (.cells #[.int .i64 (at' : Int), v1, v2] 103 (0, 0)) := Array.getElem?_push_size
 have r1 : OwnV w.heap.size (w2.alloc (.cells #[.int .i64 (at' : Int), v1, v2] 103 (0, 0))) 9 v1 (o.map .string) := o1.fr (Fr.alloc None' _ _) (fun _ _ e => e)
 have r2 : OwnV w.heap.size (w2.alloc (.cells #[.int .i64 (at' : Int), v1, v2] 103 (0, 0))) 9 v2 (n.map .string) := o2.fr (Fr.alloc None' _ _) (fun _ _ e => e)
 obtain ⟨w3, hw3⟩ : ∃ w3, w2.alloc (.cells #[.int .i64 (at' : Int), v1, v2] 103 (0, 0)) = w3 := ⟨_, rfl⟩
 rw [hw3] at F3 hs3 hb r1 r2 ⊢
 have hs2 := F.size
 obtain ⟨g, c, w4, hr, own4, f4, hg⟩ := append_hunk (ownH_fr h.own F3 (fun _ _ e => e)) hb rfl (one o1) (one o2) (by omega) (by have := h.top; omega)
 have F4 : Fr (Zr vl) w w4 := (F3.mono (fun _ e => e.elim)).then f4
 have nvl : ∀ k, Zr vl k → E.H1 ≤ k ∧ k < w.heap.size := fun k hk => ownH_lt h.own hk
 have f5 : Fr (fun k => k = E.pl) w4 (w4.setCell ⟨E.pl, 0, none⟩ (.slice (some ⟨g, 0, none⟩) (L.length + 1) c)) := Fr.setCell (M := fun k => k = E.pl) w4 (a := ⟨E.pl, 0, none⟩) rfl _
 have F5 : Fr (fun k => k = E.pl ∨ Zr vl k) w (w4.setCell ⟨E.pl, 0, none⟩ (.slice (some ⟨g, 0, none⟩) (L.length + 1) c)) := (F4.mono (fun _ e => Or.inr e)).then (f5.mono (fun _ e => Or.inl e))
 have cl4 : w4.cell? ⟨E.pl, 0, none⟩ = some vl := F4.cell h.cl (fun e => by have : E.H1 ≤ E.pl := (nvl _ e).1; omega)
 have zl4 : w4.frozen? ⟨E.pl, 0, none⟩ = false := (Zs (F4.block _ (Zq h.cl) (fun e => by have : E.H1 ≤ E.pl := (nvl _ e).1; omega))).trans h.zl
 have low : ∀ k, k < E.H1 → k ≠ E.pl → ¬ (k = E.pl ∨ Zr vl k) := fun k hk h1 e => e.elim h1 (fun e => by have := (nvl k e).1; omega)
 have hgw4 : g < w4.heap.size := (ownH_lt own4 (k := g) rfl).2
 have hsz5 : (w4.setCell ⟨E.pl, 0, none⟩ (.slice (some ⟨g, 0, none⟩) (L.length + 1) c)).heap.size = w4.heap.size := by simp [World.setCell]
 have hs4 := f4.size
 have hgo : ∀ k, Zr (.slice (some ⟨g, 0, none⟩) (L.length + 1) c) k → k = g := fun k hk => by cases hk; rfl
 have new : ∀ {v : Value} {l : List ByteArray}, OwnV w.heap.size w3 9 v (l.map .string) → OwnV w.heap.size w2 9 v (l.map .string) → StrAt (w4.setCell ⟨E.pl, 0, none⟩ (.slice (some ⟨g, 0, none⟩) (L.length + 1) c)) v l ∧ ∀ b, Zr v b → ((G b ∨ w.heap.size ≤ b) ∧ b < w4.heap.size) ∧ ¬ Zr (.slice (some ⟨g, 0, none⟩) (L.length + 1) c) b := fun {v l} hv hv2 => by
  refine ⟨((OwnV.strAt hv).fr f4 (fun k hk e => ?_)).fr f5 (fun k hk e => ?_), fun b hb => ⟨⟨Or.inr (hv.lt hb).1, ?_⟩, fun e => ?_⟩⟩
  ·have := (hv.lt hk).1; have := (nvl k e).2; omega
  ·have := (hv.lt hk).1; have : k = E.pl := e; have := h.top; omega
  ·have := (hv.lt hb).2; omega
  ·have e2 := hgo b e
   have h1 := (hv.lt hb).1
   have h2 := (hv2.lt hb).2
   rcases hg with hg | hg
   ·have := (nvl g hg).2; omega
   ·omega
 refine ⟨g, c, w4, hr, F4, F5, cl4, zl4, ?_⟩
 refine ⟨F5.cell h.ca (low E.pa (by omega) (by omega)), F5.cell h.cb (low E.pb (by omega) (by omega)), F5.cell h.ch (low E.ph (by omega) (by omega)), World.cell?_setCell_same' _ _ _ (by rw [cl4]; rfl), F5.cell h.ci (low E.pi (by omega) (by omega)), F5.cell h.cj (low E.pj (by omega) (by omega)), by rw [World.frozen?_setCell]; exact zl4, (Zs (F5.block _ (Zq h.ci) (low E.pi (by omega) (by omega)))).trans h.zi, (Zs (F5.block _ (Zq h.cj) (low E.pj (by omega) (by omega)))).trans h.zj,
  h.ra.frW F5 (fun hl x e => low x.block (by have := hE.lowA hl x e; omega) (by have := hE.lowA hl x e; omega)), h.rb.frW F5 (fun hl x e => low x.block (by have := hE.lowB hl x e; omega) (by have := hE.lowB hl x e; omega)), ?_, by rw [List.length_append, List.length_append, h.len]; rfl, fun k e => ?_, fun k x p e1 e2 => ?_, fun k hk => ⟨?_, by rw [hsz5]; exact hk.2⟩, by have := h.top; omega⟩
 ·rw [List.length_append, hcells_snoc _ _ _ _ _ h.len]
  exact ownH_fr own4 f5 (fun k e e' => by have := (ownH_lt own4 e).1; have : k = E.pl := e'; omega)
 ·have := hgo k e
  subst this
  refine ⟨?_, hgw4⟩
  rcases hg with hg | hg
  ·exact Or.inl (h.gl _ hg)
  ·exact Or.inr (by omega)
 ·by_cases ek : k < L.length
  ·rw [List.getElem?_append_left ek] at e1
   rw [List.getElem?_append_left (by rw [h.len]; exact ek)] at e2
   obtain ⟨s1, s2, s3⟩ := h.st k x p e1 e2
   have nb : ∀ b, Zr p.1 b ∨ Zr p.2 b → ¬ (b = E.pl ∨ Zr vl b) := fun b hb e => by
    rcases e with e | e
    ·have := (h.gH b (s3 b hb).1).1; omega
    ·exact (s3 b hb).2 e
   refine ⟨s1.fr F5 (fun b hb => nb b (Or.inl hb)), s2.fr F5 (fun b hb => nb b (Or.inr hb)), fun b hb => ⟨⟨Or.inl (s3 b hb).1, ?_⟩, fun e => ?_⟩⟩
   ·have := (h.gH b (s3 b hb).1).2; have := F4.size; omega
   ·have e2 := hgo b e
    rcases hg with hg | hg
    ·exact (s3 b hb).2 (e2 ▸ hg)
    ·have := (h.gH b (s3 b hb).1).2; omega
  ·have hk : k = L.length := by
    have := (List.getElem?_eq_some_iff.1 e1).1
    rw [List.length_append] at this
    simp at this
    omega
   subst hk
   rw [List.getElem?_append_right (Nat.le_refl _), Nat.sub_self] at e1
   rw [List.getElem?_append_right (by rw [h.len]; exact Nat.le_refl _), h.len, Nat.sub_self] at e2
   cases e1
   cases e2
   exact ⟨(new r1 o1).1, (new r2 o2).1, fun b hb => hb.elim ((new r1 o1).2 b) ((new r2 o2).2 b)⟩
 ·rcases hk.1 with e | e
  ·exact (h.gH k e).1
  ·have := h.top; omega
end Go.Proofs.YtbnfjjjdnbcehaaGreatDoor.Diff
namespace Go.Proofs.YtbnfjjjdnbcehaaGreatDoor.Diff
open Go.RowKit Go.Shelf
set_option maxRecDepth 100000
attribute [local go_sem] Oper.semAt_some
theorem region_plain {P : Program} {id : Nat} {ops : Array Oper} {Q : Exit → Act → World → Prop} {S : World → Prop} {a : Act} {w : World} (hm : P.follows .mixedOrders = true) (hS : S w.drew)
  (h : S w.drew → wpAnyH P .any ops (OnlyN (Q .normal)) S ops.size (Array.replicate ops.size false) a w.drew) : (Code.region id ops true).wp P Q a w := by
 refine wp_mono (Q := OnlyN (Q .normal)) (wp_region_held hm (h hS)) ?_
 intro e a' w' he
 cases e <;> first | exact he | exact he.elim
theorem ex_slice {P : Program} {a : Act} {o : Oper} {w : World} (t : TypeId) (x lo hi : Operand) {vx vl vh v : Value} (ho : o.op = .slice t x (some lo) (some hi) none) (hx : a.eval x = vx) (hl : a.eval lo = vl) (hh : a.eval hi = vh) (h : (Instr.sliceAt t vx (some vl) (some vh) none).run P w = .ok v w) : (execOp a.eval o).run P w = .ok (.value v) w := by
 unfold execOp
 simp only [ho, Sem.run_bind, Option.map_some, Option.map_none, hx, hl, hh, h, Sem.run_pure, Result.andThen_ok]
theorem sliceN {base n : Nat} {w : World} {e : TypeId} {v : Value} {vs : List Value} (h : OwnV base w e v vs) (hn : vs.length = n) : ∃ va c, v = .slice va n c := by
 obtain ⟨va, c, hv, _⟩ := h.slice
 exact ⟨va, c, by rw [hv, hn]⟩
def GB.caps (E : GB) (x y : Nat) : Array Value := #[.int .i64 x, .int .i64 y, .pointer (some ⟨E.pi, 0, none⟩), .pointer (some ⟨E.pj, 0, none⟩), .pointer (some ⟨E.pl, 0, none⟩), .pointer (some ⟨E.ph, 0, none⟩), .pointer (some ⟨E.pa, 0, none⟩), .pointer (some ⟨E.pb, 0, none⟩)]
def GatherPost (E : GB) (w : World) (x y : Nat) (L' : List (Hk ByteArray)) (vl : Value) (G : Nat → Prop) : Ending → World → Prop := fun e w' => (∃ v, e = .returned v) ∧ ∃ vl' V' G', GAt E w' (x + 1) (y + 1) L' vl' V' G' ∧ Fr (fun k => k = E.pl ∨ k = E.pi ∨ k = E.pj ∨ Zr vl k) w w' ∧ ∀ k, G' k → G k ∨ w.heap.size ≤ k
theorem gather_end {E : GB} (hE : E.Fit) {w w5 : World} {i j : Nat} (x y : Nat) {L' : List (Hk ByteArray)} {vl vl' : Value} {V' : List (Value × Value)} {G G' : Nat → Prop} (A5 : GAt E w5 i j L' vl' V' G') (F5 : Fr (fun k => k = E.pl ∨ Zr vl k) w w5) (hG : ∀ k, G' k → G k ∨ w.heap.size ≤ k) (v : Value) :
  GatherPost E w x y L' vl G (.returned v) ((w5.setCell ⟨E.pi, 0, none⟩ (.int .i64 (x + 1))).setCell ⟨E.pj, 0, none⟩ (.int .i64 (y + 1))) := by
 obtain ⟨A6, F6⟩ := A5.go hE (x + 1) (y + 1)
 exact ⟨⟨v, rfl⟩, vl', V', G', A6, (F5.mono (fun k e => e.elim Or.inl (fun e => Or.inr (Or.inr (Or.inr e))))).then (F6.mono (fun k e => e.elim (fun e => Or.inr (Or.inl e)) (fun e => Or.inr (Or.inr (Or.inl e))))), hG⟩
theorem gather_yes (E : GB) (hE : E.Fit) (w : World) (i j x y : Nat) (L : List (Hk ByteArray)) (vl : Value) (V : List (Value × Value)) (G : Nat → Prop) (h : GAt E w i j L vl V G) (hi : i ≤ x) (hx : x ≤ E.na) (hj : j ≤ y) (hy : y ≤ E.nb) (hL : L.length ≤ 8200) (hc : i < x ∨ (¬ i < x ∧ j < y)) :
  Calls Tryz.prog 96 (E.caps x y) w (GatherPost E w x y (L ++ [⟨E.ahead + j, (E.A.drop i).take (x - i), (E.B.drop j).take (y - j)⟩]) vl G) := by
 have n1 := hE.nA; have n2 := hE.nB; have n3 := hE.nh
 obtain ⟨va1, c1, slA, rowA, nA1, _, _⟩ := slice_ex h.ra hE.lA hi hx hE.cA hE.vA
 obtain ⟨vb1, d1, slB, rowB, nB1, _, _⟩ := slice_ex h.rb hE.lB hj hy hE.cB hE.vB
 have lA1 : ((E.A.drop i).take (x - i)).length = x - i := by rw [List.length_take, List.length_drop, hE.lA]; omega
 have lB1 : ((E.B.drop j).take (y - j)).length = y - j := by rw [List.length_take, List.length_drop, hE.lB]; omega
 have cA := copied_any va1 c1 _ w.drew (show Row w.drew va1 _ from rowA) nA1 (by rw [lA1]; omega)
 have cB : ∀ w1, Fr None' w.drew w1 → _ := fun w1 f1 => copied_any vb1 d1 _ w1 (Row.fr (show Row w.drew vb1 _ from rowB) f1) nB1 (by rw [lB1]; omega)
 rw [lA1] at cA
 rw [lB1] at cB
 have ci := h.ci; have cj := h.cj; have cl := h.cl; have ch := h.ch; have ca := h.ca; have cb := h.cb
 have HG : Hid (GAt E w i j L vl V G) := h
 have k1 : (x : Int) ≤ 4020 := by omega
 have npq : E.pj ≠ E.pi := by have := hE.o5; omega
 have k2 : (y : Int) ≤ 4020 := by omega
 have k3 : (i : Int) ≤ 4020 := by omega
 have k4 : (j : Int) ≤ 4020 := by omega
 have k5 : (E.ahead : Int) ≤ 4020 := by omega
 have hwr : IntKind.i64.wrap ((E.ahead : Int) + (j : Int)) = (E.ahead : Int) + (j : Int) := by rw [IntKind.wrap_i64]; omega
 have hS : ∀ w1, Fr None' w.drew w1 → (fun v => v.cell? ⟨E.ph, 0, none⟩ = some (.int .i64 E.ahead) ∧ v.cell? ⟨E.pj, 0, none⟩ = some (.int .i64 j) ∧ v.cell? ⟨E.pa, 0, none⟩ = some (.slice E.va E.na E.ca) ∧ v.cell? ⟨E.pi, 0, none⟩ = some (.int .i64 i) ∧ v.cell? ⟨E.pb, 0, none⟩ = some (.slice E.vb E.nb E.cb)) w1 := fun w1 f => ⟨f.cell (w := w.drew) ch (fun e => e), f.cell (w := w.drew) cj (fun e => e), f.cell (w := w.drew) ca (fun e => e), f.cell (w := w.drew) ci (fun e => e), f.cell (w := w.drew) cb (fun e => e)⟩
 have hvl : ∀ k, Zr vl k → E.H1 ≤ k := fun k e => (ownH_lt h.own e).1
 have hS5 : ∀ w1, Fr (fun k => k = E.pl ∨ Zr vl k) w w1 → (fun v => v.cell? ⟨E.ph, 0, none⟩ = some (.int .i64 E.ahead) ∧ v.cell? ⟨E.pj, 0, none⟩ = some (.int .i64 j) ∧ v.cell? ⟨E.pa, 0, none⟩ = some (.slice E.va E.na E.ca) ∧ v.cell? ⟨E.pi, 0, none⟩ = some (.int .i64 i) ∧ v.cell? ⟨E.pb, 0, none⟩ = some (.slice E.vb E.nb E.cb)) w1 := fun w1 f => by
  have := hE.o1; have := hE.o2; have := hE.o3; have := hE.o4; have := hE.o5; have := hE.o6
  have low : ∀ k, k < E.H1 → k ≠ E.pl → ¬ (k = E.pl ∨ Zr vl k) := fun k hk h1 e => e.elim h1 (fun e => by have := hvl k e; omega)
  exact ⟨f.cell ch (low E.ph (by omega) (by omega)), f.cell cj (low E.pj (by omega) (by omega)), f.cell ca (low E.pa (by omega) (by omega)), f.cell ci (low E.pi (by omega) (by omega)), f.cell cb (low E.pb (by omega) (by omega))⟩
 have hS4 : ∀ w1, Fr (Zr vl) w w1 → (fun v => v.cell? ⟨E.ph, 0, none⟩ = some (.int .i64 E.ahead) ∧ v.cell? ⟨E.pj, 0, none⟩ = some (.int .i64 j) ∧ v.cell? ⟨E.pa, 0, none⟩ = some (.slice E.va E.na E.ca) ∧ v.cell? ⟨E.pi, 0, none⟩ = some (.int .i64 i) ∧ v.cell? ⟨E.pb, 0, none⟩ = some (.slice E.vb E.nb E.cb)) w1 := fun w1 f => hS5 w1 (f.mono (fun _ e => Or.inr e))
 have hHeld0 : (fun v => v.cell? ⟨E.ph, 0, none⟩ = some (.int .i64 E.ahead) ∧ v.cell? ⟨E.pj, 0, none⟩ = some (.int .i64 j) ∧ v.cell? ⟨E.pa, 0, none⟩ = some (.slice E.va E.na E.ca) ∧ v.cell? ⟨E.pi, 0, none⟩ = some (.int .i64 i) ∧ v.cell? ⟨E.pb, 0, none⟩ = some (.slice E.vb E.nb E.cb)) w.drew := ⟨ch, cj, ca, ci, cb⟩
 clear h rowA rowB
 unfold GB.caps
 go_enter Tryz.func96, Tryz.ntmps96
 rcases hc with hc | ⟨hc1, hc2⟩
 all_goals go_wp2_with fail
 all_goals (
  refine region_plain (S := (fun v => v.cell? ⟨E.ph, 0, none⟩ = some (.int .i64 E.ahead) ∧ v.cell? ⟨E.pj, 0, none⟩ = some (.int .i64 j) ∧ v.cell? ⟨E.pa, 0, none⟩ = some (.slice E.va E.na E.ca) ∧ v.cell? ⟨E.pi, 0, none⟩ = some (.int .i64 i) ∧ v.cell? ⟨E.pb, 0, none⟩ = some (.slice E.vb E.nb E.cb))) (by kernel_rfl) hHeld0 (fun hHeld => ?_)
  refine wpAnyH_take (i := 1) (oi := _) (v := ?_) rfl (by decide +kernel) (by decide +kernel) (by decide +kernel) (fun _ _ _ h => h) (Or.inl ⟨by rfl, ?_⟩) hHeld ?_
  rotate_left
  ·intro wq hSw
   first
    | (go_simp; done)
    | (go_simp; with_reducible rfl)
  try simp only [Act.put, List.getElem_toArray, List.getElem_cons_zero, List.getElem_cons_succ, List.setIfInBounds_toArray, List.set_cons_zero, List.set_cons_succ]
  refine wpAnyH_take (i := 2) (oi := _) (v := ?_) rfl (by decide +kernel) (by decide +kernel) (by decide +kernel) (fun _ _ _ h => h) (Or.inl ⟨by rfl, ?_⟩) hHeld ?_
  rotate_left
  ·intro wq hSw
   first
    | (go_simp; done)
    | (go_simp; with_reducible rfl)
  try simp only [Act.put, List.getElem_toArray, List.getElem_cons_zero, List.getElem_cons_succ, List.setIfInBounds_toArray, List.set_cons_zero, List.set_cons_succ]
  refine wpAnyH_take (i := 3) (oi := _) (v := ?_) rfl (by decide +kernel) (by decide +kernel) (by decide +kernel) (fun _ _ _ h => h) (Or.inl ⟨by rfl, ?_⟩) hHeld ?_
  rotate_left
  ·intro wq hSw
   first
    | (go_simp; done)
    | (go_simp; with_reducible rfl)
  try simp only [Act.put, List.getElem_toArray, List.getElem_cons_zero, List.getElem_cons_succ, List.setIfInBounds_toArray, List.set_cons_zero, List.set_cons_succ]
  refine wpAnyH_take (i := 4) (oi := _) (v := ?_) rfl (by decide +kernel) (by decide +kernel) (by decide +kernel) (fun _ _ _ h => h) (Or.inl ⟨by rfl, ?_⟩) hHeld ?_
  rotate_left
  ·intro wq hSw
   first
    | (go_simp; done)
    | (go_simp; with_reducible rfl)
  try simp only [Act.put, List.getElem_toArray, List.getElem_cons_zero, List.getElem_cons_succ, List.setIfInBounds_toArray, List.set_cons_zero, List.set_cons_succ]
  refine wpAnyH_take (i := 5) (oi := _) (v := ?_) rfl (by decide +kernel) (by decide +kernel) (by decide +kernel) (fun _ _ _ h => h) (Or.inl ⟨by rfl, ?_⟩) hHeld ?_
  rotate_left
  ·intro wq hSw
   first
    | (go_simp; done)
    | (go_simp; with_reducible rfl)
  try simp only [Act.put, List.getElem_toArray, List.getElem_cons_zero, List.getElem_cons_succ, List.setIfInBounds_toArray, List.set_cons_zero, List.set_cons_succ]
  refine wpAnyH_take (i := 6) (oi := _) (v := ?_) rfl (by decide +kernel) (by decide +kernel) (by decide +kernel) (fun _ _ _ h => h) (Or.inl ⟨by rfl, ?_⟩) hHeld ?_
  rotate_left
  ·intro wq hSw
   first
    | (go_simp; done)
    | (go_simp; with_reducible rfl)
  try simp only [Act.put, List.getElem_toArray, List.getElem_cons_zero, List.getElem_cons_succ, List.setIfInBounds_toArray, List.set_cons_zero, List.set_cons_succ]
  refine wpAnyH_take (i := 7) (oi := _) (v := .slice va1 (x - i) c1) rfl (by decide +kernel) (by decide +kernel) (by decide +kernel) (fun _ _ _ h => h) (Or.inl ⟨by rfl, ?_⟩) hHeld ?_
  ·intro wq hSw
   exact ex_slice _ _ _ _ rfl rfl rfl rfl (slA wq)
  try simp only [Act.put, List.getElem_toArray, List.getElem_cons_zero, List.getElem_cons_succ, List.setIfInBounds_toArray, List.set_cons_zero, List.set_cons_succ]
  refine wpAnyH_take (i := 9) (oi := _) (v := ?_) rfl (by decide +kernel) (by decide +kernel) (by decide +kernel) (fun _ _ _ h => h) (Or.inl ⟨by rfl, ?_⟩) hHeld ?_
  rotate_left
  ·intro wq hSw
   first
    | (go_simp; done)
    | (go_simp; with_reducible rfl)
  try simp only [Act.put, List.getElem_toArray, List.getElem_cons_zero, List.getElem_cons_succ, List.setIfInBounds_toArray, List.set_cons_zero, List.set_cons_succ]
  refine wpAnyH_take (i := 10) (oi := _) (v := ?_) rfl (by decide +kernel) (by decide +kernel) (by decide +kernel) (fun _ _ _ h => h) (Or.inl ⟨by rfl, ?_⟩) hHeld ?_
  rotate_left
  ·intro wq hSw
   first
    | (go_simp; done)
    | (go_simp; with_reducible rfl)
  try simp only [Act.put, List.getElem_toArray, List.getElem_cons_zero, List.getElem_cons_succ, List.setIfInBounds_toArray, List.set_cons_zero, List.set_cons_succ]
  refine wpAnyH_take (i := 11) (oi := _) (v := ?_) rfl (by decide +kernel) (by decide +kernel) (by decide +kernel) (fun _ _ _ h => h) (Or.inl ⟨by rfl, ?_⟩) hHeld ?_
  rotate_left
  ·intro wq hSw
   first
    | (go_simp; done)
    | (go_simp; with_reducible rfl)
  try simp only [Act.put, List.getElem_toArray, List.getElem_cons_zero, List.getElem_cons_succ, List.setIfInBounds_toArray, List.set_cons_zero, List.set_cons_succ]
  refine wpAnyH_take (i := 12) (oi := _) (v := .slice vb1 (y - j) d1) rfl (by decide +kernel) (by decide +kernel) (by decide +kernel) (fun _ _ _ h => h) (Or.inl ⟨by rfl, ?_⟩) hHeld ?_
  ·intro wq hSw
   exact ex_slice _ _ _ _ rfl rfl rfl rfl (slB wq)
  try simp only [Act.put, List.getElem_toArray, List.getElem_cons_zero, List.getElem_cons_succ, List.setIfInBounds_toArray, List.set_cons_zero, List.set_cons_succ]
  refine wpAnyH_ready (rs := [0, 8]) (by decide +kernel) (by simp) ?_
  refine AllReadyH.cons rfl (fun K hK => ?_) (AllReadyH.cons rfl (fun K hK => ?_) AllReadyH.nil)
  ·have clq := (Fr.refl None' w.drew).cell (w := w.drew) cl (fun e => e)
   go_simp
   refine hK.out _ _ hHeld (fun hHeld => ?_)
   clear hK K
   try simp only [Act.put, List.getElem_toArray, List.getElem_cons_zero, List.getElem_cons_succ, List.setIfInBounds_toArray, List.set_cons_zero, List.set_cons_succ]
   refine wpAnyH_ready (rs := [8]) (by decide +kernel) (by simp) ?_
   refine AllReadyH.cons rfl (fun K hK => ?_) AllReadyH.nil
   go_simp
   refine cA.mono ?_
   rintro e w1 ⟨v1, rfl, o1, f1⟩
   obtain ⟨p1, q1, rfl⟩ := sliceN o1 (by rw [List.length_map, lA1])
   refine hK.out _ _ (hS w1 f1) (fun hHeld => ?_)
   clear hK K
   try simp only [Act.put, List.getElem_toArray, List.getElem_cons_zero, List.getElem_cons_succ, List.setIfInBounds_toArray, List.set_cons_zero, List.set_cons_succ]
   refine wpAnyH_ready (rs := [13]) (by decide +kernel) (by simp) ?_
   refine AllReadyH.cons rfl (fun K hK => ?_) AllReadyH.nil
   go_simp
   refine (cB w1 f1).mono ?_
   rintro e w2 ⟨v2, rfl, o2, f2⟩
   obtain ⟨p2, q2, rfl⟩ := sliceN o2 (by rw [List.length_map, lB1])
   obtain ⟨g, c, w4, hr, F4, F5, cl4, zl4, A5⟩ := HG.out.app hE ((fr_drew None' w).then (f1.then f2)) (o1.fr f2 (fun _ _ e => e)) (own_mono o2 f1.size) (E.ahead + j) hL
   rw [Int.natCast_add] at hr
   refine hK.out _ _ (hS w2 (f1.then f2)) (fun hHeld => ?_)
   clear hK K
   try simp only [Act.put, List.getElem_toArray, List.getElem_cons_zero, List.getElem_cons_succ, List.setIfInBounds_toArray, List.set_cons_zero, List.set_cons_succ]
   refine wpAnyH_take (i := 14) (oi := _) (v := ?_) rfl (by decide +kernel) (by decide +kernel) (by decide +kernel) (fun _ _ _ h => h) (Or.inl ⟨by rfl, ?_⟩) hHeld ?_
   rotate_left
   ·intro wq hSw
    first
     | (go_simp; done)
     | (go_simp; with_reducible rfl)
   try simp only [Act.put, List.getElem_toArray, List.getElem_cons_zero, List.getElem_cons_succ, List.setIfInBounds_toArray, List.set_cons_zero, List.set_cons_succ]
   refine wpAnyH_ready (rs := [15]) (by decide +kernel) (by simp) ?_
   refine AllReadyH.cons rfl (fun K hK => ?_) AllReadyH.nil
   go_simp
   refine hK.out _ _ (hS _ ((f1.then f2).then (Fr.alloc None' _ _))) (fun hHeld => ?_)
   clear hK K
   try simp only [Act.put, List.getElem_toArray, List.getElem_cons_zero, List.getElem_cons_succ, List.setIfInBounds_toArray, List.set_cons_zero, List.set_cons_succ]
   refine wpAnyH_ready (rs := [16]) (by decide +kernel) (by simp) ?_
   refine AllReadyH.cons rfl (fun K hK => ?_) AllReadyH.nil
   refine step_app rfl _ _ rfl rfl rfl hr ?_
   refine hK.out _ _ (hS4 w4 F4) (fun hHeld => ?_)
   clear hK K
   try simp only [Act.put, List.getElem_toArray, List.getElem_cons_zero, List.getElem_cons_succ, List.setIfInBounds_toArray, List.set_cons_zero, List.set_cons_succ]
   refine wpAnyH_ready (rs := [17]) (by decide +kernel) (by simp) ?_
   refine AllReadyH.cons rfl (fun K hK => ?_) AllReadyH.nil
   go_simp
   refine hK.out _ _ (hS5 _ F5) (fun hHeld => ?_)
   clear hK K
   try simp only [Act.put, List.getElem_toArray, List.getElem_cons_zero, List.getElem_cons_succ, List.setIfInBounds_toArray, List.set_cons_zero, List.set_cons_succ]
   refine wpAnyH_done (by decide +kernel) (onlyN ?_) _
   have HA5 : Hid _ := A5
   have ci5 := A5.ci
   have cj5 := A5.cj
   have zi5 := A5.zi
   have zj5 := A5.zj
   clear hHeld hr cl4 zl4 F4 A5 cA cB
   generalize w4.setCell ⟨E.pl, 0, none⟩ (.slice (some ⟨g, 0, none⟩) (L.length + 1) c) = w5 at *
   go_wp2_with fail
   exact ⟨rfl, _, results_none rfl _ _ _, gather_end hE x y HA5.out F5 (fun k hk => hk.1) _⟩
  ·go_simp
   refine cA.mono ?_
   rintro e w1 ⟨v1, rfl, o1, f1⟩
   obtain ⟨p1, q1, rfl⟩ := sliceN o1 (by rw [List.length_map, lA1])
   refine hK.out _ _ (hS w1 f1) (fun hHeld => ?_)
   clear hK K
   try simp only [Act.put, List.getElem_toArray, List.getElem_cons_zero, List.getElem_cons_succ, List.setIfInBounds_toArray, List.set_cons_zero, List.set_cons_succ]
   refine wpAnyH_ready (rs := [0, 13]) (by decide +kernel) (by simp) ?_
   refine AllReadyH.cons rfl (fun K hK => ?_) (AllReadyH.cons rfl (fun K hK => ?_) AllReadyH.nil)
   ·have clq := f1.cell (w := w.drew) cl (fun e => e)
    go_simp
    refine hK.out _ _ hHeld (fun hHeld => ?_)
    clear hK K
    try simp only [Act.put, List.getElem_toArray, List.getElem_cons_zero, List.getElem_cons_succ, List.setIfInBounds_toArray, List.set_cons_zero, List.set_cons_succ]
    refine wpAnyH_ready (rs := [13]) (by decide +kernel) (by simp) ?_
    refine AllReadyH.cons rfl (fun K hK => ?_) AllReadyH.nil
    go_simp
    refine (cB w1 f1).mono ?_
    rintro e w2 ⟨v2, rfl, o2, f2⟩
    obtain ⟨p2, q2, rfl⟩ := sliceN o2 (by rw [List.length_map, lB1])
    obtain ⟨g, c, w4, hr, F4, F5, cl4, zl4, A5⟩ := HG.out.app hE ((fr_drew None' w).then (f1.then f2)) (o1.fr f2 (fun _ _ e => e)) (own_mono o2 f1.size) (E.ahead + j) hL
    rw [Int.natCast_add] at hr
    refine hK.out _ _ (hS w2 (f1.then f2)) (fun hHeld => ?_)
    clear hK K
    try simp only [Act.put, List.getElem_toArray, List.getElem_cons_zero, List.getElem_cons_succ, List.setIfInBounds_toArray, List.set_cons_zero, List.set_cons_succ]
    refine wpAnyH_take (i := 14) (oi := _) (v := ?_) rfl (by decide +kernel) (by decide +kernel) (by decide +kernel) (fun _ _ _ h => h) (Or.inl ⟨by rfl, ?_⟩) hHeld ?_
    rotate_left
    ·intro wq hSw
     first
      | (go_simp; done)
      | (go_simp; with_reducible rfl)
    try simp only [Act.put, List.getElem_toArray, List.getElem_cons_zero, List.getElem_cons_succ, List.setIfInBounds_toArray, List.set_cons_zero, List.set_cons_succ]
    refine wpAnyH_ready (rs := [15]) (by decide +kernel) (by simp) ?_
    refine AllReadyH.cons rfl (fun K hK => ?_) AllReadyH.nil
    go_simp
    refine hK.out _ _ (hS _ ((f1.then f2).then (Fr.alloc None' _ _))) (fun hHeld => ?_)
    clear hK K
    try simp only [Act.put, List.getElem_toArray, List.getElem_cons_zero, List.getElem_cons_succ, List.setIfInBounds_toArray, List.set_cons_zero, List.set_cons_succ]
    refine wpAnyH_ready (rs := [16]) (by decide +kernel) (by simp) ?_
    refine AllReadyH.cons rfl (fun K hK => ?_) AllReadyH.nil
    refine step_app rfl _ _ rfl rfl rfl hr ?_
    refine hK.out _ _ (hS4 w4 F4) (fun hHeld => ?_)
    clear hK K
    try simp only [Act.put, List.getElem_toArray, List.getElem_cons_zero, List.getElem_cons_succ, List.setIfInBounds_toArray, List.set_cons_zero, List.set_cons_succ]
    refine wpAnyH_ready (rs := [17]) (by decide +kernel) (by simp) ?_
    refine AllReadyH.cons rfl (fun K hK => ?_) AllReadyH.nil
    go_simp
    refine hK.out _ _ (hS5 _ F5) (fun hHeld => ?_)
    clear hK K
    try simp only [Act.put, List.getElem_toArray, List.getElem_cons_zero, List.getElem_cons_succ, List.setIfInBounds_toArray, List.set_cons_zero, List.set_cons_succ]
    refine wpAnyH_done (by decide +kernel) (onlyN ?_) _
    have HA5 : Hid _ := A5
    have ci5 := A5.ci
    have cj5 := A5.cj
    have zi5 := A5.zi
    have zj5 := A5.zj
    clear hHeld hr cl4 zl4 F4 A5 cA cB
    generalize w4.setCell ⟨E.pl, 0, none⟩ (.slice (some ⟨g, 0, none⟩) (L.length + 1) c) = w5 at *
    go_wp2_with fail
    exact ⟨rfl, _, results_none rfl _ _ _, gather_end hE x y HA5.out F5 (fun k hk => hk.1) _⟩
   ·go_simp
    refine (cB w1 f1).mono ?_
    rintro e w2 ⟨v2, rfl, o2, f2⟩
    obtain ⟨p2, q2, rfl⟩ := sliceN o2 (by rw [List.length_map, lB1])
    obtain ⟨g, c, w4, hr, F4, F5, cl4, zl4, A5⟩ := HG.out.app hE ((fr_drew None' w).then (f1.then f2)) (o1.fr f2 (fun _ _ e => e)) (own_mono o2 f1.size) (E.ahead + j) hL
    rw [Int.natCast_add] at hr
    refine hK.out _ _ (hS w2 (f1.then f2)) (fun hHeld => ?_)
    clear hK K
    try simp only [Act.put, List.getElem_toArray, List.getElem_cons_zero, List.getElem_cons_succ, List.setIfInBounds_toArray, List.set_cons_zero, List.set_cons_succ]
    refine wpAnyH_take (i := 14) (oi := _) (v := ?_) rfl (by decide +kernel) (by decide +kernel) (by decide +kernel) (fun _ _ _ h => h) (Or.inl ⟨by rfl, ?_⟩) hHeld ?_
    rotate_left
    ·intro wq hSw
     first
      | (go_simp; done)
      | (go_simp; with_reducible rfl)
    try simp only [Act.put, List.getElem_toArray, List.getElem_cons_zero, List.getElem_cons_succ, List.setIfInBounds_toArray, List.set_cons_zero, List.set_cons_succ]
    refine wpAnyH_ready (rs := [0, 15]) (by decide +kernel) (by simp) ?_
    refine AllReadyH.cons rfl (fun K hK => ?_) (AllReadyH.cons rfl (fun K hK => ?_) AllReadyH.nil)
    ·have clq := (f1.then f2).cell (w := w.drew) cl (fun e => e)
     go_simp
     refine hK.out _ _ hHeld (fun hHeld => ?_)
     clear hK K
     try simp only [Act.put, List.getElem_toArray, List.getElem_cons_zero, List.getElem_cons_succ, List.setIfInBounds_toArray, List.set_cons_zero, List.set_cons_succ]
     refine wpAnyH_ready (rs := [15]) (by decide +kernel) (by simp) ?_
     refine AllReadyH.cons rfl (fun K hK => ?_) AllReadyH.nil
     go_simp
     refine hK.out _ _ (hS _ ((f1.then f2).then (Fr.alloc None' _ _))) (fun hHeld => ?_)
     clear hK K
     try simp only [Act.put, List.getElem_toArray, List.getElem_cons_zero, List.getElem_cons_succ, List.setIfInBounds_toArray, List.set_cons_zero, List.set_cons_succ]
     refine wpAnyH_ready (rs := [16]) (by decide +kernel) (by simp) ?_
     refine AllReadyH.cons rfl (fun K hK => ?_) AllReadyH.nil
     refine step_app rfl _ _ rfl rfl rfl hr ?_
     refine hK.out _ _ (hS4 w4 F4) (fun hHeld => ?_)
     clear hK K
     try simp only [Act.put, List.getElem_toArray, List.getElem_cons_zero, List.getElem_cons_succ, List.setIfInBounds_toArray, List.set_cons_zero, List.set_cons_succ]
     refine wpAnyH_ready (rs := [17]) (by decide +kernel) (by simp) ?_
     refine AllReadyH.cons rfl (fun K hK => ?_) AllReadyH.nil
     go_simp
     refine hK.out _ _ (hS5 _ F5) (fun hHeld => ?_)
     clear hK K
     try simp only [Act.put, List.getElem_toArray, List.getElem_cons_zero, List.getElem_cons_succ, List.setIfInBounds_toArray, List.set_cons_zero, List.set_cons_succ]
     refine wpAnyH_done (by decide +kernel) (onlyN ?_) _
     have HA5 : Hid _ := A5
     have ci5 := A5.ci
     have cj5 := A5.cj
     have zi5 := A5.zi
     have zj5 := A5.zj
     clear hHeld hr cl4 zl4 F4 A5 cA cB
     generalize w4.setCell ⟨E.pl, 0, none⟩ (.slice (some ⟨g, 0, none⟩) (L.length + 1) c) = w5 at *
     go_wp2_with fail
     exact ⟨rfl, _, results_none rfl _ _ _, gather_end hE x y HA5.out F5 (fun k hk => hk.1) _⟩
    ·go_simp
     refine hK.out _ _ (hS _ ((f1.then f2).then (Fr.alloc None' _ _))) (fun hHeld => ?_)
     clear hK K
     try simp only [Act.put, List.getElem_toArray, List.getElem_cons_zero, List.getElem_cons_succ, List.setIfInBounds_toArray, List.set_cons_zero, List.set_cons_succ]
     refine wpAnyH_ready (rs := [0]) (by decide +kernel) (by simp) ?_
     refine AllReadyH.cons rfl (fun K hK => ?_) AllReadyH.nil
     have clq := ((f1.then f2).then (Fr.alloc None' w2 (.cells #[.int .i64 ((E.ahead : Int) + (j : Int)), .slice p1 (x - i) q1, .slice p2 (y - j) q2] 103 (0, 0)))).cell (w := w.drew) cl (fun e => e)
     go_simp
     refine hK.out _ _ hHeld (fun hHeld => ?_)
     clear hK K
     try simp only [Act.put, List.getElem_toArray, List.getElem_cons_zero, List.getElem_cons_succ, List.setIfInBounds_toArray, List.set_cons_zero, List.set_cons_succ]
     refine wpAnyH_ready (rs := [16]) (by decide +kernel) (by simp) ?_
     refine AllReadyH.cons rfl (fun K hK => ?_) AllReadyH.nil
     refine step_app rfl _ _ rfl rfl rfl hr ?_
     refine hK.out _ _ (hS4 w4 F4) (fun hHeld => ?_)
     clear hK K
     try simp only [Act.put, List.getElem_toArray, List.getElem_cons_zero, List.getElem_cons_succ, List.setIfInBounds_toArray, List.set_cons_zero, List.set_cons_succ]
     refine wpAnyH_ready (rs := [17]) (by decide +kernel) (by simp) ?_
     refine AllReadyH.cons rfl (fun K hK => ?_) AllReadyH.nil
     go_simp
     refine hK.out _ _ (hS5 _ F5) (fun hHeld => ?_)
     clear hK K
     try simp only [Act.put, List.getElem_toArray, List.getElem_cons_zero, List.getElem_cons_succ, List.setIfInBounds_toArray, List.set_cons_zero, List.set_cons_succ]
     refine wpAnyH_done (by decide +kernel) (onlyN ?_) _
     have HA5 : Hid _ := A5
     have ci5 := A5.ci
     have cj5 := A5.cj
     have zi5 := A5.zi
     have zj5 := A5.zj
     clear hHeld hr cl4 zl4 F4 A5 cA cB
     generalize w4.setCell ⟨E.pl, 0, none⟩ (.slice (some ⟨g, 0, none⟩) (L.length + 1) c) = w5 at *
     go_wp2_with fail
     exact ⟨rfl, _, results_none rfl _ _ _, gather_end hE x y HA5.out F5 (fun k hk => hk.1) _⟩
  )
theorem gather_no (E : GB) (hE : E.Fit) (w : World) (x y : Nat) (L : List (Hk ByteArray)) (vl : Value) (V : List (Value × Value)) (G : Nat → Prop) (h : GAt E w x y L vl V G) (hx : x ≤ E.na) (hy : y ≤ E.nb) :
  Calls Tryz.prog 96 (E.caps x y) w (GatherPost E w x y L vl G) := by
 have n1 := hE.nA; have n2 := hE.nB
 have ci := h.ci; have cj := h.cj; have zi := h.zi; have zj := h.zj
 have HG : Hid (GAt E w x y L vl V G) := h
 have k1 : (x : Int) ≤ 4020 := by omega
 have npq : E.pj ≠ E.pi := by have := hE.o5; omega
 have k2 : (y : Int) ≤ 4020 := by omega
 clear h
 unfold GB.caps
 go_enter Tryz.func96, Tryz.ntmps96
 go_wp2_with fail
 exact ⟨rfl, _, results_none rfl _ _ _, gather_end hE x y HG.out (Fr.refl _ w) (fun k hk => Or.inl hk) _⟩
theorem gather_any (E : GB) (hE : E.Fit) (w : World) (i j x y : Nat) (L : List (Hk ByteArray)) (vl : Value) (V : List (Value × Value)) (G : Nat → Prop) (h : GAt E w i j L vl V G) (hi : i ≤ x) (hx : x ≤ E.na) (hj : j ≤ y) (hy : y ≤ E.nb) (hL : L.length ≤ 8200) :
  Calls Tryz.prog 96 (E.caps x y) w (GatherPost E w x y (L ++ flush (E.ahead + j) ((E.A.drop i).take (x - i)) ((E.B.drop j).take (y - j)) []) vl G) := by
 have lA1 : ((E.A.drop i).take (x - i)).length = x - i := by rw [List.length_take, List.length_drop, hE.lA]; omega
 have lB1 : ((E.B.drop j).take (y - j)).length = y - j := by rw [List.length_take, List.length_drop, hE.lB]; omega
 by_cases hc : i < x ∨ (¬ i < x ∧ j < y)
 ·have hf : flush (E.ahead + j) ((E.A.drop i).take (x - i)) ((E.B.drop j).take (y - j)) [] = [⟨E.ahead + j, (E.A.drop i).take (x - i), (E.B.drop j).take (y - j)⟩] := by
   unfold flush
   rw [if_neg]
   rintro ⟨e1, e2⟩
   rw [e1] at lA1
   rw [e2] at lB1
   simp at lA1 lB1
   omega
  rw [hf]
  exact gather_yes E hE w i j x y L vl V G h hi hx hj hy hL hc
 ·have e1 : i = x := by omega
  have e2 : j = y := by omega
  subst e1 e2
  have hf : flush (E.ahead + j) ((E.A.drop i).take (i - i)) ((E.B.drop j).take (j - j)) [] = [] := by
   unfold flush
   rw [Nat.sub_self, Nat.sub_self, List.take_zero, List.take_zero, if_pos ⟨rfl, rfl⟩]
  rw [hf, List.append_nil]
  exact gather_no E hE w i j L vl V G h hx hy
end Go.Proofs.YtbnfjjjdnbcehaaGreatDoor.Diff
namespace Go.Proofs.YtbnfjjjdnbcehaaGreatDoor.Diff
open Go.RowKit Go.Shelf
set_option maxRecDepth 100000
attribute [local go_sem] Oper.semAt_some
def Yv (N sz k : Nat) : Nat := min sz (N - k * sz)
def chV (g o N sz k : Nat) : Value := .slice (some ⟨g, o + k * sz, none⟩) (Yv N sz k) (Yv N sz k)
def chs (g o N sz t : Nat) : List Value := (List.range t).map (chV g o N sz)
theorem chs_succ (g o N sz t : Nat) : chs g o N sz (t + 1) = chs g o N sz t ++ [chV g o N sz t] := by simp [chs, List.range_succ]
theorem chs_length (g o N sz t : Nat) : (chs g o N sz t).length = t := by simp [chs]
theorem chs_snoc {g o N sz : Nat} {pre : List Value} {x : Value} {t : Nat} (h : pre ++ [x] = chs g o N sz t) : ∃ k, t = k + 1 ∧ pre = chs g o N sz k ∧ x = chV g o N sz k := by
 have hl := congrArg List.length h
 rw [chs_length, List.length_append] at hl
 cases t with
 | zero => simp at hl
 | succ k =>
  rw [chs_succ] at h
  obtain ⟨h1, h2⟩ := List.append_inj' h rfl
  exact ⟨k, rfl, h1, by simpa using h2⟩
def ChR (b1 b2 : Nat) : Nat → Prop := fun k => k = b1 ∨ k = b2
theorem chunk_any (va : Option Addr) (n c sz : Nat) (hsz : 1 ≤ sz) (w : World) : Calls Tryz.prog 166 #[.slice va n c, .int .i64 sz] w fun e w' => e = .returned (.func (.func 199) #[] #[.pointer (some ⟨w.heap.size, 0, none⟩), .pointer (some ⟨w.heap.size + 1, 0, none⟩)]) ∧ w' = (w.alloc (.cells #[.slice va n c] 122)).alloc (.cells #[.int .i64 sz] 3) := by
 have i1 : (1 : Int) ≤ (sz : Int) := by omega
 go_enter Tryz.func166, Tryz.ntmps166
 go_wp2_with fail
 go_ret
 exact ⟨rfl, rfl⟩
theorem chunk_seq (b1 b2 g o c N sz n : Nat) (hN : N ≤ 4120) (hc : N ≤ c) (h1 : 1 ≤ sz) (hsz : sz ≤ 100) : SeqM (α := Value) Fence.wide n Tryz.prog 199 #[.pointer (some ⟨b1, 0, none⟩), .pointer (some ⟨b2, 0, none⟩)] (fun x => #[x]) None' (Zh (ChR b1 b2))
  (fun xs => ∃ nb, xs = chs g o N sz nb ∧ N ≤ nb * sz ∧ ∀ k, k < nb → k * sz < N) (fun pre => ∃ t, pre = chs g o N sz t ∧ ∀ k, k < t → k * sz < N) (fun W => W.cell? ⟨b1, 0, none⟩ = some (.slice (some ⟨g, o, none⟩) N c) ∧ W.cell? ⟨b2, 0, none⟩ = some (.int .i64 sz)) := fun l J Jx W hB hJ hJx hY h0 => by
 obtain ⟨hb1, hb2⟩ := hB
 have i1 : (N : Int) ≤ 4120 := by omega
 have i2 : (sz : Int) ≤ 100 := by omega
 have i3 : (1 : Int) ≤ (sz : Int) := by omega
 have i4 : (N : Int) ≤ (c : Int) := by omega
 refine callsIn_of_wp Tryz.func199 rfl trivial ?_ rfl
 simp only [Tryz.ntmps199, List.size_toArray, List.length_cons, List.length_nil, Nat.reduceAdd, Nat.reduceSub, Array.replicate_succ, Array.replicate_zero, List.push_toArray, List.append_toArray, List.nil_append, List.cons_append]
 gi_wp2
 gi_loopw [4] (fun v wr => ∃ t i : Nat, v = .int .i64 i ∧ i = t * sz ∧ i ≤ 4220 ∧ (∀ k, k < t → k * sz < N) ∧ Hid (J (chs g o N sz t) wr) ∧ wr.cell? ⟨b1, 0, none⟩ = some (.slice (some ⟨g, o, none⟩) N c) ∧ wr.cell? ⟨b2, 0, none⟩ = some (.int .i64 sz)) (fun v _ => 4420 - (intOf v).toNat)
 case atStart => exact ⟨0, 0, rfl, by simp, by omega, fun k hk => by omega, h0, hb1, hb2⟩
 case round =>
  clear hb1 hb2 h0
  obtain ⟨t, i, rfl, hi, hi9, hk, HJ, hb1, hb2⟩ := hrel
  by_cases hlt : i < N
  ·obtain ⟨e, he⟩ : ∃ e, Yv N sz t = e := ⟨_, rfl⟩
   have he2 : e = min sz (N - i) := by rw [← he, Yv, hi]
   have em : min (sz : Int) ((N : Int) - (i : Int)) = (e : Int) := by omega
   have j0 : (0 : Int) ≤ (i : Int) := by omega
   have j1 : (i : Int) ≤ (N : Int) := by omega
   have j2 : (i : Int) < (N : Int) := by omega
   have HI : Hid (i = t * sz ∧ e = min sz (N - i) ∧ Yv N sz t = e) := ⟨hi, he2, he⟩
   have HK : Hid (∀ k, k < t → k * sz < N) := hk
   have j3 : (i : Int) + (e : Int) ≤ (N : Int) := by omega
   have j4 : (0 : Int) ≤ (e : Int) := by omega
   clear he he2 hi hk
   gi_wp2_with fail
   refine wpIn_wide.2 ?_
   go_quiet (fail)
   rw [show (if N - i < sz then ((N - i : Nat) : Int) else (sz : Int)) = (e : Int) by split <;> omega]
   have hx : chV g o N sz t = .slice (some ⟨g, o + i, none⟩) e e := by rw [chV, HI.out.2.2, ← HI.out.1]
   have hup : chs g o N sz t ++ [.slice (some ⟨g, o + i, none⟩) e e] = chs g o N sz (t + 1) := by rw [chs_succ, hx]
   have HT : Hid (∀ k, k < t + 1 → k * sz < N) := fun k hk => by
    by_cases ek : k = t
    ·rw [ek, ← HI.out.1]; exact hlt
    ·exact HK.out k (by omega)
   obtain ⟨fn, tmps, assign, body, hy, hR⟩ := hY (chs g o N sz t) (.slice (some ⟨g, o + i, none⟩) e e) (wr.drewN nq) (hJ _ _ _ HJ.out (Fr.drewN _ _ _)) ⟨t + 1, hup, HT.out⟩
   have HU : Hid (chs g o N sz t ++ [.slice (some ⟨g, o + i, none⟩) e e] = chs g o N sz (t + 1)) := hup
   have c1 : (wr.drewN nq).cell? ⟨b1, 0, none⟩ = some (.slice (some ⟨g, o, none⟩) N c) := hb1
   have c2 : (wr.drewN nq).cell? ⟨b2, 0, none⟩ = some (.int .i64 sz) := hb2
   have HE : Hid (t * sz + sz = (t + 1) * sz) := by show _ = _; rw [Nat.succ_mul]
   clear hx hup HJ hY
   gi_wp2_with fail
   refine ⟨(fun h => by cases h), hR.mono ?_⟩
   clear hy hR
   rintro er W' (⟨rfl, hJ', hK⟩ | ⟨rfl, hJx'⟩)
   ·rw [HU.out] at hJ'
    have HJ' : Hid (J (chs g o N sz (t + 1)) W') := hJ'
    have d1 := hK.cell c1 (Or.inl rfl)
    have d2 := hK.cell c2 (Or.inr rfl)
    clear hJ' hK c1 c2 hb1 hb2
    gi_wp2_with fail
    go_roundw
    case rel => exact ⟨t + 1, i + sz, by go_num, by rw [← HE.out, HI.out.1], by omega, HT.out, HJ'.out, d1, d2⟩
    case measure => simp [intOf]; omega
   ·gi_wp2_with fail
    refine bodyPost_ret (results_none rfl _ _ _) rfl ?_
    rw [HU.out] at hJx'
    exact ⟨⟨_, rfl⟩, .inr ⟨_, ⟨t + 1, rfl, HT.out⟩, hJx'⟩⟩
  ·have HS : Hid (N ≤ t * sz) := by show _ ≤ _; omega
   gi_wp2_with fail
   go_end0
   exact ⟨⟨_, rfl⟩, .inl ⟨_, ⟨t, rfl, HS.out, hk⟩, HJ.out⟩⟩
theorem append_oneIn {F : Fence} {nn : Nat} {e t : TypeId} {bytes : Nat} (h1 : One e t bytes) {ops : Array Oper} {rest : List Oper} {o : Oper} {a : Act} {w : World} {Q : Exit → Act → World → Prop} (hgd : o.guard = none) (s x : Operand)
  (ho : o.op = .call { callee := .builtin .append, args := #[s, x], argTypes := #[t, t] })
  {base : Nat} {v : Value} {vs : List Value} (hs : a.eval s = v) (hown : OwnV base w e v vs) {va : Option Addr} {c k : Nat} {m : List Value} (hx : a.eval x = .slice va k c) (hk : m.length = k) (hl : RowV w va m) (hn : va = none → c = 0) (hm : ∀ u ∈ m, u.oneCell' = true) (hbig : vs.length + m.length ≤ 1000000000) (hb : base ≤ w.heap.size)
  (h : ∀ v' w', OwnV base w' e v' (vs ++ m) → Fr (Zr v) w w' → (v'.ownBlock = v.ownBlock ∨ v'.ownBlock = some w.heap.size) → wpListIn F nn Tryz.prog ops Q rest (a.put o.dst v') w') : wpListIn F nn Tryz.prog ops Q (o :: rest) a w := by
 refine wpListIn_plain hgd fun K hK => ?_
 obtain ⟨v', w', hr, h2, h3, h4⟩ := append_run h1 o.type hown hk hl hn hm hbig hb
 unfold Oper.wpIn
 refine ⟨?_, ?_⟩
 ·simp [Oper.about, ho, resolve, Target.leads, Sem.run_pure]
 ·rw [Oper.semAt_plain F _ _ (by rw [ho]; intro c hc'; cases hc')]
  simp [execOp, ho, resolve, invoke, builtin, hs, hx, hr, Result.andThen]
  exact hK _ _ (h v' w' h2 h3 h4)
structure CollAt (w : World) (b : Nat) (pre : List Value) (W : World) : Prop where
 fr : Fr None' w W
 box : ∃ v, W.cell? ⟨b, 0, none⟩ = some v ∧ W.frozen? ⟨b, 0, none⟩ = false ∧ OwnV (b + 1) W 122 v pre
 low : w.heap.size ≤ b
 room : b < W.heap.size
theorem CollAt.keep {w : World} {b : Nat} {pre : List Value} {A C : World} (h : CollAt w b pre A) {Y : Nat → Prop} (f : Fr Y A C) (hY : ∀ k, Y k → w.heap.size ≤ k ∧ Za A k) : CollAt w b pre C := by
 obtain ⟨v, hc, hz, hv⟩ := h.box
 have nb : ¬ Y b := fun e => by
  have hc' := hc
  unfold World.cell? at hc'
  split at hc'
  ·exact (hY b e).2 _ _ _ (by assumption)
  ·cases hc'
 exact ⟨h.fr.trans f (fun i e => Or.inr (hY i e).1), ⟨v, f.cell hc nb, (Zs (f.block b h.room nb)).trans hz, hv.fr f (fun k hk e => by
  obtain ⟨c, t, fz, e2⟩ := own_cells hv hk
  exact (hY k e).2 _ _ _ e2)⟩, h.low, Nat.lt_of_lt_of_le h.room f.size⟩
theorem CollAt.more {w : World} {b : Nat} {pre : List Value} {x v v1 : Value} {W W1 W2 : World} (h : CollAt w b pre W) (f1 : Fr None' W W1) (hc : W.cell? ⟨b, 0, none⟩ = some v) (hv : OwnV (b + 1) W 122 v pre) (own : OwnV (b + 1) W2 122 v1 (pre ++ [x])) (f2 : Fr (Zr v) W1 W2) :
  CollAt w b (pre ++ [x]) (W2.setCell ⟨b, 0, none⟩ v1) ∧ Fr (fun k => k = b ∨ Zr v k) W (W2.setCell ⟨b, 0, none⟩ v1) ∧ W2.cell? ⟨b, 0, none⟩ = some v ∧ W2.frozen? ⟨b, 0, none⟩ = false := by
 obtain ⟨_, hc0, hz, _⟩ := h.box
 have nb : ¬ Zr v b := fun e => by have := (hv.lt e).1; omega
 have f12 : Fr (Zr v) W W2 := (f1.mono (fun _ e => e.elim)).then f2
 have c2 := f12.cell hc nb
 have z2 : W2.frozen? ⟨b, 0, none⟩ = false := (Zs (f12.block b h.room nb)).trans hz
 have f3 : Fr (fun k => k = b) W2 (W2.setCell ⟨b, 0, none⟩ v1) := Fr.setCell (M := fun k => k = b) W2 (a := ⟨b, 0, none⟩) rfl _
 have fA : Fr (fun k => k = b ∨ Zr v k) W (W2.setCell ⟨b, 0, none⟩ v1) := (f12.mono (fun _ e => Or.inr e)).then (f3.mono (fun _ e => Or.inl e))
 have hlow := h.low
 refine ⟨⟨h.fr.trans fA (fun i e => Or.inr ?_), ⟨v1, World.cell?_setCell_same' _ _ _ (by rw [c2]; rfl), by rw [World.frozen?_setCell]; exact z2, own.fr f3 (fun k hk e => by have := (own.lt hk).1; omega)⟩, hlow, Nat.lt_of_lt_of_le h.room fA.size⟩, fA, c2, z2⟩
 rcases e with e | e
 ·omega
 ·have := (hv.lt e).1; omega
theorem collect_any (g o c N sz : Nat) (w : World) (hN : N ≤ 4120) (hc : N ≤ c) (h1 : 1 ≤ sz) (hsz : sz ≤ 100) (b1 b2 : Nat) (hb1 : w.cell? ⟨b1, 0, none⟩ = some (.slice (some ⟨g, o, none⟩) N c)) (hb2 : w.cell? ⟨b2, 0, none⟩ = some (.int .i64 sz)) :
  Calls Tryz.prog 198 #[.slice none 0 0, .func (.func 199) #[] #[.pointer (some ⟨b1, 0, none⟩), .pointer (some ⟨b2, 0, none⟩)]] w fun e w' => ∃ v nb, e = .returned v ∧ OwnV w.heap.size w' 122 v (chs g o N sz nb) ∧ N ≤ nb * sz ∧ (∀ k, k < nb → k * sz < N) ∧ Fr None' w w' := by
 have hbl1 := Zq hb1
 have hbl2 := Zq hb2
 obtain ⟨w1, hw1⟩ : ∃ w1, w.alloc (.cells #[.slice none 0 0] 173) = w1 := ⟨_, rfl⟩
 have F1 : Fr None' w w1 := hw1 ▸ Fr.alloc None' w _
 have hs1 : w1.heap.size = w.heap.size + 1 := by rw [← hw1]; simp
 have A1 : CollAt w w.heap.size [] w1 := ⟨F1, ⟨.slice none 0 0, hw1 ▸ cell_new1 w 173 _, by rw [← hw1]; simp, OwnV.nil _ _ _⟩, Nat.le_refl _, by omega⟩
 have HA1 : Hid (CollAt w w.heap.size [] w1) := A1
 have d1 := F1.cell hb1 (fun e => e)
 have d2 := F1.cell hb2 (fun e => e)
 clear A1 hb1 hb2
 refine (callsIn_wide (n := 6)).1 ?_
 refine callsIn_of_wp_marks Tryz.func198 rfl trivial ?_ rfl
 simp only [Tryz.ntmps198, List.size_toArray, List.length_cons, List.length_nil, Nat.reduceAdd, Nat.reduceSub, Array.replicate_succ, Array.replicate_zero, List.push_toArray, List.append_toArray, List.nil_append, List.cons_append]
 gi_wp2_with fail
 refine range_own (α := Value) rfl (by omega) (gf := 199) (lb := #[.pointer (some ⟨b1, 0, none⟩), .pointer (some ⟨b2, 0, none⟩)]) rfl trivial (enters_of Tryz.func199 (by kernel_rfl) rfl) (chunk_seq b1 b2 g o c N sz _ hN hc h1 hsz)
  (fun k hk => hk.elim) (fun W hb => ⟨(Grew.of hb).cell d1 (fun e => e), (Grew.of hb).cell d2 (fun e => e)⟩) Zh.trans (fun W l o' hl => Zh.put W (fun k hkb e => by rcases hkb with e2 | e2 <;> omega) o') (fun _ => rfl)
  (CollAt w w.heap.size) (fun _ _ _ => False)
  (fun pre A C hs f => hs.keep f (fun k e => by
   rcases e with e | ⟨e1, e2⟩
   ·exact e.elim
   ·exact ⟨by omega, e2⟩)) (fun _ _ _ _ h _ => h) HA1.out
  (fun x => { tmps := #[.slice none 0 0, .func (.func 199) #[] #[.pointer (some ⟨b1, 0, none⟩), .pointer (some ⟨b2, 0, none⟩)], .pointer (some ⟨w.heap.size, 0, none⟩), undef, .slice none 0 0, x, .func (.func 199) #[] #[.pointer (some ⟨b1, 0, none⟩), .pointer (some ⟨b2, 0, none⟩)], x, undef, undef, undef, undef, undef], defers := [] }) ?assign ?body ?done ?stop
 case assign =>
  intro l x W K hK
  gi_wp2
  exact hK
 case body =>
  clear HA1 d1 d2
  rintro l pre x W hA ⟨t, hpre, ht⟩ hl _
  obtain ⟨k, rfl, rfl, rfl⟩ := chs_snoc hpre
  obtain ⟨v, hcv, hz, hv⟩ := hA.box
  obtain ⟨va, cv, hva, _, _, _, _⟩ := hv.slice
  have hk1 := ht k (by omega)
  have hk9 : k ≤ 4120 := by
   have : k * 1 ≤ k * sz := Nat.mul_le_mul_left k h1
   omega
  have HA : Hid (CollAt w w.heap.size (chs g o N sz k) W) := hA
  have HV : Hid (OwnV (w.heap.size + 1) W 122 v (chs g o N sz k)) := hv
  have hroom := hA.room
  have hcv2 := hcv
  rw [hva] at hcv
  have hwl : (chs g o N sz k).length ≤ 4120 := by rw [chs_length]; exact hk9
  have HX : Hid (chV g o N sz k = .slice (some ⟨g, o + k * sz, none⟩) (Yv N sz k) (Yv N sz k)) := rfl
  have HP : Hid (chs g o N sz k ++ [chV g o N sz k] = chs g o N sz (k + 1)) := (chs_succ g o N sz k).symm
  clear hA hv hpre ht
  rw [HX.out]
  rw [hva] at HV hcv2
  gi_wp2_with (gi_at_builtin
               refine append_oneIn oneIS rfl _ _ rfl rfl (HV.out.kept (Fr.alloc None' W _)) (m := [.slice (some ⟨g, o + k * sz, none⟩) (Yv N sz k) (Yv N sz k)]) rfl rfl (one_row W 122 _) (fun e => by cases e) (fun u hu => by simp at hu; subst hu; rfl) (by simp; omega) (by simp; omega) ?_
               intro v1 W2 own1 f1 _
               obtain ⟨A2, F2, c2, z2⟩ := HA.out.more (Fr.alloc None' W _) hcv2 HV.out own1 f1
               obtain ⟨va1, cv1, hva1, _, _, _, _⟩ := own1.slice
               obtain ⟨L1, hL1⟩ : ∃ n, (chs g o N sz k ++ [Value.slice (some ⟨g, o + k * sz, none⟩) (Yv N sz k) (Yv N sz k)]).length = n := ⟨_, rfl⟩
               rw [hL1] at hva1
               clear hL1
               subst hva1)
  refine ⟨keeps_of_fr F2 (fun k' e => ?_), Zh.of F2 (fun k' hkb e => ?_), ?_⟩
  ·rcases e with e | e
   ·have := hcv2
    unfold World.cell? at this
    split at this
    ·exact ⟨_, _, _, by rw [e]; assumption⟩
    ·cases this
   ·exact own_cells HV.out e
  ·rcases e with e | e
   ·rcases hkb with e2 | e2 <;> omega
   ·have := (HV.out.lt e).1
    rcases hkb with e2 | e2 <;> omega
  ·exact A2
 case done =>
  rintro D xs W ⟨nb, rfl, hnb, hk⟩ hA hK hD
  clear HA1 d1 d2
  have A2 := hA.keep (Fr.putObj (M := fun k => k = D) W rfl (.deferred none)) (fun k e => ⟨by omega, fun c t f e2 => by rw [e, hK] at e2; cases e2⟩)
  obtain ⟨v, hc, hz, hv⟩ := hA.box
  obtain ⟨v2, hc2, hz2, hv2⟩ := A2.box
  have e2 : v2 = v := by
   have h3 : (W.putObj D (.deferred none)).cell? ⟨w.heap.size, 0, none⟩ = some v := (Fr.putObj (M := fun k => k = D) W rfl (.deferred none)).cell hc (fun e => by have e' : w.heap.size = D := e; omega)
   rw [hc2] at h3
   exact Option.some.inj h3
  subst e2
  have HO : Hid (OwnV w.heap.size (W.putObj D (.deferred none)) 122 v2 (chs g o N sz nb)) := own_mono hv2 (by omega)
  have HF : Hid (Fr None' w (W.putObj D (.deferred none))) := A2.fr
  obtain ⟨va, cv, hva, _, _, _, _⟩ := hv.slice
  subst hva
  clear hv hv2 hc2 hz2 A2 hA
  gi_wp2
  refine ⟨by simp, .inl ⟨_, _, rfl, run_takeDeferred hK, ?_⟩⟩
  refine ⟨_, results_tmp rfl _ _ _, ?_⟩
  exact ⟨_, nb, rfl, HO.out, hnb, hk, HF.out⟩
 case stop =>
  rintro D c pre W _ h _ _
  exact h.elim
theorem collectV_any (g o c N sz : Nat) (w : World) (hN : N ≤ 4120) (hc : N ≤ c) (h1 : 1 ≤ sz) (hsz : sz ≤ 100) (b1 b2 : Nat) (hb1 : w.cell? ⟨b1, 0, none⟩ = some (.slice (some ⟨g, o, none⟩) N c)) (hb2 : w.cell? ⟨b2, 0, none⟩ = some (.int .i64 sz)) :
  Calls Tryz.prog 165 #[.func (.func 199) #[] #[.pointer (some ⟨b1, 0, none⟩), .pointer (some ⟨b2, 0, none⟩)]] w fun e w' => ∃ v nb, e = .returned v ∧ OwnV w.heap.size w' 122 v (chs g o N sz nb) ∧ N ≤ nb * sz ∧ (∀ k, k < nb → k * sz < N) ∧ Fr None' w w' := by
 have cA := collect_any g o c N sz w hN hc h1 hsz b1 b2 hb1 hb2
 clear hb1 hb2
 go_enter Tryz.func165, Tryz.ntmps165
 go_wp2_with fail
 refine cA.mono ?_
 rintro e w1 ⟨v, nb, rfl, h2, h3, h4, h5⟩
 obtain ⟨va, cv, hva, _, _, _, _⟩ := h2.slice
 have HO : Hid (OwnV w.heap.size w1 122 v (chs g o N sz nb)) := h2
 obtain ⟨L1, hL1⟩ : ∃ n, (chs g o N sz nb).length = n := ⟨_, rfl⟩
 rw [hL1] at hva
 subst hva
 clear h2 hL1
 go_wp2_with fail
 go_ret
 exact ⟨_, nb, rfl, HO.out, h3, h4, h5⟩
end Go.Proofs.YtbnfjjjdnbcehaaGreatDoor.Diff
