/-
  What is proved here: what fill makes of the table's rows. Conditions: all lies in memory; what the table's rows own is newer than all else.
-/
import Derived.Test.YtoophkpmbinmlaaTab
namespace Go.Proofs.Ytoophkpmbinmlaa
open Go.RowKit Go.Shelf
set_option maxRecDepth 100000
attribute [local go_sem] run_store_float Oper.semAt_some

theorem fr_drew (M : Nat → Prop) (w : World) : Fr M w w.drew := ⟨rfl, rfl, rfl, Nat.le_refl _, fun _ _ _ => rfl⟩

/-- 'append(r[:0], s...)', r a row of the call's own, s another row. -/
theorem app_row {base bd n c' gd cd m : Nat} {va : Option Addr} {f : Nat → Option Nat} {vs : List Value} {w : World} (hv : OwnV base w 55 (.slice va n c') vs) (hn : vs.length = n) (hD : FRow bd w (.slice (some ⟨gd, 0, none⟩) m cd) m f) (hm : m ≤ 1000) (h0 : 0 < m) (hb : base ≤ w.heap.size) :
    ∃ g' c1 w1, (Builtin.append_ #[64, 64] 64 #[.slice va 0 c', .slice (some ⟨gd, 0, none⟩) m cd]).run Try.prog w = .ok (.slice (some ⟨g', 0, none⟩) m c1) w1 ∧ FRow base w1 (.slice (some ⟨g', 0, none⟩) m c1) m f ∧ Fr (Own1 (.slice va n c')) w w1 ∧ (∀ k, Own1 (.slice (some ⟨g', 0, none⟩) m c1) k → Own1 (.slice va n c') k ∨ k = w.heap.size) := by
  subst hn
  obtain ⟨v1, w1, h1, h2, h3, h4⟩ := append_run oneF 64 hv.zero (va := some ⟨gd, 0, none⟩) (c := cd) (k := m) (m := (List.range m).map (fun i => flV (f i))) (by simp) hD.row (fun e => by cases e) (fls_one m f) (by simp; omega) hb
  rw [List.nil_append] at h2
  obtain ⟨g', c1, rfl, _, _⟩ := FRow.slice (n := m) h2 h0
  have own : ∀ k, Own1 (.slice va 0 c') k → Own1 (.slice va vs.length c') k := fun k hk => by
    unfold Own1 at *
    cases va with
    | none => cases hk
    | some a => exact hk
  exact ⟨g', c1, w1, h1, h2, h3.mono own, fun k hk => (own_or h4 hk).imp (own k) id⟩

set_option maxHeartbeats 4000000 in
theorem fill_any (base bd g0 sz m c0 cb ck gd cd nb : Nat) (vb vk : Option Addr) (R0 : Nat → Value) (Lb a B : List Int) (w : World)
    (hT : Tab base w g0 sz R0) (hsz : sz ≤ 1000) (hnb : Lb.length = nb) (hl : nb < sz) (hK : RowV w vk (ints Lb)) (hB : RowV w vb (ints B)) (hm : B.length = m) (hbm : m ≤ 900) (hba : Lb.length + a.length ≤ 900)
    (hD : FRow bd w (.slice (some ⟨gd, 0, none⟩) (m + 1) cd) (m + 1) (rowK a B)) (hk : ∀ x, vk = some x → x.block < base ∧ x.block ≠ g0) (hbo : ∀ x, vb = some x → x.block < base ∧ x.block ≠ g0) (_hgd : gd < base ∧ gd ≠ g0) (hbw : base ≤ w.heap.size) :
    Calls Try.prog 37 #[.slice (some ⟨g0, 0, none⟩) sz c0, .slice vk nb ck, .slice vb m cb, .slice (some ⟨gd, 0, none⟩) (m + 1) cd] w fun e w' => (∃ v, e = .returned v) ∧ ∃ R, Tab base w' g0 sz R ∧ (∀ i, i ≤ Lb.length → FRow base w' (R i) (m + 1) (rowK (Lb.drop i ++ a) B)) ∧ (∀ i k, i < sz → Own1 (R i) k → Own1 (R0 i) k ∨ w.heap.size ≤ k) ∧ Fr (fun k => k = g0 ∨ ∃ i, i < sz ∧ Own1 (R0 i) k) w w' := by
  have HN : Hid (Lb.length = nb) := hnb
  have HM : Hid (B.length = m) := hm
  have HBA : Hid (nb + a.length ≤ 900) := by rw [hnb] at hba; exact hba
  clear hnb hm hba
  have i1 : (m : Int) ≤ 900 := by omega
  have i2 : (nb : Int) < (sz : Int) := by omega
  have i3 : (sz : Int) ≤ 1000 := by omega
  have i0 : (0 : Int) ≤ (nb : Int) := by omega
  have h0 : 0 < sz := by omega
  -- the two boxes
  obtain ⟨w1, hw1⟩ : ∃ w1, (w.alloc (.cells #[.slice (some ⟨g0, 0, none⟩) sz c0] 61)).alloc (.cells #[.slice vb m cb] 37) = w1 := ⟨_, rfl⟩
  have F1 : Fr None' w w1 := hw1 ▸ (Fr.alloc None' w _).then (Fr.alloc None' _ _)
  have hs1 : w1.heap.size = w.heap.size + 2 := by rw [← hw1]; simp
  have b4 : w1.cell? ⟨w.heap.size, 0, none⟩ = some (.slice (some ⟨g0, 0, none⟩) sz c0) := by rw [← hw1]; simp
  have b6 : w1.cell? ⟨w.heap.size + 1, 0, none⟩ = some (.slice vb m cb) := by rw [← hw1]; simp
  have T1 := hT.fr h0 F1 (fun e => e) (fun _ _ _ _ e => e)
  have D1 : FRow bd w1 (.slice (some ⟨gd, 0, none⟩) (m + 1) cd) (m + 1) (rowK a B) := hD.fr F1 (fun _ _ e => e)
  -- the row below the block
  obtain ⟨us, hu⟩ := T1.own nb hl
  obtain ⟨va, c', hva, _, _, _, _⟩ := hu.slice
  have hu' : OwnV base w1.drew 55 (.slice va us.length c') us := hva ▸ hu
  obtain ⟨g', c1, w2, hr, r2, f2, o2⟩ := app_row hu' rfl (w := w1.drew) D1 (by omega) (by omega) (by show base ≤ w1.heap.size; omega)
  have f2' : Fr (Own1 (R0 nb)) w1 w2 := by rw [hva]; exact (fr_drew _ w1).then f2
  obtain ⟨T3, F3, r3⟩ := T1.put hl r2 f2' (fun k e => by rw [hva]; exact o2 k e)
  have own1 : ∀ i k, i < sz → Own1 (R0 i) k → base ≤ k ∧ k < w.heap.size := fun i k hi hk => by
    obtain ⟨vs, hv⟩ := hT.own i hi
    exact hv.lt hk
  have n4 : ¬ Own1 (R0 nb) w.heap.size := fun e => by have := (own1 nb _ hl e).2; omega
  have n6 : ¬ Own1 (R0 nb) (w.heap.size + 1) := fun e => by have := (own1 nb _ hl e).2; omega
  have ng : ¬ Own1 (R0 nb) g0 := fun e => by have := (own1 nb _ hl e).1; have := hT.lt; omega
  have b4' := f2'.cell b4 n4
  have c2 := T1.cell nb hl
  have c2' := f2'.cell c2 ng
  have z2 : w2.frozen? ⟨g0, nb, none⟩ = false := (frozen_kept' (f2'.block g0 (cell_lt c2) ng)).trans (T1.frz nb)
  have b4s := F3.cell b4 (fun e => e.elim (fun e => by have e' : w.heap.size = g0 := e; have := hT.lt; omega) n4)
  rw [hva] at c2 c2'
  refine (callsIn_wide (n := 3)).1 ?_
  refine callsIn_of_wp_marks Try.func37 rfl trivial ?_ rfl
  simp only [Try.ntmps37, List.size_toArray, List.length_cons, List.length_nil, Nat.reduceAdd, Nat.reduceSub, Array.replicate_succ, Array.replicate_zero, List.push_toArray, List.append_toArray, List.nil_append, List.cons_append]
  gi_wp2_with fail
  refine region_wide (S := fun v => v.cell? ⟨w.heap.size, 0, none⟩ = some (.slice (some ⟨g0, 0, none⟩) sz c0)) (by kernel_rfl) b4 (fun hHeld => ?_)
  refine wpAnyH_take (i := 0) (oi := _) (v := ?_) rfl (by decide +kernel) (by decide +kernel) (by decide +kernel) (fun _ _ _ h => h) (Or.inl ⟨by rfl, ?_⟩) hHeld ?_
  rotate_left
  · intro wq hSw
    first
      | (go_simp; done)
      | (go_simp; with_reducible rfl)
  try simp only [Act.put, List.getElem_toArray, List.getElem_cons_zero, List.setIfInBounds_toArray, List.set_cons_zero, List.set_cons_succ]
  refine wpAnyH_take (i := 1) (oi := _) (v := ?_) rfl (by decide +kernel) (by decide +kernel) (by decide +kernel) (fun _ _ _ h => h) (Or.inl ⟨by rfl, ?_⟩) hHeld ?_
  rotate_left
  · intro wq hSw
    first
      | (go_simp; done)
      | (go_simp; with_reducible rfl)
  try simp only [Act.put, List.getElem_toArray, List.getElem_cons_zero, List.getElem_cons_succ, List.setIfInBounds_toArray, List.set_cons_zero, List.set_cons_succ]
  refine wpAnyH_take (i := 2) (oi := _) (v := ?_) rfl (by decide +kernel) (by decide +kernel) (by decide +kernel) (fun _ _ _ h => h) (Or.inl ⟨by rfl, ?_⟩) hHeld ?_
  rotate_left
  · intro wq hSw
    first
      | (go_simp; done)
      | (go_simp; with_reducible rfl)
  try simp only [Act.put, List.getElem_toArray, List.getElem_cons_zero, List.getElem_cons_succ, List.setIfInBounds_toArray, List.set_cons_zero, List.set_cons_succ]
  refine wpAnyH_take (i := 3) (oi := _) (v := ?_) rfl (by decide +kernel) (by decide +kernel) (by decide +kernel) (fun _ _ _ h => h) (Or.inl ⟨by rfl, ?_⟩) hHeld ?_
  rotate_left
  · intro wq hSw
    first
      | (go_simp; done)
      | (go_simp; with_reducible rfl)
  try simp only [Act.put, List.getElem_toArray, List.getElem_cons_zero, List.getElem_cons_succ, List.setIfInBounds_toArray, List.set_cons_zero, List.set_cons_succ]
  refine wpAnyH_take (i := 4) (oi := _) (v := ?_) rfl (by decide +kernel) (by decide +kernel) (by decide +kernel) (fun _ _ _ h => h) (Or.inl ⟨by rfl, ?_⟩) hHeld ?_
  rotate_left
  · intro wq hSw
    first
      | (go_simp; done)
      | (go_simp; with_reducible rfl)
  try simp only [Act.put, List.getElem_toArray, List.getElem_cons_zero, List.getElem_cons_succ, List.setIfInBounds_toArray, List.set_cons_zero, List.set_cons_succ]
  refine wpAnyH_take (i := 5) (oi := _) (v := ?_) rfl (by decide +kernel) (by decide +kernel) (by decide +kernel) (fun _ _ _ h => h) (Or.inl ⟨by rfl, ?_⟩) hHeld ?_
  rotate_left
  · intro wq hSw
    first
      | (go_simp; done)
      | (go_simp; with_reducible rfl)
  try simp only [Act.put, List.getElem_toArray, List.getElem_cons_zero, List.getElem_cons_succ, List.setIfInBounds_toArray, List.set_cons_zero, List.set_cons_succ]
  refine wpAnyH_take (i := 6) (oi := _) (v := ?_) rfl (by decide +kernel) (by decide +kernel) (by decide +kernel) (fun _ _ _ h => h) (Or.inl ⟨by rfl, ?_⟩) hHeld ?_
  rotate_left
  · intro wq hSw
    first
      | (go_simp; done)
      | (go_simp; with_reducible rfl)
  try simp only [Act.put, List.getElem_toArray, List.getElem_cons_zero, List.getElem_cons_succ, List.setIfInBounds_toArray, List.set_cons_zero, List.set_cons_succ]
  refine wpAnyH_take (i := 9) (oi := _) (v := ?_) rfl (by decide +kernel) (by decide +kernel) (by decide +kernel) (fun _ _ _ h => h) (Or.inl ⟨by rfl, ?_⟩) hHeld ?_
  rotate_left
  · intro wq hSw
    first
      | (go_simp; done)
      | (go_simp; with_reducible rfl)
  try simp only [Act.put, List.getElem_toArray, List.getElem_cons_zero, List.getElem_cons_succ, List.setIfInBounds_toArray, List.set_cons_zero, List.set_cons_succ]
  refine wpAnyH_ready (rs := [7]) (by decide +kernel) (by simp) ?_
  refine AllReadyH.cons rfl (fun K hK => ?_) AllReadyH.nil
  go_simp
  refine hK.out _ _ b4 (fun hHeld => ?_)
  clear hK K
  try simp only [Act.put, List.getElem_toArray, List.getElem_cons_zero, List.getElem_cons_succ, List.setIfInBounds_toArray, List.set_cons_zero, List.set_cons_succ]
  refine wpAnyH_take (i := 8) (oi := _) (v := ?_) rfl (by decide +kernel) (by decide +kernel) (by decide +kernel) (fun _ _ _ h => h) (Or.inl ⟨by rfl, ?_⟩) hHeld ?_
  rotate_left
  · intro wq hSw
    first
      | (go_simp; done)
      | (go_simp; with_reducible rfl)
  try simp only [Act.put, List.getElem_toArray, List.getElem_cons_zero, List.getElem_cons_succ, List.setIfInBounds_toArray, List.set_cons_zero, List.set_cons_succ]
  refine wpAnyH_ready (rs := [10]) (by decide +kernel) (by simp) ?_
  refine AllReadyH.cons rfl (fun K hK => ?_) AllReadyH.nil
  refine step_app rfl _ _ rfl rfl rfl hr ?_
  refine hK.out _ _ b4' (fun hHeld => ?_)
  clear hK K
  try simp only [Act.put, List.getElem_toArray, List.getElem_cons_zero, List.getElem_cons_succ, List.setIfInBounds_toArray, List.set_cons_zero, List.set_cons_succ]
  refine wpAnyH_take (i := 11) (oi := _) (v := ?_) rfl (by decide +kernel) (by decide +kernel) (by decide +kernel) (fun _ _ _ h => h) (Or.inl ⟨by rfl, ?_⟩) hHeld ?_
  rotate_left
  · intro wq hSw
    first
      | (go_simp; done)
      | (go_simp; with_reducible rfl)
  try simp only [Act.put, List.getElem_toArray, List.getElem_cons_zero, List.getElem_cons_succ, List.setIfInBounds_toArray, List.set_cons_zero, List.set_cons_succ]
  refine wpAnyH_ready (rs := [12]) (by decide +kernel) (by simp) ?_
  refine AllReadyH.cons rfl (fun K hK => ?_) AllReadyH.nil
  go_simp
  refine hK.out _ _ b4s (fun hHeld => ?_)
  clear hK K
  try simp only [Act.put, List.getElem_toArray, List.getElem_cons_zero, List.getElem_cons_succ, List.setIfInBounds_toArray, List.set_cons_zero, List.set_cons_succ]
  refine wpAnyH_done (by decide +kernel) (onlyN ?_) _
  have b6s : (w2.setCell ⟨g0, nb, none⟩ (.slice (some ⟨g', 0, none⟩) (m + 1) c1)).cell? ⟨w.heap.size + 1, 0, none⟩ = some (.slice vb m cb) := F3.cell b6 (fun e => e.elim (fun e => by have e' : w.heap.size + 1 = g0 := e; have := hT.lt; omega) n6)
  have hO : ∀ k, Own1 (.slice (some ⟨g', 0, none⟩) (m + 1) c1) k → Own1 (R0 nb) k ∨ k = w1.heap.size := fun k e => by rw [hva]; exact o2 k e
  clear hHeld b4 b4' b6 c2 c2' z2 hr f2 o2 hu hu' hw1 r2
  generalize w2.setCell ⟨g0, nb, none⟩ (.slice (some ⟨g', 0, none⟩) (m + 1) c1) = w3 at *
  gi_wp2_with fail
  refine ⟨trivial, (callsIn_wide.2 (backI_any vk nb ck w3)).mono ?_⟩
  rintro e w4 ⟨rfl, hw4⟩
  have hs3 := F3.size
  have F4 : Fr None' w3 w4 := hw4 ▸ Fr.alloc None' w3 _
  have hs4 : w4.heap.size = w3.heap.size + 1 := by rw [hw4]; simp
  have hbx : w4.cell? ⟨w3.heap.size, 0, none⟩ = some (.slice vk nb ck) := by rw [hw4]; simp
  clear hw4
  have hX : ∀ i k, i < sz → Own1 (if i = nb then .slice (some ⟨g', 0, none⟩) (m + 1) c1 else R0 i) k → Own1 (R0 i) k ∨ k = w1.heap.size := fun i k hi hk => by
    by_cases e : i = nb
    · subst e
      rw [if_pos rfl] at hk
      exact hO k hk
    · rw [if_neg e] at hk
      exact Or.inl hk
  have hg'3 : g' < w3.heap.size := (OwnV.lt r3 (k := g') rfl).2
  have A0 : FillAt base g0 sz m w R0 (fun k => k = w.heap.size ∨ k = w.heap.size + 1 ∨ k = w3.heap.size) Lb a B nb w4 (fun i => if i = nb then .slice (some ⟨g', 0, none⟩) (m + 1) c1 else R0 i) := by
    refine ⟨T3.fr h0 F4 (fun e => e) (fun _ _ _ _ e => e), fun i h1 h2 => ?_, fun i k hi hk => ?_, fun i k hi hk => ?_, ?_⟩
    · have e : i = nb := by have := HN.out; omega
      rw [if_pos e, e, List.drop_of_length_le (by rw [HN.out]; exact Nat.le_refl _), List.nil_append]
      exact FRow.fr (M := None') r3 F4 (fun _ _ e => e)
    · intro hx
      rcases hX i k hi hk with e | e
      · have := (own1 i k hi e).2
        rcases hx with hx | hx | hx <;> omega
      · by_cases e2 : i = nb
        · rw [if_pos e2] at hk
          have e3 : k = g' := by unfold Own1 at hk; cases hk; rfl
          rcases hx with hx | hx | hx <;> omega
        · rw [if_neg e2] at hk
          have := (own1 i k hi hk).2
          rcases hx with hx | hx | hx <;> omega
    · exact (hX i k hi hk).imp id (fun e => by omega)
    · exact ((F1.mono (fun _ e => e.elim)).then (F3.mono (fun k e => e.imp id (fun e => ⟨nb, hl, e⟩)))).then (F4.mono (fun _ e => e.elim))
  have a40 := F4.cell b4s (fun e => e)
  have a60 := F4.cell b6s (fun e => e)
  have hK4 : RowV w4 vk (ints Lb) := hK.fr A0.fr (fun x e => by
    rintro (e2 | ⟨i, hi, e2⟩)
    · exact (hk x e).2 e2
    · have := (own1 i _ hi e2).1
      have := (hk x e).1
      omega)
  have HA0 : Hid (FillAt base g0 sz m w R0 (fun k => k = w.heap.size ∨ k = w.heap.size + 1 ∨ k = w3.heap.size) Lb a B nb w4 (fun i => if i = nb then .slice (some ⟨g', 0, none⟩) (m + 1) c1 else R0 i)) := A0
  have hkl : ∀ k, BackR w3.heap.size vk k → k < w4.heap.size ∧ k ≠ g0 ∧ (k < base ∨ k = w3.heap.size) := fun k hkb => by
    rcases hkb with e | ⟨x, e1, e2⟩
    · have := hT.lt; omega
    · have := hk x e1; omega
  clear A0 hX b4s b6s T3 F3 r3 T1 f2' n4 n6 ng hK F4 D1 hT
  gi_wp2_with fail
  refine range_own (α := Nat × Value) rfl (by omega) (gf := 49) (lb := #[.pointer (some ⟨w3.heap.size, 0, none⟩)]) rfl trivial (enters_of Try.func49 (by kernel_rfl) rfl) (backI_seq w3.heap.size _ ck vk (ints Lb) nb (by rw [ints_length]; exact HN.out) (by omega))
    (fun k hk => hk.elim) (fun W hb => ⟨(Grew.of hb).cell hbx (fun e => e), hK4.fr (Grew.of hb) (Off.no _)⟩) KeepB.trans (fun W l o hl => KeepB.put W (fun k hkb e => by have := (hkl k hkb).1; omega) o) (fun _ => rfl)
    (fun pre W => ∃ t R, t ≤ nb ∧ pre = uptoB (ints Lb) t ∧ FillAt base g0 sz m w R0 (fun k => k = w.heap.size ∨ k = w.heap.size + 1 ∨ k = w3.heap.size) Lb a B (nb - t) W R ∧ W.cell? ⟨w.heap.size, 0, none⟩ = some (.slice (some ⟨g0, 0, none⟩) sz c0) ∧ W.cell? ⟨w.heap.size + 1, 0, none⟩ = some (.slice vb m cb) ∧ w4.heap.size ≤ W.heap.size)
    (fun _ _ _ => False)
    ?hI (fun _ _ _ _ h _ => h) ⟨0, _, Nat.zero_le _, rfl, HA0.out, a40, a60, Nat.le_refl _⟩
    (fun x => { tmps := #[.slice (some ⟨g0, 0, none⟩) sz c0, .slice vk nb ck, .slice vb m cb, .slice (some ⟨gd, 0, none⟩) (m + 1) cd, .pointer (some ⟨w.heap.size, 0, none⟩), undef, .pointer (some ⟨w.heap.size + 1, 0, none⟩), undef, .int .i64 x.1, x.2, .slice (some ⟨g0, 0, none⟩) sz c0, .slice vk nb ck, .int .i64 nb, .slice (some ⟨g0, 0, none⟩) sz c0, .slice vk nb ck, .int .i64 nb, .pointer (some ⟨g0, nb, none⟩), .slice va us.length c', .slice va 0 c', .slice (some ⟨gd, 0, none⟩) (m + 1) cd, .slice (some ⟨g', 0, none⟩) (m + 1) c1, .pointer (some ⟨g0, nb, none⟩), .slice vk nb ck, .func (.func 49) #[] #[.pointer (some ⟨w3.heap.size, 0, none⟩)], .int .i64 x.1, x.2, undef, undef, undef, undef, undef, undef, undef, undef, undef, undef, undef, undef, undef, undef, undef, undef, undef, undef, undef, undef, undef], defers := [] }) ?assign ?body ?done ?stop
  case hI =>
    rintro pre A C ⟨t, R, ht, hp, hF, h4, h6, hs⟩ f
    have nc : ∀ {b : Nat} {v : Value}, A.cell? ⟨b, 0, none⟩ = some v → ¬ (None' b ∨ (w4.heap.size ≤ b ∧ NoCells A b)) := fun hc e => by
      rcases e with e | ⟨_, e⟩
      · exact e
      · unfold World.cell? at hc
        split at hc
        · exact e _ _ _ (by assumption)
        · cases hc
    exact ⟨t, R, ht, hp, hF.keep (by rw [HN.out]; exact hl) f (fun k e => by
      rcases e with e | ⟨e1, e2⟩
      · exact e.elim
      · exact ⟨by omega, e2⟩), f.cell h4 (nc h4), f.cell h6 (nc h6), Nat.le_trans hs f.size⟩
  case assign =>
    intro l x W K hK
    gi_wp2
    exact hK
  case body =>
    clear HA0 a40 a60 hK4 hbx
    rintro l pre x W ⟨t, R, ht, rfl, hF, a4, a6, hsW⟩ ⟨t', ht', hpre⟩ hlw ⟨rc, hrc⟩
    obtain ⟨t2, rfl, hp2, hx⟩ := uptoB_snoc hpre
    have htt : t = t2 := by have := congrArg List.length hp2; simpa [uptoB_length] using this
    subst htt
    obtain ⟨lo, hlo⟩ : ∃ lo, nb - t = lo + 1 := ⟨nb - t - 1, by omega⟩
    have hloL : lo < Lb.length := by rw [HN.out]; omega
    have hx2 : x = (lo, .int .i64 Lb[lo]) := by
      rw [hx, elB_get (k := lo) (by rw [ints_length, HN.out]; omega), ints_get hloL]
    obtain ⟨line, hline⟩ : ∃ line, Lb[lo] = line := ⟨_, rfl⟩
    rw [hline] at hx2
    have HUP : Hid (uptoB (ints Lb) t ++ [x] = uptoB (ints Lb) (t + 1)) := hpre
    have HDR : Hid (Lb.drop lo = line :: Lb.drop (lo + 1)) := by
      show _ = _
      rw [List.drop_eq_getElem_cons hloL, hline]
    rw [hlo] at hF
    have HLO : Hid (nb - t = lo + 1) := hlo
    subst hx2
    clear hpre hp2 hx hline hlo
    have hls : lo < sz := by have := HN.out; omega
    have j1 : (lo : Int) < (sz : Int) := by omega
    have j0 : (0 : Int) ≤ (lo : Int) := by omega
    have j2 : (lo : Int) + 1 < (sz : Int) := by have := HN.out; omega
    have j3 : (0 : Int) ≤ (lo : Int) + 1 := by omega
    have jw : IntKind.i64.wrap ((lo : Int) + 1) = (lo : Int) + 1 := by rw [IntKind.wrap_i64]; omega
    have jt : ((lo : Int) + 1).toNat = lo + 1 := by omega
    have TW := hF.tab
    have rs := hF.rows (lo + 1) (Nat.le_refl _) hloL
    obtain ⟨gs, cs, hgs, _, _⟩ := rs.slice (by omega)
    have aN := TW.cell (lo + 1) (by omega)
    rw [hgs] at rs aN
    obtain ⟨us2, hu2⟩ := TW.own lo hls
    obtain ⟨vo, co, hvo, _, _, _, _⟩ := hu2.slice
    have hu2' : OwnV base W.drew 55 (.slice vo us2.length co) us2 := hvo ▸ hu2
    obtain ⟨g2, c2, W2, hr, r2, f2, o2⟩ := app_row hu2' rfl (w := W.drew) rs (by omega) (by omega) (by show base ≤ W.heap.size; omega)
    have f2' : Fr (Own1 (R lo)) W W2 := by rw [hvo]; exact (fr_drew _ W).then f2
    have o2' : ∀ k, Own1 (.slice (some ⟨g2, 0, none⟩) (m + 1) c2) k → Own1 (R lo) k ∨ k = W.heap.size := fun k e => by rw [hvo]; exact o2 k e
    obtain ⟨T3, F3, r3⟩ := TW.put hls r2 f2' o2'
    have n4 : ¬ Own1 (R lo) w.heap.size := fun e => hF.far lo _ hls e (Or.inl rfl)
    have n6 : ¬ Own1 (R lo) (w.heap.size + 1) := fun e => hF.far lo _ hls e (Or.inr (Or.inl rfl))
    have hlt := TW.lt
    have ng : ¬ Own1 (R lo) g0 := fun e => by have := (hu2.lt e).1; omega
    have a4' := f2'.cell a4 n4
    have cl := TW.cell lo hls
    have cl' := f2'.cell cl ng
    have aN' := f2'.cell aN ng
    have z2 : W2.frozen? ⟨g0, lo, none⟩ = false := (frozen_kept' (f2'.block g0 (cell_lt cl) ng)).trans (TW.frz lo)
    have a4s := F3.cell a4 (fun e => e.elim (fun e => by have e' : w.heap.size = g0 := e; omega) n4)
    have a6s := F3.cell a6 (fun e => e.elim (fun e => by have e' : w.heap.size + 1 = g0 := e; omega) n6)
    have aNs := T3.cell (lo + 1) (by have := HN.out; omega)
    rw [if_neg (by omega), hgs] at aNs
    have ag := T3.cell lo hls
    rw [if_pos rfl] at ag
    have hg2 : Own1 (R lo) g2 ∨ g2 = W.heap.size := o2' g2 rfl
    have hb2 : base ≤ g2 := (OwnV.lt r3 (k := g2) rfl).1
    have hBW : RowV (W2.setCell ⟨g0, lo, none⟩ (.slice (some ⟨g2, 0, none⟩) (m + 1) c2)) vb (ints B) := (hB.fr hF.fr (fun x e => by
      rintro (e2 | ⟨i, hi, e2⟩)
      · exact (hbo x e).2 e2
      · have := (own1 i _ hi e2).1
        have := (hbo x e).1
        omega)).fr F3 (fun x e => by
      rintro (e2 | e2)
      · exact (hbo x e).2 e2
      · have := (hu2.lt e2).1
        have := (hbo x e).1
        omega)
    have cP := putAhead_any base g2 c2 m cb vb B (Lb.drop (lo + 1) ++ a) line (W2.setCell ⟨g0, lo, none⟩ (.slice (some ⟨g2, 0, none⟩) (m + 1) c2)).drew hBW HM.out hbm (by have := HBA.out; have := HN.out; simp; omega) r3 (fun x e => by
      show ¬ x.block = g2
      have := (hbo x e).1
      omega)
    have e4 : ¬ w.heap.size = g2 := fun e => hg2.elim (fun h => n4 (e ▸ h)) (fun h => by omega)
    have e6 : ¬ w.heap.size + 1 = g2 := fun e => hg2.elim (fun h => n6 (e ▸ h)) (fun h => by omega)
    have eg : ¬ g0 = g2 := by omega
    rw [hvo] at cl cl'
    have HF : Hid (FillAt base g0 sz m w R0 (fun k => k = w.heap.size ∨ k = w.heap.size + 1 ∨ k = w3.heap.size) Lb a B (lo + 1) W R) := hF
    have HT3 : Hid (Tab base (W2.setCell ⟨g0, lo, none⟩ (.slice (some ⟨g2, 0, none⟩) (m + 1) c2)) g0 sz (fun j => if j = lo then .slice (some ⟨g2, 0, none⟩) (m + 1) c2 else R j)) := T3
    clear hF T3 TW rs r2 f2 o2 o2' hBW hu2' hB
    gi_wp2_with fail
    refine region_round (S := (fun v => v.cell? ⟨w.heap.size, 0, none⟩ = some (.slice (some ⟨g0, 0, none⟩) sz c0) ∧ v.cell? ⟨g0, lo + 1, none⟩ = some (.slice (some ⟨gs, 0, none⟩) (m + 1) cs))) (by kernel_rfl) (by decide +kernel) ⟨a4, aN⟩ (fun hHeld => ?_)
    refine wpAnyH_take (i := 0) (oi := _) (v := ?_) rfl (by decide +kernel) (by decide +kernel) (by decide +kernel) (fun _ _ _ h => h) (Or.inl ⟨by rfl, ?_⟩) hHeld ?_
    rotate_left
    · intro wq hSw
      first
        | (go_simp; done)
        | (go_simp; with_reducible rfl)
    try simp only [Act.put, List.getElem_toArray, List.getElem_cons_zero, List.setIfInBounds_toArray, List.set_cons_zero, List.set_cons_succ]
    refine wpAnyH_take (i := 1) (oi := _) (v := ?_) rfl (by decide +kernel) (by decide +kernel) (by decide +kernel) (fun _ _ _ h => h) (Or.inl ⟨by rfl, ?_⟩) hHeld ?_
    rotate_left
    · intro wq hSw
      first
        | (go_simp; done)
        | (go_simp; with_reducible rfl)
    try simp only [Act.put, List.getElem_toArray, List.getElem_cons_zero, List.getElem_cons_succ, List.setIfInBounds_toArray, List.set_cons_zero, List.set_cons_succ]
    refine wpAnyH_take (i := 2) (oi := _) (v := ?_) rfl (by decide +kernel) (by decide +kernel) (by decide +kernel) (fun _ _ _ h => h) (Or.inl ⟨by rfl, ?_⟩) hHeld ?_
    rotate_left
    · intro wq hSw
      first
        | (go_simp; done)
        | (go_simp; with_reducible rfl)
    try simp only [Act.put, List.getElem_toArray, List.getElem_cons_zero, List.getElem_cons_succ, List.setIfInBounds_toArray, List.set_cons_zero, List.set_cons_succ]
    refine wpAnyH_take (i := 3) (oi := _) (v := ?_) rfl (by decide +kernel) (by decide +kernel) (by decide +kernel) (fun _ _ _ h => h) (Or.inl ⟨by rfl, ?_⟩) hHeld ?_
    rotate_left
    · intro wq hSw
      first
        | (go_simp; done)
        | (go_simp; with_reducible rfl)
    try simp only [Act.put, List.getElem_toArray, List.getElem_cons_zero, List.getElem_cons_succ, List.setIfInBounds_toArray, List.set_cons_zero, List.set_cons_succ]
    refine wpAnyH_take (i := 4) (oi := _) (v := ?_) rfl (by decide +kernel) (by decide +kernel) (by decide +kernel) (fun _ _ _ h => h) (Or.inl ⟨by rfl, ?_⟩) hHeld ?_
    rotate_left
    · intro wq hSw
      first
        | (go_simp; done)
        | (go_simp; with_reducible rfl)
    try simp only [Act.put, List.getElem_toArray, List.getElem_cons_zero, List.getElem_cons_succ, List.setIfInBounds_toArray, List.set_cons_zero, List.set_cons_succ]
    refine wpAnyH_take (i := 7) (oi := _) (v := ?_) rfl (by decide +kernel) (by decide +kernel) (by decide +kernel) (fun _ _ _ h => h) (Or.inl ⟨by rfl, ?_⟩) hHeld ?_
    rotate_left
    · intro wq hSw
      first
        | (go_simp; done)
        | (go_simp; with_reducible rfl)
    try simp only [Act.put, List.getElem_toArray, List.getElem_cons_zero, List.getElem_cons_succ, List.setIfInBounds_toArray, List.set_cons_zero, List.set_cons_succ]
    refine wpAnyH_take (i := 8) (oi := _) (v := ?_) rfl (by decide +kernel) (by decide +kernel) (by decide +kernel) (fun _ _ _ h => h) (Or.inl ⟨by rfl, ?_⟩) hHeld ?_
    rotate_left
    · intro wq hSw
      first
        | (go_simp; done)
        | (go_simp; with_reducible rfl)
    try simp only [Act.put, List.getElem_toArray, List.getElem_cons_zero, List.getElem_cons_succ, List.setIfInBounds_toArray, List.set_cons_zero, List.set_cons_succ]
    refine wpAnyH_take (i := 9) (oi := _) (v := ?_) rfl (by decide +kernel) (by decide +kernel) (by decide +kernel) (fun _ _ _ h => h) (Or.inl ⟨by rfl, ?_⟩) hHeld ?_
    rotate_left
    · intro wq hSw
      first
        | (go_simp; done)
        | (go_simp; with_reducible rfl)
    try simp only [Act.put, List.getElem_toArray, List.getElem_cons_zero, List.getElem_cons_succ, List.setIfInBounds_toArray, List.set_cons_zero, List.set_cons_succ]
    refine wpAnyH_take (i := 10) (oi := _) (v := ?_) rfl (by decide +kernel) (by decide +kernel) (by decide +kernel) (fun _ _ _ h => h) (Or.inl ⟨by rfl, ?_⟩) hHeld ?_
    rotate_left
    · intro wq hSw
      first
        | (go_simp; done)
        | (go_simp; with_reducible rfl)
    try simp only [Act.put, List.getElem_toArray, List.getElem_cons_zero, List.getElem_cons_succ, List.setIfInBounds_toArray, List.set_cons_zero, List.set_cons_succ]
    refine wpAnyH_take (i := 11) (oi := _) (v := ?_) rfl (by decide +kernel) (by decide +kernel) (by decide +kernel) (fun _ _ _ h => h) (Or.inl ⟨by rfl, ?_⟩) hHeld ?_
    rotate_left
    · intro wq hSw
      first
        | (go_simp; done)
        | (go_simp; with_reducible rfl)
    try simp only [Act.put, List.getElem_toArray, List.getElem_cons_zero, List.getElem_cons_succ, List.setIfInBounds_toArray, List.set_cons_zero, List.set_cons_succ]
    refine wpAnyH_ready (rs := [5]) (by decide +kernel) (by simp) ?_
    refine AllReadyH.cons rfl (fun K hK => ?_) AllReadyH.nil
    go_simp
    refine hK.out _ _ ⟨a4, aN⟩ (fun hHeld => ?_)
    clear hK K
    try simp only [Act.put, List.getElem_toArray, List.getElem_cons_zero, List.getElem_cons_succ, List.setIfInBounds_toArray, List.set_cons_zero, List.set_cons_succ]
    refine wpAnyH_take (i := 6) (oi := _) (v := ?_) rfl (by decide +kernel) (by decide +kernel) (by decide +kernel) (fun _ _ _ h => h) (Or.inl ⟨by rfl, ?_⟩) hHeld ?_
    rotate_left
    · intro wq hSw
      first
        | (go_simp; done)
        | (go_simp; with_reducible rfl)
    try simp only [Act.put, List.getElem_toArray, List.getElem_cons_zero, List.getElem_cons_succ, List.setIfInBounds_toArray, List.set_cons_zero, List.set_cons_succ]
    refine wpAnyH_ready (rs := [12]) (by decide +kernel) (by simp) ?_
    refine AllReadyH.cons rfl (fun K hK => ?_) AllReadyH.nil
    refine step_app rfl _ _ rfl rfl rfl hr ?_
    refine hK.out _ _ ⟨a4', aN'⟩ (fun hHeld => ?_)
    clear hK K
    try simp only [Act.put, List.getElem_toArray, List.getElem_cons_zero, List.getElem_cons_succ, List.setIfInBounds_toArray, List.set_cons_zero, List.set_cons_succ]
    refine wpAnyH_take (i := 13) (oi := _) (v := ?_) rfl (by decide +kernel) (by decide +kernel) (by decide +kernel) (fun _ _ _ h => h) (Or.inl ⟨by rfl, ?_⟩) hHeld ?_
    rotate_left
    · intro wq hSw
      first
        | (go_simp; done)
        | (go_simp; with_reducible rfl)
    try simp only [Act.put, List.getElem_toArray, List.getElem_cons_zero, List.getElem_cons_succ, List.setIfInBounds_toArray, List.set_cons_zero, List.set_cons_succ]
    refine wpAnyH_ready (rs := [14]) (by decide +kernel) (by simp) ?_
    refine AllReadyH.cons rfl (fun K hK => ?_) AllReadyH.nil
    go_simp
    refine hK.out _ _ ⟨a4s, aNs⟩ (fun hHeld => ?_)
    clear hK K
    try simp only [Act.put, List.getElem_toArray, List.getElem_cons_zero, List.getElem_cons_succ, List.setIfInBounds_toArray, List.set_cons_zero, List.set_cons_succ]
    refine wpAnyH_done (by decide +kernel) (onlyN ?_) _
    gi_wp2_with fail
    refine region_round (S := (fun v => v.cell? ⟨w.heap.size, 0, none⟩ = some (.slice (some ⟨g0, 0, none⟩) sz c0) ∧ v.cell? ⟨w.heap.size + 1, 0, none⟩ = some (.slice vb m cb) ∧ v.cell? ⟨g0, lo, none⟩ = some (.slice (some ⟨g2, 0, none⟩) (m + 1) c2))) (by kernel_rfl) (by decide +kernel) ⟨a4s, a6s, ag⟩ (fun hHeld => ?_)
    refine wpAnyH_take (i := 0) (oi := _) (v := ?_) rfl (by decide +kernel) (by decide +kernel) (by decide +kernel) (fun _ _ _ h => h) (Or.inl ⟨by rfl, ?_⟩) hHeld ?_
    rotate_left
    · intro wq hSw
      first
        | (go_simp; done)
        | (go_simp; with_reducible rfl)
    try simp only [Act.put, List.getElem_toArray, List.getElem_cons_zero, List.setIfInBounds_toArray, List.set_cons_zero, List.set_cons_succ]
    refine wpAnyH_take (i := 1) (oi := _) (v := ?_) rfl (by decide +kernel) (by decide +kernel) (by decide +kernel) (fun _ _ _ h => h) (Or.inl ⟨by rfl, ?_⟩) hHeld ?_
    rotate_left
    · intro wq hSw
      first
        | (go_simp; done)
        | (go_simp; with_reducible rfl)
    try simp only [Act.put, List.getElem_toArray, List.getElem_cons_zero, List.getElem_cons_succ, List.setIfInBounds_toArray, List.set_cons_zero, List.set_cons_succ]
    refine wpAnyH_take (i := 2) (oi := _) (v := ?_) rfl (by decide +kernel) (by decide +kernel) (by decide +kernel) (fun _ _ _ h => h) (Or.inl ⟨by rfl, ?_⟩) hHeld ?_
    rotate_left
    · intro wq hSw
      first
        | (go_simp; done)
        | (go_simp; with_reducible rfl)
    try simp only [Act.put, List.getElem_toArray, List.getElem_cons_zero, List.getElem_cons_succ, List.setIfInBounds_toArray, List.set_cons_zero, List.set_cons_succ]
    refine wpAnyH_take (i := 3) (oi := _) (v := ?_) rfl (by decide +kernel) (by decide +kernel) (by decide +kernel) (fun _ _ _ h => h) (Or.inl ⟨by rfl, ?_⟩) hHeld ?_
    rotate_left
    · intro wq hSw
      first
        | (go_simp; done)
        | (go_simp; with_reducible rfl)
    try simp only [Act.put, List.getElem_toArray, List.getElem_cons_zero, List.getElem_cons_succ, List.setIfInBounds_toArray, List.set_cons_zero, List.set_cons_succ]
    refine wpAnyH_take (i := 4) (oi := _) (v := ?_) rfl (by decide +kernel) (by decide +kernel) (by decide +kernel) (fun _ _ _ h => h) (Or.inl ⟨by rfl, ?_⟩) hHeld ?_
    rotate_left
    · intro wq hSw
      first
        | (go_simp; done)
        | (go_simp; with_reducible rfl)
    try simp only [Act.put, List.getElem_toArray, List.getElem_cons_zero, List.getElem_cons_succ, List.setIfInBounds_toArray, List.set_cons_zero, List.set_cons_succ]
    refine wpAnyH_take (i := 5) (oi := _) (v := ?_) rfl (by decide +kernel) (by decide +kernel) (by decide +kernel) (fun _ _ _ h => h) (Or.inl ⟨by rfl, ?_⟩) hHeld ?_
    rotate_left
    · intro wq hSw
      first
        | (go_simp; done)
        | (go_simp; with_reducible rfl)
    try simp only [Act.put, List.getElem_toArray, List.getElem_cons_zero, List.getElem_cons_succ, List.setIfInBounds_toArray, List.set_cons_zero, List.set_cons_succ]
    refine wpAnyH_ready (rs := [6]) (by decide +kernel) (by simp) ?_
    refine AllReadyH.cons rfl (fun K hK => ?_) AllReadyH.nil
    go_simp
    refine cP.mono ?_
    rintro e W5 ⟨⟨vr, rfl⟩, r5, f5⟩
    refine hK.out _ _ ⟨f5.cell a4s e4, f5.cell a6s e6, f5.cell ag eg⟩ (fun hHeld => ?_)
    clear hK K
    try simp only [Act.put, List.getElem_toArray, List.getElem_cons_zero, List.getElem_cons_succ, List.setIfInBounds_toArray, List.set_cons_zero, List.set_cons_succ]
    refine wpAnyH_done (by decide +kernel) (onlyN ?_) _
    gi_wp2_with fail
    have hsz2 : Lb.length < sz := by have := HN.out; omega
    have r6 : FRow base W5 (.slice (some ⟨g2, 0, none⟩) (m + 1) c2) (m + 1) (rowK (Lb.drop lo ++ a) B) := by rw [HDR.out]; exact r5
    obtain ⟨A5, F5⟩ := HF.out.step hloL hsz2 HT3.out F3 hg2 hb2 r6 ((fr_drew _ _).then f5) (fun k e => by rcases e with e | e | e <;> omega) (by omega)
    have hgb := HF.out.tab.blk h0
    have A6 := A5
    have elo : lo = nb - (t + 1) := by have := HLO.out; omega
    refine ⟨keeps_of_fr F5 (fun k e => e.elim (fun e => e ▸ hgb) (fun e => own_cells hu2 e)), KeepB.of F5 (fun k hkb e => ?_), t + 1, _, by have := HLO.out; omega, HUP.out, fillAt_lo elo A6, f5.cell a4s e4, f5.cell a6s e6, Nat.le_trans hsW F5.size⟩
    · obtain ⟨_, k2, k3⟩ := hkl k hkb
      rcases e with e | e
      · exact k2 e
      · rcases k3 with k3 | k3
        · have := (hu2.lt e).1
          omega
        · exact HF.out.far lo k hls e (Or.inr (Or.inr k3))
  case done =>
    rintro D xs W rfl ⟨t, R, ht, hp, hF, _, _, hs⟩ hK hD
    clear HA0 a40 a60 hK4 hbx
    have htt : t = nb := by have := congrArg List.length hp; simpa [uptoB_length] using this.symm
    rw [htt, Nat.sub_self] at hF
    have hsz2 : Lb.length < sz := by have := HN.out; omega
    have hF2 := hF.keep hsz2 (Fr.putObj (M := fun k => k = D) W rfl (.deferred none)) (fun k e => ⟨by omega, fun c t f e2 => by rw [e, hK] at e2; cases e2⟩)
    have HF : Hid (FillAt base g0 sz m w R0 (fun k => k = w.heap.size ∨ k = w.heap.size + 1 ∨ k = w3.heap.size) Lb a B 0 (W.putObj D (.deferred none)) R) := hF2
    clear hF hF2
    gi_wp2
    refine ⟨by simp, .inl ⟨_, _, rfl, run_takeDeferred hK, ?_⟩⟩
    exact ⟨_, results_none rfl _ _ _, ⟨_, rfl⟩, R, HF.out.tab, fun i hi => HF.out.rows i (Nat.zero_le _) hi, HF.out.new, HF.out.fr⟩
  case stop =>
    rintro D c pre W _ h _ _
    exact h.elim

end Go.Proofs.Ytoophkpmbinmlaa
