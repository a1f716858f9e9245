/-
  What is proved here: what the function that reckon hands back answers, and what it keeps in memory. Conditions: all lies in memory; there are at most 900 lines.
-/
import Derived.Test.YtoophkpmbinmlaaChunk
namespace Go.Proofs.Ytoophkpmbinmlaa
open Go.RowKit Go.Shelf
set_option maxRecDepth 100000
attribute [local go_sem] run_store_float

/-- What that function has captured, and where all of it lies. -/
structure GE where
  (pn ps pr pk pb pw g0 gB gl ga oa sz nb m c0 cl cb H1 base : Nat)
  vb : Option Addr
  D : Nat → Value
  A : List Int
  B : List Int

/-- The blocks that it reads or writes. -/
def GE.foot (E : GE) (R : Nat → Value) : Nat → Prop := fun k => (E.H1 ≤ k ∧ k < E.base) ∨ ∃ i, i < E.sz + 1 ∧ Own1 (R i) k

/-- .. and what does not change. -/
structure GE.Fit (E : GE) : Prop where
  sz1 : 1 ≤ E.sz
  sz9 : E.sz ≤ 100
  nA : E.A.length ≤ 900
  mB : E.B.length = E.m
  m9 : E.m ≤ 900
  m1 : 0 < E.m
  nb1 : E.A.length ≤ E.nb * E.sz
  nb2 : ∀ k, k < E.nb → k * E.sz < E.A.length
  nb9 : E.nb ≤ 900
  low : ∀ k, k = E.pn ∨ k = E.ps ∨ k = E.pr ∨ k = E.pk ∨ k = E.pb ∨ k = E.pw ∨ k = E.g0 ∨ k = E.gB ∨ k = E.gl ∨ k = E.ga → E.H1 ≤ k ∧ k < E.base
  lowb : ∀ x, E.vb = some x → E.H1 ≤ x.block ∧ x.block < E.base
  lowD : ∀ k j, k < E.nb → Own1 (E.D k) j → E.H1 ≤ j ∧ j < E.base
  ne : E.pn ≠ E.ps ∧ E.pn ≠ E.pr ∧ E.pn ≠ E.pk ∧ E.pn ≠ E.pb ∧ E.pn ≠ E.pw ∧ E.pn ≠ E.g0 ∧ E.pn ≠ E.gB ∧ E.pn ≠ E.gl ∧ E.pn ≠ E.ga
  neb : ∀ x, E.vb = some x → x.block ≠ E.pn ∧ x.block ≠ E.g0
  neD : ∀ k j, k < E.nb → Own1 (E.D k) j → j ≠ E.pn ∧ j ≠ E.g0
  ne0 : E.g0 ≠ E.ps ∧ E.g0 ≠ E.pr ∧ E.g0 ≠ E.pk ∧ E.g0 ≠ E.pb ∧ E.g0 ≠ E.pw ∧ E.g0 ≠ E.gB ∧ E.g0 ≠ E.gl ∧ E.g0 ≠ E.ga

/-- What lies where. -/
structure GoesAt (E : GE) (w : World) (R : Nat → Value) (now : Int) : Prop where
  cn : w.cell? ⟨E.pn, 0, none⟩ = some (.int .i64 now)
  zn : w.frozen? ⟨E.pn, 0, none⟩ = false
  cs : w.cell? ⟨E.ps, 0, none⟩ = some (.int .i64 E.sz)
  cr : w.cell? ⟨E.pr, 0, none⟩ = some (.slice (some ⟨E.g0, 0, none⟩) (E.sz + 1) E.c0)
  ck : w.cell? ⟨E.pk, 0, none⟩ = some (.slice (some ⟨E.gl, 0, none⟩) E.nb E.cl)
  cb : w.cell? ⟨E.pb, 0, none⟩ = some (.slice E.vb E.m E.cb)
  cw : w.cell? ⟨E.pw, 0, none⟩ = some (.slice (some ⟨E.gB, 0, none⟩) E.nb E.nb)
  rl : RowV w (some ⟨E.gl, 0, none⟩) (chs E.ga E.oa E.A.length E.sz E.nb)
  rA : RowV w (some ⟨E.ga, E.oa, none⟩) (ints E.A)
  rB : RowV w E.vb (ints E.B)
  rD : ∀ k, k < E.nb → w.cell? ⟨E.gB, k, none⟩ = some (E.D k) ∧ FRow E.H1 w (E.D k) (E.m + 1) (rowK (E.A.drop ((k + 1) * E.sz)) E.B)
  tab : Tab E.base w E.g0 (E.sz + 1) R
  top : E.base ≤ w.heap.size
  fill : now = -1 ∨ ∃ k : Nat, k < E.nb ∧ now = k ∧ ∀ i, i ≤ chLen E.A.length E.sz k → FRow E.base w (R i) (E.m + 1) (rowK (E.A.drop (k * E.sz + i)) E.B)

theorem GE.foot_low {E : GE} (hE : E.Fit) {R : Nat → Value} {k : Nat} (h : k = E.pn ∨ k = E.ps ∨ k = E.pr ∨ k = E.pk ∨ k = E.pb ∨ k = E.pw ∨ k = E.g0 ∨ k = E.gB ∨ k = E.gl ∨ k = E.ga) : E.foot R k := Or.inl (hE.low k h)

/-- It abides what is done to other blocks. -/
theorem GoesAt.fr {E : GE} (hE : E.Fit) {w w' : World} {R : Nat → Value} {now : Int} (h : GoesAt E w R now) {M : Nat → Prop} (f : Fr M w w') (hM : ∀ k, E.foot R k → ¬ M k) : GoesAt E w' R now := by
  have L := @GE.foot_low E hE R
  have own : ∀ i k, i < E.sz + 1 → Own1 (R i) k → ¬ M k := fun i k hi hk => hM k (Or.inr ⟨i, hi, hk⟩)
  refine ⟨f.cell h.cn (hM _ (L (by simp))), (frozen_kept' (f.block _ (cell_lt h.cn) (hM _ (L (by simp))))).trans h.zn, f.cell h.cs (hM _ (L (by simp))), f.cell h.cr (hM _ (L (by simp))), f.cell h.ck (hM _ (L (by simp))), f.cell h.cb (hM _ (L (by simp))), f.cell h.cw (hM _ (L (by simp))),
    h.rl.fr f (fun a e => by cases e; exact hM _ (L (by simp))), h.rA.fr f (fun a e => by cases e; exact hM _ (L (by simp))), h.rB.fr f (fun a e => hM _ (Or.inl (hE.lowb a e))),
    fun k hk => ⟨f.cell (h.rD k hk).1 (hM _ (L (by simp))), (h.rD k hk).2.fr f (fun j hj => hM _ (Or.inl (hE.lowD k j hk hj)))⟩,
    h.tab.fr (by omega) f (hM _ (L (by simp))) own, Nat.le_trans h.top f.size, ?_⟩
  rcases h.fill with e | ⟨k, hk, e, hr⟩
  · exact Or.inl e
  · refine Or.inr ⟨k, hk, e, fun i hi => (hr i hi).fr f (fun j hj => own i j ?_ hj)⟩
    have : chLen E.A.length E.sz k ≤ E.sz := Nat.min_le_left _ _
    omega

theorem drop_part {A : List Int} {p sz i : Nat} (hi : i ≤ min sz (A.length - p)) : ((A.drop p).take (min sz (A.length - p))).drop i ++ A.drop (p + sz) = A.drop (p + i) := by
  have e1 : (A.drop p).take (min sz (A.length - p)) = (A.drop p).take sz := by
    rw [List.take_eq_take_iff]
    simp
  rw [e1, ← List.drop_drop, ← List.drop_drop]
  have h := List.take_append_drop sz (A.drop p)
  conv => rhs; rw [← h]
  rw [List.drop_append_of_le_length]
  rw [List.length_take, List.length_drop]
  exact hi

theorem kgeq_row (A B : List Int) (i j : Nat) : kgeq (rowK (A.drop (i + 1)) B j) (rowK (A.drop i) B (j + 1)) = kgeq (kept (A.drop (i + 1)) (B.drop j)) (kept (A.drop i) (B.drop (j + 1))) := rfl

/-- The block of i is filled: its rows, and the next, are at hand. -/
theorem GoesAt.rows {E : GE} (_ : E.Fit) {w : World} {R : Nat → Value} {i q r : Nat} (h : GoesAt E w R (q : Int)) (hi : i < E.A.length) (hq : i = q * E.sz + r) (hr : r < E.sz) :
    FRow E.base w (R r) (E.m + 1) (rowK (E.A.drop i) E.B) ∧ FRow E.base w (R (r + 1)) (E.m + 1) (rowK (E.A.drop (i + 1)) E.B) := by
  rcases h.fill with e | ⟨k, hk, e, hf⟩
  · omega
  · have ek : k = q := by omega
    subst ek
    have hlen : r + 1 ≤ chLen E.A.length E.sz k := by unfold chLen; omega
    have h1 := hf r (by omega)
    have h2 := hf (r + 1) hlen
    rw [← hq] at h1
    rw [← Nat.add_assoc, ← hq] at h2
    exact ⟨h1, h2⟩

set_option maxHeartbeats 4000000 in
theorem goes_read (E : GE) (hE : E.Fit) (w : World) (R : Nat → Value) (i j q r : Nat) (h : GoesAt E w R (q : Int)) (hi : i < E.A.length) (hj : j < E.m) (hq : i = q * E.sz + r) (hr : r < E.sz) :
    Calls Try.prog 36 #[.int .i64 i, .int .i64 j, .pointer (some ⟨E.pn, 0, none⟩), .pointer (some ⟨E.ps, 0, none⟩), .pointer (some ⟨E.pr, 0, none⟩), .pointer (some ⟨E.pk, 0, none⟩), .pointer (some ⟨E.pb, 0, none⟩), .pointer (some ⟨E.pw, 0, none⟩)] w fun e w' => e = .returned (.bool (kgeq (kept (E.A.drop (i + 1)) (E.B.drop j)) (kept (E.A.drop i) (E.B.drop (j + 1))))) ∧ Fr None' w w' := by
  obtain ⟨r1, r2⟩ := h.rows hE hi hq hr
  have hrm : i % E.sz = r := by rw [hq, Nat.mul_add_mod_self_right, Nat.mod_eq_of_lt hr]
  have hqd : i / E.sz = q := by rw [hq, Nat.mul_comm, Nat.mul_add_div (by omega), Nat.div_eq_of_lt hr, Nat.add_zero]
  have dq : (i : Int) / (E.sz : Int) = (q : Int) := by rw [← hqd]; exact (Int.natCast_ediv i E.sz).symm
  have dr : (i : Int) % (E.sz : Int) = (r : Int) := by rw [← hrm]; exact (Int.natCast_emod i E.sz).symm
  obtain ⟨g1, c1, hg1, _, _⟩ := r1.slice (by omega)
  obtain ⟨g2, c2, hg2, _, _⟩ := r2.slice (by omega)
  have t1 := h.tab.cell r (by omega)
  have t2 := h.tab.cell (r + 1) (by omega)
  rw [hg1] at r1 t1
  rw [hg2] at r2 t2
  have e1 := r1.cell (j := j + 1) (by omega)
  have e2 := r2.cell (j := j) (by omega)
  have hA9 := hE.nA
  have hm9 := hE.m9
  have hs9 := hE.sz9
  have hs1 := hE.sz1
  have b1 : ∀ k, rowK (E.A.drop i) E.B (j + 1) = some k → k ≤ 1000 := fun k hk => Nat.le_of_lt (kept_bound (by rw [List.length_drop]; omega) _ k hk)
  have b2 : ∀ k, rowK (E.A.drop (i + 1)) E.B j = some k → k ≤ 1000 := fun k hk => Nat.le_of_lt (kept_bound (by rw [List.length_drop]; omega) _ k hk)
  have hg := fl_geq (rowK (E.A.drop (i + 1)) E.B j) (rowK (E.A.drop i) E.B (j + 1)) b2 b1
  have HG : Hid (kgeq (rowK (E.A.drop (i + 1)) E.B j) (rowK (E.A.drop i) E.B (j + 1)) = kgeq (kept (E.A.drop (i + 1)) (E.B.drop j)) (kept (E.A.drop i) (E.B.drop (j + 1)))) := rfl
  unfold flV at e1 e2
  generalize fl (rowK (E.A.drop i) E.B (j + 1)) = x1 at e1 hg
  generalize fl (rowK (E.A.drop (i + 1)) E.B j) = x2 at e2 hg
  generalize kgeq (rowK (E.A.drop (i + 1)) E.B j) (rowK (E.A.drop i) E.B (j + 1)) = ans at hg HG
  rw [← HG.out]
  have cn := h.cn
  have cs := h.cs
  have cr := h.cr
  have i0 : (0 : Int) ≤ (i : Int) := by omega
  have i1 : (i : Int) ≤ 900 := by omega
  have i2 : (1 : Int) ≤ (E.sz : Int) := by omega
  have i3 : (E.sz : Int) ≤ 100 := by omega
  have i4 : (0 : Int) ≤ (r : Int) := by omega
  have i5 : (r : Int) < (E.sz : Int) := by omega
  have i6 : (0 : Int) ≤ (j : Int) := by omega
  have i7 : (j : Int) < (E.m : Int) := by omega
  have i8 : (E.m : Int) ≤ 900 := by omega
  have i9 : ¬ (E.sz : Int) = 0 := by omega
  have hqi : q ≤ i := by rw [← hqd]; exact Nat.div_le_self i E.sz
  have iq : (q : Int) ≤ 900 := by omega
  have iq0 : (0 : Int) ≤ (q : Int) := by omega
  clear h r1 r2 hg1 hg2 b1 b2 HG hq hrm hqd hE
  go_enter Try.func36, Try.ntmps36
  go_wp2_with fail
  go_quiet (fail)
  go_wp2_with fail
  go_quiet (fail)
  go_wp2_with fail
  go_ret
  exact ⟨rfl, (Fr.drewN _ _ _).then (Fr.drewN _ _ _)⟩

/-- The cells that the last comparison reads. -/
theorem GoesAt.facts {E : GE} (hE : E.Fit) {w : World} {R : Nat → Value} {i j q r : Nat} (h : GoesAt E w R (q : Int)) (hi : i < E.A.length) (hj : j < E.m) (hq : i = q * E.sz + r) (hr : r < E.sz) :
    ∃ g1 c1 g2 c2 x1 x2 : Nat, w.cell? ⟨E.g0, r, none⟩ = some (.slice (some ⟨g1, 0, none⟩) (E.m + 1) c1) ∧ w.cell? ⟨E.g0, r + 1, none⟩ = some (.slice (some ⟨g2, 0, none⟩) (E.m + 1) c2) ∧ w.cell? ⟨g1, j + 1, none⟩ = some (.float .f64 x1) ∧ w.cell? ⟨g2, j, none⟩ = some (.float .f64 x2) ∧
      (FloatKind.f64.format.order x2 x1 == some Ordering.gt || FloatKind.f64.format.order x2 x1 == some Ordering.eq) = kgeq (kept (E.A.drop (i + 1)) (E.B.drop j)) (kept (E.A.drop i) (E.B.drop (j + 1))) := by
  obtain ⟨r1, r2⟩ := h.rows hE hi hq hr
  obtain ⟨g1, c1, hg1, _, _⟩ := r1.slice (by omega)
  obtain ⟨g2, c2, hg2, _, _⟩ := r2.slice (by omega)
  have t1 := h.tab.cell r (by omega)
  have t2 := h.tab.cell (r + 1) (by omega)
  rw [hg1] at r1 t1
  rw [hg2] at r2 t2
  have hA9 := hE.nA
  have b1 : ∀ k, rowK (E.A.drop i) E.B (j + 1) = some k → k ≤ 1000 := fun k hk => Nat.le_of_lt (kept_bound (by rw [List.length_drop]; omega) _ k hk)
  have b2 : ∀ k, rowK (E.A.drop (i + 1)) E.B j = some k → k ≤ 1000 := fun k hk => Nat.le_of_lt (kept_bound (by rw [List.length_drop]; omega) _ k hk)
  exact ⟨g1, c1, g2, c2, _, _, t1, t2, r1.cell (j := j + 1) (by omega), r2.cell (j := j) (by omega), fl_geq (rowK (E.A.drop (i + 1)) E.B j) (rowK (E.A.drop i) E.B (j + 1)) b2 b1⟩

/-- Another block is filled. -/
theorem GoesAt.filled {E : GE} (hE : E.Fit) {w w1 w2 : World} {R R' : Nat → Value} {now : Int} {q : Nat} (h : GoesAt E w R now) (hq : q < E.nb) (f1 : Fr (fun k => k = E.pn) w w1) (c1 : w1.cell? ⟨E.pn, 0, none⟩ = some (.int .i64 q)) (z1 : w1.frozen? ⟨E.pn, 0, none⟩ = false)
    (t2 : Tab E.base w2 E.g0 (E.sz + 1) R') (rows : ∀ i, i ≤ chLen E.A.length E.sz q → FRow E.base w2 (R' i) (E.m + 1) (rowK (E.A.drop (q * E.sz + i)) E.B)) (new : ∀ i k, i < E.sz + 1 → Own1 (R' i) k → Own1 (R i) k ∨ w1.heap.size ≤ k) (f2 : Fr (fun k => k = E.g0 ∨ ∃ i, i < E.sz + 1 ∧ Own1 (R i) k) w1 w2) :
    GoesAt E w2 R' (q : Int) ∧ Fr (E.foot R) w w2 ∧ ∀ k, E.foot R' k → E.foot R k ∨ w.heap.size ≤ k := by
  obtain ⟨n1, n2, n3, n4, n5, n6, n7, n8, n9⟩ := hE.ne
  obtain ⟨m1, m2, m3, m4, m5, m6, m7, m8⟩ := hE.ne0
  have L := hE.low
  have own : ∀ i k, i < E.sz + 1 → Own1 (R i) k → E.base ≤ k := fun i k hi hk => by
    obtain ⟨vs, hv⟩ := h.tab.own i hi
    exact (hv.lt hk).1
  have f12 : Fr (fun k => k = E.pn ∨ k = E.g0 ∨ ∃ i, i < E.sz + 1 ∧ Own1 (R i) k) w w2 := (f1.mono (fun _ e => Or.inl e)).then (f2.mono (fun _ e => Or.inr e))
  have no : ∀ k, k < E.base → k ≠ E.pn → k ≠ E.g0 → ¬ (k = E.pn ∨ k = E.g0 ∨ ∃ i, i < E.sz + 1 ∧ Own1 (R i) k) := fun k hk h1 h2 e => by
    rcases e with e | e | ⟨i, hi, e⟩
    · exact h1 e
    · exact h2 e
    · have := own i k hi e
      omega
  have nn : ¬ (E.pn = E.g0 ∨ ∃ i, i < E.sz + 1 ∧ Own1 (R i) E.pn) := fun e => by
    rcases e with e | ⟨i, hi, e⟩
    · exact n6 e
    · have := own i _ hi e
      have := (L E.pn (by simp)).2
      omega
  refine ⟨⟨f2.cell c1 nn, (frozen_kept' (f2.block _ (cell_lt c1) nn)).trans z1, f12.cell h.cs (no _ (L _ (by simp)).2 (Ne.symm n1) (Ne.symm m1)), f12.cell h.cr (no _ (L _ (by simp)).2 (Ne.symm n2) (Ne.symm m2)), f12.cell h.ck (no _ (L _ (by simp)).2 (Ne.symm n3) (Ne.symm m3)), f12.cell h.cb (no _ (L _ (by simp)).2 (Ne.symm n4) (Ne.symm m4)), f12.cell h.cw (no _ (L _ (by simp)).2 (Ne.symm n5) (Ne.symm m5)),
    h.rl.fr f12 (fun a e => by cases e; exact no _ (L _ (by simp)).2 (Ne.symm n8) (Ne.symm m7)), h.rA.fr f12 (fun a e => by cases e; exact no _ (L _ (by simp)).2 (Ne.symm n9) (Ne.symm m8)), h.rB.fr f12 (fun a e => no _ (hE.lowb a e).2 (hE.neb a e).1 (hE.neb a e).2),
    fun k hk => ⟨f12.cell (h.rD k hk).1 (no _ (L _ (by simp)).2 (Ne.symm n7) (Ne.symm m6)), (h.rD k hk).2.fr f12 (fun j hj => no _ (hE.lowD k j hk hj).2 (hE.neD k j hk hj).1 (hE.neD k j hk hj).2)⟩,
    t2, Nat.le_trans h.top f12.size, Or.inr ⟨q, hq, rfl, rows⟩⟩, f12.mono (fun k e => ?_), fun k e => ?_⟩
  · rcases e with e | e | e
    · rw [e]; exact Or.inl (L _ (by simp))
    · rw [e]; exact Or.inl (L _ (by simp))
    · exact Or.inr e
  · rcases e with e | ⟨i, hi, e⟩
    · exact Or.inl (Or.inl e)
    · rcases new i k hi e with e | e
      · exact Or.inl (Or.inr ⟨i, hi, e⟩)
      · exact Or.inr (Nat.le_trans f1.size e)

set_option maxHeartbeats 4000000 in
theorem goes_fill (E : GE) (hE : E.Fit) (w : World) (R : Nat → Value) (now : Int) (i j q r : Nat) (h : GoesAt E w R now) (hne : ¬ now = (q : Int)) (hi : i < E.A.length) (hj : j < E.m) (hq : i = q * E.sz + r) (hr : r < E.sz) :
    Calls Try.prog 36 #[.int .i64 i, .int .i64 j, .pointer (some ⟨E.pn, 0, none⟩), .pointer (some ⟨E.ps, 0, none⟩), .pointer (some ⟨E.pr, 0, none⟩), .pointer (some ⟨E.pk, 0, none⟩), .pointer (some ⟨E.pb, 0, none⟩), .pointer (some ⟨E.pw, 0, none⟩)] w fun e w' => e = .returned (.bool (kgeq (kept (E.A.drop (i + 1)) (E.B.drop j)) (kept (E.A.drop i) (E.B.drop (j + 1))))) ∧ ∃ R', GoesAt E w' R' (q : Int) ∧ Fr (E.foot R) w w' ∧ ∀ k, E.foot R' k → E.foot R k ∨ w.heap.size ≤ k := by
  have hrm : i % E.sz = r := by rw [hq, Nat.mul_add_mod_self_right, Nat.mod_eq_of_lt hr]
  have hqd : i / E.sz = q := by rw [hq, Nat.mul_comm, Nat.mul_add_div (by omega), Nat.div_eq_of_lt hr, Nat.add_zero]
  have dq : (i : Int) / (E.sz : Int) = (q : Int) := by rw [← hqd]; exact (Int.natCast_ediv i E.sz).symm
  have dr : (i : Int) % (E.sz : Int) = (r : Int) := by rw [← hrm]; exact (Int.natCast_emod i E.sz).symm
  have hA9 := hE.nA
  have hm9 := hE.m9
  have hs9 := hE.sz9
  have hs1 := hE.sz1
  have hb9 := hE.nb9
  have hqi : q ≤ i := by rw [← hqd]; exact Nat.div_le_self i E.sz
  have hqn : q < E.nb := by
    have h1 := hE.nb1
    rcases Nat.lt_or_ge q E.nb with h2 | h2
    · exact h2
    · have := Nat.mul_le_mul_right E.sz h2
      omega
  have i0 : (0 : Int) ≤ (i : Int) := by omega
  have i1 : (i : Int) ≤ 900 := by omega
  have i2 : (1 : Int) ≤ (E.sz : Int) := by omega
  have i3 : (E.sz : Int) ≤ 100 := by omega
  have i4 : (0 : Int) ≤ (r : Int) := by omega
  have i5 : (r : Int) < (E.sz : Int) := by omega
  have i6 : (0 : Int) ≤ (j : Int) := by omega
  have i7 : (j : Int) < (E.m : Int) := by omega
  have i8 : (E.m : Int) ≤ 900 := by omega
  have i9 : ¬ (E.sz : Int) = 0 := by omega
  have iq : (q : Int) ≤ 900 := by omega
  have iq0 : (0 : Int) ≤ (q : Int) := by omega
  have iqn : (q : Int) < (E.nb : Int) := by omega
  have ib9 : (E.nb : Int) ≤ 900 := by omega
  have HN : Hid (i = q * E.sz + r) := hq
  obtain ⟨ans, hans⟩ : ∃ ans, kgeq (kept (E.A.drop (i + 1)) (E.B.drop j)) (kept (E.A.drop i) (E.B.drop (j + 1))) = ans := ⟨_, rfl⟩
  rw [hans]
  have HANS : Hid (kgeq (kept (E.A.drop (i + 1)) (E.B.drop j)) (kept (E.A.drop i) (E.B.drop (j + 1))) = ans) := hans
  clear hans
  have Hh0 : Hid (GoesAt E w R now) := h
  have cn := h.cn
  have cs := h.cs
  clear h hq hrm hqd
  go_enter Try.func36, Try.ntmps36
  go_wp2_with fail
  go_quiet (fail)
  have h : GoesAt E (w.drewN nq) R now := Hh0.out.fr hE (Fr.drewN None' w nq) (fun _ _ e => e)
  have F0 : Fr None' w (w.drewN nq) := Fr.drewN None' w nq
  clear cn cs Hh0
  generalize w.drewN nq = v at *
  have cn := h.cn
  have zn := h.zn
  have cs := h.cs
  obtain ⟨rDc, rDr⟩ := h.rD q hqn
  obtain ⟨gd, cd, hgd, _, _⟩ := rDr.slice (by omega)
  rw [hgd] at rDc rDr
  have hgdl := hE.lowD q gd hqn (by rw [hgd]; rfl)
  have hgdn := hE.neD q gd hqn (by rw [hgd]; rfl)
  obtain ⟨n1, n2, n3, n4, n5, n6, n7, n8, n9⟩ := hE.ne
  obtain ⟨m1, m2, m3, m4, m5, m6, m7, m8⟩ := hE.ne0
  have L := hE.low
  -- the world behind the store of now
  obtain ⟨w1, hw1⟩ : ∃ w1, v.setCell ⟨E.pn, 0, none⟩ (.int .i64 q) = w1 := ⟨_, rfl⟩
  have f1 : Fr (fun k => k = E.pn) v w1 := hw1 ▸ Fr.setCell (M := fun k => k = E.pn) v (a := ⟨E.pn, 0, none⟩) rfl _
  have c1n : w1.cell? ⟨E.pn, 0, none⟩ = some (.int .i64 q) := by rw [← hw1]; exact World.cell?_setCell_same' _ _ _ (by rw [h.cn]; rfl)
  have z1n : w1.frozen? ⟨E.pn, 0, none⟩ = false := by rw [← hw1, World.frozen?_setCell]; exact h.zn
  have own : ∀ i k, i < E.sz + 1 → Own1 (R i) k → E.base ≤ k := fun i k hi hk => by
    obtain ⟨vs, hv⟩ := h.tab.own i hi
    exact (hv.lt hk).1
  have T1 := h.tab.fr (by omega) f1 (Ne.symm n6) (fun i k hi hk e => by have := own i k hi hk; have := (L E.pn (by simp)).2; omega)
  have r1 := f1.cell h.cr (Ne.symm n2)
  have k1 := f1.cell h.ck (Ne.symm n3)
  have b1 := f1.cell h.cb (Ne.symm n4)
  have wc1 := f1.cell h.cw (Ne.symm n5)
  have d1 := f1.cell rDc (Ne.symm n7)
  have hcq : (chs E.ga E.oa E.A.length E.sz E.nb)[q]? = some (chV E.ga E.oa E.A.length E.sz q) := by simp [chs, hqn]
  obtain ⟨gx, ox, ex, lx⟩ := h.rl q _ hcq
  cases ex
  rw [Nat.zero_add] at lx
  have l1 := f1.cell lx (Ne.symm n8)
  have K1 : RowV w1 (some ⟨E.ga, E.oa + q * E.sz, none⟩) (ints ((E.A.drop (q * E.sz)).take (chLen E.A.length E.sz q))) := by
    have := (h.rA.fr f1 (fun a e => by cases e; exact Ne.symm n9)).part (q * E.sz) (chLen E.A.length E.sz q)
    unfold ints at this ⊢
    rw [List.map_take, List.map_drop]
    exact this
  have B1 : RowV w1 E.vb (ints E.B) := h.rB.fr f1 (fun a e => (hE.neb a e).1)
  have D1 := rDr.fr f1 (fun k e => by unfold Own1 at e; cases e; exact hgdn.1)
  have hlen : ((E.A.drop (q * E.sz)).take (chLen E.A.length E.sz q)).length = chLen E.A.length E.sz q := by
    rw [List.length_take, List.length_drop]
    unfold chLen
    omega
  have hch : chLen E.A.length E.sz q ≤ E.sz := Nat.min_le_left _ _
  have htop := h.top
  have htop1 : E.base ≤ w1.heap.size := Nat.le_trans htop f1.size
  have cF := fill_any E.base E.H1 E.g0 (E.sz + 1) E.m E.c0 E.cb (chLen E.A.length E.sz q) gd cd (chLen E.A.length E.sz q) E.vb (some ⟨E.ga, E.oa + q * E.sz, none⟩) R ((E.A.drop (q * E.sz)).take (chLen E.A.length E.sz q)) (E.A.drop ((q + 1) * E.sz)) E.B w1.drew
    (T1.fr (by omega) (fr_drew None' w1) (fun e => e) (fun _ _ _ _ e => e)) (by omega) hlen (by omega) K1 B1 hE.mB hm9 (by rw [hlen, List.length_drop]; unfold chLen; rw [Nat.succ_mul]; omega) D1 (fun x e => by cases e; exact ⟨(L _ (by simp)).2, Ne.symm m8⟩) (fun x e => ⟨(hE.lowb x e).2, (hE.neb x e).2⟩) ⟨hgdl.2, hgdn.2⟩ htop1
  have HD : Hid (∀ i, i ≤ chLen E.A.length E.sz q → ((E.A.drop (q * E.sz)).take (chLen E.A.length E.sz q)).drop i ++ E.A.drop ((q + 1) * E.sz) = E.A.drop (q * E.sz + i)) := fun i hi => by
    rw [Nat.succ_mul]
    exact drop_part hi
  have HL : Hid (((E.A.drop (q * E.sz)).take (chLen E.A.length E.sz q)).length = chLen E.A.length E.sz q) := hlen
  have HX : Hid (chV E.ga E.oa E.A.length E.sz q = .slice (some ⟨E.ga, E.oa + q * E.sz, none⟩) (chLen E.A.length E.sz q) (chLen E.A.length E.sz q)) := rfl
  rw [HX.out] at l1
  have Hh : Hid (GoesAt E v R now) := h
  have own4 : ∀ k, k < E.base → k ≠ E.g0 → ¬ (k = E.g0 ∨ ∃ i, i < E.sz + 1 ∧ Own1 (R i) k) := fun k h1 h2 e => by
    rcases e with e | ⟨i, hi, e⟩
    · exact h2 e
    · have := own i k hi e
      omega
  have s1 := own4 _ (L E.pr (by simp)).2 (Ne.symm m2)
  have s2 := own4 _ (L E.pk (by simp)).2 (Ne.symm m3)
  have s3 := own4 _ (L E.pn (by simp)).2 n6
  have s4 := own4 _ (L E.gl (by simp)).2 (Ne.symm m7)
  have s5 := own4 _ (L E.pb (by simp)).2 (Ne.symm m4)
  have s6 := own4 _ (L E.pw (by simp)).2 (Ne.symm m5)
  have s7 := own4 _ (L E.gB (by simp)).2 (Ne.symm m6)
  clear h rDr T1 K1 B1 D1 own own4 L lx hcq rDc hlen htop n1 n2 n3 n4 n5 n6 n7 n8 n9 m1 m2 m3 m4 m5 m6 m7 m8 hgd hgdl hgdn hch
  go_wp2_with fail
  go_region_held3 (fun x => x.cell? ⟨E.pr, 0, none⟩ = some (.slice (some ⟨E.g0, 0, none⟩) (E.sz + 1) E.c0) ∧ x.cell? ⟨E.pk, 0, none⟩ = some (.slice (some ⟨E.gl, 0, none⟩) E.nb E.cl) ∧ x.cell? ⟨E.pn, 0, none⟩ = some (.int .i64 q) ∧ x.cell? ⟨E.gl, q, none⟩ = some (.slice (some ⟨E.ga, E.oa + q * E.sz, none⟩) (chLen E.A.length E.sz q) (chLen E.A.length E.sz q)) ∧ x.cell? ⟨E.pb, 0, none⟩ = some (.slice E.vb E.m E.cb) ∧ x.cell? ⟨E.pw, 0, none⟩ = some (.slice (some ⟨E.gB, 0, none⟩) E.nb E.nb) ∧ x.cell? ⟨E.gB, q, none⟩ = some (.slice (some ⟨gd, 0, none⟩) (E.m + 1) cd))
    (first | exact ⟨r1, k1, c1n, l1, b1, wc1, d1⟩ | exact ⟨f2.cell r1 s1, f2.cell k1 s2, f2.cell c1n s3, f2.cell l1 s4, f2.cell b1 s5, f2.cell wc1 s6, f2.cell d1 s7⟩)
    ((go_at_call 37; refine cF.mono ?_; rintro e w2 ⟨⟨vr, rfl⟩, R', T2, rows, new, f2⟩))
  have f2' : Fr (fun k => k = E.g0 ∨ ∃ i, i < E.sz + 1 ∧ Own1 (R i) k) w1 w2 := (fr_drew _ w1).then f2
  obtain ⟨G2, F2, N2⟩ := Hh.out.filled hE hqn f1 c1n z1n T2 (fun i hi => by rw [← HD.out i hi]; exact rows i (by rw [HL.out]; exact hi)) new f2'
  obtain ⟨g1, e1, g2, e2, x1, x2, t1, t2, y1, y2, hg⟩ := G2.facts hE hi hj HN.out hr
  have HR : Hid (GoesAt E w2 R' (q : Int) ∧ Fr (E.foot R) w w2 ∧ ∀ k, E.foot R' k → E.foot R k ∨ w.heap.size ≤ k) := ⟨G2, (F0.mono (fun _ e => e.elim)).then F2, fun k e => (N2 k e).imp id (fun e => Nat.le_trans F0.size e)⟩
  have cs2 := G2.cs
  have cr2 := G2.cr
  rw [HANS.out] at hg
  clear G2 F2 N2 T2 rows new f2 f2' cF HD HL HX Hh r1 k1 c1n l1 b1 wc1 d1 s1 s2 s3 s4 s5 s6 s7 hw1 f1 z1n cn zn cs
  go_wp2_with fail
  go_quiet (fail)
  go_wp2_with fail
  go_ret
  exact ⟨rfl, R', (HR.out.1.fr hE (Fr.drewN None' w2 nq) (fun _ _ e => e)), HR.out.2.1.then (Fr.drewN _ _ _), HR.out.2.2⟩

/-- Whatever block is filled. -/
theorem goes_any (E : GE) (hE : E.Fit) (w : World) (R : Nat → Value) (now : Int) (i j : Nat) (h : GoesAt E w R now) (hi : i < E.A.length) (hj : j < E.m) :
    Calls Try.prog 36 #[.int .i64 i, .int .i64 j, .pointer (some ⟨E.pn, 0, none⟩), .pointer (some ⟨E.ps, 0, none⟩), .pointer (some ⟨E.pr, 0, none⟩), .pointer (some ⟨E.pk, 0, none⟩), .pointer (some ⟨E.pb, 0, none⟩), .pointer (some ⟨E.pw, 0, none⟩)] w fun e w' => e = .returned (.bool (kgeq (kept (E.A.drop (i + 1)) (E.B.drop j)) (kept (E.A.drop i) (E.B.drop (j + 1))))) ∧ ∃ R' now', GoesAt E w' R' now' ∧ Fr (E.foot R) w w' ∧ ∀ k, E.foot R' k → E.foot R k ∨ w.heap.size ≤ k := by
  have hs1 := hE.sz1
  have hq : i = i / E.sz * E.sz + i % E.sz := by rw [Nat.mul_comm]; exact (Nat.div_add_mod i E.sz).symm
  have hr : i % E.sz < E.sz := Nat.mod_lt _ (by omega)
  by_cases e : now = ((i / E.sz : Nat) : Int)
  · subst e
    refine (goes_read E hE w R i j _ _ h hi hj hq hr).mono ?_
    rintro e w' ⟨he, f⟩
    exact ⟨he, R, _, h.fr hE f (fun _ _ e => e), f.mono (fun _ e => e.elim), fun k e => Or.inl e⟩
  · refine (goes_fill E hE w R now i j _ _ h e hi hj hq hr).mono ?_
    rintro e w' ⟨he, R', h1, h2, h3⟩
    exact ⟨he, R', _, h1, h2, h3⟩

end Go.Proofs.Ytoophkpmbinmlaa
