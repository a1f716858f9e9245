/-
  What is proved here: Diff has the document's hunks. Conditions: the lines lie in memory, and are at most 799 each.
-/
import Derived.Test.YtoophkpmbinmlaaThru
namespace Go.Proofs.Ytoophkpmbinmlaa
open Go.RowKit Go.Shelf
set_option maxRecDepth 100000

theorem ex_rest {P : Program} {a : Act} {o : Oper} {w : World} (t : TypeId) (x lo : Operand) {vx vl v : Value} (ho : o.op = .slice t x (some lo) none none) (hx : a.eval x = vx) (hl : a.eval lo = vl) (h : (Instr.sliceAt t vx (some vl) none none).run P w = .ok v w) : (execOp a.eval o).run P w = .ok (.value v) w := by
  unfold execOp
  simp only [ho, Sem.run_bind, Option.map_some, Option.map_none, hx, hl, h, Sem.run_pure, Result.andThen_ok]

/-- A region whose end is told. -/
theorem region_cut {P : Program} {id : Nat} {ops : Array Oper} {Q : Exit → Act → World → Prop} {S : World → Prop} {a : Act} {w : World} (A : Act) (W : World) (hm : P.follows .mixedOrders = true) (hS : S w.drew)
    (h : S w.drew → wpAnyH P .any ops (OnlyN (fun a' w' => a' = A ∧ w' = W)) S ops.size (Array.replicate ops.size false) a w.drew) (hn : Q .normal A W) : (Code.region id ops true).wp P Q a w := by
  refine wp_mono (Q := OnlyN (fun a' w' => a' = A ∧ w' = W)) (wp_region_held hm (h hS)) ?_
  intro e a' w' he
  cases e <;> first | exact he.elim | (obtain ⟨rfl, rfl⟩ := he; exact hn)

theorem frozen_new {w : World} {n : Nat} (hn : w.heap.size = n) (e : TypeId) (x : Value) : (w.alloc (.cells #[x] e)).frozen? ⟨n, 0, none⟩ = false := by
  subst hn
  simp

theorem setIf_id {c : Array Value} {v : Value} (h : c[0]? = some v) : c.setIfInBounds 0 v = c := by
  apply Array.ext_getElem?
  intro i
  rw [Array.getElem?_setIfInBounds]
  split
  · rename_i e
    subst e
    split
    · exact h.symm
    · rename_i hn
      rw [Array.getElem?_eq_none (by omega)] at h
      cases h
  · rfl

theorem setCell_id {w : World} {b : Nat} {v : Value} (h : w.cell? ⟨b, 0, none⟩ = some v) : w.setCell ⟨b, 0, none⟩ v = w := by
  unfold World.cell? at h
  have hh : w.heap.modify b (fun
      | .cells c elem frozen => .cells (if (none : Option Nat).isSome then c else c.setIfInBounds 0 v) elem frozen
      | o => o) = w.heap := by
    apply Array.ext_getElem?
    intro i
    rw [Array.getElem?_modify]
    split
    · rename_i e
      subst e
      split at h
      · rename_i c t f hc
        simp only at hc h
        rw [hc]
        simp only [Option.map_some, Option.isSome_none, Bool.false_eq_true, if_false]
        rw [setIf_id (by simpa using h)]
      · cases h
    · rfl
  exact congrArg (fun h => { w with heap := h }) hh

theorem GAt.hunks {E : GB} {w : World} {i j : Nat} {L : List (Hk ByteArray)} {vl : Value} {V : List (Value × Value)} {G : Nat → Prop} (h : GAt E w i j L vl V G) : HunksAt w vl L := by
  have hl := h.own.1
  rcases h.own.2 with ⟨hv, h0⟩ | ⟨g, cap, cur, hv, _, hh, hc, _, hs, ht⟩
  · refine ⟨none, 0, by rw [hv, h0], fun _ => rfl, fun k x hk => ?_⟩
    have := (List.getElem?_eq_some_iff.1 hk).1
    omega
  · refine ⟨_, cap, hv, (fun e => by cases e), fun k x hk => ?_⟩
    have hkl := (List.getElem?_eq_some_iff.1 hk).1
    have hkv : k < V.length := by rw [h.len]; exact hkl
    obtain ⟨s1, s2, _⟩ := h.st k x V[k] hk (List.getElem?_eq_getElem hkv)
    obtain ⟨a1, a2, a3⟩ := hcells_get L V k x V[k] hk (List.getElem?_eq_getElem hkv)
    have cell : ∀ m u, (hcells L V)[m]? = some u → w.cell? ⟨g, m, none⟩ = some u := fun m u hm => by
      have hlt := (List.getElem?_eq_some_iff.1 hm).1
      rw [← ht, List.getElem?_take_of_lt (by omega)] at hm
      unfold World.cell?
      simp only [hh]
      rw [← Array.getElem?_toList]
      simpa using hm
    exact ⟨g, 0, V[k].1, V[k].2, rfl, by rw [Nat.zero_add]; exact cell _ _ a1, by rw [Nat.zero_add]; exact cell _ _ a2, by rw [Nat.zero_add]; exact cell _ _ a3, s1, s2⟩

theorem own_some {base m : Nat} {w : World} {e : TypeId} {v : Value} {vs : List Value} (h : OwnV base w e v vs) (hl : vs.length = m + 1) : ∃ g c, v = .slice (some ⟨g, 0, none⟩) (m + 1) c ∧ m + 1 ≤ c ∧ base ≤ g ∧ RowV w (some ⟨g, 0, none⟩) vs := by
  obtain ⟨va, c, hv, h1, h2, h3, h4⟩ := h.slice
  rw [hl] at hv h1
  cases va with
  | none => have := h2 rfl; omega
  | some ad =>
    obtain ⟨g, o, sp⟩ := ad
    obtain ⟨e1, e2, e3, e4⟩ := h4 _ rfl
    simp only at e1 e2 e3
    subst e2 e3
    exact ⟨g, c, hv, h1, e1, h3⟩

set_option maxHeartbeats 2000000 in
theorem diff_any (va vb : Option Addr) (ca cb na nb : Nat) (a b : List ByteArray) (w : World) (hna : a.length = na) (hnb : b.length = nb) (ha : Row w va a) (hb : Row w vb b) (na9 : na ≤ 790) (nb9 : nb ≤ 790) (cA : na ≤ ca) (cB : nb ≤ cb) (vA : va = none → ca = 0) (vB : vb = none → cb = 0) (hza : ∀ s ∈ a, s.size ≤ maxLen) (hzb : ∀ s ∈ b, s.size ≤ maxLen) (hoa : ∀ x, va = some x → x.block < w.heap.size) (hob : ∀ x, vb = some x → x.block < w.heap.size) :
    Calls Try.prog 12 #[.slice va na ca, .slice vb nb cb] w fun e w' => ∃ v, e = .returned v ∧ HunksAt w' v (diffs a b) ∧ Fr None' w w' := by
  obtain ⟨w1, hw1⟩ : ∃ w1, (w.alloc (.cells #[.slice va na ca] 22)).alloc (.cells #[.slice vb nb cb] 22) = w1 := ⟨_, rfl⟩
  have F1 : Fr None' w w1 := hw1 ▸ (Fr.alloc None' w _).then (Fr.alloc None' _ _)
  have hs1 : w1.heap.size = w.heap.size + 2 := by rw [← hw1]; simp
  have ba1 : w1.cell? ⟨w.heap.size, 0, none⟩ = some (.slice va na ca) := by rw [← hw1]; simp
  have bb1 : w1.cell? ⟨w.heap.size + 1, 0, none⟩ = some (.slice vb nb cb) := by rw [← hw1]; simp
  have za1 : w1.frozen? ⟨w.heap.size, 0, none⟩ = false := by rw [← hw1]; simp
  have zb1 : w1.frozen? ⟨w.heap.size + 1, 0, none⟩ = false := by rw [← hw1]; simp
  have c1 := alike_any va vb ca cb a b w1 (ha.fr F1) (hb.fr F1) (by omega) (by omega)
  rw [hna, hnb] at c1
  have k1 : (na : Int) ≤ 790 := by omega
  have k2 : (nb : Int) ≤ 790 := by omega
  go_enter Try.func12, Try.ntmps12
  go_wp2_with fail
  refine c1.mono ?_
  rintro e w2 ⟨n, rfl, hn1, hn2, htk, F2⟩
  obtain ⟨va1, c1', slA, rowA, nA1, lcA, blA⟩ := rest_ex ha hna hn1 cA vA
  obtain ⟨vb1, d1', slB, rowB, nB1, lcB, blB⟩ := rest_ex hb hnb hn2 cB vB
  go_wp2_with fail
  have hs2 := F2.size
  have ba2 := F2.cell ba1 (fun e => e)
  have bb2 := F2.cell bb1 (fun e => e)
  have za2 : w2.frozen? ⟨w.heap.size, 0, none⟩ = false := (frozen_kept' (F2.block _ (cell_lt ba1) (fun e => e))).trans za1
  have zb2 : w2.frozen? ⟨w.heap.size + 1, 0, none⟩ = false := (frozen_kept' (F2.block _ (cell_lt bb1) (fun e => e))).trans zb1
  obtain ⟨w3, hw3⟩ : ∃ w3, w2.alloc (.cells #[.int .i64 (n : Int)] 3) = w3 := ⟨_, rfl⟩
  have F3 : Fr None' w2 w3 := hw3 ▸ Fr.alloc None' w2 _
  have hs3 : w3.heap.size = w2.heap.size + 1 := by rw [← hw3]; simp
  have bh3 : w3.cell? ⟨w2.heap.size, 0, none⟩ = some (.int .i64 n) := hw3 ▸ cell_new1 w2 3 _
  have ba3 := F3.cell ba2 (fun e => e)
  have bb3 := F3.cell bb2 (fun e => e)
  have za3 : w3.frozen? ⟨w.heap.size, 0, none⟩ = false := (frozen_kept' (F3.block _ (cell_lt ba2) (fun e => e))).trans za2
  have zb3 : w3.frozen? ⟨w.heap.size + 1, 0, none⟩ = false := (frozen_kept' (F3.block _ (cell_lt bb2) (fun e => e))).trans zb2
  rw [hw3]
  have h6 : (w3.drew.setCell ⟨w.heap.size, 0, none⟩ (.slice va1 (na - n) c1')).cell? ⟨w2.heap.size, 0, none⟩ = some (.int .i64 n) := (World.cell?_setCell_far _ _ _ _ (by show w.heap.size ≠ w2.heap.size; omega)).trans bh3
  have b6 : (w3.drew.setCell ⟨w.heap.size, 0, none⟩ (.slice va1 (na - n) c1')).cell? ⟨w.heap.size + 1, 0, none⟩ = some (.slice vb nb cb) := (World.cell?_setCell_far _ _ _ _ (by show w.heap.size ≠ w.heap.size + 1; omega)).trans bb3
  have h7 : ((w3.drew.setCell ⟨w.heap.size, 0, none⟩ (.slice va1 (na - n) c1')).setCell ⟨w.heap.size + 1, 0, none⟩ (.slice vb1 (nb - n) d1')).cell? ⟨w2.heap.size, 0, none⟩ = some (.int .i64 n) := (World.cell?_setCell_far _ _ _ _ (by show w.heap.size + 1 ≠ w2.heap.size; omega)).trans h6
  refine region_cut (S := (fun v => v.cell? ⟨w2.heap.size, 0, none⟩ = some (.int .i64 n))) { tmps := #[.slice va na ca, .slice vb nb cb, .pointer (some ⟨w.heap.size, 0, none⟩), .pointer (some ⟨w.heap.size + 1, 0, none⟩), .slice none 0 0, .pointer (some ⟨w2.heap.size, 0, none⟩), undef, undef, undef, undef, undef, undef, .slice va na ca, .slice vb nb cb, .int .i64 n, .slice va na ca, .int .i64 n, .slice va1 (na - n) c1', .slice vb nb cb, .int .i64 n, .slice vb1 (nb - n) d1', undef, undef, undef, undef, undef, undef, undef, undef, undef, undef, undef, undef], defers := [] } ((w3.drew.setCell ⟨w.heap.size, 0, none⟩ (.slice va1 (na - n) c1')).setCell ⟨w.heap.size + 1, 0, none⟩ (.slice vb1 (nb - n) d1')) (by kernel_rfl) bh3 (fun hHeld => ?reg) ?rest
  case reg =>
    clear c1 ha hb hza hzb rowA rowB blA blB htk
    refine wpAnyH_take (i := 1) (oi := _) (v := ?_) rfl (by decide +kernel) (by decide +kernel) (by decide +kernel) (fun _ _ _ h => h) (Or.inl ⟨by rfl, ?_⟩) hHeld ?_
    rotate_left
    · intro wq hSw
      first
        | (go_simp; done)
        | (go_simp; with_reducible rfl)
    try simp only [Act.put, List.getElem_toArray, List.getElem_cons_zero, List.getElem_cons_succ, List.setIfInBounds_toArray, List.set_cons_zero, List.set_cons_succ]
    refine wpAnyH_take (i := 4) (oi := _) (v := ?_) rfl (by decide +kernel) (by decide +kernel) (by decide +kernel) (fun _ _ _ h => h) (Or.inl ⟨by rfl, ?_⟩) hHeld ?_
    rotate_left
    · intro wq hSw
      first
        | (go_simp; done)
        | (go_simp; with_reducible rfl)
    try simp only [Act.put, List.getElem_toArray, List.getElem_cons_zero, List.getElem_cons_succ, List.setIfInBounds_toArray, List.set_cons_zero, List.set_cons_succ]
    refine wpAnyH_ready (rs := [0, 3]) (by decide +kernel) (by simp) ?_
    refine AllReadyH.cons rfl (fun K hK => ?_) (AllReadyH.cons rfl (fun K hK => ?_) AllReadyH.nil)
    · go_simp
      refine hK.out _ _ hHeld (fun hHeld => ?_)
      clear hK K
      try simp only [Act.put, List.getElem_toArray, List.getElem_cons_zero, List.getElem_cons_succ, List.setIfInBounds_toArray, List.set_cons_zero, List.set_cons_succ]
      refine wpAnyH_take (i := 2) (oi := _) (v := .slice va1 (na - n) c1') rfl (by decide +kernel) (by decide +kernel) (by decide +kernel) (fun _ _ _ h => h) (Or.inl ⟨by rfl, ?_⟩) hHeld ?_
      · intro wq hSw
        exact ex_rest _ _ _ rfl rfl rfl (slA wq)
      try simp only [Act.put, List.getElem_toArray, List.getElem_cons_zero, List.getElem_cons_succ, List.setIfInBounds_toArray, List.set_cons_zero, List.set_cons_succ]
      refine wpAnyH_ready (rs := [3, 6]) (by decide +kernel) (by simp) ?_
      refine AllReadyH.cons rfl (fun K hK => ?_) (AllReadyH.cons rfl (fun K hK => ?_) AllReadyH.nil)
      · go_simp
        refine hK.out _ _ hHeld (fun hHeld => ?_)
        clear hK K
        try simp only [Act.put, List.getElem_toArray, List.getElem_cons_zero, List.getElem_cons_succ, List.setIfInBounds_toArray, List.set_cons_zero, List.set_cons_succ]
        refine wpAnyH_take (i := 5) (oi := _) (v := .slice vb1 (nb - n) d1') rfl (by decide +kernel) (by decide +kernel) (by decide +kernel) (fun _ _ _ h => h) (Or.inl ⟨by rfl, ?_⟩) hHeld ?_
        · intro wq hSw
          exact ex_rest _ _ _ rfl rfl rfl (slB wq)
        try simp only [Act.put, List.getElem_toArray, List.getElem_cons_zero, List.getElem_cons_succ, List.setIfInBounds_toArray, List.set_cons_zero, List.set_cons_succ]
        refine wpAnyH_ready (rs := [6]) (by decide +kernel) (by simp) ?_
        refine AllReadyH.cons rfl (fun K hK => ?_) AllReadyH.nil
        go_simp
        refine hK.out _ _ h6 (fun hHeld => ?_)
        clear hK K
        try simp only [Act.put, List.getElem_toArray, List.getElem_cons_zero, List.getElem_cons_succ, List.setIfInBounds_toArray, List.set_cons_zero, List.set_cons_succ]
        refine wpAnyH_ready (rs := [7]) (by decide +kernel) (by simp) ?_
        refine AllReadyH.cons rfl (fun K hK => ?_) AllReadyH.nil
        go_simp
        refine hK.out _ _ h7 (fun hHeld => ?_)
        clear hK K
        try simp only [Act.put, List.getElem_toArray, List.getElem_cons_zero, List.getElem_cons_succ, List.setIfInBounds_toArray, List.set_cons_zero, List.set_cons_succ]
        refine wpAnyH_done (by decide +kernel) (onlyN ?_) _
        exact ⟨rfl, rfl⟩
      · go_simp
        refine hK.out _ _ h6 (fun hHeld => ?_)
        clear hK K
        try simp only [Act.put, List.getElem_toArray, List.getElem_cons_zero, List.getElem_cons_succ, List.setIfInBounds_toArray, List.set_cons_zero, List.set_cons_succ]
        refine wpAnyH_ready (rs := [3]) (by decide +kernel) (by simp) ?_
        refine AllReadyH.cons rfl (fun K hK => ?_) AllReadyH.nil
        go_simp
        refine hK.out _ _ hHeld (fun hHeld => ?_)
        clear hK K
        try simp only [Act.put, List.getElem_toArray, List.getElem_cons_zero, List.getElem_cons_succ, List.setIfInBounds_toArray, List.set_cons_zero, List.set_cons_succ]
        refine wpAnyH_take (i := 5) (oi := _) (v := .slice vb1 (nb - n) d1') rfl (by decide +kernel) (by decide +kernel) (by decide +kernel) (fun _ _ _ h => h) (Or.inl ⟨by rfl, ?_⟩) hHeld ?_
        · intro wq hSw
          exact ex_rest _ _ _ rfl rfl rfl (slB wq)
        try simp only [Act.put, List.getElem_toArray, List.getElem_cons_zero, List.getElem_cons_succ, List.setIfInBounds_toArray, List.set_cons_zero, List.set_cons_succ]
        refine wpAnyH_ready (rs := [7]) (by decide +kernel) (by simp) ?_
        refine AllReadyH.cons rfl (fun K hK => ?_) AllReadyH.nil
        go_simp
        refine hK.out _ _ h7 (fun hHeld => ?_)
        clear hK K
        try simp only [Act.put, List.getElem_toArray, List.getElem_cons_zero, List.getElem_cons_succ, List.setIfInBounds_toArray, List.set_cons_zero, List.set_cons_succ]
        refine wpAnyH_done (by decide +kernel) (onlyN ?_) _
        exact ⟨rfl, rfl⟩
    · go_simp
      refine hK.out _ _ hHeld (fun hHeld => ?_)
      clear hK K
      try simp only [Act.put, List.getElem_toArray, List.getElem_cons_zero, List.getElem_cons_succ, List.setIfInBounds_toArray, List.set_cons_zero, List.set_cons_succ]
      refine wpAnyH_take (i := 5) (oi := _) (v := .slice vb1 (nb - n) d1') rfl (by decide +kernel) (by decide +kernel) (by decide +kernel) (fun _ _ _ h => h) (Or.inl ⟨by rfl, ?_⟩) hHeld ?_
      · intro wq hSw
        exact ex_rest _ _ _ rfl rfl rfl (slB wq)
      try simp only [Act.put, List.getElem_toArray, List.getElem_cons_zero, List.getElem_cons_succ, List.setIfInBounds_toArray, List.set_cons_zero, List.set_cons_succ]
      refine wpAnyH_ready (rs := [0]) (by decide +kernel) (by simp) ?_
      refine AllReadyH.cons rfl (fun K hK => ?_) AllReadyH.nil
      go_simp
      refine hK.out _ _ hHeld (fun hHeld => ?_)
      clear hK K
      try simp only [Act.put, List.getElem_toArray, List.getElem_cons_zero, List.getElem_cons_succ, List.setIfInBounds_toArray, List.set_cons_zero, List.set_cons_succ]
      refine wpAnyH_take (i := 2) (oi := _) (v := .slice va1 (na - n) c1') rfl (by decide +kernel) (by decide +kernel) (by decide +kernel) (fun _ _ _ h => h) (Or.inl ⟨by rfl, ?_⟩) hHeld ?_
      · intro wq hSw
        exact ex_rest _ _ _ rfl rfl rfl (slA wq)
      try simp only [Act.put, List.getElem_toArray, List.getElem_cons_zero, List.getElem_cons_succ, List.setIfInBounds_toArray, List.set_cons_zero, List.set_cons_succ]
      refine wpAnyH_ready (rs := [6]) (by decide +kernel) (by simp) ?_
      refine AllReadyH.cons rfl (fun K hK => ?_) AllReadyH.nil
      go_simp
      refine hK.out _ _ h6 (fun hHeld => ?_)
      clear hK K
      try simp only [Act.put, List.getElem_toArray, List.getElem_cons_zero, List.getElem_cons_succ, List.setIfInBounds_toArray, List.set_cons_zero, List.set_cons_succ]
      refine wpAnyH_ready (rs := [7]) (by decide +kernel) (by simp) ?_
      refine AllReadyH.cons rfl (fun K hK => ?_) AllReadyH.nil
      go_simp
      refine hK.out _ _ h7 (fun hHeld => ?_)
      clear hK K
      try simp only [Act.put, List.getElem_toArray, List.getElem_cons_zero, List.getElem_cons_succ, List.setIfInBounds_toArray, List.set_cons_zero, List.set_cons_succ]
      refine wpAnyH_done (by decide +kernel) (onlyN ?_) _
      exact ⟨rfl, rfl⟩
  case rest =>
    dsimp only
    have F4 : Fr (fun k => k = w.heap.size ∨ k = w.heap.size + 1) w3 ((w3.drew.setCell ⟨w.heap.size, 0, none⟩ (.slice va1 (na - n) c1')).setCell ⟨w.heap.size + 1, 0, none⟩ (.slice vb1 (nb - n) d1')) := ((fr_drew _ w3).then (Fr.setCell (M := fun k => k = w.heap.size ∨ k = w.heap.size + 1) w3.drew (a := ⟨w.heap.size, 0, none⟩) (Or.inl rfl) _)).then (Fr.setCell (M := fun k => k = w.heap.size ∨ k = w.heap.size + 1) _ (a := ⟨w.heap.size + 1, 0, none⟩) (Or.inr rfl) _)
    have hs4 : ((w3.drew.setCell ⟨w.heap.size, 0, none⟩ (.slice va1 (na - n) c1')).setCell ⟨w.heap.size + 1, 0, none⟩ (.slice vb1 (nb - n) d1')).heap.size = w3.heap.size := by simp [World.setCell]
    have ba4 : ((w3.drew.setCell ⟨w.heap.size, 0, none⟩ (.slice va1 (na - n) c1')).setCell ⟨w.heap.size + 1, 0, none⟩ (.slice vb1 (nb - n) d1')).cell? ⟨w.heap.size, 0, none⟩ = some (.slice va1 (na - n) c1') := (World.cell?_setCell_far _ _ _ _ (by show w.heap.size + 1 ≠ w.heap.size; omega)).trans (World.cell?_setCell_same' _ _ _ (by show (w3.cell? ⟨w.heap.size, 0, none⟩).isSome = true; rw [ba3]; rfl))
    have bb4 : ((w3.drew.setCell ⟨w.heap.size, 0, none⟩ (.slice va1 (na - n) c1')).setCell ⟨w.heap.size + 1, 0, none⟩ (.slice vb1 (nb - n) d1')).cell? ⟨w.heap.size + 1, 0, none⟩ = some (.slice vb1 (nb - n) d1') := World.cell?_setCell_same' _ _ _ (by rw [b6]; rfl)
    generalize (w3.drew.setCell ⟨w.heap.size, 0, none⟩ (.slice va1 (na - n) c1')).setCell ⟨w.heap.size + 1, 0, none⟩ (.slice vb1 (nb - n) d1') = w4 at *
    clear b6 h6 ba1 bb1 ba2 bb2 ba3 bb3 za1 zb1 za2 zb2 za3 zb3 hw1 hw3 slA slB c1
    have HS : Hid (w4.heap.size = w2.heap.size + 1 ∧ w1.heap.size = w.heap.size + 2 ∧ w1.heap.size ≤ w2.heap.size) := ⟨by omega, hs1, hs2⟩
    clear hs4 hs3 hs1 hs2
    obtain ⟨w5, hw5⟩ : ∃ w5, ((w4.alloc (.cells #[.slice none 0 0] 28)).alloc (.cells #[.int .i64 0] 3)).alloc (.cells #[.int .i64 0] 3) = w5 := ⟨_, rfl⟩
    have F5 : Fr None' w4 w5 := hw5 ▸ ((Fr.alloc None' w4 _).then (Fr.alloc None' _ _)).then (Fr.alloc None' _ _)
    have hs5 : w5.heap.size = w4.heap.size + 1 + 1 + 1 := by rw [← hw5]; simp
    have bl5 : w5.cell? ⟨w4.heap.size, 0, none⟩ = some (.slice none 0 0) := by
      rw [← hw5]
      exact ((Fr.alloc None' _ _).then (Fr.alloc None' _ _)).cell (cell_new1 w4 28 _) (fun e => e)
    have bi5 : w5.cell? ⟨w4.heap.size + 1, 0, none⟩ = some (.int .i64 0) := by
      rw [← hw5]
      exact (Fr.alloc None' _ _).cell (cell_new2 (by simp) 3 _) (fun e => e)
    have bj5 : w5.cell? ⟨w4.heap.size + 1 + 1, 0, none⟩ = some (.int .i64 0) := by
      rw [← hw5]
      exact cell_new2 (by simp) 3 _
    have zl5 : w5.frozen? ⟨w4.heap.size, 0, none⟩ = false := by
      rw [← hw5]
      exact (frozen_kept' (((Fr.alloc None' _ _).then (Fr.alloc None' _ _)).block _ (cell_lt (cell_new1 w4 28 _)) (fun e => e))).trans (frozen_new rfl 28 _)
    have zi5 : w5.frozen? ⟨w4.heap.size + 1, 0, none⟩ = false := by
      rw [← hw5]
      exact (frozen_kept' ((Fr.alloc None' _ _).block _ (cell_lt (cell_new2 (by simp) 3 (.int .i64 0))) (fun e => e))).trans (frozen_new (by simp) 3 _)
    have zj5 : w5.frozen? ⟨w4.heap.size + 1 + 1, 0, none⟩ = false := by
      rw [← hw5]
      exact frozen_new (by simp) 3 _
    have e1 := setCell_id bi5
    have e2 := setCell_id bj5
    have ba5 := F5.cell ba4 (fun e => e)
    have bb5 := F5.cell bb4 (fun e => e)
    have F04 : Fr None' w w4 := (F1.then (F2.then F3)).trans F4 (fun i e => Or.inr (by rcases e with e | e <;> omega))
    have F05 := F04.then F5
    have s1 := HS.out.1
    have s2 := HS.out.2.1
    have s3 := HS.out.2.2
    have lA : (a.drop n).length = na - n := by rw [List.length_drop, hna]
    have lB : (b.drop n).length = nb - n := by rw [List.length_drop, hnb]
    have HE : Hid (GB.Fit ⟨w.heap.size, w.heap.size + 1, w2.heap.size, w4.heap.size, w4.heap.size + 1, w4.heap.size + 1 + 1, w5.heap.size, n, na - n, nb - n, c1', d1', va1, vb1, a.drop n, b.drop n⟩) := by
      refine ⟨?_, ?_, ?_, ?_, ?_, ?_, lA, lB, ?_, ?_, ?_, lcA, lcB, nA1, nB1, fun x e => ?_, fun x e => ?_⟩
      any_goals (simp only; omega)
      · obtain ⟨z, e1, e2⟩ := blA x e
        have := hoa z e1
        simp only; omega
      · obtain ⟨z, e1, e2⟩ := blB x e
        have := hob z e1
        simp only; omega
    have HG : Hid (GAt ⟨w.heap.size, w.heap.size + 1, w2.heap.size, w4.heap.size, w4.heap.size + 1, w4.heap.size + 1 + 1, w5.heap.size, n, na - n, nb - n, c1', d1', va1, vb1, a.drop n, b.drop n⟩ w5 0 0 [] (.slice none 0 0) [] (fun _ => False)) :=
      ⟨ba5, bb5, F5.cell h7 (fun e => e), bl5, bi5, bj5, zl5, zi5, zj5, rowA.fr F05, rowB.fr F05, World.ownsRow_nil w5 _ _ 3, rfl, (fun k e => by cases e), (fun k h p e => by simp at e), (fun k e => e.elim), Nat.le_refl _⟩
    have cN := numbered_any va1 vb1 c1' d1' (a.drop n) (b.drop n) w5 (rowA.fr F05) (rowB.fr F05) (by omega) (by omega) (fun s hs => hza s (List.mem_of_mem_drop hs)) (fun s hs => hzb s (List.mem_of_mem_drop hs)) (fun x e => by
        obtain ⟨z, e1, e2⟩ := blA x e
        have := hoa z e1
        omega) (fun x e => by
        obtain ⟨z, e1, e2⟩ := blB x e
        have := hob z e1
        omega)
    rw [lA, lB] at cN
    have HD : Hid (hunks n [] [] (a.drop n) (b.drop n) = diffs a b) := by
      show _ = _
      have h1 := hunks_pre (a.take n) 0 (a.drop n) (b.drop n)
      rw [List.take_append_drop, htk, List.take_append_drop, List.length_take, Nat.min_eq_left (by omega), Nat.zero_add] at h1
      exact h1.symm
    clear rowA rowB ha hb hza hzb hoa hob blA blB htk bl5 zl5 s1 s2 s3 F1 F2 F3 F4 F04 hna hnb
    go_wp2_with fail
    refine cN.mono ?_
    rintro e w7 ⟨v1, v2, T, rfl, gT, hA, hB, o1, o2, F7⟩
    have len : ∀ (l : List ByteArray) (m : Nat), l.length = m → (ints (l.map (numP T) ++ [0])).length = m + 1 := fun l m e => by rw [ints_length, List.length_append, List.length_map, e]; rfl
    obtain ⟨g1, q1, rfl, hq1, hg1, row1⟩ := own_some o1 (len _ _ lA)
    obtain ⟨g2, q2, rfl, hq2, hg2, row2⟩ := own_some o2 (len _ _ lB)
    have cT := goThrough_any ⟨w.heap.size, w.heap.size + 1, w2.heap.size, w4.heap.size, w4.heap.size + 1, w4.heap.size + 1 + 1, w5.heap.size, n, na - n, nb - n, c1', d1', va1, vb1, a.drop n, b.drop n⟩ HE.out (numP T) ⟨fun s hs t ht => num_inj gT (hA s hs) (hB t ht), fun s hs => num_pos gT (hA s hs), fun s hs => num_pos gT (hB s hs)⟩ g1 0 (na - n + 1) (nb - n + 1) q1 q2 (some ⟨g2, 0, none⟩) w7 rfl rfl (by omega) (by omega) hq1 row1 row2 hg1 (fun x e => by cases e; exact hg2) (HG.out.fr HE.out F7 (fun k e => e.elim))
    clear o1 o2 row1 row2 cN hA hB gT len
    go_wp2_with fail
    refine cT.mono ?_
    rintro e w8 ⟨⟨v, rfl⟩, ⟨i8, j8, vl, V8, G8, GA⟩, F8⟩
    have cl8 : w8.cell? ⟨w4.heap.size, 0, none⟩ = some vl := GA.cl
    have HR : Hid (HunksAt w8 vl (diffs a b) ∧ Fr None' w w8) := by
      refine ⟨HD.out ▸ GA.hunks, (F05.then F7).trans F8 (fun k e => Or.inr ?_)⟩
      have s1 := HS.out.1
      have s2 := HS.out.2.1
      have s3 := HS.out.2.2
      rcases e with e | e | e | e <;> simp only at e <;> omega
    obtain ⟨pv, m8, cv, rfl⟩ : ∃ pv m8 cv, vl = .slice pv m8 cv := let ⟨pv, cv, h, _⟩ := GA.hunks; ⟨pv, _, cv, h⟩
    clear GA F8 cT
    go_wp2_with fail
    go_ret
    exact ⟨_, rfl, HR.out⟩

end Go.Proofs.Ytoophkpmbinmlaa
