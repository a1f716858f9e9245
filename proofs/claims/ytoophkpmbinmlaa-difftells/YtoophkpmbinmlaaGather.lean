/-
  What is proved here: gather gathers the lines since the last two that stay. Conditions: as named.
-/
import Derived.Test.YtoophkpmbinmlaaGath
import Derived.Test.YtoophkpmbinmlaaFill
namespace Go.Proofs.Ytoophkpmbinmlaa
open Go.RowKit Go.Shelf
set_option maxRecDepth 100000
attribute [local go_sem] Oper.semAt_some

theorem region_plain {P : Program} {id : Nat} {ops : Array Oper} {Q : Exit → Act → World → Prop} {S : World → Prop} {a : Act} {w : World} (hm : P.follows .mixedOrders = true) (hS : S w.drew)
    (h : S w.drew → wpAnyH P .any ops (OnlyN (Q .normal)) S ops.size (Array.replicate ops.size false) a w.drew) : (Code.region id ops true).wp P Q a w := by
  refine wp_mono (Q := OnlyN (Q .normal)) (wp_region_held hm (h hS)) ?_
  intro e a' w' he
  cases e <;> first | exact he | exact he.elim

theorem ex_slice {P : Program} {a : Act} {o : Oper} {w : World} (t : TypeId) (x lo hi : Operand) {vx vl vh v : Value} (ho : o.op = .slice t x (some lo) (some hi) none) (hx : a.eval x = vx) (hl : a.eval lo = vl) (hh : a.eval hi = vh) (h : (Instr.sliceAt t vx (some vl) (some vh) none).run P w = .ok v w) : (execOp a.eval o).run P w = .ok (.value v) w := by
  unfold execOp
  simp only [ho, Sem.run_bind, Option.map_some, Option.map_none, hx, hl, hh, h, Sem.run_pure, Result.andThen_ok]

theorem sliceN {base n : Nat} {w : World} {e : TypeId} {v : Value} {vs : List Value} (h : OwnV base w e v vs) (hn : vs.length = n) : ∃ va c, v = .slice va n c := by
  obtain ⟨va, c, hv, _⟩ := h.slice
  exact ⟨va, c, by rw [hv, hn]⟩

/-- What gather is handed. -/
def GB.caps (E : GB) (x y : Nat) : Array Value := #[.int .i64 x, .int .i64 y, .pointer (some ⟨E.pi, 0, none⟩), .pointer (some ⟨E.pj, 0, none⟩), .pointer (some ⟨E.pl, 0, none⟩), .pointer (some ⟨E.ph, 0, none⟩), .pointer (some ⟨E.pa, 0, none⟩), .pointer (some ⟨E.pb, 0, none⟩)]

/-- What gather does. -/
def GatherPost (E : GB) (w : World) (x y : Nat) (L' : List (Hk ByteArray)) (vl : Value) (G : Nat → Prop) : Ending → World → Prop := fun e w' => (∃ v, e = .returned v) ∧ ∃ vl' V' G', GAt E w' (x + 1) (y + 1) L' vl' V' G' ∧ Fr (fun k => k = E.pl ∨ k = E.pi ∨ k = E.pj ∨ Own1 vl k) w w' ∧ ∀ k, G' k → G k ∨ w.heap.size ≤ k

theorem gather_end {E : GB} (hE : E.Fit) {w w5 : World} {i j : Nat} (x y : Nat) {L' : List (Hk ByteArray)} {vl vl' : Value} {V' : List (Value × Value)} {G G' : Nat → Prop} (A5 : GAt E w5 i j L' vl' V' G') (F5 : Fr (fun k => k = E.pl ∨ Own1 vl k) w w5) (hG : ∀ k, G' k → G k ∨ w.heap.size ≤ k) (v : Value) :
    GatherPost E w x y L' vl G (.returned v) ((w5.setCell ⟨E.pi, 0, none⟩ (.int .i64 (x + 1))).setCell ⟨E.pj, 0, none⟩ (.int .i64 (y + 1))) := by
  obtain ⟨A6, F6⟩ := A5.go hE (x + 1) (y + 1)
  exact ⟨⟨v, rfl⟩, vl', V', G', A6, (F5.mono (fun k e => e.elim Or.inl (fun e => Or.inr (Or.inr (Or.inr e))))).then (F6.mono (fun k e => e.elim (fun e => Or.inr (Or.inl e)) (fun e => Or.inr (Or.inr (Or.inl e))))), hG⟩

set_option maxHeartbeats 1000000 in
theorem gather_yes (E : GB) (hE : E.Fit) (w : World) (i j x y : Nat) (L : List (Hk ByteArray)) (vl : Value) (V : List (Value × Value)) (G : Nat → Prop) (h : GAt E w i j L vl V G) (hi : i ≤ x) (hx : x ≤ E.na) (hj : j ≤ y) (hy : y ≤ E.nb) (hL : L.length ≤ 2000) (hc : i < x ∨ (¬ i < x ∧ j < y)) :
    Calls Try.prog 22 (E.caps x y) w (GatherPost E w x y (L ++ [⟨E.ahead + j, (E.A.drop i).take (x - i), (E.B.drop j).take (y - j)⟩]) vl G) := by
  have n1 := hE.nA; have n2 := hE.nB; have n3 := hE.nh
  obtain ⟨va1, c1, slA, rowA, nA1, _, _⟩ := slice_ex h.ra hE.lA hi hx hE.cA hE.vA
  obtain ⟨vb1, d1, slB, rowB, nB1, _, _⟩ := slice_ex h.rb hE.lB hj hy hE.cB hE.vB
  have lA1 : ((E.A.drop i).take (x - i)).length = x - i := by rw [List.length_take, List.length_drop, hE.lA]; omega
  have lB1 : ((E.B.drop j).take (y - j)).length = y - j := by rw [List.length_take, List.length_drop, hE.lB]; omega
  have cA := copied_any va1 c1 _ w.drew (show Row w.drew va1 _ from rowA) nA1 (by rw [lA1]; omega)
  have cB : ∀ w1, Fr None' w.drew w1 → _ := fun w1 f1 => copied_any vb1 d1 _ w1 (Row.fr (show Row w.drew vb1 _ from rowB) f1) nB1 (by rw [lB1]; omega)
  rw [lA1] at cA
  rw [lB1] at cB
  have ci := h.ci; have cj := h.cj; have cl := h.cl; have ch := h.ch; have ca := h.ca; have cb := h.cb
  have HG : Hid (GAt E w i j L vl V G) := h
  have k1 : (x : Int) ≤ 800 := by omega
  have npq : E.pj ≠ E.pi := by have := hE.o5; omega
  have k2 : (y : Int) ≤ 800 := by omega
  have k3 : (i : Int) ≤ 800 := by omega
  have k4 : (j : Int) ≤ 800 := by omega
  have k5 : (E.ahead : Int) ≤ 800 := by omega
  have hwr : IntKind.i64.wrap ((E.ahead : Int) + (j : Int)) = (E.ahead : Int) + (j : Int) := by rw [IntKind.wrap_i64]; omega
  have hS : ∀ w1, Fr None' w.drew w1 → (fun v => v.cell? ⟨E.ph, 0, none⟩ = some (.int .i64 E.ahead) ∧ v.cell? ⟨E.pj, 0, none⟩ = some (.int .i64 j) ∧ v.cell? ⟨E.pa, 0, none⟩ = some (.slice E.va E.na E.ca) ∧ v.cell? ⟨E.pi, 0, none⟩ = some (.int .i64 i) ∧ v.cell? ⟨E.pb, 0, none⟩ = some (.slice E.vb E.nb E.cb)) w1 := fun w1 f => ⟨f.cell (w := w.drew) ch (fun e => e), f.cell (w := w.drew) cj (fun e => e), f.cell (w := w.drew) ca (fun e => e), f.cell (w := w.drew) ci (fun e => e), f.cell (w := w.drew) cb (fun e => e)⟩
  have hvl : ∀ k, Own1 vl k → E.H1 ≤ k := fun k e => (ownH_lt h.own e).1
  have hS5 : ∀ w1, Fr (fun k => k = E.pl ∨ Own1 vl k) w w1 → (fun v => v.cell? ⟨E.ph, 0, none⟩ = some (.int .i64 E.ahead) ∧ v.cell? ⟨E.pj, 0, none⟩ = some (.int .i64 j) ∧ v.cell? ⟨E.pa, 0, none⟩ = some (.slice E.va E.na E.ca) ∧ v.cell? ⟨E.pi, 0, none⟩ = some (.int .i64 i) ∧ v.cell? ⟨E.pb, 0, none⟩ = some (.slice E.vb E.nb E.cb)) w1 := fun w1 f => by
    have := hE.o1; have := hE.o2; have := hE.o3; have := hE.o4; have := hE.o5; have := hE.o6
    have low : ∀ k, k < E.H1 → k ≠ E.pl → ¬ (k = E.pl ∨ Own1 vl k) := fun k hk h1 e => e.elim h1 (fun e => by have := hvl k e; omega)
    exact ⟨f.cell ch (low E.ph (by omega) (by omega)), f.cell cj (low E.pj (by omega) (by omega)), f.cell ca (low E.pa (by omega) (by omega)), f.cell ci (low E.pi (by omega) (by omega)), f.cell cb (low E.pb (by omega) (by omega))⟩
  have hS4 : ∀ w1, Fr (Own1 vl) w w1 → (fun v => v.cell? ⟨E.ph, 0, none⟩ = some (.int .i64 E.ahead) ∧ v.cell? ⟨E.pj, 0, none⟩ = some (.int .i64 j) ∧ v.cell? ⟨E.pa, 0, none⟩ = some (.slice E.va E.na E.ca) ∧ v.cell? ⟨E.pi, 0, none⟩ = some (.int .i64 i) ∧ v.cell? ⟨E.pb, 0, none⟩ = some (.slice E.vb E.nb E.cb)) w1 := fun w1 f => hS5 w1 (f.mono (fun _ e => Or.inr e))
  have hHeld0 : (fun v => v.cell? ⟨E.ph, 0, none⟩ = some (.int .i64 E.ahead) ∧ v.cell? ⟨E.pj, 0, none⟩ = some (.int .i64 j) ∧ v.cell? ⟨E.pa, 0, none⟩ = some (.slice E.va E.na E.ca) ∧ v.cell? ⟨E.pi, 0, none⟩ = some (.int .i64 i) ∧ v.cell? ⟨E.pb, 0, none⟩ = some (.slice E.vb E.nb E.cb)) w.drew := ⟨ch, cj, ca, ci, cb⟩
  clear h rowA rowB
  unfold GB.caps
  go_enter Try.func22, Try.ntmps22
  rcases hc with hc | ⟨hc1, hc2⟩
  all_goals go_wp2_with fail
  all_goals (
    refine region_plain (S := (fun v => v.cell? ⟨E.ph, 0, none⟩ = some (.int .i64 E.ahead) ∧ v.cell? ⟨E.pj, 0, none⟩ = some (.int .i64 j) ∧ v.cell? ⟨E.pa, 0, none⟩ = some (.slice E.va E.na E.ca) ∧ v.cell? ⟨E.pi, 0, none⟩ = some (.int .i64 i) ∧ v.cell? ⟨E.pb, 0, none⟩ = some (.slice E.vb E.nb E.cb))) (by kernel_rfl) hHeld0 (fun hHeld => ?_)
    refine wpAnyH_take (i := 1) (oi := _) (v := ?_) rfl (by decide +kernel) (by decide +kernel) (by decide +kernel) (fun _ _ _ h => h) (Or.inl ⟨by rfl, ?_⟩) hHeld ?_
    rotate_left
    · intro wq hSw
      first
        | (go_simp; done)
        | (go_simp; with_reducible rfl)
    try simp only [Act.put, List.getElem_toArray, List.getElem_cons_zero, List.getElem_cons_succ, List.setIfInBounds_toArray, List.set_cons_zero, List.set_cons_succ]
    refine wpAnyH_take (i := 2) (oi := _) (v := ?_) rfl (by decide +kernel) (by decide +kernel) (by decide +kernel) (fun _ _ _ h => h) (Or.inl ⟨by rfl, ?_⟩) hHeld ?_
    rotate_left
    · intro wq hSw
      first
        | (go_simp; done)
        | (go_simp; with_reducible rfl)
    try simp only [Act.put, List.getElem_toArray, List.getElem_cons_zero, List.getElem_cons_succ, List.setIfInBounds_toArray, List.set_cons_zero, List.set_cons_succ]
    refine wpAnyH_take (i := 3) (oi := _) (v := ?_) rfl (by decide +kernel) (by decide +kernel) (by decide +kernel) (fun _ _ _ h => h) (Or.inl ⟨by rfl, ?_⟩) hHeld ?_
    rotate_left
    · intro wq hSw
      first
        | (go_simp; done)
        | (go_simp; with_reducible rfl)
    try simp only [Act.put, List.getElem_toArray, List.getElem_cons_zero, List.getElem_cons_succ, List.setIfInBounds_toArray, List.set_cons_zero, List.set_cons_succ]
    refine wpAnyH_take (i := 4) (oi := _) (v := ?_) rfl (by decide +kernel) (by decide +kernel) (by decide +kernel) (fun _ _ _ h => h) (Or.inl ⟨by rfl, ?_⟩) hHeld ?_
    rotate_left
    · intro wq hSw
      first
        | (go_simp; done)
        | (go_simp; with_reducible rfl)
    try simp only [Act.put, List.getElem_toArray, List.getElem_cons_zero, List.getElem_cons_succ, List.setIfInBounds_toArray, List.set_cons_zero, List.set_cons_succ]
    refine wpAnyH_take (i := 5) (oi := _) (v := ?_) rfl (by decide +kernel) (by decide +kernel) (by decide +kernel) (fun _ _ _ h => h) (Or.inl ⟨by rfl, ?_⟩) hHeld ?_
    rotate_left
    · intro wq hSw
      first
        | (go_simp; done)
        | (go_simp; with_reducible rfl)
    try simp only [Act.put, List.getElem_toArray, List.getElem_cons_zero, List.getElem_cons_succ, List.setIfInBounds_toArray, List.set_cons_zero, List.set_cons_succ]
    refine wpAnyH_take (i := 6) (oi := _) (v := ?_) rfl (by decide +kernel) (by decide +kernel) (by decide +kernel) (fun _ _ _ h => h) (Or.inl ⟨by rfl, ?_⟩) hHeld ?_
    rotate_left
    · intro wq hSw
      first
        | (go_simp; done)
        | (go_simp; with_reducible rfl)
    try simp only [Act.put, List.getElem_toArray, List.getElem_cons_zero, List.getElem_cons_succ, List.setIfInBounds_toArray, List.set_cons_zero, List.set_cons_succ]
    refine wpAnyH_take (i := 7) (oi := _) (v := .slice va1 (x - i) c1) rfl (by decide +kernel) (by decide +kernel) (by decide +kernel) (fun _ _ _ h => h) (Or.inl ⟨by rfl, ?_⟩) hHeld ?_
    · intro wq hSw
      exact ex_slice _ _ _ _ rfl rfl rfl rfl (slA wq)
    try simp only [Act.put, List.getElem_toArray, List.getElem_cons_zero, List.getElem_cons_succ, List.setIfInBounds_toArray, List.set_cons_zero, List.set_cons_succ]
    refine wpAnyH_take (i := 9) (oi := _) (v := ?_) rfl (by decide +kernel) (by decide +kernel) (by decide +kernel) (fun _ _ _ h => h) (Or.inl ⟨by rfl, ?_⟩) hHeld ?_
    rotate_left
    · intro wq hSw
      first
        | (go_simp; done)
        | (go_simp; with_reducible rfl)
    try simp only [Act.put, List.getElem_toArray, List.getElem_cons_zero, List.getElem_cons_succ, List.setIfInBounds_toArray, List.set_cons_zero, List.set_cons_succ]
    refine wpAnyH_take (i := 10) (oi := _) (v := ?_) rfl (by decide +kernel) (by decide +kernel) (by decide +kernel) (fun _ _ _ h => h) (Or.inl ⟨by rfl, ?_⟩) hHeld ?_
    rotate_left
    · intro wq hSw
      first
        | (go_simp; done)
        | (go_simp; with_reducible rfl)
    try simp only [Act.put, List.getElem_toArray, List.getElem_cons_zero, List.getElem_cons_succ, List.setIfInBounds_toArray, List.set_cons_zero, List.set_cons_succ]
    refine wpAnyH_take (i := 11) (oi := _) (v := ?_) rfl (by decide +kernel) (by decide +kernel) (by decide +kernel) (fun _ _ _ h => h) (Or.inl ⟨by rfl, ?_⟩) hHeld ?_
    rotate_left
    · intro wq hSw
      first
        | (go_simp; done)
        | (go_simp; with_reducible rfl)
    try simp only [Act.put, List.getElem_toArray, List.getElem_cons_zero, List.getElem_cons_succ, List.setIfInBounds_toArray, List.set_cons_zero, List.set_cons_succ]
    refine wpAnyH_take (i := 12) (oi := _) (v := .slice vb1 (y - j) d1) rfl (by decide +kernel) (by decide +kernel) (by decide +kernel) (fun _ _ _ h => h) (Or.inl ⟨by rfl, ?_⟩) hHeld ?_
    · intro wq hSw
      exact ex_slice _ _ _ _ rfl rfl rfl rfl (slB wq)
    try simp only [Act.put, List.getElem_toArray, List.getElem_cons_zero, List.getElem_cons_succ, List.setIfInBounds_toArray, List.set_cons_zero, List.set_cons_succ]
    refine wpAnyH_ready (rs := [0, 8]) (by decide +kernel) (by simp) ?_
    refine AllReadyH.cons rfl (fun K hK => ?_) (AllReadyH.cons rfl (fun K hK => ?_) AllReadyH.nil)
    · have clq := (Fr.refl None' w.drew).cell (w := w.drew) cl (fun e => e)
      go_simp
      refine hK.out _ _ hHeld (fun hHeld => ?_)
      clear hK K
      try simp only [Act.put, List.getElem_toArray, List.getElem_cons_zero, List.getElem_cons_succ, List.setIfInBounds_toArray, List.set_cons_zero, List.set_cons_succ]
      refine wpAnyH_ready (rs := [8]) (by decide +kernel) (by simp) ?_
      refine AllReadyH.cons rfl (fun K hK => ?_) AllReadyH.nil
      go_simp
      refine cA.mono ?_
      rintro e w1 ⟨v1, rfl, o1, f1⟩
      obtain ⟨p1, q1, rfl⟩ := sliceN o1 (by rw [List.length_map, lA1])
      refine hK.out _ _ (hS w1 f1) (fun hHeld => ?_)
      clear hK K
      try simp only [Act.put, List.getElem_toArray, List.getElem_cons_zero, List.getElem_cons_succ, List.setIfInBounds_toArray, List.set_cons_zero, List.set_cons_succ]
      refine wpAnyH_ready (rs := [13]) (by decide +kernel) (by simp) ?_
      refine AllReadyH.cons rfl (fun K hK => ?_) AllReadyH.nil
      go_simp
      refine (cB w1 f1).mono ?_
      rintro e w2 ⟨v2, rfl, o2, f2⟩
      obtain ⟨p2, q2, rfl⟩ := sliceN o2 (by rw [List.length_map, lB1])
      obtain ⟨g, c, w4, hr, F4, F5, cl4, zl4, A5⟩ := HG.out.app hE ((fr_drew None' w).then (f1.then f2)) (o1.fr f2 (fun _ _ e => e)) (own_mono o2 f1.size) (E.ahead + j) hL
      rw [Int.natCast_add] at hr
      refine hK.out _ _ (hS w2 (f1.then f2)) (fun hHeld => ?_)
      clear hK K
      try simp only [Act.put, List.getElem_toArray, List.getElem_cons_zero, List.getElem_cons_succ, List.setIfInBounds_toArray, List.set_cons_zero, List.set_cons_succ]
      refine wpAnyH_take (i := 14) (oi := _) (v := ?_) rfl (by decide +kernel) (by decide +kernel) (by decide +kernel) (fun _ _ _ h => h) (Or.inl ⟨by rfl, ?_⟩) hHeld ?_
      rotate_left
      · intro wq hSw
        first
          | (go_simp; done)
          | (go_simp; with_reducible rfl)
      try simp only [Act.put, List.getElem_toArray, List.getElem_cons_zero, List.getElem_cons_succ, List.setIfInBounds_toArray, List.set_cons_zero, List.set_cons_succ]
      refine wpAnyH_ready (rs := [15]) (by decide +kernel) (by simp) ?_
      refine AllReadyH.cons rfl (fun K hK => ?_) AllReadyH.nil
      go_simp
      refine hK.out _ _ (hS _ ((f1.then f2).then (Fr.alloc None' _ _))) (fun hHeld => ?_)
      clear hK K
      try simp only [Act.put, List.getElem_toArray, List.getElem_cons_zero, List.getElem_cons_succ, List.setIfInBounds_toArray, List.set_cons_zero, List.set_cons_succ]
      refine wpAnyH_ready (rs := [16]) (by decide +kernel) (by simp) ?_
      refine AllReadyH.cons rfl (fun K hK => ?_) AllReadyH.nil
      refine step_app rfl _ _ rfl rfl rfl hr ?_
      refine hK.out _ _ (hS4 w4 F4) (fun hHeld => ?_)
      clear hK K
      try simp only [Act.put, List.getElem_toArray, List.getElem_cons_zero, List.getElem_cons_succ, List.setIfInBounds_toArray, List.set_cons_zero, List.set_cons_succ]
      refine wpAnyH_ready (rs := [17]) (by decide +kernel) (by simp) ?_
      refine AllReadyH.cons rfl (fun K hK => ?_) AllReadyH.nil
      go_simp
      refine hK.out _ _ (hS5 _ F5) (fun hHeld => ?_)
      clear hK K
      try simp only [Act.put, List.getElem_toArray, List.getElem_cons_zero, List.getElem_cons_succ, List.setIfInBounds_toArray, List.set_cons_zero, List.set_cons_succ]
      refine wpAnyH_done (by decide +kernel) (onlyN ?_) _
      have HA5 : Hid _ := A5
      have ci5 := A5.ci
      have cj5 := A5.cj
      have zi5 := A5.zi
      have zj5 := A5.zj
      clear hHeld hr cl4 zl4 F4 A5 cA cB
      generalize w4.setCell ⟨E.pl, 0, none⟩ (.slice (some ⟨g, 0, none⟩) (L.length + 1) c) = w5 at *
      go_wp2_with fail
      exact ⟨rfl, _, results_none rfl _ _ _, gather_end hE x y HA5.out F5 (fun k hk => hk.1) _⟩
    · go_simp
      refine cA.mono ?_
      rintro e w1 ⟨v1, rfl, o1, f1⟩
      obtain ⟨p1, q1, rfl⟩ := sliceN o1 (by rw [List.length_map, lA1])
      refine hK.out _ _ (hS w1 f1) (fun hHeld => ?_)
      clear hK K
      try simp only [Act.put, List.getElem_toArray, List.getElem_cons_zero, List.getElem_cons_succ, List.setIfInBounds_toArray, List.set_cons_zero, List.set_cons_succ]
      refine wpAnyH_ready (rs := [0, 13]) (by decide +kernel) (by simp) ?_
      refine AllReadyH.cons rfl (fun K hK => ?_) (AllReadyH.cons rfl (fun K hK => ?_) AllReadyH.nil)
      · have clq := f1.cell (w := w.drew) cl (fun e => e)
        go_simp
        refine hK.out _ _ hHeld (fun hHeld => ?_)
        clear hK K
        try simp only [Act.put, List.getElem_toArray, List.getElem_cons_zero, List.getElem_cons_succ, List.setIfInBounds_toArray, List.set_cons_zero, List.set_cons_succ]
        refine wpAnyH_ready (rs := [13]) (by decide +kernel) (by simp) ?_
        refine AllReadyH.cons rfl (fun K hK => ?_) AllReadyH.nil
        go_simp
        refine (cB w1 f1).mono ?_
        rintro e w2 ⟨v2, rfl, o2, f2⟩
        obtain ⟨p2, q2, rfl⟩ := sliceN o2 (by rw [List.length_map, lB1])
        obtain ⟨g, c, w4, hr, F4, F5, cl4, zl4, A5⟩ := HG.out.app hE ((fr_drew None' w).then (f1.then f2)) (o1.fr f2 (fun _ _ e => e)) (own_mono o2 f1.size) (E.ahead + j) hL
        rw [Int.natCast_add] at hr
        refine hK.out _ _ (hS w2 (f1.then f2)) (fun hHeld => ?_)
        clear hK K
        try simp only [Act.put, List.getElem_toArray, List.getElem_cons_zero, List.getElem_cons_succ, List.setIfInBounds_toArray, List.set_cons_zero, List.set_cons_succ]
        refine wpAnyH_take (i := 14) (oi := _) (v := ?_) rfl (by decide +kernel) (by decide +kernel) (by decide +kernel) (fun _ _ _ h => h) (Or.inl ⟨by rfl, ?_⟩) hHeld ?_
        rotate_left
        · intro wq hSw
          first
            | (go_simp; done)
            | (go_simp; with_reducible rfl)
        try simp only [Act.put, List.getElem_toArray, List.getElem_cons_zero, List.getElem_cons_succ, List.setIfInBounds_toArray, List.set_cons_zero, List.set_cons_succ]
        refine wpAnyH_ready (rs := [15]) (by decide +kernel) (by simp) ?_
        refine AllReadyH.cons rfl (fun K hK => ?_) AllReadyH.nil
        go_simp
        refine hK.out _ _ (hS _ ((f1.then f2).then (Fr.alloc None' _ _))) (fun hHeld => ?_)
        clear hK K
        try simp only [Act.put, List.getElem_toArray, List.getElem_cons_zero, List.getElem_cons_succ, List.setIfInBounds_toArray, List.set_cons_zero, List.set_cons_succ]
        refine wpAnyH_ready (rs := [16]) (by decide +kernel) (by simp) ?_
        refine AllReadyH.cons rfl (fun K hK => ?_) AllReadyH.nil
        refine step_app rfl _ _ rfl rfl rfl hr ?_
        refine hK.out _ _ (hS4 w4 F4) (fun hHeld => ?_)
        clear hK K
        try simp only [Act.put, List.getElem_toArray, List.getElem_cons_zero, List.getElem_cons_succ, List.setIfInBounds_toArray, List.set_cons_zero, List.set_cons_succ]
        refine wpAnyH_ready (rs := [17]) (by decide +kernel) (by simp) ?_
        refine AllReadyH.cons rfl (fun K hK => ?_) AllReadyH.nil
        go_simp
        refine hK.out _ _ (hS5 _ F5) (fun hHeld => ?_)
        clear hK K
        try simp only [Act.put, List.getElem_toArray, List.getElem_cons_zero, List.getElem_cons_succ, List.setIfInBounds_toArray, List.set_cons_zero, List.set_cons_succ]
        refine wpAnyH_done (by decide +kernel) (onlyN ?_) _
        have HA5 : Hid _ := A5
        have ci5 := A5.ci
        have cj5 := A5.cj
        have zi5 := A5.zi
        have zj5 := A5.zj
        clear hHeld hr cl4 zl4 F4 A5 cA cB
        generalize w4.setCell ⟨E.pl, 0, none⟩ (.slice (some ⟨g, 0, none⟩) (L.length + 1) c) = w5 at *
        go_wp2_with fail
        exact ⟨rfl, _, results_none rfl _ _ _, gather_end hE x y HA5.out F5 (fun k hk => hk.1) _⟩
      · go_simp
        refine (cB w1 f1).mono ?_
        rintro e w2 ⟨v2, rfl, o2, f2⟩
        obtain ⟨p2, q2, rfl⟩ := sliceN o2 (by rw [List.length_map, lB1])
        obtain ⟨g, c, w4, hr, F4, F5, cl4, zl4, A5⟩ := HG.out.app hE ((fr_drew None' w).then (f1.then f2)) (o1.fr f2 (fun _ _ e => e)) (own_mono o2 f1.size) (E.ahead + j) hL
        rw [Int.natCast_add] at hr
        refine hK.out _ _ (hS w2 (f1.then f2)) (fun hHeld => ?_)
        clear hK K
        try simp only [Act.put, List.getElem_toArray, List.getElem_cons_zero, List.getElem_cons_succ, List.setIfInBounds_toArray, List.set_cons_zero, List.set_cons_succ]
        refine wpAnyH_take (i := 14) (oi := _) (v := ?_) rfl (by decide +kernel) (by decide +kernel) (by decide +kernel) (fun _ _ _ h => h) (Or.inl ⟨by rfl, ?_⟩) hHeld ?_
        rotate_left
        · intro wq hSw
          first
            | (go_simp; done)
            | (go_simp; with_reducible rfl)
        try simp only [Act.put, List.getElem_toArray, List.getElem_cons_zero, List.getElem_cons_succ, List.setIfInBounds_toArray, List.set_cons_zero, List.set_cons_succ]
        refine wpAnyH_ready (rs := [0, 15]) (by decide +kernel) (by simp) ?_
        refine AllReadyH.cons rfl (fun K hK => ?_) (AllReadyH.cons rfl (fun K hK => ?_) AllReadyH.nil)
        · have clq := (f1.then f2).cell (w := w.drew) cl (fun e => e)
          go_simp
          refine hK.out _ _ hHeld (fun hHeld => ?_)
          clear hK K
          try simp only [Act.put, List.getElem_toArray, List.getElem_cons_zero, List.getElem_cons_succ, List.setIfInBounds_toArray, List.set_cons_zero, List.set_cons_succ]
          refine wpAnyH_ready (rs := [15]) (by decide +kernel) (by simp) ?_
          refine AllReadyH.cons rfl (fun K hK => ?_) AllReadyH.nil
          go_simp
          refine hK.out _ _ (hS _ ((f1.then f2).then (Fr.alloc None' _ _))) (fun hHeld => ?_)
          clear hK K
          try simp only [Act.put, List.getElem_toArray, List.getElem_cons_zero, List.getElem_cons_succ, List.setIfInBounds_toArray, List.set_cons_zero, List.set_cons_succ]
          refine wpAnyH_ready (rs := [16]) (by decide +kernel) (by simp) ?_
          refine AllReadyH.cons rfl (fun K hK => ?_) AllReadyH.nil
          refine step_app rfl _ _ rfl rfl rfl hr ?_
          refine hK.out _ _ (hS4 w4 F4) (fun hHeld => ?_)
          clear hK K
          try simp only [Act.put, List.getElem_toArray, List.getElem_cons_zero, List.getElem_cons_succ, List.setIfInBounds_toArray, List.set_cons_zero, List.set_cons_succ]
          refine wpAnyH_ready (rs := [17]) (by decide +kernel) (by simp) ?_
          refine AllReadyH.cons rfl (fun K hK => ?_) AllReadyH.nil
          go_simp
          refine hK.out _ _ (hS5 _ F5) (fun hHeld => ?_)
          clear hK K
          try simp only [Act.put, List.getElem_toArray, List.getElem_cons_zero, List.getElem_cons_succ, List.setIfInBounds_toArray, List.set_cons_zero, List.set_cons_succ]
          refine wpAnyH_done (by decide +kernel) (onlyN ?_) _
          have HA5 : Hid _ := A5
          have ci5 := A5.ci
          have cj5 := A5.cj
          have zi5 := A5.zi
          have zj5 := A5.zj
          clear hHeld hr cl4 zl4 F4 A5 cA cB
          generalize w4.setCell ⟨E.pl, 0, none⟩ (.slice (some ⟨g, 0, none⟩) (L.length + 1) c) = w5 at *
          go_wp2_with fail
          exact ⟨rfl, _, results_none rfl _ _ _, gather_end hE x y HA5.out F5 (fun k hk => hk.1) _⟩
        · go_simp
          refine hK.out _ _ (hS _ ((f1.then f2).then (Fr.alloc None' _ _))) (fun hHeld => ?_)
          clear hK K
          try simp only [Act.put, List.getElem_toArray, List.getElem_cons_zero, List.getElem_cons_succ, List.setIfInBounds_toArray, List.set_cons_zero, List.set_cons_succ]
          refine wpAnyH_ready (rs := [0]) (by decide +kernel) (by simp) ?_
          refine AllReadyH.cons rfl (fun K hK => ?_) AllReadyH.nil
          have clq := ((f1.then f2).then (Fr.alloc None' w2 (.cells #[.int .i64 ((E.ahead : Int) + (j : Int)), .slice p1 (x - i) q1, .slice p2 (y - j) q2] 24 (0, 0)))).cell (w := w.drew) cl (fun e => e)
          go_simp
          refine hK.out _ _ hHeld (fun hHeld => ?_)
          clear hK K
          try simp only [Act.put, List.getElem_toArray, List.getElem_cons_zero, List.getElem_cons_succ, List.setIfInBounds_toArray, List.set_cons_zero, List.set_cons_succ]
          refine wpAnyH_ready (rs := [16]) (by decide +kernel) (by simp) ?_
          refine AllReadyH.cons rfl (fun K hK => ?_) AllReadyH.nil
          refine step_app rfl _ _ rfl rfl rfl hr ?_
          refine hK.out _ _ (hS4 w4 F4) (fun hHeld => ?_)
          clear hK K
          try simp only [Act.put, List.getElem_toArray, List.getElem_cons_zero, List.getElem_cons_succ, List.setIfInBounds_toArray, List.set_cons_zero, List.set_cons_succ]
          refine wpAnyH_ready (rs := [17]) (by decide +kernel) (by simp) ?_
          refine AllReadyH.cons rfl (fun K hK => ?_) AllReadyH.nil
          go_simp
          refine hK.out _ _ (hS5 _ F5) (fun hHeld => ?_)
          clear hK K
          try simp only [Act.put, List.getElem_toArray, List.getElem_cons_zero, List.getElem_cons_succ, List.setIfInBounds_toArray, List.set_cons_zero, List.set_cons_succ]
          refine wpAnyH_done (by decide +kernel) (onlyN ?_) _
          have HA5 : Hid _ := A5
          have ci5 := A5.ci
          have cj5 := A5.cj
          have zi5 := A5.zi
          have zj5 := A5.zj
          clear hHeld hr cl4 zl4 F4 A5 cA cB
          generalize w4.setCell ⟨E.pl, 0, none⟩ (.slice (some ⟨g, 0, none⟩) (L.length + 1) c) = w5 at *
          go_wp2_with fail
          exact ⟨rfl, _, results_none rfl _ _ _, gather_end hE x y HA5.out F5 (fun k hk => hk.1) _⟩
    )

set_option maxHeartbeats 1000000 in
theorem gather_no (E : GB) (hE : E.Fit) (w : World) (x y : Nat) (L : List (Hk ByteArray)) (vl : Value) (V : List (Value × Value)) (G : Nat → Prop) (h : GAt E w x y L vl V G) (hx : x ≤ E.na) (hy : y ≤ E.nb) :
    Calls Try.prog 22 (E.caps x y) w (GatherPost E w x y L vl G) := by
  have n1 := hE.nA; have n2 := hE.nB
  have ci := h.ci; have cj := h.cj; have zi := h.zi; have zj := h.zj
  have HG : Hid (GAt E w x y L vl V G) := h
  have k1 : (x : Int) ≤ 800 := by omega
  have npq : E.pj ≠ E.pi := by have := hE.o5; omega
  have k2 : (y : Int) ≤ 800 := by omega
  clear h
  unfold GB.caps
  go_enter Try.func22, Try.ntmps22
  go_wp2_with fail
  exact ⟨rfl, _, results_none rfl _ _ _, gather_end hE x y HG.out (Fr.refl _ w) (fun k hk => Or.inl hk) _⟩

theorem gather_any (E : GB) (hE : E.Fit) (w : World) (i j x y : Nat) (L : List (Hk ByteArray)) (vl : Value) (V : List (Value × Value)) (G : Nat → Prop) (h : GAt E w i j L vl V G) (hi : i ≤ x) (hx : x ≤ E.na) (hj : j ≤ y) (hy : y ≤ E.nb) (hL : L.length ≤ 2000) :
    Calls Try.prog 22 (E.caps x y) w (GatherPost E w x y (L ++ flush (E.ahead + j) ((E.A.drop i).take (x - i)) ((E.B.drop j).take (y - j)) []) vl G) := by
  have lA1 : ((E.A.drop i).take (x - i)).length = x - i := by rw [List.length_take, List.length_drop, hE.lA]; omega
  have lB1 : ((E.B.drop j).take (y - j)).length = y - j := by rw [List.length_take, List.length_drop, hE.lB]; omega
  by_cases hc : i < x ∨ (¬ i < x ∧ j < y)
  · have hf : flush (E.ahead + j) ((E.A.drop i).take (x - i)) ((E.B.drop j).take (y - j)) [] = [⟨E.ahead + j, (E.A.drop i).take (x - i), (E.B.drop j).take (y - j)⟩] := by
      unfold flush
      rw [if_neg]
      rintro ⟨e1, e2⟩
      rw [e1] at lA1
      rw [e2] at lB1
      simp at lA1 lB1
      omega
    rw [hf]
    exact gather_yes E hE w i j x y L vl V G h hi hx hj hy hL hc
  · have e1 : i = x := by omega
    have e2 : j = y := by omega
    subst e1 e2
    have hf : flush (E.ahead + j) ((E.A.drop i).take (i - i)) ((E.B.drop j).take (j - j)) [] = [] := by
      unfold flush
      rw [Nat.sub_self, Nat.sub_self, List.take_zero, List.take_zero, if_pos ⟨rfl, rfl⟩]
    rw [hf, List.append_nil]
    exact gather_no E hE w i j L vl V G h hx hy

end Go.Proofs.Ytoophkpmbinmlaa
