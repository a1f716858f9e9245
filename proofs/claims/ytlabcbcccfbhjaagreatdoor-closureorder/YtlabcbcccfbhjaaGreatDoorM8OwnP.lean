/-
  What is proved here: the contracts that the statement stands on: OwnP, RAll9. Conditions: as each theorem names them.
-/
import Derived.Test.YtlabcbcccfbhjaaGreatDoorM6Strs9
import Derived.Deep.AppendLies
import Derived.Maps.AppendAt
import Derived.Laws.OwnMore
import Derived.Deep.RegionHeld3
namespace Go.Proofs.YtlabcbcccfbhjaaGreatDoor
open Go.RowKit
set_option maxRecDepth 100000

/-- The cells of patches, their rows' slices given. -/
def pcells : List Pr → List (Value × Value) → List Value
  | x :: L, u :: V => prCells x u.1 u.2 ++ pcells L V
  | _, _ => []

theorem prCells_length (x : Pr) (vo vn : Value) : (prCells x vo vn).length = 7 := rfl

theorem pcells_length : ∀ (L : List Pr) (V : List (Value × Value)), V.length = L.length → (pcells L V).length = L.length * 7
  | [], _, _ => rfl
  | x :: L, [], e => by cases e
  | x :: L, u :: V, e => by
    simp only [pcells, List.length_cons, List.length_append, prCells_length] at e ⊢
    rw [pcells_length L V (by omega)]
    omega

theorem pcells_append : ∀ (L B : List Pr) (V U : List (Value × Value)), V.length = L.length → pcells (L ++ B) (V ++ U) = pcells L V ++ pcells B U
  | [], B, [], U, _ => rfl
  | [], _, _ :: _, _, e => by cases e
  | _ :: _, _, [], _, e => by cases e
  | x :: L, B, v :: V, U, e => by
    simp only [List.cons_append, pcells, List.append_assoc]
    rw [pcells_append L B V U (by simpa using e)]

theorem pcells_get : ∀ (L : List Pr) (V : List (Value × Value)) (k : Nat) (x : Pr) (u : Value × Value), L[k]? = some x → V[k]? = some u → ∀ j, j < 7 → (pcells L V)[k * 7 + j]? = (prCells x u.1 u.2)[j]?
  | [], _, k, x, vl, e, _ => by simp at e
  | y :: L, [], k, x, vl, _, e => by simp at e
  | y :: L, v :: V, 0, x, u, e1, e2 => fun j hj => by
    simp at e1 e2
    subst e1 e2
    simp only [pcells, Nat.zero_mul, Nat.zero_add]
    exact List.getElem?_append_left (by rw [prCells_length]; exact hj)
  | y :: L, v :: V, k + 1, x, u, e1, e2 => fun j hj => by
    have := pcells_get L V k x u (by simpa using e1) (by simpa using e2) j hj
    simp only [pcells]
    rw [List.getElem?_append_right (by rw [prCells_length]; omega), prCells_length, ← this]
    congr 1
    omega

theorem pcells_one : ∀ (L : List Pr) (V : List (Value × Value)), (∀ u ∈ V, u.1.oneCell' = true ∧ u.2.oneCell' = true) → ∀ c ∈ pcells L V, c.oneCell' = true
  | [], _, _ => fun c hc => by simp [pcells] at hc
  | x :: L, [], _ => fun c hc => by simp [pcells] at hc
  | x :: L, u :: V, h => fun c hc => by
    simp only [pcells, List.mem_append] at hc
    rcases hc with hc | hc
    · simp only [prCells, List.mem_cons, List.not_mem_nil, or_false] at hc
      rcases hc with rfl | rfl | rfl | rfl | rfl | rfl | rfl
      · rfl
      · rfl
      · rfl
      · rfl
      · rfl
      · exact (h u (List.mem_cons_self ..)).1
      · exact (h u (List.mem_cons_self ..)).2
    · exact pcells_one L V (fun u hu => h u (List.mem_cons_of_mem _ hu)) c hc

theorem infoP : (Tryz.prog.info? 67).map (fun i => (i.zero, i.size, i.bytes)) = some (some (.agg #[.int .i64 0, .string ⟨#[]⟩, .string ⟨#[]⟩, .string ⟨#[]⟩, .int .i64 0, .slice none 0 0, .slice none 0 0]), 7, 112) := by kernel_rfl

/-- The texts of the slice s do not lie in v's own row. -/
def Far (v s : Value) (l : List ByteArray) : Prop := l ≠ [] → ∀ k, s.ownBlock = some k → ¬ v.ownBlock = some k

theorem StrsAt.one {w : World} {v : Value} {l : List ByteArray} (h : StrsAt w v l) : v.oneCell' = true := by
  obtain ⟨va, c, rfl, _⟩ := h
  rfl

/-- v is a row of the patches L, in a block of its own from base on. -/
structure OwnP (base : Nat) (w : World) (v : Value) (L : List Pr) (V : List (Value × Value)) : Prop where
  len : V.length = L.length
  row : w.ownsRow base 67 7 v L.length (pcells L V)
  str : ∀ (k : Nat) (x : Pr) (u : Value × Value), L[k]? = some x → V[k]? = some u → StrsAt w u.1 x.old ∧ StrsAt w u.2 x.new ∧ Far v u.1 x.old ∧ Far v u.2 x.new

theorem OwnP.nil (base : Nat) (w : World) : OwnP base w (.slice none 0 0) [] [] := ⟨rfl, World.ownsRow_nil w _ _ 7, fun k x u e => by simp at e⟩

theorem OwnP.ge {base : Nat} {w : World} {v : Value} {L : List Pr} {V : List (Value × Value)} (h : OwnP base w v L V) {k : Nat} (hk : v.ownBlock = some k) : base ≤ k ∧ k < w.heap.size := by
  rcases h.row.2 with ⟨hv, e⟩ | ⟨g, cap, cur, hv, hb, hh, hc, _, hs, ht⟩
  · rw [hv] at hk; cases hk
  · rw [hv] at hk; cases hk; exact ⟨hb, (Array.getElem?_eq_some_iff.1 hh).1⟩

theorem OwnP.kept {base : Nat} {w w' : World} {v : Value} {L : List Pr} {V : List (Value × Value)} (h : OwnP base w v L V) (f : Fr None' w w') : OwnP base w' v L V := by
  refine ⟨h.len, ⟨h.row.1, ?_⟩, fun k x u e1 e2 => ?_⟩
  · rcases h.row.2 with h | ⟨g, cap, cur, hv, hb, hh, h⟩
    · exact Or.inl h
    · exact Or.inr ⟨g, cap, cur, hv, hb, f.at hh (fun e => e), h⟩
  · obtain ⟨h1, h2, h3, h4⟩ := h.str k x u e1 e2
    exact ⟨h1.kept f, h2.kept f, h3, h4⟩

/-- .. or blocks turn that are neither the row's nor its texts'. -/
theorem OwnP.fr {M : Nat → Prop} {base : Nat} {w w' : World} {v : Value} {L : List Pr} {V : List (Value × Value)} (h : OwnP base w v L V) (f : Fr M w w') (hv : ∀ k, v.ownBlock = some k → ¬ M k) (hs : ∀ u ∈ V, ∀ k, (u.1.ownBlock = some k ∨ u.2.ownBlock = some k) → k < w.heap.size → ¬ M k) : OwnP base w' v L V := by
  refine ⟨h.len, ⟨h.row.1, ?_⟩, fun k x u e1 e2 => ?_⟩
  · rcases h.row.2 with h | ⟨g, cap, cur, he, hb, hh, h⟩
    · exact Or.inl h
    · exact Or.inr ⟨g, cap, cur, he, hb, f.at hh (hv g (by rw [he]; rfl)), h⟩
  · obtain ⟨h1, h2, h3, h4⟩ := h.str k x u e1 e2
    have hu := List.mem_of_getElem? e2
    exact ⟨h1.far f (fun hl k e => hs u hu k (Or.inl e) (h1.lt hl e)), h2.far f (fun hl k e => hs u hu k (Or.inr e) (h2.lt hl e)), h3, h4⟩

theorem OwnP.slice {base : Nat} {w : World} {v : Value} {L : List Pr} {V : List (Value × Value)} (h : OwnP base w v L V) : ∃ va c, v = .slice va L.length c ∧ L.length ≤ c ∧ (va = none → c = 0) ∧ PrsAt w va L := by
  rcases h.row.2 with ⟨hv, e⟩ | ⟨g, cap, cur, hv, hb, hh, hc, _, hs, ht⟩
  · have e2 : L = [] := List.length_eq_zero_iff.1 e
    subst e2
    exact ⟨none, 0, hv, Nat.le_refl _, fun _ => rfl, fun k x hk => by simp at hk⟩
  · refine ⟨_, cap, hv, hc, fun e => by simp at e, fun k x hk => ?_⟩
    have hkl := (List.getElem?_eq_some_iff.1 hk).1
    obtain ⟨u, hp⟩ : ∃ u, V[k]? = some u := ⟨_, List.getElem?_eq_getElem (by rw [h.len]; exact hkl)⟩
    have hx := pcells_get L V k x u hk hp
    have hc' : ∀ j u, j < L.length * 7 → (pcells L V)[j]? = some u → w.cell? ⟨g, j, none⟩ = some u := fun j u hj h1 => by
      rw [← ht, List.getElem?_take, if_pos hj] at h1
      rw [World.cell?, hh]
      simpa using h1
    obtain ⟨s1, s2, _, _⟩ := h.str k x u hk hp
    refine ⟨g, 0, rfl, u.1, u.2, ?_, ?_, ?_, ?_, ?_, ?_, ?_, s1, s2⟩
    · rw [Nat.zero_add]; exact hc' _ _ (by omega) (hx 0 (by omega))
    · rw [Nat.zero_add]; exact hc' _ _ (by omega) (hx 1 (by omega))
    · rw [Nat.zero_add]; exact hc' _ _ (by omega) (hx 2 (by omega))
    · rw [Nat.zero_add]; exact hc' _ _ (by omega) (hx 3 (by omega))
    · rw [Nat.zero_add]; exact hc' _ _ (by omega) (hx 4 (by omega))
    · rw [Nat.zero_add]; exact hc' _ _ (by omega) (hx 5 (by omega))
    · rw [Nat.zero_add]; exact hc' _ _ (by omega) (hx 6 (by omega))

/-- The cells of a slice of patches. -/
theorem prs_cells {w : World} {g : Nat} : ∀ (B : List Pr) (o : Nat), PrsAt w (some ⟨g, o, none⟩) B → ∃ U : List (Value × Value), U.length = B.length ∧ (∀ j u, (pcells B U)[j]? = some u → w.cell? ⟨g, o + j, none⟩ = some u) ∧ ∀ (k : Nat) (x : Pr) (u : Value × Value), B[k]? = some x → U[k]? = some u → StrsAt w u.1 x.old ∧ StrsAt w u.2 x.new
  | [], o, _ => ⟨[], rfl, (fun j u e => by simp [pcells] at e), fun k x vl e => by simp at e⟩
  | x :: B, o, h => by
    obtain ⟨g', o', e, vo, vn, c0, c1, c2, c3, c4, c5, c6, hs1, hs2⟩ := h 0 x rfl
    cases e
    obtain ⟨U, h1, h2, h4⟩ := prs_cells B (o + 7) (fun k y hk => by
      obtain ⟨g', o', e, hy⟩ := h (k + 1) y (by simpa using hk)
      cases e
      exact ⟨_, _, rfl, by rw [show o + 7 + k * 7 = o + (k + 1) * 7 from by omega]; exact hy⟩)
    refine ⟨(vo, vn) :: U, by simp [h1], fun j u hj => ?_, fun k y vy e1 e2 => ?_⟩
    · simp only [pcells, prCells, List.cons_append, List.nil_append] at hj
      match j, hj with
      | 0, hj => simp at hj; subst hj; simpa using c0
      | 1, hj => simp at hj; subst hj; simpa using c1
      | 2, hj => simp at hj; subst hj; simpa using c2
      | 3, hj => simp at hj; subst hj; simpa using c3
      | 4, hj => simp at hj; subst hj; simpa using c4
      | 5, hj => simp at hj; subst hj; simpa using c5
      | 6, hj => simp at hj; subst hj; simpa using c6
      | j + 7, hj =>
        have := h2 j u (by simpa using hj)
        rw [show o + (j + 7) = o + 7 + j from by omega]
        exact this
    · cases k with
      | zero => simp at e1 e2; subst e1 e2; exact ⟨hs1, hs2⟩
      | succ k => exact h4 k y vy (by simpa using e1) (by simpa using e2)

/-- 'append(l, b...)', l a row of patches of the call's own. -/
theorem OwnP.append {base : Nat} {w : World} {v : Value} {L : List Pr} {V : List (Value × Value)} (h : OwnP base w v L V) {ad : Addr} {c m : Nat} {B : List Pr} {U : List (Value × Value)} (hm : B.length = m) (h1 : U.length = B.length) (h2 : ∀ j u, (pcells B U)[j]? = some u → w.cell? (ad.add j) = some u) (h4 : ∀ (k : Nat) (x : Pr) (u : Value × Value), B[k]? = some x → U[k]? = some u → StrsAt w u.1 x.old ∧ StrsAt w u.2 x.new ∧ Far v u.1 x.old ∧ Far v u.2 x.new) (hn : L.length + m ≤ 100000000) (hbase : base ≤ w.heap.size) :
    ∃ v' w', (Builtin.append_ #[35, 35] 35 #[v, .slice (some ad) m c]).run Tryz.prog w = .ok v' w' ∧ OwnP base w' v' (L ++ B) (V ++ U) ∧ Fr (fun k => v.ownBlock = some k) w w' ∧ (v'.ownBlock = v.ownBlock ∨ v'.ownBlock = some w.heap.size) := by
  obtain ⟨i0, hi, hz0, hz1, hz2⟩ := info_parts infoP
  obtain ⟨v', w', hr, h5, h6, _, h7⟩ := run_append_own_at (P := Tryz.prog) w base 35 35 67 i0 _ 7 112 Tryz.underlying35 hi hz0 hz1 hz2 rfl (by decide) v L.length (pcells L V) h.row ad m c (pcells B U) (by rw [pcells_length B U h1, hm]) h2 (pcells_one B U (fun u hu => by
      obtain ⟨j, hj, rfl⟩ := List.getElem_of_mem hu
      obtain ⟨s1, s2, _, _⟩ := h4 j (B[j]'(by omega)) U[j] (List.getElem?_eq_getElem (by omega)) (List.getElem?_eq_getElem hj)
      exact ⟨s1.one, s2.one⟩)) (by unfold maxLen; omega) (by omega) hbase
  have hf : Fr (fun k => v.ownBlock = some k) w w' := Fr.grown h6 (fun k e => e)
  refine ⟨v', w', hr, ⟨by simp [h.len, h1], by rw [pcells_append L B V U h.len, List.length_append, hm]; exact h5, fun k x u e1 e2 => ?_⟩, hf, h7⟩
  have key : StrsAt w u.1 x.old ∧ StrsAt w u.2 x.new ∧ Far v u.1 x.old ∧ Far v u.2 x.new := by
    rcases Nat.lt_or_ge k L.length with hk | hk
    · rw [List.getElem?_append_left hk] at e1
      rw [List.getElem?_append_left (by rw [h.len]; exact hk)] at e2
      exact h.str k x u e1 e2
    · rw [List.getElem?_append_right hk] at e1
      rw [List.getElem?_append_right (by rw [h.len]; exact hk), h.len] at e2
      exact h4 _ x u e1 e2
  obtain ⟨s1, s2, f1, f2⟩ := key
  refine ⟨s1.far hf (fun hl k e => f1 hl k e), s2.far hf (fun hl k e => f2 hl k e), fun hl k e e' => ?_, fun hl k e e' => ?_⟩
  · rcases h7 with h7 | h7
    · rw [h7] at e'; exact f1 hl k e e'
    · rw [h7] at e'; cases e'; exact Nat.lt_irrefl _ (s1.lt hl e)
  · rcases h7 with h7 | h7
    · rw [h7] at e'; exact f2 hl k e e'
    · rw [h7] at e'; cases e'; exact Nat.lt_irrefl _ (s2.lt hl e)

/-- 'append(l, b...)', l a row of patches of the call's own, b any slice that lay there ahead. -/
theorem OwnP.addAll {base : Nat} {w0 w : World} {v : Value} {L : List Pr} {V : List (Value × Value)} (h : OwnP base w v L V) {va : Option Addr} {n c : Nat} {B : List Pr} (hB : PrsAt w0 va B) (hn : B.length = n) (hc : va = none → c = 0) (f0 : Fr None' w0 w) (hb0 : w0.heap.size ≤ base) (hbase : base ≤ w.heap.size) (hlen : L.length + n ≤ 100000000) :
    ∃ v' U w', (Builtin.append_ #[35, 35] 35 #[v, .slice va n c]).run Tryz.prog w = .ok v' w' ∧ OwnP base w' v' (L ++ B) (V ++ U) ∧ Fr (fun k => v.ownBlock = some k) w w' := by
  cases va with
  | none =>
    obtain rfl := hc rfl
    cases B with
    | cons x B => obtain ⟨_, _, e, _⟩ := hB 0 x rfl; cases e
    | nil =>
      have hn0 : n = 0 := hn.symm
      subst hn0
      obtain ⟨i0, hi, _⟩ := info_parts infoP
      exact ⟨v, [], w, run_append_owned_none (P := Tryz.prog) (w := w) base 35 35 67 i0 7 Tryz.underlying35 hi v L.length (pcells L V) h.row, by simpa using h, Fr.refl _ _⟩
  | some ad =>
    obtain ⟨U, h1, h2, h4⟩ : ∃ U : List (Value × Value), U.length = B.length ∧ (∀ j u, (pcells B U)[j]? = some u → w0.cell? (ad.add j) = some u) ∧ ∀ (k : Nat) (x : Pr) (u : Value × Value), B[k]? = some x → U[k]? = some u → StrsAt w0 u.1 x.old ∧ StrsAt w0 u.2 x.new := by
      cases B with
      | nil => exact ⟨[], rfl, fun j v h => by simp [pcells] at h, fun k x u e => by simp at e⟩
      | cons x B =>
        obtain ⟨g, o, e, _⟩ := hB 0 x rfl
        cases e
        obtain ⟨U, h1, h2, h3⟩ := prs_cells (x :: B) o hB
        exact ⟨U, h1, fun j v h => by rw [show (⟨g, o, none⟩ : Addr).add j = ⟨g, o + j, none⟩ from Addr.add_lit ..]; exact h2 j v h, h3⟩
    obtain ⟨v', w', r1, r2, r3, _⟩ := h.append (c := c) hn h1 (fun j u hj => f0.keepCell (h2 j u hj) (fun e => e)) (fun k x u e1 e2 => by
      obtain ⟨s1, s2⟩ := h4 k x u e1 e2
      exact ⟨s1.kept f0, s2.kept f0, fun hl k e e' => by have := s1.lt hl e; have := (h.ge e').1; omega, fun hl k e e' => by have := s2.lt hl e; have := (h.ge e').1; omega⟩) hlen hbase
    exact ⟨v', U, w', r1, r2, r3⟩

/-- An empty row of no room. -/
theorem OwnP.empty {base : Nat} {w : World} (hb : base ≤ w.heap.size) : OwnP base (w.alloc (.cells #[] 67)) (.slice (some ⟨w.heap.size, 0, none⟩) 0 0) [] [] :=
  ⟨rfl, ⟨rfl, Or.inr ⟨w.heap.size, 0, #[], rfl, hb, heap_alloc_new w _, Nat.le_refl _, Nat.zero_le _, rfl, rfl⟩⟩, fun k x u e => by simp at e⟩

end Go.Proofs.YtlabcbcccfbhjaaGreatDoor

namespace Go.Proofs.YtlabcbcccfbhjaaGreatDoor
open Go.RowKit
set_option maxRecDepth 100000

theorem rev_step {L : List Pr} {k : Nat} (hk : k < L.length) : (L.drop k).reverse.map inv = (L.drop (k + 1)).reverse.map inv ++ [inv L[k]] := by
  rw [List.drop_eq_getElem_cons hk, List.reverse_cons, List.map_append]
  rfl

theorem step_app9 {P : Program} {ops : Array Oper} {o : Oper} {a : Act} {w w' : World} {K : Act → World → Prop} {Q : Exit → Act → World → Prop} {E : Prop} {v : Value} {t : TypeId} (hgd : o.guard = none) (s x : Operand)
    (ho : o.op = .call { callee := .builtin .append, args := #[s, x], argTypes := #[t, t] }) {vs vx : Value} (hs : a.eval s = vs) (hx : a.eval x = vx) (hr : (Builtin.append_ #[t, t] o.type #[vs, vx]).run P w = .ok v w') (h : K (a.put o.dst v) w') :
    if Region.wanted o (yielded ops a.tmps) = true then Oper.wp P o a w K Q else E := by
  have hw : Region.wanted o (yielded ops a.tmps) = true := by simp [Region.wanted, hgd]
  rw [if_pos hw]
  unfold Oper.wp execOp
  simp only [ho, resolve, invoke, builtin, Sem.run_bind, Sem.run_pure, Result.andThen_ok, List.map_toArray, List.map_cons, List.map_nil, hs, hx, hr]
  exact h

theorem app_list9 {ops : Array Oper} {rest : List Oper} {o : Oper} {a : Act} {w w' : World} {Q : Exit → Act → World → Prop} {t : TypeId} (hgd : o.guard = none) (s x : Operand)
    (ho : o.op = .call { callee := .builtin .append, args := #[s, x], argTypes := #[t, t] }) {vs vx v : Value} (hs : a.eval s = vs) (hx : a.eval x = vx) (hr : (Builtin.append_ #[t, t] o.type #[vs, vx]).run Tryz.prog w = .ok v w')
    (h : wpList Tryz.prog ops Q rest (a.put o.dst v) w') : wpList Tryz.prog ops Q (o :: rest) a w := by
  refine wpList_plain hgd fun K hK => ?_
  unfold Oper.wp execOp
  simp only [ho, resolve, invoke, builtin, Sem.run_bind, Sem.run_pure, Result.andThen_ok, List.map_toArray, List.map_cons, List.map_nil, hs, hx, hr]
  exact hK _ _ h

/-- One patch more. -/
theorem OwnP.push {base : Nat} {w : World} {v : Value} {L : List Pr} {V : List (Value × Value)} (h : OwnP base w v L V) {b : Nat} {x : Pr} {vo vn : Value} (hb : Box w b (.int .i64 x.kind) (.string x.path) (.string x.dst) (.string x.src) (.int .i64 x.pos) vo vn) (s1 : StrsAt w vo x.old) (s2 : StrsAt w vn x.new) (f1 : Far v vo x.old) (f2 : Far v vn x.new) (hn : L.length ≤ 90000000) (hbase : base ≤ w.heap.size) :
    ∃ v' w', (Builtin.append_ #[35, 35] 35 #[v, .slice (some ⟨b, 0, none⟩) 1 1]).run Tryz.prog w = .ok v' w' ∧ OwnP base w' v' (L ++ [x]) (V ++ [(vo, vn)]) ∧ Fr (fun k => v.ownBlock = some k) w w' ∧ (v'.ownBlock = v.ownBlock ∨ v'.ownBlock = some w.heap.size) := by
  obtain ⟨c0, c1, c2, c3, c4, c5, c6⟩ := hb.cells
  refine h.append (ad := ⟨b, 0, none⟩) (B := [x]) (U := [(vo, vn)]) rfl rfl (fun j u hj => ?_) (fun k y u e1 e2 => ?_) (by omega) hbase
  · simp only [pcells, prCells, List.cons_append, List.nil_append] at hj
    rw [show (⟨b, 0, none⟩ : Addr).add j = ⟨b, 0 + j, none⟩ from Addr.add_lit .., Nat.zero_add]
    match j, hj with
    | 0, hj => simp at hj; subst hj; exact c0
    | 1, hj => simp at hj; subst hj; exact c1
    | 2, hj => simp at hj; subst hj; exact c2
    | 3, hj => simp at hj; subst hj; exact c3
    | 4, hj => simp at hj; subst hj; exact c4
    | 5, hj => simp at hj; subst hj; exact c5
    | 6, hj => simp at hj; subst hj; exact c6
    | j + 7, hj => simp at hj
  · have hk : k = 0 := by
      have := (List.getElem?_eq_some_iff.1 e1).1
      simpa using this
    subst hk
    simp at e1 e2
    subst e1 e2
    exact ⟨s1, s2, f1, f2⟩

end Go.Proofs.YtlabcbcccfbhjaaGreatDoor
