/-
  What is proved here: NamedBodies answers true. Conditions: its arguments lie in memory; the table of powers of ten does.
-/
import Derived.Test.YtofpkpomhdhkgaaGreatDoorM29Bod13
import Derived.Laws.Cover1
namespace Go.Proofs.YtofpkpomhdhkgaaGreatDoor
open Go.RowKit
set_option maxRecDepth 100000
attribute [local irreducible] wpQuiet

theorem OwnP.fr7 {M : Nat → Prop} {base : Nat} {w w' : World} {v : Value} {L : List Pr} {V : List (Value × Value)} (h : OwnP base w v L V) (f : Fr M w w') (hv : ∀ k, v.ownBlock = some k → ¬ M k) (hs : ∀ (k : Nat) (x : Pr) (u : Value × Value), L[k]? = some x → V[k]? = some u → (x.old ≠ [] → ∀ j, u.1.ownBlock = some j → ¬ M j) ∧ (x.new ≠ [] → ∀ j, u.2.ownBlock = some j → ¬ M j)) : OwnP base w' v L V := by
  refine ⟨h.len, ⟨h.row.1, ?_⟩, fun k x u e1 e2 => ?_⟩
  · rcases h.row.2 with h | ⟨g, cap, cur, he, hb, hh, h⟩
    · exact Or.inl h
    · exact Or.inr ⟨g, cap, cur, he, hb, f.at hh (hv g (by rw [he]; rfl)), h⟩
  · obtain ⟨h1, h2, h3, h4⟩ := h.str k x u e1 e2
    obtain ⟨g1, g2⟩ := hs k x u e1 e2
    exact ⟨h1.far f g1, h2.far f g2, h3, h4⟩

/-- An append whose run is known, as one operation of a region that draws. -/
theorem wpIn_append7 {n : Nat} {o : Oper} {a : Act} {w : World} {K : Act → World → Prop} {Q : Exit → Act → World → Prop} (s x : Operand) (t : TypeId)
    (ho : o.op = .call { callee := .builtin .append, args := #[s, x], argTypes := #[t, t] }) {vs vx v' : Value} {w' : World} (hs : a.eval s = vs) (hx : a.eval x = vx) (hr : (Builtin.append_ #[t, t] o.type #[vs, vx]).run Tryz.prog w = .ok v' w') (h : K (a.put o.dst v') w') : o.wpIn Fence.wide n Tryz.prog a w K Q := by
  refine ⟨fun f hf => trivial, ?_⟩
  rw [show Fence.wide.round = none from rfl, Oper.semAt_none]
  unfold execOp
  simp only [ho, resolve, invoke, builtin, Sem.run_bind, Sem.run_pure, Result.andThen_ok, List.map_toArray, List.map_cons, List.map_nil, hs, hx, hr]
  exact h

/-- A row of changes as cells that are named. -/
theorem prs_named {W : World} {va : Option Addr} {L : List Pr} (h : PrsAt W va L) : ∃ U : List (Value × Value), U.length = L.length ∧ (∀ ad, va = some ad → ∀ j u, (pcells L U)[j]? = some u → W.cell? (ad.add j) = some u) ∧ (∀ (k : Nat) (x : Pr) (u : Value × Value), L[k]? = some x → U[k]? = some u → StrsAt W u.1 x.old ∧ StrsAt W u.2 x.new) := by
  cases L with
  | nil => exact ⟨[], rfl, (fun _ _ j u h => by simp [pcells] at h), fun k x u e => by simp at e⟩
  | cons x L =>
    obtain ⟨g, o, rfl, _⟩ := h 0 x rfl
    obtain ⟨U, h1, h2, h3⟩ := prs_cells (x :: L) o h
    exact ⟨U, h1, (fun ad e j v hj => by
      cases e
      rw [show (⟨g, o, none⟩ : Addr).add j = ⟨g, o + j, none⟩ from Addr.add_lit ..]
      exact h2 j v hj), h3⟩

/-- A row of changes behind an empty row of the call's own. -/
theorem OwnP.first {base : Nat} {W w : World} {v : Value} (h : OwnP base w v [] []) {va : Option Addr} {n c : Nat} {L : List Pr} {U : List (Value × Value)} (hn : L.length = n) (hc : va = none → c = 0) (hva : va = none → L = []) (h1 : U.length = L.length) (h2 : ∀ ad, va = some ad → ∀ j u, (pcells L U)[j]? = some u → w.cell? (ad.add j) = some u) (hW : ∀ (k : Nat) (x : Pr) (u : Value × Value), L[k]? = some x → U[k]? = some u → StrsAt W u.1 x.old ∧ StrsAt W u.2 x.new) (hS : ∀ (k : Nat) (x : Pr) (u : Value × Value), L[k]? = some x → U[k]? = some u → StrsAt w u.1 x.old ∧ StrsAt w u.2 x.new) (hWb : W.heap.size ≤ base) (hb : base ≤ w.heap.size) (hlen : n ≤ 100000) :
    ∃ v' w', (Builtin.append_ #[23, 23] 23 #[v, .slice va n c]).run Tryz.prog w = .ok v' w' ∧ OwnP base w' v' L U ∧ Fr (fun k => v.ownBlock = some k) w w' ∧ (v'.ownBlock = v.ownBlock ∨ v'.ownBlock = some w.heap.size) := by
  cases va with
  | none =>
    obtain rfl := hc rfl
    obtain rfl := hva rfl
    obtain rfl : U = [] := List.length_eq_zero_iff.1 h1
    have hn0 : n = 0 := hn.symm
    subst hn0
    obtain ⟨i0, hi, _⟩ := info_parts infoP
    exact ⟨v, w, run_append_owned_none (P := Tryz.prog) (w := w) base 23 23 41 i0 7 Tryz.underlying23 hi v 0 (pcells [] []) h.row, h, Fr.refl _ _, .inl rfl⟩
  | some ad =>
    obtain ⟨v', w', r1, r2, r3, r4⟩ := h.append (c := c) hn h1 (h2 ad rfl) (fun k x u e1 e2 => by
      obtain ⟨s1, s2⟩ := hW k x u e1 e2
      obtain ⟨t1, t2⟩ := hS k x u e1 e2
      exact ⟨t1, t2, fun hl k e e' => by have := s1.lt hl e; have := (h.ge e').1; omega, fun hl k e e' => by have := s2.lt hl e; have := (h.ge e').1; omega⟩) (by simp; omega) hb
    exact ⟨v', w', r1, r2, r3, r4⟩

/-- How two texts stand: the first below the other, the same, or above it. -/
theorem tri_bytes (a b : ByteArray) : (Op.bytesLess a.toList b.toList = true ∧ decide (unB b < unB a) = false) ∨ (Op.bytesLess a.toList b.toList = false ∧ (a.toList == b.toList) = true ∧ decide (unB b < unB a) = false) ∨ (Op.bytesLess a.toList b.toList = false ∧ (a.toList == b.toList) = false ∧ decide (unB b < unB a) = true) := by
  rw [less_13]
  by_cases h1 : unB a < unB b
  · exact .inl ⟨decide_eq_true h1, decide_eq_false (fun h => List.lt_irrefl _ (List.lt_trans h1 h))⟩
  · by_cases h2 : a = b
    · subst h2
      exact .inr (.inl ⟨decide_eq_false h1, by simp, decide_eq_false h1⟩)
    · refine .inr (.inr ⟨decide_eq_false h1, (Lines.str_no h2).2, decide_eq_true ?_⟩)
      rcases Std.lt_trichotomy (unB a) (unB b) with h | h | h
      · exact absurd h h1
      · exact absurd (by rw [← mk_un a, h, mk_un]) h2
      · exact h

theorem ne_bytes (a b : ByteArray) : (a.toList != b.toList) = !decide (unB a = unB b) := by
  rw [ByteArray.toList_eq, ByteArray.toList_eq]
  show (a.data.toList != b.data.toList) = !decide (a.data.toList = b.data.toList)
  unfold bne
  by_cases h : a.data.toList = b.data.toList
  · rw [h]; simp
  · rw [decide_eq_false h, beq_eq_false_iff_ne.2 h]

theorem eq_of_ne {a b : List UInt8} {E : Bool} (h : (a != b) = !E) : E = (a == b) := by
  unfold bne at h
  cases E <;> cases hh : (a == b) <;> rw [hh] at h <;> first | rfl | cases h

/-- What is known in the region that makes the patch of one change more. -/
structure RB5 (w : World) (bp bx bq : Nat) (d0 d1 : Value) (L : List Pr) (U : List (Value × Value)) (vB : Value) (x : Pr) (vo vn : Value) (t42 t43 t44 t45 t46 t47 t48 t49 : Value) (g0 g5 : Nat) (S : Nat → Bool) (w' : World) : Prop where
  fr : Fr (fun k => k = bq) w w'
  n8 : S 8 = false → Fr None' w w'
  o0 : S 0 = true → t42 = .slice (some ⟨g0, 0, none⟩) 0 0 ∧ w.heap.size ≤ g0 ∧ g0 < w'.heap.size ∧ (S 3 = false → OwnP w.heap.size w' t42 [] [])
  o1 : S 1 = true → t43 = .pointer (some ⟨bp, 2, none⟩)
  o2 : S 2 = true → t44 = vB
  o3 : S 3 = true → S 6 = false → OwnP w.heap.size w' t45 L U
  o4 : S 4 = true → t46 = .agg #[.int .i64 x.kind, .string x.path, .string x.dst, .string x.src, .int .i64 x.pos, vo, vn]
  o5 : S 5 = true → t47 = .slice (some ⟨g5, 0, none⟩) 1 1 ∧ w.heap.size ≤ g5 ∧ g5 < w'.heap.size ∧ (S 6 = false → Box w' g5 (.int .i64 x.kind) (.string x.path) (.string x.dst) (.string x.src) (.int .i64 x.pos) vo vn)
  o05 : S 0 = true → S 5 = true → g0 ≠ g5
  o35 : S 3 = true → S 5 = true → S 6 = false → ¬ t45.ownBlock = some g5
  o6 : S 6 = true → OwnP w.heap.size w' t48 (L ++ [x]) (U ++ [(vo, vn)])
  o7 : S 7 = true → t49 = .pointer (some ⟨bq, 2, none⟩)
  o8 : S 8 = true → Box3 w' bq d0 d1 t48
  d2 : S 2 = true → S 1 = true
  d3 : S 3 = true → S 0 = true ∧ S 2 = true
  d5 : S 5 = true → S 4 = true
  d6 : S 6 = true → S 3 = true ∧ S 5 = true
  d7 : S 7 = true → S 6 = true
  d8 : S 8 = true → S 7 = true

def Inv5 (T : Value → Value → Value → Value → Value → Value → Value → Value → Array Value) (w : World) (bp bx bq : Nat) (d0 d1 : Value) (L : List Pr) (U : List (Value × Value)) (vB : Value) (x : Pr) (vo vn : Value) (S : Nat → Bool) (a : Act) (w' : World) : Prop := ∃ t42 t43 t44 t45 t46 t47 t48 t49 g0 g5, a = { tmps := T t42 t43 t44 t45 t46 t47 t48 t49, defers := [] } ∧ RB5 w bp bx bq d0 d1 L U vB x vo vn t42 t43 t44 t45 t46 t47 t48 t49 g0 g5 S w'

set_option maxHeartbeats 16000000 in
theorem bodies_walk (p : Pa) (vd : Value) (pb : Option Addr) (nb cb : Nat) (x : Pr) (vo vn : Value) (dep : ByteArray) (W : World) (hT : Lib.TabIs Tryz.prog W pow10 .u64 Lib.pow10Tab) (hnb : p.body.length = nb) (sd : StrsAt W vd p.deps) (sb : PrsAt W pb p.body) (hz : pb = none → cb = 0) (ld : p.deps.length ≤ 140737488355328) (lb : ∀ x ∈ p.body, x.old.length ≤ 140737488355328 ∧ x.new.length ≤ 140737488355328)
    (so : StrsAt W vo x.old) (sn : StrsAt W vn x.new) (lo : x.old.length ≤ 140737488355328) (ln : x.new.length ≤ 140737488355328) :
    Calls Tryz.prog 6 #[.agg #[.string p.name, vd, .slice pb nb cb], .agg #[.int .i64 x.kind, .string x.path, .string x.dst, .string x.src, .int .i64 x.pos, vo, vn], .string dep] W fun e w' => e = .returned (.bool true) ∧ Fr None' W w' := by
  have HSd := toHid8 sd
  have HSb := toHid8 sb
  have HSo := toHid8 so
  have HSn := toHid8 sn
  have HT := toHid8 hT
  have HZ := toHid8 hz
  obtain ⟨pa, ca, ed, -⟩ := sd
  subst ed
  obtain ⟨po, co, eo, -⟩ := so
  subst eo
  obtain ⟨pn, cn, en, -⟩ := sn
  subst en
  obtain ⟨w0, hw0⟩ : ∃ x, W.alloc (.cells #[.string p.name, .slice pa p.deps.length ca, .slice pb nb cb] 25) = x := ⟨_, rfl⟩
  have F0 : Fr None' W w0 := hw0 ▸ Fr.alloc None' W _
  have B0 : Box3 w0 W.heap.size (.string p.name) (.slice pa p.deps.length ca) (.slice pb nb cb) := hw0 ▸ Box3.new W _ _ _
  obtain ⟨w1, hw1⟩ : ∃ y, w0.alloc (.cells #[.int .i64 x.kind, .string x.path, .string x.dst, .string x.src, .int .i64 x.pos, .slice po x.old.length co, .slice pn x.new.length cn] 41) = y := ⟨_, rfl⟩
  have F1 : Fr None' w0 w1 := hw1 ▸ Fr.alloc None' w0 _
  have B1 : Box w1 w0.heap.size (.int .i64 x.kind) (.string x.path) (.string x.dst) (.string x.src) (.int .i64 x.pos) (.slice po x.old.length co) (.slice pn x.new.length cn) := hw1 ▸ Box.new w0 _ _ _ _ _ _ _
  have HA := toHid8 (B0.kept F1)
  have HB := toHid8 B1
  have HF1 := toHid8 (F0.then7 F1)
  have q1 := head13_any w1 (TabIs.fr hT HF1.out)
  have HG := toHid8 (fun w' (f : Fr None' W w') => great13_any p _ pb nb cb w' (HSd.out.kept f) (HSb.out.kept f) hnb ld lb)
  have HH := toHid8 (fun w' (f : Fr None' W w') => pgreat_any x _ _ w' (HSo.out.kept f) (HSn.out.kept f) lo ln)
  unfold GPost at HG
  unfold GreatP at HH
  have HR := toHid8 (fun (h : FewPa p) w' (f : Fr None' W w') => show Calls Tryz.prog 14 #[.agg #[.string p.name, .slice pa p.deps.length ca, .slice pb nb cb]] w' fun e w'' => e = .returned (.bool (rightPa p)) ∧ Fr None' w' w'' from by
    have := nright_any p _ pb cb w' (HSd.out.kept f) (HSb.out.kept f) h.small
    rwa [hnb] at this)
  have HNb := toHid8 hnb
  clear hT sb hz hnb ld lb F0 B0 F1 B1 lo ln
  go_enter Tryz.func6, Tryz.ntmps6
  go_wp2_with fail
  with_reducible refine q1.mono ?_
  rintro e w2 ⟨rfl, f2⟩
  have HF2 := toHid8 (HF1.out.then7 f2)
  have HA2 := toHid8 (HA.out.kept f2)
  have HB2 := toHid8 (HB.out.kept f2)
  have q2 := HG.out w2 HF2.out
  obtain ⟨a0, a1, a2⟩ := HA2.out.cells
  clear q1 f2 HF1 HA HB
  go_wp2_with fail
  with_reducible refine q2.mono ?_
  rintro e w3 ⟨g, rfl, hg, f3⟩
  have HF3 := toHid8 (HF2.out.then7 f3)
  have HA3 := toHid8 (HA2.out.kept f3)
  have HB3 := toHid8 (HB2.out.kept f3)
  clear q2 f3 HG a0 a1 a2 HA2 HB2
  cases g with
  | true =>
    clear hg
    go_wp2_with fail
    go_ret
    exact ⟨rfl, HF3.out⟩
  | false =>
  have HW := toHid8 (hg rfl)
  clear hg
  have q3 := HH.out w3 HF3.out
  obtain ⟨b0, b1, b2, b3, b4, b5, b6⟩ := HB3.out.cells
  go_wp2_with fail
  with_reducible refine q3.mono ?_
  rintro e w4 ⟨g, rfl, hg, f4⟩
  have HF4 := toHid8 (HF3.out.then7 f4)
  have HA4 := toHid8 (HA3.out.kept f4)
  have HB4 := toHid8 (HB3.out.kept f4)
  clear q3 f4 HH b0 b1 b2 b3 b4 b5 b6 HA3 HB3
  cases g with
  | true =>
    clear hg
    go_wp2_with fail
    go_ret
    exact ⟨rfl, HF4.out⟩
  | false =>
  have HV := toHid8 (hg rfl)
  clear hg
  by_cases hdl : dep.size ≤ 1000
  case neg =>
    have i1 : (1000 : Int) < (dep.size : Int) := by omega
    go_wp2_with fail
    go_ret
    exact ⟨rfl, HF4.out⟩
  have i1 : ¬ (1000 : Int) < (dep.size : Int) := by omega
  have HDl := toHid8 hdl
  clear hdl
  have q4 := HR.out HW.out w4 HF4.out
  obtain ⟨a0, a1, a2⟩ := HA4.out.cells
  obtain ⟨R, hR⟩ : ∃ R, rightPa p = R := ⟨_, rfl⟩
  have HRp := toHid8 hR
  rw [hR] at q4
  clear HR hR
  go_wp2_with fail
  with_reducible refine q4.mono ?_
  rintro e w5 ⟨rfl, f5⟩
  have HF5 := toHid8 (HF4.out.then7 f5)
  have HA5 := toHid8 (HA4.out.kept f5)
  have HB5 := toHid8 (HB4.out.kept f5)
  clear q4 f5 a0 a1 a2 HA4 HB4
  cases R with
  | false =>
    go_wp2_with fail
    go_ret
    exact ⟨rfl, HF5.out⟩
  | true =>
  obtain ⟨a0, a1, a2⟩ := HA5.out.cells
  by_cases h1 : nb < 256
  case neg =>
    have i2 : (256 : Int) ≤ (nb : Int) := by omega
    go_wp2_with fail
    go_ret
    exact ⟨rfl, HF5.out⟩
  obtain ⟨nd, hnd⟩ : ∃ n, p.deps.length = n := ⟨_, rfl⟩
  have HNd := toHid8 hnd
  rw [hnd] at a1
  rw [hnd]
  clear hnd
  by_cases h2 : nd < 256
  case neg =>
    have i2 : ¬ (256 : Int) ≤ (nb : Int) := by omega
    have i3 : (256 : Int) ≤ (nd : Int) := by omega
    go_wp2_with fail
    go_ret
    exact ⟨rfl, HF5.out⟩
  have i2 : ¬ (256 : Int) ≤ (nb : Int) := by omega
  have i3 : ¬ (256 : Int) ≤ (nd : Int) := by omega
  have H1 := toHid8 h1
  have H2 := toHid8 h2
  clear h1 h2
  obtain ⟨wq, hwq⟩ : ∃ y, w5.alloc (.cells #[.string p.name, .slice pa nd ca, .slice pb nb cb] 25) = y := ⟨_, rfl⟩
  have Fq : Fr None' w5 wq := hwq ▸ Fr.alloc None' w5 _
  have HQ := toHid8 (show Box3 wq w5.heap.size (.string p.name) (.slice pa nd ca) (.slice pb nb cb) from hwq ▸ Box3.new w5 _ _ _)
  have HFq := toHid8 Fq
  have HAq := toHid8 (HA5.out.kept Fq)
  have HBq := toHid8 (HB5.out.kept Fq)
  have Hwq := toHid8 hwq
  clear Fq
  go_wp2_with fail
  clear a0 a1 a2
  obtain ⟨U, hU⟩ := prs_named HSb.out
  have HU := toHid8 hU
  have HPn := toHid8 (show pb = none → p.body = [] from fun e => by
    cases hb : p.body with
    | nil => rfl
    | cons y l =>
      obtain ⟨_, _, e', _⟩ := HSb.out 0 y (by rw [hb]; rfl)
      rw [e] at e'; cases e')
  have HFw := toHid8 (HF5.out.then7 HFq.out)
  have HNe := toHid8 (show W.heap.size ≠ w5.heap.size ∧ w0.heap.size ≠ w5.heap.size from ⟨by have := HA5.out.lt; omega, by have := (Array.getElem?_eq_some_iff.1 HB5.out).1; omega⟩)
  have HUx := toHid8 (fun (k : Nat) (y : Pr) (u : Value × Value) (e1 : (p.body ++ [x])[k]? = some y) (e2 : (U ++ [(Value.slice po x.old.length co, Value.slice pn x.new.length cn)])[k]? = some u) => show (y.old ≠ [] → ∀ j, u.1.ownBlock = some j → ¬ j = w5.heap.size) ∧ (y.new ≠ [] → ∀ j, u.2.ownBlock = some j → ¬ j = w5.heap.size) from by
    have key : StrsAt W u.1 y.old ∧ StrsAt W u.2 y.new := by
      rcases Nat.lt_or_ge k p.body.length with hk | hk
      · rw [List.getElem?_append_left hk] at e1
        rw [List.getElem?_append_left (by rw [HU.out.1]; exact hk)] at e2
        exact HU.out.2.2 k y u e1 e2
      · rw [List.getElem?_append_right hk] at e1
        rw [List.getElem?_append_right (by rw [HU.out.1]; exact hk), HU.out.1] at e2
        have h0 : k - p.body.length = 0 := by
          have := (List.getElem?_eq_some_iff.1 e1).1
          simpa using this
        rw [h0] at e1 e2
        simp at e1 e2
        subst e1 e2
        exact ⟨HSo.out, HSn.out⟩
    have h5 := HF5.out.size
    exact ⟨fun hl j e => by have := key.1.lt hl e; omega, fun hl j e => by have := key.2.lt hl e; omega⟩)
  clear hU
  refine (wpIn_wide (n := 3)).1 (region_inv (by kernel_rfl) (by decide +kernel) (Inv5 (fun t42 t43 t44 t45 t46 t47 t48 t49 => #[.agg #[.string p.name, .slice pa nd ca, .slice pb nb cb], .agg #[.int .i64 x.kind, .string x.path, .string x.dst, .string x.src, .int .i64 x.pos, .slice po x.old.length co, .slice pn x.new.length cn], .string dep, .pointer (some ⟨W.heap.size, 0, none⟩), .pointer (some ⟨w0.heap.size, 0, none⟩), undef, .bool false, .bool true, .pointer (some ⟨w5.heap.size, 0, none⟩), undef, undef, .bool true, .agg #[.string p.name, .slice pa nd ca, .slice pb nb cb], .bool false, .bool false, .agg #[.int .i64 x.kind, .string x.path, .string x.dst, .string x.src, .int .i64 x.pos, .slice po x.old.length co, .slice pn x.new.length cn], .bool false, .bool false, .bool false, .string dep, .int .i64 dep.size, .bool (decide ((1000 : Int) < (dep.size : Int))), .bool (decide ((1000 : Int) < (dep.size : Int))), .bool (decide ((1000 : Int) < (dep.size : Int))), .agg #[.string p.name, .slice pa nd ca, .slice pb nb cb], .bool true, .bool false, .bool (decide ((1000 : Int) < (dep.size : Int))), .bool (decide ((1000 : Int) < (dep.size : Int))), .pointer (some ⟨W.heap.size, 2, none⟩), .slice pb nb cb, .int .i64 nb, .bool (decide ((256 : Int) ≤ (nb : Int))), .bool (decide ((1000 : Int) < (dep.size : Int)) || decide ((256 : Int) ≤ (nb : Int))), .bool (decide ((1000 : Int) < (dep.size : Int)) || decide ((256 : Int) ≤ (nb : Int))), .pointer (some ⟨W.heap.size, 1, none⟩), .slice pa nd ca, .int .i64 nd, .bool (decide ((256 : Int) ≤ (nd : Int))), .bool (decide ((1000 : Int) < (dep.size : Int)) || decide ((256 : Int) ≤ (nb : Int)) || decide ((256 : Int) ≤ (nd : Int))), undef, .agg #[.string p.name, .slice pa nd ca, .slice pb nb cb], t42, t43, t44, t45, t46, t47, t48, t49, undef, undef, undef, undef, undef, undef, undef, undef, undef, undef, undef, undef, undef, undef, undef, undef, undef, undef, undef, undef, undef, undef, undef, undef, undef, undef, undef, undef, undef, undef, undef, undef, undef, undef, undef, undef, undef, undef, undef, undef, undef, undef, undef, undef, undef, undef, undef]) wq W.heap.size w0.heap.size w5.heap.size (.string p.name) (.slice pa nd ca) p.body U (.slice pb nb cb) x (.slice po x.old.length co) (.slice pn x.new.length cn)) ?h0 ?step ?done)
  case h0 => exact ⟨undef, undef, undef, undef, undef, undef, undef, undef, 0, 0, rfl, (Fr.drew None' wq).mono (fun _ e => e.elim), (fun _ => Fr.drew None' wq), (fun h => by cases h), (fun h => by cases h), (fun h => by cases h), (fun h => by cases h), (fun h => by cases h), (fun h => by cases h), (fun h => by cases h), (fun h => by cases h), (fun h => by cases h), (fun h => by cases h), (fun h => by cases h), (fun h => by cases h), (fun h => by cases h), (fun h => by cases h), (fun h => by cases h), (fun h => by cases h), (fun h => by cases h)⟩
  case step =>
    rintro S a w' ⟨t42, t43, t44, t45, t46, t47, t48, t49, g0, g5, rfl, R⟩
    dsimp only
    refine StepsL.cons (fun h0 hd => ?s0) (StepsL.cons (fun h0 hd => ?s1) (StepsL.cons (fun h0 hd => ?s2) (StepsL.cons (fun h0 hd => ?s3) (StepsL.cons (fun h0 hd => ?s4) (StepsL.cons (fun h0 hd => ?s5) (StepsL.cons (fun h0 hd => ?s6) (StepsL.cons (fun h0 hd => ?s7) (StepsL.cons (fun h0 hd => ?s8) (StepsL.nil)))))))))
    case s0 =>
      have n3 : S 3 = false := by
        cases h : S 3 with
        | false => rfl
        | true => exact absurd (R.d3 h).1 (by rw [h0]; decide)
      have n6 : S 6 = false := by
        cases h : S 6 with
        | false => rfl
        | true => exact absurd ((R.d3 (R.d6 h).1).1) (by rw [h0]; decide)
      have n8 : S 8 = false := by
        cases h : S 8 with
        | false => rfl
        | true => exact absurd (R.d7 (R.d8 h)) (by rw [n6]; decide)
      have N3 := toHid8 n3
      have N6 := toHid8 n6
      have N8 := toHid8 n8
      have H0 := toHid8 h0
      clear hd n3 n6 n8 h0
      go_simp
      have f : Fr None' w' (w'.alloc (.cells #[] 41)) := Fr.alloc None' w' _
      have sz : w'.heap.size < (w'.alloc (.cells #[] 41)).heap.size := by show _ < (Array.push _ _).size; rw [Array.size_push]; omega
      exact ⟨_, t43, t44, t45, t46, t47, t48, t49, w'.heap.size, g5, rfl, R.fr.trans f (fun _ e => e.elim), (fun h => (R.n8 h).then7 f), (fun _ => ⟨rfl, R.fr.size, sz, fun _ => OwnP.empty R.fr.size⟩), R.o1, R.o2, (fun h => by rw [show S 3 = true from h] at N3; cases N3.out), R.o4, (fun h => ⟨(R.o5 h).1, (R.o5 h).2.1, Nat.lt_trans (R.o5 h).2.2.1 sz, fun h6 => ((R.o5 h).2.2.2 h6).kept f⟩), (fun _ h => Nat.ne_of_gt (R.o5 h).2.2.1), (fun h => by rw [show S 3 = true from h] at N3; cases N3.out), (fun h => by rw [show S 6 = true from h] at N6; cases N6.out), R.o7, (fun h => by rw [show S 8 = true from h] at N8; cases N8.out), (fun h => (R.d2 h)), (fun h => ⟨rfl, (R.d3 h).2⟩), (fun h => (R.d5 h)), (fun h => ⟨(R.d6 h).1, (R.d6 h).2⟩), (fun h => (R.d7 h)), (fun h => (R.d8 h))⟩
    case s1 =>
      clear hd
      go_simp
      exact ⟨t42, _, t44, t45, t46, t47, t48, t49, g0, g5, rfl, R.fr, R.n8, R.o0, (fun _ => rfl), R.o2, R.o3, R.o4, R.o5, R.o05, R.o35, R.o6, R.o7, R.o8, (fun h => rfl), (fun h => ⟨(R.d3 h).1, (R.d3 h).2⟩), (fun h => (R.d5 h)), (fun h => ⟨(R.d6 h).1, (R.d6 h).2⟩), (fun h => (R.d7 h)), (fun h => (R.d8 h))⟩
    case s2 =>
      have k1 := hd { on := 1, ground := .data } (by simp) rfl
      have e43 := R.o1 k1
      subst e43
      obtain ⟨-, -, c2⟩ := (HAq.out.fr R.fr (fun e => HNe.out.1 e)).cells
      have K1 := toHid8 k1
      clear hd k1
      go_simp
      have k1 := K1.out
      exact ⟨t42, _, _, t45, t46, t47, t48, t49, g0, g5, rfl, R.fr, R.n8, R.o0, (fun _ => rfl), (fun _ => rfl), R.o3, R.o4, R.o5, R.o05, R.o35, R.o6, R.o7, R.o8, (fun _ => k1), (fun h => ⟨(R.d3 h).1, rfl⟩), (fun h => (R.d5 h)), (fun h => ⟨(R.d6 h).1, (R.d6 h).2⟩), (fun h => (R.d7 h)), (fun h => (R.d8 h))⟩
    case s3 =>
      have k0 := hd { on := 0, ground := .data } (by simp) rfl
      have k2 := hd { on := 2, ground := .data } (by simp) rfl
      have n6 : S 6 = false := by
        cases h : S 6 with
        | false => rfl
        | true => exact absurd ((R.d6 h).1) (by rw [h0]; decide)
      have n8 : S 8 = false := by
        cases h : S 8 with
        | false => rfl
        | true => exact absurd (R.d7 (R.d8 h)) (by rw [n6]; decide)
      obtain ⟨e42, x1, x2, x3⟩ := R.o0 k0
      have e44 := R.o2 k2
      subst e42 e44
      have fw := HFw.out.then7 (R.n8 n8)
      obtain ⟨v', w'', hr, hO, f, hloc⟩ := (x3 h0).first (W := W) HNb.out HZ.out HPn.out HU.out.1 (fun ad e j u hj => fw.keepCell (HU.out.2.1 ad e j u hj) (fun e => e)) HU.out.2.2 (fun k y u e1 e2 => ⟨(HU.out.2.2 k y u e1 e2).1.kept fw, (HU.out.2.2 k y u e1 e2).2.kept fw⟩) HFw.out.size R.fr.size (by have := H1.out; omega)
      have f0 : Fr None' wq w'' := (R.n8 n8).trans f (fun i e => .inr (by cases e; exact x1))
      refine wpIn_append7 (.tmp 42) (.tmp 44) _ rfl rfl rfl hr ?_
      go_simp
      exact ⟨_, t43, _, _, t46, t47, t48, t49, g0, g5, rfl, f0.mono (fun _ e => e.elim), (fun _ => f0), (fun _ => ⟨rfl, x1, Nat.lt_of_lt_of_le x2 f.size, fun h => by cases h⟩), R.o1, (fun _ => rfl), (fun _ _ => hO), R.o4, (fun h => ⟨(R.o5 h).1, (R.o5 h).2.1, Nat.lt_of_lt_of_le (R.o5 h).2.2.1 f.size, fun h6 => ((R.o5 h).2.2.2 h6).fr f (fun e => R.o05 k0 h (by cases e; rfl))⟩), R.o05, (fun _ h _ e => by
        rcases hloc with h' | h'
        · rw [h'] at e; exact R.o05 k0 h (by cases e; rfl)
        · rw [h'] at e; have h5 := (R.o5 h).2.2.1; cases e; omega), (fun h => by rw [show S 6 = true from h] at n6; cases n6), R.o7, (fun h => by rw [show S 8 = true from h] at n8; cases n8), (fun h => (R.d2 h)), (fun _ => ⟨k0, k2⟩), (fun h => (R.d5 h)), (fun h => ⟨rfl, (R.d6 h).2⟩), (fun h => (R.d7 h)), (fun h => (R.d8 h))⟩
    case s4 =>
      obtain ⟨c0, c1, c2, c3, c4, c5, c6⟩ := (HBq.out.fr R.fr (fun e => HNe.out.2 e)).cells
      clear hd
      go_simp
      exact ⟨t42, t43, t44, t45, _, t47, t48, t49, g0, g5, rfl, R.fr, R.n8, R.o0, R.o1, R.o2, R.o3, (fun _ => rfl), R.o5, R.o05, R.o35, R.o6, R.o7, R.o8, (fun h => (R.d2 h)), (fun h => ⟨(R.d3 h).1, (R.d3 h).2⟩), (fun h => rfl), (fun h => ⟨(R.d6 h).1, (R.d6 h).2⟩), (fun h => (R.d7 h)), (fun h => (R.d8 h))⟩
    case s5 =>
      have k4 := hd { on := 4, ground := .data } (by simp) rfl
      have n6 : S 6 = false := by
        cases h : S 6 with
        | false => rfl
        | true => exact absurd ((R.d6 h).2) (by rw [h0]; decide)
      have n8 : S 8 = false := by
        cases h : S 8 with
        | false => rfl
        | true => exact absurd (R.d7 (R.d8 h)) (by rw [n6]; decide)
      have e46 := R.o4 k4
      subst e46
      have N6 := toHid8 n6
      have N8 := toHid8 n8
      have H0 := toHid8 h0
      have K4 := toHid8 k4
      clear hd n6 n8 h0 k4
      go_simp
      have k4 := K4.out
      have f : Fr None' w' (w'.alloc (.cells #[.int .i64 x.kind, .string x.path, .string x.dst, .string x.src, .int .i64 x.pos, .slice po x.old.length co, .slice pn x.new.length cn] 41)) := Fr.alloc None' w' _
      have sz : w'.heap.size < (w'.alloc (.cells #[.int .i64 x.kind, .string x.path, .string x.dst, .string x.src, .int .i64 x.pos, .slice po x.old.length co, .slice pn x.new.length cn] 41)).heap.size := by show _ < (Array.push _ _).size; rw [Array.size_push]; omega
      exact ⟨t42, t43, t44, t45, _, _, t48, t49, g0, w'.heap.size, rfl, R.fr.trans f (fun _ e => e.elim), (fun h => (R.n8 h).then7 f), (fun h => ⟨(R.o0 h).1, (R.o0 h).2.1, Nat.lt_trans (R.o0 h).2.2.1 sz, fun h3 => ((R.o0 h).2.2.2 h3).kept f⟩), R.o1, R.o2, (fun h h6 => (R.o3 h h6).kept f), (fun _ => rfl), (fun _ => ⟨rfl, R.fr.size, sz, fun _ => Box.new w' _ _ _ _ _ _ _⟩), (fun h _ => Nat.ne_of_lt (R.o0 h).2.2.1), (fun h _ h6 e => Nat.lt_irrefl _ ((R.o3 h h6).ge e).2), (fun h => by rw [show S 6 = true from h] at N6; cases N6.out), R.o7, (fun h => by rw [show S 8 = true from h] at N8; cases N8.out), (fun h => (R.d2 h)), (fun h => ⟨(R.d3 h).1, (R.d3 h).2⟩), (fun _ => k4), (fun h => ⟨(R.d6 h).1, rfl⟩), (fun h => (R.d7 h)), (fun h => (R.d8 h))⟩
    case s6 =>
      have k3 := hd { on := 3, ground := .data } (by simp) rfl
      have k5 := hd { on := 5, ground := .data } (by simp) rfl
      have n8 : S 8 = false := by
        cases h : S 8 with
        | false => rfl
        | true => exact absurd (R.d7 (R.d8 h)) (by rw [h0]; decide)
      have n7 : S 7 = false := by
        cases h : S 7 with
        | false => rfl
        | true => exact absurd (R.d7 h) (by rw [h0]; decide)
      obtain ⟨e47, x1, x2, x3⟩ := R.o5 k5
      subst e47
      have fw := HFw.out.then7 (R.n8 n8)
      have hO := R.o3 k3 h0
      obtain ⟨v', w'', hr, hO', f, -⟩ := hO.push (x3 h0) (HSo.out.kept fw) (HSn.out.kept fw) (fun hl k e e' => by have := HSo.out.lt hl e; have := (hO.ge e').1; have := HFw.out.size; omega) (fun hl k e e' => by have := HSn.out.lt hl e; have := (hO.ge e').1; have := HFw.out.size; omega) (by have := H1.out; have := HNb.out; omega) R.fr.size
      have f0 : Fr None' wq w'' := (R.n8 n8).trans f (fun i e => .inr (hO.ge e).1)
      refine wpIn_append7 (.tmp 45) (.tmp 47) _ rfl rfl rfl hr ?_
      go_simp
      exact ⟨t42, t43, t44, t45, t46, _, _, t49, g0, g5, rfl, f0.mono (fun _ e => e.elim), (fun _ => f0), (fun h => ⟨(R.o0 h).1, (R.o0 h).2.1, Nat.lt_of_lt_of_le (R.o0 h).2.2.1 f.size, fun h3 => by rw [show S 3 = false from h3] at k3; cases k3⟩), R.o1, R.o2, (fun _ h => by cases h), R.o4, (fun _ => ⟨rfl, x1, Nat.lt_of_lt_of_le x2 f.size, fun h => by cases h⟩), R.o05, (fun _ _ h => by cases h), (fun _ => hO'), R.o7, (fun h => by rw [show S 8 = true from h] at n8; cases n8), (fun h => (R.d2 h)), (fun h => ⟨(R.d3 h).1, (R.d3 h).2⟩), (fun h => (R.d5 h)), (fun _ => ⟨k3, k5⟩), (fun h => rfl), (fun h => (R.d8 h))⟩
    case s7 =>
      have k6 := hd { on := 6, ground := .phase } (by simp) rfl
      have K6 := toHid8 k6
      clear hd k6
      go_simp
      have k6 := K6.out
      exact ⟨t42, t43, t44, t45, t46, t47, t48, _, g0, g5, rfl, R.fr, R.n8, R.o0, R.o1, R.o2, R.o3, R.o4, R.o5, R.o05, R.o35, R.o6, (fun _ => rfl), R.o8, (fun h => (R.d2 h)), (fun h => ⟨(R.d3 h).1, (R.d3 h).2⟩), (fun h => (R.d5 h)), (fun h => ⟨(R.d6 h).1, (R.d6 h).2⟩), (fun _ => k6), (fun h => rfl)⟩
    case s8 =>
      have k7 := hd { on := 7, ground := .data } (by simp) rfl
      have e49 := R.o7 k7
      subst e49
      have f0 := R.n8 h0
      have bq := HQ.out.kept f0
      obtain ⟨c0, c1, c2⟩ := bq.cells
      have z2 := bq.frozen 2
      have hO := R.o6 (R.d7 k7)
      obtain ⟨v8, c8, e48, -⟩ := hO.slice
      obtain ⟨m8, hm8⟩ : ∃ m, (p.body ++ [x]).length = m := ⟨_, rfl⟩
      rw [hm8] at e48
      subst e48
      clear hm8
      have B8 := toHid8 (bq.set2 (.slice v8 m8 c8))
      have F8 := toHid8 (Fr.setCell (M := fun k => k = w5.heap.size) w' (a := ⟨w5.heap.size, 2, none⟩) rfl (.slice v8 m8 c8))
      have O8 := toHid8 (hO.fr7 F8.out (fun k e => by have h1 := (hO.ge e).1; have h2 := HQ.out.lt; omega) (fun k y u e1 e2 => HUx.out k y u e1 e2))
      have F0 := toHid8 f0
      have K7 := toHid8 k7
      clear hd k7 h0 f0 bq hO
      go_simp
      have k7 := K7.out
      have K6 := R.d7 k7
      have K3 := (R.d6 K6).1
      exact ⟨t42, t43, t44, t45, t46, t47, _, _, g0, g5, rfl, (F0.out.mono (fun _ e => e.elim)).trans F8.out (fun _ e => .inl e), (fun h => by cases h), (fun h => ⟨(R.o0 h).1, (R.o0 h).2.1, Nat.lt_of_lt_of_le (R.o0 h).2.2.1 F8.out.size, fun h3 => by rw [show S 3 = false from h3] at K3; cases K3⟩), R.o1, R.o2, (fun _ h6 => by rw [show S 6 = false from h6] at K6; cases K6), R.o4, (fun h => ⟨(R.o5 h).1, (R.o5 h).2.1, Nat.lt_of_lt_of_le (R.o5 h).2.2.1 F8.out.size, fun h6 => by rw [show S 6 = false from h6] at K6; cases K6⟩), R.o05, (fun _ _ h6 => by rw [show S 6 = false from h6] at K6; cases K6), (fun _ => O8.out), (fun _ => rfl), (fun _ => B8.out), (fun h => (R.d2 h)), (fun h => ⟨(R.d3 h).1, (R.d3 h).2⟩), (fun h => (R.d5 h)), (fun h => ⟨(R.d6 h).1, (R.d6 h).2⟩), (fun h => (R.d7 h)), (fun _ => k7)⟩
  case done =>
    rintro S a wA ⟨t42, t43, t44, t45, t46, t47, t48, t49, g0, g5, rfl, R⟩ hall
    dsimp only
    have hq := R.o8 (hall 8 (by simp))
    have hO := R.o6 (hall 6 (by simp))
    obtain ⟨v8, c8, e48, hc8, hz8, hP8⟩ := hO.slice
    obtain ⟨m8, hm8⟩ : ∃ m, (p.body ++ [x]).length = m := ⟨_, rfl⟩
    rw [hm8] at e48
    subst e48
    have HM8 := toHid8 hm8
    have h5A : Fr None' w5 wA := HFq.out.trans R.fr (fun i e => .inr (by rw [e]; exact Nat.le_refl _))
    have HFA := toHid8 (HF5.out.then7 h5A)
    have HAA := toHid8 (HA5.out.kept h5A)
    have HBA := toHid8 (HB5.out.kept h5A)
    have HQA := toHid8 hq
    have HP8 := toHid8 hP8
    obtain ⟨a0, a1, a2⟩ := HAA.out.cells
    rw [HNd.out] at a1
    clear R hall hq hO hc8 hz8 hP8 hm8 h5A
    obtain ⟨wD, hwD⟩ : ∃ y, wA.alloc (.cells #[.string p.name, .slice pa nd ca, .slice pb nb cb] 25) = y := ⟨_, rfl⟩
    have FD : Fr None' wA wD := hwD ▸ Fr.alloc None' wA _
    have HDb := toHid8 (show Box3 wD wA.heap.size (.string p.name) (.slice pa nd ca) (.slice pb nb cb) from hwD ▸ Box3.new wA _ _ _)
    have HFD := toHid8 FD
    obtain ⟨v1, wF, v2, wG, r1, r2, hs2, fG, hv2⟩ := texts_run wD (HSd.out.kept (HFA.out.then7 FD)) (by rw [HNd.out]; have := H2.out; omega) dep
    rw [HNd.out] at r1
    obtain ⟨pv, cv, ev, -⟩ := hs2.sl
    obtain ⟨md, hmd⟩ : ∃ m, (p.deps ++ [dep]).length = m := ⟨_, rfl⟩
    rw [hmd] at ev
    subst ev
    have HMd := toHid8 hmd
    have HS2 := toHid8 hs2
    have HFG := toHid8 fG
    have HDG := toHid8 (HDb.out.kept fG)
    have e1 := (HAA.out.kept (FD.then7 (Fr.alloc None' wD (.cells #[] 9)))).cells.2.1
    rw [HNd.out] at e1
    obtain ⟨d0, d1, d2⟩ := HDG.out.cells
    have z1 := HDG.out.frozen 1
    obtain ⟨wE, hwE⟩ : ∃ y, wG.setCell ⟨wA.heap.size, 1, none⟩ (.slice pv md cv) = y := ⟨_, rfl⟩
    have fE : Fr (fun k => k = wA.heap.size) wG wE := hwE ▸ Fr.setCell (M := fun k => k = wA.heap.size) wG (a := ⟨wA.heap.size, 1, none⟩) rfl _
    have HDE := toHid8 (show Box3 wE wA.heap.size (.string p.name) (.slice pv md cv) (.slice pb nb cb) from hwE ▸ HDG.out.set1 _)
    have HFE := toHid8 (show Fr None' wA wE from (FD.then7 fG).trans fE (fun i e => .inr (by rw [e]; exact Nat.le_refl _)))
    have HS2E := toHid8 (hs2.far fE (fun hl k e e' => by have h1 := hv2 k e; have h2 := HDb.out.lt; omega))
    clear hs2 fG fE hmd FD hv2
    obtain ⟨x0, x1, x2⟩ := (HAA.out.kept HFE.out).cells
    rw [HNd.out] at x1
    by_cases hn0 : nd = 0
    case pos =>
      have i4 : ¬ (0 : Int) < (nd : Int) := by omega
      have Hn0 := toHid8 hn0
      clear hn0
      obtain ⟨last, hlast⟩ : ∃ b : ByteArray, b = ⟨#[]⟩ := ⟨_, rfl⟩
      have HLast := toHid8 (show (p.deps.map unB).getLast?.getD [] = unB last from by
        have h1 := HNd.out
        rw [Hn0.out] at h1
        rw [List.length_eq_zero_iff.1 h1, hlast]
        rfl)
      go_wp2_with (at_builtin; first | refine Lib.wpList_append_run _ rfl _ _ _ _ rfl _ _ rfl rfl _ _ r1 ?_ | refine Lib.wpList_append_run _ rfl _ _ _ _ rfl _ _ rfl rfl _ _ r2 ?_)
      rw [← hlast]
      clear hlast
      have K0 : ∀ y : FrC wE, y.to.cell? ⟨W.heap.size, 0, none⟩ = some (.string p.name) := fun y => (HAA.out.kept (HFE.out.then7 y.fr)).cells.1
      have Q0 : ∀ y : FrC wE, y.to.cell? ⟨w5.heap.size, 0, none⟩ = some (.string p.name) := fun y => (HQA.out.kept (HFE.out.then7 y.fr)).cells.1
      have Q1 : ∀ y : FrC wE, y.to.cell? ⟨w5.heap.size, 1, none⟩ = some (.slice pa nd ca) := fun y => (HQA.out.kept (HFE.out.then7 y.fr)).cells.2.1
      have Q2 : ∀ y : FrC wE, y.to.cell? ⟨w5.heap.size, 2, none⟩ = some (.slice v8 m8 c8) := fun y => (HQA.out.kept (HFE.out.then7 y.fr)).cells.2.2
      have D0 : ∀ y : FrC wE, y.to.cell? ⟨wA.heap.size, 0, none⟩ = some (.string p.name) := fun y => (HDE.out.kept y.fr).cells.1
      have D1 : ∀ y : FrC wE, y.to.cell? ⟨wA.heap.size, 1, none⟩ = some (.slice pv md cv) := fun y => (HDE.out.kept y.fr).cells.2.1
      have D2 : ∀ y : FrC wE, y.to.cell? ⟨wA.heap.size, 2, none⟩ = some (.slice pb nb cb) := fun y => (HDE.out.kept y.fr).cells.2.2
      have X0 : ∀ y : FrC wE, y.to.cell? ⟨w0.heap.size, 0, none⟩ = some (.int .i64 x.kind) := fun y => (HBA.out.kept (HFE.out.then7 y.fr)).cells.1
      have X1 : ∀ y : FrC wE, y.to.cell? ⟨w0.heap.size, 1, none⟩ = some (.string x.path) := fun y => (HBA.out.kept (HFE.out.then7 y.fr)).cells.2.1
      have X2 : ∀ y : FrC wE, y.to.cell? ⟨w0.heap.size, 2, none⟩ = some (.string x.dst) := fun y => (HBA.out.kept (HFE.out.then7 y.fr)).cells.2.2.1
      have X3 : ∀ y : FrC wE, y.to.cell? ⟨w0.heap.size, 3, none⟩ = some (.string x.src) := fun y => (HBA.out.kept (HFE.out.then7 y.fr)).cells.2.2.2.1
      have X4 : ∀ y : FrC wE, y.to.cell? ⟨w0.heap.size, 4, none⟩ = some (.int .i64 x.pos) := fun y => (HBA.out.kept (HFE.out.then7 y.fr)).cells.2.2.2.2.1
      have X5 : ∀ y : FrC wE, y.to.cell? ⟨w0.heap.size, 5, none⟩ = some (.slice po x.old.length co) := fun y => (HBA.out.kept (HFE.out.then7 y.fr)).cells.2.2.2.2.2.1
      have X6 : ∀ y : FrC wE, y.to.cell? ⟨w0.heap.size, 6, none⟩ = some (.slice pn x.new.length cn) := fun y => (HBA.out.kept (HFE.out.then7 y.fr)).cells.2.2.2.2.2.2
      have U1 : ∀ y : FrC wE, Calls Tryz.prog 14 #[.agg #[.string p.name, .slice pa nd ca, .slice v8 m8 c8]] y.to fun e w' => e = .returned (.bool (rightP x)) ∧ ∃ z : FrC wE, w' = z.to := fun y => by
        have fy := HFA.out.then7 (HFE.out.then7 y.fr)
        have h := nright_any ⟨p.name, p.deps, p.body ++ [x]⟩ (.slice pa nd ca) v8 c8 y.to (by rw [← HNd.out]; exact HSd.out.kept fy) (HP8.out.kept (HFE.out.then7 y.fr)) (small_change HW.out HV.out)
        simp only [HM8.out] at h
        rw [right_change HRp.out (by rw [HNb.out]; exact H1.out)] at h
        exact h.mono fun _ _ h => ⟨h.1, ⟨_, y.fr.then7 h.2⟩, rfl⟩
      have U2 : ∀ y : FrC wE, Calls Tryz.prog 20 #[.agg #[.int .i64 x.kind, .string x.path, .string x.dst, .string x.src, .int .i64 x.pos, .slice po x.old.length co, .slice pn x.new.length cn]] y.to fun e w' => e = .returned (.bool (rightP x)) ∧ ∃ z : FrC wE, w' = z.to := fun y => by
        have fy := HFA.out.then7 (HFE.out.then7 y.fr)
        exact (qright_any x _ _ y.to (HSo.out.kept fy) (HSn.out.kept fy) (weight_small HV.out).1).mono fun _ _ h => ⟨h.1, ⟨_, y.fr.then7 h.2⟩, rfl⟩
      have U3 : ∀ y : FrC wE, Calls Tryz.prog 14 #[.agg #[.string p.name, .slice pv md cv, .slice pb nb cb]] y.to fun e w' => e = .returned (.bool (labelB (unB dep) && decide (unB last < unB dep) && !decide (unB dep = unB p.name))) ∧ ∃ z : FrC wE, w' = z.to := fun y => by
        have fy := HFA.out.then7 (HFE.out.then7 y.fr)
        have h := nright_any ⟨p.name, p.deps ++ [dep], p.body⟩ (.slice pv md cv) pb cb y.to (HS2E.out.kept y.fr) (HSb.out.kept fy) (small_dep HW.out HDl.out)
        simp only [HNb.out] at h
        rw [right_dep HRp.out (by rw [HNd.out]; exact H2.out), HLast.out] at h
        exact h.mono fun _ _ h => ⟨h.1, ⟨_, y.fr.then7 h.2⟩, rfl⟩
      have U4 : ∀ y : FrC wE, Calls Tryz.prog 17 #[.string dep] y.to fun e w' => e = .returned (.bool (labelB (unB dep))) ∧ ∃ z : FrC wE, w' = z.to := fun y => (label_any dep y.to (by have := HDl.out; omega)).mono fun _ _ h => ⟨h.1, ⟨_, y.fr.then7 h.2⟩, rfl⟩
      have g1 := tri_bytes dep last
      have g2 := ne_bytes dep p.name
      generalize rightP x = RX at U1 U2
      generalize labelB (unB dep) = LB at U3 U4
      generalize decide (unB last < unB dep) = GT at U3 g1
      generalize decide (unB dep = unB p.name) = EQ at U3 g2
      cases LB
      case false =>
        simp only [Bool.false_and] at U3
        clear g1 g2
        refine wp_region_quiet (C := fun w' => ∃ x : FrC wE, w' = x.to) (by kernel_rfl) (by kernel_rfl) ⟨⟨_, Fr.drew None' wE⟩, rfl⟩ ?_
        simp only
        repeat (quiet_step (first | (go_at_call 14; first | with_reducible exact U1 _ | with_reducible exact U3 _) | (go_at_call 20; exact U2 _) | (go_at_call 17; exact U4 _)))
        refine wpQuiet_nil ?_
        intro wZ hwZ
        obtain ⟨z, rfl⟩ := hwZ
        have HFz := toHid8 (HFA.out.then7 (HFE.out.then7 z.fr))
        clear U1 U2 U3 U4
        go_wp2_with fail
        go_ret
        exact ⟨by first | rfl | exact ret_bool7 (by simp), HFz.out⟩
      case true =>
      rcases g1 with ⟨b1, rfl⟩ | ⟨b1, b2, rfl⟩ | ⟨b1, b2, rfl⟩
      · simp only [Bool.and_false, Bool.false_and] at U3
        clear g2
        refine wp_region_quiet (C := fun w' => ∃ x : FrC wE, w' = x.to) (by kernel_rfl) (by kernel_rfl) ⟨⟨_, Fr.drew None' wE⟩, rfl⟩ ?_
        simp only
        repeat (quiet_step (first | (go_at_call 14; first | with_reducible exact U1 _ | with_reducible exact U3 _) | (go_at_call 20; exact U2 _) | (go_at_call 17; exact U4 _)))
        refine wpQuiet_nil ?_
        intro wZ hwZ
        obtain ⟨z, rfl⟩ := hwZ
        have HFz := toHid8 (HFA.out.then7 (HFE.out.then7 z.fr))
        clear U1 U2 U3 U4
        go_wp2_with fail
        go_ret
        exact ⟨by first | rfl | exact ret_bool7 (by simp), HFz.out⟩
      · simp only [Bool.and_false, Bool.false_and] at U3
        clear g2
        refine wp_region_quiet (C := fun w' => ∃ x : FrC wE, w' = x.to) (by kernel_rfl) (by kernel_rfl) ⟨⟨_, Fr.drew None' wE⟩, rfl⟩ ?_
        simp only
        repeat (quiet_step (first | (go_at_call 14; first | with_reducible exact U1 _ | with_reducible exact U3 _) | (go_at_call 20; exact U2 _) | (go_at_call 17; exact U4 _)))
        refine wpQuiet_nil ?_
        intro wZ hwZ
        obtain ⟨z, rfl⟩ := hwZ
        have HFz := toHid8 (HFA.out.then7 (HFE.out.then7 z.fr))
        clear U1 U2 U3 U4
        go_wp2_with fail
        go_ret
        exact ⟨by first | rfl | exact ret_bool7 (by simp), HFz.out⟩
      · simp only [Bool.and_true, Bool.true_and] at U3
        refine wp_region_quiet (C := fun w' => ∃ x : FrC wE, w' = x.to) (by kernel_rfl) (by kernel_rfl) ⟨⟨_, Fr.drew None' wE⟩, rfl⟩ ?_
        simp only
        repeat (quiet_step (first | (go_at_call 14; first | with_reducible exact U1 _ | with_reducible exact U3 _) | (go_at_call 20; exact U2 _) | (go_at_call 17; exact U4 _)))
        refine wpQuiet_nil ?_
        intro wZ hwZ
        obtain ⟨z, rfl⟩ := hwZ
        have HFz := toHid8 (HFA.out.then7 (HFE.out.then7 z.fr))
        clear U1 U2 U3 U4
        go_wp2_with fail
        go_ret
        exact ⟨ret_bool7 (by simp; exact eq_of_ne g2), HFz.out⟩
    case neg =>
      have i4 : (0 : Int) < (nd : Int) := by omega
      obtain ⟨k, hk⟩ : ∃ k, nd = k + 1 := ⟨nd - 1, by omega⟩
      clear hn0
      have j1 : IntKind.i64.wrap ((nd : Int) - 1) = (k : Int) := by have := H2.out; rw [IntKind.wrap_i64]; omega
      have j2 : (0 : Int) ≤ (k : Int) := by omega
      have j3 : (k : Int) < (nd : Int) := by omega
      obtain ⟨last, hlast⟩ : ∃ b : ByteArray, p.deps[k]? = some b := ⟨p.deps[k]'(by have := HNd.out; omega), List.getElem?_eq_getElem _⟩
      have HLast := toHid8 (show (p.deps.map unB).getLast?.getD [] = unB last from by
        rw [List.getLast?_eq_getElem?, List.length_map, HNd.out, hk, Nat.add_sub_cancel, List.getElem?_map, hlast]
        rfl)
      clear hk
      have hrow : Lines.Row wE pa p.deps := by
        obtain ⟨va, c, e, _, _, hr⟩ := HSd.out.kept (HFA.out.then7 HFE.out)
        cases e
        exact hr
      obtain ⟨ga, oa, rfl, ce⟩ := hrow k last hlast
      clear hrow
      clear hlast
      go_wp2_with (at_builtin; first | refine Lib.wpList_append_run _ rfl _ _ _ _ rfl _ _ rfl rfl _ _ r1 ?_ | refine Lib.wpList_append_run _ rfl _ _ _ _ rfl _ _ rfl rfl _ _ r2 ?_)
      have K0 : ∀ y : FrC wE, y.to.cell? ⟨W.heap.size, 0, none⟩ = some (.string p.name) := fun y => (HAA.out.kept (HFE.out.then7 y.fr)).cells.1
      have Q0 : ∀ y : FrC wE, y.to.cell? ⟨w5.heap.size, 0, none⟩ = some (.string p.name) := fun y => (HQA.out.kept (HFE.out.then7 y.fr)).cells.1
      have Q1 : ∀ y : FrC wE, y.to.cell? ⟨w5.heap.size, 1, none⟩ = some (.slice (some ⟨ga, oa, none⟩) nd ca) := fun y => (HQA.out.kept (HFE.out.then7 y.fr)).cells.2.1
      have Q2 : ∀ y : FrC wE, y.to.cell? ⟨w5.heap.size, 2, none⟩ = some (.slice v8 m8 c8) := fun y => (HQA.out.kept (HFE.out.then7 y.fr)).cells.2.2
      have D0 : ∀ y : FrC wE, y.to.cell? ⟨wA.heap.size, 0, none⟩ = some (.string p.name) := fun y => (HDE.out.kept y.fr).cells.1
      have D1 : ∀ y : FrC wE, y.to.cell? ⟨wA.heap.size, 1, none⟩ = some (.slice pv md cv) := fun y => (HDE.out.kept y.fr).cells.2.1
      have D2 : ∀ y : FrC wE, y.to.cell? ⟨wA.heap.size, 2, none⟩ = some (.slice pb nb cb) := fun y => (HDE.out.kept y.fr).cells.2.2
      have X0 : ∀ y : FrC wE, y.to.cell? ⟨w0.heap.size, 0, none⟩ = some (.int .i64 x.kind) := fun y => (HBA.out.kept (HFE.out.then7 y.fr)).cells.1
      have X1 : ∀ y : FrC wE, y.to.cell? ⟨w0.heap.size, 1, none⟩ = some (.string x.path) := fun y => (HBA.out.kept (HFE.out.then7 y.fr)).cells.2.1
      have X2 : ∀ y : FrC wE, y.to.cell? ⟨w0.heap.size, 2, none⟩ = some (.string x.dst) := fun y => (HBA.out.kept (HFE.out.then7 y.fr)).cells.2.2.1
      have X3 : ∀ y : FrC wE, y.to.cell? ⟨w0.heap.size, 3, none⟩ = some (.string x.src) := fun y => (HBA.out.kept (HFE.out.then7 y.fr)).cells.2.2.2.1
      have X4 : ∀ y : FrC wE, y.to.cell? ⟨w0.heap.size, 4, none⟩ = some (.int .i64 x.pos) := fun y => (HBA.out.kept (HFE.out.then7 y.fr)).cells.2.2.2.2.1
      have X5 : ∀ y : FrC wE, y.to.cell? ⟨w0.heap.size, 5, none⟩ = some (.slice po x.old.length co) := fun y => (HBA.out.kept (HFE.out.then7 y.fr)).cells.2.2.2.2.2.1
      have X6 : ∀ y : FrC wE, y.to.cell? ⟨w0.heap.size, 6, none⟩ = some (.slice pn x.new.length cn) := fun y => (HBA.out.kept (HFE.out.then7 y.fr)).cells.2.2.2.2.2.2
      have U1 : ∀ y : FrC wE, Calls Tryz.prog 14 #[.agg #[.string p.name, .slice (some ⟨ga, oa, none⟩) nd ca, .slice v8 m8 c8]] y.to fun e w' => e = .returned (.bool (rightP x)) ∧ ∃ z : FrC wE, w' = z.to := fun y => by
        have fy := HFA.out.then7 (HFE.out.then7 y.fr)
        have h := nright_any ⟨p.name, p.deps, p.body ++ [x]⟩ (.slice (some ⟨ga, oa, none⟩) nd ca) v8 c8 y.to (by rw [← HNd.out]; exact HSd.out.kept fy) (HP8.out.kept (HFE.out.then7 y.fr)) (small_change HW.out HV.out)
        simp only [HM8.out] at h
        rw [right_change HRp.out (by rw [HNb.out]; exact H1.out)] at h
        exact h.mono fun _ _ h => ⟨h.1, ⟨_, y.fr.then7 h.2⟩, rfl⟩
      have U2 : ∀ y : FrC wE, Calls Tryz.prog 20 #[.agg #[.int .i64 x.kind, .string x.path, .string x.dst, .string x.src, .int .i64 x.pos, .slice po x.old.length co, .slice pn x.new.length cn]] y.to fun e w' => e = .returned (.bool (rightP x)) ∧ ∃ z : FrC wE, w' = z.to := fun y => by
        have fy := HFA.out.then7 (HFE.out.then7 y.fr)
        exact (qright_any x _ _ y.to (HSo.out.kept fy) (HSn.out.kept fy) (weight_small HV.out).1).mono fun _ _ h => ⟨h.1, ⟨_, y.fr.then7 h.2⟩, rfl⟩
      have U3 : ∀ y : FrC wE, Calls Tryz.prog 14 #[.agg #[.string p.name, .slice pv md cv, .slice pb nb cb]] y.to fun e w' => e = .returned (.bool (labelB (unB dep) && decide (unB last < unB dep) && !decide (unB dep = unB p.name))) ∧ ∃ z : FrC wE, w' = z.to := fun y => by
        have fy := HFA.out.then7 (HFE.out.then7 y.fr)
        have h := nright_any ⟨p.name, p.deps ++ [dep], p.body⟩ (.slice pv md cv) pb cb y.to (HS2E.out.kept y.fr) (HSb.out.kept fy) (small_dep HW.out HDl.out)
        simp only [HNb.out] at h
        rw [right_dep HRp.out (by rw [HNd.out]; exact H2.out), HLast.out] at h
        exact h.mono fun _ _ h => ⟨h.1, ⟨_, y.fr.then7 h.2⟩, rfl⟩
      have U4 : ∀ y : FrC wE, Calls Tryz.prog 17 #[.string dep] y.to fun e w' => e = .returned (.bool (labelB (unB dep))) ∧ ∃ z : FrC wE, w' = z.to := fun y => (label_any dep y.to (by have := HDl.out; omega)).mono fun _ _ h => ⟨h.1, ⟨_, y.fr.then7 h.2⟩, rfl⟩
      have g1 := tri_bytes dep last
      have g2 := ne_bytes dep p.name
      generalize rightP x = RX at U1 U2
      generalize labelB (unB dep) = LB at U3 U4
      generalize decide (unB last < unB dep) = GT at U3 g1
      generalize decide (unB dep = unB p.name) = EQ at U3 g2
      cases LB
      case false =>
        simp only [Bool.false_and] at U3
        clear g1 g2
        refine wp_region_quiet (C := fun w' => ∃ x : FrC wE, w' = x.to) (by kernel_rfl) (by kernel_rfl) ⟨⟨_, Fr.drew None' wE⟩, rfl⟩ ?_
        simp only
        repeat (quiet_step (first | (go_at_call 14; first | with_reducible exact U1 _ | with_reducible exact U3 _) | (go_at_call 20; exact U2 _) | (go_at_call 17; exact U4 _)))
        refine wpQuiet_nil ?_
        intro wZ hwZ
        obtain ⟨z, rfl⟩ := hwZ
        have HFz := toHid8 (HFA.out.then7 (HFE.out.then7 z.fr))
        clear U1 U2 U3 U4
        go_wp2_with fail
        go_ret
        exact ⟨by first | rfl | exact ret_bool7 (by simp), HFz.out⟩
      case true =>
      rcases g1 with ⟨b1, rfl⟩ | ⟨b1, b2, rfl⟩ | ⟨b1, b2, rfl⟩
      · simp only [Bool.and_false, Bool.false_and] at U3
        clear g2
        refine wp_region_quiet (C := fun w' => ∃ x : FrC wE, w' = x.to) (by kernel_rfl) (by kernel_rfl) ⟨⟨_, Fr.drew None' wE⟩, rfl⟩ ?_
        simp only
        repeat (quiet_step (first | (go_at_call 14; first | with_reducible exact U1 _ | with_reducible exact U3 _) | (go_at_call 20; exact U2 _) | (go_at_call 17; exact U4 _)))
        refine wpQuiet_nil ?_
        intro wZ hwZ
        obtain ⟨z, rfl⟩ := hwZ
        have HFz := toHid8 (HFA.out.then7 (HFE.out.then7 z.fr))
        clear U1 U2 U3 U4
        go_wp2_with fail
        go_ret
        exact ⟨by first | rfl | exact ret_bool7 (by simp), HFz.out⟩
      · simp only [Bool.and_false, Bool.false_and] at U3
        clear g2
        refine wp_region_quiet (C := fun w' => ∃ x : FrC wE, w' = x.to) (by kernel_rfl) (by kernel_rfl) ⟨⟨_, Fr.drew None' wE⟩, rfl⟩ ?_
        simp only
        repeat (quiet_step (first | (go_at_call 14; first | with_reducible exact U1 _ | with_reducible exact U3 _) | (go_at_call 20; exact U2 _) | (go_at_call 17; exact U4 _)))
        refine wpQuiet_nil ?_
        intro wZ hwZ
        obtain ⟨z, rfl⟩ := hwZ
        have HFz := toHid8 (HFA.out.then7 (HFE.out.then7 z.fr))
        clear U1 U2 U3 U4
        go_wp2_with fail
        go_ret
        exact ⟨by first | rfl | exact ret_bool7 (by simp), HFz.out⟩
      · simp only [Bool.and_true, Bool.true_and] at U3
        refine wp_region_quiet (C := fun w' => ∃ x : FrC wE, w' = x.to) (by kernel_rfl) (by kernel_rfl) ⟨⟨_, Fr.drew None' wE⟩, rfl⟩ ?_
        simp only
        repeat (quiet_step (first | (go_at_call 14; first | with_reducible exact U1 _ | with_reducible exact U3 _) | (go_at_call 20; exact U2 _) | (go_at_call 17; exact U4 _)))
        refine wpQuiet_nil ?_
        intro wZ hwZ
        obtain ⟨z, rfl⟩ := hwZ
        have HFz := toHid8 (HFA.out.then7 (HFE.out.then7 z.fr))
        clear U1 U2 U3 U4
        go_wp2_with fail
        go_ret
        exact ⟨ret_bool7 (by simp; exact eq_of_ne g2), HFz.out⟩

end Go.Proofs.YtofpkpomhdhkgaaGreatDoor
