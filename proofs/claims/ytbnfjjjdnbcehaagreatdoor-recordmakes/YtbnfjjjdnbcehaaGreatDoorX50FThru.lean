/- What is proved here: contracts for RecordMakes. Conditions: as named. -/
import Derived.Test.YtbnfjjjdnbcehaaGreatDoorX1FPlain
import Derived.Test.YtbnfjjjdnbcehaaGreatDoorX47FTab
import Derived.Test.YtbnfjjjdnbcehaaGreatDoorX48FConcat
import Derived.Test.YtbnfjjjdnbcehaaGreatDoorXFNum
set_option maxHeartbeats 16000000
namespace Go.Proofs.YtbnfjjjdnbcehaaGreatDoor.Diff
open Go.RowKit Go.Shelf
set_option maxRecDepth 100000
theorem Yo.ft {Q : GE} {w : World} {R : Nat → Value} {now : Int} (h : Yo Q w R now) (hb : Q.H1 ≤ Q.base) {k : Nat} (hk : Q.foot R k) : Q.H1 ≤ k ∧ k < w.heap.size := by
 rcases hk with ⟨h1, h2⟩ | ⟨i, hi, ho⟩
 ·have := h.top; omega
 ·obtain ⟨vs, hv⟩ := h.tab.own i hi
  have := hv.lt ho
  omega
def GB.wr (E : GB) : Nat → Prop := fun k => k = E.pl ∨ k = E.pi ∨ k = E.pj ∨ E.H1 ≤ k
structure Thru (E : GB) (Q : GE) (D : List (Hk ByteArray)) (w w' : World) (i j : Nat) (i0 j0 : Nat) (L : List (Hk ByteArray)) (vl : Value) (V : List (Value × Value)) (G : Nat → Prop) (R : Nat → Value) (now : Int) : Prop where
 wk : Walk E.ahead E.A E.B D i j i0 j0 L
 ga : GAt E w' i0 j0 L vl V G
 ll : L.length ≤ i
 ap : ∀ k, G k → ¬ Q.foot R k
 go : Yo Q w' R now
 fr : Fr E.wr w w'
def Done (E : GB) (D : List (Hk ByteArray)) (w w' : World) : Prop := (∃ i j vl V G, GAt E w' i j D vl V G) ∧ Fr E.wr w w'
section
variable {E : GB} (hE : E.Fit) {Q : GE} (hQ : Q.Fit) (hH : Q.H1 = E.H1) (hb : Q.H1 ≤ Q.base) {f : ByteArray → Int} (hn : Nums f E.A E.B) {D : List (Hk ByteArray)} {w w1 w2 : World} {i j i0 j0 : Nat} {L : List (Hk ByteArray)} {vl : Value} {V : List (Value × Value)} {G : Nat → Prop} {R : Nat → Value} {now : Int}
include hE hQ hH hb hn
theorem Thru.stay (h : Thru E Q D w w1 i j i0 j0 L vl V G R now) {x : Int} (hx : (E.A.map f ++ [0])[i]? = some x) (hy : (E.B.map f ++ [0])[j]? = some x) {e : Ending}
  (hp : GatherPost E w1 i j (L ++ flush (E.ahead + j0) ((E.A.drop i0).take (i - i0)) ((E.B.drop j0).take (j - j0)) []) vl G e w2) :
  (∃ v, e = .returned v) ∧ ((∃ L' vl' V' G', Thru E Q D w w2 (i + 1) (j + 1) (i + 1) (j + 1) L' vl' V' G' R now) ∨ (i = E.na ∧ Done E D w w2)) := by
 obtain ⟨he, vl', V', G', g2, f2, hG⟩ := hp
 have := hE.o3; have := hE.o4; have := hE.o5; have := hE.o6
 have F : Fr E.wr w w2 := h.fr.then (f2.mono (fun k e => by
  rcases e with e | e | e | e
  ·exact Or.inl e
  ·exact Or.inr (Or.inl e)
  ·exact Or.inr (Or.inr (Or.inl e))
  ·exact Or.inr (Or.inr (Or.inr (ownH_lt h.ga.own e).1))))
 refine ⟨he, ?_⟩
 rcases h.wk.stay hn hx hy with hw | ⟨e1, e2⟩
 ·refine Or.inl ⟨_, vl', V', G', hw, g2, ?_, fun k hk hf => ?_, h.go.fr hQ f2 (fun k hf e => ?_), F⟩
  ·rw [List.length_append]
   have : (flush (E.ahead + j0) ((E.A.drop i0).take (i - i0)) ((E.B.drop j0).take (j - j0)) []).length ≤ 1 := by unfold flush; split <;> simp
   have := h.ll
   omega
  ·rcases hG k hk with e | e
   ·exact h.ap k e hf
   ·have := (h.go.ft hb hf).2; omega
  ·have h1 := (h.go.ft hb hf).1
   rcases e with e | e | e | e
   ·omega
   ·omega
   ·omega
   ·exact h.ap k (h.ga.gl k e) hf
 ·exact Or.inr ⟨by rw [e1, hE.lA], ⟨_, _, vl', V', G', e2 ▸ g2⟩, F⟩
omit hQ hn in
theorem Thru.moved (h : Thru E Q D w w1 i j i0 j0 L vl V G R now) {R' : Nat → Value} {now' : Int} (g2 : Yo Q w2 R' now') (f2 : Fr (Q.foot R) w1 w2) (hf : ∀ k, Q.foot R' k → Q.foot R k ∨ w1.heap.size ≤ k) {i' j' : Nat} (hi : i ≤ i') (hw : Walk E.ahead E.A E.B D i' j' i0 j0 L) :
  Thru E Q D w w2 i' j' i0 j0 L vl V G R' now' := by
 refine ⟨hw, h.ga.fr hE f2 (fun k e => ⟨by rw [← hH]; exact (h.go.ft hb e).1, fun hG => h.ap k hG e⟩), Nat.le_trans h.ll hi, fun k hG e => ?_, g2, h.fr.then (f2.mono (fun k e => Or.inr (Or.inr (Or.inr (by rw [← hH]; exact (h.go.ft hb e).1)))))⟩
 rcases hf k e with e | e
 ·exact h.ap k hG e
 ·have := (h.ga.gH k hG).2; omega
omit hb hn hH in
theorem Thru.kept (h : Thru E Q D w w1 i j i0 j0 L vl V G R now) (k : Fr None' w1 w2) : Thru E Q D w w2 i j i0 j0 L vl V G R now := ⟨h.wk, h.ga.fr hE k (fun _ e => e.elim), h.ll, h.ap, h.go.fr hQ k (fun _ _ e => e), h.fr.then (k.mono (fun _ e => e.elim))⟩
end
theorem thru_cells {Q : GE} {w : World} {R : Nat → Value} {now : Int} (h : Yo Q w R now) {i j : Nat} (hi : i < Q.A.length) (hj : j < Q.B.length) : ∃ g o, Q.vb = some ⟨g, o, none⟩ ∧ w.cell? ⟨Q.ga, Q.oa + i, none⟩ = some (.int .i64 Q.A[i]) ∧ w.cell? ⟨g, o + j, none⟩ = some (.int .i64 Q.B[j]) := by
 obtain ⟨g1, o1, e1, c1⟩ := h.rA.get (k := i) (by rw [Z9]; exact hi)
 obtain ⟨g2, o2, e2, c2⟩ := h.rB.get (k := j) (by rw [Z9]; exact hj)
 cases e1
 refine ⟨g2, o2, e2, ?_, ?_⟩
 ·rw [c1]; simp [ints]
 ·rw [c2]; simp [ints]
theorem goThrough_any (E : GB) (hE : E.Fit) (f : ByteArray → Int) (hn : Nums f E.A E.B) (ga oa N m ca cb : Nat) (vb : Option Addr) (w : World) (hN : E.na + 1 = N) (hm : E.nb + 1 = m) (hN9 : N ≤ 4020) (hm9 : m ≤ 4020) (hca : N ≤ ca) (hA : RowV w (some ⟨ga, oa, none⟩) (ints (E.A.map f ++ [0]))) (hB : RowV w vb (ints (E.B.map f ++ [0]))) (hga : E.H1 ≤ ga) (hvb : ∀ x, vb = some x → E.H1 ≤ x.block)
  (h0 : GAt E w 0 0 [] (.slice none 0 0) [] (fun _ => False)) :
  Calls Tryz.prog 99 #[.slice (some ⟨ga, oa, none⟩) N ca, .slice vb m cb, .func (.func 96) #[] #[.pointer (some ⟨E.pi, 0, none⟩), .pointer (some ⟨E.pj, 0, none⟩), .pointer (some ⟨E.pl, 0, none⟩), .pointer (some ⟨E.ph, 0, none⟩), .pointer (some ⟨E.pa, 0, none⟩), .pointer (some ⟨E.pb, 0, none⟩)]] w fun e w' => (∃ v, e = .returned v) ∧ Done E (hunks E.ahead [] [] E.A E.B) w w' := by
 have cR := reckon_any E.H1 ga oa ca cb N m vb _ _ w hA (by simp [hE.lA, hN]) (by omega) hN9 hca hB (by simp [hE.lB, hm]) (by omega) hm9 hga hvb h0.top
 have HG0 : Hid (GAt E w 0 0 [] (.slice none 0 0) [] (fun _ => False)) := h0
 have k1 : (N : Int) ≤ 4020 := by omega
 have k2 : (m : Int) ≤ 4020 := by omega
 clear hA hB h0
 go_enter Tryz.func99, Tryz.ntmps99
 go_wp2_with fail
 refine cR.mono ?_
 rintro e w1 ⟨Q, R0, rfl, hQ, qA, qB, qH, qga, qoa, qvb, qm, g0, F0, hf0⟩
 have hb : Q.H1 ≤ Q.base := by have := hQ.low Q.pn (by simp); omega
 have HT0 : Hid (Thru E Q (hunks E.ahead [] [] E.A E.B) w w1 0 0 0 0 [] (.slice none 0 0) [] (fun _ => False) R0 (-1)) := ⟨Walk.start _ _ _, HG0.out.fr hE F0 (fun k e => e.elim), Nat.le_refl _, fun k e => e.elim, g0, F0.mono (fun k e => e.elim)⟩
 clear cR g0 F0 HG0 hf0
 go_wp2_with fail
 go_loopw [7, 8] (fun vi vj wr => (∃ (i j i0 j0 : Nat) (L : List (Hk ByteArray)) (vl : Value) (V : List (Value × Value)) (G : Nat → Prop) (R : Nat → Value) (now : Int), vi = .int .i64 i ∧ vj = .int .i64 j ∧ Hid (Thru E Q (hunks E.ahead [] [] E.A E.B) w wr i j i0 j0 L vl V G R now)) ∨ (∃ j : Nat, vi = .int .i64 N ∧ vj = .int .i64 j ∧ Hid (Done E (hunks E.ahead [] [] E.A E.B) w wr))) (fun vi vj _ => N + m - (intOf vi).toNat - (intOf vj).toNat)
 case atStart => exact Or.inl ⟨0, 0, 0, 0, _, _, _, _, _, _, rfl, rfl, HT0.out⟩
 case round =>
  clear HT0
  rcases hrel with ⟨i, j, i0, j0, L, vl, V, G, R, now, rfl, rfl, HT⟩ | ⟨j, rfl, rfl, HD⟩
  ·have hi := HT.out.wk.li
   have hj := HT.out.wk.lj
   rw [hE.lA] at hi
   rw [hE.lB] at hj
   have hia : i < Q.A.length := by rw [qA]; simp [hE.lA]; omega
   have hjb : j < Q.B.length := by rw [qB]; simp [hE.lB]; omega
   obtain ⟨gB, oB, evb, cx, cy⟩ := thru_cells HT.out.go hia hjb
   obtain ⟨x, hx⟩ : ∃ x, Q.A[i] = x := ⟨_, rfl⟩
   obtain ⟨y, hy⟩ : ∃ y, Q.B[j] = y := ⟨_, rfl⟩
   have HX : Hid ((E.A.map f ++ [0])[i]? = some x) := by
    show _ = _
    rw [← hx, ← qA]; exact List.getElem?_eq_getElem hia
   have HY : Hid ((E.B.map f ++ [0])[j]? = some y) := by
    show _ = _
    rw [← hy, ← qB]; exact List.getElem?_eq_getElem hjb
   rw [hx, qga, qoa] at cx
   rw [hy] at cy
   rw [qvb] at evb
   clear hx hy
   have i1 : (i : Int) < (N : Int) := by omega
   have i2 : (j : Int) < (m : Int) := by omega
   have i3 : (0 : Int) ≤ (i : Int) := by omega
   have i4 : (0 : Int) ≤ (j : Int) := by omega
   have hL9 : L.length ≤ 8200 := by have := HT.out.ll; omega
   by_cases hxy : x = y
   ·subst hxy
    subst evb
    go_wp2_with fail
    go_quiet (fail)
    go_wp2_with fail
    refine (gather_any E hE _ i0 j0 i j L vl V G (HT.out.kept hE hQ (Fr.drewN None' wr _)).ga HT.out.wk.gi hi HT.out.wk.gj hj hL9).mono ?_
    intro e w2 hp
    obtain ⟨⟨v, rfl⟩, hr⟩ := (HT.out.kept hE hQ (Fr.drewN None' wr _)).stay hE hQ qH hb hn HX.out HY.out hp
    clear hp
    go_wp2_with fail
    rcases hr with ⟨L', vl', V', G', T'⟩ | ⟨e1, hd⟩
    ·exact ⟨Or.inl ⟨i + 1, j + 1, i + 1, j + 1, L', vl', V', G', R, now, by go_num, by go_num, T'⟩, by simp [intOf]; omega⟩
    ·subst e1
     exact ⟨Or.inr ⟨j + 1, by go_num, by go_num, hd⟩, by simp [intOf]; omega⟩
   ·subst evb
    have q1 : decide (x = y) = false := by simp [hxy]
    go_wp2_with fail
    go_quiet (fail)
    go_wp2_with fail
    refine (goes_any Q hQ _ R now i j (HT.out.kept hE hQ (Fr.drewN None' wr _)).go hia (by rw [qm]; omega)).mono ?_
    rintro e w2 ⟨rfl, R', now', g2, f2, hf⟩
    rw [qA, qB]
    cases hk : kgeq (kept ((E.A.map f ++ [0]).drop (i + 1)) ((E.B.map f ++ [0]).drop j)) (kept ((E.A.map f ++ [0]).drop i) ((E.B.map f ++ [0]).drop (j + 1))) with
    | true =>
     have T' := (HT.out.kept hE hQ (Fr.drewN None' wr _)).moved hE qH hb g2 f2 hf (Nat.le_succ i) (HT.out.wk.goes hn HX.out HY.out hxy hk)
     clear hk g2 f2 hf
     go_wp2_with fail
     exact ⟨Or.inl ⟨i + 1, j, i0, j0, L, vl, V, G, R', now', by go_num, rfl, T'⟩, by simp [intOf]; omega⟩
    | false =>
     have T' := (HT.out.kept hE hQ (Fr.drewN None' wr _)).moved hE qH hb g2 f2 hf (Nat.le_refl i) (HT.out.wk.comes hn HX.out HY.out hxy hk)
     clear hk g2 f2 hf
     go_wp2_with fail
     exact ⟨Or.inl ⟨i, j + 1, i0, j0, L, vl, V, G, R', now', rfl, by go_num, T'⟩, by simp [intOf]; omega⟩
  ·go_wp2_with fail
   exact ⟨rfl, _, results_none rfl _ _ _, ⟨_, rfl⟩, HD.out⟩
theorem ex_rest {P : Program} {a : Act} {o : Oper} {w : World} (t : TypeId) (x lo : Operand) {vx vl v : Value} (ho : o.op = .slice t x (some lo) none none) (hx : a.eval x = vx) (hl : a.eval lo = vl) (h : (Instr.sliceAt t vx (some vl) none none).run P w = .ok v w) : (execOp a.eval o).run P w = .ok (.value v) w := by
 unfold execOp
 simp only [ho, Sem.run_bind, Option.map_some, Option.map_none, hx, hl, h, Sem.run_pure, Result.andThen_ok]
theorem region_cut {P : Program} {id : Nat} {ops : Array Oper} {Q : Exit → Act → World → Prop} {S : World → Prop} {a : Act} {w : World} (A : Act) (W : World) (hm : P.follows .mixedOrders = true) (hS : S w.drew)
  (h : S w.drew → wpAnyH P .any ops (OnlyN (fun a' w' => a' = A ∧ w' = W)) S ops.size (Array.replicate ops.size false) a w.drew) (hn : Q .normal A W) : (Code.region id ops true).wp P Q a w := by
 refine wp_mono (Q := OnlyN (fun a' w' => a' = A ∧ w' = W)) (wp_region_held hm (h hS)) ?_
 intro e a' w' he
 cases e <;> first | exact he.elim | (obtain ⟨rfl, rfl⟩ := he; exact hn)
theorem frozen_new {w : World} {n : Nat} (hn : w.heap.size = n) (e : TypeId) (x : Value) : (w.alloc (.cells #[x] e)).frozen? ⟨n, 0, none⟩ = false := by
 subst hn
 simp
theorem setIf_id {c : Array Value} {v : Value} (h : c[0]? = some v) : c.setIfInBounds 0 v = c := by
 apply Array.ext_getElem?
 intro i
 rw [Array.getElem?_setIfInBounds]
 split
 ·rename_i e
  subst e
  split
  ·exact h.symm
  ·rename_i hn
   rw [Array.getElem?_eq_none (by omega)] at h
   cases h
 ·rfl
theorem setCell_id {w : World} {b : Nat} {v : Value} (h : w.cell? ⟨b, 0, none⟩ = some v) : w.setCell ⟨b, 0, none⟩ v = w := by
 unfold World.cell? at h
 have hh : w.heap.modify b (fun
   | .cells c elem frozen => .cells (if (none : Option Nat).isSome then c else c.setIfInBounds 0 v) elem frozen
   | o => o) = w.heap := by
  apply Array.ext_getElem?
  intro i
  rw [Array.getElem?_modify]
  split
  ·rename_i e
   subst e
   split at h
   ·rename_i c t f hc
    simp only at hc h
    rw [hc]
    simp only [Option.map_some, Option.isSome_none, Bool.false_eq_true, if_false]
    rw [setIf_id (by simpa using h)]
   ·cases h
  ·rfl
 exact congrArg (fun h => { w with heap := h }) hh
theorem GAt.hunks {E : GB} {w : World} {i j : Nat} {L : List (Hk ByteArray)} {vl : Value} {V : List (Value × Value)} {G : Nat → Prop} (h : GAt E w i j L vl V G) : HunksAt w vl L := by
 have hl := h.own.1
 rcases h.own.2 with ⟨hv, h0⟩ | ⟨g, cap, cur, hv, _, hh, hc, _, hs, ht⟩
 ·refine ⟨none, 0, by rw [hv, h0], fun _ => rfl, fun k x hk => ?_⟩
  have := (List.getElem?_eq_some_iff.1 hk).1
  omega
 ·refine ⟨_, cap, hv, (fun e => by cases e), fun k x hk => ?_⟩
  have hkl := (List.getElem?_eq_some_iff.1 hk).1
  have hkv : k < V.length := by rw [h.len]; exact hkl
  obtain ⟨s1, s2, _⟩ := h.st k x V[k] hk (List.getElem?_eq_getElem hkv)
  obtain ⟨a1, a2, a3⟩ := hcells_get L V k x V[k] hk (List.getElem?_eq_getElem hkv)
  have cell : ∀ m u, (hcells L V)[m]? = some u → w.cell? ⟨g, m, none⟩ = some u := fun m u hm => by
   have hlt := (List.getElem?_eq_some_iff.1 hm).1
   rw [← ht, List.getElem?_take_of_lt (by omega)] at hm
   unfold World.cell?
   simp only [hh]
   rw [← Array.getElem?_toList]
   simpa using hm
  exact ⟨g, 0, V[k].1, V[k].2, rfl, by rw [Nat.zero_add]; exact cell _ _ a1, by rw [Nat.zero_add]; exact cell _ _ a2, by rw [Nat.zero_add]; exact cell _ _ a3, s1, s2⟩
def HunksN (base : Nat) (w : World) (v : Value) (L : List (Hk ByteArray)) : Prop := ∃ va c, v = .slice va L.length c ∧ (va = none → c = 0) ∧ ∀ k h, L[k]? = some h → ∃ g o vo vn, va = some ⟨g, o, none⟩ ∧ w.cell? ⟨g, o + k * 3, none⟩ = some (.int .i64 (h.at' : Int)) ∧ w.cell? ⟨g, o + k * 3 + 1, none⟩ = some vo ∧ w.cell? ⟨g, o + k * 3 + 2, none⟩ = some vn ∧ StrAt w vo h.o ∧ StrAt w vn h.n ∧ ∀ b, Zr vo b ∨ Zr vn b → base ≤ b
theorem HunksN.at {base : Nat} {w : World} {v : Value} {L : List (Hk ByteArray)} (h : HunksN base w v L) : HunksAt w v L := by
 obtain ⟨va, c, h1, h2, h3⟩ := h
 refine ⟨va, c, h1, h2, fun k x hk => ?_⟩
 obtain ⟨g, o, vo, vn, e, c1, c2, c3, s1, s2, _⟩ := h3 k x hk
 exact ⟨g, o, vo, vn, e, c1, c2, c3, s1, s2⟩
theorem GAt.hunksN {E : GB} {w : World} {i j : Nat} {L : List (Hk ByteArray)} {vl : Value} {V : List (Value × Value)} {G : Nat → Prop} (h : GAt E w i j L vl V G) {base : Nat} (hb : base ≤ E.H1) : HunksN base w vl L := by
 have hl := h.own.1
 rcases h.own.2 with ⟨hv, h0⟩ | ⟨g, cap, cur, hv, _, hh, hc, _, hs, ht⟩
 ·refine ⟨none, 0, by rw [hv, h0], fun _ => rfl, fun k x hk => ?_⟩
  have := (List.getElem?_eq_some_iff.1 hk).1
  omega
 ·refine ⟨_, cap, hv, (fun e => by cases e), fun k x hk => ?_⟩
  have hkl := (List.getElem?_eq_some_iff.1 hk).1
  have hkv : k < V.length := by rw [h.len]; exact hkl
  obtain ⟨s1, s2, s3⟩ := h.st k x V[k] hk (List.getElem?_eq_getElem hkv)
  obtain ⟨a1, a2, a3⟩ := hcells_get L V k x V[k] hk (List.getElem?_eq_getElem hkv)
  have cell : ∀ m u, (hcells L V)[m]? = some u → w.cell? ⟨g, m, none⟩ = some u := fun m u hm => by
   have hlt := (List.getElem?_eq_some_iff.1 hm).1
   rw [← ht, List.getElem?_take_of_lt (by omega)] at hm
   unfold World.cell?
   simp only [hh]
   rw [← Array.getElem?_toList]
   simpa using hm
  exact ⟨g, 0, V[k].1, V[k].2, rfl, by rw [Nat.zero_add]; exact cell _ _ a1, by rw [Nat.zero_add]; exact cell _ _ a2, by rw [Nat.zero_add]; exact cell _ _ a3, s1, s2, fun b hb2 => Nat.le_trans hb (h.gH b (s3 b hb2).1).1⟩
theorem own_some {base m : Nat} {w : World} {e : TypeId} {v : Value} {vs : List Value} (h : OwnV base w e v vs) (hl : vs.length = m + 1) : ∃ g c, v = .slice (some ⟨g, 0, none⟩) (m + 1) c ∧ m + 1 ≤ c ∧ base ≤ g ∧ RowV w (some ⟨g, 0, none⟩) vs := by
 obtain ⟨va, c, hv, h1, h2, h3, h4⟩ := h.slice
 rw [hl] at hv h1
 cases va with
 | none => have := h2 rfl; omega
 | some ad =>
  obtain ⟨g, o, sp⟩ := ad
  obtain ⟨e1, e2, e3, e4⟩ := h4 _ rfl
  simp only at e1 e2 e3
  subst e2 e3
  exact ⟨g, c, hv, h1, e1, h3⟩
theorem diff_far (va vb : Option Addr) (ca cb na nb : Nat) (a b : List ByteArray) (w : World) (hna : a.length = na) (hnb : b.length = nb) (ha : Row w va a) (hb : Row w vb b) (na9 : na ≤ 4010) (nb9 : nb ≤ 4010) (cA : na ≤ ca) (cB : nb ≤ cb) (vA : va = none → ca = 0) (vB : vb = none → cb = 0) (hza : ∀ s ∈ a, s.size ≤ maxLen) (hzb : ∀ s ∈ b, s.size ≤ maxLen) (hoa : a ≠ [] → ∀ x, va = some x → x.block < w.heap.size) (hob : b ≠ [] → ∀ x, vb = some x → x.block < w.heap.size) :
  Calls Tryz.prog 68 #[.slice va na ca, .slice vb nb cb] w fun e w' => ∃ v, e = .returned v ∧ HunksN w.heap.size w' v (diffs a b) ∧ Fr None' w w' := by
 obtain ⟨w1, hw1⟩ : ∃ w1, (w.alloc (.cells #[.slice va na ca] 41)).alloc (.cells #[.slice vb nb cb] 41) = w1 := ⟨_, rfl⟩
 have F1 : Fr None' w w1 := hw1 ▸ (Fr.alloc None' w _).then (Fr.alloc None' _ _)
 have hs1 : w1.heap.size = w.heap.size + 2 := by rw [← hw1]; simp
 have ba1 : w1.cell? ⟨w.heap.size, 0, none⟩ = some (.slice va na ca) := by rw [← hw1]; simp
 have bb1 : w1.cell? ⟨w.heap.size + 1, 0, none⟩ = some (.slice vb nb cb) := by rw [← hw1]; simp
 have za1 : w1.frozen? ⟨w.heap.size, 0, none⟩ = false := by rw [← hw1]; simp
 have zb1 : w1.frozen? ⟨w.heap.size + 1, 0, none⟩ = false := by rw [← hw1]; simp
 have c1 := alike_any va vb ca cb a b w1 (ha.fr F1) (hb.fr F1) (by omega) (by omega)
 rw [hna, hnb] at c1
 have k1 : (na : Int) ≤ 4010 := by omega
 have k2 : (nb : Int) ≤ 4010 := by omega
 go_enter Tryz.func68, Tryz.ntmps68
 go_wp2_with fail
 refine c1.mono ?_
 rintro e w2 ⟨n, rfl, hn1, hn2, htk, F2⟩
 obtain ⟨va1, c1', slA, rowA, nA1, lcA, blA⟩ := rest_ex ha hna hn1 cA vA
 obtain ⟨vb1, d1', slB, rowB, nB1, lcB, blB⟩ := rest_ex hb hnb hn2 cB vB
 go_wp2_with fail
 have hs2 := F2.size
 have ba2 := F2.cell ba1 (fun e => e)
 have bb2 := F2.cell bb1 (fun e => e)
 have za2 : w2.frozen? ⟨w.heap.size, 0, none⟩ = false := (Zs (F2.block _ (Zq ba1) (fun e => e))).trans za1
 have zb2 : w2.frozen? ⟨w.heap.size + 1, 0, none⟩ = false := (Zs (F2.block _ (Zq bb1) (fun e => e))).trans zb1
 obtain ⟨w3, hw3⟩ : ∃ w3, w2.alloc (.cells #[.int .i64 (n : Int)] 3) = w3 := ⟨_, rfl⟩
 have F3 : Fr None' w2 w3 := hw3 ▸ Fr.alloc None' w2 _
 have hs3 : w3.heap.size = w2.heap.size + 1 := by rw [← hw3]; simp
 have bh3 : w3.cell? ⟨w2.heap.size, 0, none⟩ = some (.int .i64 n) := hw3 ▸ cell_new1 w2 3 _
 have ba3 := F3.cell ba2 (fun e => e)
 have bb3 := F3.cell bb2 (fun e => e)
 have za3 : w3.frozen? ⟨w.heap.size, 0, none⟩ = false := (Zs (F3.block _ (Zq ba2) (fun e => e))).trans za2
 have zb3 : w3.frozen? ⟨w.heap.size + 1, 0, none⟩ = false := (Zs (F3.block _ (Zq bb2) (fun e => e))).trans zb2
 rw [hw3]
 have h6 : (w3.drew.setCell ⟨w.heap.size, 0, none⟩ (.slice va1 (na - n) c1')).cell? ⟨w2.heap.size, 0, none⟩ = some (.int .i64 n) := (World.cell?_setCell_far _ _ _ _ (by show w.heap.size ≠ w2.heap.size; omega)).trans bh3
 have b6 : (w3.drew.setCell ⟨w.heap.size, 0, none⟩ (.slice va1 (na - n) c1')).cell? ⟨w.heap.size + 1, 0, none⟩ = some (.slice vb nb cb) := (World.cell?_setCell_far _ _ _ _ (by show w.heap.size ≠ w.heap.size + 1; omega)).trans bb3
 have h7 : ((w3.drew.setCell ⟨w.heap.size, 0, none⟩ (.slice va1 (na - n) c1')).setCell ⟨w.heap.size + 1, 0, none⟩ (.slice vb1 (nb - n) d1')).cell? ⟨w2.heap.size, 0, none⟩ = some (.int .i64 n) := (World.cell?_setCell_far _ _ _ _ (by show w.heap.size + 1 ≠ w2.heap.size; omega)).trans h6
 refine region_cut (S := (fun v => v.cell? ⟨w2.heap.size, 0, none⟩ = some (.int .i64 n))) { tmps := #[.slice va na ca, .slice vb nb cb, .pointer (some ⟨w.heap.size, 0, none⟩), .pointer (some ⟨w.heap.size + 1, 0, none⟩), .slice none 0 0, .pointer (some ⟨w2.heap.size, 0, none⟩), undef, undef, undef, undef, undef, undef, .slice va na ca, .slice vb nb cb, .int .i64 n, .slice va na ca, .int .i64 n, .slice va1 (na - n) c1', .slice vb nb cb, .int .i64 n, .slice vb1 (nb - n) d1', undef, undef, undef, undef, undef, undef, undef, undef, undef, undef, undef, undef], defers := [] } ((w3.drew.setCell ⟨w.heap.size, 0, none⟩ (.slice va1 (na - n) c1')).setCell ⟨w.heap.size + 1, 0, none⟩ (.slice vb1 (nb - n) d1')) (by kernel_rfl) bh3 (fun hHeld => ?reg) ?rest
 case reg =>
  clear c1 ha hb hza hzb rowA rowB blA blB htk
  refine wpAnyH_take (i := 1) (oi := _) (v := ?_) rfl (by decide +kernel) (by decide +kernel) (by decide +kernel) (fun _ _ _ h => h) (Or.inl ⟨by rfl, ?_⟩) hHeld ?_
  rotate_left
  ·intro wq hSw
   first
    | (go_simp; done)
    | (go_simp; with_reducible rfl)
  try simp only [Act.put, List.getElem_toArray, List.getElem_cons_zero, List.getElem_cons_succ, List.setIfInBounds_toArray, List.set_cons_zero, List.set_cons_succ]
  refine wpAnyH_take (i := 4) (oi := _) (v := ?_) rfl (by decide +kernel) (by decide +kernel) (by decide +kernel) (fun _ _ _ h => h) (Or.inl ⟨by rfl, ?_⟩) hHeld ?_
  rotate_left
  ·intro wq hSw
   first
    | (go_simp; done)
    | (go_simp; with_reducible rfl)
  try simp only [Act.put, List.getElem_toArray, List.getElem_cons_zero, List.getElem_cons_succ, List.setIfInBounds_toArray, List.set_cons_zero, List.set_cons_succ]
  refine wpAnyH_ready (rs := [0, 3]) (by decide +kernel) (by simp) ?_
  refine AllReadyH.cons rfl (fun K hK => ?_) (AllReadyH.cons rfl (fun K hK => ?_) AllReadyH.nil)
  ·go_simp
   refine hK.out _ _ hHeld (fun hHeld => ?_)
   clear hK K
   try simp only [Act.put, List.getElem_toArray, List.getElem_cons_zero, List.getElem_cons_succ, List.setIfInBounds_toArray, List.set_cons_zero, List.set_cons_succ]
   refine wpAnyH_take (i := 2) (oi := _) (v := .slice va1 (na - n) c1') rfl (by decide +kernel) (by decide +kernel) (by decide +kernel) (fun _ _ _ h => h) (Or.inl ⟨by rfl, ?_⟩) hHeld ?_
   ·intro wq hSw
    exact ex_rest _ _ _ rfl rfl rfl (slA wq)
   try simp only [Act.put, List.getElem_toArray, List.getElem_cons_zero, List.getElem_cons_succ, List.setIfInBounds_toArray, List.set_cons_zero, List.set_cons_succ]
   refine wpAnyH_ready (rs := [3, 6]) (by decide +kernel) (by simp) ?_
   refine AllReadyH.cons rfl (fun K hK => ?_) (AllReadyH.cons rfl (fun K hK => ?_) AllReadyH.nil)
   ·go_simp
    refine hK.out _ _ hHeld (fun hHeld => ?_)
    clear hK K
    try simp only [Act.put, List.getElem_toArray, List.getElem_cons_zero, List.getElem_cons_succ, List.setIfInBounds_toArray, List.set_cons_zero, List.set_cons_succ]
    refine wpAnyH_take (i := 5) (oi := _) (v := .slice vb1 (nb - n) d1') rfl (by decide +kernel) (by decide +kernel) (by decide +kernel) (fun _ _ _ h => h) (Or.inl ⟨by rfl, ?_⟩) hHeld ?_
    ·intro wq hSw
     exact ex_rest _ _ _ rfl rfl rfl (slB wq)
    try simp only [Act.put, List.getElem_toArray, List.getElem_cons_zero, List.getElem_cons_succ, List.setIfInBounds_toArray, List.set_cons_zero, List.set_cons_succ]
    refine wpAnyH_ready (rs := [6]) (by decide +kernel) (by simp) ?_
    refine AllReadyH.cons rfl (fun K hK => ?_) AllReadyH.nil
    go_simp
    refine hK.out _ _ h6 (fun hHeld => ?_)
    clear hK K
    try simp only [Act.put, List.getElem_toArray, List.getElem_cons_zero, List.getElem_cons_succ, List.setIfInBounds_toArray, List.set_cons_zero, List.set_cons_succ]
    refine wpAnyH_ready (rs := [7]) (by decide +kernel) (by simp) ?_
    refine AllReadyH.cons rfl (fun K hK => ?_) AllReadyH.nil
    go_simp
    refine hK.out _ _ h7 (fun hHeld => ?_)
    clear hK K
    try simp only [Act.put, List.getElem_toArray, List.getElem_cons_zero, List.getElem_cons_succ, List.setIfInBounds_toArray, List.set_cons_zero, List.set_cons_succ]
    refine wpAnyH_done (by decide +kernel) (onlyN ?_) _
    exact ⟨rfl, rfl⟩
   ·go_simp
    refine hK.out _ _ h6 (fun hHeld => ?_)
    clear hK K
    try simp only [Act.put, List.getElem_toArray, List.getElem_cons_zero, List.getElem_cons_succ, List.setIfInBounds_toArray, List.set_cons_zero, List.set_cons_succ]
    refine wpAnyH_ready (rs := [3]) (by decide +kernel) (by simp) ?_
    refine AllReadyH.cons rfl (fun K hK => ?_) AllReadyH.nil
    go_simp
    refine hK.out _ _ hHeld (fun hHeld => ?_)
    clear hK K
    try simp only [Act.put, List.getElem_toArray, List.getElem_cons_zero, List.getElem_cons_succ, List.setIfInBounds_toArray, List.set_cons_zero, List.set_cons_succ]
    refine wpAnyH_take (i := 5) (oi := _) (v := .slice vb1 (nb - n) d1') rfl (by decide +kernel) (by decide +kernel) (by decide +kernel) (fun _ _ _ h => h) (Or.inl ⟨by rfl, ?_⟩) hHeld ?_
    ·intro wq hSw
     exact ex_rest _ _ _ rfl rfl rfl (slB wq)
    try simp only [Act.put, List.getElem_toArray, List.getElem_cons_zero, List.getElem_cons_succ, List.setIfInBounds_toArray, List.set_cons_zero, List.set_cons_succ]
    refine wpAnyH_ready (rs := [7]) (by decide +kernel) (by simp) ?_
    refine AllReadyH.cons rfl (fun K hK => ?_) AllReadyH.nil
    go_simp
    refine hK.out _ _ h7 (fun hHeld => ?_)
    clear hK K
    try simp only [Act.put, List.getElem_toArray, List.getElem_cons_zero, List.getElem_cons_succ, List.setIfInBounds_toArray, List.set_cons_zero, List.set_cons_succ]
    refine wpAnyH_done (by decide +kernel) (onlyN ?_) _
    exact ⟨rfl, rfl⟩
  ·go_simp
   refine hK.out _ _ hHeld (fun hHeld => ?_)
   clear hK K
   try simp only [Act.put, List.getElem_toArray, List.getElem_cons_zero, List.getElem_cons_succ, List.setIfInBounds_toArray, List.set_cons_zero, List.set_cons_succ]
   refine wpAnyH_take (i := 5) (oi := _) (v := .slice vb1 (nb - n) d1') rfl (by decide +kernel) (by decide +kernel) (by decide +kernel) (fun _ _ _ h => h) (Or.inl ⟨by rfl, ?_⟩) hHeld ?_
   ·intro wq hSw
    exact ex_rest _ _ _ rfl rfl rfl (slB wq)
   try simp only [Act.put, List.getElem_toArray, List.getElem_cons_zero, List.getElem_cons_succ, List.setIfInBounds_toArray, List.set_cons_zero, List.set_cons_succ]
   refine wpAnyH_ready (rs := [0]) (by decide +kernel) (by simp) ?_
   refine AllReadyH.cons rfl (fun K hK => ?_) AllReadyH.nil
   go_simp
   refine hK.out _ _ hHeld (fun hHeld => ?_)
   clear hK K
   try simp only [Act.put, List.getElem_toArray, List.getElem_cons_zero, List.getElem_cons_succ, List.setIfInBounds_toArray, List.set_cons_zero, List.set_cons_succ]
   refine wpAnyH_take (i := 2) (oi := _) (v := .slice va1 (na - n) c1') rfl (by decide +kernel) (by decide +kernel) (by decide +kernel) (fun _ _ _ h => h) (Or.inl ⟨by rfl, ?_⟩) hHeld ?_
   ·intro wq hSw
    exact ex_rest _ _ _ rfl rfl rfl (slA wq)
   try simp only [Act.put, List.getElem_toArray, List.getElem_cons_zero, List.getElem_cons_succ, List.setIfInBounds_toArray, List.set_cons_zero, List.set_cons_succ]
   refine wpAnyH_ready (rs := [6]) (by decide +kernel) (by simp) ?_
   refine AllReadyH.cons rfl (fun K hK => ?_) AllReadyH.nil
   go_simp
   refine hK.out _ _ h6 (fun hHeld => ?_)
   clear hK K
   try simp only [Act.put, List.getElem_toArray, List.getElem_cons_zero, List.getElem_cons_succ, List.setIfInBounds_toArray, List.set_cons_zero, List.set_cons_succ]
   refine wpAnyH_ready (rs := [7]) (by decide +kernel) (by simp) ?_
   refine AllReadyH.cons rfl (fun K hK => ?_) AllReadyH.nil
   go_simp
   refine hK.out _ _ h7 (fun hHeld => ?_)
   clear hK K
   try simp only [Act.put, List.getElem_toArray, List.getElem_cons_zero, List.getElem_cons_succ, List.setIfInBounds_toArray, List.set_cons_zero, List.set_cons_succ]
   refine wpAnyH_done (by decide +kernel) (onlyN ?_) _
   exact ⟨rfl, rfl⟩
 case rest =>
  dsimp only
  have F4 : Fr (fun k => k = w.heap.size ∨ k = w.heap.size + 1) w3 ((w3.drew.setCell ⟨w.heap.size, 0, none⟩ (.slice va1 (na - n) c1')).setCell ⟨w.heap.size + 1, 0, none⟩ (.slice vb1 (nb - n) d1')) := ((fr_drew _ w3).then (Fr.setCell (M := fun k => k = w.heap.size ∨ k = w.heap.size + 1) w3.drew (a := ⟨w.heap.size, 0, none⟩) (Or.inl rfl) _)).then (Fr.setCell (M := fun k => k = w.heap.size ∨ k = w.heap.size + 1) _ (a := ⟨w.heap.size + 1, 0, none⟩) (Or.inr rfl) _)
  have hs4 : ((w3.drew.setCell ⟨w.heap.size, 0, none⟩ (.slice va1 (na - n) c1')).setCell ⟨w.heap.size + 1, 0, none⟩ (.slice vb1 (nb - n) d1')).heap.size = w3.heap.size := by simp [World.setCell]
  have ba4 : ((w3.drew.setCell ⟨w.heap.size, 0, none⟩ (.slice va1 (na - n) c1')).setCell ⟨w.heap.size + 1, 0, none⟩ (.slice vb1 (nb - n) d1')).cell? ⟨w.heap.size, 0, none⟩ = some (.slice va1 (na - n) c1') := (World.cell?_setCell_far _ _ _ _ (by show w.heap.size + 1 ≠ w.heap.size; omega)).trans (World.cell?_setCell_same' _ _ _ (by show (w3.cell? ⟨w.heap.size, 0, none⟩).isSome = true; rw [ba3]; rfl))
  have bb4 : ((w3.drew.setCell ⟨w.heap.size, 0, none⟩ (.slice va1 (na - n) c1')).setCell ⟨w.heap.size + 1, 0, none⟩ (.slice vb1 (nb - n) d1')).cell? ⟨w.heap.size + 1, 0, none⟩ = some (.slice vb1 (nb - n) d1') := World.cell?_setCell_same' _ _ _ (by rw [b6]; rfl)
  generalize (w3.drew.setCell ⟨w.heap.size, 0, none⟩ (.slice va1 (na - n) c1')).setCell ⟨w.heap.size + 1, 0, none⟩ (.slice vb1 (nb - n) d1') = w4 at *
  clear b6 h6 ba1 bb1 ba2 bb2 ba3 bb3 za1 zb1 za2 zb2 za3 zb3 hw1 hw3 slA slB c1
  have HS : Hid (w4.heap.size = w2.heap.size + 1 ∧ w1.heap.size = w.heap.size + 2 ∧ w1.heap.size ≤ w2.heap.size) := ⟨by omega, hs1, hs2⟩
  clear hs4 hs3 hs1 hs2
  obtain ⟨w5, hw5⟩ : ∃ w5, ((w4.alloc (.cells #[.slice none 0 0] 100)).alloc (.cells #[.int .i64 0] 3)).alloc (.cells #[.int .i64 0] 3) = w5 := ⟨_, rfl⟩
  have F5 : Fr None' w4 w5 := hw5 ▸ ((Fr.alloc None' w4 _).then (Fr.alloc None' _ _)).then (Fr.alloc None' _ _)
  have hs5 : w5.heap.size = w4.heap.size + 1 + 1 + 1 := by rw [← hw5]; simp
  have bl5 : w5.cell? ⟨w4.heap.size, 0, none⟩ = some (.slice none 0 0) := by
   rw [← hw5]
   exact ((Fr.alloc None' _ _).then (Fr.alloc None' _ _)).cell (cell_new1 w4 100 _) (fun e => e)
  have bi5 : w5.cell? ⟨w4.heap.size + 1, 0, none⟩ = some (.int .i64 0) := by
   rw [← hw5]
   exact (Fr.alloc None' _ _).cell (cell_new2 (by simp) 3 _) (fun e => e)
  have bj5 : w5.cell? ⟨w4.heap.size + 1 + 1, 0, none⟩ = some (.int .i64 0) := by
   rw [← hw5]
   exact cell_new2 (by simp) 3 _
  have zl5 : w5.frozen? ⟨w4.heap.size, 0, none⟩ = false := by
   rw [← hw5]
   exact (Zs (((Fr.alloc None' _ _).then (Fr.alloc None' _ _)).block _ (Zq (cell_new1 w4 100 _)) (fun e => e))).trans (frozen_new rfl 100 _)
  have zi5 : w5.frozen? ⟨w4.heap.size + 1, 0, none⟩ = false := by
   rw [← hw5]
   exact (Zs ((Fr.alloc None' _ _).block _ (Zq (cell_new2 (by simp) 3 (.int .i64 0))) (fun e => e))).trans (frozen_new (by simp) 3 _)
  have zj5 : w5.frozen? ⟨w4.heap.size + 1 + 1, 0, none⟩ = false := by
   rw [← hw5]
   exact frozen_new (by simp) 3 _
  have e1 := setCell_id bi5
  have e2 := setCell_id bj5
  have ba5 := F5.cell ba4 (fun e => e)
  have bb5 := F5.cell bb4 (fun e => e)
  have F04 : Fr None' w w4 := (F1.then (F2.then F3)).trans F4 (fun i e => Or.inr (by rcases e with e | e <;> omega))
  have F05 := F04.then F5
  have s1 := HS.out.1
  have s2 := HS.out.2.1
  have s3 := HS.out.2.2
  have lA : (a.drop n).length = na - n := by rw [List.length_drop, hna]
  have lB : (b.drop n).length = nb - n := by rw [List.length_drop, hnb]
  have HE : Hid (GB.Fit ⟨w.heap.size, w.heap.size + 1, w2.heap.size, w4.heap.size, w4.heap.size + 1, w4.heap.size + 1 + 1, w5.heap.size, n, na - n, nb - n, c1', d1', va1, vb1, a.drop n, b.drop n⟩) := by
   refine ⟨?_, ?_, ?_, ?_, ?_, ?_, lA, lB, ?_, ?_, ?_, lcA, lcB, nA1, nB1, fun hl x e => ?_, fun hl x e => ?_⟩
   any_goals (simp only; omega)
   ·obtain ⟨z, e1, e2⟩ := blA x e
    have := hoa (fun e0 => hl (show List.drop n a = [] by rw [e0, List.drop_nil])) z e1
    simp only; omega
   ·obtain ⟨z, e1, e2⟩ := blB x e
    have := hob (fun e0 => hl (show List.drop n b = [] by rw [e0, List.drop_nil])) z e1
    simp only; omega
  have HG : Hid (GAt ⟨w.heap.size, w.heap.size + 1, w2.heap.size, w4.heap.size, w4.heap.size + 1, w4.heap.size + 1 + 1, w5.heap.size, n, na - n, nb - n, c1', d1', va1, vb1, a.drop n, b.drop n⟩ w5 0 0 [] (.slice none 0 0) [] (fun _ => False)) :=
   ⟨ba5, bb5, F5.cell h7 (fun e => e), bl5, bi5, bj5, zl5, zi5, zj5, rowA.fr F05, rowB.fr F05, World.ownsRow_nil w5 _ _ 3, rfl, (fun k e => by cases e), (fun k h p e => by simp at e), (fun k e => e.elim), Nat.le_refl _⟩
  have cN := numbered_any va1 vb1 c1' d1' (a.drop n) (b.drop n) w5 (rowA.fr F05) (rowB.fr F05) (by omega) (by omega) (fun s hs => hza s (List.mem_of_mem_drop hs)) (fun s hs => hzb s (List.mem_of_mem_drop hs)) (fun hl x e => by
    obtain ⟨z, e1, e2⟩ := blA x e
    have := hoa (fun e0 => hl (show List.drop n a = [] by rw [e0, List.drop_nil])) z e1
    omega) (fun hl x e => by
    obtain ⟨z, e1, e2⟩ := blB x e
    have := hob (fun e0 => hl (show List.drop n b = [] by rw [e0, List.drop_nil])) z e1
    omega)
  rw [lA, lB] at cN
  have HD : Hid (hunks n [] [] (a.drop n) (b.drop n) = diffs a b) := by
   show _ = _
   have h1 := hunks_pre (a.take n) 0 (a.drop n) (b.drop n)
   rw [List.take_append_drop, htk, List.take_append_drop, List.length_take, Nat.min_eq_left (by omega), Nat.zero_add] at h1
   exact h1.symm
  clear rowA rowB ha hb hza hzb hoa hob blA blB htk bl5 zl5 s1 s2 s3 F1 F2 F3 F4 F04 hna hnb
  go_wp2_with fail
  refine cN.mono ?_
  rintro e w7 ⟨v1, v2, T, rfl, gT, hA, hB, o1, o2, F7⟩
  have len : ∀ (l : List ByteArray) (m : Nat), l.length = m → (ints (l.map (numP T) ++ [0])).length = m + 1 := fun l m e => by rw [Z9, List.length_append, List.length_map, e]; rfl
  obtain ⟨g1, q1, rfl, hq1, hg1, row1⟩ := own_some o1 (len _ _ lA)
  obtain ⟨g2, q2, rfl, hq2, hg2, row2⟩ := own_some o2 (len _ _ lB)
  have cT := goThrough_any ⟨w.heap.size, w.heap.size + 1, w2.heap.size, w4.heap.size, w4.heap.size + 1, w4.heap.size + 1 + 1, w5.heap.size, n, na - n, nb - n, c1', d1', va1, vb1, a.drop n, b.drop n⟩ HE.out (numP T) ⟨fun s hs t ht => num_inj gT (hA s hs) (hB t ht), fun s hs => num_pos gT (hA s hs), fun s hs => num_pos gT (hB s hs)⟩ g1 0 (na - n + 1) (nb - n + 1) q1 q2 (some ⟨g2, 0, none⟩) w7 rfl rfl (by omega) (by omega) hq1 row1 row2 hg1 (fun x e => by cases e; exact hg2) (HG.out.fr HE.out F7 (fun k e => e.elim))
  clear o1 o2 row1 row2 cN hA hB gT len
  go_wp2_with fail
  refine cT.mono ?_
  rintro e w8 ⟨⟨v, rfl⟩, ⟨i8, j8, vl, V8, G8, GA⟩, F8⟩
  have cl8 : w8.cell? ⟨w4.heap.size, 0, none⟩ = some vl := GA.cl
  have HR : Hid (HunksN w.heap.size w8 vl (diffs a b) ∧ Fr None' w w8) := by
   refine ⟨HD.out ▸ GA.hunksN (by show w.heap.size ≤ w5.heap.size; exact F05.size), (F05.then F7).trans F8 (fun k e => Or.inr ?_)⟩
   have s1 := HS.out.1
   have s2 := HS.out.2.1
   have s3 := HS.out.2.2
   rcases e with e | e | e | e <;> simp only at e <;> omega
  obtain ⟨pv, m8, cv, rfl⟩ : ∃ pv m8 cv, vl = .slice pv m8 cv := let ⟨pv, cv, h, _⟩ := GA.hunks; ⟨pv, _, cv, h⟩
  clear GA F8 cT
  go_wp2_with fail
  go_ret
  exact ⟨_, rfl, HR.out⟩
end Go.Proofs.YtbnfjjjdnbcehaaGreatDoor.Diff
