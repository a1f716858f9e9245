/-
  What is proved here: goThrough has the document's hunks gathered. Conditions: as named.
-/
import Derived.Test.YtoophkpmbinmlaaWalk
import Derived.Test.YtoophkpmbinmlaaGather
import Derived.Test.YtoophkpmbinmlaaReckon
import Derived.Test.YtoophkpmbinmlaaNum
namespace Go.Proofs.Ytoophkpmbinmlaa
open Go.RowKit Go.Shelf
set_option maxRecDepth 100000

theorem GoesAt.ft {Q : GE} {w : World} {R : Nat → Value} {now : Int} (h : GoesAt Q w R now) (hb : Q.H1 ≤ Q.base) {k : Nat} (hk : Q.foot R k) : Q.H1 ≤ k ∧ k < w.heap.size := by
  rcases hk with ⟨h1, h2⟩ | ⟨i, hi, ho⟩
  · have := h.top; omega
  · obtain ⟨vs, hv⟩ := h.tab.own i hi
    have := hv.lt ho
    omega

/-- What is written. -/
def GB.wr (E : GB) : Nat → Prop := fun k => k = E.pl ∨ k = E.pi ∨ k = E.pj ∨ E.H1 ≤ k

/-- On the way. -/
structure Thru (E : GB) (Q : GE) (D : List (Hk ByteArray)) (w w' : World) (i j : Nat) (i0 j0 : Nat) (L : List (Hk ByteArray)) (vl : Value) (V : List (Value × Value)) (G : Nat → Prop) (R : Nat → Value) (now : Int) : Prop where
  wk : Walk E.ahead E.A E.B D i j i0 j0 L
  ga : GAt E w' i0 j0 L vl V G
  ll : L.length ≤ i
  ap : ∀ k, G k → ¬ Q.foot R k
  go : GoesAt Q w' R now
  fr : Fr E.wr w w'

/-- Through. -/
def Done (E : GB) (D : List (Hk ByteArray)) (w w' : World) : Prop := (∃ i j vl V G, GAt E w' i j D vl V G) ∧ Fr E.wr w w'

section
variable {E : GB} (hE : E.Fit) {Q : GE} (hQ : Q.Fit) (hH : Q.H1 = E.H1) (hb : Q.H1 ≤ Q.base) {f : ByteArray → Int} (hn : Nums f E.A E.B) {D : List (Hk ByteArray)} {w w1 w2 : World} {i j i0 j0 : Nat} {L : List (Hk ByteArray)} {vl : Value} {V : List (Value × Value)} {G : Nat → Prop} {R : Nat → Value} {now : Int}
include hE hQ hH hb hn

theorem Thru.stay (h : Thru E Q D w w1 i j i0 j0 L vl V G R now) {x : Int} (hx : (E.A.map f ++ [0])[i]? = some x) (hy : (E.B.map f ++ [0])[j]? = some x) {e : Ending}
    (hp : GatherPost E w1 i j (L ++ flush (E.ahead + j0) ((E.A.drop i0).take (i - i0)) ((E.B.drop j0).take (j - j0)) []) vl G e w2) :
    (∃ v, e = .returned v) ∧ ((∃ L' vl' V' G', Thru E Q D w w2 (i + 1) (j + 1) (i + 1) (j + 1) L' vl' V' G' R now) ∨ (i = E.na ∧ Done E D w w2)) := by
  obtain ⟨he, vl', V', G', g2, f2, hG⟩ := hp
  have := hE.o3; have := hE.o4; have := hE.o5; have := hE.o6
  have F : Fr E.wr w w2 := h.fr.then (f2.mono (fun k e => by
    rcases e with e | e | e | e
    · exact Or.inl e
    · exact Or.inr (Or.inl e)
    · exact Or.inr (Or.inr (Or.inl e))
    · exact Or.inr (Or.inr (Or.inr (ownH_lt h.ga.own e).1))))
  refine ⟨he, ?_⟩
  rcases h.wk.stay hn hx hy with hw | ⟨e1, e2⟩
  · refine Or.inl ⟨_, vl', V', G', hw, g2, ?_, fun k hk hf => ?_, h.go.fr hQ f2 (fun k hf e => ?_), F⟩
    · rw [List.length_append]
      have : (flush (E.ahead + j0) ((E.A.drop i0).take (i - i0)) ((E.B.drop j0).take (j - j0)) []).length ≤ 1 := by unfold flush; split <;> simp
      have := h.ll
      omega
    · rcases hG k hk with e | e
      · exact h.ap k e hf
      · have := (h.go.ft hb hf).2; omega
    · have h1 := (h.go.ft hb hf).1
      rcases e with e | e | e | e
      · omega
      · omega
      · omega
      · exact h.ap k (h.ga.gl k e) hf
  · exact Or.inr ⟨by rw [e1, hE.lA], ⟨_, _, vl', V', G', e2 ▸ g2⟩, F⟩

omit hQ hn in
theorem Thru.moved (h : Thru E Q D w w1 i j i0 j0 L vl V G R now) {R' : Nat → Value} {now' : Int} (g2 : GoesAt Q w2 R' now') (f2 : Fr (Q.foot R) w1 w2) (hf : ∀ k, Q.foot R' k → Q.foot R k ∨ w1.heap.size ≤ k) {i' j' : Nat} (hi : i ≤ i') (hw : Walk E.ahead E.A E.B D i' j' i0 j0 L) :
    Thru E Q D w w2 i' j' i0 j0 L vl V G R' now' := by
  refine ⟨hw, h.ga.fr hE f2 (fun k e => ⟨by rw [← hH]; exact (h.go.ft hb e).1, fun hG => h.ap k hG e⟩), Nat.le_trans h.ll hi, fun k hG e => ?_, g2, h.fr.then (f2.mono (fun k e => Or.inr (Or.inr (Or.inr (by rw [← hH]; exact (h.go.ft hb e).1)))))⟩
  rcases hf k e with e | e
  · exact h.ap k hG e
  · have := (h.ga.gH k hG).2; omega

omit hb hn hH in
theorem Thru.kept (h : Thru E Q D w w1 i j i0 j0 L vl V G R now) (k : Fr None' w1 w2) : Thru E Q D w w2 i j i0 j0 L vl V G R now := ⟨h.wk, h.ga.fr hE k (fun _ e => e.elim), h.ll, h.ap, h.go.fr hQ k (fun _ _ e => e), h.fr.then (k.mono (fun _ e => e.elim))⟩

end

theorem thru_cells {Q : GE} {w : World} {R : Nat → Value} {now : Int} (h : GoesAt Q w R now) {i j : Nat} (hi : i < Q.A.length) (hj : j < Q.B.length) : ∃ g o, Q.vb = some ⟨g, o, none⟩ ∧ w.cell? ⟨Q.ga, Q.oa + i, none⟩ = some (.int .i64 Q.A[i]) ∧ w.cell? ⟨g, o + j, none⟩ = some (.int .i64 Q.B[j]) := by
  obtain ⟨g1, o1, e1, c1⟩ := h.rA.get (k := i) (by rw [ints_length]; exact hi)
  obtain ⟨g2, o2, e2, c2⟩ := h.rB.get (k := j) (by rw [ints_length]; exact hj)
  cases e1
  refine ⟨g2, o2, e2, ?_, ?_⟩
  · rw [c1]; simp [ints]
  · rw [c2]; simp [ints]

set_option maxHeartbeats 2000000 in
theorem goThrough_any (E : GB) (hE : E.Fit) (f : ByteArray → Int) (hn : Nums f E.A E.B) (ga oa N m ca cb : Nat) (vb : Option Addr) (w : World) (hN : E.na + 1 = N) (hm : E.nb + 1 = m) (hN9 : N ≤ 800) (hm9 : m ≤ 800) (hca : N ≤ ca) (hA : RowV w (some ⟨ga, oa, none⟩) (ints (E.A.map f ++ [0]))) (hB : RowV w vb (ints (E.B.map f ++ [0]))) (hga : E.H1 ≤ ga) (hvb : ∀ x, vb = some x → E.H1 ≤ x.block)
    (h0 : GAt E w 0 0 [] (.slice none 0 0) [] (fun _ => False)) :
    Calls Try.prog 25 #[.slice (some ⟨ga, oa, none⟩) N ca, .slice vb m cb, .func (.func 22) #[] #[.pointer (some ⟨E.pi, 0, none⟩), .pointer (some ⟨E.pj, 0, none⟩), .pointer (some ⟨E.pl, 0, none⟩), .pointer (some ⟨E.ph, 0, none⟩), .pointer (some ⟨E.pa, 0, none⟩), .pointer (some ⟨E.pb, 0, none⟩)]] w fun e w' => (∃ v, e = .returned v) ∧ Done E (hunks E.ahead [] [] E.A E.B) w w' := by
  have cR := reckon_any E.H1 ga oa ca cb N m vb _ _ w hA (by simp [hE.lA, hN]) (by omega) hN9 hca hB (by simp [hE.lB, hm]) (by omega) hm9 hga hvb h0.top
  have HG0 : Hid (GAt E w 0 0 [] (.slice none 0 0) [] (fun _ => False)) := h0
  have k1 : (N : Int) ≤ 800 := by omega
  have k2 : (m : Int) ≤ 800 := by omega
  clear hA hB h0
  go_enter Try.func25, Try.ntmps25
  go_wp2_with fail
  refine cR.mono ?_
  rintro e w1 ⟨Q, R0, rfl, hQ, qA, qB, qH, qga, qoa, qvb, qm, g0, F0, hf0⟩
  have hb : Q.H1 ≤ Q.base := by have := hQ.low Q.pn (by simp); omega
  have HT0 : Hid (Thru E Q (hunks E.ahead [] [] E.A E.B) w w1 0 0 0 0 [] (.slice none 0 0) [] (fun _ => False) R0 (-1)) := ⟨Walk.start _ _ _, HG0.out.fr hE F0 (fun k e => e.elim), Nat.le_refl _, fun k e => e.elim, g0, F0.mono (fun k e => e.elim)⟩
  clear cR g0 F0 HG0 hf0
  go_wp2_with fail
  go_loopw [7, 8] (fun vi vj wr => (∃ (i j i0 j0 : Nat) (L : List (Hk ByteArray)) (vl : Value) (V : List (Value × Value)) (G : Nat → Prop) (R : Nat → Value) (now : Int), vi = .int .i64 i ∧ vj = .int .i64 j ∧ Hid (Thru E Q (hunks E.ahead [] [] E.A E.B) w wr i j i0 j0 L vl V G R now)) ∨ (∃ j : Nat, vi = .int .i64 N ∧ vj = .int .i64 j ∧ Hid (Done E (hunks E.ahead [] [] E.A E.B) w wr))) (fun vi vj _ => N + m - (intOf vi).toNat - (intOf vj).toNat)
  case atStart => exact Or.inl ⟨0, 0, 0, 0, _, _, _, _, _, _, rfl, rfl, HT0.out⟩
  case round =>
    clear HT0
    rcases hrel with ⟨i, j, i0, j0, L, vl, V, G, R, now, rfl, rfl, HT⟩ | ⟨j, rfl, rfl, HD⟩
    · have hi := HT.out.wk.li
      have hj := HT.out.wk.lj
      rw [hE.lA] at hi
      rw [hE.lB] at hj
      have hia : i < Q.A.length := by rw [qA]; simp [hE.lA]; omega
      have hjb : j < Q.B.length := by rw [qB]; simp [hE.lB]; omega
      obtain ⟨gB, oB, evb, cx, cy⟩ := thru_cells HT.out.go hia hjb
      obtain ⟨x, hx⟩ : ∃ x, Q.A[i] = x := ⟨_, rfl⟩
      obtain ⟨y, hy⟩ : ∃ y, Q.B[j] = y := ⟨_, rfl⟩
      have HX : Hid ((E.A.map f ++ [0])[i]? = some x) := by
        show _ = _
        rw [← hx, ← qA]; exact List.getElem?_eq_getElem hia
      have HY : Hid ((E.B.map f ++ [0])[j]? = some y) := by
        show _ = _
        rw [← hy, ← qB]; exact List.getElem?_eq_getElem hjb
      rw [hx, qga, qoa] at cx
      rw [hy] at cy
      rw [qvb] at evb
      clear hx hy
      have i1 : (i : Int) < (N : Int) := by omega
      have i2 : (j : Int) < (m : Int) := by omega
      have i3 : (0 : Int) ≤ (i : Int) := by omega
      have i4 : (0 : Int) ≤ (j : Int) := by omega
      have hL9 : L.length ≤ 2000 := by have := HT.out.ll; omega
      by_cases hxy : x = y
      · subst hxy
        subst evb
        go_wp2_with fail
        go_quiet (fail)
        go_wp2_with fail
        refine (gather_any E hE _ i0 j0 i j L vl V G (HT.out.kept hE hQ (Fr.drewN None' wr _)).ga HT.out.wk.gi hi HT.out.wk.gj hj hL9).mono ?_
        intro e w2 hp
        obtain ⟨⟨v, rfl⟩, hr⟩ := (HT.out.kept hE hQ (Fr.drewN None' wr _)).stay hE hQ qH hb hn HX.out HY.out hp
        clear hp
        go_wp2_with fail
        rcases hr with ⟨L', vl', V', G', T'⟩ | ⟨e1, hd⟩
        · exact ⟨Or.inl ⟨i + 1, j + 1, i + 1, j + 1, L', vl', V', G', R, now, by go_num, by go_num, T'⟩, by simp [intOf]; omega⟩
        · subst e1
          exact ⟨Or.inr ⟨j + 1, by go_num, by go_num, hd⟩, by simp [intOf]; omega⟩
      · subst evb
        have q1 : decide (x = y) = false := by simp [hxy]
        go_wp2_with fail
        go_quiet (fail)
        go_wp2_with fail
        refine (goes_any Q hQ _ R now i j (HT.out.kept hE hQ (Fr.drewN None' wr _)).go hia (by rw [qm]; omega)).mono ?_
        rintro e w2 ⟨rfl, R', now', g2, f2, hf⟩
        rw [qA, qB]
        cases hk : kgeq (kept ((E.A.map f ++ [0]).drop (i + 1)) ((E.B.map f ++ [0]).drop j)) (kept ((E.A.map f ++ [0]).drop i) ((E.B.map f ++ [0]).drop (j + 1))) with
        | true =>
          have T' := (HT.out.kept hE hQ (Fr.drewN None' wr _)).moved hE qH hb g2 f2 hf (Nat.le_succ i) (HT.out.wk.goes hn HX.out HY.out hxy hk)
          clear hk g2 f2 hf
          go_wp2_with fail
          exact ⟨Or.inl ⟨i + 1, j, i0, j0, L, vl, V, G, R', now', by go_num, rfl, T'⟩, by simp [intOf]; omega⟩
        | false =>
          have T' := (HT.out.kept hE hQ (Fr.drewN None' wr _)).moved hE qH hb g2 f2 hf (Nat.le_refl i) (HT.out.wk.comes hn HX.out HY.out hxy hk)
          clear hk g2 f2 hf
          go_wp2_with fail
          exact ⟨Or.inl ⟨i, j + 1, i0, j0, L, vl, V, G, R', now', rfl, by go_num, T'⟩, by simp [intOf]; omega⟩
    · go_wp2_with fail
      exact ⟨rfl, _, results_none rfl _ _ _, ⟨_, rfl⟩, HD.out⟩

end Go.Proofs.Ytoophkpmbinmlaa
