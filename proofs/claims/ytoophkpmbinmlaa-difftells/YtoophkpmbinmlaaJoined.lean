/-
  What is proved here: the walk through DiffJoined. Conditions: the arguments lie in memory.
-/
import Derived.Test.YtoophkpmbinmlaaHead
import Derived.Test.YtoophkpmbinmlaaGreat
import Derived.Test.YtoophkpmbinmlaaArgs
namespace Go.Proofs.Ytoophkpmbinmlaa
open Go.RowKit Go.Shelf
set_option maxRecDepth 100000

theorem spread_len : ∀ (L : List (Hk ByteArray)) (last : Int), Spread last L → L.length ≤ cost L
  | [], _, _ => Nat.zero_le _
  | h :: L, last, hs => by
    have := spread_len L _ hs.2.2
    have := hs.1
    rw [cost_cons, List.length_cons]
    omega

theorem cost_diffs (a b : List ByteArray) : cost (diffs a b) ≤ a.length + b.length ∧ (diffs a b).length ≤ a.length + b.length := by
  have h1 := diffs_cost a b
  have h2 := spread_len (diffs a b) _ (diffs_spread a b)
  omega

theorem cost_joined (a b p s : List ByteArray) : cost (diffs (p ++ a ++ s) (p ++ b ++ s)) = cost (diffs a b) := by
  have h1 := diffs_cost (p ++ a ++ s) (p ++ b ++ s)
  have h2 := diffs_cost a b
  rw [lcs_around] at h1
  simp only [List.length_append] at h1
  omega

/-- Diff and Cost, of rows that were told small. -/
theorem diff_small {va vb : Option Addr} {na nb ca cb : Nat} {a b : List ByteArray} {w : World} (h1 : ArgS w va na ca a) (h2 : ArgS w vb nb cb b) (l1 : na ≤ 790) (l2 : nb ≤ 790) (s1 : ∀ s ∈ a, s.size ≤ 3000) (s2 : ∀ s ∈ b, s.size ≤ 3000) :
    Calls Try.prog 12 #[.slice va na ca, .slice vb nb cb] w fun e w' => ∃ v, e = .returned v ∧ HunksAt w' v (diffs a b) ∧ Fr None' w w' :=
  diff_any va vb ca cb na nb a b w h1.len h2.len h1.row h2.row l1 l2 h1.le h2.le h1.no h2.no (fun s hs => Nat.le_trans (s1 s hs) (by unfold maxLen; omega)) (fun s hs => Nat.le_trans (s2 s hs) (by unfold maxLen; omega)) h1.lt h2.lt

theorem cost_small {v : Value} {a b : List ByteArray} {w : World} (h : HunksAt w v (diffs a b)) (l1 : a.length ≤ 1000) (l2 : b.length ≤ 1000) :
    Calls Try.prog 18 #[v] w fun e w' => e = .returned (.int .i64 (cost (diffs a b) : Nat)) ∧ Fr None' w w' :=
  cost_any v _ w h (by have := cost_diffs a b; omega) (by have := cost_diffs a b; omega)

/-- A row of the call's own as an argument. -/
theorem OwnV.arg {base n : Nat} {w : World} {va : Option Addr} {k c : Nat} {l : List ByteArray} (h : OwnV base w 9 (.slice va k c) (l.map .string)) (hl : l.length = n) (hc : n ≤ 1000000) : k = n ∧ ArgS w va n c l := by
  rcases h.2 with ⟨hv, h0⟩ | ⟨g, cap, cur, hv, hb, hh, h1, h2, hs, ht⟩
  · cases hv
    rw [List.length_map] at h0
    have e : l = [] := List.eq_nil_of_length_eq_zero h0
    subst e
    simp at hl
    subst hl
    exact ⟨rfl, Row.nil _ _, rfl, Nat.le_refl _, fun _ => rfl, by omega, fun x e => by cases e⟩
  · cases hv
    rw [List.length_map, hl] at h1
    obtain ⟨va2, c2, e, _, _, hr, _⟩ := h.slice
    cases e
    refine ⟨by rw [List.length_map, hl], hr.row, hl, h1, (fun e => by cases e), by unfold maxLen at h2; omega, fun x e => by cases e; exact (Array.getElem?_eq_some_iff.1 hh).1⟩

theorem own_empty (w : World) : OwnV w.heap.size (w.alloc (.cells #[] 9)) 9 (.slice (some ⟨w.heap.size, 0, none⟩) 0 0) [] := ⟨rfl, Or.inr ⟨w.heap.size, 0, #[], rfl, Nat.le_refl _, Array.getElem?_push_size, Nat.le_refl _, Nat.zero_le _, rfl, rfl⟩⟩

set_option maxHeartbeats 2000000 in
theorem joined_walk (a0 a1 a2 a3 : Option Addr) (n0 n1 n2 n3 c0 c1 c2 c3 : Nat) (l0 l1 l2 l3 : List ByteArray) (W : World) (h0 : ArgS W a0 n0 c0 l0) (h1 : ArgS W a1 n1 c1 l1) (h2 : ArgS W a2 n2 c2 l2) (h3 : ArgS W a3 n3 c3 l3) :
    Calls Try.prog 7 #[.slice a0 n0 c0, .slice a1 n1 c1, .slice a2 n2 c2, .slice a3 n3 c3] W fun e w' => e = .returned (.bool true) ∧ Fr None' W w' := by
  have H0 : Hid (ArgS W a0 n0 c0 l0) := h0
  have H1 : Hid (ArgS W a1 n1 c1 l1) := h1
  have H2 : Hid (ArgS W a2 n2 c2 l2) := h2
  have H3 : Hid (ArgS W a3 n3 c3 l3) := h3
  have g : ∀ {w' : World}, Fr None' W w' → ∀ {x y : Option Addr} {p q c d : Nat} {l m : List ByteArray}, ArgS W x p c l → ArgS W y q d m → Calls Try.prog 10 #[.slice x p c, .slice y q d] w' fun e w'' => Told l m e ∧ w' = w'' := fun {w'} f {x y p q c d l m} hx hy => great_any x y c d p q l m w' hx.len hy.len (hx.row.fr f) (hy.row.fr f) (by have := hx.le; have := hx.top; omega) (by have := hy.le; have := hy.top; omega)
  have G : Hid (∀ {w' : World}, Fr None' W w' → ∀ {x y : Option Addr} {p q c d : Nat} {l m : List ByteArray}, ArgS W x p c l → ArgS W y q d m → Calls Try.prog 10 #[.slice x p c, .slice y q d] w' fun e w'' => Told l m e ∧ w' = w'') := g
  clear h0 h1 h2 h3 g
  go_enter Try.func7, Try.ntmps7
  go_wp2_with (go_at_call 9; refine (head_any _).mono ?_; rintro e w1 ⟨rfl, F1⟩)
  refine (G.out F1 H0.out H1.out).mono ?_
  rintro e w2 ⟨⟨r, rfl, hr⟩, rfl⟩
  cases r with
  | true =>
    go_wp2_with fail
    go_ret
    exact ⟨rfl, F1⟩
  | false =>
    obtain ⟨m0, m1, z0, z1⟩ := hr rfl
    clear hr
    go_wp2_with fail
    refine (G.out F1 H2.out H3.out).mono ?_
    rintro e w2 ⟨⟨r, rfl, hr⟩, rfl⟩
    cases r with
    | true =>
      go_wp2_with fail
      go_ret
      exact ⟨rfl, F1⟩
    | false =>
      obtain ⟨m2, m3, z2, z3⟩ := hr rfl
      clear hr
      have e0 := (H0.out.len); have e1 := (H1.out.len); have e2 := (H2.out.len); have e3 := (H3.out.len)
      have hm0 : (l0.map Value.string).length = n0 := by rw [List.length_map]; exact e0
      have hm1 : (l1.map Value.string).length = n1 := by rw [List.length_map]; exact e1
      have hm2 : (l2.map Value.string).length = n2 := by rw [List.length_map]; exact e2
      have hm3 : (l3.map Value.string).length = n3 := by rw [List.length_map]; exact e3
      have HL : Hid (n0 ≤ 200 ∧ n1 ≤ 200 ∧ n2 ≤ 200 ∧ n3 ≤ 200) := ⟨by omega, by omega, by omega, by omega⟩
      have HM : Hid ((l0.map Value.string).length = n0 ∧ (l1.map Value.string).length = n1 ∧ (l2.map Value.string).length = n2 ∧ (l3.map Value.string).length = n3) := ⟨hm0, hm1, hm2, hm3⟩
      have HZ : Hid ((∀ s ∈ l0, s.size ≤ 3000) ∧ (∀ s ∈ l1, s.size ≤ 3000) ∧ (∀ s ∈ l2, s.size ≤ 3000) ∧ (∀ s ∈ l3, s.size ≤ 3000)) := ⟨z0, z1, z2, z3⟩
      clear e0 e1 e2 e3 hm0 hm1 hm2 hm3 m0 m1 m2 m3 z0 z1 z2 z3
      go_wp2_with (at_builtin
                   first
                     | (refine append_one oneS rfl _ _ rfl rfl Hob1.out (m := l3.map .string) rfl HM.out.2.2.2 (H3.out.kept (FX.then Qb1)).row.vals (H3.out.kept (FX.then Qb1)).no (strs_one l3) (by have h := HL.out; have h2 := HM.out.2.2.2; have h3 := Nob1.out; omega) Qb1.size ?_
                        intro vb2 xb2 ob2 fb2 _
                        have Qb2 : Fr None' xa2 xb2 := (own_fr Hob1.out Qb1 (Fr.refl None' _) fb2).1
                        have Hob2 : Hid (OwnV xa2.heap.size xb2 9 vb2 (l2.map Value.string ++ l1.map Value.string ++ l3.map Value.string)) := ob2
                        have Nob2 : Hid ((l2.map Value.string ++ l1.map Value.string ++ l3.map Value.string).length = n2 + n1 + n3) := by show _ = _; simp only [List.length_append, HM.out.2.2.1, HM.out.2.1, HM.out.2.2.2]
                        obtain ⟨pb2, qb2, rfl⟩ := sliceN ob2 Nob2.out
                        clear ob2 fb2)
                     | (refine append_one oneS rfl _ _ rfl rfl Hob0.out (m := l1.map .string) rfl HM.out.2.1 (H1.out.kept (FX.then Qb0)).row.vals (H1.out.kept (FX.then Qb0)).no (strs_one l1) (by have h := HL.out; have h2 := HM.out.2.1; have h3 := Nob0.out; omega) Qb0.size ?_
                        intro vb1 xb1 ob1 fb1 _
                        have Qb1 : Fr None' xa2 xb1 := (own_fr Hob0.out Qb0 (Fr.refl None' _) fb1).1
                        have Hob1 : Hid (OwnV xa2.heap.size xb1 9 vb1 (l2.map Value.string ++ l1.map Value.string)) := ob1
                        have Nob1 : Hid ((l2.map Value.string ++ l1.map Value.string).length = n2 + n1) := by show _ = _; simp only [List.length_append, HM.out.2.2.1, HM.out.2.1]
                        obtain ⟨pb1, qb1, rfl⟩ := sliceN ob1 Nob1.out
                        clear ob1 fb1)
                     | (refine append_one oneS rfl _ _ rfl rfl (own_empty xa2) (m := l2.map .string) rfl HM.out.2.2.1 (H2.out.kept (FX.then (Fr.alloc None' xa2 (.cells #[] 9)))).row.vals (H2.out.kept (FX.then (Fr.alloc None' xa2 (.cells #[] 9)))).no (strs_one l2) (by have h := HL.out; have h2 := HM.out.2.2.1; simp only [List.length_nil]; omega) (by simp) ?_
                        intro vb0 xb0 ob0 fb0 _
                        rw [List.nil_append] at ob0
                        have Qb0 : Fr None' xa2 xb0 := (own_fr (own_empty xa2) (Fr.alloc None' xa2 _) (Fr.refl None' _) fb0).1
                        have Hob0 : Hid (OwnV xa2.heap.size xb0 9 vb0 (l2.map Value.string)) := ob0
                        have Nob0 : Hid ((l2.map Value.string).length = n2) := by show _ = _; simp only [HM.out.2.2.1]
                        obtain ⟨pb0, qb0, rfl⟩ := sliceN ob0 Nob0.out
                        clear ob0 fb0)
                     | (refine append_one oneS rfl _ _ rfl rfl Hoa1.out (m := l3.map .string) rfl HM.out.2.2.2 (H3.out.kept (F1.then Qa1)).row.vals (H3.out.kept (F1.then Qa1)).no (strs_one l3) (by have h := HL.out; have h2 := HM.out.2.2.2; have h3 := Noa1.out; omega) Qa1.size ?_
                        intro va2 xa2 oa2 fa2 _
                        have Qa2 : Fr None' w1 xa2 := (own_fr Hoa1.out Qa1 (Fr.refl None' _) fa2).1
                        have Hoa2 : Hid (OwnV w1.heap.size xa2 9 va2 (l2.map Value.string ++ l0.map Value.string ++ l3.map Value.string)) := oa2
                        have Noa2 : Hid ((l2.map Value.string ++ l0.map Value.string ++ l3.map Value.string).length = n2 + n0 + n3) := by show _ = _; simp only [List.length_append, HM.out.2.2.1, HM.out.1, HM.out.2.2.2]
                        obtain ⟨pa2, qa2, rfl⟩ := sliceN oa2 Noa2.out
                        have FX := F1.then Qa2
                        clear oa2 fa2)
                     | (refine append_one oneS rfl _ _ rfl rfl Hoa0.out (m := l0.map .string) rfl HM.out.1 (H0.out.kept (F1.then Qa0)).row.vals (H0.out.kept (F1.then Qa0)).no (strs_one l0) (by have h := HL.out; have h2 := HM.out.1; have h3 := Noa0.out; omega) Qa0.size ?_
                        intro va1 xa1 oa1 fa1 _
                        have Qa1 : Fr None' w1 xa1 := (own_fr Hoa0.out Qa0 (Fr.refl None' _) fa1).1
                        have Hoa1 : Hid (OwnV w1.heap.size xa1 9 va1 (l2.map Value.string ++ l0.map Value.string)) := oa1
                        have Noa1 : Hid ((l2.map Value.string ++ l0.map Value.string).length = n2 + n0) := by show _ = _; simp only [List.length_append, HM.out.2.2.1, HM.out.1]
                        obtain ⟨pa1, qa1, rfl⟩ := sliceN oa1 Noa1.out
                        clear oa1 fa1)
                     | (refine append_one oneS rfl _ _ rfl rfl (own_empty w1) (m := l2.map .string) rfl HM.out.2.2.1 (H2.out.kept (F1.then (Fr.alloc None' w1 (.cells #[] 9)))).row.vals (H2.out.kept (F1.then (Fr.alloc None' w1 (.cells #[] 9)))).no (strs_one l2) (by have h := HL.out; have h2 := HM.out.2.2.1; simp only [List.length_nil]; omega) (by simp) ?_
                        intro va0 xa0 oa0 fa0 _
                        rw [List.nil_append] at oa0
                        have Qa0 : Fr None' w1 xa0 := (own_fr (own_empty w1) (Fr.alloc None' w1 _) (Fr.refl None' _) fa0).1
                        have Hoa0 : Hid (OwnV w1.heap.size xa0 9 va0 (l2.map Value.string)) := oa0
                        have Noa0 : Hid ((l2.map Value.string).length = n2) := by show _ = _; simp only [HM.out.2.2.1]
                        obtain ⟨pa0, qa0, rfl⟩ := sliceN oa0 Noa0.out
                        clear oa0 fa0))
      have FY := FX.then Qb2
      have AX := OwnV.arg (l := l2 ++ l0 ++ l3) (n := n2 + n0 + n3) (OwnV.fr (M := None') (by simpa [OwnV] using Hoa2.out) Qb2 (fun _ _ e => e)) (by have h := Noa2.out; simpa using h) (by have h := HL.out; omega)
      have AY := OwnV.arg (l := l2 ++ l1 ++ l3) (n := n2 + n1 + n3) (by simpa [OwnV] using Hob2.out) (by have h := Nob2.out; simpa using h) (by have h := HL.out; omega)
      have zz : ∀ l : List ByteArray, (∀ s ∈ l, s.size ≤ 3000) → ∀ s ∈ l2 ++ l ++ l3, s.size ≤ 3000 := fun l hl s hs => by
        rcases List.mem_append.1 hs with hs | hs
        · rcases List.mem_append.1 hs with hs | hs
          · exact HZ.out.2.2.1 s hs
          · exact hl s hs
        · exact HZ.out.2.2.2 s hs
      have cD := diff_small AX.2 AY.2 (by have h := HL.out; omega) (by have h := HL.out; omega) (zz l0 HZ.out.1) (zz l1 HZ.out.2.1)
      have HX : Hid ((l2 ++ l0 ++ l3).length ≤ 1000 ∧ (l2 ++ l1 ++ l3).length ≤ 1000 ∧ l0.length ≤ 1000 ∧ l1.length ≤ 1000) := by
        have h := HL.out
        have k0 := H0.out.len
        have k1 := H1.out.len
        have k2 := H2.out.len
        have k3 := H3.out.len
        refine ⟨?_, ?_, ?_, ?_⟩ <;> (try simp only [List.length_append]) <;> omega
      have HFY : Hid (Fr None' W xb2) := FY
      clear AX AY zz FY FX Qa0 Qa1 Qa2 Qb0 Qb1 Qb2 F1
      go_wp2_with fail
      refine cD.mono ?_
      rintro e y1 ⟨u1, rfl, hh1, t1⟩
      obtain ⟨pu, mu, cu, rfl⟩ : ∃ p m c, u1 = .slice p m c := let ⟨p, c, h, _⟩ := hh1; ⟨p, _, c, h⟩
      have cC := cost_small hh1 HX.out.1 HX.out.2.1
      rw [cost_joined] at cC
      have HY1 : Hid (Fr None' W y1) := HFY.out.then t1
      clear cD hh1 t1
      go_wp2_with fail
      refine cC.mono ?_
      rintro e y2 ⟨rfl, t2⟩
      have F2 : Fr None' W y2 := HY1.out.then t2
      have cD := diff_small (H0.out.kept F2) (H1.out.kept F2) (by have h := HL.out; omega) (by have h := HL.out; omega) HZ.out.1 HZ.out.2.1
      have HY2 : Hid (Fr None' W y2) := F2
      obtain ⟨K, hK⟩ : ∃ K, cost (diffs l0 l1) = K := ⟨_, rfl⟩
      rw [hK]
      clear cC t2 F2
      go_wp2_with fail
      refine cD.mono ?_
      rintro e y3 ⟨u2, rfl, hh2, t3⟩
      obtain ⟨pv, mv, cv, rfl⟩ : ∃ p m c, u2 = .slice p m c := let ⟨p, c, h, _⟩ := hh2; ⟨p, _, c, h⟩
      have cC := cost_small hh2 HX.out.2.2.1 HX.out.2.2.2
      rw [hK] at cC
      have HY3 : Hid (Fr None' W y3) := HY2.out.then t3
      clear cD hh2 t3 hK
      go_wp2_with fail
      refine cC.mono ?_
      rintro e y4 ⟨rfl, t4⟩
      have HY4 : Hid (Fr None' W y4) := HY3.out.then t4
      clear cC t4
      go_wp2_with fail
      go_ret
      exact ⟨rfl, HY4.out⟩

end Go.Proofs.Ytoophkpmbinmlaa
