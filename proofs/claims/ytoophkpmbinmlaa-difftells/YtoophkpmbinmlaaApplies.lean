/-
  What is proved here: the walk through DiffApplies. Conditions: the arguments lie in memory.
-/
import Derived.Test.YtoophkpmbinmlaaJoined
namespace Go.Proofs.Ytoophkpmbinmlaa
open Go.RowKit Go.Shelf
set_option maxRecDepth 100000

/-- Apply, of rows that were told small. -/
theorem apply_arg {va po pn : Option Addr} {n c no co nn cn : Nat} {l o nw : List ByteArray} {w : World} (x : Int) (hl : ArgS w va n c l) (ho : ArgS w po no co o) (hn : ArgS w pn nn cn nw) (l1 : n ≤ 40000) (l2 : no ≤ 40000) (l3 : nn ≤ 40000) (hx : -9223372036854775808 ≤ x ∧ x < 9223372036854775808) :
    Calls Try.prog 14 #[.slice va n c, .agg #[.int .i64 x, .slice po no co, .slice pn nn cn]] w (ApplyPost w (applyI l x o nw)) :=
  apply_any va po pn n c no co nn cn l o nw x w hl.len ho.len hn.len hl.row ho.row hn.row hl.le hl.no ho.le ho.no hn.le hn.no l1 l2 l3 hx

theorem ArgS.nil (w : World) : ArgS w none 0 0 [] := ⟨Row.nil _ _, rfl, Nat.le_refl _, fun _ => rfl, by omega, fun x e => by cases e⟩

theorem applyI_mk (p o n s : List ByteArray) {k : Nat} (hk : p.length = k) : applyI (p ++ o ++ s) k o n = some (p ++ n ++ s) := by
  unfold applyI
  rw [if_pos (by omega), Int.toNat_natCast, ← hk, apply1_mk]

theorem applyI_far (l n : List ByteArray) {k : Nat} (hk : l.length = k) : applyI l ((k : Int) + 1) [] n = none := by
  unfold applyI apply1
  rw [if_pos (by omega), if_neg]
  simp only
  omega

theorem applyI_low (l n : List ByteArray) : applyI l (-1) [] n = none := by
  unfold applyI
  rw [if_neg (by omega)]

theorem applyI_end (l n : List ByteArray) {k : Nat} (hk : l.length = k) : applyI l k [] n = some (l ++ n) := by
  have := applyI_mk l [] n [] hk
  simpa using this

set_option maxHeartbeats 2000000 in
theorem applies_walk (a0 a1 a2 a3 : Option Addr) (n0 n1 n2 n3 c0 c1 c2 c3 : Nat) (l0 l1 l2 l3 : List ByteArray) (W : World) (h0 : ArgS W a0 n0 c0 l0) (h1 : ArgS W a1 n1 c1 l1) (h2 : ArgS W a2 n2 c2 l2) (h3 : ArgS W a3 n3 c3 l3) :
    Calls Try.prog 8 #[.slice a0 n0 c0, .slice a1 n1 c1, .slice a2 n2 c2, .slice a3 n3 c3] W fun e w' => e = .returned (.bool true) ∧ Fr None' W w' := by
  have H0 : Hid (ArgS W a0 n0 c0 l0) := h0
  have H1 : Hid (ArgS W a1 n1 c1 l1) := h1
  have H2 : Hid (ArgS W a2 n2 c2 l2) := h2
  have H3 : Hid (ArgS W a3 n3 c3 l3) := h3
  have g : ∀ {w' : World}, Fr None' W w' → ∀ {x y : Option Addr} {p q c d : Nat} {l m : List ByteArray}, ArgS W x p c l → ArgS W y q d m → Calls Try.prog 10 #[.slice x p c, .slice y q d] w' fun e w'' => Told l m e ∧ w' = w'' := fun {w'} f {x y p q c d l m} hx hy => great_any x y c d p q l m w' hx.len hy.len (hx.row.fr f) (hy.row.fr f) (by have := hx.le; have := hx.top; omega) (by have := hy.le; have := hy.top; omega)
  have G : Hid (∀ {w' : World}, Fr None' W w' → ∀ {x y : Option Addr} {p q c d : Nat} {l m : List ByteArray}, ArgS W x p c l → ArgS W y q d m → Calls Try.prog 10 #[.slice x p c, .slice y q d] w' fun e w'' => Told l m e ∧ w' = w'') := g
  clear h0 h1 h2 h3 g
  go_enter Try.func8, Try.ntmps8
  go_wp2_with (go_at_call 9; refine (head_any _).mono ?_; rintro e w1 ⟨rfl, F1⟩)
  refine (G.out F1 H0.out H1.out).mono ?_
  rintro e w2 ⟨⟨r, rfl, hr⟩, rfl⟩
  cases r with
  | true =>
    go_wp2_with fail
    go_ret
    exact ⟨rfl, F1⟩
  | false =>
    obtain ⟨m0, m1, z0, z1⟩ := hr rfl
    clear hr
    go_wp2_with fail
    refine (G.out F1 H2.out H3.out).mono ?_
    rintro e w2 ⟨⟨r, rfl, hr⟩, rfl⟩
    cases r with
    | true =>
      go_wp2_with fail
      go_ret
      exact ⟨rfl, F1⟩
    | false =>
      obtain ⟨m2, m3, z2, z3⟩ := hr rfl
      clear hr
      have e0 := (H0.out.len); have e1 := (H1.out.len); have e2 := (H2.out.len); have e3 := (H3.out.len)
      have hm0 : (l0.map Value.string).length = n0 := by rw [List.length_map]; exact e0
      have hm1 : (l1.map Value.string).length = n1 := by rw [List.length_map]; exact e1
      have hm2 : (l2.map Value.string).length = n2 := by rw [List.length_map]; exact e2
      have hm3 : (l3.map Value.string).length = n3 := by rw [List.length_map]; exact e3
      have HL : Hid (n0 ≤ 200 ∧ n1 ≤ 200 ∧ n2 ≤ 200 ∧ n3 ≤ 200) := ⟨by omega, by omega, by omega, by omega⟩
      have HM : Hid ((l0.map Value.string).length = n0 ∧ (l1.map Value.string).length = n1 ∧ (l2.map Value.string).length = n2 ∧ (l3.map Value.string).length = n3) := ⟨hm0, hm1, hm2, hm3⟩
      have HZ : Hid ((∀ s ∈ l0, s.size ≤ 3000) ∧ (∀ s ∈ l1, s.size ≤ 3000) ∧ (∀ s ∈ l2, s.size ≤ 3000) ∧ (∀ s ∈ l3, s.size ≤ 3000)) := ⟨z0, z1, z2, z3⟩
      clear e0 e1 e2 e3 hm0 hm1 hm2 hm3 m0 m1 m2 m3 z0 z1 z2 z3
      go_wp2_with (at_builtin
                   first
                     | (refine append_one oneS rfl _ _ rfl rfl Hoa1.out (m := l1.map .string) rfl HM.out.2.1 (H1.out.kept (F1.then Qa1)).row.vals (H1.out.kept (F1.then Qa1)).no (strs_one l1) (by have h := HL.out; have h2 := HM.out.2.1; have h3 := Noa1.out; omega) Qa1.size ?_
                        intro va2 xa2 oa2 fa2 _
                        have Qa2 : Fr None' w1 xa2 := (own_fr Hoa1.out Qa1 (Fr.refl None' _) fa2).1
                        obtain ⟨Ta, hTa⟩ : ∃ T, n0 + n2 + n1 = T := ⟨_, rfl⟩
                        have HTa : Hid (n0 + n2 + n1 = Ta) := hTa
                        have hba : (Ta : Int) ≤ 600 := by have h := HL.out; omega
                        have Hoa2 : Hid (OwnV w1.heap.size xa2 9 va2 (l0.map Value.string ++ l2.map Value.string ++ l1.map Value.string)) := oa2
                        have Noa2 : Hid ((l0.map Value.string ++ l2.map Value.string ++ l1.map Value.string).length = Ta) := by show _ = _; rw [← hTa]; simp only [List.length_append, HM.out.1, HM.out.2.2.1, HM.out.2.1]
                        obtain ⟨pa2, qa2, rfl⟩ := sliceN oa2 Noa2.out
                        clear oa2 fa2 hTa)
                     | (refine append_one oneS rfl _ _ rfl rfl Hoa0.out (m := l2.map .string) rfl HM.out.2.2.1 (H2.out.kept (F1.then Qa0)).row.vals (H2.out.kept (F1.then Qa0)).no (strs_one l2) (by have h := HL.out; have h2 := HM.out.2.2.1; have h3 := Noa0.out; omega) Qa0.size ?_
                        intro va1 xa1 oa1 fa1 _
                        have Qa1 : Fr None' w1 xa1 := (own_fr Hoa0.out Qa0 (Fr.refl None' _) fa1).1
                        have Hoa1 : Hid (OwnV w1.heap.size xa1 9 va1 (l0.map Value.string ++ l2.map Value.string)) := oa1
                        have Noa1 : Hid ((l0.map Value.string ++ l2.map Value.string).length = n0 + n2) := by show _ = _; simp only [List.length_append, HM.out.1, HM.out.2.2.1]
                        obtain ⟨pa1, qa1, rfl⟩ := sliceN oa1 Noa1.out
                        clear oa1 fa1)
                     | (refine append_one oneS rfl _ _ rfl rfl (own_empty w1) (m := l0.map .string) rfl HM.out.1 (H0.out.kept (F1.then (Fr.alloc None' w1 (.cells #[] 9)))).row.vals (H0.out.kept (F1.then (Fr.alloc None' w1 (.cells #[] 9)))).no (strs_one l0) (by have h := HL.out; have h2 := HM.out.1; simp only [List.length_nil]; omega) (by simp) ?_
                        intro va0 xa0 oa0 fa0 _
                        rw [List.nil_append] at oa0
                        have Qa0 : Fr None' w1 xa0 := (own_fr (own_empty w1) (Fr.alloc None' w1 _) (Fr.refl None' _) fa0).1
                        have Hoa0 : Hid (OwnV w1.heap.size xa0 9 va0 (l0.map Value.string)) := oa0
                        have Noa0 : Hid ((l0.map Value.string).length = n0) := by show _ = _; simp only [HM.out.1]
                        obtain ⟨pa0, qa0, rfl⟩ := sliceN oa0 Noa0.out
                        clear oa0 fa0))
      have FX := F1.then Qa2
      have AX := OwnV.arg (l := l0 ++ l2 ++ l1) (n := Ta) (by simpa [OwnV] using Hoa2.out) (by have h := Noa2.out; simpa using h) (by omega)
      have HLX : Hid ((l0 ++ l2 ++ l1).length = Ta) := AX.2.len
      have HAX : Hid (ArgS xa2 pa2 Ta qa2 (l0 ++ l2 ++ l1)) := AX.2
      have HFX : Hid (Fr None' W xa2) := FX
      have hb0 : (n0 : Int) ≤ 200 := by have h := HL.out; omega
      have cP := apply_arg (n0 : Int) AX.2 (H2.out.kept FX) (H3.out.kept FX) (by omega) (by have h := HL.out; omega) (by have h := HL.out; omega) (by omega)
      rw [applyI_mk l0 l2 l3 l1 H0.out.len] at cP
      clear AX FX Qa0 Qa1 Qa2 F1 hb0
      go_wp2_with fail
      refine cP.mono ?_
      rintro e s1 ⟨S1, u1, rfl, w1o⟩
      have FS1 := HFX.out.then S1
      obtain ⟨pu, cu, rfl⟩ := sliceN (n := n0 + n3 + n1) w1o (by have h := HM.out; simp only [List.map_append, List.length_append]; omega)
      have HU : Hid (ArgS s1 pu (n0 + n3 + n1) cu (l0 ++ l3 ++ l1)) := (OwnV.arg w1o (by have h := HM.out; simp only [List.length_map] at h; simp only [List.length_append]; omega) (by have h := HL.out; omega)).2
      have HX1 : Hid (ArgS s1 pa2 Ta qa2 (l0 ++ l2 ++ l1)) := HAX.out.kept S1
      clear cP w1o S1
      go_wp2_with (at_builtin
                   first
                     | (refine append_one oneS rfl _ _ rfl rfl Hob1.out (m := l1.map .string) rfl HM.out.2.1 (H1.out.kept (FS1.then Qb1)).row.vals (H1.out.kept (FS1.then Qb1)).no (strs_one l1) (by have h := HL.out; have h2 := HM.out.2.1; have h3 := Nob1.out; omega) Qb1.size ?_
                        intro vb2 xb2 ob2 fb2 _
                        have Qb2 : Fr None' s1 xb2 := (own_fr Hob1.out Qb1 (Fr.refl None' _) fb2).1
                        obtain ⟨Tb, hTb⟩ : ∃ T, n0 + n3 + n1 = T := ⟨_, rfl⟩
                        have HTb : Hid (n0 + n3 + n1 = Tb) := hTb
                        have hbb : (Tb : Int) ≤ 600 := by have h := HL.out; omega
                        have Hob2 : Hid (OwnV s1.heap.size xb2 9 vb2 (l0.map Value.string ++ l3.map Value.string ++ l1.map Value.string)) := ob2
                        have Nob2 : Hid ((l0.map Value.string ++ l3.map Value.string ++ l1.map Value.string).length = Tb) := by show _ = _; rw [← hTb]; simp only [List.length_append, HM.out.1, HM.out.2.2.2, HM.out.2.1]
                        obtain ⟨pb2, qb2, rfl⟩ := sliceN ob2 Nob2.out
                        clear ob2 fb2 hTb)
                     | (refine append_one oneS rfl _ _ rfl rfl Hob0.out (m := l3.map .string) rfl HM.out.2.2.2 (H3.out.kept (FS1.then Qb0)).row.vals (H3.out.kept (FS1.then Qb0)).no (strs_one l3) (by have h := HL.out; have h2 := HM.out.2.2.2; have h3 := Nob0.out; omega) Qb0.size ?_
                        intro vb1 xb1 ob1 fb1 _
                        have Qb1 : Fr None' s1 xb1 := (own_fr Hob0.out Qb0 (Fr.refl None' _) fb1).1
                        have Hob1 : Hid (OwnV s1.heap.size xb1 9 vb1 (l0.map Value.string ++ l3.map Value.string)) := ob1
                        have Nob1 : Hid ((l0.map Value.string ++ l3.map Value.string).length = n0 + n3) := by show _ = _; simp only [List.length_append, HM.out.1, HM.out.2.2.2]
                        obtain ⟨pb1, qb1, rfl⟩ := sliceN ob1 Nob1.out
                        clear ob1 fb1)
                     | (refine append_one oneS rfl _ _ rfl rfl (own_empty s1) (m := l0.map .string) rfl HM.out.1 (H0.out.kept (FS1.then (Fr.alloc None' s1 (.cells #[] 9)))).row.vals (H0.out.kept (FS1.then (Fr.alloc None' s1 (.cells #[] 9)))).no (strs_one l0) (by have h := HL.out; have h2 := HM.out.1; simp only [List.length_nil]; omega) (by simp) ?_
                        intro vb0 xb0 ob0 fb0 _
                        rw [List.nil_append] at ob0
                        have Qb0 : Fr None' s1 xb0 := (own_fr (own_empty s1) (Fr.alloc None' s1 _) (Fr.refl None' _) fb0).1
                        have Hob0 : Hid (OwnV s1.heap.size xb0 9 vb0 (l0.map Value.string)) := ob0
                        have Nob0 : Hid ((l0.map Value.string).length = n0) := by show _ = _; simp only [HM.out.1]
                        obtain ⟨pb0, qb0, rfl⟩ := sliceN ob0 Nob0.out
                        clear ob0 fb0))
      have FY := FS1.then Qb2
      have AY := OwnV.arg (l := l0 ++ l3 ++ l1) (n := Tb) (by simpa [OwnV] using Hob2.out) (by have h := Nob2.out; simpa using h) (by omega)
      have HAY : Hid (ArgS xb2 pb2 Tb qb2 (l0 ++ l3 ++ l1)) := AY.2
      have HX2 : Hid (ArgS xb2 pa2 Ta qa2 (l0 ++ l2 ++ l1)) := HX1.out.kept Qb2
      have HU2 : Hid (ArgS xb2 pu (n0 + n3 + n1) cu (l0 ++ l3 ++ l1)) := HU.out.kept Qb2
      have HFY : Hid (Fr None' W xb2) := FY
      rw [HTb.out] at HU2
      rw [HTb.out]
      have hbi : (0 : Int) ≤ (Ta : Int) := by omega
      have hb3 : (n3 : Int) ≤ 200 := by have h := HL.out; omega
      have cQ := apply_arg ((Ta : Int) + 1) HX2.out (ArgS.nil xb2) (H3.out.kept FY) (by omega) (by omega) (by have h := HL.out; omega) (by omega)
      rw [applyI_far _ _ HLX.out] at cQ
      have HAX2 : Hid (ArgS xb2 pa2 Ta qa2 (l0 ++ l2 ++ l1)) := HX2.out
      clear AY FY FS1 Qb0 Qb1 Qb2 Noa2 Noa1 Noa0 Nob0 Nob1 Nob2 Hoa0 Hoa1 Hoa2 Hob0 Hob1 Hob2 HX1 HAX HU HX2
      go_wp2_with fail
      refine cQ.mono ?_
      rintro e s2 ⟨S2, rfl⟩
      have FS2 := HFY.out.then S2
      have cL := apply_arg (-1) (HAX2.out.kept S2) (ArgS.nil s2) (H3.out.kept FS2) (by omega) (by omega) (by have h := HL.out; omega) (by omega)
      rw [applyI_low] at cL
      have HX3 : Hid (ArgS s2 pa2 Ta qa2 (l0 ++ l2 ++ l1)) := HAX2.out.kept S2
      have HY3 : Hid (ArgS s2 pb2 Tb qb2 (l0 ++ l3 ++ l1)) := HAY.out.kept S2
      have HU3 : Hid (ArgS s2 pu Tb cu (l0 ++ l3 ++ l1)) := HU2.out.kept S2
      have HF3 : Hid (Fr None' W s2) := FS2
      clear cQ S2 FS2 HAX2 HAY HU2 HFY HFX
      go_wp2_with fail
      refine cL.mono ?_
      rintro e s3 ⟨S3, rfl⟩
      have FS3 := HF3.out.then S3
      have cE := apply_arg (Ta : Int) (HX3.out.kept S3) (ArgS.nil s3) (H3.out.kept FS3) (by omega) (by omega) (by have h := HL.out; omega) (by omega)
      rw [applyI_end _ _ HLX.out] at cE
      have HY4 : Hid (ArgS s3 pb2 Tb qb2 (l0 ++ l3 ++ l1)) := HY3.out.kept S3
      have HU4 : Hid (ArgS s3 pu Tb cu (l0 ++ l3 ++ l1)) := HU3.out.kept S3
      have HF4 : Hid (Fr None' W s3) := FS3
      clear cL S3 FS3 HX3 HY3 HU3 HF3
      go_wp2_with fail
      refine cE.mono ?_
      rintro e s4 ⟨S4, u4, rfl, ow4⟩
      obtain ⟨pe, ce, rfl⟩ := sliceN (n := Ta + n3) ow4 (by rw [List.length_map, List.length_append, HLX.out, H3.out.len])
      have FS4 := HF4.out.then S4
      have rY := (HY4.out.kept S4)
      have rU := (HU4.out.kept S4)
      have cS := lSame_any pu pb2 cu qb2 (l0 ++ l3 ++ l1) (l0 ++ l3 ++ l1) s4 rU.row rY.row (by rw [rU.len]; omega)
      rw [rU.len, decide_eq_true rfl] at cS
      have HF5 : Hid (Fr None' W s4) := FS4
      clear cE S4 FS4 HY4 HU4 HF4 ow4 rY rU
      go_wp2_with fail
      refine cS.mono ?_
      rintro e s5 ⟨rfl, S5⟩
      have HF6 : Hid (Fr None' W s5) := HF5.out.then S5
      clear cS S5
      go_wp2_with fail
      go_ret
      exact ⟨rfl, HF6.out⟩

end Go.Proofs.Ytoophkpmbinmlaa
