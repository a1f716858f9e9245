/-
  What is proved here: what an argument that is a hunk is in memory, what greatHunk answers, and the walk through DiffBack. Conditions: the arguments lie in memory.
-/
import Derived.Test.YtoophkpmbinmlaaApplies
namespace Go.Proofs.Ytoophkpmbinmlaa
open Go.ChangeShapes Go.WideShapes Go.ChangeAt Go.RowKit Go.Shelf
set_option maxRecDepth 100000

/-- A hunk as an argument is. -/
structure ArgH (W : World) (v : Value) (x : Int) (po pn : Option Addr) (no nn co cn : Nat) (o n : List ByteArray) : Prop where
  val : v = .agg #[.int .i64 x, .slice po no co, .slice pn nn cn]
  old : ArgS W po no co o
  new : ArgS W pn nn cn n
  lo : -9223372036854775808 ≤ x
  hi : x < 9223372036854775808

theorem arg_hunk {H : Type} {enc : TypeId × Value → H} {W : World} {sp : Nat → Bool} {held : Bool} {base : Nat} {v : Value} {d : DataW H} {ps : List MemPlace} (hv : Value.okWide Try.prog W .any base 24 v) (h : DataW.Trod enc Try.prog W 0 sp held 24 v d ps) :
    ∃ x po pn no nn co cn o n, ArgH W v x po pn no nn co cn o n := by
  simp only [Value.okWide, Try.underlying24] at hv
  obtain ⟨cs, rfl, hsz, ts, hts, _, hcell⟩ := hv
  have hts2 : Try.prog.cellTypes Try.prog.depth 24 = some [3, 22, 22] := by kernel_rfl
  rw [hts2] at hts
  cases hts
  have hsz3 : Try.prog.cellsOf 24 = 3 := by kernel_rfl
  rw [hsz3] at hsz
  obtain ⟨u⟩ := cs
  match u, hsz with
  | [u0, u1, u2], _ =>
    obtain ⟨t0, e0, k0⟩ := hcell 0 u0 rfl
    obtain ⟨t1, e1, k1⟩ := hcell 1 u1 rfl
    obtain ⟨t2, e2, k2⟩ := hcell 2 u2 rfl
    cases e0
    cases e1
    cases e2
    obtain ⟨fuel, hf⟩ := h
    obtain ⟨y0, y1, y2, n, _, _, g0, g1, g2⟩ := Deep.trod_struct3 Try.underlying24 hf
    have g1' : DataW.Trod enc Try.prog W 0 sp held 22 u1 y1.1 y1.2 := ⟨n, by cases u1 <;> first | exact g1 | (simp only [Cell.okWide, Try.underlying22, Cell.ok] at k1)⟩
    have g2' : DataW.Trod enc Try.prog W 0 sp held 22 u2 y2.1 y2.2 := ⟨n, by cases u2 <;> first | exact g2 | (simp only [Cell.okWide, Try.underlying22, Cell.ok] at k2)⟩
    have v1 : Value.okWide Try.prog W .any base 22 u1 := by
      simp only [Value.okWide, Try.underlying22]
      exact k1
    have v2 : Value.okWide Try.prog W .any base 22 u2 := by
      simp only [Value.okWide, Try.underlying22]
      exact k2
    obtain ⟨po, no, co, lo, rfl, ho⟩ := arg_strs v1 g1'
    obtain ⟨pn, nn, cn, ln, rfl, hn⟩ := arg_strs v2 g2'
    have k0' : ∃ x, u0 = .int .i64 x ∧ -9223372036854775808 ≤ x ∧ x < 9223372036854775808 := by
      cases u0 <;> simp only [Cell.okWide, Try.underlying3, Cell.ok] at k0
      obtain ⟨rfl, hk⟩ := k0
      have h1 : IntKind.i64.min = -9223372036854775808 := by decide
      have h2 : IntKind.i64.max = 9223372036854775807 := by decide
      obtain ⟨h3, h4⟩ := hk
      rw [h1] at h3
      rw [h2] at h4
      exact ⟨_, rfl, h3, by omega⟩
    obtain ⟨x, rfl, hx1, hx2⟩ := k0'
    exact ⟨x, po, pn, no, nn, co, cn, lo, ln, rfl, ho, hn, hx1, hx2⟩

theorem greatHunk_any {w : World} {x : Int} {po pn : Option Addr} {no nn co cn : Nat} {o n : List ByteArray} (ho : ArgS w po no co o) (hn : ArgS w pn nn cn n) :
    Calls Try.prog 11 #[.agg #[.int .i64 x, .slice po no co, .slice pn nn cn]] w fun e w' => Told o n e ∧ Fr None' w w' := by
  have hg := great_any po pn co cn no nn o n (w.alloc (.cells #[.int .i64 x, .slice po no co, .slice pn nn cn] 24)) ho.len hn.len (ho.row.fr (Fr.alloc None' w _)) (hn.row.fr (Fr.alloc None' w _)) (by have := ho.le; have := ho.top; omega) (by have := hn.le; have := hn.top; omega)
  clear ho hn
  go_enter Try.func11, Try.ntmps11
  go_wp2_with fail
  refine hg.mono ?_
  rintro e w2 ⟨⟨r, rfl, hr⟩, rfl⟩
  have HR : Hid (r = false → o.length ≤ 200 ∧ n.length ≤ 200 ∧ (∀ s ∈ o, s.size ≤ 3000) ∧ ∀ s ∈ n, s.size ≤ 3000) := hr
  clear hr hg
  go_wp2_with fail
  go_ret
  exact ⟨⟨r, rfl, HR.out⟩, Fr.alloc None' w _⟩

theorem applyI_some {l r o n : List ByteArray} {x : Int} (h : applyI l x o n = some r) : applyI r x n o = some l ∧ r.length = l.length - o.length + n.length ∧ o.length ≤ l.length := by
  unfold applyI at *
  by_cases hx : 0 ≤ x
  · rw [if_pos hx] at h ⊢
    exact apply1_back h
  · rw [if_neg hx] at h
    cases h

set_option maxHeartbeats 2000000 in
theorem back_walk (a0 : Option Addr) (n0 c0 : Nat) (l0 : List ByteArray) (W : World) (h0 : ArgS W a0 n0 c0 l0) {v : Value} {x : Int} {po pn : Option Addr} {no nn co cn : Nat} {o n : List ByteArray} (hh : ArgH W v x po pn no nn co cn o n) :
    Calls Try.prog 6 #[.slice a0 n0 c0, v] W fun e w' => e = .returned (.bool true) ∧ Fr None' W w' := by
  obtain ⟨rfl, ho, hn, hx1, hx2⟩ := hh
  have H0 : Hid (ArgS W a0 n0 c0 l0) := h0
  have HO : Hid (ArgS W po no co o) := ho
  have HN : Hid (ArgS W pn nn cn n) := hn
  obtain ⟨w1, hw1⟩ : ∃ w1, W.alloc (.cells #[.int .i64 x, .slice po no co, .slice pn nn cn] 24) = w1 := ⟨_, rfl⟩
  have F1 : Fr None' W w1 := hw1 ▸ Fr.alloc None' W _
  obtain ⟨b0, b1, b2⟩ := cell3 W 24 (.int .i64 x) (.slice po no co) (.slice pn nn cn)
  rw [hw1] at b0 b1 b2
  have G : Hid (∀ {w' : World}, Fr None' W w' → Calls Try.prog 10 #[.slice a0 n0 c0, .slice none 0 0] w' fun e w'' => Told l0 [] e ∧ w' = w'') := fun {w'} f => great_any a0 none c0 0 n0 0 l0 [] w' h0.len rfl (h0.row.fr f) (Row.nil _ _) (by have := h0.le; have := h0.top; omega) (by omega)
  clear h0 ho hn
  go_enter Try.func6, Try.ntmps6
  go_wp2_with (go_at_call 9; refine (head_any _).mono ?_; rintro e w2 ⟨rfl, F2⟩)
  have FW := F1.then F2
  replace b0 := F2.cell b0 (fun e => e)
  replace b1 := F2.cell b1 (fun e => e)
  replace b2 := F2.cell b2 (fun e => e)
  refine (G.out FW).mono ?_
  rintro e w3 ⟨⟨r, rfl, hr⟩, rfl⟩
  clear F1 F2 hw1
  cases r with
  | true =>
    go_wp2_with fail
    go_ret
    exact ⟨rfl, FW⟩
  | false =>
    obtain ⟨m0, _, _, _⟩ := hr rfl
    have HM0 : Hid (l0.length ≤ 200) := m0
    have HFW : Hid (Fr None' W w2) := FW
    have cG := greatHunk_any (x := x) (HO.out.kept FW) (HN.out.kept FW)
    clear hr m0 G FW
    go_wp2_with fail
    refine cG.mono ?_
    rintro e w4 ⟨⟨r, rfl, hr⟩, F4⟩
    have FV := HFW.out.then F4
    replace b0 := F4.cell b0 (fun e => e)
    replace b1 := F4.cell b1 (fun e => e)
    replace b2 := F4.cell b2 (fun e => e)
    clear cG F4
    cases r with
    | true =>
      go_wp2_with fail
      go_ret
      exact ⟨rfl, FV⟩
    | false =>
      obtain ⟨mo, mn, _, _⟩ := hr rfl
      have HM : Hid (l0.length ≤ 200 ∧ o.length ≤ 200 ∧ n.length ≤ 200) := ⟨HM0.out, mo, mn⟩
      have HFV : Hid (Fr None' W w4) := FV
      have e0 := H0.out.len
      have eo := HO.out.len
      have en := HN.out.len
      have cP := apply_arg x (H0.out.kept FV) (HO.out.kept FV) (HN.out.kept FV) (by have h := HM.out; omega) (by omega) (by omega) ⟨hx1, hx2⟩
      clear hr mo mn FV
      cases ha : applyI l0 x o n with
      | none =>
        rw [ha] at cP
        clear e0 eo en
        go_wp2_with fail
        refine cP.mono ?_
        rintro e w5 ⟨S5, rfl⟩
        have HF5 : Hid (Fr None' W w5) := HFV.out.then S5
        clear cP S5 b0 b1 b2
        go_wp2_with fail
        go_ret
        exact ⟨rfl, HF5.out⟩
      | some r =>
        rw [ha] at cP
        obtain ⟨hb, hl, hol⟩ := applyI_some ha
        have HLR : Hid (r.length = n0 - no + nn ∧ no ≤ n0) := by rw [e0, eo, en] at hl; rw [e0, eo] at hol; exact ⟨hl, hol⟩
        have HB : Hid (applyI r x n o = some l0) := hb
        have HI : Hid (n0 ≤ 200 ∧ no ≤ 200 ∧ nn ≤ 200) := by have h := HM.out; exact ⟨by omega, by omega, by omega⟩
        clear ha hb hl hol e0 eo en
        go_wp2_with fail
        refine cP.mono ?_
        rintro e w5 ⟨S5, u, rfl, ow⟩
        obtain ⟨mr, hmr⟩ : ∃ m, r.length = m := ⟨_, rfl⟩
        obtain ⟨pe, ce, rfl⟩ := sliceN (n := mr) ow (by rw [List.length_map, hmr])
        have F5 := HFV.out.then S5
        have AR := (OwnV.arg ow hmr (by have h := HLR.out; have h2 := HI.out; omega)).2
        have HMR : Hid (mr = n0 - no + nn ∧ mr ≤ 400) := by have h := HLR.out; have h2 := HI.out; exact ⟨by omega, by omega⟩
        have cQ := apply_arg x AR (HN.out.kept F5) (HO.out.kept F5) (by have h := HMR.out; omega) (by have h := HI.out; omega) (by have h := HI.out; omega) ⟨hx1, hx2⟩
        rw [HB.out] at cQ
        replace b0 := S5.cell b0 (fun e => e)
        replace b1 := S5.cell b1 (fun e => e)
        replace b2 := S5.cell b2 (fun e => e)
        have HF5 : Hid (Fr None' W w5) := F5
        clear cP S5 ow hmr AR F5
        go_wp2_with fail
        refine cQ.mono ?_
        rintro e w6 ⟨S6, u6, rfl, ow6⟩
        have F6 := HF5.out.then S6
        obtain ⟨pf, cf, rfl⟩ := sliceN (n := n0) ow6 (by rw [List.length_map]; exact H0.out.len)
        have A6 := (OwnV.arg ow6 H0.out.len (by have h := HI.out; omega)).2
        have cS := lSame_any pf a0 cf c0 l0 l0 w6 A6.row (H0.out.row.fr F6) (by have h := HM.out; omega)
        rw [H0.out.len, decide_eq_true rfl] at cS
        replace b1 := S6.cell b1 (fun e => e)
        replace b2 := S6.cell b2 (fun e => e)
        have HF6 : Hid (Fr None' W w6) := F6
        clear cQ S6 ow6 A6 F6 b0
        go_wp2_with fail
        refine cS.mono ?_
        rintro e w7 ⟨rfl, S7⟩
        replace b1 := S7.cell b1 (fun e => e)
        replace b2 := S7.cell b2 (fun e => e)
        have HF7 : Hid (Fr None' W w7) := HF6.out.then S7
        have z1 : (mr : Int) = (n0 : Int) - (no : Int) + (nn : Int) := by have h := HMR.out.1; have h2 := HLR.out.2; omega
        have z2 : (n0 : Int) ≤ 200 := by have h := HI.out; omega
        have z3 : (no : Int) ≤ (n0 : Int) := by have h := HLR.out.2; omega
        have z4 : (nn : Int) ≤ 200 := by have h := HI.out; omega
        clear cS S7
        go_wp2_with fail
        go_ret
        exact ⟨rfl, HF7.out⟩

end Go.Proofs.Ytoophkpmbinmlaa
