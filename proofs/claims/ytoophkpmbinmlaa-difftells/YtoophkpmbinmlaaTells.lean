/-
  What is proved here: the walk through DiffTells. Conditions: the arguments lie in memory.
-/
import Derived.Test.YtoophkpmbinmlaaBack1
import Derived.Test.YtoophkpmbinmlaaRDiff
import Derived.Test.YtoophkpmbinmlaaRApply
import Derived.Test.YtoophkpmbinmlaaRSame
import Derived.Test.YtoophkpmbinmlaaCostI
import Derived.Deep.RegionHeld3
namespace Go.Proofs.Ytoophkpmbinmlaa
open Go.RowKit Go.Shelf
set_option maxRecDepth 100000

/-- A hunk's three cells. -/
def RowH (x po pn : Value) (w : World) (b : Nat) : Prop := w.heap[b]? = some (.cells #[x, po, pn] 24)

theorem rowH_new (x po pn : Value) (w : World) : RowH x po pn (w.alloc (.cells #[x, po, pn] 24)) w.heap.size := heap_alloc_new w _
theorem rowH_old (x po pn : Value) (w : World) : RowH x po pn ((w.alloc (.cells #[x, po, pn] 24)).alloc (.cells #[x, po, pn] 24)) w.heap.size := (Fr.alloc None' _ _).at (heap_alloc_new w _) (fun e => e)
theorem rowH_two (x po pn : Value) (w : World) : RowH x po pn ((w.alloc (.cells #[x, po, pn] 24)).alloc (.cells #[x, po, pn] 24)) (w.heap.size + 1) := by
  have := heap_alloc_new (w.alloc (.cells #[x, po, pn] 24)) (.cells #[x, po, pn] 24)
  simpa [RowH] using this

theorem RowH.fr {x po pn : Value} {w w' : World} {b : Nat} (h : RowH x po pn w b) (f : Fr None' w w') : RowH x po pn w' b := f.at h (fun e => e)

theorem rowH_at {w : World} {b : Nat} {x : Int} {po pn : Option Addr} {no nn co cn : Nat} {o n : List ByteArray} (h : RowH (.int .i64 x) (.slice po no co) (.slice pn nn cn) w b) (ho : ArgS w po no co o) (hn : ArgS w pn nn cn n) : HIsAt w (.slice (some ⟨b, 0, none⟩) 1 1) [⟨x, o, n⟩] := by
  refine ⟨_, 1, rfl, (fun e => by cases e), fun k h' hk => ?_⟩
  have hlt := (List.getElem?_eq_some_iff.1 hk).1
  obtain rfl : k = 0 := by simpa using hlt
  simp at hk
  subst hk
  unfold RowH at h
  refine ⟨b, 0, .slice po no co, .slice pn nn cn, rfl, ?_, ?_, ?_, ⟨po, co, by rw [ho.len], ho.no, by rw [ho.len]; exact ho.le, ho.row⟩, ⟨pn, cn, by rw [hn.len], hn.no, by rw [hn.len]; exact hn.le, hn.row⟩⟩
  all_goals rw [World.cell?, h]; simp

theorem diffs_small (a b : List ByteArray) : (diffs a b).length ≤ a.length + b.length ∧ (∀ h ∈ diffs a b, h.o.length ≤ a.length + b.length ∧ h.n.length ≤ a.length + b.length) := by
  have h1 := cost_diffs a b
  have h2 : ∀ (L : List (Hk ByteArray)) (h : Hk ByteArray), h ∈ L → h.o.length + h.n.length ≤ cost L := by
    intro L
    induction L with
    | nil => intro h hm; cases hm
    | cons x L ih =>
      intro h hm
      rw [cost_cons]
      rcases List.mem_cons.1 hm with e | e
      · subst e; omega
      · have := ih h e; omega
  refine ⟨by omega, fun h hm => ?_⟩
  have := h2 _ h hm
  omega

theorem applyPost_row {w w' : World} {r : Option (List ByteArray)} {e : Ending} (h : ApplyPost w r e w') : ∃ p c, e = .returned (.tuple #[.slice p (r.getD []).length c, .bool r.isSome]) ∧ Row w' p (r.getD []) ∧ Fr None' w w' := by
  obtain ⟨f, h⟩ := h
  cases r with
  | none => exact ⟨none, 0, h, Row.nil _ _, f⟩
  | some l =>
    obtain ⟨v, rfl, ho⟩ := h
    obtain ⟨va, c, rfl, _, _, hr⟩ := ho.strAt
    exact ⟨va, c, rfl, hr, f⟩

theorem applyI_len {l o n : List ByteArray} {x : Int} : ((applyI l x o n).getD []).length ≤ l.length + n.length := by
  cases h : applyI l x o n with
  | none => simp
  | some r =>
    have := (applyI_some h).2.1
    simp only [Option.getD_some]
    omega

set_option maxHeartbeats 4000000 in
theorem tells_walk (a0 a1 : Option Addr) (n0 n1 c0 c1 : Nat) (l0 l1 : List ByteArray) (W : World) (h0 : ArgS W a0 n0 c0 l0) (h1 : ArgS W a1 n1 c1 l1) {v : Value} {x : Int} {po pn : Option Addr} {no nn co cn : Nat} {o n : List ByteArray} (hh : ArgH W v x po pn no nn co cn o n) :
    Calls Try.prog 3 #[.slice a0 n0 c0, .slice a1 n1 c1, v] W fun e w' => e = .returned (.bool true) ∧ Fr None' W w' := by
  obtain ⟨rfl, ho, hn, hx1, hx2⟩ := hh
  have H0 : Hid (ArgS W a0 n0 c0 l0) := h0
  have H1 : Hid (ArgS W a1 n1 c1 l1) := h1
  have HO : Hid (ArgS W po no co o) := ho
  have HN : Hid (ArgS W pn nn cn n) := hn
  obtain ⟨w1, hw1⟩ : ∃ w1, W.alloc (.cells #[.int .i64 x, .slice po no co, .slice pn nn cn] 24) = w1 := ⟨_, rfl⟩
  have F1 : Fr None' W w1 := hw1 ▸ Fr.alloc None' W _
  obtain ⟨b0, b1, b2⟩ := cell3 W 24 (.int .i64 x) (.slice po no co) (.slice pn nn cn)
  rw [hw1] at b0 b1 b2
  have G : Hid (∀ {w' : World}, Fr None' W w' → Calls Try.prog 10 #[.slice a0 n0 c0, .slice a1 n1 c1] w' fun e w'' => Told l0 l1 e ∧ w' = w'') := fun {w'} f => great_any a0 a1 c0 c1 n0 n1 l0 l1 w' h0.len h1.len (h0.row.fr f) (h1.row.fr f) (by have := h0.le; have := h0.top; omega) (by have := h1.le; have := h1.top; omega)
  clear h0 h1 ho hn
  go_enter Try.func3, Try.ntmps3
  go_wp2_with (go_at_call 9; refine (head_any _).mono ?_; rintro e w2 ⟨rfl, F2⟩)
  have FW := F1.then F2
  replace b0 := F2.cell b0 (fun e => e)
  replace b1 := F2.cell b1 (fun e => e)
  replace b2 := F2.cell b2 (fun e => e)
  refine (G.out FW).mono ?_
  rintro e w3 ⟨⟨r, rfl, hr⟩, rfl⟩
  clear F1 F2 hw1
  cases r with
  | true =>
    go_wp2_with fail
    go_ret
    exact ⟨rfl, FW⟩
  | false =>
    obtain ⟨m0, m1, z0, z1⟩ := hr rfl
    have HM0 : Hid (l0.length ≤ 200 ∧ l1.length ≤ 200 ∧ (∀ s ∈ l0, s.size ≤ 3000) ∧ ∀ s ∈ l1, s.size ≤ 3000) := ⟨m0, m1, z0, z1⟩
    have HFW : Hid (Fr None' W w2) := FW
    have cG := greatHunk_any (x := x) (HO.out.kept FW) (HN.out.kept FW)
    clear hr m0 m1 z0 z1 G FW
    go_wp2_with fail
    refine cG.mono ?_
    rintro e w4 ⟨⟨r, rfl, hr⟩, F4⟩
    have FV := HFW.out.then F4
    replace b0 := F4.cell b0 (fun e => e)
    replace b1 := F4.cell b1 (fun e => e)
    replace b2 := F4.cell b2 (fun e => e)
    clear cG F4
    cases r with
    | true =>
      go_wp2_with fail
      go_ret
      exact ⟨rfl, FV⟩
    | false =>
      obtain ⟨mo, mn, _, _⟩ := hr rfl
      have HM : Hid (o.length ≤ 200 ∧ n.length ≤ 200) := ⟨mo, mn⟩
      have HFV : Hid (Fr None' W w4) := FV
      have HI0 : Hid (n0 ≤ 200 ∧ n1 ≤ 200 ∧ no ≤ 200 ∧ nn ≤ 200) := by
        have e0 := H0.out.len; have e1 := H1.out.len; have eo := HO.out.len; have en := HN.out.len
        have h := HM0.out
        exact ⟨by omega, by omega, by omega, by omega⟩
      have cD := diff_small (H0.out.kept FV) (H1.out.kept FV) (by have h := HI0.out; omega) (by have h := HI0.out; omega) HM0.out.2.2.1 HM0.out.2.2.2
      clear hr mo mn FV HFW
      go_wp2_with fail
      refine cD.mono ?_
      rintro e w5 ⟨v1, rfl, k1, F5⟩
      have HF5 : Hid (Fr None' W w5) := HFV.out.then F5
      have HK1 : Hid (HunksAt w5 v1 (diffs l0 l1)) := k1
      replace b0 := F5.cell b0 (fun e => e)
      replace b1 := F5.cell b1 (fun e => e)
      replace b2 := F5.cell b2 (fun e => e)
      have cR := rdiff_any (H0.out.kept HF5.out) (H1.out.kept HF5.out) (by have h := HI0.out; omega) (by have h := HI0.out; omega)
      clear cD F5 k1 HFV
      go_wp2_with fail
      refine cR.mono ?_
      rintro e w6 ⟨v2, rfl, k2, F6⟩
      have HF6 : Hid (Fr None' W w6) := HF5.out.then F6
      have HK2 : Hid (HunksAt w6 v1 (diffs l0 l1) ∧ HunksAt w6 v2 (diffs l0 l1)) := ⟨HK1.out.kept F6, k2⟩
      replace b0 := F6.cell b0 (fun e => e)
      replace b1 := F6.cell b1 (fun e => e)
      replace b2 := F6.cell b2 (fun e => e)
      have cP := apply_arg x (H0.out.kept HF6.out) (HO.out.kept HF6.out) (HN.out.kept HF6.out) (by have h := HI0.out; omega) (by have h := HI0.out; omega) (by have h := HI0.out; omega) ⟨hx1, hx2⟩
      clear cR F6 k2 HK1 HF5
      go_wp2_with fail
      refine cP.mono ?_
      rintro e w7 hP
      obtain ⟨pu, cu, rfl, rU, F7⟩ := applyPost_row hP
      have HF7 : Hid (Fr None' W w7) := HF6.out.then F7
      have HK3 : Hid (HunksAt w7 v1 (diffs l0 l1) ∧ HunksAt w7 v2 (diffs l0 l1)) := ⟨HK2.out.1.kept F7, HK2.out.2.kept F7⟩
      have HL : Hid (((applyI l0 x o n).getD []).length ≤ 400) := by
        have h := applyI_len (l := l0) (o := o) (n := n) (x := x)
        have h2 := HM0.out
        have h3 := HM.out
        show _ ≤ _
        omega
      have cQ := rapply_arg x (H0.out.kept HF7.out) (HO.out.kept HF7.out) (HN.out.kept HF7.out) (by have h := HI0.out; omega) (by have h := HI0.out; omega) (by have h := HI0.out; omega) ⟨hx1, hx2⟩
      obtain ⟨R, hR⟩ : ∃ R, applyI l0 x o n = R := ⟨_, rfl⟩
      rw [hR] at rU HL cQ ⊢
      replace b0 := F7.cell b0 (fun e => e)
      replace b1 := F7.cell b1 (fun e => e)
      replace b2 := F7.cell b2 (fun e => e)
      have HU : Hid (Row w7 pu (R.getD [])) := rU
      clear cP hP F7 rU HK2 HF6 hR
      obtain ⟨X, hX⟩ : ∃ X, R.getD [] = X := ⟨_, rfl⟩
      obtain ⟨B, hB⟩ : ∃ B, R.isSome = B := ⟨_, rfl⟩
      obtain ⟨mX, hmX⟩ : ∃ m, X.length = m := ⟨_, rfl⟩
      have HR : Hid (R.getD [] = X ∧ R.isSome = B ∧ X.length = mX) := ⟨hX, hB, hmX⟩
      rw [hX, hB, hmX]
      rw [hX] at HU HL
      clear hX hB hmX
      go_wp2_with fail
      refine cQ.mono ?_
      rintro e w8 hQ
      obtain ⟨pv, cv, rfl, rV, F8⟩ := applyPost_row hQ
      rw [HR.out.1] at rV
      rw [HR.out.1, HR.out.2.1, HR.out.2.2]
      have HF8 : Hid (Fr None' W w8) := HF7.out.then F8
      replace b0 := F8.cell b0 (fun e => e)
      replace b1 := F8.cell b1 (fun e => e)
      replace b2 := F8.cell b2 (fun e => e)
      have k1 := HK3.out.1.kept F8
      have k2 := HK3.out.2.kept F8
      have rU := HU.out.fr F8
      have hD := diffs_small l0 l1
      have hC := (cost_diffs l0 l1).1
      have hm0 := HM0.out
      have q1 : ∀ w', Fr None' w8 w' → Calls Try.prog 16 #[v1, v2] w' fun e w'' => e = .returned (.bool true) ∧ Fr None' w8 w'' := fun w' f => (rSame_any v1 v2 _ w' (k1.kept f) (k2.kept f) (by omega) (fun h hm => by have := hD.2 h hm; omega)).mono fun _ _ h => ⟨h.1, f.then h.2⟩
      have q2 : ∀ w', Fr None' w8 w' → Calls Try.prog 17 #[.slice pu mX cu, .slice pv mX cv] w' fun e w'' => e = .returned (.bool true) ∧ Fr None' w8 w'' := fun w' f => by
        have h := lSame_any pu pv cu cv X X w' (rU.fr f) (rV.fr f) (by have := HL.out; omega)
        rw [HR.out.2.2, decide_eq_true rfl] at h
        exact h.mono fun _ _ h => ⟨h.1, f.then h.2⟩
      obtain ⟨N1, hN1⟩ : ∃ N, cost (diffs l0 l1) = N := ⟨_, rfl⟩
      obtain ⟨N2, hN2⟩ : ∃ N, costI [⟨x, o, n⟩] = N := ⟨_, rfl⟩
      have hN2b : costI [⟨x, o, n⟩] ≤ 1000000 := by have h := HM.out; simp [costI]; omega
      have q3 : ∀ w', Fr None' w8 w' → Calls Try.prog 18 #[v1] w' fun e w'' => e = .returned (.int .i64 N1) ∧ Fr None' w8 w'' := fun w' f => hN1 ▸ (cost_any v1 _ w' (k1.kept f) (by omega) (by omega)).mono fun _ _ h => ⟨h.1, f.then h.2⟩
      have q4 : ∀ w', Fr None' w8 w' → Calls Try.prog 19 #[v2] w' fun e w'' => e = .returned (.int .i64 N1) ∧ Fr None' w8 w'' := fun w' f => hN1 ▸ (rcost_any v2 _ w' (k2.kept f) (by omega) (by omega)).mono fun _ _ h => ⟨h.1, f.then h.2⟩
      have q5 : ∀ w' b, Fr None' w8 w' → RowH (.int .i64 x) (.slice po no co) (.slice pn nn cn) w' b → Calls Try.prog 18 #[.slice (some ⟨b, 0, none⟩) 1 1] w' fun e w'' => e = .returned (.int .i64 N2) ∧ Fr None' w8 w'' ∧ Fr None' w' w'' := fun w' b f hb => hN2 ▸ (costI_any _ _ w' (rowH_at hb (HO.out.kept (HF8.out.then f)) (HN.out.kept (HF8.out.then f))) hN2b (by simp)).mono fun _ _ h => ⟨h.1, f.then h.2, h.2⟩
      have q6 : ∀ w' b, Fr None' w8 w' → RowH (.int .i64 x) (.slice po no co) (.slice pn nn cn) w' b → Calls Try.prog 19 #[.slice (some ⟨b, 0, none⟩) 1 1] w' fun e w'' => e = .returned (.int .i64 N2) ∧ Fr None' w8 w'' ∧ Fr None' w' w'' := fun w' b f hb => hN2 ▸ (rcostI_any _ _ w' (rowH_at hb (HO.out.kept (HF8.out.then f)) (HN.out.kept (HF8.out.then f))) hN2b (by simp)).mono fun _ _ h => ⟨h.1, f.then h.2, h.2⟩
      have Q1 : Hid (∀ w', Fr None' w8 w' → Calls Try.prog 16 #[v1, v2] w' fun e w'' => e = .returned (.bool true) ∧ Fr None' w8 w'') := q1
      have Q2 : Hid (∀ w', Fr None' w8 w' → Calls Try.prog 17 #[.slice pu mX cu, .slice pv mX cv] w' fun e w'' => e = .returned (.bool true) ∧ Fr None' w8 w'') := q2
      have Q3 : Hid (∀ w', Fr None' w8 w' → Calls Try.prog 18 #[v1] w' fun e w'' => e = .returned (.int .i64 N1) ∧ Fr None' w8 w'') := q3
      have Q4 : Hid (∀ w', Fr None' w8 w' → Calls Try.prog 19 #[v2] w' fun e w'' => e = .returned (.int .i64 N1) ∧ Fr None' w8 w'') := q4
      have Q5 : Hid (∀ w' b, Fr None' w8 w' → RowH (.int .i64 x) (.slice po no co) (.slice pn nn cn) w' b → Calls Try.prog 18 #[.slice (some ⟨b, 0, none⟩) 1 1] w' fun e w'' => e = .returned (.int .i64 N2) ∧ Fr None' w8 w'' ∧ Fr None' w' w'') := q5
      have Q6 : Hid (∀ w' b, Fr None' w8 w' → RowH (.int .i64 x) (.slice po no co) (.slice pn nn cn) w' b → Calls Try.prog 19 #[.slice (some ⟨b, 0, none⟩) 1 1] w' fun e w'' => e = .returned (.int .i64 N2) ∧ Fr None' w8 w'' ∧ Fr None' w' w'') := q6
      have HS : Hid (∀ w', Fr None' w8 w' → Fr None' w8 w' ∧ w'.cell? ⟨W.heap.size, 0, none⟩ = some (.int .i64 x) ∧ w'.cell? ⟨W.heap.size, 1, none⟩ = some (.slice po no co) ∧ w'.cell? ⟨W.heap.size, 2, none⟩ = some (.slice pn nn cn)) := fun w' f => ⟨f, f.cell b0 (fun e => e), f.cell b1 (fun e => e), f.cell b2 (fun e => e)⟩
      clear q1 q2 q3 q4 q5 q6 hN1 hN2 hN2b hD hC hm0 k1 k2 rU rV cQ hQ F8 HK3 HU HF7
      go_wp2_with fail
      go_region_held3 (fun w' => Fr None' w8 w' ∧ w'.cell? ⟨W.heap.size, 0, none⟩ = some (.int .i64 x) ∧ w'.cell? ⟨W.heap.size, 1, none⟩ = some (.slice po no co) ∧ w'.cell? ⟨W.heap.size, 2, none⟩ = some (.slice pn nn cn))
        (exact HS.out _ (by first | assumption | exact fr_drew None' w8 | exact Fr.drewN None' w8 1 | exact Fr.then (by assumption) (Fr.alloc None' _ _) | exact Fr.then (Fr.then (by assumption) (Fr.alloc None' _ _)) (Fr.alloc None' _ _)))
        (first
          | (go_at_call 16; with_reducible (refine (Q1.out _ (by first | assumption | exact fr_drew None' w8 | exact Fr.drewN None' w8 1 | exact Fr.then (by assumption) (Fr.alloc None' _ _) | exact Fr.then (Fr.then (by assumption) (Fr.alloc None' _ _)) (Fr.alloc None' _ _))).mono ?_); rintro e wx ⟨rfl, fx⟩)
          | (go_at_call 17; with_reducible (refine (Q2.out _ (by first | assumption | exact fr_drew None' w8 | exact Fr.drewN None' w8 1 | exact Fr.then (by assumption) (Fr.alloc None' _ _) | exact Fr.then (Fr.then (by assumption) (Fr.alloc None' _ _)) (Fr.alloc None' _ _))).mono ?_); rintro e wx ⟨rfl, fx⟩)
          | (go_at_call 18; with_reducible (refine (Q5.out _ _ (by first | assumption | exact fr_drew None' w8 | exact Fr.drewN None' w8 1 | exact Fr.then (by assumption) (Fr.alloc None' _ _) | exact Fr.then (Fr.then (by assumption) (Fr.alloc None' _ _)) (Fr.alloc None' _ _)) (by first | exact rowH_new _ _ _ _ | exact rowH_old _ _ _ _ | exact rowH_two _ _ _ _ | exact RowH.fr (rowH_old _ _ _ _) (by assumption) | exact RowH.fr (rowH_two _ _ _ _) (by assumption))).mono ?_); rintro e wx ⟨rfl, fx, fy⟩)
          | (go_at_call 19; with_reducible (refine (Q6.out _ _ (by first | assumption | exact fr_drew None' w8 | exact Fr.drewN None' w8 1 | exact Fr.then (by assumption) (Fr.alloc None' _ _) | exact Fr.then (Fr.then (by assumption) (Fr.alloc None' _ _)) (Fr.alloc None' _ _)) (by first | exact rowH_new _ _ _ _ | exact rowH_old _ _ _ _ | exact rowH_two _ _ _ _ | exact RowH.fr (rowH_old _ _ _ _) (by assumption) | exact RowH.fr (rowH_two _ _ _ _) (by assumption))).mono ?_); rintro e wx ⟨rfl, fx, fy⟩)
          | (go_at_call 18; with_reducible (refine (Q3.out _ (by first | assumption | exact fr_drew None' w8 | exact Fr.drewN None' w8 1 | exact Fr.then (by assumption) (Fr.alloc None' _ _) | exact Fr.then (Fr.then (by assumption) (Fr.alloc None' _ _)) (Fr.alloc None' _ _))).mono ?_); rintro e wx ⟨rfl, fx⟩)
          | (go_at_call 19; with_reducible (refine (Q4.out _ (by first | assumption | exact fr_drew None' w8 | exact Fr.drewN None' w8 1 | exact Fr.then (by assumption) (Fr.alloc None' _ _) | exact Fr.then (Fr.then (by assumption) (Fr.alloc None' _ _)) (Fr.alloc None' _ _))).mono ?_); rintro e wx ⟨rfl, fx⟩))
      all_goals go_wp2
      all_goals go_ret
      all_goals exact ⟨rfl, HF8.out.then (by assumption)⟩

end Go.Proofs.Ytoophkpmbinmlaa
