/-
  What is proved here: whether a patch's Deps, and its Body, are right, as the program tells it; whether a patch is. Conditions: it lies in memory, and is of bounded size.
-/
import Derived.Test.YtbiilnhefoplkaaGreatDoorM18ZRig13
import Derived.Laws.Cover1
namespace Go.Proofs.YtbiilnhefoplkaaGreatDoor
open Go.RowKit Go.Shelf
set_option maxRecDepth 100000

theorem less_13 (a b : ByteArray) : Op.bytesLess a.toList b.toList = decide (unB a < unB b) := by
  rw [ByteArray.toList_eq, ByteArray.toList_eq, Go.Proofs.bytesLess_eq]
  rfl

theorem unB_inj {a b : ByteArray} (h : unB a = unB b) : a = b := by
  rw [← mk_un a, ← mk_un b, h]

theorem deps_step (N : B13) (D : List ByteArray) {k : Nat} (hk : k < D.length) (la : B13) : depsB N la ((D.drop k).map unB) = (labelB (unB D[k]) && decide (la < unB D[k]) && !decide (unB D[k] = N) && depsB N (unB D[k]) ((D.drop (k + 1)).map unB)) := by
  rw [List.drop_eq_getElem_cons hk, List.map_cons, depsB]

set_option maxHeartbeats 4000000 in
theorem rightDeps_any (N : ByteArray) (D : List ByteArray) (vd vb : Value) (pb : Option Addr) (nb cb : Nat) (w : World) (hd : StrsAt w vd D) (hvb : vb = .slice pb nb cb) (hn : D.length ≤ 140737488355328) (hs : ∀ x ∈ D, x.size ≤ 140737488355328) :
    Calls Tryz.prog 50 #[.agg #[.string N, vd, vb]] w fun e w' => e = .returned (.bool (decide (D.length ≤ 256) && depsB (unB N) [] (D.map unB))) ∧ Fr None' w w' := by
  subst hvb
  have HDv := toHid8 hd
  obtain ⟨pa, ca, e1, _⟩ := hd
  subst e1
  obtain ⟨n, hna⟩ : ∃ n, D.length = n := ⟨_, rfl⟩
  have HA := toHid8 hna
  have HS := toHid8 hs
  obtain ⟨w1, hw1⟩ : ∃ w1, w.alloc (.cells #[.string N, .slice pa n ca, .slice pb nb cb] 36) = w1 := ⟨_, rfl⟩
  have F1 : Fr None' w w1 := hw1 ▸ Fr.alloc None' w _
  have B1 : Box3 w1 w.heap.size (.string N) (.slice pa n ca) (.slice pb nb cb) := hw1 ▸ Box3.new w _ _ _
  have HF1 := toHid8 F1
  have HB := toHid8 (fun w' (f : Fr None' w1 w') => (B1.kept f).cells)
  rw [hna] at hn ⊢
  obtain ⟨a0, a1, a2⟩ := B1.cells
  by_cases h256 : n ≤ 256
  case neg =>
    rw [decide_eq_false h256, Bool.false_and]
    have i1 : (256 : Int) < (n : Int) := by omega
    clear hna hs F1 B1 h256 hn
    go_enter Tryz.func50, Tryz.ntmps50
    go_wp2_with fail
    go_ret
    exact ⟨rfl, HF1.out⟩
  rw [decide_eq_true h256, Bool.true_and]
  have i1 : ¬ (256 : Int) < (n : Int) := by omega
  obtain ⟨R, hR⟩ : ∃ R, depsB (unB N) [] (D.map unB) = R := ⟨_, rfl⟩
  have HR := toHid8 (show depsB (unB N) (unB ⟨#[]⟩) ((D.drop 0).map unB) = R from hR)
  rw [hR]
  clear hna hs F1 B1 h256 hn hR
  go_enter Tryz.func50, Tryz.ntmps50
  go_wp2_with fail
  go_loopw [3, 13] (fun vl vi wr => ∃ (k : Nat) (la : ByteArray), k ≤ n ∧ vi = .int .i64 k ∧ vl = .string la ∧ Hid (depsB (unB N) (unB la) ((D.drop k).map unB) = R) ∧ Hid (Fr None' w1 wr)) (fun _ vi _ => n - (intOf vi).toNat)
  case atStart => exact ⟨0, ⟨#[]⟩, Nat.zero_le _, rfl, rfl, HR.out, Fr.refl _ _⟩
  case round =>
    obtain ⟨k, la, hk, rfl, rfl, HK, HF⟩ := hrel
    by_cases hlt : k < n
    · have hka : k < D.length := by rw [HA.out]; exact hlt
      obtain ⟨pa', ca', e, _, _, hrow⟩ := HDv.out.kept (HF1.out.then7 HF.out)
      cases e
      obtain ⟨ga, oa, rfl, c1⟩ := hrow.get hka
      have hst := deps_step (unB N) D hka (unB la)
      rw [HK.out] at hst
      have hsz := HS.out _ (List.getElem_mem hka)
      obtain ⟨x, hx⟩ : ∃ x, D[k] = x := ⟨_, rfl⟩
      rw [hx] at hst hsz c1
      have q1 := label_any x wr hsz
      have i2 : (k : Int) < n := by omega
      obtain ⟨L, hL⟩ : ∃ L, labelB (unB x) = L := ⟨_, rfl⟩
      rw [hL] at hst q1
      have HSt := toHid8 hst
      clear hrow hst hx hsz hL
      cases L with
      | false =>
        go_wp2_with fail
        with_reducible refine q1.mono ?_
        rintro e w2 ⟨rfl, f2⟩
        have HF2 := toHid8 (HF1.out.then7 (HF.out.then7 f2))
        have e2 : R = false := by have := HSt.out; simpa using this
        clear q1 f2
        go_wp2_with fail
        go_ret
        exact ⟨by rw [e2]; rfl, HF2.out⟩
      | true =>
        by_cases hl : unB la < unB x
        case neg =>
          have e2 : R = false := by have := HSt.out; rw [decide_eq_false hl] at this; simpa using this
          by_cases hxl : unB x < unB la
          · have b1 : Op.bytesLess x.toList la.toList = true := by rw [less_13]; exact decide_eq_true hxl
            clear hl hxl
            go_wp2_with fail
            with_reducible refine q1.mono ?_
            rintro e w2 ⟨rfl, f2⟩
            have HF2 := toHid8 (HF1.out.then7 (HF.out.then7 f2))
            clear q1 f2
            go_wp2_with fail
            go_ret
            exact ⟨by rw [e2]; rfl, HF2.out⟩
          · have b1 : Op.bytesLess x.toList la.toList = false := by rw [less_13]; exact decide_eq_false hxl
            have e3 : x = la := unB_inj (List.le_antisymm (List.not_lt.1 hl) (List.not_lt.1 hxl))
            subst e3
            clear hl hxl
            go_wp2_with fail
            with_reducible refine q1.mono ?_
            rintro e w2 ⟨rfl, f2⟩
            have HF2 := toHid8 (HF1.out.then7 (HF.out.then7 f2))
            clear q1 f2
            go_wp2_with fail
            go_ret
            exact ⟨by rw [e2]; rfl, HF2.out⟩
        case pos =>
          have b1 : Op.bytesLess x.toList la.toList = false := by rw [less_13]; exact decide_eq_false (fun h => List.lt_irrefl _ (List.lt_trans h hl))
          obtain ⟨b2, b3⟩ := Lines.str_no (x := x) (y := la) (fun e => by rw [e] at hl; exact List.lt_irrefl _ hl)
          by_cases hN : x = N
          · have e2 : R = false := by have := HSt.out; rw [hN] at this; simpa using this
            have b5 : (x.toList == N.toList) = true := by rw [hN]; simp
            have HN := toHid8 hN
            clear hl hN
            go_wp2_with fail
            with_reducible refine q1.mono ?_
            rintro e w2 ⟨rfl, f2⟩
            have HF2 := toHid8 (HF1.out.then7 (HF.out.then7 f2))
            obtain ⟨a0, a1, a2⟩ := HB.out w2 (HF.out.then7 f2)
            clear q1 f2
            go_wp2_with fail
            go_ret
            exact ⟨by rw [e2]; rfl, HF2.out⟩
          · obtain ⟨b4, b5⟩ := Lines.str_no hN
            have HSt2 := toHid8 (show depsB (unB N) (unB x) ((D.drop (k + 1)).map unB) = R by
              have h1 := HSt.out
              rw [decide_eq_true hl, decide_eq_false (fun e => hN (unB_inj e))] at h1
              simpa using h1.symm)
            clear hl hN
            go_wp2_with fail
            with_reducible refine q1.mono ?_
            rintro e w2 ⟨rfl, f2⟩
            have HF2 := toHid8 (HF.out.then7 f2)
            obtain ⟨a0, a1, a2⟩ := HB.out w2 HF2.out
            clear q1 f2
            go_wp2_with fail
            exact ⟨⟨k + 1, x, by omega, by go_num, rfl, HSt2.out, HF2.out⟩, by simp [intOf]; omega⟩
    · obtain rfl : k = n := by omega
      have e2 : true = R := by have h1 := HK.out; rw [List.drop_of_length_le (by rw [HA.out]; exact Nat.le_refl _)] at h1; exact h1
      go_wp2_with fail
      go_ret
      exact ⟨by rw [← e2]; rfl, HF1.out.then7 HF.out⟩

set_option maxHeartbeats 4000000 in
theorem rightBody_any (pb : Option Addr) (n cb : Nat) (L : List Pr) (w : World) (hl : L.length = n) (hb : PrsAt w pb L) (hn : n ≤ 140737488355328) (hs : ∀ x ∈ L, BigP x) :
    Calls Tryz.prog 51 #[.slice pb n cb] w fun e w' => e = .returned (.bool (decide (n ≤ 256) && L.all rightP)) ∧ Fr None' w w' := by
  have HL := toHid8 hl
  have HBd := toHid8 hb
  have HS := toHid8 hs
  by_cases h256 : n ≤ 256
  case neg =>
    rw [decide_eq_false h256, Bool.false_and]
    have i1 : (256 : Int) < (n : Int) := by omega
    clear hl hb hn hs h256
    go_enter Tryz.func51, Tryz.ntmps51
    go_wp2_with fail
    go_ret
    exact ⟨rfl, Fr.refl _ _⟩
  rw [decide_eq_true h256, Bool.true_and]
  have i1 : ¬ (256 : Int) < (n : Int) := by omega
  obtain ⟨R, hR⟩ : ∃ R, L.all rightP = R := ⟨_, rfl⟩
  have HR := toHid8 (show (L.drop 0).all rightP = R from hR)
  rw [hR]
  clear hl hb hn hs h256 hR
  go_enter Tryz.func51, Tryz.ntmps51
  go_wp2_with fail
  go_loopw [10] (fun vi wr => ∃ k : Nat, k ≤ n ∧ vi = .int .i64 k ∧ Hid ((L.drop k).all rightP = R) ∧ Hid (Fr None' w wr)) (fun vi _ => n - (intOf vi).toNat)
  case atStart => exact ⟨0, Nat.zero_le _, rfl, HR.out, Fr.refl _ _⟩
  case round =>
    obtain ⟨k, hk, rfl, HK, HF⟩ := hrel
    by_cases hlt : k < n
    · have hka : k < L.length := by rw [HL.out]; exact hlt
      have hst := HK.out
      rw [List.drop_eq_getElem_cons hka, List.all_cons] at hst
      have HSx := HS.out _ (List.getElem_mem hka)
      obtain ⟨g, o, rfl, vo, vn, c0, c1, c2, c3, c4, c5, c6, s1, s2⟩ := (HBd.out.kept HF.out).get hka
      obtain ⟨x, hx⟩ : ∃ x, L[k] = x := ⟨_, rfl⟩
      rw [hx] at hst HSx c0 c1 c2 c3 c4 s1 s2
      have s1c := s1
      obtain ⟨po, co, e1, _⟩ := s1c
      have s2c := s2
      obtain ⟨pn, cn, e2, _⟩ := s2c
      subst e1 e2
      obtain ⟨w5, hw5⟩ : ∃ w5, wr.alloc (.cells #[.int .i64 x.kind, .string x.path, .string x.dst, .string x.src, .int .i64 x.pos, .slice po x.old.length co, .slice pn x.new.length cn] 67) = w5 := ⟨_, rfl⟩
      have F5 : Fr None' wr w5 := hw5 ▸ Fr.alloc None' wr _
      have B5 : Box w5 wr.heap.size (.int .i64 x.kind) (.string x.path) (.string x.dst) (.string x.src) (.int .i64 x.pos) (.slice po x.old.length co) (.slice pn x.new.length cn) := hw5 ▸ Box.new wr _ _ _ _ _ _ _
      obtain ⟨b0, b1, b2, b3, b4, b5, b6⟩ := B5.cells
      have q1 := qright_any x _ _ w5 (s1.kept F5) (s2.kept F5) HSx
      have HF5 := toHid8 (HF.out.then7 F5)
      have i2 : (k : Int) < (n : Int) := by omega
      have i3 : (0 : Int) ≤ (k : Int) := by omega
      obtain ⟨X, hX⟩ : ∃ X, rightP x = X := ⟨_, rfl⟩
      rw [hX] at hst q1
      have HSt := toHid8 hst
      clear hst hX HSx s1 s2 F5 B5 hx
      obtain ⟨XK, XP, XT, XF, XA, XO, XN⟩ := x
      simp only at c0 c1 c2 c3 c4 c5 c6 b0 b1 b2 b3 b4 b5 b6 q1 hw5
      generalize XO.length = xo at c5 b5 q1 hw5
      generalize XN.length = xn at c6 b6 q1 hw5
      cases X with
      | false =>
        have e2 : R = false := by have := HSt.out; simpa using this.symm
        go_wp2_with fail
        with_reducible refine q1.mono ?_
        rintro e w6 ⟨rfl, f6⟩
        have HF6 := toHid8 (HF5.out.then7 f6)
        clear q1 f6
        go_wp2_with fail
        go_ret
        exact ⟨by rw [e2]; rfl, HF6.out⟩
      | true =>
        have HSt2 := toHid8 (show (L.drop (k + 1)).all rightP = R by have := HSt.out; simpa using this)
        go_wp2_with fail
        with_reducible refine q1.mono ?_
        rintro e w6 ⟨rfl, f6⟩
        have HF6 := toHid8 (HF5.out.then7 f6)
        clear q1 f6 b0 b1 b2 b3 b4 b5 b6 c0 c1 c2 c3 c4 c5 c6 hw5
        go_wp2_with fail
        exact ⟨⟨k + 1, by omega, by go_num, HSt2.out, HF6.out⟩, by simp [intOf]; omega⟩
    · obtain rfl : k = n := by omega
      have e2 := HK.out
      rw [List.drop_of_length_le (by rw [HL.out]; exact Nat.le_refl _)] at e2
      have HE := toHid8 (show true = R from e2)
      clear e2
      go_wp2_with fail
      go_ret
      exact ⟨by rw [← HE.out]; rfl, HF.out⟩

/-- A named patch of bounded size. -/
structure BigPa (p : Pa) : Prop where
  name : p.name.size ≤ 140737488355328
  deps : p.deps.length ≤ 140737488355328 ∧ ∀ y ∈ p.deps, y.size ≤ 140737488355328
  body : p.body.length ≤ 140737488355328 ∧ ∀ x ∈ p.body, BigP x
  lines : ∀ x ∈ p.body, (∀ y ∈ x.old, y.size < 140737488355329) ∧ ∀ y ∈ x.new, y.size < 140737488355329

set_option maxHeartbeats 4000000 in
theorem nright_any (p : Pa) (vd : Value) (pb : Option Addr) (cb : Nat) (w : World) (hd : StrsAt w vd p.deps) (hb : PrsAt w pb p.body) (hs : BigPa p) :
    Calls Tryz.prog 38 #[.agg #[.string p.name, vd, .slice pb p.body.length cb]] w fun e w' => e = .returned (.bool (rightPa p)) ∧ Fr None' w w' := by
  obtain ⟨N, D, L⟩ := p
  obtain ⟨zN, zD, zL, _⟩ := hs
  simp only at hd hb zN zD zL ⊢
  have hR : rightPa ⟨N, D, L⟩ = (labelB (unB N) && (decide (D.length ≤ 256) && depsB (unB N) [] (D.map unB)) && (decide (L.length ≤ 256) && L.all rightP)) := rfl
  obtain ⟨w1, hw1⟩ : ∃ w1, w.alloc (.cells #[.string N, vd, .slice pb L.length cb] 36) = w1 := ⟨_, rfl⟩
  have F1 : Fr None' w w1 := hw1 ▸ Fr.alloc None' w _
  have B1 : Box3 w1 w.heap.size (.string N) vd (.slice pb L.length cb) := hw1 ▸ Box3.new w _ _ _
  have hd' := hd
  obtain ⟨pa, ca, ed, _⟩ := hd'
  subst ed
  have q1 := label_any N w1 zN
  have q2 := toHid8 (fun w' (f : Fr None' w1 w') => rightDeps_any N D _ _ pb L.length cb w' (hd.kept (F1.then7 f)) rfl zD.1 zD.2)
  have q3 := toHid8 (fun w' (f : Fr None' w1 w') => rightBody_any pb L.length cb L w' rfl (hb.kept (F1.then7 f)) zL.1 zL.2)
  rw [hR]
  generalize labelB (unB N) = RN at q1 hR ⊢
  generalize (decide (D.length ≤ 256) && depsB (unB N) [] (D.map unB)) = RD at q2 hR ⊢
  generalize (decide (L.length ≤ 256) && L.all rightP) = RL at q3 hR ⊢
  have HB := toHid8 (fun w' (f : Fr None' w1 w') => (B1.kept f).cells)
  have HF1 := toHid8 F1
  generalize D.length = m at *
  generalize L.length = n at *
  obtain ⟨a0, a1, a2⟩ := B1.cells
  clear hR hd hb zN zD zL F1 B1
  cases RN with
  | false =>
    go_enter Tryz.func38, Tryz.ntmps38
    go_wp2_with fail
    with_reducible refine q1.mono ?_
    rintro e w2 ⟨rfl, f2⟩
    have HF2 := toHid8 (HF1.out.then7 f2)
    clear q1 f2
    go_wp2_with fail
    go_ret
    exact ⟨rfl, HF2.out⟩
  | true =>
    cases RD with
    | false =>
      go_enter Tryz.func38, Tryz.ntmps38
      go_wp2_with fail
      with_reducible refine q1.mono ?_
      rintro e w2 ⟨rfl, f2⟩
      have q4 := q2.out w2 f2
      have HF2 := toHid8 f2
      clear a0 a1 a2
      obtain ⟨a0, a1, a2⟩ := HB.out w2 f2
      clear q1 f2
      go_wp2_with fail
      with_reducible refine q4.mono ?_
      rintro e w3 ⟨rfl, f3⟩
      have HF3 := toHid8 (HF1.out.then7 (HF2.out.then7 f3))
      clear q4 f3
      go_wp2_with fail
      go_ret
      exact ⟨rfl, HF3.out⟩
    | true =>
      go_enter Tryz.func38, Tryz.ntmps38
      go_wp2_with fail
      with_reducible refine q1.mono ?_
      rintro e w2 ⟨rfl, f2⟩
      have q4 := q2.out w2 f2
      have HF2 := toHid8 f2
      clear a0 a1 a2
      obtain ⟨a0, a1, a2⟩ := HB.out w2 f2
      clear q1 f2
      go_wp2_with fail
      with_reducible refine q4.mono ?_
      rintro e w3 ⟨rfl, f3⟩
      have HF3 := toHid8 (HF2.out.then7 f3)
      have q5 := q3.out w3 HF3.out
      clear a0 a1 a2
      obtain ⟨a0, a1, a2⟩ := HB.out w3 HF3.out
      clear q4 f3
      go_wp2_with fail
      with_reducible refine q5.mono ?_
      rintro e w4 ⟨rfl, f4⟩
      have HF4 := toHid8 (HF1.out.then7 (HF3.out.then7 f4))
      clear q5 f4
      cases RL <;> (go_wp2_with fail; go_ret; exact ⟨rfl, HF4.out⟩)

/-- A named patch of bounded size. -/
structure SmallPa (p : Pa) : Prop where
  name : p.name.size ≤ 1000000000
  deps : p.deps.length ≤ 1000000 ∧ ∀ y ∈ p.deps, y.size ≤ 1000000000
  body : p.body.length ≤ 1000000 ∧ ∀ x ∈ p.body, SmallP x
  lines : ∀ x ∈ p.body, (∀ y ∈ x.old, y.size < 900000) ∧ ∀ y ∈ x.new, y.size < 900000

theorem SmallPa.big {p : Pa} (h : SmallPa p) : BigPa p := ⟨by have := h.name; omega, ⟨by have := h.deps.1; omega, fun y hy => by have := h.deps.2 y hy; omega⟩, ⟨by have := h.body.1; omega, fun x hx => (h.body.2 x hx).big⟩, fun x hx => ⟨fun y hy => by have := (h.lines x hx).1 y hy; omega, fun y hy => by have := (h.lines x hx).2 y hy; omega⟩⟩

/-- What a right patch's name and Deps are at most. -/
structure DepsS (p : Pa) : Prop where
  name : p.name.size ≤ 1000000000
  deps : p.deps.length ≤ 1000000 ∧ ∀ y ∈ p.deps, y.size ≤ 1000000000

theorem label_size {s : ByteArray} (h : labelB (unB s) = true) : s.size ≤ 1000000000 := by
  unfold labelB at h
  simp only [Bool.and_eq_true, decide_eq_true_eq] at h
  have h2 := h.1.2
  rw [un_len] at h2
  omega

theorem depsB_labels : ∀ (n last : B13) (l : List B13), depsB n last l = true → ∀ d ∈ l, labelB d = true
  | _, _, [], _, _, hd => by cases hd
  | n, last, d :: l, h, e, he => by
    rw [depsB] at h
    simp only [Bool.and_eq_true] at h
    rcases List.mem_cons.1 he with rfl | he
    · exact h.1.1.1
    · exact depsB_labels n d l h.2 e he

theorem deps_of_right {p : Pa} (h : rightPa p = true) : DepsS p := by
  unfold rightPa at h
  simp only [Bool.and_eq_true, decide_eq_true_eq] at h
  obtain ⟨⟨h1, h2, h3⟩, _⟩ := h
  exact ⟨label_size h1, by omega, fun y hy => label_size (depsB_labels _ _ _ h3 _ (List.mem_map.2 ⟨y, hy, rfl⟩))⟩

end Go.Proofs.YtbiilnhefoplkaaGreatDoor
