/-
  What is proved here: RecordEmpty answers true; how many things are recorded for a tree out of nothing, and for nothing out of a tree. Conditions: its argument lies in memory, and is no longer than the reach; the two tables hold what they are laid with.
-/
import Derived.Test.YtbnfjjjdnbcehaaGreatDoorQ58RecW12
namespace Go.Proofs.YtbnfjjjdnbcehaaGreatDoor
open Go.RowKit Go.Maps Go.WideMaps
set_option maxRecDepth 100000

def addB (p : Pr) : Bool := decide (p.kind = 1) || decide (p.kind = 3) || decide (p.kind = 5)
def rmB (p : Pr) : Bool := decide (p.kind = 2) || decide (p.kind = 4) || decide (p.kind = 6)

theorem chg_none (at' : ByteArray) (f t : En) : (chgL at' f t).filter addB = [] ∧ (chgL at' f t).filter rmB = [] := by
  constructor <;>
  · rw [List.filter_eq_nil_iff]
    intro p hp
    rcases chg_mem hp with ⟨_, _, rfl⟩ | ⟨_, rfl⟩ <;> exact Bool.false_ne_true

theorem like_nil (x : En) : likeE [] x = none := rfl

theorem rec_adds {a : List En} (ha : TreeR a) : ((recL [] a).filter addB).length = a.length := by
  have key : ∀ s : List En, (∀ x ∈ s, x ∈ a) → ((s.flatMap (comeL [])).filter addB).length = s.length := fun s => by
    induction s with
    | nil => intro _; rfl
    | cons x s ih =>
      intro h
      rw [List.flatMap_cons, List.filter_append, List.length_append, ih (fun y hy => h y (List.mem_cons_of_mem _ hy))]
      have : (comeL [] x).filter addB = [pathP (2 * x.kind - 1) x.path] := by
        unfold comeL
        rw [like_nil]
        dsimp only
        have hk : addB (pathP (2 * x.kind - 1) x.path) = true := by
          unfold addB pathP
          rcases kind_ways ha (h x (List.mem_cons_self ..)) with e | e | e <;> simp [e]
        rw [List.filter_cons_of_pos hk, (chg_none _ _ _).1]
      rw [this]
      simp
      omega
  unfold recL
  simpa using key a (fun _ h => h)

theorem rec_rms {a : List En} (ha : TreeR a) : ((recL a []).filter rmB).length = a.length := by
  have key : ∀ s : List En, (∀ x ∈ s, x ∈ a) → ((s.flatMap (goL [])).filter rmB).length = s.length := fun s => by
    induction s with
    | nil => intro _; rfl
    | cons x s ih =>
      intro h
      rw [List.flatMap_cons, List.filter_append, List.length_append, ih (fun y hy => h y (List.mem_cons_of_mem _ hy))]
      have : (goL [] x).filter rmB = [pathP (2 * x.kind) x.path] := by
        unfold goL
        rw [like_nil]
        dsimp only
        have hk : rmB (pathP (2 * x.kind) x.path) = true := by
          unfold rmB pathP
          rcases kind_ways ha (h x (List.mem_cons_self ..)) with e | e | e <;> simp [e]
        rw [List.filter_append, (chg_none _ _ _).2, List.filter_cons_of_pos hk]
        rfl
      rw [this]
      simp
      omega
  unfold recL
  simpa using key a.reverse (fun x h => List.mem_reverse.1 h)

/-- How many of the first k patches are such. -/
def cntB (f : Pr → Bool) (L : List Pr) (k : Nat) : Nat := ((L.take k).filter f).length

theorem cntB_succ {f : Pr → Bool} {L : List Pr} {k : Nat} (h : k < L.length) : cntB f L (k + 1) = cntB f L k + if f L[k] then 1 else 0 := by
  unfold cntB
  rw [List.take_succ_eq_append_getElem h, List.filter_append, List.length_append]
  cases hf : f L[k] <;> simp [hf]

theorem cntB_le (f : Pr → Bool) (L : List Pr) (k : Nat) : cntB f L k ≤ k := Nat.le_trans (List.length_filter_le _ _) (by rw [List.length_take]; omega)

theorem cntB_all (f : Pr → Bool) (L : List Pr) : cntB f L L.length = (L.filter f).length := by unfold cntB; rw [List.take_length]

theorem weight_nil12 : weight [] < 4000 := by decide

set_option maxHeartbeats 16000000 in
theorem rempty_walk (va : Option Addr) (n c : Nat) (a : List En) (W : World) (ht : TabsAt W) (hl : a.length = n) (ha : EntsAt W va a) (hn : n ≤ 140737488355328) (hx : ∀ x ∈ a, x.lines.length ≤ 140737488355328) :
    Calls Tryz.prog 7 #[.slice va n c] W fun e w' => e = .returned (.bool true) ∧ Fr None' W w' := by
  have HG1 := toHid8 (fun w' (f : Fr None' W w') => great_any va n c a w' hl (ha.kept f) hn hx)
  unfold GreatPost at HG1
  have HL := toHid8 hl
  have HE := toHid8 (fun w' (f : Fr None' W w') => ha.kept f)
  have HT := toHid8 (fun w' (f : Fr None' W w') => ht.kept f)
  have HF0 := toHid8 (Fr.refl None' W)
  have q1 := head12_any W ht
  clear ht hl ha hn hx
  go_enter Tryz.func7, Tryz.ntmps7
  go_wp2_with fail
  with_reducible refine q1.mono ?_
  rintro e w1 ⟨rfl, f⟩
  have HF1 := toHid8 (HF0.out.then7 f)
  clear q1 f HF0
  have q2 := HG1.out w1 HF1.out
  clear HG1
  go_wp2_with fail
  with_reducible refine q2.mono ?_
  rintro e w2 ⟨g, rfl, hg, f⟩
  have HF2 := toHid8 (HF1.out.then7 f)
  have HGf := toHid8 hg
  clear q2 f hg HF1
  cases g with
  | true =>
    go_wp2_with fail
    go_ret
    exact ⟨rfl, HF2.out⟩
  | false =>
  have HWa := toHid8 (HGf.out rfl)
  have q3 := eright_any va n c a w2 HL.out (HE.out w2 HF2.out) (by have := (weight_smE HWa.out).2.1; have := HL.out; omega) (weight_smE HWa.out).1
  clear HGf
  cases ra : treeRight a with
  | false =>
    rw [ra] at q3
    clear ra
    go_wp2_with fail
    with_reducible refine q3.mono ?_
    rintro e w3 ⟨rfl, f⟩
    have HF3 := toHid8 (HF2.out.then7 f)
    clear q3 f HF2
    go_wp2_with fail
    go_ret
    exact ⟨rfl, HF3.out⟩
  | true =>
    rw [ra] at q3
    have Hr := toHid8 ra
    clear ra
    go_wp2_with fail
    with_reducible refine q3.mono ?_
    rintro e w3 ⟨rfl, f⟩
    have HF3 := toHid8 (HF2.out.then7 f)
    have q4 := rec12_yes h12n Hr.out (record12_any none va 0 0 n c [] a w3 rfl HL.out (ents_nil12 w3 none) (HE.out w3 HF3.out) weight_nil12 HWa.out (HT.out w3 HF3.out))
    clear q3 f HF2
    go_wp2_with fail
    with_reducible refine q4.mono ?_
    rintro e w4 ⟨p5, n5, c5, rfl, HX, f⟩
    have HF4 := toHid8 (HF3.out.then7 f)
    have q5 := rec12_yes Hr.out h12n (record12_any va none n c 0 0 a [] w4 HL.out rfl (HE.out w4 HF4.out) (ents_nil12 w4 none) HWa.out weight_nil12 (HT.out w4 HF4.out))
    clear q4 f HF3
    go_wp2_with fail
    with_reducible refine q5.mono ?_
    rintro e w5 ⟨p6, n6, c6, rfl, HY, f⟩
    have HF5 := toHid8 (HF4.out.then7 f)
    have k1 := mk_count h12n Hr.out weight_nil12 HWa.out
    have k2 := mk_count Hr.out h12n HWa.out weight_nil12
    have HA := toHid8 (show allE [] (recL [] a) = (a, 0, 0) from by rw [runE_good h12n]; exact mk_all h12n Hr.out HWa.out)
    have HB := toHid8 (show allE a (recL a []) = ([], 0, 0) from by rw [runE_good Hr.out]; exact mk_all Hr.out h12n weight_nil12)
    have HCa := toHid8 ((rec_adds ((treeR a).1 Hr.out)).trans HL.out)
    have HCr := toHid8 ((rec_rms ((treeR a).1 Hr.out)).trans HL.out)
    have HSa := toHid8 (rec_sm (a := []) (b := a) weight_nil12 HWa.out)
    have HSr := toHid8 (rec_sm (a := a) (b := []) HWa.out weight_nil12)
    obtain ⟨X, hX⟩ : ∃ X, recL [] a = X := ⟨_, rfl⟩
    obtain ⟨Y, hY⟩ : ∃ Y, recL a [] = Y := ⟨_, rfl⟩
    rw [hX] at HX k1 HA HCa HSa
    rw [hY] at HY k2 HB HCr HSr
    have HX0 := toHid8 HX.out.1
    have HY0 := toHid8 HY.out.1
    have HPX := toHid8 (HX.out.2.1.kept f)
    have HPY := toHid8 HY.out.2.1
    have i5 : (n5 : Int) ≤ 20000 := by have := HX.out.1; omega
    have i6 : (n6 : Int) ≤ 20000 := by have := HY.out.1; omega
    have HK := toHid8 (And.intro k1 k2)
    clear q5 f HF4 HX HY k1 k2 hX hY
    go_wp2_with fail
    go_loopw [8, 9] (fun vn vi wr => ∃ (k q : Nat), k ≤ n5 ∧ vi = .int .i64 k ∧ vn = .int .i64 q ∧ Hid (cntB addB X k = q) ∧ Hid (Fr None' w5 wr)) (fun _ vi _ => n5 - (intOf vi).toNat)
    case atStart => exact ⟨0, 0, Nat.zero_le _, rfl, rfl, rfl, Fr.refl _ _⟩
    case round =>
      obtain ⟨k, q, hk, rfl, rfl, HQ, HF⟩ := hrel
      by_cases hlt : k < n5
      · have hkL : k < X.length := by rw [HX0.out]; exact hlt
        obtain ⟨g, o, rfl, uo, un, d0, d1, d2, d3, d4, d5, d6, t1, t2⟩ := (HPX.out.kept HF.out).get hkL
        have HN := toHid8 (And.intro HQ.out (show cntB addB X (k + 1) = q + if addB X[k] then 1 else 0 from by rw [cntB_succ hkL, HQ.out]))
        have i0 : (q : Int) ≤ (k : Int) := by have := cntB_le addB X k; rw [HQ.out] at this; omega
        have i2 : (k : Int) < (n5 : Int) := by omega
        have i3 : (0 : Int) ≤ (k : Int) := by omega
        generalize X[k] = p at d0 HN
        clear d1 d2 d3 d4 d5 d6 t1 t2 HQ
        by_cases hk1 : p.kind = 1
        · have HN1 := toHid8 (show cntB addB X (k + 1) = q + 1 from by rw [HN.out.2]; unfold addB; simp [hk1])
          rw [hk1] at d0
          clear HN
          go_wp2_with fail
          exact ⟨⟨k + 1, q + 1, by omega, by go_num, by go_num, HN1.out, HF.out⟩, by simp [intOf]; omega⟩
        have z1 : (p.kind == 1) = false := beq_eq_false_iff_ne.2 hk1
        by_cases hk2 : p.kind = 3
        · have HN1 := toHid8 (show cntB addB X (k + 1) = q + 1 from by rw [HN.out.2]; unfold addB; simp [hk2])
          rw [hk2] at d0
          clear HN hk1 z1
          go_wp2_with fail
          exact ⟨⟨k + 1, q + 1, by omega, by go_num, by go_num, HN1.out, HF.out⟩, by simp [intOf]; omega⟩
        have z2 : (p.kind == 3) = false := beq_eq_false_iff_ne.2 hk2
        by_cases hk3 : p.kind = 5
        · have HN1 := toHid8 (show cntB addB X (k + 1) = q + 1 from by rw [HN.out.2]; unfold addB; simp [hk3])
          rw [hk3] at d0
          clear HN hk1 z1 hk2 z2
          go_wp2_with fail
          exact ⟨⟨k + 1, q + 1, by omega, by go_num, by go_num, HN1.out, HF.out⟩, by simp [intOf]; omega⟩
        have z3 : (p.kind == 5) = false := beq_eq_false_iff_ne.2 hk3
        have HN1 := toHid8 (show cntB addB X (k + 1) = q from by rw [HN.out.2]; unfold addB; simp [hk1, hk2, hk3])
        clear HN hk1 hk2 hk3
        go_wp2_with fail
        exact ⟨⟨k + 1, q, by omega, by go_num, by go_num, HN1.out, HF.out⟩, by simp [intOf]; omega⟩
      · have e : n5 = k := by omega
        subst e
        have hq : n = q := by rw [← HQ.out, ← HX0.out, cntB_all, HCa.out]
        subst hq
        have i2 : ¬ (n5 : Int) < (n5 : Int) := by omega
        have HF6 := toHid8 (HF5.out.then7 HF.out)
        have HPY6 := toHid8 (HPY.out.kept HF.out)
        have HPX6 := toHid8 (HPX.out.kept HF.out)
        clear HQ HF HPX HPY HF5 HCa
        go_wp2_with fail
        rename World => wo
        go_loopw [10, 11] (fun vn vi wr => ∃ (j q : Nat), j ≤ n6 ∧ vi = .int .i64 j ∧ vn = .int .i64 q ∧ Hid (cntB rmB Y j = q) ∧ Hid (Fr None' wo wr)) (fun _ vi _ => n6 - (intOf vi).toNat)
        case atStart => exact ⟨0, 0, Nat.zero_le _, rfl, rfl, rfl, Fr.refl _ _⟩
        case round =>
          obtain ⟨k, q, hk, rfl, rfl, HQ, HF⟩ := hrel
          by_cases hlt : k < n6
          · have hkL : k < Y.length := by rw [HY0.out]; exact hlt
            obtain ⟨g, o, rfl, uo, un, d0, d1, d2, d3, d4, d5, d6, t1, t2⟩ := (HPY6.out.kept HF.out).get hkL
            have HN := toHid8 (And.intro HQ.out (show cntB rmB Y (k + 1) = q + if rmB Y[k] then 1 else 0 from by rw [cntB_succ hkL, HQ.out]))
            have i0 : (q : Int) ≤ (k : Int) := by have := cntB_le rmB Y k; rw [HQ.out] at this; omega
            have i2 : (k : Int) < (n6 : Int) := by omega
            have i3 : (0 : Int) ≤ (k : Int) := by omega
            generalize Y[k] = p at d0 HN
            clear d1 d2 d3 d4 d5 d6 t1 t2 HQ
            by_cases hk1 : p.kind = 2
            · have HN1 := toHid8 (show cntB rmB Y (k + 1) = q + 1 from by rw [HN.out.2]; unfold rmB; simp [hk1])
              rw [hk1] at d0
              clear HN
              go_wp2_with fail
              exact ⟨⟨k + 1, q + 1, by omega, by go_num, by go_num, HN1.out, HF.out⟩, by simp [intOf]; omega⟩
            have z1 : (p.kind == 2) = false := beq_eq_false_iff_ne.2 hk1
            by_cases hk2 : p.kind = 4
            · have HN1 := toHid8 (show cntB rmB Y (k + 1) = q + 1 from by rw [HN.out.2]; unfold rmB; simp [hk2])
              rw [hk2] at d0
              clear HN hk1 z1
              go_wp2_with fail
              exact ⟨⟨k + 1, q + 1, by omega, by go_num, by go_num, HN1.out, HF.out⟩, by simp [intOf]; omega⟩
            have z2 : (p.kind == 4) = false := beq_eq_false_iff_ne.2 hk2
            by_cases hk3 : p.kind = 6
            · have HN1 := toHid8 (show cntB rmB Y (k + 1) = q + 1 from by rw [HN.out.2]; unfold rmB; simp [hk3])
              rw [hk3] at d0
              clear HN hk1 z1 hk2 z2
              go_wp2_with fail
              exact ⟨⟨k + 1, q + 1, by omega, by go_num, by go_num, HN1.out, HF.out⟩, by simp [intOf]; omega⟩
            have z3 : (p.kind == 6) = false := beq_eq_false_iff_ne.2 hk3
            have HN1 := toHid8 (show cntB rmB Y (k + 1) = q from by rw [HN.out.2]; unfold rmB; simp [hk1, hk2, hk3])
            clear HN hk1 hk2 hk3
            go_wp2_with fail
            exact ⟨⟨k + 1, q, by omega, by go_num, by go_num, HN1.out, HF.out⟩, by simp [intOf]; omega⟩
          · have e : n6 = k := by omega
            subst e
            have hq : n = q := by rw [← HQ.out, ← HY0.out, cntB_all, HCr.out]
            subst hq
            have i2 : ¬ (n6 : Int) < (n6 : Int) := by omega
            have HF7 := toHid8 (HF6.out.then7 HF.out)
            have HPY7 := toHid8 (HPY6.out.kept HF.out)
            have HPX7 := toHid8 (HPX6.out.kept HF.out)
            have q8 := all8_any none 0 0 [] p5 n5 c5 X 4000 wr rfl (ents_nil12 wr none) (by omega) (fun x hx => by cases hx) HX0.out HPX7.out (by omega) (fun x hx => by cases hx) (by rw [newTo_all]; have := HK.out.1.2; omega) HSa.out
            have HQ9 := toHid8 (fun w' f (hz : PrsAt w' p6 Y) => all8_any va n c a p6 n6 c6 Y 4000 w' HL.out (HE.out w' f) (by have := (weight_smE HWa.out).2.1; have := HL.out; omega) (weight_smE HWa.out).1 HY0.out hz (by omega) (weight_smE HWa.out).2.2 (by rw [newTo_all]; have := HK.out.2.2; omega) HSr.out)
            rw [HA.out] at q8
            rw [HB.out] at HQ9
            unfold AllPost at q8 HQ9
            simp only [HL.out, List.length_nil] at q8 HQ9
            clear HQ HF HPY6 HPX6 HF6 HCr
            go_wp2_with fail
            with_reducible refine q8.mono ?_
            rintro e w8 ⟨v8, c8, rfl, HE8, _, f⟩
            have HF8 := toHid8 (HF7.out.then7 f)
            have q9 := HQ9.out w8 HF8.out (HPY7.out.kept f)
            clear q8 f HF7 HPX7 HPY7 HQ9
            go_wp2_with fail
            with_reducible refine q9.mono ?_
            rintro e w9 ⟨v9, c9, rfl, HE9, _, f⟩
            have HF9 := toHid8 (HF8.out.then7 f)
            have q10 := esame_any v8 va n c8 c a w9 HL.out (HE8.out.kept f) (HE.out w9 HF9.out) (by have := (weight_smE HWa.out).2.1; have := HL.out; omega) (weight_smE HWa.out).1
            clear q9 f HF8
            go_wp2_with fail
            with_reducible refine q10.mono ?_
            rintro e w10 ⟨rfl, f⟩
            have HF10 := toHid8 (HF9.out.then7 f)
            clear q10 f HF9
            go_wp2_with fail
            go_ret
            exact ⟨rfl, HF10.out⟩

end Go.Proofs.YtbnfjjjdnbcehaaGreatDoor
