/-
  What is proved here: the contracts that the statement stands on: Head8, RRightE, MovesW8. Conditions: as each theorem names them.
-/
import Derived.Test.YtjpgpbfnmokmiabGreatDoorM40Eff8
import Derived.Test.YtjpgpbfnmokmiabGreatDoorM23RFindE
import Derived.Test.YtjpgpbfnmokmiabGreatDoorM15PRRest
import Derived.Test.YtjpgpbfnmokmiabGreatDoorM34WithL8
import Derived.BigQuiet
namespace Go.Proofs.YtjpgpbfnmokmiabGreatDoor
open Go.RowKit Go.Maps Go.WideMaps
set_option maxRecDepth 100000

theorem nilS8 (w : World) : StrsAt w (.slice none 0 0) [] := ⟨none, 0, rfl, fun _ => rfl, Nat.le_refl _, Lines.Row.nil _ _⟩

def hL8 : List En := [⟨⟨#[97]⟩, 2, [⟨#[120]⟩], ⟨#[]⟩⟩]
def hP8 : Pr := ⟨7, ⟨#[97]⟩, ⟨#[]⟩, ⟨#[]⟩, 0, [⟨#[120]⟩], [⟨#[121]⟩, ⟨#[122]⟩]⟩
def hQ8 : Pr := ⟨4, ⟨#[97]⟩, ⟨#[]⟩, ⟨#[]⟩, 0, [], []⟩
def hM8 : Pr := ⟨10, ⟨#[97]⟩, ⟨#[98]⟩, ⟨#[]⟩, 0, [], []⟩
def hD8 : Pr := ⟨1, ⟨#[100]⟩, ⟨#[]⟩, ⟨#[]⟩, 0, [], []⟩

theorem h8P : allE hL8 [hP8] = ([⟨⟨#[97]⟩, 2, [⟨#[121]⟩, ⟨#[122]⟩], ⟨#[]⟩⟩], 0, 0) := by kernel_rfl
theorem h8Q : allE hL8 [hQ8] = ([], 81, 0) := by kernel_rfl
theorem h8M : allE hL8 [hM8] = ([⟨⟨#[98]⟩, 2, [⟨#[120]⟩], ⟨#[]⟩⟩], 0, 0) := by kernel_rfl
theorem h8D : allE hL8 [hD8, hD8] = ([], 71, 1) := by kernel_rfl
theorem h8Z : rightP zeroP = false := by kernel_rfl

theorem row_one8 (w : World) (x : ByteArray) {b : Nat} (hb : w.heap.size = b) : Lines.Row (w.alloc (.cells #[.string x] 9)) (some ⟨b, 0, none⟩) [x] := fun j y hj => by
  subst hb
  have h0 : j = 0 := by have := (List.getElem?_eq_some_iff.1 hj).1; simp at this; omega
  subst h0
  have : x = y := by simpa using hj
  subst this
  exact ⟨_, 0, rfl, by rw [World.cell?, heap_alloc_new]; rfl⟩

theorem row_two8 (w : World) (x z : ByteArray) {b : Nat} (hb : w.heap.size = b) : Lines.Row (w.alloc (.cells #[.string x, .string z] 9)) (some ⟨b, 0, none⟩) [x, z] := fun j y hj => by
  subst hb
  have h0 : j < 2 := by have := (List.getElem?_eq_some_iff.1 hj).1; simpa using this
  have h1 : j = 0 ∨ j = 1 := by omega
  rcases h1 with rfl | rfl
  · have : x = y := by simpa using hj
    subst this
    exact ⟨_, 0, rfl, by rw [World.cell?, heap_alloc_new]; rfl⟩
  · have : z = y := by simpa using hj
    subst this
    exact ⟨_, 0, rfl, by rw [World.cell?, heap_alloc_new]; rfl⟩

set_option maxHeartbeats 8000000 in
theorem head8_any (w : World) : Calls Tryz.prog 8 #[] w fun e w' => e = .returned (.bool true) ∧ Fr None' w w' := by
  obtain ⟨w1, hw1⟩ : ∃ w1, w.alloc (.cells #[.string ⟨#[120]⟩] 9) = w1 := ⟨_, rfl⟩
  obtain ⟨w2, hw2⟩ : ∃ w2, w1.alloc (.cells #[.string ⟨#[97]⟩, .int .i64 2, .slice (some ⟨w.heap.size, 0, none⟩) 1 1, .string ⟨#[]⟩] 27) = w2 := ⟨_, rfl⟩
  obtain ⟨w3, hw3⟩ : ∃ w3, w2.alloc (.cells #[.string ⟨#[120]⟩] 9) = w3 := ⟨_, rfl⟩
  obtain ⟨w4, hw4⟩ : ∃ w4, w3.alloc (.cells #[.string ⟨#[121]⟩, .string ⟨#[122]⟩] 9) = w4 := ⟨_, rfl⟩
  have F1 : Fr None' w w1 := hw1 ▸ Fr.alloc None' _ _
  have F2 : Fr None' w1 w2 := hw2 ▸ Fr.alloc None' _ _
  have F3 : Fr None' w2 w3 := hw3 ▸ Fr.alloc None' _ _
  have F4 : Fr None' w3 w4 := hw4 ▸ Fr.alloc None' _ _
  have hE2 : EntsAt w2 (some ⟨w1.heap.size, 0, none⟩) hL8 := fun k x hk => by
    have hk0 : k = 0 := by have := (List.getElem?_eq_some_iff.1 hk).1; simpa [hL8] using this
    subst hk0
    cases hk
    have hc : ∀ j v, #[Value.string ⟨#[97]⟩, .int .i64 2, .slice (some ⟨w.heap.size, 0, none⟩) 1 1, .string ⟨#[]⟩][j]? = some v → w2.cell? ⟨w1.heap.size, j, none⟩ = some v := fun j v h => by
      rw [← hw2, World.cell?, heap_alloc_new]; exact h
    exact ⟨w1.heap.size, 0, rfl, _, hc 0 _ rfl, hc 1 _ rfl, hc 2 _ rfl, hc 3 _ rfl, ⟨_, 1, rfl, (fun e => by cases e), Nat.le_refl _, (hw1 ▸ row_one8 w _ rfl : Lines.Row w1 _ [⟨#[120]⟩]).fr (toLN F2)⟩⟩
  have hE := (hE2.kept F3).kept F4
  have so : StrsAt w4 (.slice (some ⟨w2.heap.size, 0, none⟩) 1 1) hP8.old := ⟨_, 1, rfl, (fun e => by cases e), Nat.le_refl _, (hw3 ▸ row_one8 w2 _ rfl : Lines.Row w3 _ [⟨#[120]⟩]).fr (toLN F4)⟩
  have sn : StrsAt w4 (.slice (some ⟨w3.heap.size, 0, none⟩) 2 2) hP8.new := ⟨_, 2, rfl, (fun e => by cases e), Nat.le_refl _, (hw4 ▸ row_two8 w3 _ _ rfl : Lines.Row w4 _ [⟨#[121]⟩, ⟨#[122]⟩])⟩
  have sL := weight_smE (L := hL8) (by decide)
  have HF4 := toHid8 (((F1.then7 F2).then7 F3).then7 F4)
  have q1 := apply8_any (some ⟨w1.heap.size, 0, none⟩) 1 1 hL8 hP8 _ _ 4000 w4 rfl hE (by decide) sL.1 so sn sL.2.2 (by decide) (weight_smP (by decide))
  have HQ := toHid8 (fun w' (f : Fr None' w4 w') => apply8_any (some ⟨w1.heap.size, 0, none⟩) 1 1 hL8 hQ8 _ _ 4000 w' rfl (hE.kept f) (by decide) sL.1 (nilS8 w') (nilS8 w') sL.2.2 (by decide) (weight_smP (by decide)))
  have HM := toHid8 (fun w' (f : Fr None' w4 w') => apply8_any (some ⟨w1.heap.size, 0, none⟩) 1 1 hL8 hM8 _ _ 4000 w' rfl (hE.kept f) (by decide) sL.1 (nilS8 w') (nilS8 w') sL.2.2 (by decide) (weight_smP (by decide)))
  have HD := toHid8 (fun w' (f : Fr None' w4 w') vb d (hb : PrsAt w' vb [hD8, hD8]) => all8_any (some ⟨w1.heap.size, 0, none⟩) 1 1 hL8 vb 2 d [hD8, hD8] 4000 w' rfl (hE.kept f) (by decide) sL.1 rfl hb (by decide) sL.2.2 (by decide) (fun x hx => by
    simp only [List.mem_cons, List.not_mem_nil, or_false, or_self] at hx
    rw [hx]; exact weight_smP (by decide)))
  have HZ := toHid8 (fun w' => qright_any zeroP _ _ w' (nilS8 w') (nilS8 w') (weight_smP (p := zeroP) (by decide)).small)
  rw [h8P] at q1
  rw [h8Q] at HQ
  rw [h8M] at HM
  rw [h8D] at HD
  rw [h8Z] at HZ
  unfold ApplyPost8 at q1 HQ HM
  simp only [hP8, hQ8, hM8, zeroP, List.length_cons, List.length_nil, Nat.zero_add] at q1 HQ HM HZ
  clear F1 F2 F3 F4 hE2 hE so sn sL
  go_enter Tryz.func8, Tryz.ntmps8
  go_wp2_with fail
  with_reducible refine q1.mono ?_
  rintro e w5 ⟨v5, c5, rfl, HE5, _, f5⟩
  have HF5 := toHid8 f5
  have q2 := HQ.out w5 HF5.out
  clear q1 f5 HQ hw1 hw2 hw3 hw4
  go_wp2_with fail
  with_reducible refine q2.mono ?_
  rintro e w6 ⟨v6, c6, rfl, _, _, f6⟩
  have HF6 := toHid8 (HF5.out.then7 f6)
  have HF56 := toHid8 f6
  have q3 := HM.out w6 HF6.out
  clear q2 f6 HM HF5
  go_wp2_with fail
  with_reducible refine q3.mono ?_
  rintro e w7 ⟨v7, c7, rfl, HE7, _, f7⟩
  have HF7 := toHid8 (HF6.out.then7 f7)
  have HF57 := toHid8 (HF56.out.then7 f7)
  obtain ⟨w8, hw8⟩ : ∃ w8, w7.alloc (.cells #[.int .i64 1, .string ⟨#[100]⟩, .string ⟨#[]⟩, .string ⟨#[]⟩, .int .i64 0, .slice none 0 0, .slice none 0 0, .int .i64 1, .string ⟨#[100]⟩, .string ⟨#[]⟩, .string ⟨#[]⟩, .int .i64 0, .slice none 0 0, .slice none 0 0] 32) = w8 := ⟨_, rfl⟩
  have F8 : Fr None' w7 w8 := hw8 ▸ Fr.alloc None' _ _
  have q4 := HD.out w8 (HF7.out.then7 F8) (some ⟨w7.heap.size, 0, none⟩) 2 (two_prs (p := hD8) (q := hD8) hw8 (nilS8 _) (nilS8 _) (nilS8 _) (nilS8 _))
  have HF8 := toHid8 (HF7.out.then7 F8)
  have HF58 := toHid8 (HF57.out.then7 F8)
  have HF78 := toHid8 F8
  clear q3 f7 F8 HD HF6 HF56 HF7 HF57
  go_wp2_with fail
  with_reducible refine q4.mono ?_
  rintro e w9 ⟨v9, c9, rfl, _, _, f9⟩
  obtain ⟨g5, o5, e5, vl5, a0, a1, a2, a3, s5⟩ := HE5.out.kept (HF58.out.then7 f9) 0 _ rfl
  obtain ⟨g7, o7, e7, vl7, b0, b1, b2, b3, s7⟩ := HE7.out.kept (HF78.out.then7 f9) 0 _ rfl
  obtain ⟨p5, k5, rfl, _⟩ := s5
  obtain ⟨p7, k7, rfl, _⟩ := s7
  subst e5 e7
  simp only [Nat.zero_mul, Nat.add_zero, List.length_cons, List.length_nil, Nat.zero_add, Nat.reduceAdd] at a0 a1 a2 a3 b0 b1 b2 b3
  have HF9 := toHid8 (HF4.out.then7 (HF8.out.then7 f9))
  have q5 := HZ.out w9
  clear q4 f9 HF8 HF58 HF78 hw8 HE5 HE7
  go_wp2_with fail
  with_reducible refine q5.mono ?_
  rintro e wA ⟨rfl, fA⟩
  have HFA := toHid8 (HF9.out.then7 fA)
  clear q5 fA
  go_wp2_with fail
  go_ret
  exact ⟨rfl, HFA.out⟩

end Go.Proofs.YtjpgpbfnmokmiabGreatDoor

namespace Go.Proofs.YtjpgpbfnmokmiabGreatDoor
open Go.RowKit
set_option maxRecDepth 100000
attribute [local irreducible] wpQuiet

theorem okD_parts {L : List En} {j : Nat} {x : En} : okD L j x = true ↔ Path.right (bl x.path) = true ∧ ahead L j x = true ∧ 1 ≤ x.kind ∧ x.kind ≤ 3 ∧ Lines.right (Lines.bs x.lines) = true ∧ (x.kind = 2 ∨ x.lines = []) ∧ (x.kind = 3 ∨ x.data.size = 0) ∧ (∀ p, Path.parent (bl x.path) = some p → ∃ d, findE L p = some d ∧ d.kind = 1) := by
  unfold okD
  simp only [Bool.and_eq_true, Bool.or_eq_true, decide_eq_true_eq]
  constructor
  · rintro ⟨⟨⟨⟨⟨⟨⟨a, b⟩, c⟩, d⟩, e⟩, f⟩, g⟩, h⟩
    refine ⟨a, b, c, d, e, f, g, fun p hp => ?_⟩
    rw [hp] at h
    simp only at h
    cases hf : findE L p with
    | none => rw [hf] at h; cases h
    | some y => rw [hf] at h; exact ⟨y, rfl, by simpa using h⟩
  · rintro ⟨a, b, c, d, e, f, g, h⟩
    refine ⟨⟨⟨⟨⟨⟨⟨a, b⟩, c⟩, d⟩, e⟩, f⟩, g⟩, ?_⟩
    cases hp : Path.parent (bl x.path) with
    | none => rfl
    | some p =>
      obtain ⟨y, h1, h2⟩ := h p hp
      simp only [h1]
      simpa using h2

theorem ahead_succ {L : List En} {i : Nat} (hi : i < L.length) (x : En) : ahead L (i + 1) x = decide (bl L[i].path < bl x.path) := by
  unfold ahead
  simp only [List.getElem?_eq_getElem hi]

theorem drewF (w : World) (n : Nat) : Fr None' w (w.drewN n) := Fr.drewN None' w n

theorem less_eq (a b : ByteArray) : Op.bytesLess a.toList b.toList = decide (bl a < bl b) := by
  rw [ByteArray.toList_eq, ByteArray.toList_eq, Go.Proofs.bytesLess_eq]
  rfl

theorem rright_q (p : ByteArray) (hp : p.size < 100000000) (w : World) : Calls Tryz.prog 24 #[.string p] w fun e w' => e = .returned (.bool (Path.right (bl p))) ∧ w' = w := (Path.rright_any p w hp).mono fun _ _ h => ⟨h.1, h.2.symm⟩

set_option maxHeartbeats 16000000 in
theorem eright_any (va : Option Addr) (n c : Nat) (L : List En) (w : World) (hl : L.length = n) (h : EntsAt w va L) (hn : n ≤ 100000) (hs : SmallE L) :
    Calls Tryz.prog 10 #[.slice va n c] w fun e w' => e = .returned (.bool (treeRight L)) ∧ Fr None' w w' := by
  have HL : Hid (L.length = n) := hl
  have HS : Hid (SmallE L) := hs
  have HE : Hid (EntsAt w va L) := h
  have i1 : (n : Int) ≤ 100000 := by omega
  by_cases hbig : 1024 < n
  · have e : treeRight L = false := treeRight_long (by rw [hl]; exact hbig)
    rw [e]
    have q : (1024 : Int) < (n : Int) := by omega
    clear hl h hs
    go_enter Tryz.func10, Tryz.ntmps10
    go_wp2_with fail
    go_ret
    exact ⟨rfl, Fr.refl _ _⟩
  · obtain ⟨R, hR⟩ : ∃ R, treeRight L = R := ⟨_, rfl⟩
    have HR : Hid (treeRight L = R) := hR
    rw [hR]
    have q : ¬ (1024 : Int) < (n : Int) := by omega
    have HNB : Hid (n ≤ 1024) := by show _ ≤ _; omega
    clear hl h hs hR hbig hn
    go_enter Tryz.func10, Tryz.ntmps10
    go_wp2_with fail
    clear q
    go_loopw [3] (fun vi wr => ∃ k : Nat, k ≤ n ∧ vi = .int .i64 k ∧ Hid (∀ j (h : j < L.length), j < k → okD L j L[j] = true) ∧ Hid (Fr None' w wr)) (fun vi _ => n - (intOf vi).toNat)
    case atStart => exact ⟨0, Nat.zero_le _, rfl, fun j _ h => by omega, Fr.refl _ _⟩
    case round =>
      obtain ⟨k, hk, rfl, HT, HF⟩ := hrel
      by_cases hlt : k < n
      · have hkL : k < L.length := by rw [HL.out]; exact hlt
        obtain ⟨g, o, rfl, vl, d0, d1, d2, d3, hs1⟩ := (HE.out.kept HF.out).get hkL
        obtain ⟨pl, cl, rfl, _, _, hr⟩ := hs1
        obtain ⟨z1, z2, z3, z4⟩ := HS.out _ (List.getElem_mem hkL)
        have HNo : Hid (¬ okD L k L[k] = true → R = false) := fun h => by rw [← HR.out]; exact treeRight_noD hkL (by simpa using h)
        have HNX : Hid (okD L k L[k] = true → ∀ j (h : j < L.length), j < k + 1 → okD L j L[j] = true) := fun h j hj hlt => by
          by_cases e : j = k
          · subst e; exact h
          · exact HT.out j hj (by omega)
        obtain ⟨x, hxe⟩ : ∃ x, L[k] = x := ⟨_, rfl⟩
        rw [hxe] at d0 d1 d2 d3 hr z1 z2 z3 z4 HNX HNo
        obtain ⟨P, K, l, Da⟩ := x
        simp only at d0 d1 d2 d3 hr z1 z2 z3 z4
        obtain ⟨nl, hnl⟩ : ∃ m, l.length = m := ⟨_, rfl⟩
        rw [hnl] at d2 z3
        have HRW : Hid (Lines.Row wr pl l ∧ l.length = nl ∧ (∀ y ∈ l, y.size < 90000000)) := ⟨hr, hnl, z4⟩
        have HZ : Hid (P.size < 10000000 ∧ nl < 900000) := ⟨z1, z3⟩
        have i2 : (k : Int) < (n : Int) := by omega
        have i3 : (0 : Int) ≤ (k : Int) := by omega
        have HOK : Hid (okD L k ⟨P, K, l, Da⟩ = true ↔ _) := okD_parts
        clear hxe hnl hr z1 z2 z3 z4 HT
        obtain ⟨w1, hw1⟩ : ∃ w1, wr.alloc (.cells #[.string P, .int .i64 K, .slice pl nl cl, .string Da] 27) = w1 := ⟨_, rfl⟩
        have HF1 : Hid (Fr None' wr w1) := hw1 ▸ Fr.alloc None' wr _
        obtain ⟨b0, b1, b2, b3⟩ := cell4 wr 27 (.string P) (.int .i64 K) (.slice pl nl cl) (.string Da)
        rw [hw1] at b0 b1 b2 b3
        have cR := rright_q P (by have := HZ.out.1; omega)
        cases hpr : Path.right (bl P) with
        | false =>
          have e : R = false := HNo.out (fun h => by have := (HOK.out.1 h).1; rw [hpr] at this; cases this)
          subst e
          simp only [hpr] at cR
          go_wp2_with fail
          go_quiet ((go_at_call 24; exact Calls.quiet_of_same (cR _)))
          go_wp2_with fail
          go_ret
          exact ⟨rfl, (HF.out.then7 HF1.out).then7 (drewF _ _)⟩
        | true =>
          simp only [hpr] at cR
          rcases Nat.eq_zero_or_pos k with e0 | hpos
          · have q2 : decide ((0 : Int) < (k : Int)) = false := by simp; omega
            have q2n : decide (0 < k) = false := by simp; omega
            have HAh : Hid (ahead L k ⟨P, K, l, Da⟩ = true) := by show _ = _; rw [e0]; rfl
            clear e0
            by_cases hK1 : K < 1
            · have e : R = false := HNo.out (fun h => by have h2 : (1 : Int) ≤ K := (HOK.out.1 h).2.2.1; omega)
              subst e
              have q3 : decide (K < 1) = true := by simpa using hK1
              go_wp2_with fail
              go_quiet ((go_at_call 24; exact Calls.quiet_of_same (cR _)))
              go_wp2_with fail
              go_ret
              exact ⟨rfl, (HF.out.then7 HF1.out).then7 (drewF _ _)⟩
            · have q3 : decide (K < 1) = false := by simpa using hK1
              by_cases hK3 : 3 < K
              · have e : R = false := HNo.out (fun h => by have h2 : K ≤ (3 : Int) := (HOK.out.1 h).2.2.2.1; omega)
                subst e
                have q4 : decide (3 < K) = true := by simpa using hK3
                go_wp2_with fail
                go_quiet ((go_at_call 24; exact Calls.quiet_of_same (cR _)))
                go_wp2_with fail
                go_ret
                exact ⟨rfl, (HF.out.then7 HF1.out).then7 (drewF _ _)⟩
              · have q4 : decide (3 < K) = false := by simpa using hK3
                go_wp2_with fail
                go_quiet ((go_at_call 24; exact Calls.quiet_of_same (cR _)))
                obtain ⟨w2, hw2⟩ : ∃ x, w1.drewN nq = x := ⟨_, rfl⟩
                have f2 : Fr None' w1 w2 := hw2 ▸ drewF _ _
                rw [hw2]
                replace b0 := f2.keepCell b0 (fun e => e)
                replace b1 := f2.keepCell b1 (fun e => e)
                replace b2 := f2.keepCell b2 (fun e => e)
                replace b3 := f2.keepCell b3 (fun e => e)
                have HF2 : Hid (Fr None' wr w2) := HF1.out.then7 f2
                clear hw2 f2 cR d0 d1 d2 d3 HF1
                have cL : Calls Tryz.prog 25 #[.slice pl nl cl] w2 fun e w' => e = .returned (.bool (Lines.right (Lines.bs l))) ∧ Fr None' w2 w' := by
                  have h := Lines.rRight_any pl cl l w2 (HRW.out.1.fr (toLN HF2.out)) (by rw [HRW.out.2.1]; have := HZ.out.2; omega) HRW.out.2.2
                  rw [HRW.out.2.1] at h
                  exact h.mono fun _ _ h => ⟨h.1, ofLN h.2⟩
                go_wp2_with fail
                refine cL.mono ?_
                rintro e w3 ⟨rfl, f3⟩
                replace b0 := f3.keepCell b0 (fun e => e)
                replace b1 := f3.keepCell b1 (fun e => e)
                replace b2 := f3.keepCell b2 (fun e => e)
                replace b3 := f3.keepCell b3 (fun e => e)
                have HF3 : Hid (Fr None' wr w3) := HF2.out.then7 f3
                clear cL f3 HF2
                cases hLr : Lines.right (Lines.bs l) with
                | false =>
                  have e : R = false := HNo.out (fun h => by have h2 : Lines.right (Lines.bs l) = true := (HOK.out.1 h).2.2.2.2.1; rw [hLr] at h2; cases h2)
                  subst e
                  go_wp2_with fail
                  go_ret
                  exact ⟨rfl, HF.out.then7 HF3.out⟩
                | true =>
                  by_cases hK2 : K = 2
                  · have zk2 : (K == 2) = true := by simpa using hK2
                    have zk3 : (K == 3) = false := by simp; omega
                    by_cases hDa : Da.size = 0
                    · have hDe := empty_of hDa
                      subst hDe
                      have cP := Path.rparent_any P w3 (by have := HZ.out.1; omega)
                      unfold Path.parentS at cP
                      cases hpa : Path.parent (bl P) with
                      | none =>
                        have hpa' : Path.parent P.data.toList = none := hpa
                        rw [hpa'] at cP
                        have hok : okD L k ⟨P, K, l, _⟩ = true := HOK.out.2 ⟨hpr, HAh.out, by show (1 : Int) ≤ K; omega, by show K ≤ (3 : Int); omega, hLr, Or.inl hK2, Or.inr hDa, fun p hp => by rw [show Path.parent (bl P) = none from hpa] at hp; cases hp⟩
                        have HNX2 : Hid (∀ j (h : j < L.length), j < k + 1 → okD L j L[j] = true) := HNX.out hok
                        clear hok HNX HNo HOK
                        go_wp2_with fail
                        refine cP.mono ?_
                        rintro e w4 ⟨rfl, rfl⟩
                        clear cP
                        go_wp2_with fail
                        exact ⟨⟨k + 1, by omega, by go_num, HNX2.out, HF.out.then7 HF3.out⟩, by simp [intOf]; omega⟩
                      | some p =>
                        have hpa' : Path.parent P.data.toList = some p := hpa
                        rw [hpa'] at cP
                        have cF := efind_any (some ⟨g, o, none⟩) n c L ⟨p.toArray⟩ w3 HL.out (HE.out.kept (HF.out.then7 HF3.out)) (by omega)
                        have ebl : bl ⟨p.toArray⟩ = p := rfl
                        rw [ebl] at cF
                        cases hf : findE L p with
                        | none =>
                          rw [hf] at cF
                          have e : R = false := HNo.out (fun h => by obtain ⟨d, h1, _⟩ := (HOK.out.1 h).2.2.2.2.2.2.2 p hpa; rw [hf] at h1; cases h1)
                          subst e
                          clear HNX HNo HOK
                          go_wp2_with fail
                          refine cP.mono ?_
                          rintro e w4 ⟨rfl, rfl⟩
                          clear cP
                          go_wp2_with fail
                          refine cF.mono ?_
                          rintro e w5 ⟨f5, rfl⟩
                          have HF5 : Hid (Fr None' w w5) := (HF.out.then7 HF3.out).then7 f5
                          clear cF f5
                          go_wp2_with fail
                          go_ret
                          exact ⟨rfl, HF5.out.then7 (Fr.alloc None' _ _)⟩
                        | some d =>
                          rw [hf] at cF
                          obtain ⟨Pd, Kd, ld, Dd⟩ := d
                          by_cases hkd : Kd = 1
                          · subst hkd
                            have hok : okD L k ⟨P, K, l, _⟩ = true := HOK.out.2 ⟨hpr, HAh.out, by show (1 : Int) ≤ K; omega, by show K ≤ (3 : Int); omega, hLr, Or.inl hK2, Or.inr hDa, fun p' hp => by rw [show Path.parent (bl P) = some p from hpa] at hp; cases hp; exact ⟨_, hf, rfl⟩⟩
                            have HNX2 : Hid (∀ j (h : j < L.length), j < k + 1 → okD L j L[j] = true) := HNX.out hok
                            clear hok HNX HNo HOK
                            go_wp2_with fail
                            refine cP.mono ?_
                            rintro e w4 ⟨rfl, rfl⟩
                            clear cP
                            go_wp2_with fail
                            refine cF.mono ?_
                            rintro e w5 ⟨f5, vd, rfl, hsd⟩
                            obtain ⟨pd, cd, rfl, _⟩ := hsd
                            have HF5 : Hid (Fr None' w w5) := (HF.out.then7 HF3.out).then7 f5
                            clear cF f5
                            go_wp2_with fail
                            exact ⟨⟨k + 1, by omega, by go_num, HNX2.out, HF5.out.then7 (Fr.alloc None' _ _)⟩, by simp [intOf]; omega⟩
                          · have e : R = false := HNo.out (fun h => by obtain ⟨d, h1, h2⟩ := (HOK.out.1 h).2.2.2.2.2.2.2 p hpa; rw [hf] at h1; cases h1; exact hkd h2)
                            subst e
                            have zk : (Kd == 1) = false := by simpa using hkd
                            clear HNX HNo HOK
                            go_wp2_with fail
                            refine cP.mono ?_
                            rintro e w4 ⟨rfl, rfl⟩
                            clear cP
                            go_wp2_with fail
                            refine cF.mono ?_
                            rintro e w5 ⟨f5, vd, rfl, hsd⟩
                            obtain ⟨pd, cd, rfl, _⟩ := hsd
                            have HF5 : Hid (Fr None' w w5) := (HF.out.then7 HF3.out).then7 f5
                            clear cF f5
                            go_wp2_with fail
                            go_ret
                            exact ⟨rfl, HF5.out.then7 (Fr.alloc None' _ _)⟩
                    · have yd := isEmpty_no hDa
                      have e : R = false := HNo.out (fun h => by rcases (HOK.out.1 h).2.2.2.2.2.2.1 with h2 | h2; (have h3 : K = 3 := h2; omega); exact hDa h2)
                      subst e
                      go_wp2_with fail
                      go_ret
                      exact ⟨rfl, HF.out.then7 HF3.out⟩
                  · have zk2 : (K == 2) = false := by simpa using hK2
                    by_cases hnl : nl = 0
                    · have qn : ¬ (0 : Int) < (nl : Int) := by omega
                      have hle : l = [] := List.length_eq_zero_iff.1 (by rw [HRW.out.2.1]; exact hnl)
                      by_cases hKt : K = 3
                      · have zk3 : (K == 3) = true := by simpa using hKt
                        have cP := Path.rparent_any P w3 (by have := HZ.out.1; omega)
                        unfold Path.parentS at cP
                        cases hpa : Path.parent (bl P) with
                        | none =>
                          have hpa' : Path.parent P.data.toList = none := hpa
                          rw [hpa'] at cP
                          have hok : okD L k ⟨P, K, l, _⟩ = true := HOK.out.2 ⟨hpr, HAh.out, by show (1 : Int) ≤ K; omega, by show K ≤ (3 : Int); omega, hLr, Or.inr hle, Or.inl hKt, fun p hp => by rw [show Path.parent (bl P) = none from hpa] at hp; cases hp⟩
                          have HNX2 : Hid (∀ j (h : j < L.length), j < k + 1 → okD L j L[j] = true) := HNX.out hok
                          clear hok HNX HNo HOK
                          go_wp2_with fail
                          refine cP.mono ?_
                          rintro e w4 ⟨rfl, rfl⟩
                          clear cP
                          go_wp2_with fail
                          exact ⟨⟨k + 1, by omega, by go_num, HNX2.out, HF.out.then7 HF3.out⟩, by simp [intOf]; omega⟩
                        | some p =>
                          have hpa' : Path.parent P.data.toList = some p := hpa
                          rw [hpa'] at cP
                          have cF := efind_any (some ⟨g, o, none⟩) n c L ⟨p.toArray⟩ w3 HL.out (HE.out.kept (HF.out.then7 HF3.out)) (by omega)
                          have ebl : bl ⟨p.toArray⟩ = p := rfl
                          rw [ebl] at cF
                          cases hf : findE L p with
                          | none =>
                            rw [hf] at cF
                            have e : R = false := HNo.out (fun h => by obtain ⟨d, h1, _⟩ := (HOK.out.1 h).2.2.2.2.2.2.2 p hpa; rw [hf] at h1; cases h1)
                            subst e
                            clear HNX HNo HOK
                            go_wp2_with fail
                            refine cP.mono ?_
                            rintro e w4 ⟨rfl, rfl⟩
                            clear cP
                            go_wp2_with fail
                            refine cF.mono ?_
                            rintro e w5 ⟨f5, rfl⟩
                            have HF5 : Hid (Fr None' w w5) := (HF.out.then7 HF3.out).then7 f5
                            clear cF f5
                            go_wp2_with fail
                            go_ret
                            exact ⟨rfl, HF5.out.then7 (Fr.alloc None' _ _)⟩
                          | some d =>
                            rw [hf] at cF
                            obtain ⟨Pd, Kd, ld, Dd⟩ := d
                            by_cases hkd : Kd = 1
                            · subst hkd
                              have hok : okD L k ⟨P, K, l, _⟩ = true := HOK.out.2 ⟨hpr, HAh.out, by show (1 : Int) ≤ K; omega, by show K ≤ (3 : Int); omega, hLr, Or.inr hle, Or.inl hKt, fun p' hp => by rw [show Path.parent (bl P) = some p from hpa] at hp; cases hp; exact ⟨_, hf, rfl⟩⟩
                              have HNX2 : Hid (∀ j (h : j < L.length), j < k + 1 → okD L j L[j] = true) := HNX.out hok
                              clear hok HNX HNo HOK
                              go_wp2_with fail
                              refine cP.mono ?_
                              rintro e w4 ⟨rfl, rfl⟩
                              clear cP
                              go_wp2_with fail
                              refine cF.mono ?_
                              rintro e w5 ⟨f5, vd, rfl, hsd⟩
                              obtain ⟨pd, cd, rfl, _⟩ := hsd
                              have HF5 : Hid (Fr None' w w5) := (HF.out.then7 HF3.out).then7 f5
                              clear cF f5
                              go_wp2_with fail
                              exact ⟨⟨k + 1, by omega, by go_num, HNX2.out, HF5.out.then7 (Fr.alloc None' _ _)⟩, by simp [intOf]; omega⟩
                            · have e : R = false := HNo.out (fun h => by obtain ⟨d, h1, h2⟩ := (HOK.out.1 h).2.2.2.2.2.2.2 p hpa; rw [hf] at h1; cases h1; exact hkd h2)
                              subst e
                              have zk : (Kd == 1) = false := by simpa using hkd
                              clear HNX HNo HOK
                              go_wp2_with fail
                              refine cP.mono ?_
                              rintro e w4 ⟨rfl, rfl⟩
                              clear cP
                              go_wp2_with fail
                              refine cF.mono ?_
                              rintro e w5 ⟨f5, vd, rfl, hsd⟩
                              obtain ⟨pd, cd, rfl, _⟩ := hsd
                              have HF5 : Hid (Fr None' w w5) := (HF.out.then7 HF3.out).then7 f5
                              clear cF f5
                              go_wp2_with fail
                              go_ret
                              exact ⟨rfl, HF5.out.then7 (Fr.alloc None' _ _)⟩
                      · have zk3 : (K == 3) = false := by simpa using hKt
                        by_cases hDa : Da.size = 0
                        · have hDe := empty_of hDa
                          subst hDe
                          have cP := Path.rparent_any P w3 (by have := HZ.out.1; omega)
                          unfold Path.parentS at cP
                          cases hpa : Path.parent (bl P) with
                          | none =>
                            have hpa' : Path.parent P.data.toList = none := hpa
                            rw [hpa'] at cP
                            have hok : okD L k ⟨P, K, l, _⟩ = true := HOK.out.2 ⟨hpr, HAh.out, by show (1 : Int) ≤ K; omega, by show K ≤ (3 : Int); omega, hLr, Or.inr hle, Or.inr hDa, fun p hp => by rw [show Path.parent (bl P) = none from hpa] at hp; cases hp⟩
                            have HNX2 : Hid (∀ j (h : j < L.length), j < k + 1 → okD L j L[j] = true) := HNX.out hok
                            clear hok HNX HNo HOK
                            go_wp2_with fail
                            refine cP.mono ?_
                            rintro e w4 ⟨rfl, rfl⟩
                            clear cP
                            go_wp2_with fail
                            exact ⟨⟨k + 1, by omega, by go_num, HNX2.out, HF.out.then7 HF3.out⟩, by simp [intOf]; omega⟩
                          | some p =>
                            have hpa' : Path.parent P.data.toList = some p := hpa
                            rw [hpa'] at cP
                            have cF := efind_any (some ⟨g, o, none⟩) n c L ⟨p.toArray⟩ w3 HL.out (HE.out.kept (HF.out.then7 HF3.out)) (by omega)
                            have ebl : bl ⟨p.toArray⟩ = p := rfl
                            rw [ebl] at cF
                            cases hf : findE L p with
                            | none =>
                              rw [hf] at cF
                              have e : R = false := HNo.out (fun h => by obtain ⟨d, h1, _⟩ := (HOK.out.1 h).2.2.2.2.2.2.2 p hpa; rw [hf] at h1; cases h1)
                              subst e
                              clear HNX HNo HOK
                              go_wp2_with fail
                              refine cP.mono ?_
                              rintro e w4 ⟨rfl, rfl⟩
                              clear cP
                              go_wp2_with fail
                              refine cF.mono ?_
                              rintro e w5 ⟨f5, rfl⟩
                              have HF5 : Hid (Fr None' w w5) := (HF.out.then7 HF3.out).then7 f5
                              clear cF f5
                              go_wp2_with fail
                              go_ret
                              exact ⟨rfl, HF5.out.then7 (Fr.alloc None' _ _)⟩
                            | some d =>
                              rw [hf] at cF
                              obtain ⟨Pd, Kd, ld, Dd⟩ := d
                              by_cases hkd : Kd = 1
                              · subst hkd
                                have hok : okD L k ⟨P, K, l, _⟩ = true := HOK.out.2 ⟨hpr, HAh.out, by show (1 : Int) ≤ K; omega, by show K ≤ (3 : Int); omega, hLr, Or.inr hle, Or.inr hDa, fun p' hp => by rw [show Path.parent (bl P) = some p from hpa] at hp; cases hp; exact ⟨_, hf, rfl⟩⟩
                                have HNX2 : Hid (∀ j (h : j < L.length), j < k + 1 → okD L j L[j] = true) := HNX.out hok
                                clear hok HNX HNo HOK
                                go_wp2_with fail
                                refine cP.mono ?_
                                rintro e w4 ⟨rfl, rfl⟩
                                clear cP
                                go_wp2_with fail
                                refine cF.mono ?_
                                rintro e w5 ⟨f5, vd, rfl, hsd⟩
                                obtain ⟨pd, cd, rfl, _⟩ := hsd
                                have HF5 : Hid (Fr None' w w5) := (HF.out.then7 HF3.out).then7 f5
                                clear cF f5
                                go_wp2_with fail
                                exact ⟨⟨k + 1, by omega, by go_num, HNX2.out, HF5.out.then7 (Fr.alloc None' _ _)⟩, by simp [intOf]; omega⟩
                              · have e : R = false := HNo.out (fun h => by obtain ⟨d, h1, h2⟩ := (HOK.out.1 h).2.2.2.2.2.2.2 p hpa; rw [hf] at h1; cases h1; exact hkd h2)
                                subst e
                                have zk : (Kd == 1) = false := by simpa using hkd
                                clear HNX HNo HOK
                                go_wp2_with fail
                                refine cP.mono ?_
                                rintro e w4 ⟨rfl, rfl⟩
                                clear cP
                                go_wp2_with fail
                                refine cF.mono ?_
                                rintro e w5 ⟨f5, vd, rfl, hsd⟩
                                obtain ⟨pd, cd, rfl, _⟩ := hsd
                                have HF5 : Hid (Fr None' w w5) := (HF.out.then7 HF3.out).then7 f5
                                clear cF f5
                                go_wp2_with fail
                                go_ret
                                exact ⟨rfl, HF5.out.then7 (Fr.alloc None' _ _)⟩
                        · have yd := isEmpty_no hDa
                          have e : R = false := HNo.out (fun h => by rcases (HOK.out.1 h).2.2.2.2.2.2.1 with h2 | h2; exact hKt h2; exact hDa h2)
                          subst e
                          go_wp2_with fail
                          go_ret
                          exact ⟨rfl, HF.out.then7 HF3.out⟩
                    · have qn : (0 : Int) < (nl : Int) := by omega
                      have e : R = false := HNo.out (fun h => by rcases (HOK.out.1 h).2.2.2.2.2.1 with h2 | h2; exact hK2 h2; (have h3 : l = [] := h2; have h4 := HRW.out.2.1; rw [h3] at h4; exact hnl h4.symm))
                      subst e
                      go_wp2_with fail
                      go_ret
                      exact ⟨rfl, HF.out.then7 HF3.out⟩
          · obtain ⟨i, he⟩ : ∃ i, k = i + 1 := ⟨k - 1, by omega⟩
            have hiL : i < L.length := by omega
            obtain ⟨g', o', e', vq, p0, _⟩ := (HE.out.kept HF.out).get hiL
            cases e'
            replace p0 := HF1.out.keepCell p0 (fun e => e)
            have HAe : Hid (ahead L k ⟨P, K, l, Da⟩ = decide (bl L[i].path < bl P)) := by show _ = _; rw [he]; exact ahead_succ hiL _
            have hle := less_eq L[i].path P
            obtain ⟨Q, hQ⟩ : ∃ Q, L[i].path = Q := ⟨_, rfl⟩
            rw [hQ] at p0 HAe hle
            have q2 : decide ((0 : Int) < (k : Int)) = true := by simp; omega
            have q2n : decide (0 < k) = true := by simp; omega
            have ri : IntKind.i64.wrap ((k : Int) - 1) = (i : Int) := by rw [IntKind.wrap_i64]; omega
            have ri2 : (k : Int) - 1 = (i : Int) := by omega
            have i5 : (0 : Int) ≤ (i : Int) := by omega
            have i6 : (i : Int) < (n : Int) := by omega
            clear he
            by_cases hlq : bl Q < bl P
            · rw [decide_eq_true hlq] at hle
              have HAh : Hid (ahead L k ⟨P, K, l, Da⟩ = true) := by show _ = _; rw [HAe.out]; exact decide_eq_true hlq
              clear hQ HAe hlq
              by_cases hK1 : K < 1
              · have e : R = false := HNo.out (fun h => by have h2 : (1 : Int) ≤ K := (HOK.out.1 h).2.2.1; omega)
                subst e
                have q3 : decide (K < 1) = true := by simpa using hK1
                go_wp2_with fail
                go_quiet ((go_at_call 24; exact Calls.quiet_of_same (cR _)))
                go_wp2_with fail
                go_ret
                exact ⟨rfl, (HF.out.then7 HF1.out).then7 (drewF _ _)⟩
              · have q3 : decide (K < 1) = false := by simpa using hK1
                by_cases hK3 : 3 < K
                · have e : R = false := HNo.out (fun h => by have h2 : K ≤ (3 : Int) := (HOK.out.1 h).2.2.2.1; omega)
                  subst e
                  have q4 : decide (3 < K) = true := by simpa using hK3
                  go_wp2_with fail
                  go_quiet ((go_at_call 24; exact Calls.quiet_of_same (cR _)))
                  go_wp2_with fail
                  go_ret
                  exact ⟨rfl, (HF.out.then7 HF1.out).then7 (drewF _ _)⟩
                · have q4 : decide (3 < K) = false := by simpa using hK3
                  go_wp2_with fail
                  go_quiet ((go_at_call 24; exact Calls.quiet_of_same (cR _)))
                  obtain ⟨w2, hw2⟩ : ∃ x, w1.drewN nq = x := ⟨_, rfl⟩
                  have f2 : Fr None' w1 w2 := hw2 ▸ drewF _ _
                  rw [hw2]
                  replace b0 := f2.keepCell b0 (fun e => e)
                  replace b1 := f2.keepCell b1 (fun e => e)
                  replace b2 := f2.keepCell b2 (fun e => e)
                  replace b3 := f2.keepCell b3 (fun e => e)
                  have HF2 : Hid (Fr None' wr w2) := HF1.out.then7 f2
                  clear hw2 f2 cR d0 d1 d2 d3 HF1
                  have cL : Calls Tryz.prog 25 #[.slice pl nl cl] w2 fun e w' => e = .returned (.bool (Lines.right (Lines.bs l))) ∧ Fr None' w2 w' := by
                    have h := Lines.rRight_any pl cl l w2 (HRW.out.1.fr (toLN HF2.out)) (by rw [HRW.out.2.1]; have := HZ.out.2; omega) HRW.out.2.2
                    rw [HRW.out.2.1] at h
                    exact h.mono fun _ _ h => ⟨h.1, ofLN h.2⟩
                  go_wp2_with fail
                  refine cL.mono ?_
                  rintro e w3 ⟨rfl, f3⟩
                  replace b0 := f3.keepCell b0 (fun e => e)
                  replace b1 := f3.keepCell b1 (fun e => e)
                  replace b2 := f3.keepCell b2 (fun e => e)
                  replace b3 := f3.keepCell b3 (fun e => e)
                  have HF3 : Hid (Fr None' wr w3) := HF2.out.then7 f3
                  clear cL f3 HF2
                  cases hLr : Lines.right (Lines.bs l) with
                  | false =>
                    have e : R = false := HNo.out (fun h => by have h2 : Lines.right (Lines.bs l) = true := (HOK.out.1 h).2.2.2.2.1; rw [hLr] at h2; cases h2)
                    subst e
                    go_wp2_with fail
                    go_ret
                    exact ⟨rfl, HF.out.then7 HF3.out⟩
                  | true =>
                    by_cases hK2 : K = 2
                    · have zk2 : (K == 2) = true := by simpa using hK2
                      have zk3 : (K == 3) = false := by simp; omega
                      by_cases hDa : Da.size = 0
                      · have hDe := empty_of hDa
                        subst hDe
                        have cP := Path.rparent_any P w3 (by have := HZ.out.1; omega)
                        unfold Path.parentS at cP
                        cases hpa : Path.parent (bl P) with
                        | none =>
                          have hpa' : Path.parent P.data.toList = none := hpa
                          rw [hpa'] at cP
                          have hok : okD L k ⟨P, K, l, _⟩ = true := HOK.out.2 ⟨hpr, HAh.out, by show (1 : Int) ≤ K; omega, by show K ≤ (3 : Int); omega, hLr, Or.inl hK2, Or.inr hDa, fun p hp => by rw [show Path.parent (bl P) = none from hpa] at hp; cases hp⟩
                          have HNX2 : Hid (∀ j (h : j < L.length), j < k + 1 → okD L j L[j] = true) := HNX.out hok
                          clear hok HNX HNo HOK
                          go_wp2_with fail
                          refine cP.mono ?_
                          rintro e w4 ⟨rfl, rfl⟩
                          clear cP
                          go_wp2_with fail
                          exact ⟨⟨k + 1, by omega, by go_num, HNX2.out, HF.out.then7 HF3.out⟩, by simp [intOf]; omega⟩
                        | some p =>
                          have hpa' : Path.parent P.data.toList = some p := hpa
                          rw [hpa'] at cP
                          have cF := efind_any (some ⟨g, o, none⟩) n c L ⟨p.toArray⟩ w3 HL.out (HE.out.kept (HF.out.then7 HF3.out)) (by omega)
                          have ebl : bl ⟨p.toArray⟩ = p := rfl
                          rw [ebl] at cF
                          cases hf : findE L p with
                          | none =>
                            rw [hf] at cF
                            have e : R = false := HNo.out (fun h => by obtain ⟨d, h1, _⟩ := (HOK.out.1 h).2.2.2.2.2.2.2 p hpa; rw [hf] at h1; cases h1)
                            subst e
                            clear HNX HNo HOK
                            go_wp2_with fail
                            refine cP.mono ?_
                            rintro e w4 ⟨rfl, rfl⟩
                            clear cP
                            go_wp2_with fail
                            refine cF.mono ?_
                            rintro e w5 ⟨f5, rfl⟩
                            have HF5 : Hid (Fr None' w w5) := (HF.out.then7 HF3.out).then7 f5
                            clear cF f5
                            go_wp2_with fail
                            go_ret
                            exact ⟨rfl, HF5.out.then7 (Fr.alloc None' _ _)⟩
                          | some d =>
                            rw [hf] at cF
                            obtain ⟨Pd, Kd, ld, Dd⟩ := d
                            by_cases hkd : Kd = 1
                            · subst hkd
                              have hok : okD L k ⟨P, K, l, _⟩ = true := HOK.out.2 ⟨hpr, HAh.out, by show (1 : Int) ≤ K; omega, by show K ≤ (3 : Int); omega, hLr, Or.inl hK2, Or.inr hDa, fun p' hp => by rw [show Path.parent (bl P) = some p from hpa] at hp; cases hp; exact ⟨_, hf, rfl⟩⟩
                              have HNX2 : Hid (∀ j (h : j < L.length), j < k + 1 → okD L j L[j] = true) := HNX.out hok
                              clear hok HNX HNo HOK
                              go_wp2_with fail
                              refine cP.mono ?_
                              rintro e w4 ⟨rfl, rfl⟩
                              clear cP
                              go_wp2_with fail
                              refine cF.mono ?_
                              rintro e w5 ⟨f5, vd, rfl, hsd⟩
                              obtain ⟨pd, cd, rfl, _⟩ := hsd
                              have HF5 : Hid (Fr None' w w5) := (HF.out.then7 HF3.out).then7 f5
                              clear cF f5
                              go_wp2_with fail
                              exact ⟨⟨k + 1, by omega, by go_num, HNX2.out, HF5.out.then7 (Fr.alloc None' _ _)⟩, by simp [intOf]; omega⟩
                            · have e : R = false := HNo.out (fun h => by obtain ⟨d, h1, h2⟩ := (HOK.out.1 h).2.2.2.2.2.2.2 p hpa; rw [hf] at h1; cases h1; exact hkd h2)
                              subst e
                              have zk : (Kd == 1) = false := by simpa using hkd
                              clear HNX HNo HOK
                              go_wp2_with fail
                              refine cP.mono ?_
                              rintro e w4 ⟨rfl, rfl⟩
                              clear cP
                              go_wp2_with fail
                              refine cF.mono ?_
                              rintro e w5 ⟨f5, vd, rfl, hsd⟩
                              obtain ⟨pd, cd, rfl, _⟩ := hsd
                              have HF5 : Hid (Fr None' w w5) := (HF.out.then7 HF3.out).then7 f5
                              clear cF f5
                              go_wp2_with fail
                              go_ret
                              exact ⟨rfl, HF5.out.then7 (Fr.alloc None' _ _)⟩
                      · have yd := isEmpty_no hDa
                        have e : R = false := HNo.out (fun h => by rcases (HOK.out.1 h).2.2.2.2.2.2.1 with h2 | h2; (have h3 : K = 3 := h2; omega); exact hDa h2)
                        subst e
                        go_wp2_with fail
                        go_ret
                        exact ⟨rfl, HF.out.then7 HF3.out⟩
                    · have zk2 : (K == 2) = false := by simpa using hK2
                      by_cases hnl : nl = 0
                      · have qn : ¬ (0 : Int) < (nl : Int) := by omega
                        have hle : l = [] := List.length_eq_zero_iff.1 (by rw [HRW.out.2.1]; exact hnl)
                        by_cases hKt : K = 3
                        · have zk3 : (K == 3) = true := by simpa using hKt
                          have cP := Path.rparent_any P w3 (by have := HZ.out.1; omega)
                          unfold Path.parentS at cP
                          cases hpa : Path.parent (bl P) with
                          | none =>
                            have hpa' : Path.parent P.data.toList = none := hpa
                            rw [hpa'] at cP
                            have hok : okD L k ⟨P, K, l, _⟩ = true := HOK.out.2 ⟨hpr, HAh.out, by show (1 : Int) ≤ K; omega, by show K ≤ (3 : Int); omega, hLr, Or.inr hle, Or.inl hKt, fun p hp => by rw [show Path.parent (bl P) = none from hpa] at hp; cases hp⟩
                            have HNX2 : Hid (∀ j (h : j < L.length), j < k + 1 → okD L j L[j] = true) := HNX.out hok
                            clear hok HNX HNo HOK
                            go_wp2_with fail
                            refine cP.mono ?_
                            rintro e w4 ⟨rfl, rfl⟩
                            clear cP
                            go_wp2_with fail
                            exact ⟨⟨k + 1, by omega, by go_num, HNX2.out, HF.out.then7 HF3.out⟩, by simp [intOf]; omega⟩
                          | some p =>
                            have hpa' : Path.parent P.data.toList = some p := hpa
                            rw [hpa'] at cP
                            have cF := efind_any (some ⟨g, o, none⟩) n c L ⟨p.toArray⟩ w3 HL.out (HE.out.kept (HF.out.then7 HF3.out)) (by omega)
                            have ebl : bl ⟨p.toArray⟩ = p := rfl
                            rw [ebl] at cF
                            cases hf : findE L p with
                            | none =>
                              rw [hf] at cF
                              have e : R = false := HNo.out (fun h => by obtain ⟨d, h1, _⟩ := (HOK.out.1 h).2.2.2.2.2.2.2 p hpa; rw [hf] at h1; cases h1)
                              subst e
                              clear HNX HNo HOK
                              go_wp2_with fail
                              refine cP.mono ?_
                              rintro e w4 ⟨rfl, rfl⟩
                              clear cP
                              go_wp2_with fail
                              refine cF.mono ?_
                              rintro e w5 ⟨f5, rfl⟩
                              have HF5 : Hid (Fr None' w w5) := (HF.out.then7 HF3.out).then7 f5
                              clear cF f5
                              go_wp2_with fail
                              go_ret
                              exact ⟨rfl, HF5.out.then7 (Fr.alloc None' _ _)⟩
                            | some d =>
                              rw [hf] at cF
                              obtain ⟨Pd, Kd, ld, Dd⟩ := d
                              by_cases hkd : Kd = 1
                              · subst hkd
                                have hok : okD L k ⟨P, K, l, _⟩ = true := HOK.out.2 ⟨hpr, HAh.out, by show (1 : Int) ≤ K; omega, by show K ≤ (3 : Int); omega, hLr, Or.inr hle, Or.inl hKt, fun p' hp => by rw [show Path.parent (bl P) = some p from hpa] at hp; cases hp; exact ⟨_, hf, rfl⟩⟩
                                have HNX2 : Hid (∀ j (h : j < L.length), j < k + 1 → okD L j L[j] = true) := HNX.out hok
                                clear hok HNX HNo HOK
                                go_wp2_with fail
                                refine cP.mono ?_
                                rintro e w4 ⟨rfl, rfl⟩
                                clear cP
                                go_wp2_with fail
                                refine cF.mono ?_
                                rintro e w5 ⟨f5, vd, rfl, hsd⟩
                                obtain ⟨pd, cd, rfl, _⟩ := hsd
                                have HF5 : Hid (Fr None' w w5) := (HF.out.then7 HF3.out).then7 f5
                                clear cF f5
                                go_wp2_with fail
                                exact ⟨⟨k + 1, by omega, by go_num, HNX2.out, HF5.out.then7 (Fr.alloc None' _ _)⟩, by simp [intOf]; omega⟩
                              · have e : R = false := HNo.out (fun h => by obtain ⟨d, h1, h2⟩ := (HOK.out.1 h).2.2.2.2.2.2.2 p hpa; rw [hf] at h1; cases h1; exact hkd h2)
                                subst e
                                have zk : (Kd == 1) = false := by simpa using hkd
                                clear HNX HNo HOK
                                go_wp2_with fail
                                refine cP.mono ?_
                                rintro e w4 ⟨rfl, rfl⟩
                                clear cP
                                go_wp2_with fail
                                refine cF.mono ?_
                                rintro e w5 ⟨f5, vd, rfl, hsd⟩
                                obtain ⟨pd, cd, rfl, _⟩ := hsd
                                have HF5 : Hid (Fr None' w w5) := (HF.out.then7 HF3.out).then7 f5
                                clear cF f5
                                go_wp2_with fail
                                go_ret
                                exact ⟨rfl, HF5.out.then7 (Fr.alloc None' _ _)⟩
                        · have zk3 : (K == 3) = false := by simpa using hKt
                          by_cases hDa : Da.size = 0
                          · have hDe := empty_of hDa
                            subst hDe
                            have cP := Path.rparent_any P w3 (by have := HZ.out.1; omega)
                            unfold Path.parentS at cP
                            cases hpa : Path.parent (bl P) with
                            | none =>
                              have hpa' : Path.parent P.data.toList = none := hpa
                              rw [hpa'] at cP
                              have hok : okD L k ⟨P, K, l, _⟩ = true := HOK.out.2 ⟨hpr, HAh.out, by show (1 : Int) ≤ K; omega, by show K ≤ (3 : Int); omega, hLr, Or.inr hle, Or.inr hDa, fun p hp => by rw [show Path.parent (bl P) = none from hpa] at hp; cases hp⟩
                              have HNX2 : Hid (∀ j (h : j < L.length), j < k + 1 → okD L j L[j] = true) := HNX.out hok
                              clear hok HNX HNo HOK
                              go_wp2_with fail
                              refine cP.mono ?_
                              rintro e w4 ⟨rfl, rfl⟩
                              clear cP
                              go_wp2_with fail
                              exact ⟨⟨k + 1, by omega, by go_num, HNX2.out, HF.out.then7 HF3.out⟩, by simp [intOf]; omega⟩
                            | some p =>
                              have hpa' : Path.parent P.data.toList = some p := hpa
                              rw [hpa'] at cP
                              have cF := efind_any (some ⟨g, o, none⟩) n c L ⟨p.toArray⟩ w3 HL.out (HE.out.kept (HF.out.then7 HF3.out)) (by omega)
                              have ebl : bl ⟨p.toArray⟩ = p := rfl
                              rw [ebl] at cF
                              cases hf : findE L p with
                              | none =>
                                rw [hf] at cF
                                have e : R = false := HNo.out (fun h => by obtain ⟨d, h1, _⟩ := (HOK.out.1 h).2.2.2.2.2.2.2 p hpa; rw [hf] at h1; cases h1)
                                subst e
                                clear HNX HNo HOK
                                go_wp2_with fail
                                refine cP.mono ?_
                                rintro e w4 ⟨rfl, rfl⟩
                                clear cP
                                go_wp2_with fail
                                refine cF.mono ?_
                                rintro e w5 ⟨f5, rfl⟩
                                have HF5 : Hid (Fr None' w w5) := (HF.out.then7 HF3.out).then7 f5
                                clear cF f5
                                go_wp2_with fail
                                go_ret
                                exact ⟨rfl, HF5.out.then7 (Fr.alloc None' _ _)⟩
                              | some d =>
                                rw [hf] at cF
                                obtain ⟨Pd, Kd, ld, Dd⟩ := d
                                by_cases hkd : Kd = 1
                                · subst hkd
                                  have hok : okD L k ⟨P, K, l, _⟩ = true := HOK.out.2 ⟨hpr, HAh.out, by show (1 : Int) ≤ K; omega, by show K ≤ (3 : Int); omega, hLr, Or.inr hle, Or.inr hDa, fun p' hp => by rw [show Path.parent (bl P) = some p from hpa] at hp; cases hp; exact ⟨_, hf, rfl⟩⟩
                                  have HNX2 : Hid (∀ j (h : j < L.length), j < k + 1 → okD L j L[j] = true) := HNX.out hok
                                  clear hok HNX HNo HOK
                                  go_wp2_with fail
                                  refine cP.mono ?_
                                  rintro e w4 ⟨rfl, rfl⟩
                                  clear cP
                                  go_wp2_with fail
                                  refine cF.mono ?_
                                  rintro e w5 ⟨f5, vd, rfl, hsd⟩
                                  obtain ⟨pd, cd, rfl, _⟩ := hsd
                                  have HF5 : Hid (Fr None' w w5) := (HF.out.then7 HF3.out).then7 f5
                                  clear cF f5
                                  go_wp2_with fail
                                  exact ⟨⟨k + 1, by omega, by go_num, HNX2.out, HF5.out.then7 (Fr.alloc None' _ _)⟩, by simp [intOf]; omega⟩
                                · have e : R = false := HNo.out (fun h => by obtain ⟨d, h1, h2⟩ := (HOK.out.1 h).2.2.2.2.2.2.2 p hpa; rw [hf] at h1; cases h1; exact hkd h2)
                                  subst e
                                  have zk : (Kd == 1) = false := by simpa using hkd
                                  clear HNX HNo HOK
                                  go_wp2_with fail
                                  refine cP.mono ?_
                                  rintro e w4 ⟨rfl, rfl⟩
                                  clear cP
                                  go_wp2_with fail
                                  refine cF.mono ?_
                                  rintro e w5 ⟨f5, vd, rfl, hsd⟩
                                  obtain ⟨pd, cd, rfl, _⟩ := hsd
                                  have HF5 : Hid (Fr None' w w5) := (HF.out.then7 HF3.out).then7 f5
                                  clear cF f5
                                  go_wp2_with fail
                                  go_ret
                                  exact ⟨rfl, HF5.out.then7 (Fr.alloc None' _ _)⟩
                          · have yd := isEmpty_no hDa
                            have e : R = false := HNo.out (fun h => by rcases (HOK.out.1 h).2.2.2.2.2.2.1 with h2 | h2; exact hKt h2; exact hDa h2)
                            subst e
                            go_wp2_with fail
                            go_ret
                            exact ⟨rfl, HF.out.then7 HF3.out⟩
                      · have qn : (0 : Int) < (nl : Int) := by omega
                        have e : R = false := HNo.out (fun h => by rcases (HOK.out.1 h).2.2.2.2.2.1 with h2 | h2; exact hK2 h2; (have h3 : l = [] := h2; have h4 := HRW.out.2.1; rw [h3] at h4; exact hnl h4.symm))
                        subst e
                        go_wp2_with fail
                        go_ret
                        exact ⟨rfl, HF.out.then7 HF3.out⟩
            · rw [decide_eq_false hlq] at hle
              have e : R = false := HNo.out (fun h => by have h2 := (HOK.out.1 h).2.1; rw [HAe.out, decide_eq_false hlq] at h2; cases h2)
              subst e
              clear hQ HAe hlq
              go_wp2_with fail
              go_quiet ((go_at_call 24; exact Calls.quiet_of_same (cR _)))
              go_wp2_with fail
              go_ret
              exact ⟨rfl, (HF.out.then7 HF1.out).then7 (drewF _ _)⟩
      · have e : k = n := by omega
        subst e
        have e : R = true := by
          rw [← HR.out]
          exact (treeRight_D L).2 ⟨by rw [HL.out]; exact HNB.out, fun j hj => HT.out j hj (by rw [← HL.out]; exact hj)⟩
        subst e
        go_wp2_with fail
        go_ret
        exact ⟨rfl, HF.out⟩

end Go.Proofs.YtjpgpbfnmokmiabGreatDoor

namespace Go.Proofs.YtjpgpbfnmokmiabGreatDoor
open Go.RowKit Go.Maps Go.WideMaps
set_option maxRecDepth 100000

/-- A patch that moves. -/
def mvP (a b : ByteArray) : Pr := ⟨10, a, b, ⟨#[]⟩, 0, [], []⟩

theorem mv_sm {a b : ByteArray} (h1 : a.size ≤ 4000) (h2 : b.size ≤ 4000) : SmPr (mvP a b) := ⟨h1, h2, Nat.zero_le _, Nat.zero_le _, Nat.zero_le _, fun y hy => (by cases hy), fun y hy => (by cases hy)⟩

theorem inv_mv (a b : ByteArray) : inv (mvP a b) = mvP b a := rfl

/-- What is moved. -/
theorem mv_all {L X : List En} {a b : ByteArray} {k : Nat} (e : allE L [mvP a b] = (X, 0, k)) : findE L (bl b) = none ∧ findE X (bl a) = none ∧ findE X (bl b) ≠ none ∧ allE X [mvP b a] = (L, 0, 0) := by
  have h0 := all_undone e
  rw [inv_mv] at h0
  obtain ⟨_, h1, _⟩ := all_one e
  obtain ⟨_, h2, _⟩ := all_one h0
  obtain ⟨_, a1⟩ := do_of h1
  obtain ⟨_, a2⟩ := do_of h2
  obtain ⟨_, f1, _⟩ := (act_move rfl).1 a1
  obtain ⟨n2, f2, _⟩ := (act_move rfl).1 a2
  exact ⟨(freeE_zero.1 f1).1, (freeE_zero.1 f2).1, n2, h0⟩

/-- What cannot be done makes nothing. -/
theorem all_none {L X : List En} {p : Pr} {er : Int} {k : Nat} (e : allE L [p] = (X, er, k)) (h : er ≠ 0) : X = [] := by
  cases ht : treeRight L with
  | false => rw [runE_bad ht] at e; simp at e; exact e.1
  | true =>
    rw [runE_good ht] at e
    unfold runE at e
    split at e
    · simp [runE] at e; exact absurd e.2.1.symm h
    · simp at e; exact e.1

/-- Find's answer, as far as its second half goes. -/
def FindB (w : World) (b : Bool) (e : Ending) (w' : World) : Prop := ∃ s0 s1 a1 a2 a3 s3, e = .returned (.tuple #[.agg #[.string s0, .int .i64 s1, .slice a1 a2 a3, .string s3], .bool b]) ∧ Fr None' w w'

theorem find_b {w w' : World} {e : Ending} {r : Option En} {b : Bool} (hb : r.isSome = b) (h : FindPost w r e w') : FindB w b e w' := by
  cases r with
  | none =>
    obtain ⟨h1, h2⟩ := h
    exact ⟨_, _, _, _, _, _, by rw [h2, ← hb]; rfl, h1⟩
  | some y =>
    obtain ⟨h1, vl, h2, h3⟩ := h
    obtain ⟨pl, cl, e2, _⟩ := h3
    exact ⟨_, _, _, _, _, _, by rw [h2, ← hb, e2]; rfl, h1⟩

set_option maxHeartbeats 16000000 in
theorem moves_walk (va : Option Addr) (n c : Nat) (L : List En) (a : Nat) (T : ByteArray) (W : World) (hl : L.length = n) (ha : EntsAt W va L) (hn : n ≤ 140737488355328) (hx : ∀ x ∈ L, x.lines.length ≤ 140737488355328) (h8 : a ≤ 255) :
    Calls Tryz.prog 3 #[.slice va n c, .int .u8 a, .string T] W fun e w' => e = .returned (.bool true) ∧ Fr None' W w' := by
  have HE := toHid8 (show ∀ w', Fr None' W w' → EntsAt w' va L from fun w' f => ha.kept f)
  have HG := toHid8 (fun w' (f : Fr None' W w') => great_any va n c L w' hl (ha.kept f) hn hx)
  have HT := toHid8 (fun (h1 : weight L < 4000) w' (f : Fr None' W w') => eright_any va n c L w' hl (ha.kept f) (by have := (weight_smE h1).2.1; omega) (weight_smE h1).1)
  have HA := toHid8 (fun (h1 : weight L < 4000) (p q : ByteArray) (hp : p.size ≤ 4000) (hq : q.size ≤ 4000) w' (f : Fr None' W w') => apply8_any va n c L (mvP p q) (.slice none 0 0) (.slice none 0 0) 4000 w' hl (ha.kept f) (by have := (weight_smE h1).2.1; omega) (weight_smE h1).1 (nilS8 w') (nilS8 w') (weight_smE h1).2.2 (by omega) (mv_sm hp hq))
  have HFd := toHid8 (fun (p : ByteArray) (b : Bool) (hb : (findE L (bl p)).isSome = b) w' (f : Fr None' W w') => (efind_any va n c L p w' hl (ha.kept f) hn).mono (fun e w'' h => find_b hb h))
  have HS := toHid8 (fun (h1 : weight L < 4000) vb d w' (f : Fr None' W w') (hb : EntsAt w' vb L) => esame_any vb va n d c L w' hl hb (ha.kept f) (by have := (weight_smE h1).2.1; omega) (weight_smE h1).1)
  unfold GreatPost at HG
  unfold ApplyPost8 at HA
  unfold FindB at HFd
  simp only [mvP] at HA
  have HLen := toHid8 hl
  have H8 := toHid8 h8
  have q1 := head8_any W
  clear ha hl hx h8
  go_enter Tryz.func3, Tryz.ntmps3
  go_wp2_with fail
  with_reducible refine q1.mono ?_
  rintro e w2 ⟨rfl, f2⟩
  have HF2 := toHid8 f2
  have q2 := HG.out w2 HF2.out
  clear q1 f2 HG
  go_wp2_with fail
  with_reducible refine q2.mono ?_
  rintro e w3 ⟨g, rfl, hg, f3⟩
  have HF3 := toHid8 (HF2.out.then7 f3)
  have HGf := toHid8 hg
  clear q2 f3 hg HF2
  cases g with
  | true =>
    go_wp2_with fail
    go_ret
    exact ⟨rfl, HF3.out⟩
  | false =>
    have HW := toHid8 (HGf.out rfl)
    by_cases hT : (1000 : Int) < (T.size : Int)
    · clear HGf
      go_wp2_with fail
      go_ret
      exact ⟨rfl, HF3.out⟩
    · have i1 : (T.size : Int) ≤ 1000 := by omega
      have HTs := toHid8 (show T.size ≤ 4000 from by omega)
      obtain ⟨rt, hrt⟩ : ∃ rt, treeRight L = rt := ⟨_, rfl⟩
      have q3 := HT.out HW.out w3 HF3.out
      rw [hrt] at q3
      have HRt := toHid8 hrt
      clear HGf HT hrt
      go_wp2_with fail
      with_reducible refine q3.mono ?_
      rintro e w4 ⟨rfl, f4⟩
      have HF4 := toHid8 (HF3.out.then7 f4)
      clear q3 f4 HF3
      cases rt with
      | false =>
        go_wp2_with fail
        go_ret
        exact ⟨rfl, HF4.out⟩
      | true =>
        by_cases hn0 : n = 0
        · subst hn0
          go_wp2_with fail
          go_ret
          exact ⟨rfl, HF4.out⟩
        · have j0 : ¬ (n : Int) = 0 := by omega
          have j1 : ((n : Int) == 0) = false := by simpa using j0
          obtain ⟨K, hK⟩ : ∃ K : Nat, a % n = K := ⟨_, rfl⟩
          have hKk : K < n := by rw [← hK]; exact Nat.mod_lt _ (by omega)
          have hw64 : wrap64 (a : Int) = (a : Int) := by
            have := H8.out
            unfold wrap64
            omega
          have m1 : (wrap64 (a : Int)).tmod (n : Int) = (K : Int) := by rw [hw64, ← hK]; rfl
          have hKL : K < L.length := by rw [HLen.out]; exact hKk
          obtain ⟨g, o, rfl, vl, d0, d1, d2, d3, hs1⟩ := (HE.out w4 HF4.out).get hKL
          have hsz : L[K].path.size ≤ 4000 := by
            have h1 := weight_mem (List.getElem_mem hKL)
            have h2 := HW.out
            unfold En.weight at h1
            omega
          have i7 : (0 : Int) ≤ (K : Int) := by omega
          have i8 : (K : Int) < (n : Int) := by omega
          generalize L[K].path = F at d0 hsz
          have q4 := HA.out HW.out F T hsz HTs.out w4 HF4.out
          obtain ⟨r, hr⟩ : ∃ r, allE L [mvP F T] = r := ⟨_, rfl⟩
          have hr' := hr
          simp only [mvP] at hr'
          rw [hr'] at q4
          obtain ⟨X, er, kk⟩ := r
          have HR := toHid8 hr
          have HSz := toHid8 hsz
          clear hw64 hK hKL hKk d1 d2 d3 hs1 hsz hr hr'
          go_wp2_with fail
          with_reducible refine q4.mono ?_
          rintro e w5 ⟨v5, c5, rfl, HE5, HC5, f5⟩
          have HF5 := toHid8 (HF4.out.then7 f5)
          obtain ⟨bT, hbT⟩ : ∃ b, (findE L (bl T)).isSome = b := ⟨_, rfl⟩
          have q5 := HFd.out T bT hbT w5 HF5.out
          have HbT := toHid8 hbT
          clear q4 f5 HF4 d0 m1 i7 i8 hbT
          go_wp2_with fail
          with_reducible refine q5.mono ?_
          rintro e w6 ⟨s0, s1, a1, a2, a3, s3, rfl, f6⟩
          have HF6 := toHid8 (HF5.out.then7 (f6.then7 (Fr.alloc None' w6 (.cells #[.string s0, .int .i64 s1, .slice a1 a2 a3, .string s3] 27))))
          have HE6 := toHid8 (HE5.out.kept (f6.then7 (Fr.alloc None' w6 (.cells #[.string s0, .int .i64 s1, .slice a1 a2 a3, .string s3] 27))))
          obtain ⟨w7, hw7⟩ : ∃ w7, w6.alloc (.cells #[.string s0, .int .i64 s1, .slice a1 a2 a3, .string s3] 27) = w7 := ⟨_, rfl⟩
          rw [hw7] at HF6 HE6
          clear q5 f6 HE5 HF5
          by_cases he : er = 0
          · subst he
            obtain ⟨m1, m2, m3, m4⟩ := mv_all HR.out
            obtain ⟨t1, t2, t3, _, _⟩ := all_stepE HR.out (weight_smE HW.out).2.2 (mv_sm HSz.out HTs.out)
            obtain ⟨z1, z2⟩ := tree_small t2 t3 (by omega)
            obtain rfl : false = bT := by rw [← HbT.out, m1]; rfl
            have HFX := toHid8 (fun (p : ByteArray) (b : Bool) (hb : (findE X (bl p)).isSome = b) w' (f : Fr None' w7 w') => (efind_any v5 X.length c5 X p w' rfl (HE6.out.kept f) (by omega)).mono (fun e w'' h => find_b hb h))
            have HAX := toHid8 (fun w' (f : Fr None' w7 w') => apply8_any v5 X.length c5 X (mvP T F) (.slice none 0 0) (.slice none 0 0) (4000 + 4000) w' rfl (HE6.out.kept f) z2 z1 (nilS8 w') (nilS8 w') t3 (by omega) (mv_sm HTs.out HSz.out))
            rw [m4] at HAX
            unfold ApplyPost8 at HAX
            unfold FindB at HFX
            simp only [mvP] at HAX
            have q6 := HFX.out F false (by rw [m2]; rfl) w7 (Fr.refl _ _)
            have HN3 := toHid8 (show (findE X (bl T)).isSome = true from by cases h : findE X (bl T) with | none => exact absurd h m3 | some y => rfl)
            clear m1 m2 m3 m4 t1 t2 t3 z1 z2 HA HFd
            go_wp2_with fail
            with_reducible refine q6.mono ?_
            rintro e w8 ⟨s0, s1, a1, a2, a3, s3, rfl, f8⟩
            obtain ⟨w9, hw9⟩ : ∃ w9, w8.alloc (.cells #[.string s0, .int .i64 s1, .slice a1 a2 a3, .string s3] 27) = w9 := ⟨_, rfl⟩
            have HF9 := toHid8 (show Fr None' w7 w9 from f8.then7 (hw9 ▸ Fr.alloc None' w8 _))
            have q7 := HFX.out T true HN3.out w9 HF9.out
            clear q6 f8 hw7
            go_wp2_with fail
            with_reducible refine q7.mono ?_
            rintro e wA ⟨s0, s1, a1, a2, a3, s3, rfl, fA⟩
            obtain ⟨wB, hwB⟩ : ∃ wB, wA.alloc (.cells #[.string s0, .int .i64 s1, .slice a1 a2 a3, .string s3] 27) = wB := ⟨_, rfl⟩
            have HFB := toHid8 (show Fr None' w7 wB from HF9.out.then7 (fA.then7 (hwB ▸ Fr.alloc None' wA _)))
            have q8 := HAX.out wB HFB.out
            clear q7 fA hw9 HF9 HFX
            go_wp2_with fail
            with_reducible refine q8.mono ?_
            rintro e wC ⟨vC, cC, rfl, HEC, _, fC⟩
            have HFC := toHid8 (HF6.out.then7 (HFB.out.then7 fC))
            have q9 := HS.out HW.out vC cC wC HFC.out HEC.out
            clear q8 fC hwB HFB HAX
            simp only [HLen.out]
            go_wp2_with fail
            with_reducible refine q9.mono ?_
            rintro e wD ⟨rfl, fD⟩
            have HFD := toHid8 (HFC.out.then7 fD)
            clear q9 fD
            go_wp2_with fail
            go_ret
            exact ⟨rfl, HFD.out⟩
          · have he2 : (er == 0) = false := by simpa using he
            obtain rfl := all_none HR.out he
            go_wp2_with fail
            go_ret
            exact ⟨rfl, HF6.out⟩

end Go.Proofs.YtjpgpbfnmokmiabGreatDoor
