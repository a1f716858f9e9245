/-
  What is proved here: the contracts that the statement stands on: DRdN13, DRdT13. Conditions: as each theorem names them.
-/
import Derived.Test.YtofpkpomhdhkgaaGreatDoorM11RdL13
import Derived.Laws.Strings3
import Derived.Test.YtofpkpomhdhkgaaGreatDoorM16PRRest
namespace Go.Proofs.YtofpkpomhdhkgaaGreatDoor
open Go.RowKit
set_option maxRecDepth 100000

theorem digs_step : ∀ (k : Nat) (s : B13) (i : Nat), i ≤ digs k s → (i < digs k s ↔ i < k ∧ ∃ h : i < s.length, isD s[i] = true)
  | 0, s, i, _ => by rw [digs]; constructor <;> (intro h; omega)
  | k + 1, [], i, _ => by rw [digs]; exact ⟨fun h => absurd h (by omega), fun h => by obtain ⟨_, h, _⟩ := h; exact absurd h (by simp)⟩
  | k + 1, b :: r, i, hi => by
    rw [digs] at hi ⊢
    by_cases hb : isD b = true
    · rw [if_pos hb] at hi ⊢
      cases i with
      | zero => exact ⟨fun _ => ⟨by omega, by simp, hb⟩, fun _ => by omega⟩
      | succ j =>
        have := digs_step k r j (by omega)
        constructor
        · intro h
          obtain ⟨h1, h2, h3⟩ := this.1 (by omega)
          exact ⟨by omega, by rw [List.length_cons]; omega, by simpa using h3⟩
        · rintro ⟨h1, h2, h3⟩
          have := this.2 ⟨by omega, by rw [List.length_cons] at h2; omega, by simpa using h3⟩
          omega
    · rw [if_neg hb] at hi ⊢
      obtain rfl : i = 0 := by omega
      exact ⟨fun h => absurd h (by omega), fun ⟨_, _, h⟩ => absurd h hb⟩

theorem valD_step {s : B13} {i : Nat} (h : i < s.length) : valD 0 (s.take (i + 1)) = 10 * valD 0 (s.take i) + (s[i].toNat - 48) := by
  rw [List.take_succ_eq_append_getElem h, valD_snoc]

theorem valD_small {s : B13} {i : Nat} (h : i ≤ digs 11 s) : valD 0 (s.take i) < 10 ^ i := by
  have := valD_lt (s.take i) 0 i (by rw [List.length_take]; omega) (fun b hb => digs_all 11 s b (List.mem_of_mem_take (by rw [List.take_take, Nat.min_eq_left h]; exact hb)))
  simpa using this

theorem numD_no {s : B13} (h : digs 11 s = 0 ∨ s[digs 11 s]? ≠ some 58 ∨ (1 < digs 11 s ∧ s[0]? = some 48)) : numD s = none := by
  unfold numD; rw [if_pos h]

theorem numD_yes {s : B13} (h : ¬ (digs 11 s = 0 ∨ s[digs 11 s]? ≠ some 58 ∨ (1 < digs 11 s ∧ s[0]? = some 48))) : numD s = some (valD 0 (s.take (digs 11 s)), s.drop (digs 11 s + 1)) := by
  unfold numD; rw [if_neg h]

theorem at_un {s : ByteArray} {i : Nat} (h : i < s.size) : (unB s)[i]? = some s[i] := by
  rw [List.getElem?_eq_getElem (by rw [un_len]; exact h)]; rfl

theorem un_cut (s : ByteArray) (a : Nat) : unB (s.extract a s.size) = (unB s).drop a := by
  unfold unB
  rw [Path.extract_list, ← Path.len_eq, List.take_length]

theorem un_head (s : ByteArray) (a : Nat) : unB (s.extract 0 a) = (unB s).take a := by
  unfold unB
  rw [Path.extract_list, List.drop_zero]

/-- The document's reader at r: what is left, and whether it is bad. -/
structure DRdAt (w : World) (r : Nat) (s : ByteArray) (bad : Bool) : Prop where
  is : w.heap[r]? = some (.cells #[.string s, .bool bad] 63)
  small : s.size ≤ 80000000

theorem DRdAt.fr {M : Nat → Prop} {w w' : World} {r : Nat} {s : ByteArray} {bad : Bool} (h : DRdAt w r s bad) (f : Fr M w w') (hm : ¬ M r) : DRdAt w' r s bad := ⟨f.at h.is hm, h.small⟩

theorem DRdAt.kept {w w' : World} {r : Nat} {s : ByteArray} {bad : Bool} (h : DRdAt w r s bad) (f : Fr None' w w') : DRdAt w' r s bad := h.fr f (fun e => e)

theorem DRdAt.lt {w : World} {r : Nat} {s : ByteArray} {bad : Bool} (h : DRdAt w r s bad) : r < w.heap.size := (Array.getElem?_eq_some_iff.1 h.is).1

theorem drd_cells {w : World} {r : Nat} {y0 y1 : Value} (h : w.heap[r]? = some (.cells #[y0, y1] 63)) : w.cell? ⟨r, 0, none⟩ = some y0 ∧ w.cell? ⟨r, 1, none⟩ = some y1 ∧ w.frozen? ⟨r, 0, none⟩ = false ∧ w.frozen? ⟨r, 1, none⟩ = false := by
  simp [World.cell?, World.frozen?, h]

theorem DRdAt.cells {w : World} {r : Nat} {s : ByteArray} {bad : Bool} (h : DRdAt w r s bad) : w.cell? ⟨r, 0, none⟩ = some (.string s) ∧ w.cell? ⟨r, 1, none⟩ = some (.bool bad) ∧ w.frozen? ⟨r, 0, none⟩ = false ∧ w.frozen? ⟨r, 1, none⟩ = false := drd_cells h.is

theorem DRdAt.set0 {w : World} {r : Nat} {s : ByteArray} {bad : Bool} (h : DRdAt w r s bad) {t : ByteArray} (ht : t.size ≤ s.size) : DRdAt (w.setCell ⟨r, 0, none⟩ (.string t)) r t bad := by
  refine ⟨?_, by have := h.small; omega⟩
  have := Go.heap_setCell_same w r 0 _ _ (.string t) h.is
  simpa using this

theorem DRdAt.spoil {w : World} {r : Nat} {s : ByteArray} {bad : Bool} (h : DRdAt w r s bad) : DRdAt (w.setCell ⟨r, 1, none⟩ (.bool true)) r s true := by
  refine ⟨?_, h.small⟩
  have := Go.heap_setCell_same w r 1 _ _ (.bool true) h.is
  simpa using this

/-- What the document's number hands back. -/
def DNum (w : World) (r : Nat) (s : ByteArray) (bad : Bool) (e : Ending) (w' : World) : Prop :=
  ∃ (n : Nat) (t : ByteArray) (b : Bool), e = .returned (.int .i64 n) ∧ n < 100000000000 ∧ DRdAt w' r t b ∧ Step bad (numD (unB s)) n (unB t) b ∧ Fr (fun k => k = r) w w' ∧ t.size ≤ s.size

theorem dnum_bad {w : World} {r : Nat} {s : ByteArray} {bad : Bool} (h : DRdAt w r s bad) (hx : bad = true ∨ numD (unB s) = none) : DNum w r s bad (.returned (.int .i64 0)) (w.setCell ⟨r, 1, none⟩ (.bool true)) :=
  ⟨0, s, true, rfl, by decide, h.spoil, .inr ⟨rfl, hx⟩, rd_fr _ _ _ _, Nat.le_refl _⟩

theorem dnum_good {w : World} {r : Nat} {s : ByteArray} {D n : Nat} (h : DRdAt w r s false) (hn : n < 100000000000) (hx : numD (unB s) = some (n, (unB s).drop (D + 1))) : DNum w r s false (.returned (.int .i64 n)) (w.setCell ⟨r, 0, none⟩ (.string (s.extract (D + 1) s.size))) :=
  ⟨n, s.extract (D + 1) s.size, false, rfl, hn, h.set0 (by simp), .inl ⟨rfl, rfl, by rw [un_cut]; exact hx⟩, rd_fr _ _ _ _, by simp⟩

/-- What is said of the byte behind the digits, and of the first one. -/
theorem numD_by {s : ByteArray} {D : Nat} (hD : digs 11 (unB s) = D) (hz : D < s.size) {v v0 : Nat} (hv : s[D].toNat = v) (hv0 : (s[0]'(by omega)).toNat = v0) :
    ((D = 0 ∨ ¬ v = 58 ∨ (1 < D ∧ v0 = 48)) → numD (unB s) = none) ∧ (¬ D = 0 → v = 58 → ¬ (1 < D ∧ v0 = 48) → numD (unB s) = some (valD 0 ((unB s).take D), (unB s).drop (D + 1))) := by
  have e1 : ((unB s)[digs 11 (unB s)]? = some 58) = (v = 58) := by
    rw [hD, at_un hz, Option.some.injEq, ← UInt8.toNat_inj, hv]; rfl
  have e0 : ((unB s)[0]? = some 48) = (v0 = 48) := by
    rw [at_un (by omega), Option.some.injEq, ← UInt8.toNat_inj, hv0]; rfl
  constructor
  · intro h
    refine numD_no ?_
    rw [ne_eq, e1, e0, hD]
    exact h
  · intro h1 h2 h3
    have hx : ¬ (D = 0 ∨ ¬ v = 58 ∨ (1 < D ∧ v0 = 48)) := by
      rintro (h | h | h)
      · exact h1 h
      · exact h h2
      · exact h3 h
    have := numD_yes (s := unB s) (by rw [ne_eq, e1, e0, hD]; exact hx)
    rwa [hD] at this

set_option maxHeartbeats 16000000 in
theorem dnumber_any (r : Nat) (s : ByteArray) (bad : Bool) (w : World) (h : DRdAt w r s bad) :
    Calls Tryz.prog 30 #[.pointer (some ⟨r, 0, none⟩)] w fun e w' => DNum w r s bad e w' := by
  obtain ⟨c0, c1, z0, z1⟩ := h.cells
  have HRd := toHid8 h
  have hz := h.small
  have hD0 := digs_le 11 (unB s)
  rw [un_len] at hD0
  obtain ⟨D, hD⟩ : ∃ D, digs 11 (unB s) = D := ⟨_, rfl⟩
  have HD := toHid8 hD
  rw [hD] at hD0
  obtain ⟨hD1, hD2⟩ := hD0
  have HB := toHid8 (fun (x : bad = true ∨ numD (unB s) = none) => dnum_bad HRd.out x)
  have HG := toHid8 (fun (x : bad = false) => show DRdAt w r s false from x ▸ HRd.out)
  have HN := toHid8 (show valD 0 ((unB s).take D) < 100000000000 from by
    have h1 := valD_small (s := unB s) (i := D) (by rw [hD]; exact Nat.le_refl _)
    have h2 : 10 ^ D ≤ 10 ^ 11 := Nat.pow_le_pow_right (by decide) hD1
    omega)
  have i0 : (s.size : Int) ≤ 80000000 := by omega
  clear h hD
  go_enter Tryz.func30, Tryz.ntmps30
  go_wp2_with fail
  go_loop [3, 4] (fun vi vn => ∃ i n : Nat, i ≤ D ∧ vi = .int .i64 i ∧ vn = .int .i64 n ∧ Hid (n = valD 0 ((unB s).take i))) (fun vi _ => D - (intOf vi).toNat)
  case atStart => exact ⟨0, 0, Nat.zero_le _, rfl, rfl, rfl⟩
  case round =>
    obtain ⟨i, n, hi, rfl, rfl, HV⟩ := hrel
    have hst : i < D ↔ i < 11 ∧ ∃ h : i < s.size, isD s[i] = true := by
      have h := digs_step 11 (unB s) i (by rw [HD.out]; exact hi)
      rw [HD.out] at h
      rw [h]
      exact ⟨fun ⟨a, b, c⟩ => ⟨a, by rwa [un_len] at b, c⟩, fun ⟨a, b, c⟩ => ⟨a, by rwa [un_len], c⟩⟩
    by_cases hlt : i < D
    case pos =>
      obtain ⟨h11, hsz, hdg⟩ := hst.1 hlt
      obtain ⟨v, hv⟩ : ∃ v : Nat, (s[i]).toNat = v := ⟨_, rfl⟩
      have hdg2 := isD_iff.1 hdg
      rw [hv] at hdg2
      obtain ⟨d1, d2⟩ := hdg2
      have HX := toHid8 (show valD 0 ((unB s).take (i + 1)) = 10 * n + (v - 48) by rw [valD_step (by rw [un_len]; exact hsz), HV.out, show (unB s)[i]'(by rw [un_len]; exact hsz) = s[i] from rfl, hv])
      have hn : n < 10000000000 := by
        have h1 := valD_small (s := unB s) (i := i) (by rw [HD.out]; exact hi)
        have h2 : 10 ^ i ≤ 10 ^ 10 := Nat.pow_le_pow_right (by decide) (by omega)
        rw [HV.out]; omega
      have i1 : (i : Int) < (s.size : Int) := by omega
      have i2 : (i : Int) < 11 := by omega
      have i3 : (48 : Int) ≤ (v : Int) := by omega
      have i4 : (v : Int) ≤ 57 := by omega
      have j1 : IntKind.i64.wrap (10 * (n : Int)) = 10 * (n : Int) := by rw [IntKind.wrap_i64]; omega
      have j2 : IntKind.u8.wrap ((v : Int) - 48) = (v : Int) - 48 := by simp [IntKind.wrap, IntKind.bits, IntKind.signed]; omega
      have j3 : IntKind.i64.wrap ((v : Int) - 48) = (v : Int) - 48 := by rw [IntKind.wrap_i64]; omega
      have j4 : IntKind.i64.wrap (10 * (n : Int) + ((v : Int) - 48)) = ((10 * n + (v - 48) : Nat) : Int) := by rw [IntKind.wrap_i64]; omega
      clear hst hdg h11
      go_wp2_with fail
      exact ⟨⟨i + 1, 10 * n + (v - 48), by omega, by go_num, by go_num, HX.out.symm⟩, by simp [intOf]; omega⟩
    case neg =>
      obtain rfl : i = D := by omega
      have HNn := toHid8 (show n < 100000000000 by rw [HV.out]; exact HN.out)
      by_cases hsz : i < s.size
      case neg =>
        have hE : i = s.size := by omega
        have hN := numD_no (s := unB s) (.inr (.inl (by rw [HD.out, List.getElem?_eq_none (by rw [un_len]; omega)]; simp)))
        have i1 : ¬ (i : Int) < (s.size : Int) := by omega
        have i1' : (s.size : Int) ≤ (i : Int) := by omega
        have HN2 := toHid8 hN
        clear hst hlt hE hsz hN
        cases bad <;> (
          have HY := toHid8 (HB.out (.inr HN2.out))
          go_wp2_with fail
          all_goals (go_ret; exact HY.out))
      case pos =>
        obtain ⟨v, hv⟩ : ∃ v : Nat, (s[i]).toNat = v := ⟨_, rfl⟩
        obtain ⟨v0, hv0⟩ : ∃ v : Nat, (s[0]'(by omega)).toNat = v := ⟨_, rfl⟩
        obtain ⟨hno2, hyes⟩ := numD_by HD.out hsz hv hv0
        have hno : ¬ (i < 11 ∧ 48 ≤ v ∧ v ≤ 57) := fun h => hlt (hst.2 ⟨h.1, hsz, isD_iff.2 (by rw [hv]; exact h.2)⟩)
        have HY := toHid8 (fun (x : i = 0 ∨ ¬ v = 58 ∨ (1 < i ∧ v0 = 48)) => HB.out (.inr (hno2 x)))
        have HZ := toHid8 (fun (x : bad = false) (h1 : ¬ i = 0) (h2 : v = 58) (h3 : ¬ (1 < i ∧ v0 = 48)) => (x ▸ (dnum_good (D := i) (n := n) (HG.out x) HNn.out (by rw [hyes h1 h2 h3, ← HV.out])) : DNum w r s bad _ _))
        have i1 : (i : Int) < (s.size : Int) := by omega
        have i1' : ¬ (s.size : Int) ≤ (i : Int) := by omega
        have i5 : (i : Int) + 1 ≤ (s.size : Int) := by omega
        have i6 : (0 : Int) < (s.size : Int) := by omega
        clear hst hlt hno2 hyes
        cases bad with
        | true =>
          have HY2 := toHid8 (HB.out (.inl rfl))
          go_wp2_with fail
          all_goals first | (go_ret; exact HY2.out) | (exfalso; omega)
        | false =>
          go_wp2_with fail
          all_goals (try simp only [ne_eq, beq_iff_eq, beq_eq_false_iff_ne] at *)
          all_goals first
            | (exfalso; omega)
            | (go_ret; exact HY.out (by omega))
            | (go_ret; exact HZ.out (by first | rfl | trivial) (by omega) (by omega) (by omega))

end Go.Proofs.YtofpkpomhdhkgaaGreatDoor

namespace Go.Proofs.YtofpkpomhdhkgaaGreatDoor
open Go.RowKit
set_option maxRecDepth 100000

/-- What the document's text hands back. -/
def DTxt (w : World) (r : Nat) (s : ByteArray) (bad : Bool) (e : Ending) (w' : World) : Prop :=
  ∃ (x t : ByteArray) (b : Bool), e = .returned (.string x) ∧ DRdAt w' r t b ∧ Step bad (textG numD (unB s)) (unB x) (unB t) b ∧ Fr (fun k => k = r) w w' ∧ t.size ≤ s.size

theorem textG_none {s : B13} (h : numD s = none) : textG numD s = none := by unfold textG; rw [h]

theorem textG_yes {s t : B13} {n : Nat} (h : numD s = some (n, t)) (hn : n ≤ t.length) : textG numD s = some (t.take n, t.drop n) := by unfold textG; rw [h]; simp only [if_pos hn]

theorem textG_no {s t : B13} {n : Nat} (h : numD s = some (n, t)) (hn : ¬ n ≤ t.length) : textG numD s = none := by unfold textG; rw [h]; simp only [if_neg hn]

set_option maxHeartbeats 8000000 in
theorem drtext_any (r : Nat) (s : ByteArray) (bad : Bool) (w : World) (h : DRdAt w r s bad) :
    Calls Tryz.prog 28 #[.pointer (some ⟨r, 0, none⟩)] w fun e w' => DTxt w r s bad e w' := by
  have q1 := dnumber_any r s bad w h
  clear h
  go_enter Tryz.func28, Tryz.ntmps28
  go_wp2_with fail
  with_reducible refine q1.mono ?_
  rintro e w2 ⟨n, t, b, rfl, hn, hR, hS, hF, hts⟩
  obtain ⟨c0, c1, z0, z1⟩ := hR.cells
  have hz := hR.small
  have HR := toHid8 hR
  have HF := toHid8 hF
  clear q1 hR hF
  have i0 : (t.size : Int) ≤ 80000000 := by omega
  cases b with
  | true =>
    have HX := toHid8 (show bad = true ∨ textG numD (unB s) = none by
      rcases hS with ⟨e, _⟩ | ⟨_, h | h⟩
      · cases e
      · exact .inl h
      · exact .inr (textG_none h))
    clear hS
    go_wp2_with fail
    go_ret
    exact ⟨⟨#[]⟩, t, true, rfl, HR.out.spoil, .inr ⟨rfl, HX.out⟩, HF.out.then (rd_fr _ _ _ _), hts⟩
  | false =>
    have hS2 : bad = false ∧ numD (unB s) = some (n, unB t) := by
      rcases hS with ⟨_, h1, h2⟩ | ⟨e, _⟩
      · exact ⟨h1, h2⟩
      · cases e
    clear hS
    by_cases hle : n ≤ t.size
    case neg =>
      have HX := toHid8 (textG_no hS2.2 (by rw [un_len]; exact hle))
      have i1 : (t.size : Int) < (n : Int) := by omega
      clear hS2 hle
      go_wp2_with fail
      go_ret
      exact ⟨⟨#[]⟩, t, true, rfl, HR.out.spoil, .inr ⟨rfl, .inr HX.out⟩, HF.out.then (rd_fr _ _ _ _), hts⟩
    case pos =>
      have HX := toHid8 (textG_yes hS2.2 (by rw [un_len]; exact hle))
      have HB := toHid8 hS2.1
      have i1 : ¬ (t.size : Int) < (n : Int) := by omega
      have i2 : (n : Int) ≤ (t.size : Int) := by omega
      clear hS2 hle
      go_wp2_with fail
      go_ret
      exact ⟨t.extract 0 n, t.extract n t.size, false, rfl, HR.out.set0 (by simp), .inl ⟨rfl, HB.out, by rw [un_cut, un_head]; exact HX.out⟩, HF.out.then (rd_fr _ _ _ _), by simp; omega⟩

/-- What the document's list hands back. -/
def DLst (X : Option (List B13 × B13)) (w : World) (r : Nat) (s : ByteArray) (bad : Bool) (e : Ending) (w' : World) : Prop :=
  ∃ (v : Value) (xs : List B13) (t : ByteArray) (b : Bool), e = .returned v ∧ OwnS13 w.heap.size w' v (xs.map mkB) ∧ DRdAt w' r t b ∧ Step bad X xs (unB t) b ∧ Fr (fun k => k = r) w w' ∧ t.size ≤ s.size

theorem textG_len {s x t : B13} (h : textG numD s = some (x, t)) : t.length < s.length := by
  have hl := congrArg List.length ((codeG_text code_numD).fwd _ _ _ h).2
  have h3 := text_len x
  rw [List.length_append] at hl
  omega

set_option maxHeartbeats 8000000 in
theorem drlist_any (r : Nat) (s : ByteArray) (bad : Bool) (w : World) (h : DRdAt w r s bad) :
    Calls Tryz.prog 29 #[.pointer (some ⟨r, 0, none⟩)] w fun e w' => DLst (listG numD (textG numD) (unB s)) w r s bad e w' := by
  have q1 := dnumber_any r s bad w h
  have HSm := toHid8 h.small
  have HLt := toHid8 h.lt
  obtain ⟨X, hX⟩ : ∃ X, listG numD (textG numD) (unB s) = X := ⟨_, rfl⟩
  have HX := toHid8 hX
  rw [hX]
  clear h hX
  go_enter Tryz.func29, Tryz.ntmps29
  go_wp2_with fail
  with_reducible refine q1.mono ?_
  rintro e w2 ⟨n, t, b, rfl, hn, hR, hS, hF, hts⟩
  have H0 := toHid8 (show DRdAt w2 r t b ∧ Fr (fun k => k = r) w w2 ∧ (b = false → bad = false ∧ 0 ≤ n ∧ X = comb [] (manyR (textG numD) (n - 0) (unB t)) ∧ 0 + t.size ≤ s.size) ∧ (b = true → bad = true ∨ X = none) ∧ t.size ≤ s.size from by
    refine ⟨hR, hF, fun hb => ?_, fun hb => ?_, hts⟩
    · rcases hS with ⟨_, h1, h2⟩ | ⟨h1, _⟩
      · refine ⟨h1, Nat.zero_le _, ?_, by omega⟩
        rw [← HX.out, comb_nil]
        unfold listG
        rw [h2]
        rfl
      · rw [hb] at h1; cases h1
    · rcases hS with ⟨h1, _⟩ | ⟨_, h | h⟩
      · rw [hb] at h1; cases h1
      · exact .inl h
      · refine .inr ?_
        rw [← HX.out]
        unfold listG
        rw [h])
  clear q1 hR hS hF hts
  go_wp2_with fail
  go_loopw [3, 5] (fun vl vi wr => ∃ (xs : List B13) (t : ByteArray) (b : Bool), vi = .int .i64 xs.length ∧ Hid (OwnS13 w.heap.size wr vl (xs.map mkB)) ∧ Hid (DRdAt wr r t b ∧ Fr (fun k => k = r) w wr ∧ (b = false → bad = false ∧ xs.length ≤ n ∧ X = comb xs (manyR (textG numD) (n - xs.length) (unB t)) ∧ xs.length + t.size ≤ s.size) ∧ (b = true → bad = true ∨ X = none) ∧ t.size ≤ s.size) ∧ xs.length ≤ 80000001) (fun _ vi _ => n - (intOf vi).toNat)
  case atStart => exact ⟨[], t, b, rfl, OwnS13.nil _ _, H0.out, by show 0 ≤ _; omega⟩
  case round =>
    obtain ⟨xs, u, b, rfl, HO, HJ, hxl⟩ := hrel
    obtain ⟨va, ca, hv, hge, -⟩ := HO.out.slice
    rw [List.length_map] at hv
    obtain ⟨hRd, hFr, hf, ht, hus⟩ := HJ.out
    have HFr := toHid8 hFr
    have HRd := toHid8 hRd
    obtain ⟨c0, c1, z0, z1⟩ := hRd.cells
    obtain ⟨k, hk⟩ : ∃ k, xs.length = k := ⟨_, rfl⟩
    have HK := toHid8 hk
    rw [hk] at hv hf hxl ⊢
    subst hv
    have i1 : (k : Int) ≤ 80000001 := by omega
    clear hFr hge hk HJ hRd
    cases b with
    | true =>
      have HT := toHid8 (ht rfl)
      clear hf ht
      by_cases hlt : k < n
      · have i2 : (k : Int) < (n : Int) := by omega
        go_wp2_with fail
        go_ret
        exact ⟨_, xs, u, true, rfl, HO.out, HRd.out, .inr ⟨rfl, HT.out⟩, HFr.out, hus⟩
      · have i2 : ¬ (k : Int) < (n : Int) := by omega
        go_wp2_with fail
        go_ret
        exact ⟨_, xs, u, true, rfl, HO.out, HRd.out, .inr ⟨rfl, HT.out⟩, HFr.out, hus⟩
    | false =>
      obtain ⟨hb0, hkn, hXc, hsz⟩ := hf rfl
      have HB0 := toHid8 hb0
      have HXc := toHid8 hXc
      clear hf ht hb0 hXc
      by_cases hlt : k < n
      case neg =>
        have i2 : ¬ (k : Int) < (n : Int) := by omega
        have HXe := toHid8 (show X = some (xs, unB u) by rw [HXc.out]; exact comb_end _ _ (by omega) _)
        go_wp2_with fail
        go_ret
        exact ⟨_, xs, u, false, rfl, HO.out, HRd.out, .inl ⟨rfl, HB0.out, HXe.out⟩, HFr.out, hus⟩
      case pos =>
        have i2 : (k : Int) < (n : Int) := by omega
        have q2 := drtext_any r u false wr HRd.out
        have HSz := toHid8 hsz
        have HL2 := toHid8 hlt
        clear hsz hlt hkn
        go_wp2_with fail
        with_reducible refine q2.mono ?_
        rintro e w3 ⟨x, t2, b2, rfl, hR2, hS2, f3, hts2⟩
        have HF3 := toHid8 f3
        have hO3 := HO.out.frame f3 (fun i e => by have := HLt.out; omega)
        have hsz3 := f3.size
        have hBw : w.heap.size ≤ w3.heap.size := by have := HFr.out.size; omega
        have hP : (b2 = false → X = comb (xs ++ [unB x]) (manyR (textG numD) (n - (k + 1)) (unB t2)) ∧ (k + 1) + t2.size ≤ s.size) ∧ (b2 = true → X = none) := by
          rcases hS2 with ⟨h1, _, h2⟩ | ⟨h1, h2⟩
          · refine ⟨fun _ => ⟨by rw [HXc.out]; exact comb_yes HL2.out h2, ?_⟩, fun e => (by rw [h1] at e; cases e)⟩
            have := textG_len h2
            rw [un_len, un_len] at this
            have := HSz.out
            omega
          · refine ⟨fun e => (by rw [h1] at e; cases e), fun _ => ?_⟩
            rcases h2 with h2 | h2
            · cases h2
            · rw [HXc.out]; exact comb_no HL2.out h2
        obtain ⟨v', w4, hr, hO4, hF4⟩ := hO3.push x hBw (by rw [List.length_map, HK.out]; omega)
        have hR4 := hR2.fr hF4 (fun e => by have := hO3.ge _ e; have := HLt.out; omega)
        have HJ4 := toHid8 (show DRdAt w4 r t2 b2 ∧ Fr (fun k => k = r) w w4 ∧ (b2 = false → bad = false ∧ (xs ++ [unB x]).length ≤ n ∧ X = comb (xs ++ [unB x]) (manyR (textG numD) (n - (xs ++ [unB x]).length) (unB t2)) ∧ (xs ++ [unB x]).length + t2.size ≤ s.size) ∧ (b2 = true → bad = true ∨ X = none) ∧ t2.size ≤ s.size from by
          have e1 : (xs ++ [unB x]).length = k + 1 := by rw [List.length_append, HK.out]; rfl
          rw [e1]
          exact ⟨hR4, (HFr.out.then HF3.out).trans hF4 (fun i e => Or.inr (hO3.ge i e)), fun hb => ⟨HB0.out, HL2.out, hP.1 hb⟩, fun hb => .inr (hP.2 hb), Nat.le_trans hts2 hus⟩)
        have HO4 := toHid8 (show OwnS13 w.heap.size w4 v' ((xs ++ [unB x]).map mkB) by rw [List.map_append]; exact hO4)
        obtain ⟨va4, ca4, hv4, -, -⟩ := HO4.out.slice
        rw [List.length_map, List.length_append, HK.out] at hv4
        subst hv4
        have HLn := toHid8 (show (xs ++ [unB x]).length ≤ 80000001 by rw [List.length_append, HK.out]; have := HSz.out; have := HSm.out; simp; omega)
        have HI := toHid8 (show ((xs ++ [unB x]).length : Int) = (k : Int) + 1 by rw [List.length_append, HK.out]; simp)
        clear q2 hS2 f3 hO3 hsz3 hBw hR2 hP hO4 hF4 hR4
        go_wp2_with (at_builtin
                     refine app_list9 rfl _ _ rfl rfl rfl hr ?_)
        exact ⟨⟨xs ++ [unB x], t2, b2, by rw [HI.out], HO4.out, HJ4.out, HLn.out⟩, by simp [intOf]; have := HL2.out; omega⟩

end Go.Proofs.YtofpkpomhdhkgaaGreatDoor
