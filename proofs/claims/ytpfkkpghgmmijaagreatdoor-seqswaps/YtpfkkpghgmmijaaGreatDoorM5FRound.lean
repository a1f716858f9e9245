/-
  What is proved here: the contracts that the statement stands on: FRound, FSame, FHunks. Conditions: as each theorem names them.
-/
import Derived.Test.YtpfkkpghgmmijaaGreatDoorM1FPlain
import Derived.Deep.RegionHeld3
namespace Go.Proofs.YtpfkkpghgmmijaaGreatDoor.Diff
open Go.RowKit
set_option maxRecDepth 100000

/-- It ends as it should, or not at all. -/
def OnlyN (G : Act → World → Prop) : Exit → Act → World → Prop
  | .normal, a, w => G a w
  | _, _, _ => False

theorem onlyN {G : Act → World → Prop} {a : Act} {w : World} (h : G a w) : OnlyN G .normal a w := h

end Go.Proofs.YtpfkkpghgmmijaaGreatDoor.Diff

namespace Go.Proofs.YtpfkkpghgmmijaaGreatDoor.Diff
open Go.RowKit
set_option maxRecDepth 100000

theorem list_step {a b : List ByteArray} {k : Nat} (hn : a.length = b.length) (hk : k < a.length) (h : a.take k = b.take k) (e : a[k] = b[k]'(hn ▸ hk)) : a.take (k + 1) = b.take (k + 1) := by
  rw [List.take_succ_eq_append_getElem hk, List.take_succ_eq_append_getElem (hn ▸ hk), h, e]

set_option maxHeartbeats 2000000 in
theorem equal_any (va vb : Option Addr) (ca cb : Nat) (a b : List ByteArray) (w : World) (ha : Row w va a) (hb : Row w vb b) (hl : a.length < 1000000000) :
    Calls Tryz.prog 66 #[.slice va a.length ca, .slice vb b.length cb] w fun e w' => e = .returned (.bool (decide (a = b))) ∧ Fr None' w w' := by
  by_cases hn : a.length = b.length
  case neg =>
    have hR : Hid (decide (a = b) = false) := decide_eq_false (fun e => hn (by rw [e]))
    have i1 : ¬ (a.length : Int) = b.length := by omega
    rw [hR.out]
    clear ha hb hn hR
    go_enter Tryz.func66, Tryz.ntmps66
    go_wp2_with fail
    go_ret
    exact ⟨rfl, Fr.refl _ _⟩
  case pos =>
  have HN : Hid (a.length = b.length) := hn
  obtain ⟨n, hna⟩ : ∃ n, a.length = n := ⟨_, rfl⟩
  have HA : Hid (a.length = n) := hna
  rw [← hn, hna]
  have i1 : (n : Int) < 1000000000 := by omega
  clear hl hn hna
  go_enter Tryz.func66, Tryz.ntmps66
  go_wp2_with fail
  go_loopw [13] (fun i wr => ∃ k : Nat, k ≤ n ∧ i = .int .i64 k ∧ Fr None' w wr ∧ Hid (a.take k = b.take k)) (fun i _ => n - (intOf i).toNat)
  case atStart => exact ⟨0, Nat.zero_le _, rfl, Fr.refl _ _, rfl⟩
  case round =>
    obtain ⟨k, hk, rfl, hF, HT⟩ := hrel
    by_cases hlt : k < n
    · have hka : k < a.length := by rw [HA.out]; exact hlt
      have hkb : k < b.length := by rw [← HN.out]; exact hka
      obtain ⟨ga, oa, rfl, c1⟩ := (ha.fr hF).get hka
      obtain ⟨gb, ob, rfl, c2⟩ := (hb.fr hF).get hkb
      obtain ⟨x, hx⟩ : ∃ x, a[k] = x := ⟨_, rfl⟩
      obtain ⟨y, hy⟩ : ∃ y, b[k] = y := ⟨_, rfl⟩
      have HX : Hid (a[k] = x) := hx
      have HY : Hid (b[k] = y) := hy
      rw [hx] at c1
      rw [hy] at c2
      clear hx hy ha hb
      have i2 : (k : Int) < n := by omega
      by_cases hxy : x = y
      · subst hxy
        go_wp2_with fail
        go_quiet (fail)
        go_wp2_with fail
        exact ⟨⟨k + 1, by omega, by go_num, hF.then (Fr.drewN _ _ _), list_step HN.out hka HT.out (by rw [HX.out, HY.out])⟩, by simp [intOf]; omega⟩
      · have HE : Hid (¬ x = y) := hxy
        obtain ⟨q1, q2⟩ := str_no hxy
        clear hxy
        go_wp2_with fail
        go_quiet (fail)
        clear c1 c2
        go_wp2_with fail
        go_ret
        exact ⟨ret_bool (decide_eq_false (fun e => HE.out (by rw [← HX.out, ← HY.out]; subst e; rfl))).symm, hF.then (Fr.drewN _ _ _)⟩
    · go_wp2_with fail
      go_ret
      refine ⟨ret_bool ?_, hF⟩
      have := HT.out
      rw [List.take_of_length_le (by rw [HA.out]; omega), List.take_of_length_le (by rw [← HN.out, HA.out]; omega)] at this
      exact (decide_eq_true this).symm

end Go.Proofs.YtpfkkpghgmmijaaGreatDoor.Diff

namespace Go.Proofs.YtpfkkpghgmmijaaGreatDoor.Diff
open Go.RowKit
set_option maxRecDepth 100000

/-- A slice of texts. -/
def StrAt (w : World) (v : Value) (l : List ByteArray) : Prop := ∃ va c, v = .slice va l.length c ∧ (va = none → c = 0) ∧ l.length ≤ c ∧ Row w va l

theorem StrAt.fr {M : Nat → Prop} {w w' : World} {v : Value} {l : List ByteArray} (h : StrAt w v l) (f : Fr M w w') (hm : ∀ k, Own1 v k → ¬ M k) : StrAt w' v l := by
  obtain ⟨va, c, rfl, h1, h2, h3⟩ := h
  exact ⟨va, c, rfl, h1, h2, h3.frM f (fun a e => hm _ (by rw [e]; rfl))⟩

theorem StrAt.kept {w w' : World} {v : Value} {l : List ByteArray} (h : StrAt w v l) (f : Fr None' w w') : StrAt w' v l := h.fr f (fun _ _ e => e)

/-- Hunks in a row: three cells each. -/
def HunksAt (w : World) (v : Value) (L : List (Hk ByteArray)) : Prop := ∃ va c, v = .slice va L.length c ∧ (va = none → c = 0) ∧ ∀ k h, L[k]? = some h → ∃ g o vo vn, va = some ⟨g, o, none⟩ ∧ w.cell? ⟨g, o + k * 3, none⟩ = some (.int .i64 (h.at' : Int)) ∧ w.cell? ⟨g, o + k * 3 + 1, none⟩ = some vo ∧ w.cell? ⟨g, o + k * 3 + 2, none⟩ = some vn ∧ StrAt w vo h.o ∧ StrAt w vn h.n

theorem HunksAt.kept {w w' : World} {v : Value} {L : List (Hk ByteArray)} (h : HunksAt w v L) (f : Fr None' w w') : HunksAt w' v L := by
  obtain ⟨va, c, h1, h2, h3⟩ := h
  refine ⟨va, c, h1, h2, fun k x hk => ?_⟩
  obtain ⟨g, o, vo, vn, e, c1, c2, c3, s1, s2⟩ := h3 k x hk
  exact ⟨g, o, vo, vn, e, f.cell c1 (fun e => e), f.cell c2 (fun e => e), f.cell c3 (fun e => e), s1.kept f, s2.kept f⟩

/-- A part of a row of texts, as Go cuts it. -/
theorem slice_ex {w : World} {va : Option Addr} {a : List ByteArray} {na ca i x : Nat} (hr : Row w va a) (hna : a.length = na) (hix : i ≤ x) (hx : x ≤ na) (hc : na ≤ ca) (hn : va = none → ca = 0) :
    ∃ va1 c1, (∀ v, (Instr.sliceAt 43 (.slice va na ca) (some (.int .i64 i)) (some (.int .i64 x)) none).run Tryz.prog v = .ok (.slice va1 (x - i) c1) v) ∧ Row w va1 ((a.drop i).take (x - i)) ∧ (va1 = none → c1 = 0) ∧ x - i ≤ c1 ∧ ∀ y, va1 = some y → ∃ z, va = some z ∧ y.block = z.block := by
  have he : ∀ v, (sizeOf (Tryz.prog.elem 43)).run Tryz.prog v = .ok 1 v := fun v => by
    have : Tryz.prog.elem 43 = 9 := by kernel_rfl
    rw [this]
    exact Tryz.sizeOf9 v
  have hu : Tryz.prog.underlying 43 = some (.slice (Tryz.prog.elem 43)) := by kernel_rfl
  have hrun : ∀ v, (Instr.sliceAt 43 (.slice va na ca) (some (.int .i64 i)) (some (.int .i64 x)) none).run Tryz.prog v = .ok (sliced va i x ca 1) v := fun v => by
    rw [run_sliceAt_slice v _ _ _ _ _ hu, run_slice_lh v _ _ _ _ hu .i64 .i64 (i : Int) (x : Int) (by omega) (by omega) (by omega), he]
    rfl
  by_cases e : i = ca
  · have ex : x = i := by omega
    subst ex
    refine ⟨va, 0, fun v => ?_, ?_, fun h => rfl, by omega, fun y hy => ⟨y, hy, rfl⟩⟩
    · rw [hrun]
      unfold sliced
      simp [e]
    · rw [Nat.sub_self, List.take_zero]
      exact Row.nil _ _
  · cases va with
    | none => exact absurd (hn rfl) (by omega)
    | some ad =>
      obtain ⟨g, o, sp⟩ := ad
      by_cases e0 : x = i
      · subst e0
        refine ⟨some ((⟨g, o, sp⟩ : Addr).add (x * 1)), ca - x, fun v => ?_, ?_, (fun h => by cases h), by omega, fun y hy => ⟨_, rfl, by cases hy; unfold Addr.add; split <;> rfl⟩⟩
        · rw [hrun]
          unfold sliced
          rw [if_neg (fun h => e h.symm)]
          rfl
        · rw [Nat.sub_self, List.take_zero]
          exact Row.nil _ _
      · obtain ⟨g', o', e1, hc'⟩ := hr.get (k := i) (by omega)
        cases e1
        refine ⟨some ⟨g, o + i, none⟩, ca - i, fun v => ?_, hr.part i (x - i), (fun h => by cases h), by omega, fun y hy => ⟨_, rfl, by cases hy; rfl⟩⟩
        rw [hrun]
        unfold sliced
        rw [if_neg (fun h => e h.symm)]
        simp [Addr.add]

/-- .. and the rest of it. -/
theorem rest_ex {w : World} {va : Option Addr} {a : List ByteArray} {na ca i : Nat} (hr : Row w va a) (hna : a.length = na) (hx : i ≤ na) (hc : na ≤ ca) (hn : va = none → ca = 0) :
    ∃ va1 c1, (∀ v, (Instr.sliceAt 43 (.slice va na ca) (some (.int .i64 i)) none none).run Tryz.prog v = .ok (.slice va1 (na - i) c1) v) ∧ Row w va1 (a.drop i) ∧ (va1 = none → c1 = 0) ∧ na - i ≤ c1 ∧ ∀ y, va1 = some y → ∃ z, va = some z ∧ y.block = z.block := by
  obtain ⟨va1, c1, h1, h2, h3, h4, h5⟩ := slice_ex hr hna hx (Nat.le_refl _) hc hn
  refine ⟨va1, c1, fun v => ?_, ?_, h3, h4, h5⟩
  · rw [← h1 v]
    have hu : Tryz.prog.underlying 43 = some (.slice (Tryz.prog.elem 43)) := by kernel_rfl
    rw [run_sliceAt_slice v _ _ _ _ _ hu, run_sliceAt_slice v _ _ _ _ _ hu, run_slice_lh v _ _ _ _ hu .i64 .i64 (i : Int) (na : Int) (by omega) (by omega) (by omega), run_slice_l v _ _ _ _ hu .i64 (i : Int) (by omega) (by omega)]
    rfl
  · rw [List.take_of_length_le (by rw [List.length_drop, hna]; exact Nat.le_refl _)] at h2
    exact h2

end Go.Proofs.YtpfkkpghgmmijaaGreatDoor.Diff
