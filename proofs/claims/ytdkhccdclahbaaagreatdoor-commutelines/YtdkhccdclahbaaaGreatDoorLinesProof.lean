/-
  What is proved here: CommuteLines of the landed program answers true for every input, and leaves its arguments as they were; the tables that the row lists are tied to the program's text, and are never read. No condition but that.
-/
import Derived.Test.YtdkhccdclahbaaaGreatDoorLinesL10
import Derived.Test.YtdkhccdclahbaaaGreatDoorComm10
import Derived.Test.YtdkhccdclahbaaaGreatDoorArgsP
import Derived.Test.YtdkhccdclahbaaaGreatDoorRows
import Derived.Test.YtdkhccdclahbaaaGreatDoorCards
import Derived.Test.YtdkhccdclahbaaaGreatDoorTie
import Derived.ProofKit
import Derived.ChangeMaps5
import Derived.OpenShut
import Derived.LaidMore
import Derived.Lay
import Derived.SevenTiedAt
import Derived.Stop.Joined
namespace Go.Proofs.YtdkhccdclahbaaaGreatDoor.commuteLines
open Go.ChangeShapes Go.WideShapes Go.ChangeAt Go.RowKit Go.ChangeMaps
set_option maxRecDepth 100000

theorem u16_nat {a : Int} (h : (Lit.int .u16 a).wf = true) : ∃ n : Nat, a = n ∧ n ≤ 65535 := by
  have hb : 0 ≤ a ∧ a < 65536 := by
    simp [Lit.wf, IntKind.min, IntKind.max, IntKind.bits, IntKind.signed] at h
    omega
  exact ⟨a.toNat, by omega, by omega⟩

theorem arg_strs10 {H : Type} {enc : TypeId × Value → H} {W : World} {sp : Nat → Bool} {held : Bool} {base : Nat} {v : Value} {d : DataW H} {ps : List MemPlace} (hv : Value.okWide Tryz.prog W .any base 22 v) (h : DataW.Trod enc Tryz.prog W 0 sp held 22 v d ps) (hr : ∀ n ∈ d.weights Tryz.prog 22, n ≤ reachBytes) :
    ∃ l, StrsAt W v l ∧ l.length ≤ reachBytes := by
  obtain ⟨a, n, c, rfl⟩ := okWide_slice Tryz.underlying22 hv
  obtain ⟨fuel, hf⟩ := h
  obtain ⟨v', l, e, s, k⟩ := trod_strs9 hf hr
  simp only [Value.cells, List.cons.injEq, and_true] at e
  subst e
  exact ⟨l, s, k⟩

theorem lifted (os : Os) (started : os.Started) (H : Type) (enc : TypeId × Value → H) :
    ReturnsInHanded {} Tryz.checked os 7 .any (fun w args => (Rows.commuteLinesSpec.pre enc Tryz.prog Tryz.f7 Rows.commuteLinesRow.domain false w args ∧ laidMetH Tryz.prog Rows.commuteLinesRow.laid w) ∧ sizedMet enc Tryz.prog Tryz.f7 (OpenSpec.ofChange Rows.commuteLinesSpec) false w args)
      (Rows.commuteLinesSpec.post enc Tryz.prog Tryz.f7 false true false false) := by
  refine returnsInHanded_of_change_and (C := Tryz.checked) (X := fun w _ => laidMetH Tryz.prog Rows.commuteLinesRow.laid w) (fun _ _ _ hh h => h.of_heap hh) own started (by kernel_rfl) Tryz.func7
    (ChangeSpec.witness_shaped (enc := enc) (C := Tryz.checked) (os := os) (X := fun w _ => laidMetH Tryz.prog Rows.commuteLinesRow.laid w) false (World.laidAll Tryz.prog os Rows.commuteLinesRow.laid) #[.int .u16 0, .slice none 0 0, .slice none 0 0, .int .u16 0, .slice none 0 0, .slice none 0 0] 8 (World.laidAll_os _ _ _)
      (World.shaped_of_ZipB (by kernel_rfl) (by kernel_rfl)) (by kernel_rfl) (by kernel_rfl) (by kernel_rfl)
      (by rw [MakeChecks.laidMetH_plain _ _ _ (by kernel_rfl)]; exact laidMet_laidAll _ (by kernel_rfl) (by kernel_rfl))) ?_
  intro W base args ds gs before hval0 hW _ hsz _ _
  have hval : ∀ (j : Nat) t v, Tryz.f7.params[j]? = some t → args[j]? = some v → Value.okWide Tryz.prog W .any base t v := hval0
  have hW' := hW
  obtain ⟨p, q, hA0, hV, rfl, hfz, hnd⟩ := hW
  have hA : DataW.TrodAll enc Tryz.prog W 0 (fun _ => true) true Tryz.f7.params.toList args.toList ds p := hA0
  rw [Tryz.params7] at hA hval
  obtain ⟨v0, vs0, d0, ds0, p0, q0, hargs, rfl, rfl, h0, r0⟩ := trodAll_cons hA
  obtain ⟨v1, vs1, d1, ds1, p1, q1, rfl, rfl, rfl, h1, r1⟩ := trodAll_cons r0
  obtain ⟨v2, vs2, d2, ds2, p2, q2, rfl, rfl, rfl, h2, r2⟩ := trodAll_cons r1
  obtain ⟨v3, vs3, d3, ds3, p3, q3, rfl, rfl, rfl, h3, r3⟩ := trodAll_cons r2
  obtain ⟨v4, vs4, d4, ds4, p4, q4, rfl, rfl, rfl, h4, r4⟩ := trodAll_cons r3
  obtain ⟨v5, vs5, d5, ds5, p5, q5, rfl, rfl, rfl, h5, r5⟩ := trodAll_cons r4
  obtain ⟨rfl, rfl, rfl⟩ := trodAll_nil r5
  obtain rfl : args = #[v0, v1, v2, v3, v4, v5] := by cases args; simp_all
  obtain ⟨rfl, rfl⟩ := trodVars_none hV
  have hr := List.all_eq_true.1 hsz
  obtain ⟨a0, rfl, rfl, rfl, w0⟩ := open_int Tryz.underlying38 (hval 0 38 v0 rfl rfl) h0
  obtain ⟨s0, rfl, hs0⟩ := u16_nat w0
  have lt1 : ∀ x ∈ p1, x.block < W.heap.size := by obtain ⟨m, hm⟩ := h1; exact DataW.trod_lt m _ _ _ hm
  obtain ⟨l1, S1, k1⟩ := arg_strs10 (hval 1 22 v1 rfl rfl) h1 (fun n hn => by simpa using hr n (DataW.weights_mem_each (j := 1) (t := 22) (d := d1) rfl rfl n hn))
  have lt2 : ∀ x ∈ p2, x.block < W.heap.size := by obtain ⟨m, hm⟩ := h2; exact DataW.trod_lt m _ _ _ hm
  obtain ⟨l2, S2, k2⟩ := arg_strs10 (hval 2 22 v2 rfl rfl) h2 (fun n hn => by simpa using hr n (DataW.weights_mem_each (j := 2) (t := 22) (d := d2) rfl rfl n hn))
  obtain ⟨a3, rfl, rfl, rfl, w3⟩ := open_int Tryz.underlying38 (hval 3 38 v3 rfl rfl) h3
  obtain ⟨s3, rfl, hs3⟩ := u16_nat w3
  have lt4 : ∀ x ∈ p4, x.block < W.heap.size := by obtain ⟨m, hm⟩ := h4; exact DataW.trod_lt m _ _ _ hm
  obtain ⟨l4, S4, k4⟩ := arg_strs10 (hval 4 22 v4 rfl rfl) h4 (fun n hn => by simpa using hr n (DataW.weights_mem_each (j := 4) (t := 22) (d := d4) rfl rfl n hn))
  have lt5 : ∀ x ∈ p5, x.block < W.heap.size := by obtain ⟨m, hm⟩ := h5; exact DataW.trod_lt m _ _ _ hm
  obtain ⟨l5, S5, k5⟩ := arg_strs10 (hval 5 22 v5 rfl rfl) h5 (fun n hn => by simpa using hr n (DataW.weights_mem_each (j := 5) (t := 22) (d := d5) rfl rfl n hn))
  clear hA0 hval0
  refine (lines_walk commute_all s0 s3 hs0 hs3 l1 l2 l4 l5 v1 v2 v4 v5 W S1 S2 S4 S5 (Nat.le_trans k1 (by decide)) (Nat.le_trans k2 (by decide)) (Nat.le_trans k4 (by decide)) (Nat.le_trans k5 (by decide))).mono fun e W' ⟨he, hfr⟩ => ?_
  have bel : Below W.heap.size W W' := hfr.below (Nat.le_refl _) (fun k e => e.elim)
  subst he
  exact ⟨_, rfl, _, _, _, [], _, [], hW', trodAll_mk1 (shut_bool Tryz.underlying4 _), (trodAll_cons_mk (shut_int Tryz.underlying38 w0) (trodAll_cons_mk (Below.trod laidOut (by kernel_rfl) (of_decide_eq_true (by kernel_rfl)) h1 bel lt1) (trodAll_cons_mk (Below.trod laidOut (by kernel_rfl) (of_decide_eq_true (by kernel_rfl)) h2 bel lt2) (trodAll_cons_mk (shut_int Tryz.underlying38 w3) (trodAll_cons_mk (Below.trod laidOut (by kernel_rfl) (of_decide_eq_true (by kernel_rfl)) h4 bel lt4) (trodAll_cons_mk (Below.trod laidOut (by kernel_rfl) (of_decide_eq_true (by kernel_rfl)) h5 bel lt5) trodAll_mk0)))))), rfl, bel.frame _, fun h => by cases h⟩

theorem over : Rows.commuteLinesRow.holds Tryz.pinned (OpenSpec.ofChange Rows.commuteLinesSpec) :=
  OpenClaim.holds_of_wide 7 Tryz.f7 rfl rfl rfl rfl rfl rfl rfl ⟨rfl, rfl, rfl, rfl, rfl⟩ rfl rfl rfl rfl rfl (by kernel_rfl) Tryz.func7 (by kernel_rfl)
    (of_decide_eq_true (by kernel_rfl)) (by unfold Func.isWrapper; first | (rw [if_pos (by decide +kernel)]; kernel_rfl) | (rw [if_neg (by decide +kernel)]; exact ⟨rfl, rfl⟩))
    (fun os started H enc _ => lifted os started H enc)

end Go.Proofs.YtdkhccdclahbaaaGreatDoor.commuteLines
namespace Go.Proofs.YtdkhccdclahbaaaGreatDoor
theorem commuteLines_holds : Rows.CommuteLinesCardSaid :=
  Claim7.holds_tied_plain_at .later [] [.data, .pinned] true Rows.commuteLinesCard.stood.harness false commuteLines.over (fun _ h => by cases h) (by kernel_rfl) (fun _ h => by cases h) commuteLines_row_tie rfl ⟨rfl, rfl⟩ (by kernel_rfl) rfl
    (fun f fn hf hfn => by
      obtain rfl : f = 7 := Option.some.inj ((show Tryz.prog.funcNamed Rows.commuteLinesRow.func = some 7 by kernel_rfl).symm.trans hf) |>.symm
      obtain rfl : fn = Tryz.f7 := (Option.some.inj (Tryz.func7.symm.trans hfn)).symm
      exact ⟨by kernel_rfl, fun j t ht => by
        rw [Tryz.params7] at ht
        have hm : t ∈ [22, 38] := by have h := Array.mem_of_getElem? ht; simp at h ⊢; rcases h with h | h | h | h <;> simp [h]
        have hall : ([22, 38].all fun u => !Tryz.prog.wantsStandIn u) = true := by kernel_rfl
        exact (show Tryz.prog.wantsStandIn t = false by simpa using List.all_eq_true.1 hall t hm)⟩)
    (by kernel_rfl)
#print axioms commuteLines_holds
end Go.Proofs.YtdkhccdclahbaaaGreatDoor
