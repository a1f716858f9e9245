/-
  What is proved here: DiskRenames of the landed program answers true for every three rows of bytes and each truth, and leaves its arguments as they were. No condition.
-/
import Derived.Test.YtijcddgiaegoiaaRenames
namespace Go.Proofs.Ytijcddgiaegoiaa.diskRenames
open Go.ChangeShapes Go.WideShapes Go.ChangeAt Go.RowKit
set_option maxRecDepth 100000

set_option maxHeartbeats 8000000 in
theorem long_walk (sA sB sC : Option Addr) (cA cB cC : Nat) (la lb lc : Nat) (sync : Bool) (w : World) (h : ¬ (la ≤ 1000 ∧ lb ≤ 1000 ∧ lc ≤ 1000)) :
    Calls Try.prog 8 #[.slice sA la cA, .slice sB lb cB, .slice sC lc cC, .bool sync] w fun e w' => e = .returned (.bool true) ∧ Fr None' w w' := by
  by_cases h1 : la ≤ 1000
  · by_cases h2 : lb ≤ 1000
    · have h3 : ¬ lc ≤ 1000 := fun h3 => h ⟨h1, h2, h3⟩
      clear h
      go_enter Try.func8, Try.ntmps8
      go_wp2_with fail
      refine (head_any w).mono ?_
      rintro e w1 ⟨rfl, F1⟩
      go_wp2_with fail
      refine (live_new 1048576 w1).mono ?_
      rintro e w2 ⟨p, rfl, L0⟩
      go_wp2
      go_ret
      exact ⟨rfl, fin F1 L0⟩
    · clear h
      go_enter Try.func8, Try.ntmps8
      go_wp2_with fail
      refine (head_any w).mono ?_
      rintro e w1 ⟨rfl, F1⟩
      go_wp2_with fail
      refine (live_new 1048576 w1).mono ?_
      rintro e w2 ⟨p, rfl, L0⟩
      go_wp2
      go_ret
      exact ⟨rfl, fin F1 L0⟩
  · clear h
    go_enter Try.func8, Try.ntmps8
    go_wp2_with fail
    refine (head_any w).mono ?_
    rintro e w1 ⟨rfl, F1⟩
    go_wp2_with fail
    refine (live_new 1048576 w1).mono ?_
    rintro e w2 ⟨p, rfl, L0⟩
    go_wp2
    go_ret
    exact ⟨rfl, fin F1 L0⟩

theorem walk (vA vB vC : Value) (a b c : List UInt8) (sync : Bool) (w : World) (hA : Bytes w vA a) (hB : Bytes w vB b) (hC : Bytes w vC c) (hlA : Low w vA) (hlB : Low w vB) (hlC : Low w vC) :
    Calls Try.prog 8 #[vA, vB, vC, .bool sync] w fun e w' => e = .returned (.bool true) ∧ Below w.heap.size w w' := by
  by_cases h : a.length ≤ 1000 ∧ b.length ≤ 1000 ∧ c.length ≤ 1000
  · exact (renames_walk vA vB vC a b c sync w hA hB hC hlA hlB hlC h.1 h.2.1 h.2.2).mono fun _ _ ⟨h1, h2⟩ => ⟨h1, h2.below (Nat.le_refl _) (fun _ e => e.elim)⟩
  · obtain ⟨sA, cA, rfl⟩ := bytes_slice hA
    obtain ⟨sB, cB, rfl⟩ := bytes_slice hB
    obtain ⟨sC, cC, rfl⟩ := bytes_slice hC
    exact (long_walk sA sB sC cA cB cC _ _ _ sync w h).mono fun _ _ ⟨h1, h2⟩ => ⟨h1, h2.below (Nat.le_refl _) (fun _ e => e.elim)⟩

theorem lifted (os : Os) (started : os.Started) (H : Type) (enc : TypeId × Value → H) :
    ReturnsInHanded {} Try.checked os 8 .any (Rows.diskRenamesSpec.pre6 enc Try.prog Try.f8 Rows.diskRenamesRow.domain false) (Rows.diskRenamesSpec.post enc Try.prog Try.f8 false true false false) := by
  refine returnsInHanded_of_change (C := Try.checked) own started (by kernel_rfl) Try.func8
    (ChangeSpec.witness6 (enc := enc) (C := Try.checked) false ⟨#[], #[.slice none 0 0, .slice none 0 0, .slice none 0 0, .bool false], []⟩ 8 (by kernel_rfl) (by kernel_rfl) (by kernel_rfl) (by kernel_rfl)) ?_
  intro W base args ds gs before hval0 hW hcnd _
  have hval : ∀ (j : Nat) t v, Try.f8.params[j]? = some t → args[j]? = some v → Value.okWide Try.prog W .any base t v := hval0
  have hW' := hW
  obtain ⟨p, q, hA0, hV, rfl, hfz, hnd⟩ := hW
  have hA : DataW.TrodAll enc Try.prog W 0 (fun _ => true) true Try.f8.params.toList args.toList ds p := hA0
  rw [Try.params8] at hA hval
  obtain ⟨v0, vs0, d0, ds0, p0, q0, hargs, rfl, rfl, h0, r0⟩ := trodAll_cons hA
  obtain ⟨v1, vs1, d1, ds1, p1, q1, rfl, rfl, rfl, h1, r1⟩ := trodAll_cons r0
  obtain ⟨v2, vs2, d2, ds2, p2, q2, rfl, rfl, rfl, h2, r2⟩ := trodAll_cons r1
  obtain ⟨v3, vs3, d3, ds3, p3, q3, rfl, rfl, rfl, h3, r3⟩ := trodAll_cons r2
  obtain ⟨rfl, rfl, rfl⟩ := trodAll_nil r3
  obtain rfl : args = #[v0, v1, v2, v3] := by cases args; simp_all
  obtain ⟨rfl, rfl⟩ := trodVars_none hV
  have lt0 : ∀ x ∈ p0, x.block < W.heap.size := by obtain ⟨m, hm⟩ := h0; exact DataW.trod_lt m _ _ _ hm
  have lt1 : ∀ x ∈ p1, x.block < W.heap.size := by obtain ⟨m, hm⟩ := h1; exact DataW.trod_lt m _ _ _ hm
  have lt2 : ∀ x ∈ p2, x.block < W.heap.size := by obtain ⟨m, hm⟩ := h2; exact DataW.trod_lt m _ _ _ hm
  obtain ⟨a0, len0, cap0, rfl⟩ := okWide_slice Try.underlying33 (hval 0 33 v0 rfl rfl)
  obtain ⟨b0, B0, L0⟩ := trod_arg h0
  obtain ⟨a1, len1, cap1, rfl⟩ := okWide_slice Try.underlying33 (hval 1 33 v1 rfl rfl)
  obtain ⟨b1, B1, L1⟩ := trod_arg h1
  obtain ⟨a2, len2, cap2, rfl⟩ := okWide_slice Try.underlying33 (hval 2 33 v2 rfl rfl)
  obtain ⟨b2, B2, L2⟩ := trod_arg h2
  obtain ⟨a3, rfl, rfl, rfl⟩ := open_bool Try.underlying4 (hval 3 4 v3 rfl rfl) h3
  clear hA0 hval0
  refine (walk _ _ _ b0 b1 b2 a3 W B0 B1 B2 L0 L1 L2).mono fun e W' ⟨he, bel⟩ => ?_
  subst he
  exact ⟨_, rfl, _, _, _, [], _, [], hW', trodAll_mk1 (shut_bool Try.underlying4 _), (trodAll_cons_mk (Below.trod laidOut (by kernel_rfl) (of_decide_eq_true (by kernel_rfl)) h0 bel lt0) (trodAll_cons_mk (Below.trod laidOut (by kernel_rfl) (of_decide_eq_true (by kernel_rfl)) h1 bel lt1) (trodAll_cons_mk (Below.trod laidOut (by kernel_rfl) (of_decide_eq_true (by kernel_rfl)) h2 bel lt2) (trodAll_cons_mk (shut_bool Try.underlying4 _) trodAll_mk0)))), rfl, bel.frame _, fun h => by cases h⟩

theorem over : Rows.diskRenamesRow.holds Try.pinned (OpenSpec.ofChange Rows.diskRenamesSpec) :=
  OpenClaim.holds_of_wide 8 Try.f8 rfl rfl rfl rfl rfl rfl rfl ⟨rfl, rfl, rfl, rfl, rfl⟩ rfl rfl rfl rfl rfl (by kernel_rfl) Try.func8 (by kernel_rfl)
    (of_decide_eq_true (by kernel_rfl)) (by unfold Func.isWrapper; first | (rw [if_pos (by decide +kernel)]; kernel_rfl) | (rw [if_neg (by decide +kernel)]; exact ⟨rfl, rfl⟩))
    (fun os started H enc _ => lifted os started H enc)

end Go.Proofs.Ytijcddgiaegoiaa.diskRenames
namespace Go.Proofs.Ytijcddgiaegoiaa
theorem diskRenames_holds : Rows.DiskRenamesSaid := diskRenames.over
#print axioms diskRenames_holds
end Go.Proofs.Ytijcddgiaegoiaa
