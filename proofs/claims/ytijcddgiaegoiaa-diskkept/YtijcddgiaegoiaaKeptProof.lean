/-
  What is proved here: DiskKept of the landed program answers true for every row of files, every row of calls and each truth, and leaves its arguments as they were. No condition.
-/
import Derived.Test.YtijcddgiaegoiaaKept
namespace Go.Proofs.Ytijcddgiaegoiaa.diskKept
open Go.ChangeShapes Go.WideShapes Go.ChangeAt Go.RowKit
set_option maxRecDepth 100000

theorem lifted (os : Os) (started : os.Started) (H : Type) (enc : TypeId × Value → H) :
    ReturnsInHanded {} Try.checked os 5 .any (Rows.diskKeptSpec.pre6 enc Try.prog Try.f5 Rows.diskKeptRow.domain false) (Rows.diskKeptSpec.post enc Try.prog Try.f5 false true false false) := by
  refine returnsInHanded_of_change_sized (C := Try.checked) own started (by kernel_rfl) Try.func5
    (ChangeSpec.witness6 (enc := enc) (C := Try.checked) false ⟨#[], #[.slice none 0 0, .slice none 0 0, .bool false], []⟩ 8 (by kernel_rfl) (by kernel_rfl) (by kernel_rfl) (by kernel_rfl)) ?_
  intro W base args ds gs before hval0 hW hcnd hsz _
  have hval : ∀ (j : Nat) t v, Try.f5.params[j]? = some t → args[j]? = some v → Value.okWide Try.prog W .any base t v := hval0
  have hW' := hW
  obtain ⟨p, q, hA0, hV, rfl, hfz, hnd⟩ := hW
  have hA : DataW.TrodAll enc Try.prog W 0 (fun _ => true) true Try.f5.params.toList args.toList ds p := hA0
  rw [Try.params5] at hA hval hsz
  obtain ⟨v0, vs0, d0, ds0, p0, q0, hargs, rfl, rfl, h0, r0⟩ := trodAll_cons hA
  obtain ⟨v1, vs1, d1, ds1, p1, q1, rfl, rfl, rfl, h1, r1⟩ := trodAll_cons r0
  obtain ⟨v2, vs2, d2, ds2, p2, q2, rfl, rfl, rfl, h2, r2⟩ := trodAll_cons r1
  obtain ⟨rfl, rfl, rfl⟩ := trodAll_nil r2
  obtain rfl : args = #[v0, v1, v2] := by cases args; simp_all
  obtain ⟨rfl, rfl⟩ := trodVars_none hV
  have lt1 : ∀ x ∈ p1, x.block < W.heap.size := by obtain ⟨m, hm⟩ := h1; exact DataW.trod_lt m _ _ _ hm
  have lt0 : ∀ x ∈ p0, x.block < W.heap.size := by obtain ⟨m, hm⟩ := h0; exact DataW.trod_lt m _ _ _ hm
  obtain ⟨a0, len0, cap0, rfl⟩ := okWide_slice Try.underlying22 (hval 0 22 v0 rfl rfl)
  obtain ⟨a1, len1, cap1, rfl⟩ := okWide_slice Try.underlying23 (hval 1 23 v1 rfl rfl)
  obtain ⟨a2, rfl, rfl, rfl⟩ := open_bool Try.underlying4 (hval 2 4 v2 rfl rfl) h2
  have hr := List.all_eq_true.1 hsz
  obtain ⟨L, hL, hLn⟩ : ∃ L, OpsAt W W.heap.size (.slice a1 len1 cap1) L ∧ L.length ≤ reachBytes := by
    obtain ⟨fuel, hf⟩ := h1
    obtain ⟨v', L, hcs, g1, g2⟩ := trod_ops hf (fun n hn => by simpa using hr n (DataW.weights_mem_each (j := 1) (t := 23) (d := d1) rfl rfl n hn))
    obtain rfl : .slice a1 len1 cap1 = v' := by simpa [Value.cells] using hcs
    exact ⟨L, g1, g2⟩
  obtain ⟨FL, hFL, hFLn⟩ : ∃ L, FilesAt W W.heap.size (.slice a0 len0 cap0) L ∧ L.length ≤ reachBytes := by
    obtain ⟨fuel, hf⟩ := h0
    obtain ⟨v', L, hcs, g1, g2⟩ := trod_files hf (fun n hn => by simpa using hr n (DataW.weights_mem_each (j := 0) (t := 22) (d := d0) rfl rfl n hn))
    obtain rfl : .slice a0 len0 cap0 = v' := by simpa [Value.cells] using hcs
    exact ⟨L, g1, g2⟩
  clear hA0 hval0
  refine (kept_walk _ _ a2 FL L W hFL hFLn hL hLn).mono fun e W' ⟨he, hfr⟩ => ?_
  have bel : Below W.heap.size W W' := hfr.below (Nat.le_refl _) (fun _ e => e.elim)
  subst he
  exact ⟨_, rfl, _, _, _, [], _, [], hW', trodAll_mk1 (shut_bool Try.underlying4 _), (trodAll_cons_mk (Below.trod laidOut (by kernel_rfl) (of_decide_eq_true (by kernel_rfl)) h0 bel lt0) (trodAll_cons_mk (Below.trod laidOut (by kernel_rfl) (of_decide_eq_true (by kernel_rfl)) h1 bel lt1) (trodAll_cons_mk (shut_bool Try.underlying4 _) trodAll_mk0))), rfl, bel.frame _, fun h => by cases h⟩

theorem over : Rows.diskKeptRow.holds Try.pinned (OpenSpec.ofChange Rows.diskKeptSpec) :=
  OpenClaim.holds_of_wide 5 Try.f5 rfl rfl rfl rfl rfl rfl rfl ⟨rfl, rfl, rfl, rfl, rfl⟩ rfl rfl rfl rfl rfl (by kernel_rfl) Try.func5 (by kernel_rfl)
    (of_decide_eq_true (by kernel_rfl)) (by unfold Func.isWrapper; first | (rw [if_pos (by decide +kernel)]; kernel_rfl) | (rw [if_neg (by decide +kernel)]; exact ⟨rfl, rfl⟩))
    (fun os started H enc _ => lifted os started H enc)

end Go.Proofs.Ytijcddgiaegoiaa.diskKept
namespace Go.Proofs.Ytijcddgiaegoiaa
theorem diskKept_holds : Rows.DiskKeptSaid := diskKept.over
#print axioms diskKept_holds
end Go.Proofs.Ytijcddgiaegoiaa
