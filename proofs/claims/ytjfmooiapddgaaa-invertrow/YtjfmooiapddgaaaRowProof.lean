/-
  What is proved here: InvertRow of the landed program answers true for every input, and leaves its arguments as they were. No condition.
-/
import Derived.Test.YtjfmooiapddgaaaRow9
import Derived.Test.YtjfmooiapddgaaaHead9
import Derived.Test.YtjfmooiapddgaaaArgsP
import Derived.Test.YtjfmooiapddgaaaRows
import Derived.ChangeMaps5
namespace Go.Proofs.Ytjfmooiapddgaaa.invertRow
open Go.ChangeShapes Go.WideShapes Go.ChangeAt Go.RowKit Go.ChangeMaps
set_option maxRecDepth 100000

theorem sized (os : Os) (started : os.Started) (H : Type) (enc : TypeId × Value → H) :
    ReturnsInHanded {} Try.checked os 4 .any (fun w args => (Rows.invertRowSpec.pre enc Try.prog Try.f4 Rows.invertRowRow.domain false w args ∧ True) ∧ sizedMet enc Try.prog Try.f4 (OpenSpec.ofChange Rows.invertRowSpec) false w args) (Rows.invertRowSpec.post enc Try.prog Try.f4 false true false false) := by
  have wit := ChangeSpec.witness6 (enc := enc) (C := Try.checked) (os := os) (f := 4) (fn := Try.f4) (s := Rows.invertRowSpec) (conds := Rows.invertRowRow.domain) (apart := false) false ⟨#[], #[.slice none 0 0, .slice none 0 0], []⟩ 8 (by kernel_rfl) (by kernel_rfl) (by kernel_rfl) (by kernel_rfl)
  obtain ⟨w0, tape, i, k1, k2, k3, k4, k5, k6⟩ := wit
  refine returnsInHanded_of_change_and (C := Try.checked) (X := fun _ _ => True) (fun _ _ _ _ h => h) own started (by kernel_rfl) Try.func4 ⟨w0, tape, i, k1, k2, k3, k4, ⟨⟨k5.1, trivial⟩, k5.2⟩, k6⟩ ?_
  clear k1 k2 k3 k4 k5 k6
  intro W base args ds gs before hval0 hW _ hsz _ _
  have hval : ∀ (j : Nat) t v, Try.f4.params[j]? = some t → args[j]? = some v → Value.okWide Try.prog W .any base t v := hval0
  have hW' := hW
  obtain ⟨p, q, hA0, hV, rfl, hfz, hnd⟩ := hW
  have hA : DataW.TrodAll enc Try.prog W 0 (fun _ => true) true Try.f4.params.toList args.toList ds p := hA0
  rw [Try.params4] at hA hval
  obtain ⟨v0, vs0, d0, ds0, p0, q0, hargs, rfl, rfl, h0, r0⟩ := trodAll_cons hA
  obtain ⟨v1, vs1, d1, ds1, p1, q1, rfl, rfl, rfl, h1, r1⟩ := trodAll_cons r0
  obtain ⟨rfl, rfl, rfl⟩ := trodAll_nil r1
  obtain rfl : args = #[v0, v1] := by cases args; simp_all
  obtain ⟨rfl, rfl⟩ := trodVars_none hV
  have hr := List.all_eq_true.1 hsz
  have lt0 : ∀ x ∈ p0, x.block < W.heap.size := by obtain ⟨m, hm⟩ := h0; exact DataW.trod_lt m _ _ _ hm
  obtain ⟨a0, n0, c0, L0, rfl, e0, E0, z0, x0⟩ := trod_prims (hval 0 25 v0 rfl rfl) h0 (fun n hn => by simpa using hr n (DataW.weights_mem_each (j := 0) (t := 25) (d := d0) rfl rfl n hn))
  have lt1 : ∀ x ∈ p1, x.block < W.heap.size := by obtain ⟨m, hm⟩ := h1; exact DataW.trod_lt m _ _ _ hm
  obtain ⟨a1, n1, c1, L1, rfl, e1, E1, z1, x1⟩ := trod_prims (hval 1 25 v1 rfl rfl) h1 (fun n hn => by simpa using hr n (DataW.weights_mem_each (j := 1) (t := 25) (d := d1) rfl rfl n hn))
  clear hA0 hval0
  refine (row_walk a0 a1 n0 n1 c0 c1 L0 L1 W head_any e0 E0 z0 (fun x hx => ⟨Nat.le_trans (x0 x hx).1 (by decide), Nat.le_trans (x0 x hx).2 (by decide)⟩) e1 E1 z1 (fun x hx => ⟨Nat.le_trans (x1 x hx).1 (by decide), Nat.le_trans (x1 x hx).2 (by decide)⟩)).mono fun e W' ⟨he, hfr⟩ => ?_
  have bel : Below W.heap.size W W' := hfr.below (Nat.le_refl _) (fun k e => e.elim)
  subst he
  exact ⟨_, rfl, _, _, _, [], _, [], hW', trodAll_mk1 (shut_bool Try.underlying4 _), (trodAll_cons_mk (Below.trod laidOut (by kernel_rfl) (of_decide_eq_true (by kernel_rfl)) h0 bel lt0) (trodAll_cons_mk (Below.trod laidOut (by kernel_rfl) (of_decide_eq_true (by kernel_rfl)) h1 bel lt1) trodAll_mk0)), rfl, bel.frame _, fun h => by cases h⟩

theorem lifted (os : Os) (started : os.Started) (H : Type) (enc : TypeId × Value → H) :
    ReturnsInHanded {} Try.checked os 4 .any (Rows.invertRowSpec.pre6 enc Try.prog Try.f4 Rows.invertRowRow.domain false) (Rows.invertRowSpec.post enc Try.prog Try.f4 false true false false) := by
  have e : Rows.invertRowSpec.pre6 enc Try.prog Try.f4 Rows.invertRowRow.domain false = fun w args => (Rows.invertRowSpec.pre enc Try.prog Try.f4 Rows.invertRowRow.domain false w args ∧ True) ∧ sizedMet enc Try.prog Try.f4 (OpenSpec.ofChange Rows.invertRowSpec) false w args := by
    funext w args
    simp only [ChangeSpec.pre6, and_true]
  rw [e]
  exact sized os started H enc

theorem over : Rows.invertRowRow.holds Try.pinned (OpenSpec.ofChange Rows.invertRowSpec) :=
  OpenClaim.holds_of_wide 4 Try.f4 rfl rfl rfl rfl rfl rfl rfl ⟨rfl, rfl, rfl, rfl, rfl⟩ rfl rfl rfl rfl rfl (by kernel_rfl) Try.func4 (by kernel_rfl)
    (of_decide_eq_true (by kernel_rfl)) (by unfold Func.isWrapper; first | (rw [if_pos (by decide +kernel)]; kernel_rfl) | (rw [if_neg (by decide +kernel)]; exact ⟨rfl, rfl⟩))
    (fun os started H enc _ => lifted os started H enc)

end Go.Proofs.Ytjfmooiapddgaaa.invertRow
namespace Go.Proofs.Ytjfmooiapddgaaa
theorem invertRow_holds : Rows.InvertRowSaid := invertRow.over
#print axioms invertRow_holds
end Go.Proofs.Ytjfmooiapddgaaa
