/-
  What is proved here: SeqUndone of the landed program answers true for every input, and leaves its arguments as they were; the tables that the row lists are tied to the program's text, and are never read. No condition but that.
-/
import Derived.Test.YtpfkkpghgmmijaaGreatDoorMSUndoneW8
import Derived.Test.YtpfkkpghgmmijaaGreatDoorMComm10
import Derived.Test.YtpfkkpghgmmijaaGreatDoorM10Box9
import Derived.Test.YtpfkkpghgmmijaaGreatDoorRows
import Derived.Test.YtpfkkpghgmmijaaGreatDoorCards
import Derived.Test.YtpfkkpghgmmijaaGreatDoorTie
import Derived.ProofKit
import Derived.ChangeMaps5
import Derived.OpenShut
import Derived.LaidMore
import Derived.Lay
import Derived.SevenTiedAt
import Derived.Stop.Joined
namespace Go.Proofs.YtpfkkpghgmmijaaGreatDoor.seqUndone
open Go.ChangeShapes Go.WideShapes Go.ChangeAt Go.RowKit Go.ChangeMaps
set_option maxRecDepth 100000

theorem lifted (os : Os) (started : os.Started) (H : Type) (enc : TypeId × Value → H) :
    ReturnsInHanded {} Tryz.checked os 8 .any (fun w args => (Rows.seqUndoneSpec.pre enc Tryz.prog Tryz.f8 Rows.seqUndoneRow.domain false w args ∧ laidMetH Tryz.prog Rows.seqUndoneRow.laid w) ∧ sizedMet enc Tryz.prog Tryz.f8 (OpenSpec.ofChange Rows.seqUndoneSpec) false w args)
      (Rows.seqUndoneSpec.post enc Tryz.prog Tryz.f8 false true false false) := by
  refine returnsInHanded_of_change_and (C := Tryz.checked) (X := fun w _ => laidMetH Tryz.prog Rows.seqUndoneRow.laid w) (fun _ _ _ hh h => h.of_heap hh) own started (by kernel_rfl) Tryz.func8
    (ChangeSpec.witness_shaped (enc := enc) (C := Tryz.checked) (os := os) (X := fun w _ => laidMetH Tryz.prog Rows.seqUndoneRow.laid w) false (World.laidAll Tryz.prog os Rows.seqUndoneRow.laid) #[.slice none 0 0] 8 (World.laidAll_os _ _ _)
      (World.shaped_of_ZipB (by kernel_rfl) (by kernel_rfl)) (by kernel_rfl) (by kernel_rfl) (by kernel_rfl)
      (by rw [MakeChecks.laidMetH_plain _ _ _ (by kernel_rfl)]; exact laidMet_laidAll _ (by kernel_rfl) (by kernel_rfl))) ?_
  intro W base args ds gs before hval0 hW _ hsz _ _
  have hval : ∀ (j : Nat) t v, Tryz.f8.params[j]? = some t → args[j]? = some v → Value.okWide Tryz.prog W .any base t v := hval0
  have hW' := hW
  obtain ⟨p, q, hA0, hV, rfl, hfz, hnd⟩ := hW
  have hA : DataW.TrodAll enc Tryz.prog W 0 (fun _ => true) true Tryz.f8.params.toList args.toList ds p := hA0
  rw [Tryz.params8] at hA hval
  obtain ⟨v0, vs0, d0, ds0, p0, q0, hargs, rfl, rfl, h0, r0⟩ := trodAll_cons hA
  obtain ⟨rfl, rfl, rfl⟩ := trodAll_nil r0
  obtain rfl : args = #[v0] := by cases args; simp_all
  obtain ⟨rfl, rfl⟩ := trodVars_none hV
  have hr := List.all_eq_true.1 hsz
  have lt0 : ∀ x ∈ p0, x.block < W.heap.size := by obtain ⟨m, hm⟩ := h0; exact DataW.trod_lt m _ _ _ hm
  have room0 := room_of h0
  obtain ⟨a0, n0, c0, L0, rfl, e0, E0, z0, x0⟩ := trod_prims (hval 0 22 v0 rfl rfl) h0 (fun n hn => by simpa using hr n (DataW.weights_mem_each (j := 0) (t := 22) (d := d0) rfl rfl n hn))
  clear hA0 hval0
  refine (sundone_walk commute_all a0 n0 c0 L0 W e0 E0 z0 (fun x hx => ⟨(Nat.le_trans (x0 x hx).1 (by decide)), (Nat.le_trans (x0 x hx).2 (by decide))⟩) (room0 _ _ _ rfl)).mono fun e W' ⟨he, hfr⟩ => ?_
  have bel : Below W.heap.size W W' := hfr.below (Nat.le_refl _) (fun k e => e.elim)
  subst he
  exact ⟨_, rfl, _, _, _, [], _, [], hW', trodAll_mk1 (shut_bool Tryz.underlying4 _), (trodAll_cons_mk (Below.trod laidOut (by kernel_rfl) (of_decide_eq_true (by kernel_rfl)) h0 bel lt0) trodAll_mk0), rfl, bel.frame _, fun h => by cases h⟩

theorem over : Rows.seqUndoneRow.holds Tryz.pinned (OpenSpec.ofChange Rows.seqUndoneSpec) :=
  OpenClaim.holds_of_wide 8 Tryz.f8 rfl rfl rfl rfl rfl rfl rfl ⟨rfl, rfl, rfl, rfl, rfl⟩ rfl rfl rfl rfl rfl (by kernel_rfl) Tryz.func8 (by kernel_rfl)
    (of_decide_eq_true (by kernel_rfl)) (by unfold Func.isWrapper; first | (rw [if_pos (by decide +kernel)]; kernel_rfl) | (rw [if_neg (by decide +kernel)]; exact ⟨rfl, rfl⟩))
    (fun os started H enc _ => lifted os started H enc)

end Go.Proofs.YtpfkkpghgmmijaaGreatDoor.seqUndone
namespace Go.Proofs.YtpfkkpghgmmijaaGreatDoor
theorem seqUndone_holds : Rows.SeqUndoneCardSaid :=
  Claim7.holds_tied_plain_at .later [] [.data, .pinned] true Rows.seqUndoneCard.stood.harness false seqUndone.over (fun _ h => by cases h) (by kernel_rfl) (fun _ h => by cases h) seqUndone_row_tie rfl ⟨rfl, rfl⟩ (by kernel_rfl) rfl
    (fun f fn hf hfn => by
      obtain rfl : f = 8 := Option.some.inj ((show Tryz.prog.funcNamed Rows.seqUndoneRow.func = some 8 by kernel_rfl).symm.trans hf) |>.symm
      obtain rfl : fn = Tryz.f8 := (Option.some.inj (Tryz.func8.symm.trans hfn)).symm
      exact ⟨by kernel_rfl, fun j t ht => by
        rw [Tryz.params8] at ht
        have hm : t ∈ [22] := by have h := Array.mem_of_getElem? ht; simp at h ⊢; first | exact h | (rcases h with h | h | h <;> simp [h])
        have hall : ([22].all fun u => !Tryz.prog.wantsStandIn u) = true := by kernel_rfl
        exact (show Tryz.prog.wantsStandIn t = false by simpa using List.all_eq_true.1 hall t hm)⟩)
    (by kernel_rfl)
#print axioms seqUndone_holds
end Go.Proofs.YtpfkkpghgmmijaaGreatDoor
