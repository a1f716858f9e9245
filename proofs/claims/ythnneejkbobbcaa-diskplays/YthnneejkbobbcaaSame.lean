/-
  What is proved here: Same of two rows of files that have the same names and bytes answers true. Condition: both lie in memory.
-/
import Derived.Test.YthnneejkbobbcaaFilesOut
import Derived.Deep.QuietTactic
import Derived.BigQuiet
namespace Go.Proofs.Ythnneejkbobbcaa
open Go.RowKit Go.Maps Go.WideMaps Go.Sort
set_option maxRecDepth 100000

theorem fr_drewN (w : World) (n : Nat) : Fr None' w (w.drewN n) := ⟨rfl, rfl, rfl, Nat.le_refl _, fun _ _ _ => rfl⟩

theorem flat_at : ∀ (L : List Tri) (i : Nat) (t : Tri), L[i]? = some t → (L.flatMap fun t => [encStr t.k, t.v])[i * 2]? = some (encStr t.k) ∧ (L.flatMap fun t => [encStr t.k, t.v])[i * 2 + 1]? = some t.v
  | [], i, t, h => by simp at h
  | x :: r, 0, t, h => by
    simp at h; subst h
    exact ⟨rfl, rfl⟩
  | x :: r, i + 1, t, h => by
    have ih := flat_at r i t (by simpa using h)
    rw [List.flatMap_cons]
    rw [show (i + 1) * 2 = i * 2 + 1 + 1 by omega]
    exact ⟨by simpa using ih.1, by simpa using ih.2⟩

/-- A file of a row. -/
theorem FilesRes.cells {w : World} {v : Value} {L : List Tri} (h : FilesRes w v L) : ∃ a c, v = .slice a L.length c ∧ ∀ i t, L[i]? = some t → ∃ g, a = some ⟨g, 0, none⟩ ∧ w.cell? ⟨g, i * 2, none⟩ = some (.string ⟨t.k.toArray⟩) ∧ w.cell? ⟨g, i * 2 + 1, none⟩ = some t.v ∧ Data w t.v t.b := by
  obtain ⟨h1, h2⟩ := h
  rcases h1.2 with ⟨hv, h0⟩ | ⟨g, cap, cur, hv, _, hh, _, _, _, ht⟩
  · have hL : L = [] := by simpa using h0
    subst hL
    exact ⟨none, 0, hv, fun i t hi => by simp at hi⟩
  · refine ⟨_, cap, hv, fun i t hi => ⟨g, rfl, ?_, ?_, h2 t (List.mem_of_getElem? hi)⟩⟩
    · have hf := (flat_at L i t hi).1
      rw [← ht, List.getElem?_take] at hf
      split at hf
      · simp [World.cell?, hh]; simpa using hf
      · cases hf
    · have hf := (flat_at L i t hi).2
      rw [← ht, List.getElem?_take] at hf
      split at hf
      · simp [World.cell?, hh]; simpa using hf
      · cases hf

set_option maxHeartbeats 4000000 in
theorem same_any (va vb : Value) (A B : List Tri) (w : World) (hA : FilesRes w va A) (hB : FilesRes w vb B) (he : kb A = kb B) (hl : A.length ≤ 1000000) :
    Calls Try.prog 18 #[va, vb] w fun e w' => e = .returned (.bool true) ∧ Fr None' w w' := by
  obtain ⟨aa, ac, rfl, hca⟩ := hA.cells
  obtain ⟨ba, bc, rfl, hcb⟩ := hB.cells
  have hlen : B.length = A.length := by
    have := congrArg List.length he
    simpa [kb] using this.symm
  rw [hlen]
  have hl' : (A.length : Int) ≤ 1000000 := by omega
  have HE : Hid (kb A = kb B ∧ B.length = A.length) := ⟨he, hlen⟩
  clear hA hB he hlen
  go_enter Try.func18, Try.ntmps18
  go_wp2
  go_loopw [5] (fun i wr => ∃ j : Nat, j ≤ A.length ∧ i = .int .i64 j ∧ Fr None' w wr) (fun i _ => A.length - (intOf i).toNat)
  case atStart => exact ⟨0, Nat.zero_le _, rfl, Fr.refl _ _⟩
  case round =>
    obtain ⟨j, hj, rfl, hfr⟩ := hrel
    by_cases hlt : j < A.length
    · obtain ⟨s, hs⟩ : ∃ s, A[j]? = some s := ⟨A[j], by simp [hlt]⟩
      obtain ⟨t, ht⟩ : ∃ t, B[j]? = some t := ⟨B[j]'(by have := HE.out.2; omega), by simp⟩
      have hst : s.k = t.k ∧ s.b = t.b := by
        have h1 : (kb A)[j]? = some (s.k, s.b) := by simp [kb, hs]
        have h2 : (kb B)[j]? = some (t.k, t.b) := by simp [kb, ht]
        rw [HE.out.1, h2] at h1
        simp at h1
        exact ⟨h1.1.symm, h1.2.symm⟩
      obtain ⟨ga, rfl, a0, a1, aD⟩ := hca j s hs
      obtain ⟨gb, rfl, b0, b1, bD⟩ := hcb j t ht
      have hce : ∀ g off u, w.cell? ⟨g, off, none⟩ = some u → wr.cell? ⟨g, off, none⟩ = some u := fun g off u hu => by
        have hlt' : g < w.heap.size := by
          unfold World.cell? at hu
          split at hu
          · rename_i hk; exact lt_of_some hk
          · cases hu
        rw [World.cell?_of_block (w := w) (a := ⟨g, off, none⟩) (hfr.block g hlt' (fun e => e))]
        exact hu
      have a0' := hce _ _ _ a0
      have a1' := hce _ _ _ a1
      have b0' := hce _ _ _ b0
      have b1' := hce _ _ _ b1
      rw [← hst.1] at b0'
      have sA : ∀ n, (convert 33 9 s.v).run Try.prog (wr.drewN n) = .ok (.string ⟨s.b.toArray⟩) (wr.drewN n) := fun n => str_any (aD.bytes.kept (hfr.then (fr_drewN wr n)) (fun _ _ _ _ _ e => e))
      have sB : ∀ n, (convert 33 9 t.v).run Try.prog (wr.drewN n) = .ok (.string ⟨s.b.toArray⟩) (wr.drewN n) := fun n => by rw [hst.2]; exact str_any (bD.bytes.kept (hfr.then (fr_drewN wr n)) (fun _ _ _ _ _ e => e))
      have i0 : (0 : Int) ≤ (j : Int) := by omega
      have i1 : (j : Int) < (A.length : Int) := by omega
      have HF : Hid (Fr None' w wr) := hfr
      generalize s.k = k at *
      generalize s.b = bb at *
      generalize s.v = x at *
      generalize t.v = y at *
      clear hca hcb hce a0 a1 b0 b1 aD bD hst hs ht hfr HE
      go_wp2_with fail
      go_quiet (fail)
      go_wp2
      go_roundw
      case rel => exact ⟨j + 1, by omega, by go_num, HF.out.then (fr_drewN _ _)⟩
      case measure => simp [intOf]; omega
    · have hjl : j = A.length := by omega
      subst hjl
      clear hca hcb
      go_wp2
      go_ret
      exact ⟨rfl, hfr⟩

end Go.Proofs.Ythnneejkbobbcaa
