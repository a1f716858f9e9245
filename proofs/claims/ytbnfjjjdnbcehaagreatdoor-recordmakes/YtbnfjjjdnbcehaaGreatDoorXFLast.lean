/- What is proved here: contracts for RecordMakes. Conditions: as named. -/
import Derived.Test.YtbnfjjjdnbcehaaGreatDoorXFRep
import Derived.Lib.SliceRun
set_option maxHeartbeats 16000000
namespace Go.Proofs.YtbnfjjjdnbcehaaGreatDoor.Diff
open Go.RowKit
set_option maxRecDepth 100000
attribute [local go_sem] run_store_float
theorem fl_zero : fl (some 0) = 0 := by decide +kernel
theorem Yw.slice {base : Nat} {w : World} {v : Value} {n : Nat} {f : Nat → Option Nat} (h : Yw base w v n f) (h0 : 0 < n) : ∃ g c, v = .slice (some ⟨g, 0, none⟩) n c ∧ base ≤ g ∧ n ≤ c := by
 rcases h.own.2 with ⟨_, e⟩ | ⟨g, cap, cur, hv, hb, _, hc, _⟩
 ·omega
 ·exact ⟨g, cap, hv, hb, hc⟩
theorem Yw.row {base : Nat} {w : World} {g n c : Nat} {f : Nat → Option Nat} (h : Yw base w (.slice (some ⟨g, 0, none⟩) n c) n f) : RowV w (some ⟨g, 0, none⟩) ((List.range n).map (fun i => flV (f i))) := fun j v hj => by
 have hlt := (List.getElem?_eq_some_iff.1 hj).1
 rw [List.length_map, List.length_range] at hlt
 refine ⟨g, 0, rfl, ?_⟩
 rw [Nat.zero_add, h.cell hlt]
 simpa [hlt] using hj
theorem fls_one (n : Nat) (f : Nat → Option Nat) : ∀ u ∈ (List.range n).map (fun i => flV (f i)), u.oneCell' = true := fun u hu => by
 obtain ⟨z, _, rfl⟩ := List.mem_map.1 hu; rfl
theorem clone_any (base g c n : Nat) (f : Nat → Option Nat) (w : World) (hn : n ≤ 4220) (h : Yw base w (.slice (some ⟨g, 0, none⟩) n c) n f) :
  Calls Tryz.prog 202 #[.slice (some ⟨g, 0, none⟩) n c] w fun e w' => ∃ v, e = .returned v ∧ Yw w.heap.size w' v n f ∧ Fr None' w w' := by
 have HR : Hid (Yw base w (.slice (some ⟨g, 0, none⟩) n c) n f) := h
 have hg : g < w.heap.size := (OwnV.lt h (k := g) rfl).2
 clear h
 have q : ∀ w, (binOp .eql 181 (.slice (some ⟨g, 0, none⟩) n c) (.slice none 0 0)).run Tryz.prog w = .ok (.bool false) w := fun w => Lib.run_eql_slice_nil w _ _ _ n c 0 0 Tryz.underlying181
 go_enter Tryz.func202, Tryz.ntmps202
 go_wp2_with (at_builtin
              refine append_one oneF rfl _ _ rfl rfl (OwnV.empty (base := w.heap.size) (w := w) 171 (Nat.le_refl _)) (m := (List.range n).map (fun i => flV (f i))) rfl (by simp) ((HR.out.row).fr (Fr.alloc None' w _) (Off.no _)) (fun e => by cases e) (fls_one n f) (by simp; omega) (by simp) ?_
              intro v1 w1 own1 f1 _)
 rw [List.nil_append] at own1
 go_ret
 exact ⟨_, rfl, own1, (Fr.alloc None' w _).trans f1 (fun i e => Or.inr (by cases e; exact Nat.le_refl _))⟩
theorem fill_row {base g n : Nat} {w : World} (hb : base ≤ g) (hn : n ≤ 4220) (h : w.heap[g]? = some (.cells (fill0 n n).toArray 171 (0, 0))) : Yw base w (.slice (some ⟨g, 0, none⟩) n n) n (fun _ => none) := by
 refine Yw.of ⟨by simp, Or.inr ⟨g, n, _, rfl, hb, h, Nat.le_refl _, by unfold maxLen; omega, by simp [fill0], ?_⟩⟩
 rw [List.take_of_length_le (by simp [fill0])]
 apply List.ext_getElem?
 intro j
 by_cases hj : j < n
 ·have := fill0_get (n := n) hj
  simpa [hj] using this
 ·simp [fill0, hj]
theorem lastRow_any (vb : Option Addr) (cb m : Nat) (B : List Int) (w : World) (hm : B.length = m) (hbm : m ≤ 4120) :
  Calls Tryz.prog 200 #[.slice vb m cb] w fun e w' => ∃ g, e = .returned (.slice (some ⟨g, 0, none⟩) (m + 1) (m + 1)) ∧ w.heap.size ≤ g ∧ Yw w.heap.size w' (.slice (some ⟨g, 0, none⟩) (m + 1) (m + 1)) (m + 1) (rowK [] B) ∧ Fr None' w w' := by
 have HM : Hid (B.length = m) := hm
 have i1 : (m : Int) ≤ 4120 := by omega
 have cR := repeat_any w.heap.size 1 (m + 1) (w.alloc (.cells #[flV none] 171)) (by omega) (by omega) (by simp)
 rw [show ((m + 1 : Nat) : Int) = (m : Int) + 1 by omega] at cR
 clear hm
 go_enter Tryz.func200, Tryz.ntmps200
 go_wp2_with fail
 refine (inf_any _).mono ?_
 rintro e w' ⟨rfl, rfl⟩
 unfold flV at cR
 unfold flV
 go_wp2_with fail
 refine cR.mono ?_
 rintro e w2 ⟨rfl, hg, hB⟩
 have hR := fill_row (base := w.heap.size) (by simp) (by omega) hg
 have F2 : Fr None' w w2 := (Fr.alloc None' w _).then (Grew.of hB)
 have hsz : (w.alloc (.cells #[.float .f64 (fl none)] 171)).heap.size = w.heap.size + 1 := by simp
 rw [hsz] at hR
 have hle : w.heap.size ≤ w.heap.size + 1 := by omega
 have F3 : Fr None' w (w2.setCell ⟨w.heap.size + 1, m, none⟩ (.float .f64 0)) := F2.trans (Fr.setCell (M := fun k => k = w.heap.size + 1) w2 (a := ⟨w.heap.size + 1, m, none⟩) rfl _) (fun i e => Or.inr (by omega))
 have f0 := hR.frozen m
 have c0 := hR.cell (j := m) (by omega)
 have hS := hR.set m (some 0)
 rw [flV, fl_zero] at hS
 have HS : Hid (Yw w.heap.size (w2.setCell ⟨w.heap.size + 1, m, none⟩ (.float .f64 0)) (.slice (some ⟨w.heap.size + 1, 0, none⟩) (m + 1) (m + 1)) (m + 1) (rowK [] B)) := hS.congr (fun i hi => by
  by_cases e : i = m
  ·rw [if_pos e, rowK, List.drop_of_length_le (by rw [HM.out]; omega), kept_nn]
  ·have hk : i < B.length := by rw [HM.out]; omega
   rw [if_neg e, rowK, drop_get hk, kept_nc])
 clear hS hR hg hB cR
 go_wp2_with fail
 go_ret
 exact ⟨_, rfl, by omega, HS.out, F3⟩
end Go.Proofs.YtbnfjjjdnbcehaaGreatDoor.Diff
