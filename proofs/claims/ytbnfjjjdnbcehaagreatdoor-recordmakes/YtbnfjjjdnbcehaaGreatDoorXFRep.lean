/- What is proved here: contracts for RecordMakes. Conditions: as named. -/
import Derived.Test.YtbnfjjjdnbcehaaGreatDoorX5FEx
import Derived.Laws.CopyOwn
import Derived.Laws.Bits64b
import Derived.Deep.OwnRows
set_option maxHeartbeats 16000000
namespace Go.Proofs.YtbnfjjjdnbcehaaGreatDoor.Diff
open Go.RowKit
set_option maxRecDepth 100000
attribute [local go_sem] run_store_float
theorem mask_small (a : Nat) (ha : a < 4294967296) : bits .and .u64 (a : Int) 4294967295 = (a : Int) := by
 have h := bits_and_u64_nat a 4294967295 (by omega) (by omega)
 have e : a &&& 4294967295 = a % 4294967296 := Nat.and_two_pow_sub_one_eq_mod a 32
 rw [e, Nat.mod_eq_of_lt ha] at h
 exact h
theorem mul64_one (n : Nat) (hn : n ≤ 4220) (w : World) : Calls Tryz.prog 233 #[.int .u64 1, .int .u64 n] w fun e w' => e = .returned (.tuple #[.int .u64 0, .int .u64 n]) ∧ w = w' := by
 have i1 : (n : Int) ≤ 4220 := by omega
 have i0 : (0 : Int) ≤ n := by omega
 have m1 : bits .and .u64 1 4294967295 = 1 := by decide
 have m0 : bits .and .u64 0 4294967295 = 0 := by decide
 have m2 := mask_small n (by omega)
 have d1 : (n : Int) / 4294967296 = 0 := by omega
 go_enter Tryz.func233, Tryz.ntmps233
 go_wp2_with fail
 go_ret2
 exact ⟨rfl, rfl⟩
theorem mul_one (n : Nat) (hn : n ≤ 4220) (w : World) : Calls Tryz.prog 230 #[.int .u64 1, .int .u64 n] w fun e w' => e = .returned (.tuple #[.int .u64 0, .int .u64 n]) ∧ w = w' := by
 go_enter Tryz.func230, Tryz.ntmps230
 go_wp2_with (go_at_call 233; refine (mul64_one n hn _).mono ?_; rintro e w' ⟨rfl, rfl⟩)
 go_ret2
 exact ⟨rfl, rfl⟩
def fill0 (k n : Nat) : List Value := List.replicate k (flV none) ++ List.replicate (n - k) (.float .f64 0)
theorem fill0_length {k n : Nat} (h : k ≤ n) : (fill0 k n).length = n := by simp [fill0]; omega
theorem fill0_get {k n j : Nat} (hj : j < k) : (fill0 k n)[j]? = some (flV none) := by
 unfold fill0
 rw [List.getElem?_append_left (by simpa using hj)]
 simp [hj]
theorem fill0_splice {k n m : Nat} (h : k + m ≤ n) : splice (fill0 k n) k (List.replicate m (flV none)) = fill0 (k + m) n := by
 unfold splice fill0
 rw [List.take_append_of_le_length (by simp), List.take_of_length_le (by simp), List.length_replicate, List.drop_append, List.drop_of_length_le (by simp), List.nil_append, List.length_replicate, List.drop_replicate, ← List.append_assoc, List.replicate_append_replicate]
 congr 2
 omega
theorem copy_run {w : World} {gd n k m gs os sl sc dl dc : Nat} (hg : w.heap[gd]? = some (.cells (fill0 k n).toArray 171 (0, 0))) (hkm : k + m ≤ n) (hsrc : ∀ j, j < m → w.cell? ⟨gs, os + j, none⟩ = some (flV none)) (hmin : Nat.min sl dl = m) :
  ∃ w', (Builtin.copy_ #[181, 181] 3 #[.slice (some ⟨gd, k, none⟩) dl dc, .slice (some ⟨gs, os, none⟩) sl sc]).run Tryz.prog w = .ok (.int .i64 m) w' ∧ w'.heap[gd]? = some (.cells (fill0 (k + m) n).toArray 171 (0, 0)) ∧ ∀ B, B ≤ gd → Below B w w' := by
 have hr := run_copy_row (P := Tryz.prog) w 181 181 3 171 gd k dl dc ⟨gs, os, none⟩ sl sc (fill0 k n).toArray 171 (List.replicate m (flV none)) Tryz.underlying181 (by kernel_rfl) hg (by rw [List.length_replicate, hmin]) (fun j v hj => by
  have hlt := (List.getElem?_eq_some_iff.1 hj).1
  rw [List.length_replicate] at hlt
  have hv : v = flV none := by simpa [hlt] using hj.symm
  have hadd : (⟨gs, os, none⟩ : Addr).add j = ⟨gs, os + j, none⟩ := by unfold Addr.add; split <;> simp_all
  rw [hadd, hv]
  exact hsrc j hlt) (by rw [List.length_replicate]; simp only [List.size_toArray]; rw [fill0_length (by omega)]; exact hkm) (fun v hv => by rw [List.eq_of_mem_replicate hv]; rfl)
 rw [List.length_replicate] at hr
 refine ⟨_, hr, ?_, fun B hB => below_setRow (Below.refl B w) hB _⟩
 rw [setRow_heap w gd _ _ _ _ hg]
 congr 3
 have := fill0_splice (k := k) (n := n) (m := m) hkm
 rw [splice, List.length_replicate] at this
 rw [← this, List.append_assoc]
theorem repeat_any (g c n : Nat) (w : World) (hn : n ≤ 4220) (h0 : 1 ≤ n) (hc : w.cell? ⟨g, 0, none⟩ = some (flV none)) :
  Calls Tryz.prog 222 #[.slice (some ⟨g, 0, none⟩) 1 c, .int .i64 n] w fun e w' => e = .returned (.slice (some ⟨w.heap.size, 0, none⟩) n n) ∧ w'.heap[w.heap.size]? = some (.cells (fill0 n n).toArray 171 (0, 0)) ∧ Below w.heap.size w w' := by
 have i1 : (n : Int) ≤ 4220 := by omega
 have i0 : (1 : Int) ≤ n := by omega
 have hmk : ∀ w : World, (Instr.makeSlice 181 (.int .i64 (n : Int)) (.int .i64 (n : Int))).run Tryz.prog w = .ok (.slice (some ⟨w.heap.size, 0, none⟩) n n) (w.alloc (.cells (madeCells #[.float .f64 0] n) 171)) := fun w => run_make_row' 181 171 (.float .f64 0) 8 Tryz.underlying181 (by kernel_rfl) rfl .i64 .i64 n (by omega) (by omega) w
 have hnew : (w.alloc (.cells (madeCells #[.float .f64 0] n) 171)).heap[w.heap.size]? = some (.cells (fill0 0 n).toArray 171 (0, 0)) := by
  rw [heap_alloc_new]
  congr 3
  apply Array.toList_inj.1
  rw [toList_madeCells_one]
  simp [fill0]
 have HB0 : Hid (Below w.heap.size w (w.alloc (.cells (madeCells #[.float .f64 0] n) 171))) := (Below.refl _ w).alloc (Nat.le_refl _) _
 have hc' : (w.alloc (.cells (madeCells #[.float .f64 0] n) 171)).cell? ⟨g, 0, none⟩ = some (flV none) := (Fr.alloc None' w _).cell hc (fun e => e)
 generalize hW : w.alloc (.cells (madeCells #[.float .f64 0] n) 171) = W at *
 obtain ⟨w2, hr2, hg2, hb2⟩ := copy_run (w := W) (gd := w.heap.size) (n := n) (k := 0) (m := 1) (gs := g) (os := 0) (sl := 1) (sc := c) (dl := n) (dc := n) hnew h0 (fun j hj => by
  obtain rfl : j = 0 := by omega
  exact hc') (Nat.min_eq_left h0)
 have HG : Hid (w2.heap[w.heap.size]? = some (.cells (fill0 1 n).toArray 171 (0, 0))) := hg2
 have HB : Hid (Below w.heap.size w w2) := HB0.out.trans (hb2 _ (Nat.le_refl _))
 clear hg2 hb2 HB0 hnew hc hc'
 go_enter Tryz.func222, Tryz.ntmps222
 go_wp2_with (go_at_call 230; refine (mul_one n hn _).mono ?_; rintro e w' ⟨rfl, rfl⟩)
 go_loopw [8] (fun v wr => ∃ k : Nat, 1 ≤ k ∧ k ≤ n ∧ v = .int .i64 k ∧ Hid (wr.heap[w.heap.size]? = some (.cells (fill0 k n).toArray 171 (0, 0))) ∧ Hid (Below w.heap.size w wr)) (fun v _ => n - (intOf v).toNat)
 case atStart => exact ⟨1, Nat.le_refl _, h0, rfl, HG.out, HB.out⟩
 case round =>
  clear hmk hr2 HG HB hW
  obtain ⟨k, hk1, hk, rfl, HG, HB⟩ := hrel
  by_cases hlt : k < n
  ·obtain ⟨w3, hr3, hg3, hb3⟩ := copy_run (w := wr.drew) (gd := w.heap.size) (n := n) (k := k) (m := min k (n - k)) (gs := w.heap.size) (os := 0) (sl := k) (sc := n) (dl := n - k) (dc := n - k) HG.out (by omega) (fun j hj => by
    have hh : wr.drew.heap[w.heap.size]? = some (.cells (fill0 k n).toArray 171 (0, 0)) := HG.out
    rw [Nat.zero_add, cell_of_row _ _ _ _ _ _ hh]
    simp only [List.getElem?_toArray]
    exact fill0_get (by omega)) rfl
   have HG3 : Hid (w3.heap[w.heap.size]? = some (.cells (fill0 (k + min k (n - k)) n).toArray 171 (0, 0))) := hg3
   have HB3 : Hid (Below w.heap.size w w3) := (HB.out.drew).trans (hb3 _ (Nat.le_refl _))
   have i3 : (0 : Int) ≤ (k : Int) := by omega
   have i4 : (k : Int) < (n : Int) := by omega
   have i5 : ((min k (n - k) : Nat) : Int) ≤ 4220 := by omega
   have HM : Hid (1 ≤ min k (n - k) ∧ k + min k (n - k) ≤ n) := by constructor <;> omega
   clear hg3 hb3 HG HB
   generalize min k (n - k) = m at *
   go_wp2_with fail
   go_region
   all_goals go_wp2_with fail
   all_goals
    have hM := HM.out
    exact ⟨⟨k + m, by omega, by omega, by go_num, HG3.out, HB3.out⟩, by simp [intOf]; omega⟩
  ·obtain rfl : k = n := by omega
   go_wp2_with fail
   go_ret
   exact ⟨rfl, HG.out, HB.out⟩
end Go.Proofs.YtbnfjjjdnbcehaaGreatDoor.Diff
