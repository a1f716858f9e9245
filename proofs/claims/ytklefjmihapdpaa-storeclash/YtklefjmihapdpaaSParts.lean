/-
  What is proved here: what starts, roundConstants and putWord answer. Condition: the bytes lie in memory.
-/
import Derived.Test.YtklefjmihapdpaaSMix
namespace Go.Proofs.Ytklefjmihapdpaa.Sha
open Go.RowKit
set_option maxRecDepth 100000

theorem starts_any (w : World) : Calls Try.prog 57 #[] w fun e w' => e = .returned (.agg (arr 8 (n32 iv))) ∧ Fr None' w w' := by
  go_enter Try.func57, Try.ntmps57
  go_wp2_with fail
  refine bodyPost_ret (v := .agg (arr 8 (n32 iv))) (result_arr Try.underlying80 info8 rfl _ rfl (rowIs_of (heap_alloc_new w _))) rfl ⟨rfl, Fr.alloc _ _ _⟩

set_option maxHeartbeats 4000000 in
theorem consts_any (w : World) : Calls Try.prog 58 #[] w fun e w' => e = .returned (.agg (arr 64 (n32 kc))) ∧ Fr None' w w' := by
  go_enter Try.func58, Try.ntmps58
  go_wp2_with (refine store_arr info64 w.heap.size (f0 := n32 fun _ => 0) (f := n32 kc) (rowIs_of (heap_alloc_new w _)) (fun _ _ => rfl) _ _ rfl rfl rfl rfl rfl ?_)
  generalize hw : World.setRow _ _ _ = w'
  obtain ⟨r, f⟩ := new_row (n := 64) rfl hw
  exact bodyPost_ret (v := .agg (arr 64 (n32 kc))) (result_arr Try.underlying78 info64 rfl _ rfl r) rfl ⟨rfl, f⟩

theorem putWord_any (b o len cap : Nat) (x : Int) (w : World) (hl : 4 ≤ len) (t : TypeId) (n : Nat) (f : Nat → Value) (hr : w.rowIs b t n f) (ho : o + 4 ≤ n) :
   Calls Try.prog 61 #[.slice (some ⟨b, o, none⟩) len cap, .int .u32 x] w fun e w' => e = .returned (.tuple #[]) ∧ w'.rowIs b t n (put4 o x f) ∧ Fr (fun i => i = b) w w' := by
  have l0 : (0 : Int) < (len : Int) := by omega
  have l1 : (1 : Int) < (len : Int) := by omega
  have l2 : (2 : Int) < (len : Int) := by omega
  have l3 : (3 : Int) < (len : Int) := by omega
  have l00 : 0 < len := by omega
  have c0 := hr.cell (i := o) (by omega)
  have c1 := hr.cell (i := o + 1) (by omega)
  have c2 := hr.cell (i := o + 2) (by omega)
  have c3 := hr.cell (i := o + 3) (by omega)
  have z0 := hr.frozen o
  have z1 := hr.frozen (o + 1)
  have z2 := hr.frozen (o + 2)
  have z3 := hr.frozen (o + 3)
  generalize f o = y0 at c0
  generalize f (o + 1) = y1 at c1
  generalize f (o + 2) = y2 at c2
  generalize f (o + 3) = y3 at c3
  clear hl
  go_enter Try.func61, Try.ntmps61
  go_wp2
  go_end0
  refine ⟨rfl, ((((hr.set o _).set (o + 1) _).set (o + 2) _).set (o + 3) _).congr (fun i _ => put4_eq o x f i), ?_⟩
  exact (((Fr.setCell (M := fun i => i = b) _ rfl _).then (Fr.setCell (M := fun i => i = b) _ rfl _)).then (Fr.setCell (M := fun i => i = b) _ rfl _)).then (Fr.setCell (M := fun i => i = b) _ rfl _)
end Go.Proofs.Ytklefjmihapdpaa.Sha
