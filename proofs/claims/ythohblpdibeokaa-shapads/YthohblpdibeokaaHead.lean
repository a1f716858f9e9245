/-
  What is proved here: the question that each law asks first is answered true, and turns nothing that was there. No condition.
-/
import Derived.Test.YthohblpdibeokaaNamed
import Derived.Test.YthohblpdibeokaaEval
import Derived.Lib.SlBytesConst
namespace Go.Proofs.Ythohblpdibeokaa
open Go.RowKit
set_option maxRecDepth 100000

theorem conv28 (w : World) (C : Array Value) (n c : Nat) : (convert 22 22 (.slice (some ⟨w.heap.size, 0, none⟩) n c)).run Try.prog (w.alloc (.cells C 5)) = .ok (.slice (some ⟨w.heap.size, 0, none⟩) n c) (w.alloc (.cells C 5 (C.size, C.size + 1))) :=
  Lib.run_convert_bytes_const (P := Try.prog) w 22 5 C n c Try.underlying22 Try.underlying5

theorem byt_abc (w : World) : Byt (w.alloc (.cells #[.int .u8 97, .int .u8 98, .int .u8 99] 5 (3, 4))) (.slice (some ⟨w.heap.size, 0, none⟩) 3 3) 3 abcM := by
  refine ⟨_, _, rfl, by omega, fun i hi => ⟨w.heap.size, 0, rfl, ?_⟩⟩
  have hb := heap_alloc_new w (.cells #[.int .u8 97, .int .u8 98, .int .u8 99] 5 (3, 4))
  have : i = 0 ∨ i = 1 ∨ i = 2 := by omega
  rcases this with rfl | rfl | rfl <;> (unfold World.cell?; simp only [hb]; rfl)

theorem name_abc_any (w : World) : Calls Try.prog 11 #[.slice (some ⟨w.heap.size, 0, none⟩) 3 3] (w.alloc (.cells #[.int .u8 97, .int .u8 98, .int .u8 99] 5 (3, 4))) fun e w' => e = .returned (.string ⟨#[98, 97, 55, 56, 49, 54, 98, 102, 56, 102, 48, 49, 99, 102, 101, 97, 52, 49, 52, 49, 52, 48, 100, 101, 53, 100, 97, 101, 50, 50, 50, 51, 98, 48, 48, 51, 54, 49, 97, 51, 57, 54, 49, 55, 55, 97, 57, 99, 98, 52, 49, 48, 102, 102, 54, 49, 102, 50, 48, 48, 49, 53, 97, 100]⟩) ∧ Fr None' w w' := by
  have h := name_any _ 3 abcM _ (byt_abc w) (by omega)
  rw [name_abc] at h
  exact h.mono fun _ _ ⟨e, f⟩ => ⟨e, (Fr.alloc _ _ _).then f⟩

theorem name_nil_any (c : Nat) (w : World) : Calls Try.prog 11 #[.slice none 0 c] w fun e w' => e = .returned (.string ⟨#[101, 51, 98, 48, 99, 52, 52, 50, 57, 56, 102, 99, 49, 99, 49, 52, 57, 97, 102, 98, 102, 52, 99, 56, 57, 57, 54, 102, 98, 57, 50, 52, 50, 55, 97, 101, 52, 49, 101, 52, 54, 52, 57, 98, 57, 51, 52, 99, 97, 52, 57, 53, 57, 57, 49, 98, 55, 56, 53, 50, 98, 56, 53, 53]⟩) ∧ Fr None' w w' := by
  have h := name_any (.slice none 0 c) 0 (fun _ => 0) w ⟨none, c, rfl, by omega, fun i hi => by omega⟩ (by omega)
  rw [name_nil] at h
  exact h

theorem named_abc : namedB abcS = true := by decide +kernel

set_option maxHeartbeats 4000000 in
theorem head_any (w : World) : Calls Try.prog 8 #[] w fun e w' => e = .returned (.bool true) ∧ Fr None' w w' := by
  have hcv := conv28
  go_enter Try.func8, Try.ntmps8
  go_wp2_with fail
  refine (name_abc_any w).mono ?_
  rintro e w1 ⟨rfl, f1⟩
  clear hcv
  go_wp2_with fail
  have hn := named_any ⟨#[98, 97, 55, 56, 49, 54, 98, 102, 56, 102, 48, 49, 99, 102, 101, 97, 52, 49, 52, 49, 52, 48, 100, 101, 53, 100, 97, 101, 50, 50, 50, 51, 98, 48, 48, 51, 54, 49, 97, 51, 57, 54, 49, 55, 55, 97, 57, 99, 98, 52, 49, 48, 102, 102, 54, 49, 102, 50, 48, 48, 49, 53, 97, 100]⟩ w1 (by decide)
  rw [show namedB (⟨#[98, 97, 55, 56, 49, 54, 98, 102, 56, 102, 48, 49, 99, 102, 101, 97, 52, 49, 52, 49, 52, 48, 100, 101, 53, 100, 97, 101, 50, 50, 50, 51, 98, 48, 48, 51, 54, 49, 97, 51, 57, 54, 49, 55, 55, 97, 57, 99, 98, 52, 49, 48, 102, 102, 54, 49, 102, 50, 48, 48, 49, 53, 97, 100]⟩ : ByteArray).data.toList = true from named_abc] at hn
  refine hn.mono ?_
  rintro e w2 ⟨rfl, rfl⟩
  clear hn
  go_wp2_with fail
  have hn := named_any ⟨#[]⟩ w1 (by decide)
  rw [show namedB (⟨#[]⟩ : ByteArray).data.toList = false from by decide] at hn
  refine hn.mono ?_
  rintro e w2 ⟨rfl, rfl⟩
  clear hn
  go_wp2_with fail
  refine (name_nil_any 0 w1).mono ?_
  rintro e w2 ⟨rfl, f2⟩
  go_wp2
  go_ret
  exact ⟨rfl, f1.then f2⟩
end Go.Proofs.Ythohblpdibeokaa
