/- What is proved here: contracts that SeqTells stands on. Conditions: as each theorem names them. -/
import Derived.Test.YtbnfjjjdnbcehaaGreatDoorM24Rules10
import Derived.Test.YtbnfjjjdnbcehaaGreatDoorMRule8
set_option maxHeartbeats 16000000
namespace Go.Proofs.YtbnfjjjdnbcehaaGreatDoor
open Go.RowKit
set_option maxRecDepth 100000
attribute [local go_sem] run_store_func9 run_store_nil9
def tab33 (b1 b2 b3 b4 b5 b6 : Nat) : Array Value := #[.func (.func 188) #[] #[.pointer (some ⟨b1, 0, none⟩)], .func (.func 188) #[] #[.pointer (some ⟨b2, 0, none⟩)], .func (.func 188) #[] #[.pointer (some ⟨b3, 0, none⟩)], .func (.func 188) #[] #[.pointer (some ⟨b4, 0, none⟩)], .func (.func 152) #[] #[], .func (.func 153) #[] #[], .func (.func 188) #[] #[.pointer (some ⟨b5, 0, none⟩)], .func (.func 154) #[] #[], .func (.func 188) #[] #[.pointer (some ⟨b6, 0, none⟩)]]
theorem info33 : (Tryz.prog.info? 133).map (·.size) = some 9 := by kernel_rfl
def Tabs (w : World) (b1 b2 b3 b4 b5 b6 : Nat) : Prop := (w.cell? ⟨b1, 0, none⟩ = some (.func (.func 150) #[] #[]) ∧ w.cell? ⟨b2, 0, none⟩ = some (.func (.func 151) #[] #[]) ∧ w.cell? ⟨b3, 0, none⟩ = some (.func (.func 150) #[] #[])) ∧ w.cell? ⟨b4, 0, none⟩ = some (.func (.func 151) #[] #[]) ∧ w.cell? ⟨b5, 0, none⟩ = some (.func (.func 150) #[] #[]) ∧ w.cell? ⟨b6, 0, none⟩ = some (.func (.func 150) #[] #[])
theorem asThey_f (f : FuncId) (w0 w : World) (h : Fr None' w0 w) : Calls Tryz.prog 149 #[.func (.func f) #[] #[]] w fun e w' => ∃ b, e = .returned (.func (.func 188) #[] #[.pointer (some ⟨b, 0, none⟩)]) ∧ Hid (w'.cell? ⟨b, 0, none⟩ = some (.func (.func f) #[] #[]) ∧ w0.heap.size ≤ b) ∧ Hid (Fr None' w w') :=
 (asThey_any f w).mono fun _ _ ⟨h1, h2, h3⟩ => ⟨_, h1, ⟨h2, h.size⟩, h3⟩
theorem Y2 (w : World) : Calls Tryz.prog 116 #[] w fun e w' => ∃ b1 b2 b3 b4 b5 b6, e = .returned (.agg (tab33 b1 b2 b3 b4 b5 b6)) ∧ Tabs w' b1 b2 b3 b4 b5 b6 ∧ Fr None' w w' := by
 obtain ⟨w0, hw0⟩ : ∃ w0, w.alloc (.cells #[.nilFunc, .nilFunc, .nilFunc, .nilFunc, .nilFunc, .nilFunc, .nilFunc, .nilFunc, .nilFunc] 133) = w0 := ⟨_, rfl⟩
 have HB0 := Zz (show w0.heap[w.heap.size]? = some (.cells #[.nilFunc, .nilFunc, .nilFunc, .nilFunc, .nilFunc, .nilFunc, .nilFunc, .nilFunc, .nilFunc] 133 (0, 0)) from by rw [← hw0]; exact heap_alloc_new w _)
 have HF0 : Hid (Fr None' w w0) := hw0 ▸ Fr.alloc None' w _
 have HN0 : Hid (w0.heap.size = w.heap.size + 1) := by show _ = _; rw [← hw0]; simp
 have q1 := asThey_f 150 w0 w0 (Fr.refl _ _)
 go_enter Tryz.func116, Tryz.ntmps116
 go_wp2_with fail
 with_reducible refine q1.mono ?_
 rintro e w1 ⟨b1, rfl, C1, G1⟩
 have f1 : Hid (Fr None' w0 w1) := G1
 have q2 := asThey_f 151 w0 w1 f1.out
 clear q1
 go_wp2_with fail
 with_reducible refine q2.mono ?_
 rintro e w2 ⟨b2, rfl, C2, G2⟩
 have f2 : Hid (Fr None' w0 w2) := f1.out.then7 G2.out
 have q3 := asThey_f 150 w0 w2 f2.out
 clear q2
 go_wp2_with fail
 with_reducible refine q3.mono ?_
 rintro e w3 ⟨b3, rfl, C3, G3⟩
 have f3 : Hid (Fr None' w0 w3) := f2.out.then7 G3.out
 have q4 := asThey_f 151 w0 w3 f3.out
 clear q3
 go_wp2_with fail
 with_reducible refine q4.mono ?_
 rintro e w4 ⟨b4, rfl, C4, G4⟩
 have f4 : Hid (Fr None' w0 w4) := f3.out.then7 G4.out
 have q5 := asThey_f 150 w0 w4 f4.out
 clear q4
 go_wp2_with fail
 with_reducible refine q5.mono ?_
 rintro e w5 ⟨b5, rfl, C5, G5⟩
 have f5 : Hid (Fr None' w0 w5) := f4.out.then7 G5.out
 have q6 := asThey_f 150 w0 w5 f5.out
 clear q5
 go_wp2_with fail
 with_reducible refine q6.mono ?_
 rintro e w6 ⟨b6, rfl, C6, G6⟩
 have f6 : Hid (Fr None' w0 w6) := f5.out.then7 G6.out
 clear q6
 go_wp2_with (refine wpList_store_row rfl _ _ _ rfl w.heap.size _ rfl rfl 133 _ (f6.out.at HB0.out (fun e => e)) info33 (by simp) (by simp [Value.oneCell']) ?_)
 have hset := setRow_at (c' := tab33 b1 b2 b3 b4 b5 b6) (f6.out.at HB0.out (fun e => e))
 have hfr : Fr (fun i => i = w.heap.size) w6 (w6.setRow w.heap.size (tab33 b1 b2 b3 b4 b5 b6)) := Fr.setRow (M := fun i => i = w.heap.size) _ rfl _
 have g56 := G6.out
 have g46 := G5.out.then7 g56
 have g36 := G4.out.then7 g46
 have g26 := G3.out.then7 g36
 have g16 := G2.out.then7 g26
 have hn := HN0.out
 refine bodyPost_ret (results_cell_row rfl _ _ w.heap.size 133 _ (0, 0) _ rfl hset Tryz.underlying133 rfl info33) rfl ⟨b1, b2, b3, b4, b5, b6, rfl, ⟨⟨?_, ?_, ?_⟩, ?_, ?_, ?_⟩, (HF0.out.then7 f6.out).trans hfr (fun i e => Or.inr (by omega))⟩
 ·exact hfr.keepCell (g16.keepCell C1.out.1 (fun e => e)) (by have := C1.out.2; show ¬ b1 = _; omega)
 ·exact hfr.keepCell (g26.keepCell C2.out.1 (fun e => e)) (by have := C2.out.2; show ¬ b2 = _; omega)
 ·exact hfr.keepCell (g36.keepCell C3.out.1 (fun e => e)) (by have := C3.out.2; show ¬ b3 = _; omega)
 ·exact hfr.keepCell (g46.keepCell C4.out.1 (fun e => e)) (by have := C4.out.2; show ¬ b4 = _; omega)
 ·exact hfr.keepCell (g56.keepCell C5.out.1 (fun e => e)) (by have := C5.out.2; show ¬ b5 = _; omega)
 ·exact hfr.keepCell C6.out.1 (by have := C6.out.2; show ¬ b6 = _; omega)
end Go.Proofs.YtbnfjjjdnbcehaaGreatDoor
