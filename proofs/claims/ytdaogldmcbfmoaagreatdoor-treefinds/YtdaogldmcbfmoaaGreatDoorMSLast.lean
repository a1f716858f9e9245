/-
  What is proved here: what lastBlocks answers. Condition: the bytes lie in memory.
-/
import Derived.Test.YtdaogldmcbfmoaaGreatDoorM5SSmall
import Derived.Laws.CopyOwn
import Derived.Laws.ResultCell
import Derived.Deep.WholeRow
namespace Go.Proofs.YtdaogldmcbfmoaaGreatDoor.Sha
open Go.RowKit
set_option maxRecDepth 100000

theorem copy_arr {P : Program} {w : World} {ops : Array Oper} {rest : List Oper} {o : Oper} {a : Act} {Q : Exit → Act → World → Prop} (hgd : o.guard = none) (d s : Operand) (dT sT : TypeId)
    (ho : o.op = .call { callee := .builtin .copy, args := #[d, s], argTypes := #[dT, sT] }) (elem : TypeId) (hu : P.underlying dT = some (.slice elem)) (hsz : (P.info? elem).map (·.size) = some 1)
    (g dLen dCap : Nat) (sp : Option Addr) (sLen sCap : Nat) (hd : a.eval d = .slice (some ⟨g, 0, none⟩) dLen dCap) (hs : a.eval s = .slice sp sLen sCap)
    {t : TypeId} {n : Nat} {f0 : Nat → Value} (hr : w.rowIs g t n f0) (m : Nat → Value) (hle : sLen ≤ dLen) (hn : sLen ≤ n)
    (hsrc : ∀ i, i < sLen → ∃ b o, sp = some ⟨b, o, none⟩ ∧ w.cell? ⟨b, o + i, none⟩ = some (m i)) (h1 : ∀ i, (m i).oneCell' = true)
    (h : ∀ w', w'.rowIs g t n (fun i => if i < sLen then m i else f0 i) → Fr (fun i => i = g) w w' → wpList P ops Q rest (a.put o.dst (goInt sLen)) w') : wpList P ops Q (o :: rest) a w := by
  have hmin : Nat.min sLen dLen = sLen := Nat.min_eq_left hle
  by_cases h0 : sLen = 0
  · subst h0
    exact wpList_copy_nothing hgd d s dT sT ho elem hu hsz _ _ _ _ _ _ hd hs hmin (h w (hr.congr (fun i _ => by simp)) (Fr.refl _ _))
  · obtain ⟨b, oo, hb, _⟩ := hsrc 0 (by omega)
    have hl : ((List.range sLen).map m).length = sLen := by simp
    refine wpList_copy_own hgd d s dT sT ho elem hu hsz g 0 dLen dCap ⟨b, oo, none⟩ sLen sCap hd (by rw [hs, hb]) _ t (rowIs_block hr) ((List.range sLen).map m) (by rw [hl, hmin]) (fun j v hv => ?_) (by rw [hl, arr_size]; omega) (fun v hv => ?_) ?_
    · have hj : j < sLen := by
        have := (List.getElem?_eq_some_iff.1 hv).1
        simpa using this
      obtain ⟨b', o', e, hc⟩ := hsrc j hj
      rw [hb] at e
      cases e
      have hv' : m j = v := by simpa [hj] using hv
      have hadd : (⟨b, oo, none⟩ : Addr).add j = ⟨b, oo + j, none⟩ := by unfold Addr.add; split <;> simp_all
      rw [hadd, hc, hv']
    · obtain ⟨i, _, rfl⟩ := List.mem_map.1 hv
      exact h1 i
    · rw [hl]
      refine h _ ?_ (Fr.setRow (M := fun i => i = g) _ rfl _)
      refine ⟨_, setRow_at (rowIs_block hr), by simp [arr_size]; omega, fun i hi => ?_⟩
      have ha : (arr n f0).toList[i]? = some (f0 i) := by
        rw [Array.getElem?_toList]; exact arr_get n f0 hi
      simp only [List.getElem?_toArray, List.take_zero, List.nil_append, Nat.zero_add]
      by_cases hlt : i < sLen
      · rw [List.getElem?_append_left (by simpa using hlt), if_pos hlt]
        simp [hlt]
      · rw [List.getElem?_append_right (by simp; omega), if_neg hlt]
        simp only [List.length_map, List.length_range, List.getElem?_drop]
        rw [show sLen + (i - sLen) = i by omega]
        exact ha

theorem zero128 : ∀ w, (zeroValue 150).run Tryz.prog w = .ok (.agg (arr 128 (n8 fun _ => 0))) w :=
  (zero_of_info (P := Tryz.prog) (t := 150) (v := .agg (arr 128 (n8 fun _ => 0))) (n := 128) (by kernel_rfl)).1

theorem info1 : (Tryz.prog.info? 5).map (·.size) = some 1 := by kernel_rfl

theorem wrapU64 (n : Int) : IntKind.u64.wrap n = n % 18446744073709551616 := by simp [IntKind.wrap, IntKind.bits, IntKind.signed]

theorem put4_one {o : Nat} {x : Int} {f : Nat → Value} (hf : ∀ i, (f i).oneCell' = true) (i : Nat) : (put4 o x f i).oneCell' = true := by
  unfold put4; split
  · rfl
  · exact hf i

theorem lastF_one (n : Nat) (m : Nat → Int) (L : Int) (i : Nat) : (lastF n m L i).oneCell' = true :=
  put4_one (put4_one (fun i => by split <;> (try split) <;> rfl)) i

set_option maxHeartbeats 4000000 in
theorem last_any (va : Option Addr) (n cap : Nat) (m : Nat → Int) (L : Int) (w : World) (hn : n < 64) (_hcap : n ≤ cap)
  (hc : ∀ i : Nat, i < n → ∃ b o, va = some ⟨b, o, none⟩ ∧ w.cell? ⟨b, o + i, none⟩ = some (.int .u8 (m i))) :
   Calls Tryz.prog 109 #[.slice va n cap, .int .u64 L] w fun e w' => e = .returned (.tuple #[.agg (arr 128 (lastF n m L)), .int .i64 (lastSize n)]) ∧ Fr None' w w' := by
  have n0 : (n : Int) < 64 := by omega
  have hz := zero128
  have r0 : ((w.alloc (Obj.cells (arr 128 (n8 fun _ => 0)) 150)).alloc (Obj.cells (arr 128 (n8 fun _ => 0)) 150)).rowIs w.heap.size 150 128 (n8 fun _ => 0) := rowIs_of (heap_alloc2_old w _ _)
  have r1 : ((w.alloc (Obj.cells (arr 128 (n8 fun _ => 0)) 150)).alloc (Obj.cells (arr 128 (n8 fun _ => 0)) 150)).rowIs (w.heap.size + 1) 150 128 (n8 fun _ => 0) := rowIs_of (heap_alloc2_new w _ _)
  have f1 : Fr None' w ((w.alloc (Obj.cells (arr 128 (n8 fun _ => 0)) 150)).alloc (Obj.cells (arr 128 (n8 fun _ => 0)) 150)) := (Fr.alloc _ w _).then (Fr.alloc _ _ _)
  have hc' : ∀ i : Nat, i < n → ∃ b o, va = some ⟨b, o, none⟩ ∧ ((w.alloc (Obj.cells (arr 128 (n8 fun _ => 0)) 150)).alloc (Obj.cells (arr 128 (n8 fun _ => 0)) 150)).cell? ⟨b, o + i, none⟩ = some (n8 m i) := fun i hi => by
    obtain ⟨b, o, e, h⟩ := hc i hi
    exact ⟨b, o, e, f1.cell h id⟩
  clear hc
  have hone : ∀ i, i < 128 → (lastF n m L i).oneCell' = true := fun i _ => lastF_one n m L i
  by_cases h55 : (n : Int) ≤ 55
  · have hls : lastSize n = 64 := by unfold lastSize; rw [if_pos (by omega)]
    rw [hls]
    go_enter Tryz.func109, Tryz.ntmps109
    go_wp2_with (first
      | (refine copy_arr rfl _ _ 57 57 rfl 5 Tryz.underlying57 info1 (w.heap.size + 1) 128 128 va n cap rfl rfl r1 (n8 m) (by omega) (by omega) hc' (fun _ => rfl) ?_
         intro w3 r3 f3
         have z3 := r3.cell (i := n) (by omega)
         have y3 := r3.frozen n))
    have r4 := r3.set n (.int .u8 128)
    have f4 := f3.then (Fr.setCell (M := fun i => i = w.heap.size + 1) w3 (a := ⟨w.heap.size + 1, n, none⟩) rfl (.int .u8 128))
    generalize w3.setCell ⟨w.heap.size + 1, n, none⟩ (.int .u8 128) = w4 at r4 f4
    refine (putWord_any (w.heap.size + 1) 56 72 72 _ w4 (by omega) _ _ _ r4 (by omega)).mono ?_
    rintro e w5 ⟨rfl, r5, f5⟩
    clear hc' z3 y3 r3 r4 f3
    go_wp2_with fail
    refine (putWord_any (w.heap.size + 1) 60 68 68 _ w5 (by omega) _ _ _ r5 (by omega)).mono ?_
    rintro e w6 ⟨rfl, r6, f6⟩
    have f46 := (f4.then f5).then f6
    have q0 := f46.rowIs r0 (by omega)
    clear r0 r1 f4 f5 f6 r5
    have r7 : w6.rowIs (w.heap.size + 1) 150 128 (lastF n m L) := r6.congr (fun i _ => by
      unfold lastF
      rw [hls, wrapU64]
      rfl)
    clear r6
    go_wp2_with (first
      | refine load_arr Tryz.underlying150 info128 (w.heap.size + 1) r7 _ rfl rfl rfl ?_
      | refine store_arr info128 w.heap.size q0 hone _ _ rfl rfl rfl rfl rfl ?_)
    have q7 := rowIs_setRow (g' := lastF n m L) q0
    have f7 : Fr None' w (w6.setRow w.heap.size (arr 128 (lastF n m L))) := (f1.trans f46 (fun i e => Or.inr (by omega))).trans (Fr.setRow (M := fun i => i = w.heap.size) _ rfl _) (fun i e => Or.inr (by omega))
    generalize w6.setRow w.heap.size (arr 128 (lastF n m L)) = w7 at q7 f7
    have hld := run_loadVar_row (P := Tryz.prog) w7 w.heap.size 150 150 _ (0, 0) _ (rowIs_block q7) Tryz.underlying150 rfl (by rw [arr_size]; exact info128)
    refine bodyPost_ret (v := .tuple #[.agg (arr 128 (lastF n m L)), .int .i64 64]) (by rw [results_cell_tmp rfl]; simp [asAddr, Result.andThen, hld]) rfl ⟨rfl, f7⟩
  · have hls : lastSize n = 128 := by unfold lastSize; rw [if_neg (by omega)]
    have h55' : (55 : Int) < n := by omega
    rw [hls]
    go_enter Tryz.func109, Tryz.ntmps109
    go_wp2_with (first
      | (refine copy_arr rfl _ _ 57 57 rfl 5 Tryz.underlying57 info1 (w.heap.size + 1) 128 128 va n cap rfl rfl r1 (n8 m) (by omega) (by omega) hc' (fun _ => rfl) ?_
         intro w3 r3 f3
         have z3 := r3.cell (i := n) (by omega)
         have y3 := r3.frozen n))
    have r4 := r3.set n (.int .u8 128)
    have f4 := f3.then (Fr.setCell (M := fun i => i = w.heap.size + 1) w3 (a := ⟨w.heap.size + 1, n, none⟩) rfl (.int .u8 128))
    generalize w3.setCell ⟨w.heap.size + 1, n, none⟩ (.int .u8 128) = w4 at r4 f4
    refine (putWord_any (w.heap.size + 1) 120 8 8 _ w4 (by omega) _ _ _ r4 (by omega)).mono ?_
    rintro e w5 ⟨rfl, r5, f5⟩
    clear hc' z3 y3 r3 r4 f3
    go_wp2_with fail
    refine (putWord_any (w.heap.size + 1) 124 4 4 _ w5 (by omega) _ _ _ r5 (by omega)).mono ?_
    rintro e w6 ⟨rfl, r6, f6⟩
    have f46 := (f4.then f5).then f6
    have q0 := f46.rowIs r0 (by omega)
    clear r0 r1 f4 f5 f6 r5
    have r7 : w6.rowIs (w.heap.size + 1) 150 128 (lastF n m L) := r6.congr (fun i _ => by
      unfold lastF
      rw [hls, wrapU64]
      rfl)
    clear r6
    go_wp2_with (first
      | refine load_arr Tryz.underlying150 info128 (w.heap.size + 1) r7 _ rfl rfl rfl ?_
      | refine store_arr info128 w.heap.size q0 hone _ _ rfl rfl rfl rfl rfl ?_)
    have q7 := rowIs_setRow (g' := lastF n m L) q0
    have f7 : Fr None' w (w6.setRow w.heap.size (arr 128 (lastF n m L))) := (f1.trans f46 (fun i e => Or.inr (by omega))).trans (Fr.setRow (M := fun i => i = w.heap.size) _ rfl _) (fun i e => Or.inr (by omega))
    generalize w6.setRow w.heap.size (arr 128 (lastF n m L)) = w7 at q7 f7
    have hld := run_loadVar_row (P := Tryz.prog) w7 w.heap.size 150 150 _ (0, 0) _ (rowIs_block q7) Tryz.underlying150 rfl (by rw [arr_size]; exact info128)
    refine bodyPost_ret (v := .tuple #[.agg (arr 128 (lastF n m L)), .int .i64 128]) (by rw [results_cell_tmp rfl]; simp [asAddr, Result.andThen, hld]) rfl ⟨rfl, f7⟩
end Go.Proofs.YtdaogldmcbfmoaaGreatDoor.Sha
