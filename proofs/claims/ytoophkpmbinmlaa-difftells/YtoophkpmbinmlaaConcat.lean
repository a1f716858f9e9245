/-
  What is proved here: what slices.Grow makes of nothing, and slices.Concat of rows of texts. Conditions: the rows lie in memory, and are of bounded length.
-/
import Derived.Test.YtoophkpmbinmlaaHunks
import Derived.Test.YtoophkpmbinmlaaBelow
import Derived.Lib.AppendZeros
namespace Go.Proofs.Ytoophkpmbinmlaa
open Go.RowKit
set_option maxRecDepth 100000

theorem infoS : (Try.prog.info? 9).map (fun i => (i.zero, i.size, i.bytes)) = some (some (.string ⟨#[]⟩), 1, 16) := by kernel_rfl

set_option maxHeartbeats 1000000 in
theorem grow_any (n : Nat) (w : World) (hn : n ≤ 1000000) : Calls Try.prog 31 #[.slice none 0 0, .int .i64 n] w fun e w' => ∃ v, e = .returned v ∧ OwnV w.heap.size w' 9 v [] ∧ Fr None' w w' := by
  obtain ⟨i0, hi, hz0, hz1, hz2⟩ := info_parts infoS
  have i1 : (n : Int) ≤ 1000000 := by omega
  have i2 : (0 : Int) ≤ (n : Int) := by omega
  by_cases h0 : n = 0
  · subst h0
    clear i0 hi hz0 hz1 hz2
    go_enter Try.func31, Try.ntmps31
    go_wp2_with fail
    go_ret
    exact ⟨_, rfl, OwnV.nil _ _ _, Fr.refl _ _⟩
  · have hr := Lib.run_append_nil_zeros (P := Try.prog) w 22 3 22 9 i0 (.string ⟨#[]⟩) .i64 .i64 (by kernel_rfl) (by kernel_rfl) hi hz0 n (by omega) (by rw [hz1]; omega) (by omega) (by rw [hz2]; omega)
    obtain ⟨cap, hcap⟩ : ∃ cap, grownCap w n 0 9 = cap := ⟨_, rfl⟩
    have hge : n ≤ cap := by rw [← hcap]; exact grownCap_ge w _ 0 9
    have hle : cap ≤ maxLen := by rw [← hcap]; exact grownCap_le_maxLen w _ 0 9 (by unfold maxLen; omega)
    rw [hcap] at hr
    obtain ⟨Z, hZ⟩ : ∃ Z, Builtin.zeroCells (Value.string ⟨#[]⟩).cells n ++ Builtin.zeroCells (Value.string ⟨#[]⟩).cells (cap - n) = Z := ⟨_, rfl⟩
    have hZs : Z.size = cap := by rw [← hZ]; simp [size_zeroCells, Value.cells]; omega
    rw [hZ] at hr
    have HR : Hid (OwnV w.heap.size (w.drew.alloc (.cells Z 9)) 9 (.slice (some ⟨w.heap.size, 0, none⟩) 0 cap) [] ∧ Fr None' w (w.drew.alloc (.cells Z 9))) := by
      refine ⟨⟨rfl, Or.inr ⟨w.heap.size, cap, Z, rfl, Nat.le_refl _, Array.getElem?_push_size, Nat.zero_le _, hle, by omega, by simp⟩⟩, ?_⟩
      exact (show Fr None' w w.drew from ⟨rfl, rfl, rfl, Nat.le_refl _, fun _ _ _ => rfl⟩).then (Fr.alloc None' _ _)
    have i3 : (0 : Int) < (n : Int) := by omega
    have i4 : (n : Int) ≤ (cap : Int) := by omega
    clear hcap hZ hZs hle i0 hi hz0 hz1 hz2 h0
    go_enter Try.func31, Try.ntmps31
    go_wp2_with (at_builtin; refine Lib.wpList_append_run _ rfl _ _ _ _ rfl _ _ rfl rfl _ _ hr ?_)
    go_ret
    exact ⟨_, rfl, HR.out⟩

def flatK (ps : List (Value × List ByteArray)) (k : Nat) : List ByteArray := ((ps.take k).map (·.2)).flatten

theorem flatK_succ {ps : List (Value × List ByteArray)} {k : Nat} (h : k < ps.length) : flatK ps (k + 1) = flatK ps k ++ ps[k].2 := by
  unfold flatK
  rw [List.take_succ_eq_append_getElem h, List.map_append, List.flatten_append]
  simp

theorem flatK_le {ps : List (Value × List ByteArray)} {m : Nat} (hm : ∀ p ∈ ps, p.2.length ≤ m) : ∀ k, k ≤ ps.length → (flatK ps k).length ≤ k * m := by
  intro k
  induction k with
  | zero => intro _; simp [flatK]
  | succ k ih =>
    intro hk
    rw [flatK_succ hk, List.length_append, Nat.succ_mul]
    have := ih (by omega)
    have := hm ps[k] (List.getElem_mem hk)
    omega

set_option maxHeartbeats 2000000 in
theorem concat_any (g n : Nat) (c : Nat) (ps : List (Value × List ByteArray)) (w : World) (hn : ps.length = n) (hn9 : n ≤ 10) (hc : ∀ k x, ps[k]? = some x → w.cell? ⟨g, k, none⟩ = some x.1 ∧ StrAt w x.1 x.2) (hm : ∀ p ∈ ps, p.2.length ≤ 50000) :
    Calls Try.prog 27 #[.slice (some ⟨g, 0, none⟩) n c] w fun e w' => ∃ v, e = .returned v ∧ OwnV w.heap.size w' 9 v (((ps.map (·.2)).flatten).map .string) ∧ Fr None' w w' := by
  have HN : Hid (ps.length = n) := hn
  have HF : Hid (flatK ps n = (ps.map (·.2)).flatten) := by
    show _ = _
    unfold flatK
    rw [List.take_of_length_le (by omega)]
  have HL : Hid (∀ k, k ≤ n → (flatK ps k).length ≤ 500000) := fun k hk => by
    have := flatK_le hm k (by omega)
    have : k * 50000 ≤ 10 * 50000 := Nat.mul_le_mul_right _ (by omega)
    omega
  have i1 : (n : Int) ≤ 10 := by omega
  clear hn hm
  go_enter Try.func27, Try.ntmps27
  go_wp2_with fail
  go_loopw [3, 11] (fun s i wr => ∃ k : Nat, k ≤ n ∧ i = .int .i64 k ∧ s = .int .i64 (flatK ps k).length ∧ Fr None' w wr) (fun _ i _ => n - (intOf i).toNat)
  case atStart => exact ⟨0, Nat.zero_le _, rfl, rfl, Fr.refl _ _⟩
  case round =>
    obtain ⟨k, hk, rfl, rfl, hF⟩ := hrel
    by_cases hlt : k < n
    · have hkp : k < ps.length := by rw [HN.out]; exact hlt
      obtain ⟨c1, s1⟩ := hc k ps[k] (List.getElem?_eq_getElem hkp)
      obtain ⟨va, cv, hv, _, _, _⟩ := s1
      rw [hv] at c1
      have c2 := hF.cell c1 (fun e => e)
      have e1 := flatK_succ hkp
      obtain ⟨m, hm⟩ : ∃ m, ps[k].2.length = m := ⟨_, rfl⟩
      obtain ⟨t, ht⟩ : ∃ t, (flatK ps k).length = t := ⟨_, rfl⟩
      have l1 := HL.out (k + 1) hlt
      rw [e1, List.length_append, hm, ht] at l1
      rw [hm] at c2
      have HE : Hid ((flatK ps (k + 1)).length = t + m) := by show _ = _; rw [e1, List.length_append, hm, ht]
      rw [ht]
      clear hv c1 e1 hm ht hc
      have i3 : (0 : Int) ≤ (k : Int) := by omega
      have i4 : (k : Int) < (n : Int) := by omega
      have i5 : (t : Int) + (m : Int) ≤ 500000 := by omega
      have i6 : (0 : Int) ≤ (t : Int) + (m : Int) := by omega
      go_wp2_with fail
      exact ⟨⟨k + 1, by omega, by go_num, by rw [HE.out]; go_num, hF⟩, by simp [intOf]; omega⟩
    · have e : k = n := by omega
      subst e
      have l1 := HL.out k (Nat.le_refl _)
      have cG := fun w2 => grow_any (flatK ps k).length w2 (by omega)
      obtain ⟨t, ht⟩ : ∃ t, (flatK ps k).length = t := ⟨_, rfl⟩
      rw [ht] at cG
      rw [ht]
      clear l1 ht
      go_wp2_with (go_at_call 31; refine (cG _).mono ?_; rintro e w2 ⟨v, rfl, o2, f2⟩)
      have F2 := hF.then f2
      have O2 : OwnV w.heap.size w2 9 v [] := own_mono o2 hF.size
      clear o2 f2 hF
      go_loopw [6, 27] (fun v i wr => ∃ q : Nat, q ≤ k ∧ i = .int .i64 q ∧ Hid (OwnV w.heap.size wr 9 v ((flatK ps q).map .string)) ∧ Fr None' w wr) (fun _ i _ => k - (intOf i).toNat)
      case atStart => exact ⟨0, Nat.zero_le _, rfl, O2, F2⟩
      case round =>
        clear O2 F2
        obtain ⟨q, hq, rfl, HO, hF⟩ := hrel
        by_cases hlt2 : q < k
        · have hkp : q < ps.length := by rw [HN.out]; exact hlt2
          obtain ⟨c1, s1⟩ := hc q ps[q] (List.getElem?_eq_getElem hkp)
          have s2 := s1.kept hF
          obtain ⟨va, cv, hv, n1, _, r1⟩ := s2
          rw [hv] at c1
          have c2 := hF.cell c1 (fun e => e)
          have e1 := flatK_succ hkp
          obtain ⟨X, hX⟩ : ∃ X, ps[q].2 = X := ⟨_, rfl⟩
          rw [hX] at c2 r1 e1
          have l1 := HL.out (q + 1) hlt2
          rw [e1, List.length_append] at l1
          obtain ⟨Y, hY⟩ : ∃ Y, flatK ps q = Y := ⟨_, rfl⟩
          rw [hY] at HO e1 l1
          have HE : Hid ((flatK ps (q + 1)) = Y ++ X) := e1
          have HRW : Hid (RowV wr va (X.map .string)) := r1.vals
          have HLL : Hid (Y.length + X.length ≤ 500000) := l1
          clear s1 hv c1 e1 hX hY hc r1 l1
          have i3 : (0 : Int) ≤ (q : Int) := by omega
          have i4 : (q : Int) < (k : Int) := by omega
          obtain ⟨m, hm⟩ : ∃ m, X.length = m := ⟨_, rfl⟩
          rw [hm] at c2
          have HM : Hid ((X.map Value.string).length = m) := by show _ = _; rw [List.length_map, hm]
          clear hm
          have hsz := hF.size
          go_wp2_with (at_builtin
                       refine append_one oneS rfl _ _ rfl rfl HO.out (m := X.map .string) rfl HM.out HRW.out n1 (strs_one X) (by have := HLL.out; simp; omega) hsz ?_
                       intro v1 w1 own1 f1 _)
          rw [← List.map_append, ← HE.out] at own1
          exact ⟨⟨q + 1, by omega, by go_num, own1, (own_fr HO.out hF (Fr.refl None' wr) f1).1⟩, by simp [intOf]; omega⟩
        · have e : q = k := by omega
          subst e
          have HR : Hid (OwnV w.heap.size wr 9 _ (((ps.map (·.2)).flatten).map .string)) := HF.out ▸ HO.out
          obtain ⟨va, cv, hv, _⟩ := HR.out.slice
          subst hv
          clear HO
          go_wp2_with fail
          go_ret
          exact ⟨_, rfl, HR.out, hF⟩

end Go.Proofs.Ytoophkpmbinmlaa
