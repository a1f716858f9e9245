/-
  What is proved here: which texts are labels, as the document tells it; the document's bytes of numbers, texts and lists of texts. Conditions: they are of bounded size; the table of powers of ten lies in memory.
-/
import Derived.Test.YtofpkpomhdhkgaaGreatDoorM13Wri13
import Derived.Test.YtofpkpomhdhkgaaGreatDoorMPRPart
import Derived.Laws.Concat
namespace Go.Proofs.YtofpkpomhdhkgaaGreatDoor
open Go.RowKit Go.Shelf
set_option maxRecDepth 100000

set_option maxHeartbeats 2000000 in
theorem dlabel_any (s : ByteArray) (w : World) (hs : s.size ≤ 1000000000) : Calls Tryz.prog 18 #[.string s] w fun e w' => e = .returned (.bool (labelB (unB s))) ∧ w' = w := by
  have hR := toHid8 (show labelB (unB s) = (decide (0 < s.size) && decide (s.size ≤ 24) && s.data.toList.all letB) by unfold labelB; rw [un_len]; rfl)
  have i0 : (s.size : Int) ≤ 1000000000 := by omega
  go_enter Tryz.func18, Tryz.ntmps18
  go_wp2_with fail
  go_loop [3] (fun i => ∃ k : Nat, k ≤ s.size ∧ i = .int .i64 k ∧ Hid ((s.data.toList.take k).all letB = true)) (fun i => s.size - (intOf i).toNat)
  case atStart => exact ⟨0, Nat.zero_le _, rfl, rfl⟩
  case round =>
    obtain ⟨k, hk, rfl, HA⟩ := hrel
    by_cases hlt : k < s.size
    · obtain ⟨v, hv⟩ : ∃ v : Nat, (s[k]).toNat = v := ⟨_, rfl⟩
      have hg : Hid (letB s[k] = (decide (v = 46) || decide (v = 45) || (decide (97 ≤ v) && decide (v ≤ 122)) || (decide (48 ≤ v) && decide (v ≤ 57)))) := by
        unfold Hid letB
        have e : ∀ n : UInt8, (s[k] == n) = decide (v = n.toNat) := fun n => by
          rw [← hv]
          by_cases h : s[k] = n
          · rw [h]; simp
          · have h2 : ¬ s[k].toNat = n.toNat := fun e => h (UInt8.toNat_inj.1 e)
            rw [beq_eq_false_iff_ne.2 h, decide_eq_false h2]
        rw [e, e, ← hv]
        rfl
      go_wp2_with fail
      all_goals (try simp only [bne_eq_false_iff_eq, bne_iff_ne, ne_eq] at *)
      all_goals first
        | (go_ret
           refine ⟨?_, rfl⟩
           have hc : letB s[k] = false := by rw [hg.out]; simp; omega
           rw [hR.out, Path.all_no hlt hc, Bool.and_false]; rfl)
        | exact ⟨⟨k + 1, by omega, by go_num, Path.all_step hlt HA.out (by rw [hg.out]; simp; omega)⟩, by simp [intOf]; omega⟩
        | (exfalso; omega)
    · have hR2 := toHid8 (show labelB (unB s) = (decide (0 < s.size) && decide (s.size ≤ 24)) by
        have ht := HA.out
        rw [List.take_of_length_le (by rw [Path.len_eq]; omega)] at ht
        rw [hR.out, ht, Bool.and_true])
      by_cases h1 : 1 ≤ s.size
      · have i1 : (1 : Int) ≤ (s.size : Int) := by omega
        have i1' : ¬ ((s.size : Int) < 1) := by omega
        by_cases h2 : s.size ≤ 24
        · have i2 : (s.size : Int) ≤ 24 := by omega
          go_wp2_with fail
          go_ret
          exact ⟨by rw [hR2.out, decide_eq_true (by omega), decide_eq_true h2]; rfl, rfl⟩
        · have i2 : ¬ (s.size : Int) ≤ 24 := by omega
          have i2' : (24 : Int) < (s.size : Int) := by omega
          go_wp2_with fail
          go_ret
          exact ⟨by rw [hR2.out, decide_eq_false h2, Bool.and_false]; rfl, rfl⟩
      · have i1 : ¬ (1 : Int) ≤ (s.size : Int) := by omega
        have i1' : (s.size : Int) < 1 := by omega
        go_wp2_with fail
        go_ret
        exact ⟨by rw [hR2.out, decide_eq_false (by omega)]; rfl, rfl⟩

theorem mkB_app (a b : B13) : mkB (a ++ b) = mkB a ++ mkB b := (ByteArray.mk_append_mk a b).symm

theorem mkB_len (a : B13) : (mkB a).size = a.length := by show (List.toArray a).size = a.length; simp

theorem dnum_any (n B : Nat) (hn : n ≤ top13) (w : World) (h : T13 B w) : Calls Tryz.prog 26 #[.int .i64 n] w fun e w' => e = .returned (.string (mkB (num13 n))) ∧ Fr None' w w' := by
  have q1 := itoa_13 n B hn w h
  have hl := num13_len hn
  have e1 : mkB (num13 n) = mkB (Lib.decDigits n) ++ ⟨#[58]⟩ := mkB_app _ [58]
  have i1 : (mkB (Lib.decDigits n)).size ≤ 22 := by rw [mkB_len]; unfold num13 at hl; rw [List.length_append] at hl; omega
  change Calls Tryz.prog 42 #[.int .i64 n] w fun e w' => e = .returned (.string (mkB (Lib.decDigits n))) ∧ Fr None' w w' at q1
  rw [e1]
  generalize mkB (Lib.decDigits n) = X at *
  clear e1 hl h hn
  go_enter Tryz.func26, Tryz.ntmps26
  go_wp2_with fail
  with_reducible refine q1.mono ?_
  rintro e w1 ⟨rfl, f1⟩
  have HF := toHid8 f1
  clear q1 f1
  go_wp2_with fail
  go_ret
  exact ⟨rfl, HF.out⟩

theorem dtext_any (s : ByteArray) (B : Nat) (hs : s.size ≤ 1000000000) (w : World) (h : T13 B w) : Calls Tryz.prog 24 #[.string s] w fun e w' => e = .returned (.string (mkB (text13 (unB s)))) ∧ Fr None' w w' := by
  have ht : top13 = 9223372036854775807 := rfl
  have hn : s.size ≤ top13 := by omega
  have q1 := dnum_any s.size B hn w h
  have hl := num13_len hn
  have e1 : mkB (text13 (unB s)) = mkB (num13 s.size) ++ s := by
    unfold text13
    rw [mkB_app, mk_un, un_len]
  have i1 : (mkB (num13 s.size)).size ≤ 22 := by rw [mkB_len]; exact hl
  rw [e1]
  generalize mkB (num13 s.size) = X at *
  clear e1 hl h hn ht
  go_enter Tryz.func24, Tryz.ntmps24
  go_wp2_with fail
  with_reducible refine q1.mono ?_
  rintro e w1 ⟨rfl, f1⟩
  have HF := toHid8 f1
  clear q1 f1
  go_wp2_with fail
  go_ret
  exact ⟨rfl, HF.out⟩

def textsB (l : List ByteArray) : B13 := ((l.map unB).map text13).flatten

theorem textsB_snoc {l : List ByteArray} {k : Nat} (h : k < l.length) : textsB (l.take (k + 1)) = textsB (l.take k) ++ text13 (unB l[k]) := by
  unfold textsB
  rw [List.take_succ_eq_append_getElem h, List.map_append, List.map_append, List.flatten_append]
  simp

theorem textsB_len (l : List ByteArray) (h : ∀ x ∈ l, x.size ≤ 1000000000) (k : Nat) : (textsB (l.take k)).length ≤ k * 1000000022 := by
  induction k with
  | zero => simp [textsB]
  | succ k ih =>
    by_cases hk : k < l.length
    · rw [textsB_snoc hk, List.length_append]
      have h1 := h _ (List.getElem_mem hk)
      have h2 := num13_len (n := l[k].size) (Nat.le_trans h1 (by decide))
      have h3 : (text13 (unB l[k])).length = (num13 l[k].size).length + l[k].size := by unfold text13; rw [List.length_append, un_len]
      rw [Nat.succ_mul]
      refine Nat.add_le_add ih ?_
      rw [h3]
      exact Nat.le_trans (Nat.add_le_add h2 h1) (by decide)
    · have e1 : l.take (k + 1) = l.take k := by rw [List.take_of_length_le (Nat.le_succ_of_le (Nat.le_of_not_lt hk)), List.take_of_length_le (Nat.le_of_not_lt hk)]
      rw [e1]
      exact Nat.le_trans ih (Nat.mul_le_mul_right _ (Nat.le_succ k))

set_option maxHeartbeats 4000000 in
theorem dlist_any (B : Nat) (v : Value) (l : List ByteArray) (w : World) (h : T13 B w) (hv : StrsAt w v l) (hn : l.length ≤ 1000000) (hs : ∀ x ∈ l, x.size ≤ 1000000000) :
    Calls Tryz.prog 25 #[v] w fun e w' => e = .returned (.string (mkB (list13 text13 (l.map unB)))) ∧ Fr None' w w' := by
  have ht : top13 = 9223372036854775807 := rfl
  have HV := toHid8 hv
  obtain ⟨pa, ca, rfl, -, -, -⟩ := hv
  obtain ⟨n, hna⟩ : ∃ n, l.length = n := ⟨_, rfl⟩
  have HA := toHid8 hna
  have HS := toHid8 hs
  have HT := toHid8 h
  rw [hna] at hn ⊢
  have q1 := dnum_any n B (by omega) w h
  have hl : (mkB (num13 n)).size ≤ 22 := by rw [mkB_len]; exact num13_len (by omega)
  have HE := toHid8 (show mkB (list13 text13 (l.map unB)) = mkB (num13 n) ++ mkB (textsB l) by
    unfold list13 textsB
    rw [mkB_app, List.length_map, hna])
  generalize mkB (num13 n) = X at *
  rw [HE.out]
  clear h hs hna ht HE
  go_enter Tryz.func25, Tryz.ntmps25
  go_wp2_with fail
  with_reducible refine q1.mono ?_
  rintro e w1 ⟨rfl, f1⟩
  have HF := toHid8 f1
  clear q1 f1
  go_wp2_with fail
  go_loopw [3, 4] (fun vo vi wr => ∃ k : Nat, k ≤ n ∧ vi = .int .i64 k ∧ vo = .string (X ++ mkB (textsB (l.take k))) ∧ Hid (Fr None' w wr)) (fun _ vi _ => n - (intOf vi).toNat)
  case atStart => exact ⟨0, Nat.zero_le _, rfl, by
    rw [List.take_zero]
    show _ = Value.string (X ++ ⟨#[]⟩)
    rw [show X ++ (⟨#[]⟩ : ByteArray) = X from ByteArray.ext (by simp [ByteArray.data_append])], HF.out⟩
  case round =>
    obtain ⟨k, hk, rfl, rfl, HFr⟩ := hrel
    by_cases hlt : k < n
    · have hka : k < l.length := by rw [HA.out]; exact hlt
      obtain ⟨pa', ca', e, _, _, hrow⟩ := HV.out.kept HFr.out
      cases e
      obtain ⟨ga, oa, rfl, c1⟩ := hrow.get hka
      have HJ := toHid8 (textsB_snoc hka)
      have z1 := textsB_len l HS.out k
      have z2 := HS.out _ (List.getElem_mem hka)
      obtain ⟨x, hx⟩ : ∃ x, l[k] = x := ⟨_, rfl⟩
      rw [hx] at c1 HJ z2
      have q2 := dtext_any x B z2 wr (HT.out.kept HFr.out)
      have z3 : (mkB (text13 (unB x))).size ≤ 1000000022 := by
        have ht : top13 = 9223372036854775807 := rfl
        have h2 := num13_len (n := x.size) (by omega)
        rw [mkB_len]; unfold text13; rw [List.length_append, un_len]; omega
      rw [← mkB_len] at z1
      obtain ⟨O, hO⟩ : ∃ O, X ++ mkB (textsB (l.take k)) = O := ⟨_, rfl⟩
      have z4 : O.size ≤ 2000000000000000 := by rw [← hO, ByteArray.size_append]; omega
      have HO := toHid8 (show O ++ mkB (text13 (unB x)) = X ++ mkB (textsB (l.take (k + 1))) by rw [HJ.out, mkB_app, ← hO, ByteArray.append_assoc])
      rw [hO]
      generalize mkB (text13 (unB x)) = Y at *
      have i2 : (k : Int) < n := by omega
      have i3 : (0 : Int) ≤ k := by omega
      clear hx hO z1 z2 hrow
      go_wp2_with fail
      with_reducible refine q2.mono ?_
      rintro e w2 ⟨rfl, f2⟩
      have HF2 := toHid8 (HFr.out.then7 f2)
      clear q2 f2
      go_wp2_with fail
      exact ⟨⟨k + 1, by omega, by go_num, by rw [HO.out], HF2.out⟩, by simp [intOf]; omega⟩
    · obtain rfl : k = n := by omega
      rw [List.take_of_length_le (by rw [HA.out]; exact Nat.le_refl _)]
      have i2 : ¬ (k : Int) < (k : Int) := by omega
      go_wp2_with fail
      go_ret
      exact ⟨rfl, HFr.out⟩

end Go.Proofs.YtofpkpomhdhkgaaGreatDoor
