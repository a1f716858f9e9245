/-
  What is proved here: ShaPads answers true. Condition: its bytes lie in memory.
-/
import Derived.Test.YthohblpdibeokaaTells
import Derived.Deep.RegionHeld3
namespace Go.Proofs.Ythohblpdibeokaa
open Go.RowKit
set_option maxRecDepth 100000

theorem ask_sum (va : Option Addr) (n c : Nat) (m : Nat → Int) (w : World) (h : Byt w (.slice va n c) n m) (_hn : va = none → c = 0) (hb : n ≤ 50000) (w' : World) (f : Fr None' w w') :
   Calls Try.prog 9 #[.slice va n c] w' fun e w'' => e = .returned (.agg (arr 32 (n8 (sumB n m)))) ∧ Fr None' w w'' :=
  (sum_any _ n m w' (h.fr f) (by omega)).mono fun _ _ h => ⟨h.1, f.then h.2⟩

theorem ask_rsum (va : Option Addr) (n c : Nat) (m : Nat → Int) (w : World) (h : Byt w (.slice va n c) n m) (hn : va = none → c = 0) (hb : n ≤ 50000) (w' : World) (f : Fr None' w w') :
   Calls Try.prog 10 #[.slice va n c] w' fun e w'' => e = .returned (.agg (arr 32 (n8 (sumB n m)))) ∧ Fr None' w w'' := by
  have := rsum_any va n c m w' (h.fr f) hn hb
  rw [rsumB_eq n m (by omega)] at this
  exact this.mono fun _ _ h => ⟨h.1, f.then h.2⟩

set_option maxHeartbeats 4000000 in
theorem pads_walk (va : Option Addr) (n c : Nat) (m : Nat → Int) (k : Nat) (z : Int) (w : World) (h : Byt w (.slice va n c) n m) (hn : va = none → c = 0) (hk : k ≤ 255) :
   Calls Try.prog 7 #[.slice va n c, .int .u8 k, .int .u8 z] w fun e w' => e = .returned (.bool true) ∧ Fr None' w w' := by
  go_enter Try.func7, Try.ntmps7
  go_wp2_with fail
  refine (head_any _).mono ?_
  rintro e w1 ⟨rfl, f1⟩
  by_cases hA : n ≤ 20000
  rotate_left
  · have i0 : (20000 : Int) < n := by omega
    clear h hn
    go_wp2
    go_ret
    exact ⟨rfl, f1⟩
  have i0 : (n : Int) ≤ 20000 := by omega
  have k0 : (k : Int) ≤ 255 := by omega
  have own0 := Own.empty (e := 5) (k := .u8) (w0 := w) f1.size
  have lies0 : Lies .u8 (w1.alloc (.cells #[] 5)) va n m := Byt.lies (Byt.fr h (f1.then (Fr.alloc None' w1 _)))
  have HN : Hid _ := hn
  clear h hn
  go_wp2_with (first
    | (at_builtin
       refine append_num Try.underlying22 Try.info8 (by omega) rfl _ _ rfl rfl own0 (f1.then (Fr.alloc None' w1 _)) rfl lies0 HN.out (by simp; omega) ?_
       intro v2 w2 own2 f2 g2
       clear own0 lies0 g2 f1
       rw [List.nil_append] at own2))
  go_loopw [8, 9] (fun v i wr => ∃ j : Nat, j ≤ k ∧ i = .int .i64 j ∧ Own 5 .u8 w wr v ((List.range n).map m ++ List.replicate j z) ∧ Fr None' w wr) (fun _ i _ => k - (intOf i).toNat)
  case atStart => exact ⟨0, by omega, rfl, by simpa using own2, f2⟩
  case round =>
    clear own2 f2
    obtain ⟨j, hj, rfl, hown, fr⟩ := hrel
    by_cases hlt : j < k
    · have i1 : (j : Int) < k := by omega
      go_wp2_with (first
        | (at_builtin
           refine append_num Try.underlying22 Try.info8 (by omega) rfl _ _ rfl rfl (hown.alloc _) (fr.then (Fr.alloc None' wr _)) rfl (one_lies wr .u8 z _) (fun e => by cases e) (by simp; omega) ?_
           intro v3 w3 own3 f3 g3
           clear hown fr g3
           rw [range_one] at own3))
      refine ⟨⟨j + 1, by omega, by go_num, ?_, f3⟩, by simp [intOf]; omega⟩
      rw [List.replicate_succ', ← List.append_assoc]
      exact own3
    · have i1 : (k : Int) ≤ j := by omega
      have hjk : j = k := by omega
      rw [hjk] at hown
      clear hjk hlt hj
      obtain ⟨l, hl⟩ : ∃ l, (List.range n).map m ++ List.replicate k z = l := ⟨_, rfl⟩
      have hlen : l.length = n + k := by rw [← hl]; simp
      rw [hl] at hown
      clear hl
      have HO : Hid (l.length = n + k) := hlen
      rcases hown.2 with ⟨hv, h0⟩ | ⟨g, cb, cur, hv, _, _, hcb, _, _, _⟩
      · subst hv
        have hb : Byt wr (.slice none 0 0) 0 (fun _ => 0) := ⟨_, _, rfl, by omega, fun i hi => by omega⟩
        have n00 : n = 0 := by omega
        subst n00
        have q1 := ask_sum none 0 0 _ wr hb (fun _ => rfl) (by omega)
        have q3 := ask_rsum none 0 0 _ wr hb (fun _ => rfl) (by omega)
        obtain ⟨f, hf⟩ : ∃ f, sumB 0 (fun _ => 0) = f := ⟨_, rfl⟩
        rw [hf] at q1 q3
        have Q1 : Hid _ := q1
        have Q3 : Hid _ := q3
        clear q1 q3 hf hown hb h0 hlen
        have he := equal32
        have hg := Try.eqGuardType24
        have hsm := same_self 32 f
        go_wp2_with fail
        go_region_held3 (fun w' => Fr None' wr w')
          (first | assumption | exact Fr.drewN None' wr 1)
          (first | (go_at_call 9; with_reducible (refine (Q1.out _ (by assumption)).mono ?_); rintro e wx ⟨rfl, fx⟩) | (go_at_call 10; with_reducible (refine (Q3.out _ (by assumption)).mono ?_); rintro e wx ⟨rfl, fx⟩))
        all_goals go_wp2
        all_goals go_ret
        all_goals exact ⟨rfl, fr.then (by assumption)⟩
      · subst hv
        have hb := hown.byt
        obtain ⟨L, hL⟩ : ∃ L, l.length = L := ⟨_, rfl⟩
        obtain ⟨M, hM⟩ : ∃ M : Nat → Int, (fun i => l.getD i 0) = M := ⟨_, rfl⟩
        rw [hL] at hb hcb hlen ⊢
        rw [hM] at hb
        have q1 := ask_sum _ L cb _ wr hb (fun e => by cases e) (by omega)
        have q3 := ask_rsum _ L cb _ wr hb (fun e => by cases e) (by omega)
        obtain ⟨f, hf⟩ : ∃ f, sumB L M = f := ⟨_, rfl⟩
        rw [hf] at q1 q3
        have Q1 : Hid _ := q1
        have Q3 : Hid _ := q3
        clear q1 q3 hf hown HO hL hM
        have he := equal32
        have hg := Try.eqGuardType24
        have hsm := same_self 32 f
        have l1 : (n : Int) ≤ L := by omega
        have l2 : (L : Int) ≤ cb := by omega
        by_cases hcn : cb = n
        · have hLn : L = n := by omega
          subst hcn
          subst hLn
          have hb2 : Byt wr (.slice (some ⟨g, 0, none⟩) 0 0) 0 (fun _ => 0) := ⟨_, _, rfl, by omega, fun i hi => by omega⟩
          have q2 := ask_sum (some ⟨g, 0, none⟩) (0) (0) (fun _ => 0) wr hb2 (fun e => by cases e) (by omega)
          have q4 := ask_rsum (some ⟨g, 0, none⟩) (0) (0) (fun _ => 0) wr hb2 (fun e => by cases e) (by omega)
          obtain ⟨f2, hf2⟩ : ∃ f2, sumB (0) (fun _ => 0) = f2 := ⟨_, rfl⟩
          rw [hf2] at q2 q4
          have Q2 : Hid _ := q2
          have Q4 : Hid _ := q4
          have hsm2 := same_self 32 f2
          clear hb2 q2 q4 hf2
          clear hb hcb hlen
          go_wp2_with fail
          go_region_held3 (fun w' => Fr None' wr w')
            (first | assumption | exact Fr.drewN None' wr 1)
            (first | (go_at_call 9; with_reducible (refine (Q1.out _ (by assumption)).mono ?_); rintro e wx ⟨rfl, fx⟩) | (go_at_call 10; with_reducible (refine (Q3.out _ (by assumption)).mono ?_); rintro e wx ⟨rfl, fx⟩) | (go_at_call 9; with_reducible (refine (Q2.out _ (by assumption)).mono ?_); rintro e wx ⟨rfl, fx⟩) | (go_at_call 10; with_reducible (refine (Q4.out _ (by assumption)).mono ?_); rintro e wx ⟨rfl, fx⟩))
          all_goals go_wp2
          all_goals go_ret
          all_goals exact ⟨rfl, fr.then (by assumption)⟩
        · have hb2 : Byt wr (.slice (some ⟨g, n, none⟩) (L - n) (cb - n)) (L - n) (fun i => M (n + i)) := by
            obtain ⟨va', cap, e, _, h⟩ := hb
            cases e
            refine ⟨_, _, rfl, by omega, fun i hi => ⟨_, _, rfl, ?_⟩⟩
            obtain ⟨b, o, e, hc⟩ := h (n + i) (by omega)
            cases e
            rw [Nat.zero_add] at hc
            exact hc
          have q2 := ask_sum (some ⟨g, n, none⟩) (L - n) (cb - n) (fun i => M (n + i)) wr hb2 (fun e => by cases e) (by omega)
          have q4 := ask_rsum (some ⟨g, n, none⟩) (L - n) (cb - n) (fun i => M (n + i)) wr hb2 (fun e => by cases e) (by omega)
          obtain ⟨f2, hf2⟩ : ∃ f2, sumB (L - n) (fun i => M (n + i)) = f2 := ⟨_, rfl⟩
          rw [hf2] at q2 q4
          have Q2 : Hid _ := q2
          have Q4 : Hid _ := q4
          have hsm2 := same_self 32 f2
          clear hb2 q2 q4 hf2
          clear hb hcb hlen
          go_wp2_with fail
          go_region_held3 (fun w' => Fr None' wr w')
            (first | assumption | exact Fr.drewN None' wr 1)
            (first | (go_at_call 9; with_reducible (refine (Q1.out _ (by assumption)).mono ?_); rintro e wx ⟨rfl, fx⟩) | (go_at_call 10; with_reducible (refine (Q3.out _ (by assumption)).mono ?_); rintro e wx ⟨rfl, fx⟩) | (go_at_call 9; with_reducible (refine (Q2.out _ (by assumption)).mono ?_); rintro e wx ⟨rfl, fx⟩) | (go_at_call 10; with_reducible (refine (Q4.out _ (by assumption)).mono ?_); rintro e wx ⟨rfl, fx⟩))
          all_goals go_wp2
          all_goals go_ret
          all_goals exact ⟨rfl, fr.then (by assumption)⟩
end Go.Proofs.Ythohblpdibeokaa
