/-
  What is proved here: what the document's padded answers. Condition: the bytes lie in memory, fewer than 100,000.
-/
import Derived.Test.YtklefjmihapdpaaSGrow
namespace Go.Proofs.Ytklefjmihapdpaa.Sha
open Go.RowKit
set_option maxRecDepth 100000

/-- How many zeros stand behind n bytes and 128; the length's eight bytes; all of it. -/
def zs (n : Nat) : Nat := (119 - n % 64) % 64
def lenB (n : Nat) (i : Nat) : Int := (8 * n : Int) / 2 ^ (56 - 8 * i) % 256
def padL (n : Nat) (m : Nat → Int) : List Int := (List.range n).map m ++ [128] ++ List.replicate (zs n) 0 ++ (List.range 8).map (lenB n)

theorem padL_length (n : Nat) (m : Nat → Int) : (padL n m).length = n + 1 + zs n + 8 := by simp [padL]; omega

theorem one_lies (w : World) (k : IntKind) (x : Int) (t : TypeId) : Lies k (w.alloc (.cells #[.int k x] t)) (some ⟨w.heap.size, 0, none⟩) 1 (fun _ => x) := fun i hi => by
  obtain rfl : i = 0 := by omega
  refine ⟨_, _, rfl, ?_⟩
  have hb := heap_alloc_new w (.cells #[.int k x] t)
  unfold World.cell?
  simp only [hb]
  rfl

theorem range_succ_map {α : Type} (f : Nat → α) (n : Nat) : (List.range (n + 1)).map f = (List.range n).map f ++ [f n] := by
  rw [List.range_succ, List.map_append]; rfl

theorem range_one (x : Int) : (List.range 1).map (fun _ => x) = [x] := rfl

def lenOf : Value → Nat
  | .slice _ n _ => n
  | _ => 0

set_option maxHeartbeats 4000000 in
theorem rpadded_any (va : Option Addr) (n c : Nat) (m : Nat → Int) (w : World) (h : Byt w (.slice va n c) n m) (hn : va = none → c = 0) (hbig : n ≤ 100000) :
   Calls Try.prog 49 #[.slice va n c] w fun e w' => ∃ v, e = .returned v ∧ Own 5 .u8 w w' v (padL n m) ∧ Fr None' w w' := by
  have lies0 : Lies .u8 (w.alloc (.cells #[] 5)) va n m := Byt.lies (Byt.fr h (Fr.alloc None' w _))
  have own0 := Own.empty (e := 5) (k := .u8) (w0 := w) (Nat.le_refl _)
  have HN : Hid _ := hn
  have i0 : (n : Int) ≤ 100000 := by omega
  clear hn h
  go_enter Try.func49, Try.ntmps49
  go_wp2_with (first
    | (at_builtin
       refine append_num Try.underlying22 Try.info8 (by omega) rfl _ _ rfl rfl own0 (Fr.alloc None' w _) rfl lies0 HN.out (by simp; omega) ?_
       intro v1 w1 own1 f1 g1
       clear own0 lies0 g1
       rw [List.nil_append] at own1)
    | (at_builtin
       refine append_num Try.underlying22 Try.info8 (by omega) rfl _ _ rfl rfl (own1.alloc _) (f1.then (Fr.alloc None' w1 _)) rfl (one_lies w1 .u8 128 _) (fun e => by cases e) (by simp; omega) ?_
       intro v2 w2 own2 f2 g2
       clear own1 f1 g2
       rw [range_one] at own2))
  clear HN
  go_loopw [3] (fun v wr => ∃ k : Nat, k ≤ zs n ∧ Own 5 .u8 w wr v ((List.range n).map m ++ [128] ++ List.replicate k 0) ∧ Fr None' w wr) (fun v _ => 100000 + 200 - lenOf v)
  case atStart => exact ⟨0, by omega, by simpa using own2, f2⟩
  case round =>
    clear own2 f2
    obtain ⟨k, hk, hown, fr⟩ := hrel
    obtain ⟨va', c', hv, _, _, _⟩ := hown.slice
    have hlen : ((List.range n).map m ++ [128] ++ List.replicate k 0).length = n + 1 + k := by simp; omega
    rw [hlen] at hv
    subst hv
    obtain ⟨L, hL⟩ : ∃ L, n + 1 + k = L := ⟨_, rfl⟩
    rw [hL] at hown hlen ⊢
    have hz : zs n < 64 := by unfold zs; omega
    by_cases hlt : k < zs n
    · have i1 : ¬ (L : Int) % 64 = 56 := by unfold zs at hlt; omega
      clear hL
      go_wp2_with (first
        | (at_builtin
           refine append_num Try.underlying22 Try.info8 (by omega) rfl _ _ rfl rfl (hown.alloc _) (fr.then (Fr.alloc None' wr _)) rfl (one_lies wr .u8 0 _) (fun e => by cases e) (by simp; omega) ?_
           intro v3 w3 own3 f3 g3
           clear hown fr g3
           rw [range_one] at own3))
      have own4 : Own 5 .u8 w w3 v3 ((List.range n).map m ++ [128] ++ List.replicate (k + 1) 0) := by
        rw [List.replicate_succ', ← List.append_assoc]; exact own3
      obtain ⟨va3, c3, hv3, _, _, _⟩ := own4.slice
      refine ⟨⟨k + 1, by omega, own4, f3⟩, ?_⟩
      have h3 : ((List.range n).map m ++ [128] ++ List.replicate (k + 1) 0).length = L + 1 := by rw [← hlen]; simp; omega
      have h4 : L = n + 1 + k := by rw [← hlen]; simp; omega
      rw [hv3, h3]
      show 100200 - (L + 1) < 100200 - L
      omega
    · have i1 : (L : Int) % 64 = 56 := by unfold zs at hlt hk; omega
      have hkz : k = zs n := by omega
      rw [hkz] at hown
      obtain ⟨N, hN⟩ : ∃ N : Nat, n * 8 = N := ⟨_, rfl⟩
      have n1 : IntKind.u64.wrap ((n : Int) * 8) = N := by simp [IntKind.wrap, IntKind.bits, IntKind.signed]; omega
      have hl0 : Hid (lenB n = fun i => (N : Int) / 2 ^ (56 - 8 * i) % 256) := by funext i; unfold lenB; rw [← hN]; push_cast; rw [Int.mul_comm]
      have HZ : Hid (zs n < 64) := hz
      clear hlt hk hkz hz hL hN hlen
      go_wp2_with fail
      go_loopw [3, 5] (fun v i wr => ∃ j : Nat, j ≤ 8 ∧ i = .int .i64 j ∧ Own 5 .u8 w wr v ((List.range n).map m ++ [128] ++ List.replicate (zs n) 0 ++ (List.range j).map (lenB n)) ∧ Fr None' w wr) (fun _ i _ => 8 - (intOf i).toNat)
      case atStart => exact ⟨0, by omega, rfl, by simpa using hown, fr⟩
      case round =>
        clear hown fr i1
        obtain ⟨j, hj, rfl, hown, fr⟩ := hrel
        by_cases hlt : j < 8
        · have w1' : IntKind.i64.wrap (8 * (j : Int)) = 8 * j := by rw [IntKind.wrap_i64]; omega
          have w2' : IntKind.i64.wrap (56 - 8 * (j : Int)) = 56 - 8 * j := by rw [IntKind.wrap_i64]; omega
          have j0 : (j : Int) < 8 := by omega
          have j1 : 8 * (j : Int) ≤ 56 := by omega
          have hx2 : Hid (lenB n j = (N : Int) / 2 ^ (56 - 8 * j) % 256) := by show _ = _; rw [hl0.out]
          go_wp2_with (first
            | (at_builtin
               refine append_num Try.underlying22 Try.info8 (by omega) rfl _ _ rfl rfl (hown.alloc _) (fr.then (Fr.alloc None' wr _)) rfl (one_lies wr .u8 ((N : Int) / 2 ^ (56 - 8 * j) % 256) _) (fun e => by cases e) (by have := HZ.out; simp; omega) ?_
               intro v3 w3 own3 f3 g3
               clear hown fr g3
               rw [range_one] at own3))
          go_roundw
          case rel =>
            refine ⟨j + 1, by omega, by go_num, ?_, f3⟩
            rw [range_succ_map, ← List.append_assoc, hx2.out]
            exact own3
          case measure => simp [intOf]; omega
        · have j0 : (8 : Int) ≤ j := by omega
          have hj8 : j = 8 := by omega
          rw [hj8] at hown
          clear hlt hj hj8 hl0 n1
          go_wp2
          go_ret
          exact ⟨_, rfl, hown, fr⟩
end Go.Proofs.Ytklefjmihapdpaa.Sha
