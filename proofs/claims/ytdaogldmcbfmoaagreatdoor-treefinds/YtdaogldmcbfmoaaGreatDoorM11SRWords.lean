/-
  What is proved here: the contracts that the statement stands on: SRWords, SRConsts, SRSum, SRSame, SRName. Conditions: as each theorem names them.
-/
import Derived.Test.YtdaogldmcbfmoaaGreatDoorM10SGrow
import Derived.Deep.RegionHeld3
namespace Go.Proofs.YtdaogldmcbfmoaaGreatDoor.Sha
open Go.RowKit
set_option maxRecDepth 100000

theorem Own.u32 {w0 w : World} {v : Value} {k : Nat} {f : Nat → Int} (h : Own 129 .u32 w0 w v ((List.range k).map f)) (hk : 0 < k) : ∃ g c, v = .slice (some ⟨g, 0, none⟩) k c ∧ k ≤ c ∧ g < w.heap.size ∧ w0.heap.size ≤ g ∧ ∀ i, i < k → w.cell? ⟨g, i, none⟩ = some (.int .u32 (f i)) := by
  rcases h.2 with ⟨_, h0⟩ | ⟨g, cap, cur, hv, hb, hh, hc, _, hs, ht⟩
  · simp at h0; omega
  · rw [List.length_map, List.length_range] at hv hc ht
    refine ⟨g, cap, hv, hc, (Array.getElem?_eq_some_iff.1 hh).1, hb, fun i hi => ?_⟩
    have hl : (((List.range k).map f).map (Value.int .u32))[i]? = some (.int .u32 (f i)) := by
      rw [List.getElem?_map, List.getElem?_map, List.getElem?_range hi]; rfl
    rw [← ht, List.getElem?_take, if_pos (by omega)] at hl
    rw [World.cell?, hh]
    simpa using hl

theorem wrap3 (a b c d : Int) : IntKind.u32.wrap (IntKind.u32.wrap (IntKind.u32.wrap (a + b) + c) + d) = (a + b + c + d) % 4294967296 := by
  simp only [IntKind.wrap_u32]
  omega

set_option maxHeartbeats 4000000 in
theorem rwords_any (b : Nat) (o len cap : Nat) (m : Nat → Int) (w : World) (hl : 64 ≤ len)
  (hc : ∀ i : Nat, i < 64 → w.cell? ⟨b, o + i, none⟩ = some (.int .u8 (m i))) :
   Calls Tryz.prog 100 #[.slice (some ⟨b, o, none⟩) len cap] w fun e w' => ∃ v, e = .returned v ∧ Own 129 .u32 w w' v ((List.range 64).map (W m)) ∧ Fr None' w w' := by
  go_enter Tryz.func100, Tryz.ntmps100
  go_wp2_with fail
  go_loopw [3, 4] (fun v i wr => ∃ k : Nat, k ≤ 16 ∧ i = .int .i64 k ∧ Own 129 .u32 w wr v ((List.range k).map (W m)) ∧ Fr None' w wr) (fun _ i _ => 16 - (intOf i).toNat)
  case atStart => exact ⟨0, by omega, rfl, Own.nil _ _ _ _, Fr.refl _ _⟩
  case round =>
    obtain ⟨k, hk, rfl, hown, fr⟩ := hrel
    by_cases hlt : k < 16
    · have i0 : (k : Int) < 16 := by omega
      have c0 := fr.cell (hc (4 * k) (by omega)) id
      have c1 := fr.cell (hc (4 * k + 1) (by omega)) id
      have c2 := fr.cell (hc (4 * k + 2) (by omega)) id
      have c3 := fr.cell (hc (4 * k + 3) (by omega)) id
      have hW := W_low m k hlt
      have HW : Hid (W m k = _) := hW
      have l0 : (4 * (k : Int)) < (len : Int) := by omega
      have l1 : (4 * (k : Int)) + 1 < (len : Int) := by omega
      have l2 : (4 * (k : Int)) + 2 < (len : Int) := by omega
      have l3 : (4 * (k : Int)) + 3 < (len : Int) := by omega
      have d0 : 0 ≤ (4 * (k : Int)) := by omega
      have d1 : 0 ≤ (4 * (k : Int)) + 1 := by omega
      have d2 : 0 ≤ (4 * (k : Int)) + 2 := by omega
      have d3 : 0 ≤ (4 * (k : Int)) + 3 := by omega
      have v0 : IntKind.i64.wrap (4 * (k : Int)) = 4 * k := by rw [IntKind.wrap_i64]; omega
      have v1 : IntKind.i64.wrap (4 * (k : Int) + 1) = 4 * k + 1 := by rw [IntKind.wrap_i64]; omega
      have v2 : IntKind.i64.wrap (4 * (k : Int) + 2) = 4 * k + 2 := by rw [IntKind.wrap_i64]; omega
      have v3 : IntKind.i64.wrap (4 * (k : Int) + 3) = 4 * k + 3 := by rw [IntKind.wrap_i64]; omega
      have t0 : (4 * (k : Int)).toNat = 4 * k := by omega
      have t1 : (4 * (k : Int) + 1).toNat = 4 * k + 1 := by omega
      have t2 : (4 * (k : Int) + 2).toNat = 4 * k + 2 := by omega
      have t3 : (4 * (k : Int) + 3).toNat = 4 * k + 3 := by omega
      have hS : Hid (∀ w', Fr None' w w' → w'.cell? ⟨b, o + 4 * k, none⟩ = some (.int .u8 (m (4 * k))) ∧ w'.cell? ⟨b, o + (4 * k + 1), none⟩ = some (.int .u8 (m (4 * k + 1))) ∧ w'.cell? ⟨b, o + (4 * k + 2), none⟩ = some (.int .u8 (m (4 * k + 2))) ∧ w'.cell? ⟨b, o + (4 * k + 3), none⟩ = some (.int .u8 (m (4 * k + 3)))) := fun w' f => ⟨f.cell (hc (4 * k) (by omega)) id, f.cell (hc (4 * k + 1) (by omega)) id, f.cell (hc (4 * k + 2) (by omega)) id, f.cell (hc (4 * k + 3) (by omega)) id⟩
      clear hc hW c0 c1 c2 c3
      go_wp2_with fail
      have hown' : Own 129 .u32 w wr.drew _ ((List.range k).map (W m)) := hown.fr (Fr.drewN None' wr 1)
      have fr' : Fr None' w wr.drew := fr.then (Fr.drewN None' wr 1)
      clear hown fr
      go_region_held3 (fun w' => w'.cell? ⟨b, o + 4 * k, none⟩ = some (.int .u8 (m (4 * k))) ∧ w'.cell? ⟨b, o + (4 * k + 1), none⟩ = some (.int .u8 (m (4 * k + 1))) ∧ w'.cell? ⟨b, o + (4 * k + 2), none⟩ = some (.int .u8 (m (4 * k + 2))) ∧ w'.cell? ⟨b, o + (4 * k + 3), none⟩ = some (.int .u8 (m (4 * k + 3))))
        (first | exact hS.out _ f3 | exact hS.out _ (fr'.then (Fr.alloc None' _ _)) | exact hS.out _ fr')
        (first | (refine step_num Tryz.underlying133 Tryz.info4 (by omega) rfl _ _ rfl rfl (hown'.alloc _) (fr'.then (Fr.alloc None' _ _)) rfl (one_lies _ .u32 _ _) (by simp; omega) ?_; intro v3 w3 own3 f3))
      all_goals go_wp2_with fail
      go_roundw
      case rel =>
        refine ⟨k + 1, by omega, by go_num, ?_, f3⟩
        rw [range_succ_map, HW.out]
        exact own3
      case measure => simp [intOf]; omega
    · have i0 : (16 : Int) ≤ (k : Int) := by omega
      have hk16 : k = 16 := by omega
      rw [hk16] at hown
      clear hc hk hlt hk16
      go_wp2_with fail
      clear i0
      go_loopw [3, 5] (fun v i wr => ∃ k : Nat, 16 ≤ k ∧ k ≤ 64 ∧ i = .int .i64 k ∧ Own 129 .u32 w wr v ((List.range k).map (W m)) ∧ Fr None' w wr) (fun _ i _ => 64 - (intOf i).toNat)
      case atStart => exact ⟨16, by omega, by omega, rfl, hown, fr⟩
      case round =>
        clear hown fr
        obtain ⟨k, hk, hk2, rfl, hown, fr⟩ := hrel
        by_cases hlt : k < 64
        · have i0 : (k : Int) < 64 := by omega
          have i1 : (16 : Int) ≤ k := by omega
          obtain ⟨g, c, rfl, hgc, hg1, hg2, hat⟩ := hown.u32 (by omega)
          have a15 := hat (k - 15) (by omega)
          have a2 := hat (k - 2) (by omega)
          have a16 := hat (k - 16) (by omega)
          have a7 := hat (k - 7) (by omega)
          have t15 : ((k : Int) - 15).toNat = k - 15 := by omega
          have t2 : ((k : Int) - 2).toNat = k - 2 := by omega
          have t7 : ((k : Int) - 7).toNat = k - 7 := by omega
          have t16 : ((k : Int) - 16).toNat = k - 16 := by omega
          have b15 : (k : Int) - 15 < k := by omega
          have b2 : (k : Int) - 2 < k := by omega
          have b16 : (k : Int) - 16 < k := by omega
          have b7 : (k : Int) - 7 < k := by omega
          have d15 : 0 ≤ (k : Int) - 15 := by omega
          have d2 : 0 ≤ (k : Int) - 2 := by omega
          have d16 : 0 ≤ (k : Int) - 16 := by omega
          have d7 : 0 ≤ (k : Int) - 7 := by omega
          have HW : Hid (W m k = _) := W_high m k hk
          have e16 : Hid (wr.cell? ⟨g, k - 16, none⟩ = some (.int .u32 (W m (k - 16)))) := a16
          have e7 : Hid (wr.cell? ⟨g, k - 7, none⟩ = some (.int .u32 (W m (k - 7)))) := a7
          clear hat hlt a16 a7
          go_wp2_with fail
          refine (turned_any _ 7 (by omega) (by omega) _).mono ?_
          rintro e x1 ⟨rfl, n1, hw⟩
          have g1 : Fr None' wr x1 := hw ▸ Fr.drewN None' wr n1
          clear hw
          clear a15 a2
          go_wp2_with fail
          refine (turned_any _ 18 (by omega) (by omega) _).mono ?_
          rintro e x2 ⟨rfl, n2, hw⟩
          have g2 : Fr None' x1 x2 := hw ▸ Fr.drewN None' x1 n2
          clear hw
          go_wp2_with fail
          refine (turned_any _ 17 (by omega) (by omega) _).mono ?_
          rintro e x3 ⟨rfl, n3, hw⟩
          have g3 : Fr None' x2 x3 := hw ▸ Fr.drewN None' x2 n3
          clear hw
          go_wp2_with fail
          refine (turned_any _ 19 (by omega) (by omega) _).mono ?_
          rintro e x4 ⟨rfl, n4, hw⟩
          have g4 : Fr None' x3 x4 := hw ▸ Fr.drewN None' x3 n4
          clear hw
          have g0 := ((g1.then g2).then g3).then g4
          have hown2 := hown.fr g0
          have fr2 := fr.then g0
          have a16 := g0.cell e16.out id
          have a7 := g0.cell e7.out id
          clear g0 g1 g2 g3 g4
          clear hown fr e16 e7 t15 t2 b15 b2 d15 d2 t7 t16 b16 b7 d16 d7
          obtain ⟨p, hp⟩ : ∃ p, k - 16 = p := ⟨_, rfl⟩
          obtain ⟨q, hq⟩ : ∃ q, k - 7 = q := ⟨_, rfl⟩
          have w16 : IntKind.i64.wrap ((k : Int) - 16) = p := by rw [IntKind.wrap_i64]; omega
          have w7 : IntKind.i64.wrap ((k : Int) - 7) = q := by rw [IntKind.wrap_i64]; omega
          have b16 : (p : Int) < k := by omega
          have b7 : (q : Int) < k := by omega
          rw [hp] at a16 HW
          rw [hq] at a7 HW
          have HP : Hid (p < k ∧ q < k) := ⟨by omega, by omega⟩
          clear hp hq
          go_wp2_with fail
          have hown' : Own 129 .u32 w x4.drew _ ((List.range k).map (W m)) := hown2.fr (Fr.drewN None' x4 1)
          have fr' : Fr None' w x4.drew := fr2.then (Fr.drewN None' x4 1)
          have hS : x4.drew.cell? ⟨g, p, none⟩ = some (.int .u32 (W m p)) ∧ x4.drew.cell? ⟨g, q, none⟩ = some (.int .u32 (W m q)) := ⟨a16, a7⟩
          have hS2 : ∀ o, (x4.drew.alloc o).cell? ⟨g, p, none⟩ = some (.int .u32 (W m p)) ∧ (x4.drew.alloc o).cell? ⟨g, q, none⟩ = some (.int .u32 (W m q)) := fun o => ⟨(Fr.alloc None' x4.drew o).cell hS.1 id, (Fr.alloc None' x4.drew o).cell hS.2 id⟩
          have HS : Hid _ := hS
          have HS2 : Hid _ := hS2
          clear hown2 fr2 a16 a7 hS hS2
          go_region_held3 (fun w' => w'.cell? ⟨g, p, none⟩ = some (.int .u32 (W m p)) ∧ w'.cell? ⟨g, q, none⟩ = some (.int .u32 (W m q)))
            (first | exact ⟨(k3 p HP.out.1).trans (HS2.out _).1, (k3 q HP.out.2).trans (HS2.out _).2⟩ | exact HS2.out _ | exact HS.out)
            (first | (refine step_num2 Tryz.underlying133 Tryz.info4 (by omega) rfl _ _ rfl rfl (by simp) (hown'.alloc _) (fr'.then (Fr.alloc None' _ _)) rfl (one_lies _ .u32 _ _) (by simp; omega) ?_; intro v3 w3 own3 f3 k3))
          all_goals go_wp2_with fail
          go_roundw
          case rel =>
            refine ⟨k + 1, by omega, by omega, by go_num, ?_, f3⟩
            rw [range_succ_map, HW.out]
            rw [wrap3] at own3
            exact own3
          case measure => simp [intOf]; omega
        · have i0 : (64 : Int) ≤ (k : Int) := by omega
          have hk64 : k = 64 := by omega
          rw [hk64] at hown
          clear hk hk2 hlt hk64
          go_wp2
          go_ret
          exact ⟨_, rfl, hown, fr⟩
end Go.Proofs.YtdaogldmcbfmoaaGreatDoor.Sha

namespace Go.Proofs.YtdaogldmcbfmoaaGreatDoor.Sha
open Go.RowKit
set_option maxRecDepth 100000

set_option maxHeartbeats 4000000 in
theorem rconsts_any (w : World) : Calls Tryz.prog 98 #[] w fun e w' => e = .returned (.agg (arr 64 (n32 kc))) ∧ Fr None' w w' := by
  go_enter Tryz.func98, Tryz.ntmps98
  go_wp2_with (refine store_arr info64 w.heap.size (f0 := n32 fun _ => 0) (f := n32 kc) (rowIs_of (heap_alloc_new w _)) (fun _ _ => rfl) _ _ rfl rfl rfl rfl rfl ?_)
  generalize hw : World.setRow _ _ _ = w'
  obtain ⟨r, f⟩ := new_row (n := 64) rfl hw
  exact bodyPost_ret (v := .agg (arr 64 (n32 kc))) (result_arr Tryz.underlying130 info64 rfl _ rfl r) rfl ⟨rfl, f⟩

theorem Own.got {e : TypeId} {k : IntKind} {w0 w : World} {v : Value} {l : List Int} (h : Own e k w0 w v l) (hl : 0 < l.length) : ∃ g c, v = .slice (some ⟨g, 0, none⟩) l.length c ∧ l.length ≤ c ∧ w0.heap.size ≤ g ∧ g < w.heap.size ∧ ∀ i, i < l.length → w.cell? ⟨g, i, none⟩ = some (.int k (l.getD i 0)) := by
  rcases h.2 with ⟨_, h0⟩ | ⟨g, cap, cur, hv, hb, hh, hc, _, hs, ht⟩
  · omega
  · refine ⟨g, cap, hv, hc, hb, (Array.getElem?_eq_some_iff.1 hh).1, fun i hi => ?_⟩
    have hl : (l.map (Value.int k))[i]? = some (.int k (l.getD i 0)) := by
      rw [List.getElem?_map, List.getElem?_eq_getElem hi, List.getD_eq_getElem?_getD, List.getElem?_eq_getElem hi]; rfl
    rw [← ht, List.getElem?_take, if_pos (by omega)] at hl
    rw [World.cell?, hh]
    simpa using hl
end Go.Proofs.YtdaogldmcbfmoaaGreatDoor.Sha

namespace Go.Proofs.YtdaogldmcbfmoaaGreatDoor.Sha
open Go.RowKit
set_option maxRecDepth 100000

/-- The eight numbers, and the sum's bytes, as the document reckons them. -/
def rsumV (n : Nat) (m : Nat → Int) : Nat → Int := blks kc (fun i => (padL n m).getD i 0) iv ((n + 1 + zs n + 8) / 64)
def rsumB (n : Nat) (m : Nat → Int) (i : Nat) : Int := bt (rsumV n m (i / 4)) (i % 4)

theorem bt_pow (x : Int) (s : Nat) (h : s < 4) : x / 2 ^ (24 - 8 * s) % 256 = bt x s := by
  have : s = 0 ∨ s = 1 ∨ s = 2 ∨ s = 3 := by omega
  rcases this with rfl | rfl | rfl | rfl <;> simp [bt]

set_option maxHeartbeats 8000000 in
theorem rsum_any (va : Option Addr) (n c : Nat) (m : Nat → Int) (w : World) (h : Byt w (.slice va n c) n m) (hn : va = none → c = 0) (hbig : n ≤ 99000) :
   Calls Tryz.prog 61 #[.slice va n c] w fun e w' => e = .returned (.agg (arr 32 (n8 (rsumB n m)))) ∧ Fr None' w w' := by
  go_enter Tryz.func61, Tryz.ntmps61
  go_wp2_with fail
  have r0 : (w.alloc (.cells (arr 32 (n8 fun _ => 0)) 96)).rowIs w.heap.size 96 32 (n8 fun _ => 0) := rowIs_of (heap_alloc_new w _)
  have f0 : Fr None' w (w.alloc (.cells (arr 32 (n8 fun _ => 0)) 96)) := Fr.alloc _ _ _
  generalize hw0 : w.alloc _ = w0
  replace r0 : w0.rowIs w.heap.size 96 32 (n8 fun _ => 0) := by rw [← hw0]; exact r0
  replace f0 : Fr None' w w0 := by rw [← hw0]; exact f0
  clear hw0
  refine (rconsts_any _).mono ?_
  rintro e w1 ⟨rfl, f1⟩
  have o1 := f1.rowIs r0 id
  have f01 := f0.then f1
  have l0 := r0.lt
  clear r0 f0 f1
  go_wp2_with (first
    | (refine store_arr2 info64 _ _ rfl rfl rfl w1.heap.size rfl rfl (fun _ _ => rfl) (f0 := n32 fun _ => 0) (rowIs_of (heap_alloc_new w1 _)) ?_
       intro w2 r2 f2))
  replace f2 := (Fr.alloc None' w1 _).trans f2 (fun i e => Or.inr (by omega))
  have o2 := f2.rowIs o1 id
  have f02 := f01.then f2
  have l1 := r2.lt
  have l01 := f01.size
  clear o1 f01 f2
  have r3 : (w2.alloc (.cells (arr 8 (n32 iv)) 132)).rowIs w2.heap.size 132 8 (n32 iv) := rowIs_of (heap_alloc_new w2 _)
  have f3 : Fr None' w2 (w2.alloc (.cells (arr 8 (n32 iv)) 132)) := Fr.alloc _ _ _
  generalize hw3 : w2.alloc _ = w3
  replace r3 : w3.rowIs w2.heap.size 132 8 (n32 iv) := by rw [← hw3]; exact r3
  replace f3 : Fr None' w2 w3 := by rw [← hw3]; exact f3
  clear hw3
  have k3 := f3.rowIs r2 id
  have o3 := f3.rowIs o2 id
  have f03 := f02.then f3
  have l3 := r3.lt
  clear r2 o2 f02 f3
  refine (rpadded_any va n c m w3 (h.fr f03) hn (by omega)).mono ?_
  rintro e w4 ⟨v4, rfl, own4, f4⟩
  obtain ⟨g, cg, rfl, hcg, hg1, hg2, hat⟩ := own4.got (by rw [padL_length]; omega)
  have r4 := f4.rowIs r3 id
  have k4 := f4.rowIs k3 id
  have o4 := f4.rowIs o3 id
  have f04 := f03.then f4
  have l4 := f4.size
  clear own4 f4 r3 k3 o3 f03 h hn
  obtain ⟨P, hP⟩ : ∃ P : Nat → Int, (fun i => (padL n m).getD i 0) = P := ⟨_, rfl⟩
  obtain ⟨nb, hnb⟩ : ∃ nb, (n + 1 + zs n + 8) / 64 = nb := ⟨_, rfl⟩
  have hlen : (padL n m).length = 64 * nb := by
    rw [padL_length, ← hnb]; unfold zs; omega
  have hV : Hid (rsumV n m = blks kc P iv nb) := by show _ = _; rw [← hP, ← hnb]; rfl
  have hbig2 : nb ≤ 2000 := by rw [← hnb]; unfold zs; omega
  have hat' : ∀ i, i < 64 * nb → w4.cell? ⟨g, i, none⟩ = some (.int .u8 (P i)) := fun i hi => by rw [← hP]; exact hat i (by omega)
  rw [hlen] at hcg ⊢
  clear hat hlen hnb hP
  have i1 : (nb : Int) ≤ 2000 := by omega
  have HAT : Hid _ := hat'
  clear hat'
  obtain ⟨L, hL⟩ : ∃ L, 64 * nb = L := ⟨_, rfl⟩
  have HL : Hid (64 * nb = L) := hL
  rw [hL] at hcg ⊢
  clear hL
  go_wp2_with fail
  go_loopw [6] (fun at' wr => ∃ j : Nat, j ≤ nb ∧ at' = .int .i64 ((64 * j : Nat) : Int) ∧ wr.rowIs w2.heap.size 132 8 (n32 (blks kc P iv j)) ∧ wr.rowIs w1.heap.size 130 64 (n32 kc) ∧ wr.rowIs w.heap.size 96 32 (n8 fun _ => 0) ∧ Fr (fun i => i = w2.heap.size) w4 wr) (fun at' _ => 64 * nb - (intOf at').toNat)
  case atStart => exact ⟨0, by omega, rfl, r4, k4, o4, Fr.refl _ _⟩
  case round =>
    clear r4 k4 o4
    obtain ⟨j, hj, rfl, rv, rk, ro, fr⟩ := hrel
    obtain ⟨A, hA⟩ : ∃ A, 64 * j = A := ⟨_, rfl⟩
    rw [hA]
    have hL := HL.out
    by_cases hlt : j < nb
    · have a0 : (A : Int) < (L : Int) := by omega
      have a1 : (A : Int) + 64 ≤ (L : Int) := by omega
      have a2 : (L : Int) ≤ (cg : Int) := by omega
      have a3 : IntKind.i64.wrap ((A : Int) + 64) = A + 64 := by rw [IntKind.wrap_i64]; omega
      have a4 : ¬ cg = A := by omega
      have a5 : ((A : Int) + 64).toNat = A + 64 := by omega
      have a6 : A + 64 - A = 64 := by omega
      have hc : ∀ i, i < 64 → wr.cell? ⟨g, A + i, none⟩ = some (.int .u8 (P (64 * j + i))) := fun i hi => by
        rw [hA]; exact fr.cell (HAT.out (A + i) (by omega)) (by show ¬ g = w2.heap.size; omega)
      have hw := fun cap => rwords_any g A 64 cap (fun i => P (64 * j + i)) wr (by omega) hc
      have HJ : Hid (64 * j = A ∧ j < nb) := ⟨hA, hlt⟩
      clear hc hL hA hj hlt
      go_wp2_with fail
      refine (hw (cg - A)).mono ?_
      rintro e w5 ⟨v5, rfl, own5, f5⟩
      obtain ⟨gw, cw, rfl, hcw, hgw1, hgw2, hwat⟩ := own5.u32 (by omega)
      obtain ⟨M, hM⟩ : ∃ M : Nat → Int, (fun i => P (64 * j + i)) = M := ⟨_, rfl⟩
      rw [hM] at hwat own5
      obtain ⟨v, hv⟩ : ∃ v : Nat → Int, blks kc P iv j = v := ⟨_, rfl⟩
      rw [hv] at rv
      have HM : Hid (blks kc P iv (j + 1) = blk kc M v) := by show _ = _; rw [← hM, ← hv]; rfl
      have rv5 := f5.rowIs rv id
      have rk5 := f5.rowIs rk id
      have ro5 := f5.rowIs ro id
      have fr5 : Fr (fun i => i = w2.heap.size) w4 w5 := fr.then f5.any
      have lv5 := rv5.lt
      have l45 := fr5.size
      have HW : Hid (∀ i, i < 64 → w5.cell? ⟨gw, i, none⟩ = some (.int .u32 (W M i))) := hwat
      clear own5 f5 rv rk ro fr hw hwat hM hv a0 a1 a3 a4 a5 a6
      go_wp2_with (first
        | refine load_arr Tryz.underlying132 info8 w2.heap.size rv5 _ rfl rfl rfl ?_
        | (refine store_arr2 info8 _ _ rfl rfl rfl w5.heap.size rfl rfl (fun _ _ => rfl) (f0 := n32 fun _ => 0) (rowIs_of (heap_alloc_new w5 _)) ?_
           intro w6 r6 f6))
      replace f6 := (Fr.alloc None' w5 _).trans f6 (fun i e => Or.inr (by omega))
      have rv6 := f6.rowIs rv5 id
      have rk6 := f6.rowIs rk5 id
      have ro6 := f6.rowIs ro5 id
      have fr6 : Fr (fun i => i = w2.heap.size) w4 w6 := fr5.then f6.any
      have HW6 : Hid (∀ i, i < 64 → w6.cell? ⟨gw, i, none⟩ = some (.int .u32 (W M i))) := fun i hi => f6.cell (HW.out i hi) id
      have l6 := r6.lt
      clear f6 rv5 rk5 ro5 fr5 HW
      go_loopw [9] (fun i wi => ∃ q : Nat, q ≤ 64 ∧ i = .int .i64 q ∧ wi.rowIs w5.heap.size 132 8 (n32 (rnds kc (W M) (V8.of v) q).at) ∧ Fr (fun i => i = w5.heap.size) w6 wi) (fun i _ => 64 - (intOf i).toNat)
      case atStart => exact ⟨0, by omega, rfl, r6.congr (fun i hi => by simp only [n32, rnds, V8.at_of v hi]), Fr.refl _ _⟩
      case round =>
        clear r6
        obtain ⟨q, hq, rfl, rx, fi⟩ := hrel
        by_cases hqlt : q < 64
        · have q0 : (q : Int) < 64 := by omega
          have ck := (fi.rowIs rk6 (by show ¬ w1.heap.size = w5.heap.size; omega)).cell hqlt
          have cw := fi.cell (HW6.out q hqlt) (by show ¬ gw = w5.heap.size; omega)
          obtain ⟨x, hx⟩ : ∃ x, rnds kc (W M) (V8.of v) q = x := ⟨_, rfl⟩
          obtain ⟨T, hT⟩ : ∃ T, tOf (kc q) (W M q) x = T := ⟨_, rfl⟩
          obtain ⟨U, hU⟩ : ∃ U, uOf x = U := ⟨_, rfl⟩
          have HX : Hid (rnds kc (W M) (V8.of v) (q + 1) = ⟨(T + U) % 4294967296, x.a, x.b, x.c, (x.d + T) % 4294967296, x.e, x.f, x.g⟩) := by show _ = _; rw [← hT, ← hU, ← hx]; rfl
          unfold tOf xor32 and32 at hT
          unfold uOf xor32 and32 at hU
          have HT : Hid (_ = T) := hT
          have HU : Hid (_ = U) := hU
          clear hT hU
          rw [hx] at rx
          have c0 := rx.cell (i := 0) (by omega)
          have c1 := rx.cell (i := 1) (by omega)
          have c2 := rx.cell (i := 2) (by omega)
          have c3 := rx.cell (i := 3) (by omega)
          have c4 := rx.cell (i := 4) (by omega)
          have c5 := rx.cell (i := 5) (by omega)
          have c6 := rx.cell (i := 6) (by omega)
          have c7 := rx.cell (i := 7) (by omega)
          simp only [n32, V8.at] at ck c0 c1 c2 c3 c4 c5 c6 c7
          clear hx hqlt
          go_wp2_with fail
          go_quiet (with_reducible (first | exact turned_q6 _ | exact turned_q11 _ | exact turned_q25 _))
          have gq := Fr.drewN None' wr nq
          replace fi : Fr (fun i => i = w5.heap.size) w6 (wr.drewN nq) := fi.then gq.any
          replace rx := gq.rowIs rx id
          clear ck cw gq c0 c1 c2 c3 c4 c5 c6 c7
          generalize wr.drewN nq = wq at fi rx ⊢
          clear nq
          have c0 := rx.cell (i := 0) (by omega)
          have c1 := rx.cell (i := 1) (by omega)
          have c2 := rx.cell (i := 2) (by omega)
          have c3 := rx.cell (i := 3) (by omega)
          have c5 := rx.cell (i := 5) (by omega)
          have c6 := rx.cell (i := 6) (by omega)
          simp only [n32, V8.at] at c0 c1 c2 c3 c5 c6
          go_wp2_with fail
          go_quiet (with_reducible (first | exact turned_q2 _ | exact turned_q13 _ | exact turned_q22 _))
          have gq := Fr.drewN None' wq nq
          replace fi : Fr (fun i => i = w5.heap.size) w6 (wq.drewN nq) := fi.then gq.any
          replace rx := gq.rowIs rx id
          clear gq c0 c1 c2 c3 c5 c6
          generalize wq.drewN nq = wz at fi rx ⊢
          rw [HT.out, HU.out]
          clear nq HT HU
          have c1 := rx.cell (i := 1) (by omega)
          have c2 := rx.cell (i := 2) (by omega)
          have c3 := rx.cell (i := 3) (by omega)
          have c5 := rx.cell (i := 5) (by omega)
          have c6 := rx.cell (i := 6) (by omega)
          simp only [n32, V8.at] at c1 c2 c3 c5 c6
          go_wp2_with (first
            | (refine store_arr2 info8 _ _ rfl rfl rfl w5.heap.size rfl (f := n32 (V8.mk ((T + U) % 4294967296) x.a x.b x.c ((x.d + T) % 4294967296) x.e x.f x.g).at) rfl (fun _ _ => rfl) rx ?_
               intro wy ry fy))
          go_roundw
          case rel => exact ⟨q + 1, by omega, by go_num, by rw [HX.out]; exact ry, fi.then fy⟩
          case measure => simp [intOf]; omega
        · have q0 : (64 : Int) ≤ q := by omega
          have hq64 : q = 64 := by omega
          obtain ⟨x, hx⟩ : ∃ x, rnds kc (W M) (V8.of v) 64 = x := ⟨_, rfl⟩
          rw [hq64, hx] at rx
          have HB : Hid (blk kc M v = fun i => (v i + x.at i) % 4294967296) := by show _ = _; funext i; unfold blk; rw [hx]
          have rv7 := fi.rowIs rv6 (by show ¬ w2.heap.size = w5.heap.size; omega)
          have rk7 := fi.rowIs rk6 (by show ¬ w1.heap.size = w5.heap.size; omega)
          have ro7 := fi.rowIs ro6 (by show ¬ w.heap.size = w5.heap.size; omega)
          have fr7 : Fr (fun i => i = w2.heap.size) w4 wr := fr6.trans fi (fun i e => Or.inr (by omega))
          clear fi rv6 rk6 ro6 fr6 HW6 hx hqlt hq hq64
          go_wp2_with fail
          clear q0
          go_loopw [14] (fun i wi => ∃ t : Nat, t ≤ 8 ∧ i = .int .i64 t ∧ wi.rowIs w2.heap.size 132 8 (n32 fun i => if i < t then (v i + x.at i) % 4294967296 else v i) ∧ wi.rowIs w5.heap.size 132 8 (n32 x.at) ∧ wi.rowIs w1.heap.size 130 64 (n32 kc) ∧ wi.rowIs w.heap.size 96 32 (n8 fun _ => 0) ∧ Fr (fun i => i = w2.heap.size) w4 wi) (fun i _ => 8 - (intOf i).toNat)
          case atStart => exact ⟨0, by omega, rfl, rv7.congr (fun i _ => by simp [n32]), rx, rk7, ro7, fr7⟩
          case round =>
            clear rx rv7 rk7 ro7 fr7
            obtain ⟨t, ht, rfl, rv, rx, rk, ro, fr⟩ := hrel
            by_cases htlt : t < 8
            · have t0 : (t : Int) < 8 := by omega
              have cx := rx.cell htlt
              have cv := rv.cell htlt
              have zf := rv.frozen t
              simp only [n32, Nat.lt_irrefl, if_false] at cv cx
              go_wp2_with fail
              refine region_tail 9 mixed (by kernel_rfl) ?_
              simp only [List.take_succ_cons, List.take_zero, List.drop_succ_cons, List.drop_zero]
              repeat still_step
              refine wpStill_nil ?_
              go_wp2
              go_roundw
              case rel =>
                refine ⟨t + 1, by omega, by go_num, World.rowIs.drew ((rv.set t _).congr (fun i _ => ?_)), World.rowIs.drew (rx.setOther (by simp; omega) _), World.rowIs.drew (rk.setOther (by simp; omega) _), World.rowIs.drew (ro.setOther (by simp; omega) _), (fr.then (Fr.setCell (M := fun i => i = w2.heap.size) _ rfl _)).then (Fr.drewN _ _ 1)⟩
                by_cases e : i = t
                · subst e
                  simp only [n32, if_true, if_pos (show i < i + 1 by omega)]
                · simp only [n32, if_neg e]
                  by_cases h1 : i < t
                  · rw [if_pos h1, if_pos (by omega)]
                  · rw [if_neg h1, if_neg (by omega)]
              case measure => simp [intOf]; omega
            · have t0 : (8 : Int) ≤ t := by omega
              have rv' : wr.rowIs w2.heap.size 132 8 (n32 (blks kc P iv (j + 1))) := rv.congr (fun i hi => by
                simp only [n32]; rw [if_pos (by omega), HM.out, HB.out])
              have hJ := HJ.out
              have a7 : IntKind.i64.wrap ((A : Int) + 64) = ((64 * (j + 1) : Nat) : Int) := by rw [IntKind.wrap_i64]; omega
              clear rv rx htlt ht hJ
              go_wp2_with fail
              have hJ := HJ.out
              refine ⟨⟨j + 1, by omega, by rw [show ((64 * (j + 1) : Nat) : Int) = 64 * ((j : Int) + 1) by omega], rv', rk, ro, fr⟩, ?_⟩
              simp only [intOf]
              omega
    · obtain ⟨wo, rfl⟩ : ∃ wo, wo = wr := ⟨wr, rfl⟩
      have a0 : (L : Int) ≤ (A : Int) := by omega
      have hjn : j = nb := by omega
      have rv' : wo.rowIs w2.heap.size 132 8 (n32 (rsumV n m)) := by rw [hV.out, ← hjn]; exact rv
      have fr0 : Fr None' w wo := f04.trans fr (fun i e => Or.inr (by omega))
      clear rk rv hlt hjn hj hL hA HAT fr f04
      have lo := ro.lt
      have lv := rv'.lt
      go_wp2_with fail
      have r9 : (wo.alloc (.cells (arr 32 (n8 fun _ => 0)) 96)).rowIs wo.heap.size 96 32 (n8 fun _ => 0) := rowIs_of (heap_alloc_new wo _)
      have f9 : Fr None' wo (wo.alloc (.cells (arr 32 (n8 fun _ => 0)) 96)) := Fr.alloc _ _ _
      generalize hw9 : wo.alloc _ = w9
      replace r9 : w9.rowIs wo.heap.size 96 32 (n8 fun _ => 0) := by rw [← hw9]; exact r9
      replace f9 : Fr None' wo w9 := by rw [← hw9]; exact f9
      clear hw9
      have rv9 := f9.rowIs rv' id
      have ro9 := f9.rowIs ro id
      have f09 := fr0.then f9
      clear f9 rv' ro fr0 a0
      have ls := f09.size
      go_loopw [16] (fun i wi => ∃ t : Nat, t ≤ 32 ∧ i = .int .i64 t ∧ wi.rowIs wo.heap.size 96 32 (fun i => if i < t then .int .u8 (rsumB n m i) else .int .u8 0) ∧ wi.rowIs w2.heap.size 132 8 (n32 (rsumV n m)) ∧ wi.rowIs w.heap.size 96 32 (n8 fun _ => 0) ∧ Fr None' w wi) (fun i _ => 32 - (intOf i).toNat)
      case atStart => exact ⟨0, by omega, rfl, r9.congr (fun i _ => by simp [n8]), rv9, ro9, f09⟩
      case round =>
        clear r9 rv9 ro9 f09
        obtain ⟨t, ht, rfl, rs, rv, ro, fr⟩ := hrel
        by_cases htlt : t < 32
        · have t0 : (t : Int) < 32 := by omega
          obtain ⟨p, hp⟩ : ∃ p, t / 4 = p := ⟨_, rfl⟩
          obtain ⟨s, hs⟩ : ∃ s, t % 4 = s := ⟨_, rfl⟩
          have hp2 : (t : Int) / 4 = p := by omega
          have hs2 : (t : Int) % 4 = s := by omega
          have p0 : (p : Int) < 8 := by omega
          have s0' : (s : Int) < 4 := by omega
          have cv := rv.cell (i := p) (by omega)
          have cs := rs.cell htlt
          have zf := rs.frozen t
          simp only [n32, Nat.lt_irrefl, if_false] at cv cs
          have s1' : IntKind.i64.wrap (8 * (s : Int)) = 8 * s := by rw [IntKind.wrap_i64]; omega
          have s2' : IntKind.i64.wrap (24 - 8 * (s : Int)) = 24 - 8 * s := by rw [IntKind.wrap_i64]; omega
          have s3' : 8 * (s : Int) ≤ 24 := by omega
          have s4' : (24 - 8 * (s : Int)).toNat = 24 - 8 * s := by omega
          have HP : Hid (t / 4 = p ∧ t % 4 = s) := ⟨hp, hs⟩
          clear hp hs
          go_wp2_with fail
          have hP := HP.out
          refine ⟨⟨t + 1, by omega, by go_num, (rs.set t _).congr (fun i _ => ?_), rv.setOther (by simp; omega) _, ro.setOther (by simp; omega) _, fr.trans (Fr.setCell (M := fun i => i = wo.heap.size) _ rfl _) (fun i e => Or.inr (by omega))⟩, by simp [intOf]; omega⟩
          by_cases e : i = t
          · subst e
            rw [if_pos rfl, if_pos (by omega)]
            unfold rsumB
            rw [hP.1, hP.2, bt_pow _ s (by omega)]
          · rw [if_neg e]
            by_cases h1 : i < t
            · rw [if_pos h1, if_pos (by omega)]
            · rw [if_neg h1, if_neg (by omega)]
        · have t0 : (32 : Int) ≤ t := by omega
          have q1' : wr.rowIs wo.heap.size 96 32 (n8 (rsumB n m)) := rs.congr (fun i hi => by rw [if_pos (by omega)]; rfl)
          clear rs rv htlt ht
          go_wp2_with (first
            | refine load_arr Tryz.underlying96 info32 wo.heap.size q1' _ rfl rfl rfl ?_
            | refine store_arr info32 w.heap.size ro (fun _ _ => rfl) _ _ rfl rfl rfl rfl rfl ?_)
          refine bodyPost_ret (v := .agg (arr 32 (n8 (rsumB n m)))) (result_arr Tryz.underlying96 info32 rfl _ rfl (rowIs_setRow ro)) rfl ⟨rfl, ?_⟩
          exact fr.trans (Fr.setRow (M := fun i => i = w.heap.size) _ rfl _) (fun i e => Or.inr (by omega))
end Go.Proofs.YtdaogldmcbfmoaaGreatDoor.Sha

namespace Go.Proofs.YtdaogldmcbfmoaaGreatDoor.Sha
set_option maxRecDepth 100000

theorem W_congr {m m' : Nat → Int} (h : ∀ i, i < 64 → m i = m' i) : W m = W m' := by
  funext i
  induction i using Nat.strongRecOn with
  | _ i ih =>
    by_cases hi : i < 16
    · rw [W_low m i hi, W_low m' i hi, h (4 * i) (by omega), h (4 * i + 1) (by omega), h (4 * i + 2) (by omega), h (4 * i + 3) (by omega)]
    · rw [W_high m i (by omega), W_high m' i (by omega), ih (i - 16) (by omega), ih (i - 15) (by omega), ih (i - 7) (by omega), ih (i - 2) (by omega)]

theorem blk_congr {k m m' v : Nat → Int} (h : ∀ i, i < 64 → m i = m' i) : blk k m v = blk k m' v := by
  funext i
  unfold blk
  rw [W_congr h]

theorem blks_congr {k m m' v : Nat → Int} : ∀ b, (∀ i, i < 64 * b → m i = m' i) → blks k m v b = blks k m' v b
  | 0, _ => rfl
  | b + 1, h => by
    show blk k (fun i => m (64 * b + i)) (blks k m v b) = blk k (fun i => m' (64 * b + i)) (blks k m' v b)
    rw [blks_congr b (fun i hi => h i (by omega))]
    exact blk_congr (fun i hi => h (64 * b + i) (by omega))

theorem blks_add (k m v : Nat → Int) (a : Nat) : ∀ b, blks k m v (a + b) = blks k (fun i => m (64 * a + i)) (blks k m v a) b
  | 0 => rfl
  | b + 1 => by
    show blk k (fun i => m (64 * (a + b) + i)) (blks k m v (a + b)) = blk k (fun i => m (64 * a + (64 * b + i))) (blks k (fun i => m (64 * a + i)) (blks k m v a) b)
    rw [blks_add k m v a b]
    exact blk_congr (fun i _ => by rw [Nat.mul_add, Nat.add_assoc])

theorem getD_left (a b : List Int) {i : Nat} (h : i < a.length) : (a ++ b).getD i 0 = a.getD i 0 := by
  rw [List.getD_eq_getElem?_getD, List.getD_eq_getElem?_getD, List.getElem?_append_left h]

theorem getD_right (a b : List Int) {i : Nat} (h : a.length ≤ i) : (a ++ b).getD i 0 = b.getD (i - a.length) 0 := by
  rw [List.getD_eq_getElem?_getD, List.getD_eq_getElem?_getD, List.getElem?_append_right h]

theorem padL_low (n : Nat) (m : Nat → Int) {i : Nat} (h : i < n) : (padL n m).getD i 0 = m i := by
  unfold padL
  rw [getD_left _ _ (by simp; omega), getD_left _ _ (by simp; omega), getD_left _ _ (by simp; omega)]
  exact range_getD n m h

theorem padL_mid (n : Nat) (m : Nat → Int) : (padL n m).getD n 0 = 128 := by
  unfold padL
  rw [getD_left _ _ (by simp <;> omega), getD_left _ _ (by simp), getD_right _ _ (by simp)]
  simp

theorem padL_zero (n : Nat) (m : Nat → Int) {i : Nat} (h : n < i) (h2 : i < n + 1 + zs n) : (padL n m).getD i 0 = 0 := by
  unfold padL
  rw [getD_left _ _ (by simp; omega), getD_right _ _ (by simp; omega)]
  rw [List.getD_eq_getElem?_getD, List.getElem?_replicate]
  split <;> rfl

theorem padL_len (n : Nat) (m : Nat → Int) {k : Nat} (h : k < 8) : (padL n m).getD (n + 1 + zs n + k) 0 = lenB n k := by
  unfold padL
  rw [getD_right _ _ (by simp; omega)]
  have e : n + 1 + zs n + k - ((List.range n).map m ++ [128] ++ List.replicate (zs n) 0).length = k := by simp; omega
  rw [e]
  exact range_getD 8 (lenB n) h

theorem lenB_high (n : Nat) (hn : n ≤ 100000) {k : Nat} (h : k < 4) : lenB n k = 0 := by
  unfold lenB
  have : k = 0 ∨ k = 1 ∨ k = 2 ∨ k = 3 := by omega
  rcases this with rfl | rfl | rfl | rfl <;> simp <;> omega

theorem lenB_low (n : Nat) {k : Nat} (h : k < 4) : lenB n (k + 4) = bt (8 * n) k := by
  unfold lenB
  rw [show 56 - 8 * (k + 4) = 24 - 8 * k by omega]
  exact bt_pow _ k h

theorem put4_in (o : Nat) (x : Int) (f : Nat → Value) {i : Nat} (h : o ≤ i ∧ i < o + 4) : put4 o x f i = .int .u8 (bt x (i - o)) := by unfold put4; rw [if_pos h]
theorem put4_out (o : Nat) (x : Int) (f : Nat → Value) {i : Nat} (h : ¬ (o ≤ i ∧ i < o + 4)) : put4 o x f i = f i := by unfold put4; rw [if_neg h]

theorem bt_zero (k : Nat) : bt 0 k = 0 := by unfold bt; split <;> rfl

/-- The end that is mixed in is the end of what the document pads. -/
theorem end_same (n : Nat) (m : Nat → Int) (hn : n ≤ 100000) {i : Nat} (hi : i < lastSize (n % 64)) : (padL n m).getD (64 * (n / 64) + i) 0 = lastB (n % 64) (fun i => m (n - n % 64 + i)) n i := by
  obtain ⟨r, hr⟩ : ∃ r, n % 64 = r := ⟨_, rfl⟩
  obtain ⟨q, hq⟩ : ∃ q, 64 * (n / 64) = q := ⟨_, rfl⟩
  have hnq : n = q + r := by omega
  have hr64 : r < 64 := by omega
  rw [hr, hq]
  rw [hr] at hi
  obtain ⟨s, hs⟩ : ∃ s, lastSize r = s := ⟨_, rfl⟩
  have hz : n + 1 + zs n = q + (s - 8) ∧ r < s - 8 := by
    unfold zs
    rw [hr, ← hs]
    unfold lastSize
    split <;> omega
  have hs2 : 8 ≤ s := by rw [← hs]; unfold lastSize; split <;> omega
  have hL : (8 * (n : Int)) % 18446744073709551616 % 4294967296 = 8 * n := by omega
  have hH : (8 * (n : Int)) % 18446744073709551616 / 4294967296 % 4294967296 = 0 := by omega
  unfold lastB lastF
  rw [hs, hL, hH]
  rw [hs] at hi
  by_cases h4 : s - 4 ≤ i
  · rw [put4_in _ _ _ ⟨h4, by omega⟩]
    show _ = bt (8 * n) (i - (s - 4))
    rw [show q + i = n + 1 + zs n + (i - (s - 4) + 4) by omega, padL_len n m (by omega), lenB_low n (by omega)]
  · rw [put4_out _ _ _ (by omega)]
    by_cases h8 : s - 8 ≤ i
    · rw [put4_in _ _ _ ⟨h8, by omega⟩]
      show _ = bt 0 (i - (s - 8))
      rw [bt_zero, show q + i = n + 1 + zs n + (i - (s - 8)) by omega, padL_len n m (by omega), lenB_high n hn (by omega)]
    · rw [put4_out _ _ _ (by omega)]
      by_cases h1 : i = r
      · rw [if_pos h1, h1, ← hnq, padL_mid]
        rfl
      · rw [if_neg h1]
        by_cases h2 : i < r
        · rw [if_pos h2, padL_low n m (by omega)]
          show m (q + i) = m (n - r + i)
          rw [show n - r + i = q + i by omega]
        · rw [if_neg h2, padL_zero n m (by omega) (by omega)]
          rfl

theorem rsumV_eq (n : Nat) (m : Nat → Int) (hn : n ≤ 100000) : rsumV n m = sumV n m := by
  unfold rsumV sumV
  have e : (n + 1 + zs n + 8) / 64 = n / 64 + lastSize (n % 64) / 64 := by
    unfold zs lastSize
    split <;> omega
  rw [e, blks_add]
  rw [blks_congr (m' := m) (n / 64) (fun i hi => padL_low n m (by omega))]
  refine blks_congr _ (fun i hi => end_same n m hn ?_)
  have : 64 * (lastSize (n % 64) / 64) = lastSize (n % 64) := by unfold lastSize; split <;> rfl
  omega

theorem rsumB_eq (n : Nat) (m : Nat → Int) (hn : n ≤ 100000) : rsumB n m = sumB n m := by
  funext i
  unfold rsumB sumB
  rw [rsumV_eq n m hn]
end Go.Proofs.YtdaogldmcbfmoaaGreatDoor.Sha

namespace Go.Proofs.YtdaogldmcbfmoaaGreatDoor.Sha
open Go.RowKit
set_option maxRecDepth 100000

theorem two_lies (w : World) (k : IntKind) (x y : Int) (t : TypeId) : Lies k (w.alloc (.cells #[.int k x, .int k y] t)) (some ⟨w.heap.size, 0, none⟩) 2 (fun i => if i = 0 then x else y) := fun i hi => by
  have hb := heap_alloc_new w (.cells #[.int k x, .int k y] t)
  have : i = 0 ∨ i = 1 := by omega
  rcases this with rfl | rfl <;> (refine ⟨_, _, rfl, ?_⟩; unfold World.cell?; simp only [hb]; rfl)

theorem range_two (x y : Int) : (List.range 2).map (fun i => if i = 0 then x else y) = [x, y] := rfl

/-- Some numbers more, as one step of a region that draws its order. -/
theorem step_many {e t : TypeId} {k : IntKind} {by' : Nat} (hu : Tryz.prog.underlying t = some (.slice e)) (hinfo : (Tryz.prog.info? e).map (fun i => (i.zero, i.size, i.bytes)) = some (some (.int k 0), 1, by')) (hby : by' ≤ 8)
    {ops : Array Oper} {o : Oper} {a : Act} {K : Act → World → Prop} {Q : Exit → Act → World → Prop} {E : Prop} {w : World} (hgd : o.guard = none) (s x : Operand)
    (ho : o.op = .call { callee := .builtin .append, args := #[s, x], argTypes := #[t, t] })
    {w0 : World} {v : Value} {l : List Int} (hs : a.eval s = v) (hown : Own e k w0 w v l) (hfr : Fr None' w0 w) {b n : Nat} {m : Nat → Int} (hx : a.eval x = .slice (some ⟨b, 0, none⟩) n n) (h0 : 0 < n) (hl : Lies k w (some ⟨b, 0, none⟩) n m) (hbig : l.length + n ≤ 100000)
    (h : ∀ v' w', Own e k w0 w' v' (l ++ (List.range n).map m) → Fr None' w0 w' → K (a.put o.dst v') w') : if Region.wanted o (yielded ops a.tmps) = true then Oper.wp Tryz.prog o a w K Q else E := by
  obtain ⟨i0, hi, hz0, hz1, hz2⟩ := info_parts hinfo
  have hm : (l.length + n) * by' ≤ 100000 * 8 := Nat.mul_le_mul (by omega) hby
  refine step_append_lies _ hgd s x t ho w0.heap.size e i0 (.int k 0) 1 by' hu hi hz0 hz1 hz2 rfl (by decide) v _ _ hs hown ⟨b, 0, none⟩ n n (((List.range n).map m).map (Value.int k)) hx (by simp) (fun j u hj => ?_) (fun u hu => by obtain ⟨z, _, rfl⟩ := List.mem_map.1 hu; rfl) h0 (by unfold maxLen; omega) (by omega) hfr.size _ rfl ?_
  · have hjn : j < n := by
      have := (List.getElem?_eq_some_iff.1 hj).1
      simpa using this
    obtain ⟨b', o', e, hc⟩ := hl j hjn
    cases e
    have hadd : (⟨b, 0, none⟩ : Addr).add j = ⟨b, 0 + j, none⟩ := by unfold Addr.add; split <;> simp_all
    rw [hadd, hc]
    simp [List.getElem?_map, List.getElem?_range hjn] at hj
    rw [← hj]
  intro g cap w' h1 h2 _ _
  refine h _ w' ?_ ?_
  · unfold Own
    rw [List.length_append, List.map_append, List.length_map, List.length_range]
    exact h1
  · refine hfr.trans (Fr.grown (M := fun i => v.ownBlock = some i) h2 (fun k e => e)) (fun i e => Or.inr ?_)
    rcases hown.2 with ⟨hvv, _⟩ | ⟨g', cap', cur', hvv, hb', _⟩
    · rw [hvv] at e; cases e
    · rw [hvv] at e; cases e; exact hb'

def dig : ByteArray := ⟨#[48, 49, 50, 51, 52, 53, 54, 55, 56, 57, 97, 98, 99, 100, 101, 102]⟩
theorem dig_at (p : Nat) (h : p < dig.size) : ((dig[p]).toNat : Int) = hexc p := by
  have : p < 16 := h
  have : p = 0 ∨ p = 1 ∨ p = 2 ∨ p = 3 ∨ p = 4 ∨ p = 5 ∨ p = 6 ∨ p = 7 ∨ p = 8 ∨ p = 9 ∨ p = 10 ∨ p = 11 ∨ p = 12 ∨ p = 13 ∨ p = 14 ∨ p = 15 := by omega
  rcases this with rfl | rfl | rfl | rfl | rfl | rfl | rfl | rfl | rfl | rfl | rfl | rfl | rfl | rfl | rfl | rfl <;> rfl

theorem name_two (n : Nat) (m : Nat → Int) (j : Nat) : (List.range (2 * (j + 1))).map (nameB n m) = (List.range (2 * j)).map (nameB n m) ++ [hexc (sumB n m j / 16), hexc (sumB n m j % 16)] := by
  rw [show 2 * (j + 1) = 2 * j + 1 + 1 by omega, range_succ_map, range_succ_map, List.append_assoc]
  have e0 : nameB n m (2 * j) = hexc (sumB n m j / 16) := by unfold nameB; rw [if_pos (by omega), show 2 * j / 2 = j by omega]
  have e1 : nameB n m (2 * j + 1) = hexc (sumB n m j % 16) := by unfold nameB; rw [if_neg (by omega), show (2 * j + 1) / 2 = j by omega]
  rw [e0, e1]
  rfl

set_option maxHeartbeats 4000000 in
theorem rname_any (va : Option Addr) (n c : Nat) (m : Nat → Int) (w : World) (h : Byt w (.slice va n c) n m) (hn : va = none → c = 0) (hbig : n ≤ 99000) :
   Calls Tryz.prog 27 #[.slice va n c] w fun e w' => e = .returned (.string ⟨(nameS n m).toArray⟩) ∧ Fr None' w w' := by
  have hs := rsum_any va n c m w h hn hbig
  rw [rsumB_eq n m (by omega)] at hs
  clear h hn
  go_enter Tryz.func27, Tryz.ntmps27
  go_wp2_with fail
  refine hs.mono ?_
  rintro e w1 ⟨rfl, f1⟩
  clear hs
  go_wp2_with (first
    | (refine store_arr2 info32 _ _ rfl rfl rfl w1.heap.size rfl rfl (fun _ _ => rfl) (f0 := n8 fun _ => 0) (rowIs_of (heap_alloc_new w1 _)) ?_
       intro w3 r3 f3))
  replace f3 := f1.then ((Fr.alloc None' w1 _).trans f3 (fun i e => Or.inr (by omega)))
  have l3 := r3.lt
  have l1 := f1.size
  clear f1
  generalize hD : (⟨#[48, 49, 50, 51, 52, 53, 54, 55, 56, 57, 97, 98, 99, 100, 101, 102]⟩ : ByteArray) = D
  have hD1 : D.size = 16 := by rw [← hD]; rfl
  have HD : Hid (D = dig) := hD.symm
  clear hD
  go_loopw [5, 6] (fun v i wr => ∃ j : Nat, j ≤ 32 ∧ i = .int .i64 j ∧ Own 5 .u8 w3 wr v ((List.range (2 * j)).map (nameB n m)) ∧ Fr None' w3 wr) (fun _ i _ => 32 - (intOf i).toNat)
  case atStart => exact ⟨0, by omega, rfl, Own.nil _ _ _ _, Fr.refl _ _⟩
  case round =>
    obtain ⟨j, hj, rfl, hown, fr⟩ := hrel
    by_cases hlt : j < 32
    · have i0 : (j : Int) < 32 := by omega
      obtain ⟨s, hs⟩ : ∃ s, sumB n m j = s := ⟨_, rfl⟩
      have hb := sumB_range n m j
      have hnt := name_two n m j
      rw [hs] at hb hnt
      have hS : Hid (∀ w', Fr None' w3 w' → w'.cell? ⟨w1.heap.size, j, none⟩ = some (.int .u8 s)) := fun w' f => by rw [← hs]; exact (f.rowIs r3 id).cell hlt
      obtain ⟨p, hp⟩ : ∃ p : Nat, s / 16 = p := ⟨(s / 16).toNat, by omega⟩
      obtain ⟨q, hq⟩ : ∃ q : Nat, s % 16 = q := ⟨(s % 16).toNat, by omega⟩
      have b0 : 0 ≤ s := by omega
      have b1 : s ≤ 255 := by omega
      have p0 : p < D.size := by omega
      have q0 : q < D.size := by omega
      have p1 : (p : Int) < 16 := by omega
      have q1 : (q : Int) < 16 := by omega
      have e1 : Int.tdiv s 16 = p := by rw [Int.tdiv_eq_ediv_of_nonneg b0]; exact hp
      have e2 : Int.tmod s 16 = q := by rw [Int.tmod_eq_emod_of_nonneg b0]; exact hq
      have e3 : IntKind.u8.wrap (p : Int) = p := by rw [IntKind.wrap_u8]; omega
      have e4 : IntKind.u8.wrap (q : Int) = q := by rw [IntKind.wrap_u8]; omega
      have HP : Hid (((D[p]).toNat : Int) = hexc p ∧ ((D[q]).toNat : Int) = hexc q) := by
        have hd := HD.out
        subst hd
        exact ⟨dig_at p p0, dig_at q q0⟩
      rw [hp, hq] at hnt
      have HN : Hid (_ = _) := hnt
      clear hs hb hnt r3
      go_wp2_with fail
      have hown' : Own 5 .u8 w3 wr.drew _ ((List.range (2 * j)).map (nameB n m)) := hown.fr (Fr.drewN None' wr 1)
      have fr' : Fr None' w3 wr.drew := fr.then (Fr.drewN None' wr 1)
      clear hown fr
      go_region_held3 (fun w' => w'.cell? ⟨w1.heap.size, j, none⟩ = some (.int .u8 s))
        (first | exact hS.out _ f4 | exact hS.out _ (fr'.then (Fr.alloc None' _ _)) | exact hS.out _ fr')
        (first | (refine step_many Tryz.underlying57 Tryz.info8 (by omega) rfl _ _ rfl rfl (hown'.alloc _) (fr'.then (Fr.alloc None' _ _)) rfl (by omega) (two_lies _ .u8 _ _ _) (by simp; omega) ?_; intro v4 w4 own4 f4))
      all_goals go_wp2_with fail
      all_goals
        refine ⟨⟨j + 1, by omega, by go_num, ?_, f4⟩, by simp [intOf]; omega⟩
        rw [HN.out, ← HP.out.1, ← HP.out.2]
        exact own4
    · have i0 : (32 : Int) ≤ (j : Int) := by omega
      have hj32 : j = 32 := by omega
      rw [hj32] at hown
      obtain ⟨g, cg, rfl, hcg, hg1, hg2, hat⟩ := hown.got (by simp)
      have hlen : ((List.range (2 * 32)).map (nameB n m)).length = 64 := by simp
      rw [hlen] at hcg hat ⊢
      have hcv := fun wx (hx : wx = wr) => run_convert_bytes_back (P := Tryz.prog) wx 57 9 5 ⟨g, 0, none⟩ cg (nameS n m) Tryz.underlying57 Tryz.underlying5 Tryz.underlying9 (fun i hi => by
        subst hx
        rw [nameS_at]
        have hadd : (⟨g, 0, none⟩ : Addr).add i = ⟨g, i, none⟩ := by unfold Addr.add; split <;> simp_all
        rw [nameS_length] at hi
        rw [hadd, hat i hi, range_getD 64 (nameB n m) hi])
      replace hcv := hcv wr rfl
      rw [nameS_length] at hcv
      have f0 := f3.then fr
      clear r3 hown hat hlt hj hj32 hlen fr f3
      go_wp2
      go_ret
      exact ⟨rfl, f0⟩

theorem okd_is (c : UInt8) : okd c = !(((decide ((c.toNat : Int) < 48) || decide ((57 : Int) < c.toNat)) && (decide ((c.toNat : Int) < 97) || decide ((102 : Int) < c.toNat)))) := by
  unfold okd
  rw [Bool.eq_iff_iff]
  simp <;> omega

set_option maxHeartbeats 1000000 in
theorem rnamed_any (s : ByteArray) (w : World) (hs : s.size ≤ maxLen) : Calls Tryz.prog 176 #[.string s] w fun e w' => e = .returned (.bool (namedB s.data.toList)) ∧ Fr None' w w' := by
  have e : s.data.toList.length = s.size := by cases s; rfl
  unfold maxLen at hs
  have hR : Hid (namedB s.data.toList = (decide (s.size = 64) && s.data.toList.all okd)) := by
    unfold Hid namedB; rw [e]
  clear e
  go_enter Tryz.func176, Tryz.ntmps176
  go_wp2_with fail
  go_loopw [3] (fun i wr => ∃ k : Nat, k ≤ s.size ∧ i = .int .i64 k ∧ (s.data.toList.take k).all okd = true ∧ Fr None' w wr) (fun i _ => s.size - (intOf i).toNat)
  case atStart => exact ⟨0, Nat.zero_le _, rfl, rfl, Fr.refl _ _⟩
  case round =>
    obtain ⟨k, hk, rfl, hall, fr⟩ := hrel
    have HA : Hid ((s.data.toList.take k).all okd = true) := hall
    clear hall
    by_cases hlt : k < s.size
    · obtain ⟨c, hc⟩ : ∃ c : Nat, (s[k]).toNat = c := ⟨_, rfl⟩
      have hd := okd_is s[k]
      rw [hc] at hd
      have i0 : (k : Int) < s.size := by omega
      have hcs : (c : Int) < 48 ∨ (48 ≤ (c : Int) ∧ (c : Int) ≤ 57) ∨ (57 < (c : Int) ∧ (c : Int) < 97) ∨ (97 ≤ (c : Int) ∧ (c : Int) ≤ 102) ∨ 102 < (c : Int) := by omega
      rcases hcs with g1 | ⟨g1, g2⟩ | ⟨g1, g2⟩ | ⟨g1, g2⟩ | g1
      · have g3 : (c : Int) < 97 := by omega
        have hd2 : Hid (okd s[k] = false) := by show _ = _; rw [hd]; simp; omega
        clear hd
        go_wp2_with fail
        go_ret
        refine ⟨?_, fr⟩
        rw [hR.out, all_no hlt hd2.out, Bool.and_false]
        rfl
      · have g3 : (c : Int) < 97 := by omega
        have hd2 : Hid (okd s[k] = true) := by show _ = _; rw [hd]; simp; omega
        clear hd
        go_wp2_with fail
        exact ⟨⟨k + 1, by omega, by go_num, all_step hlt HA.out hd2.out, fr⟩, by simp [intOf]; omega⟩
      · have g3 : (48 : Int) ≤ c := by omega
        have hd2 : Hid (okd s[k] = false) := by show _ = _; rw [hd]; simp; omega
        clear hd
        go_wp2_with fail
        go_ret
        refine ⟨?_, fr⟩
        rw [hR.out, all_no hlt hd2.out, Bool.and_false]
        rfl
      · have g3 : (48 : Int) ≤ c := by omega
        have g4 : (57 : Int) < c := by omega
        have hd2 : Hid (okd s[k] = true) := by show _ = _; rw [hd]; simp; omega
        clear hd
        go_wp2_with fail
        exact ⟨⟨k + 1, by omega, by go_num, all_step hlt HA.out hd2.out, fr⟩, by simp [intOf]; omega⟩
      · have g3 : (48 : Int) ≤ c := by omega
        have g4 : (57 : Int) < c := by omega
        have g5 : (97 : Int) ≤ c := by omega
        have hd2 : Hid (okd s[k] = false) := by show _ = _; rw [hd]; simp; omega
        clear hd
        go_wp2_with fail
        go_ret
        refine ⟨?_, fr⟩
        rw [hR.out, all_no hlt hd2.out, Bool.and_false]
        rfl
    · have i0 : (s.size : Int) ≤ k := by omega
      go_wp2
      go_ret
      refine ⟨?_, fr⟩
      have ht := HA.out
      rw [List.take_of_length_le (by rw [show s.data.toList.length = s.size from by cases s; rfl]; omega)] at ht
      rw [hR.out, ht, Bool.and_true]
      have e64 : ((s.size : Int) == 64) = decide (s.size = 64) := by
        rw [Bool.eq_iff_iff]
        simp
        omega
      rw [← e64]
      rfl
end Go.Proofs.YtdaogldmcbfmoaaGreatDoor.Sha
