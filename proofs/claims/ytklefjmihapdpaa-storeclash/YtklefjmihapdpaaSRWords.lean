/-
  What is proved here: what the document's words answers. Condition: the block's 64 bytes lie in memory.
-/
import Derived.Test.YtklefjmihapdpaaSRPad
import Derived.Deep.RegionHeld3
namespace Go.Proofs.Ytklefjmihapdpaa.Sha
open Go.RowKit
set_option maxRecDepth 100000

theorem Own.u32 {w0 w : World} {v : Value} {k : Nat} {f : Nat → Int} (h : Own 77 .u32 w0 w v ((List.range k).map f)) (hk : 0 < k) : ∃ g c, v = .slice (some ⟨g, 0, none⟩) k c ∧ k ≤ c ∧ g < w.heap.size ∧ w0.heap.size ≤ g ∧ ∀ i, i < k → w.cell? ⟨g, i, none⟩ = some (.int .u32 (f i)) := by
  rcases h.2 with ⟨_, h0⟩ | ⟨g, cap, cur, hv, hb, hh, hc, _, hs, ht⟩
  · simp at h0; omega
  · rw [List.length_map, List.length_range] at hv hc ht
    refine ⟨g, cap, hv, hc, (Array.getElem?_eq_some_iff.1 hh).1, hb, fun i hi => ?_⟩
    have hl : (((List.range k).map f).map (Value.int .u32))[i]? = some (.int .u32 (f i)) := by
      rw [List.getElem?_map, List.getElem?_map, List.getElem?_range hi]; rfl
    rw [← ht, List.getElem?_take, if_pos (by omega)] at hl
    rw [World.cell?, hh]
    simpa using hl

theorem wrap3 (a b c d : Int) : IntKind.u32.wrap (IntKind.u32.wrap (IntKind.u32.wrap (a + b) + c) + d) = (a + b + c + d) % 4294967296 := by
  simp only [IntKind.wrap_u32]
  omega

set_option maxHeartbeats 4000000 in
theorem rwords_any (b : Nat) (o len cap : Nat) (m : Nat → Int) (w : World) (hl : 64 ≤ len)
  (hc : ∀ i : Nat, i < 64 → w.cell? ⟨b, o + i, none⟩ = some (.int .u8 (m i))) :
   Calls Try.prog 50 #[.slice (some ⟨b, o, none⟩) len cap] w fun e w' => ∃ v, e = .returned v ∧ Own 77 .u32 w w' v ((List.range 64).map (W m)) ∧ Fr None' w w' := by
  go_enter Try.func50, Try.ntmps50
  go_wp2_with fail
  go_loopw [3, 4] (fun v i wr => ∃ k : Nat, k ≤ 16 ∧ i = .int .i64 k ∧ Own 77 .u32 w wr v ((List.range k).map (W m)) ∧ Fr None' w wr) (fun _ i _ => 16 - (intOf i).toNat)
  case atStart => exact ⟨0, by omega, rfl, Own.nil _ _ _ _, Fr.refl _ _⟩
  case round =>
    obtain ⟨k, hk, rfl, hown, fr⟩ := hrel
    by_cases hlt : k < 16
    · have i0 : (k : Int) < 16 := by omega
      have c0 := fr.cell (hc (4 * k) (by omega)) id
      have c1 := fr.cell (hc (4 * k + 1) (by omega)) id
      have c2 := fr.cell (hc (4 * k + 2) (by omega)) id
      have c3 := fr.cell (hc (4 * k + 3) (by omega)) id
      have hW := W_low m k hlt
      have HW : Hid (W m k = _) := hW
      have l0 : (4 * (k : Int)) < (len : Int) := by omega
      have l1 : (4 * (k : Int)) + 1 < (len : Int) := by omega
      have l2 : (4 * (k : Int)) + 2 < (len : Int) := by omega
      have l3 : (4 * (k : Int)) + 3 < (len : Int) := by omega
      have d0 : 0 ≤ (4 * (k : Int)) := by omega
      have d1 : 0 ≤ (4 * (k : Int)) + 1 := by omega
      have d2 : 0 ≤ (4 * (k : Int)) + 2 := by omega
      have d3 : 0 ≤ (4 * (k : Int)) + 3 := by omega
      have v0 : IntKind.i64.wrap (4 * (k : Int)) = 4 * k := by rw [IntKind.wrap_i64]; omega
      have v1 : IntKind.i64.wrap (4 * (k : Int) + 1) = 4 * k + 1 := by rw [IntKind.wrap_i64]; omega
      have v2 : IntKind.i64.wrap (4 * (k : Int) + 2) = 4 * k + 2 := by rw [IntKind.wrap_i64]; omega
      have v3 : IntKind.i64.wrap (4 * (k : Int) + 3) = 4 * k + 3 := by rw [IntKind.wrap_i64]; omega
      have t0 : (4 * (k : Int)).toNat = 4 * k := by omega
      have t1 : (4 * (k : Int) + 1).toNat = 4 * k + 1 := by omega
      have t2 : (4 * (k : Int) + 2).toNat = 4 * k + 2 := by omega
      have t3 : (4 * (k : Int) + 3).toNat = 4 * k + 3 := by omega
      have hS : Hid (∀ w', Fr None' w w' → w'.cell? ⟨b, o + 4 * k, none⟩ = some (.int .u8 (m (4 * k))) ∧ w'.cell? ⟨b, o + (4 * k + 1), none⟩ = some (.int .u8 (m (4 * k + 1))) ∧ w'.cell? ⟨b, o + (4 * k + 2), none⟩ = some (.int .u8 (m (4 * k + 2))) ∧ w'.cell? ⟨b, o + (4 * k + 3), none⟩ = some (.int .u8 (m (4 * k + 3)))) := fun w' f => ⟨f.cell (hc (4 * k) (by omega)) id, f.cell (hc (4 * k + 1) (by omega)) id, f.cell (hc (4 * k + 2) (by omega)) id, f.cell (hc (4 * k + 3) (by omega)) id⟩
      clear hc hW c0 c1 c2 c3
      go_wp2_with fail
      have hown' : Own 77 .u32 w wr.drew _ ((List.range k).map (W m)) := hown.fr (Fr.drewN None' wr 1)
      have fr' : Fr None' w wr.drew := fr.then (Fr.drewN None' wr 1)
      clear hown fr
      go_region_held3 (fun w' => w'.cell? ⟨b, o + 4 * k, none⟩ = some (.int .u8 (m (4 * k))) ∧ w'.cell? ⟨b, o + (4 * k + 1), none⟩ = some (.int .u8 (m (4 * k + 1))) ∧ w'.cell? ⟨b, o + (4 * k + 2), none⟩ = some (.int .u8 (m (4 * k + 2))) ∧ w'.cell? ⟨b, o + (4 * k + 3), none⟩ = some (.int .u8 (m (4 * k + 3))))
        (first | exact hS.out _ f3 | exact hS.out _ (fr'.then (Fr.alloc None' _ _)) | exact hS.out _ fr')
        (first | (refine step_num Try.underlying81 Try.info4 (by omega) rfl _ _ rfl rfl (hown'.alloc _) (fr'.then (Fr.alloc None' _ _)) rfl (one_lies _ .u32 _ _) (by simp; omega) ?_; intro v3 w3 own3 f3))
      all_goals go_wp2_with fail
      go_roundw
      case rel =>
        refine ⟨k + 1, by omega, by go_num, ?_, f3⟩
        rw [range_succ_map, HW.out]
        exact own3
      case measure => simp [intOf]; omega
    · have i0 : (16 : Int) ≤ (k : Int) := by omega
      have hk16 : k = 16 := by omega
      rw [hk16] at hown
      clear hc hk hlt hk16
      go_wp2_with fail
      clear i0
      go_loopw [3, 5] (fun v i wr => ∃ k : Nat, 16 ≤ k ∧ k ≤ 64 ∧ i = .int .i64 k ∧ Own 77 .u32 w wr v ((List.range k).map (W m)) ∧ Fr None' w wr) (fun _ i _ => 64 - (intOf i).toNat)
      case atStart => exact ⟨16, by omega, by omega, rfl, hown, fr⟩
      case round =>
        clear hown fr
        obtain ⟨k, hk, hk2, rfl, hown, fr⟩ := hrel
        by_cases hlt : k < 64
        · have i0 : (k : Int) < 64 := by omega
          have i1 : (16 : Int) ≤ k := by omega
          obtain ⟨g, c, rfl, hgc, hg1, hg2, hat⟩ := hown.u32 (by omega)
          have a15 := hat (k - 15) (by omega)
          have a2 := hat (k - 2) (by omega)
          have a16 := hat (k - 16) (by omega)
          have a7 := hat (k - 7) (by omega)
          have t15 : ((k : Int) - 15).toNat = k - 15 := by omega
          have t2 : ((k : Int) - 2).toNat = k - 2 := by omega
          have t7 : ((k : Int) - 7).toNat = k - 7 := by omega
          have t16 : ((k : Int) - 16).toNat = k - 16 := by omega
          have b15 : (k : Int) - 15 < k := by omega
          have b2 : (k : Int) - 2 < k := by omega
          have b16 : (k : Int) - 16 < k := by omega
          have b7 : (k : Int) - 7 < k := by omega
          have d15 : 0 ≤ (k : Int) - 15 := by omega
          have d2 : 0 ≤ (k : Int) - 2 := by omega
          have d16 : 0 ≤ (k : Int) - 16 := by omega
          have d7 : 0 ≤ (k : Int) - 7 := by omega
          have HW : Hid (W m k = _) := W_high m k hk
          have e16 : Hid (wr.cell? ⟨g, k - 16, none⟩ = some (.int .u32 (W m (k - 16)))) := a16
          have e7 : Hid (wr.cell? ⟨g, k - 7, none⟩ = some (.int .u32 (W m (k - 7)))) := a7
          clear hat hlt a16 a7
          go_wp2_with fail
          refine (turned_any _ 7 (by omega) (by omega) _).mono ?_
          rintro e x1 ⟨rfl, n1, hw⟩
          have g1 : Fr None' wr x1 := hw ▸ Fr.drewN None' wr n1
          clear hw
          clear a15 a2
          go_wp2_with fail
          refine (turned_any _ 18 (by omega) (by omega) _).mono ?_
          rintro e x2 ⟨rfl, n2, hw⟩
          have g2 : Fr None' x1 x2 := hw ▸ Fr.drewN None' x1 n2
          clear hw
          go_wp2_with fail
          refine (turned_any _ 17 (by omega) (by omega) _).mono ?_
          rintro e x3 ⟨rfl, n3, hw⟩
          have g3 : Fr None' x2 x3 := hw ▸ Fr.drewN None' x2 n3
          clear hw
          go_wp2_with fail
          refine (turned_any _ 19 (by omega) (by omega) _).mono ?_
          rintro e x4 ⟨rfl, n4, hw⟩
          have g4 : Fr None' x3 x4 := hw ▸ Fr.drewN None' x3 n4
          clear hw
          have g0 := ((g1.then g2).then g3).then g4
          have hown2 := hown.fr g0
          have fr2 := fr.then g0
          have a16 := g0.cell e16.out id
          have a7 := g0.cell e7.out id
          clear g0 g1 g2 g3 g4
          clear hown fr e16 e7 t15 t2 b15 b2 d15 d2 t7 t16 b16 b7 d16 d7
          obtain ⟨p, hp⟩ : ∃ p, k - 16 = p := ⟨_, rfl⟩
          obtain ⟨q, hq⟩ : ∃ q, k - 7 = q := ⟨_, rfl⟩
          have w16 : IntKind.i64.wrap ((k : Int) - 16) = p := by rw [IntKind.wrap_i64]; omega
          have w7 : IntKind.i64.wrap ((k : Int) - 7) = q := by rw [IntKind.wrap_i64]; omega
          have b16 : (p : Int) < k := by omega
          have b7 : (q : Int) < k := by omega
          rw [hp] at a16 HW
          rw [hq] at a7 HW
          have HP : Hid (p < k ∧ q < k) := ⟨by omega, by omega⟩
          clear hp hq
          go_wp2_with fail
          have hown' : Own 77 .u32 w x4.drew _ ((List.range k).map (W m)) := hown2.fr (Fr.drewN None' x4 1)
          have fr' : Fr None' w x4.drew := fr2.then (Fr.drewN None' x4 1)
          have hS : x4.drew.cell? ⟨g, p, none⟩ = some (.int .u32 (W m p)) ∧ x4.drew.cell? ⟨g, q, none⟩ = some (.int .u32 (W m q)) := ⟨a16, a7⟩
          have hS2 : ∀ o, (x4.drew.alloc o).cell? ⟨g, p, none⟩ = some (.int .u32 (W m p)) ∧ (x4.drew.alloc o).cell? ⟨g, q, none⟩ = some (.int .u32 (W m q)) := fun o => ⟨(Fr.alloc None' x4.drew o).cell hS.1 id, (Fr.alloc None' x4.drew o).cell hS.2 id⟩
          have HS : Hid _ := hS
          have HS2 : Hid _ := hS2
          clear hown2 fr2 a16 a7 hS hS2
          go_region_held3 (fun w' => w'.cell? ⟨g, p, none⟩ = some (.int .u32 (W m p)) ∧ w'.cell? ⟨g, q, none⟩ = some (.int .u32 (W m q)))
            (first | exact ⟨(k3 p HP.out.1).trans (HS2.out _).1, (k3 q HP.out.2).trans (HS2.out _).2⟩ | exact HS2.out _ | exact HS.out)
            (first | (refine step_num2 Try.underlying81 Try.info4 (by omega) rfl _ _ rfl rfl (by simp) (hown'.alloc _) (fr'.then (Fr.alloc None' _ _)) rfl (one_lies _ .u32 _ _) (by simp; omega) ?_; intro v3 w3 own3 f3 k3))
          all_goals go_wp2_with fail
          go_roundw
          case rel =>
            refine ⟨k + 1, by omega, by omega, by go_num, ?_, f3⟩
            rw [range_succ_map, HW.out]
            rw [wrap3] at own3
            exact own3
          case measure => simp [intOf]; omega
        · have i0 : (64 : Int) ≤ (k : Int) := by omega
          have hk64 : k = 64 := by omega
          rw [hk64] at hown
          clear hk hk2 hlt hk64
          go_wp2
          go_ret
          exact ⟨_, rfl, hown, fr⟩
end Go.Proofs.Ytklefjmihapdpaa.Sha
