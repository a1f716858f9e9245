/- What is proved here: contracts for RecordMakes. Conditions: as named. -/
import Derived.Test.YtbnfjjjdnbcehaaGreatDoorX26RFindE
import Derived.Test.YtbnfjjjdnbcehaaGreatDoorX7LStrs
import Derived.BigQuiet
set_option maxHeartbeats 16000000
namespace Go.Proofs.YtbnfjjjdnbcehaaGreatDoor
open Go.RowKit
set_option maxRecDepth 100000
attribute [local irreducible] wpQuiet
structure FrE (w : World) where
 to : World
 fr : Fr None' w to
instance (w : World) : Inhabited (FrE w) := ⟨⟨w, Fr.refl _ _⟩⟩
theorem esame_any (va vb : Option Addr) (n c d : Nat) (L : List En) (w : World) (hl : L.length = n) (ha : Z0 w va L) (hb : Z0 w vb L) (hn : n ≤ 100000) (hs : SmallE L) :
  Calls Tryz.prog 23 #[.slice va n c, .slice vb n d] w fun e w' => e = .returned (.bool true) ∧ Fr None' w w' := by
 have HL : Hid (L.length = n) := hl
 have HA : Hid (Z0 w va L) := ha
 have HB : Hid (Z0 w vb L) := hb
 have HS : Hid (SmallE L) := hs
 have i1 : (n : Int) ≤ 100000 := by omega
 clear hl ha hb hn hs
 go_enter Tryz.func23, Tryz.ntmps23
 go_wp2_with fail
 go_loopw [5] (fun vi wr => ∃ k : Nat, k ≤ n ∧ vi = .int .i64 k ∧ Hid (Fr None' w wr)) (fun vi _ => n - (intOf vi).toNat)
 case atStart => exact ⟨0, Nat.zero_le _, rfl, Fr.refl _ _⟩
 case round =>
  obtain ⟨k, hk, rfl, HF⟩ := hrel
  by_cases hlt : k < n
  ·have hkL : k < L.length := by rw [HL.out]; exact hlt
   obtain ⟨g, o, rfl, vl, d0, d1, d2, d3, hs1⟩ := (HA.out.kept HF.out).get hkL
   obtain ⟨g2, o2, rfl, vl2, e0, e1, e2, e3, hs2⟩ := (HB.out.kept HF.out).get hkL
   obtain ⟨z1, z2, z3, z4⟩ := HS.out _ (List.getElem_mem hkL)
   obtain ⟨pl, cl, rfl, _, _, r1⟩ := hs1
   obtain ⟨pl2, cl2, rfl, _, _, r2⟩ := hs2
   have cS : ∀ x : FrE wr, Calls Tryz.prog 50 #[.slice pl L[k].lines.length cl, .slice pl2 L[k].lines.length cl2] x.to fun e w' => e = .returned (.bool true) ∧ ∃ y : FrE wr, w' = y.to := fun x => by
    have h := Lines.same_any pl pl2 cl cl2 L[k].lines L[k].lines x.to (r1.fr (toLN x.fr)) (r2.fr (toLN x.fr)) (by omega)
    rw [decide_eq_true rfl] at h
    exact h.mono fun _ _ h => ⟨h.1, ⟨_, x.fr.then7 (ofLN h.2)⟩, rfl⟩
   obtain ⟨x, hxe⟩ : ∃ x, L[k] = x := ⟨_, rfl⟩
   rw [hxe] at d0 d1 d2 d3 e0 e1 e2 e3 cS
   obtain ⟨P, K, l, Da⟩ := x
   simp only at d0 d1 d2 d3 e0 e1 e2 e3 cS
   obtain ⟨nl, hnl⟩ : ∃ m, l.length = m := ⟨_, rfl⟩
   rw [hnl] at d2 e2 cS
   have K0 : ∀ x : FrE wr, x.to.cell? ⟨g, o + k * 4, none⟩ = some (.string P) := fun x => x.fr.keepCell d0 (fun e => e)
   have K1 : ∀ x : FrE wr, x.to.cell? ⟨g, o + k * 4 + 1, none⟩ = some (.int .i64 K) := fun x => x.fr.keepCell d1 (fun e => e)
   have K2 : ∀ x : FrE wr, x.to.cell? ⟨g, o + k * 4 + 2, none⟩ = some (.slice pl nl cl) := fun x => x.fr.keepCell d2 (fun e => e)
   have K3 : ∀ x : FrE wr, x.to.cell? ⟨g, o + k * 4 + 3, none⟩ = some (.string Da) := fun x => x.fr.keepCell d3 (fun e => e)
   have J0 : ∀ x : FrE wr, x.to.cell? ⟨g2, o2 + k * 4, none⟩ = some (.string P) := fun x => x.fr.keepCell e0 (fun e => e)
   have J1 : ∀ x : FrE wr, x.to.cell? ⟨g2, o2 + k * 4 + 1, none⟩ = some (.int .i64 K) := fun x => x.fr.keepCell e1 (fun e => e)
   have J2 : ∀ x : FrE wr, x.to.cell? ⟨g2, o2 + k * 4 + 2, none⟩ = some (.slice pl2 nl cl2) := fun x => x.fr.keepCell e2 (fun e => e)
   have J3 : ∀ x : FrE wr, x.to.cell? ⟨g2, o2 + k * 4 + 3, none⟩ = some (.string Da) := fun x => x.fr.keepCell e3 (fun e => e)
   have i2 : (k : Int) < (n : Int) := by omega
   have i3 : (0 : Int) ≤ (k : Int) := by omega
   clear hxe hnl d0 d1 d2 d3 e0 e1 e2 e3 z1 z2 z3 z4 r1 r2
   go_wp2_with fail
   refine wp_region_quiet (C := fun w' => ∃ x : FrE wr, w' = x.to) (by kernel_rfl) (by kernel_rfl) ⟨⟨_, Fr.drew None' wr⟩, rfl⟩ ?_
   simp only
   repeat (quiet_step ((go_at_call 50; exact cS _)))
   refine wpQuiet_nil ?_
   intro w10 hw10
   obtain ⟨x, rfl⟩ := hw10
   have HX : Hid (Fr None' w x.to) := HF.out.then7 x.fr
   clear K0 K1 K2 K3 J0 J1 J2 J3 cS
   go_wp2_with fail
   exact ⟨⟨k + 1, by omega, by go_num, HX.out⟩, by simp [intOf]; omega⟩
  ·go_wp2_with fail
   go_ret
   exact ⟨rfl, HF.out⟩
end Go.Proofs.YtbnfjjjdnbcehaaGreatDoor
