/- What is proved here: contracts for RecordMakes. Conditions: as named. -/
import Derived.Test.YtbnfjjjdnbcehaaGreatDoorX19Has8
import Derived.Test.YtbnfjjjdnbcehaaGreatDoorX12Clone11
import Derived.Test.YtbnfjjjdnbcehaaGreatDoorX25RightT
set_option maxHeartbeats 16000000
namespace Go.Proofs.YtbnfjjjdnbcehaaGreatDoor
open Go.RowKit Go.Maps Go.WideMaps
set_option maxRecDepth 100000
def putsE (L : List En) : List En := L.foldl putE []
theorem putsE_step {L : List En} {k : Nat} (hk : k < L.length) : putsE (L.take (k + 1)) = putE (putsE (L.take k)) L[k] := by
 unfold putsE
 rw [List.take_succ_eq_append_getElem hk, List.foldl_append]
 rfl
theorem of8_any (va : Option Addr) (n c : Nat) (L : List En) (w : World) (hl : L.length = n) (h : Z0 w va L) (hn : n ≤ 90000) (hs : SmallE L) :
  Calls Tryz.prog 46 #[.slice va n c] w fun e w' => ∃ b T, e = .returned (.map (some b)) ∧ Yt w' b n T ∧ ens T = putsE L ∧ Fr None' w w' ∧ w.heap.size ≤ b := by
 have HL := Zz hl
 have HE := Zz h
 have HS := Zz hs
 have hmm := @run_makeMap Tryz.prog
 have i1 : (n : Int) ≤ 90000 := by omega
 have G0 := Zz (Yt.start w)
 clear hl h hs
 go_enter Tryz.func46, Tryz.ntmps46
 go_wp2_with fail
 clear hmm
 go_loopw [9] (fun vi wr => ∃ (k : Nat) (T : List Th), k ≤ n ∧ vi = .int .i64 k ∧ Hid (Yt wr w.heap.size k T) ∧ Hid (ens T = putsE (L.take k)) ∧ Hid (Fr None' w wr)) (fun vi _ => n - (intOf vi).toNat)
 case atStart => exact ⟨0, [], Nat.zero_le _, rfl, G0.out, rfl, Fr.alloc None' w _⟩
 case round =>
  clear G0
  obtain ⟨k, T, hk, rfl, HT, HP, HF⟩ := hrel
  by_cases hlt : k < n
  ·have hkL : k < L.length := by rw [HL.out]; exact hlt
   obtain ⟨g, o, rfl, vl, d0, d1, d2, d3, hs1⟩ := HE.out.get hkL
   obtain ⟨z1, z2, z3, z4⟩ := HS.out _ (List.getElem_mem hkL)
   have HPS := Zz (putsE_step hkL)
   generalize L[k] = x at d0 d1 d3 hs1 z1 z3 HPS
   obtain ⟨P, K, l, Da⟩ := x
   simp only at d0 d1 d3 hs1 z1 z3
   replace d0 := HF.out.keepCell d0 (fun e => e)
   replace d1 := HF.out.keepCell d1 (fun e => e)
   replace d2 := HF.out.keepCell d2 (fun e => e)
   replace d3 := HF.out.keepCell d3 (fun e => e)
   obtain ⟨pl, cl, rfl, hq⟩ := hs1
   have hs1 : Zy w (.slice pl l.length cl) l := ⟨pl, cl, rfl, hq⟩
   clear hq
   have i2 : (k : Int) < (n : Int) := by omega
   have i3 : (0 : Int) ≤ (k : Int) := by omega
   obtain ⟨w1, hw1⟩ : ∃ w1, wr.alloc (.cells #[.string P, .int .i64 K, .slice pl l.length cl, .string Da] 45) = w1 := ⟨_, rfl⟩
   have F1 : Fr None' wr w1 := hw1 ▸ Fr.alloc None' wr _
   have B1 : w1.heap[wr.heap.size]? = some (.cells #[.string P, .int .i64 K, .slice pl l.length cl, .string Da] 45 (0, 0)) := by rw [← hw1]; exact heap_alloc_new wr _
   have b2 : w1.cell? ⟨wr.heap.size, 2, none⟩ = some (.slice pl l.length cl) := by rw [World.cell?, B1]; rfl
   have cC := clone_any (.slice pl l.length cl) l w1 (hs1.kept (HF.out.then7 F1)) (by omega)
   have HB1 := Zz B1
   have HT0 := HT
   have HF01 := Zz F1
   have HS1 := Zz (show w1.heap.size = wr.heap.size + 1 from by rw [← hw1]; simp)
   clear B1 F1 HT
   have hkS := keyS P (by unfold maxLen; omega)
   generalize hln : l.length = nl at *
   go_wp2_with fail
   with_reducible refine cC.mono ?_
   rintro e w2 ⟨v2, rfl, hst, f2, hge⟩
   clear cC b2
   obtain ⟨p2, c2, rfl, hq⟩ := hst
   have hst : Zy w2 (.slice p2 l.length c2) l := ⟨p2, c2, rfl, hq⟩
   clear hq
   have B2 := f2.at HB1.out (fun e => e)
   rw [hln] at hst hge
   obtain ⟨w3, hw3⟩ : ∃ w3, w2.setCell ⟨wr.heap.size, 2, none⟩ (.slice p2 nl c2) = w3 := ⟨_, rfl⟩
   have F3 : Fr (fun k => k = wr.heap.size) w2 w3 := hw3 ▸ Fr.setCell (M := fun k => k = wr.heap.size) (a := ⟨wr.heap.size, 2, none⟩) w2 rfl _
   have B3 : w3.heap[wr.heap.size]? = some (.cells #[.string P, .int .i64 K, .slice p2 nl c2, .string Da] 45 (0, 0)) := by
    rw [← hw3]
    simpa using Go.heap_setCell_same w2 wr.heap.size 2 _ _ (.slice p2 nl c2) B2
   have b0 : w3.cell? ⟨wr.heap.size, 0, none⟩ = some (.string P) := by rw [World.cell?, B3]; rfl
   have b1 : w3.cell? ⟨wr.heap.size, 1, none⟩ = some (.int .i64 K) := by rw [World.cell?, B3]; rfl
   have b2 : w3.cell? ⟨wr.heap.size, 2, none⟩ = some (.slice p2 nl c2) := by rw [World.cell?, B3]; rfl
   have b3 : w3.cell? ⟨wr.heap.size, 3, none⟩ = some (.string Da) := by rw [World.cell?, B3]; rfl
   have c2' : w2.cell? ⟨wr.heap.size, 2, none⟩ = some (.slice pl nl cl) := by rw [World.cell?, B2]; rfl
   have cz : w2.frozen? ⟨wr.heap.size, 2, none⟩ = false := by unfold World.frozen?; rw [B2]; simp
   have hs1z : w1.heap.size = wr.heap.size + 1 := HS1.out
   have FW : Fr None' wr w3 := (HF01.out.then7 f2).trans F3 (fun i e => Or.inr (by have e : i = wr.heap.size := e; omega))
   have T3 := HT0.out.kept FW
   have S3 : Zy w3 (.slice p2 nl c2) l := hst.fr F3 (fun k e e' => by
    have e' : k = wr.heap.size := e'
    have := hge k e
    omega)
   have HT3 := Zz T3
   have HM3 := Zz T3.map
   have HS3 := Zz S3
   have HF3 := Zz (HF.out.then7 FW)
   have i9 : (k : Int) ≤ 90000 := by omega
   clear T3 S3 FW F3 B3 B2 hst hge f2 hs1z HB1 HT0
   go_wp2_with (first
    | (at_mapUpdate; refine wpList_mapUpdate_in _ rfl _ _ _ 76 rfl 9 45 lawS Tryz.underlying76 heldE w.heap.size k _ rfl HM3.out (by unfold maxLen; omega) _ _ _ rfl rfl hkS _ [] (heldE_th ⟨⟨P, K, l, Da⟩, p2, nl, c2⟩) ?_; intro w5 hown5 hturn5)
    | go_in)
   have HG := HT3.out.put (t := ⟨⟨P, K, l, Da⟩, p2, nl, c2⟩) HS3.out hown5 hturn5
   refine ⟨⟨k + 1, _, by omega, by go_num, HG, ?_, ?_⟩, by simp [intOf]; omega⟩
   ·show ens _ = _
    rw [ens_put, HP.out, HPS.out]
   ·exact HF3.out.trans (Fr.turned (M := fun x => x = w.heap.size) hturn5 rfl) (fun i e => Or.inr (by have e : i = w.heap.size := e; omega))
  ·have e : k = n := by omega
   subst e
   have HP2 := Zz (show ens T = putsE L from by
    have h := HP.out
    rw [List.take_of_length_le (by rw [HL.out]; exact Nat.le_refl _)] at h
    exact h)
   go_wp2_with fail
   go_ret
   exact ⟨_, T, rfl, HT.out, HP2.out, HF.out, Nat.le_refl _⟩
theorem within_len {T W : List Th} {p : List UInt8} (h : W.Perm (T.filter (fun t => Path.within t.k p))) : (ens W).length = (inE (ens T) p).length := by
 rw [← ens_in]
 unfold ens
 rw [List.length_map, List.length_map, h.length_eq]
theorem empty8_any (b n : Nat) (T : List Th) (s : ByteArray) (t : Th) (w : World) (h : Yt w b n T) (hn : T.length ≤ 90000) (hs : s.size ≤ 1000000) (ht : get8 T (bl s) = some t) :
  Calls Tryz.prog 140 #[.map (some b), .string s] w fun e w' => e = .returned (.bool (emptyE (ens T) (bl s))) ∧ Fr None' w w' := by
 have hl := h.look s (by unfold maxLen; omega)
 have HE := Zz (show emptyE (ens T) (bl s) = (decide (t.x.lines.length = 0) && decide (t.x.data = ⟨#[]⟩) && decide ((inE (ens T) (bl s)).length = 1)) from by
  unfold emptyE
  rw [← ens_get, ht]
  rfl)
 rw [HE.out]
 have HW := Zz (fun w' (f : Fr None' w w') => (within8_any b n T s w' (h.kept f) hn).mono (fun e w'' k => show ∃ (va : Option Addr) (c : Nat), e = .returned (.slice va (inE (ens T) (bl s)).length c) ∧ Fr None' w' w'' from by
  obtain ⟨v, W, rfl, hp, hO, f'⟩ := k
  obtain ⟨va, c, rfl⟩ := slice_v hO
  rw [within_len hp]
  exact ⟨va, c, rfl, f'⟩))
 have hu := h.str t (get8_mem ht).1
 rw [ht] at hl
 simp only [Option.getD_some, th_shape] at hl
 clear HE h ht
 obtain ⟨⟨P, K, l, D⟩, a, m, c⟩ := t
 simp only at hl hu ⊢
 obtain ⟨va, ca, e, _⟩ := hu
 simp only [Th.sl, Value.slice.injEq] at e
 obtain ⟨rfl, rfl, rfl⟩ := e
 generalize l.length = m at hl ⊢
 generalize (inE (ens T) (bl s)).length = q at HW ⊢
 by_cases h1 : m = 0
 ·subst h1
  by_cases h2 : D = ⟨#[]⟩
  ·subst h2
   by_cases h3 : q = 1
   ·subst h3
    go_enter Tryz.func140, Tryz.ntmps140
    go_wp2_with (go_at_call 147; with_reducible (refine (HW.out _ (Fr.alloc None' w _)).mono ?_); rintro e w2 ⟨va, c, rfl, f2⟩)
    go_ret
    exact ⟨rfl, (Fr.alloc None' w _).then7 f2⟩
   ·have h3' : ¬ (q : Int) = 1 := by omega
    have h3b : ((q : Int) == 1) = false := by simpa using h3'
    go_enter Tryz.func140, Tryz.ntmps140
    go_wp2_with (go_at_call 147; with_reducible (refine (HW.out _ (Fr.alloc None' w _)).mono ?_); rintro e w2 ⟨va, c, rfl, f2⟩)
    go_ret
    exact ⟨by simp [h3], (Fr.alloc None' w _).then7 f2⟩
  ·have h2d : D.toList.isEmpty = false := isEmpty_no (fun e => h2 (empty_of e))
   clear HW
   go_enter Tryz.func140, Tryz.ntmps140
   go_wp2_with fail
   go_ret
   exact ⟨by simp [h2], Fr.alloc _ _ _⟩
 ·have h1' : ¬ (m : Int) = 0 := by omega
  have h1b : ((m : Int) == 0) = false := by simpa using h1'
  clear HW
  go_enter Tryz.func140, Tryz.ntmps140
  go_wp2_with fail
  go_ret
  exact ⟨by simp [h1], Fr.alloc _ _ _⟩
end Go.Proofs.YtbnfjjjdnbcehaaGreatDoor
