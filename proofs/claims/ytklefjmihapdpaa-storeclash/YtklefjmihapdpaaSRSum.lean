/-
  What is proved here: what the document's Sum answers. Condition: the bytes lie in memory, fewer than 100,000.
-/
import Derived.Test.YtklefjmihapdpaaSRConsts
namespace Go.Proofs.Ytklefjmihapdpaa.Sha
open Go.RowKit
set_option maxRecDepth 100000

/-- The eight numbers, and the sum's bytes, as the document reckons them. -/
def rsumV (n : Nat) (m : Nat → Int) : Nat → Int := blks kc (fun i => (padL n m).getD i 0) iv ((n + 1 + zs n + 8) / 64)
def rsumB (n : Nat) (m : Nat → Int) (i : Nat) : Int := bt (rsumV n m (i / 4)) (i % 4)

theorem bt_pow (x : Int) (s : Nat) (h : s < 4) : x / 2 ^ (24 - 8 * s) % 256 = bt x s := by
  have : s = 0 ∨ s = 1 ∨ s = 2 ∨ s = 3 := by omega
  rcases this with rfl | rfl | rfl | rfl <;> simp [bt]

set_option maxHeartbeats 8000000 in
theorem rsum_any (va : Option Addr) (n c : Nat) (m : Nat → Int) (w : World) (h : Byt w (.slice va n c) n m) (hn : va = none → c = 0) (hbig : n ≤ 50000) :
   Calls Try.prog 33 #[.slice va n c] w fun e w' => e = .returned (.agg (arr 32 (n8 (rsumB n m)))) ∧ Fr None' w w' := by
  go_enter Try.func33, Try.ntmps33
  go_wp2_with fail
  have r0 : (w.alloc (.cells (arr 32 (n8 fun _ => 0)) 60)).rowIs w.heap.size 60 32 (n8 fun _ => 0) := rowIs_of (heap_alloc_new w _)
  have f0 : Fr None' w (w.alloc (.cells (arr 32 (n8 fun _ => 0)) 60)) := Fr.alloc _ _ _
  generalize hw0 : w.alloc _ = w0
  replace r0 : w0.rowIs w.heap.size 60 32 (n8 fun _ => 0) := by rw [← hw0]; exact r0
  replace f0 : Fr None' w w0 := by rw [← hw0]; exact f0
  clear hw0
  refine (rconsts_any _).mono ?_
  rintro e w1 ⟨rfl, f1⟩
  have o1 := f1.rowIs r0 id
  have f01 := f0.then f1
  have l0 := r0.lt
  clear r0 f0 f1
  go_wp2_with (first
    | (refine store_arr2 info64 _ _ rfl rfl rfl w1.heap.size rfl rfl (fun _ _ => rfl) (f0 := n32 fun _ => 0) (rowIs_of (heap_alloc_new w1 _)) ?_
       intro w2 r2 f2))
  replace f2 := (Fr.alloc None' w1 _).trans f2 (fun i e => Or.inr (by omega))
  have o2 := f2.rowIs o1 id
  have f02 := f01.then f2
  have l1 := r2.lt
  have l01 := f01.size
  clear o1 f01 f2
  have r3 : (w2.alloc (.cells (arr 8 (n32 iv)) 80)).rowIs w2.heap.size 80 8 (n32 iv) := rowIs_of (heap_alloc_new w2 _)
  have f3 : Fr None' w2 (w2.alloc (.cells (arr 8 (n32 iv)) 80)) := Fr.alloc _ _ _
  generalize hw3 : w2.alloc _ = w3
  replace r3 : w3.rowIs w2.heap.size 80 8 (n32 iv) := by rw [← hw3]; exact r3
  replace f3 : Fr None' w2 w3 := by rw [← hw3]; exact f3
  clear hw3
  have k3 := f3.rowIs r2 id
  have o3 := f3.rowIs o2 id
  have f03 := f02.then f3
  have l3 := r3.lt
  clear r2 o2 f02 f3
  refine (rpadded_any va n c m w3 (h.fr f03) hn (by omega)).mono ?_
  rintro e w4 ⟨v4, rfl, own4, f4⟩
  obtain ⟨g, cg, rfl, hcg, hg1, hg2, hat⟩ := own4.got (by rw [padL_length]; omega)
  have r4 := f4.rowIs r3 id
  have k4 := f4.rowIs k3 id
  have o4 := f4.rowIs o3 id
  have f04 := f03.then f4
  have l4 := f4.size
  clear own4 f4 r3 k3 o3 f03 h hn
  obtain ⟨P, hP⟩ : ∃ P : Nat → Int, (fun i => (padL n m).getD i 0) = P := ⟨_, rfl⟩
  obtain ⟨nb, hnb⟩ : ∃ nb, (n + 1 + zs n + 8) / 64 = nb := ⟨_, rfl⟩
  have hlen : (padL n m).length = 64 * nb := by
    rw [padL_length, ← hnb]; unfold zs; omega
  have hV : Hid (rsumV n m = blks kc P iv nb) := by show _ = _; rw [← hP, ← hnb]; rfl
  have hbig2 : nb ≤ 2000 := by rw [← hnb]; unfold zs; omega
  have hat' : ∀ i, i < 64 * nb → w4.cell? ⟨g, i, none⟩ = some (.int .u8 (P i)) := fun i hi => by rw [← hP]; exact hat i (by omega)
  rw [hlen] at hcg ⊢
  clear hat hlen hnb hP
  have i1 : (nb : Int) ≤ 2000 := by omega
  have HAT : Hid _ := hat'
  clear hat'
  obtain ⟨L, hL⟩ : ∃ L, 64 * nb = L := ⟨_, rfl⟩
  have HL : Hid (64 * nb = L) := hL
  rw [hL] at hcg ⊢
  clear hL
  go_wp2_with fail
  go_loopw [6] (fun at' wr => ∃ j : Nat, j ≤ nb ∧ at' = .int .i64 ((64 * j : Nat) : Int) ∧ wr.rowIs w2.heap.size 80 8 (n32 (blks kc P iv j)) ∧ wr.rowIs w1.heap.size 78 64 (n32 kc) ∧ wr.rowIs w.heap.size 60 32 (n8 fun _ => 0) ∧ Fr (fun i => i = w2.heap.size) w4 wr) (fun at' _ => 64 * nb - (intOf at').toNat)
  case atStart => exact ⟨0, by omega, rfl, r4, k4, o4, Fr.refl _ _⟩
  case round =>
    clear r4 k4 o4
    obtain ⟨j, hj, rfl, rv, rk, ro, fr⟩ := hrel
    obtain ⟨A, hA⟩ : ∃ A, 64 * j = A := ⟨_, rfl⟩
    rw [hA]
    have hL := HL.out
    by_cases hlt : j < nb
    · have a0 : (A : Int) < (L : Int) := by omega
      have a1 : (A : Int) + 64 ≤ (L : Int) := by omega
      have a2 : (L : Int) ≤ (cg : Int) := by omega
      have a3 : IntKind.i64.wrap ((A : Int) + 64) = A + 64 := by rw [IntKind.wrap_i64]; omega
      have a4 : ¬ cg = A := by omega
      have a5 : ((A : Int) + 64).toNat = A + 64 := by omega
      have a6 : A + 64 - A = 64 := by omega
      have hc : ∀ i, i < 64 → wr.cell? ⟨g, A + i, none⟩ = some (.int .u8 (P (64 * j + i))) := fun i hi => by
        rw [hA]; exact fr.cell (HAT.out (A + i) (by omega)) (by show ¬ g = w2.heap.size; omega)
      have hw := fun cap => rwords_any g A 64 cap (fun i => P (64 * j + i)) wr (by omega) hc
      have HJ : Hid (64 * j = A ∧ j < nb) := ⟨hA, hlt⟩
      clear hc hL hA hj hlt
      go_wp2_with fail
      refine (hw (cg - A)).mono ?_
      rintro e w5 ⟨v5, rfl, own5, f5⟩
      obtain ⟨gw, cw, rfl, hcw, hgw1, hgw2, hwat⟩ := own5.u32 (by omega)
      obtain ⟨M, hM⟩ : ∃ M : Nat → Int, (fun i => P (64 * j + i)) = M := ⟨_, rfl⟩
      rw [hM] at hwat own5
      obtain ⟨v, hv⟩ : ∃ v : Nat → Int, blks kc P iv j = v := ⟨_, rfl⟩
      rw [hv] at rv
      have HM : Hid (blks kc P iv (j + 1) = blk kc M v) := by show _ = _; rw [← hM, ← hv]; rfl
      have rv5 := f5.rowIs rv id
      have rk5 := f5.rowIs rk id
      have ro5 := f5.rowIs ro id
      have fr5 : Fr (fun i => i = w2.heap.size) w4 w5 := fr.then f5.any
      have lv5 := rv5.lt
      have l45 := fr5.size
      have HW : Hid (∀ i, i < 64 → w5.cell? ⟨gw, i, none⟩ = some (.int .u32 (W M i))) := hwat
      clear own5 f5 rv rk ro fr hw hwat hM hv a0 a1 a3 a4 a5 a6
      go_wp2_with (first
        | refine load_arr Try.underlying80 info8 w2.heap.size rv5 _ rfl rfl rfl ?_
        | (refine store_arr2 info8 _ _ rfl rfl rfl w5.heap.size rfl rfl (fun _ _ => rfl) (f0 := n32 fun _ => 0) (rowIs_of (heap_alloc_new w5 _)) ?_
           intro w6 r6 f6))
      replace f6 := (Fr.alloc None' w5 _).trans f6 (fun i e => Or.inr (by omega))
      have rv6 := f6.rowIs rv5 id
      have rk6 := f6.rowIs rk5 id
      have ro6 := f6.rowIs ro5 id
      have fr6 : Fr (fun i => i = w2.heap.size) w4 w6 := fr5.then f6.any
      have HW6 : Hid (∀ i, i < 64 → w6.cell? ⟨gw, i, none⟩ = some (.int .u32 (W M i))) := fun i hi => f6.cell (HW.out i hi) id
      have l6 := r6.lt
      clear f6 rv5 rk5 ro5 fr5 HW
      go_loopw [9] (fun i wi => ∃ q : Nat, q ≤ 64 ∧ i = .int .i64 q ∧ wi.rowIs w5.heap.size 80 8 (n32 (rnds kc (W M) (V8.of v) q).at) ∧ Fr (fun i => i = w5.heap.size) w6 wi) (fun i _ => 64 - (intOf i).toNat)
      case atStart => exact ⟨0, by omega, rfl, r6.congr (fun i hi => by simp only [n32, rnds, V8.at_of v hi]), Fr.refl _ _⟩
      case round =>
        clear r6
        obtain ⟨q, hq, rfl, rx, fi⟩ := hrel
        by_cases hqlt : q < 64
        · have q0 : (q : Int) < 64 := by omega
          have ck := (fi.rowIs rk6 (by show ¬ w1.heap.size = w5.heap.size; omega)).cell hqlt
          have cw := fi.cell (HW6.out q hqlt) (by show ¬ gw = w5.heap.size; omega)
          obtain ⟨x, hx⟩ : ∃ x, rnds kc (W M) (V8.of v) q = x := ⟨_, rfl⟩
          obtain ⟨T, hT⟩ : ∃ T, tOf (kc q) (W M q) x = T := ⟨_, rfl⟩
          obtain ⟨U, hU⟩ : ∃ U, uOf x = U := ⟨_, rfl⟩
          have HX : Hid (rnds kc (W M) (V8.of v) (q + 1) = ⟨(T + U) % 4294967296, x.a, x.b, x.c, (x.d + T) % 4294967296, x.e, x.f, x.g⟩) := by show _ = _; rw [← hT, ← hU, ← hx]; rfl
          unfold tOf xor32 and32 at hT
          unfold uOf xor32 and32 at hU
          have HT : Hid (_ = T) := hT
          have HU : Hid (_ = U) := hU
          clear hT hU
          rw [hx] at rx
          have c0 := rx.cell (i := 0) (by omega)
          have c1 := rx.cell (i := 1) (by omega)
          have c2 := rx.cell (i := 2) (by omega)
          have c3 := rx.cell (i := 3) (by omega)
          have c4 := rx.cell (i := 4) (by omega)
          have c5 := rx.cell (i := 5) (by omega)
          have c6 := rx.cell (i := 6) (by omega)
          have c7 := rx.cell (i := 7) (by omega)
          simp only [n32, V8.at] at ck c0 c1 c2 c3 c4 c5 c6 c7
          clear hx hqlt
          go_wp2_with fail
          go_quiet (with_reducible (first | exact turned_q6 _ | exact turned_q11 _ | exact turned_q25 _))
          have gq := Fr.drewN None' wr nq
          replace fi : Fr (fun i => i = w5.heap.size) w6 (wr.drewN nq) := fi.then gq.any
          replace rx := gq.rowIs rx id
          clear ck cw gq c0 c1 c2 c3 c4 c5 c6 c7
          generalize wr.drewN nq = wq at fi rx ⊢
          clear nq
          have c0 := rx.cell (i := 0) (by omega)
          have c1 := rx.cell (i := 1) (by omega)
          have c2 := rx.cell (i := 2) (by omega)
          have c3 := rx.cell (i := 3) (by omega)
          have c5 := rx.cell (i := 5) (by omega)
          have c6 := rx.cell (i := 6) (by omega)
          simp only [n32, V8.at] at c0 c1 c2 c3 c5 c6
          go_wp2_with fail
          go_quiet (with_reducible (first | exact turned_q2 _ | exact turned_q13 _ | exact turned_q22 _))
          have gq := Fr.drewN None' wq nq
          replace fi : Fr (fun i => i = w5.heap.size) w6 (wq.drewN nq) := fi.then gq.any
          replace rx := gq.rowIs rx id
          clear gq c0 c1 c2 c3 c5 c6
          generalize wq.drewN nq = wz at fi rx ⊢
          rw [HT.out, HU.out]
          clear nq HT HU
          have c1 := rx.cell (i := 1) (by omega)
          have c2 := rx.cell (i := 2) (by omega)
          have c3 := rx.cell (i := 3) (by omega)
          have c5 := rx.cell (i := 5) (by omega)
          have c6 := rx.cell (i := 6) (by omega)
          simp only [n32, V8.at] at c1 c2 c3 c5 c6
          go_wp2_with (first
            | (refine store_arr2 info8 _ _ rfl rfl rfl w5.heap.size rfl (f := n32 (V8.mk ((T + U) % 4294967296) x.a x.b x.c ((x.d + T) % 4294967296) x.e x.f x.g).at) rfl (fun _ _ => rfl) rx ?_
               intro wy ry fy))
          go_roundw
          case rel => exact ⟨q + 1, by omega, by go_num, by rw [HX.out]; exact ry, fi.then fy⟩
          case measure => simp [intOf]; omega
        · have q0 : (64 : Int) ≤ q := by omega
          have hq64 : q = 64 := by omega
          obtain ⟨x, hx⟩ : ∃ x, rnds kc (W M) (V8.of v) 64 = x := ⟨_, rfl⟩
          rw [hq64, hx] at rx
          have HB : Hid (blk kc M v = fun i => (v i + x.at i) % 4294967296) := by show _ = _; funext i; unfold blk; rw [hx]
          have rv7 := fi.rowIs rv6 (by show ¬ w2.heap.size = w5.heap.size; omega)
          have rk7 := fi.rowIs rk6 (by show ¬ w1.heap.size = w5.heap.size; omega)
          have ro7 := fi.rowIs ro6 (by show ¬ w.heap.size = w5.heap.size; omega)
          have fr7 : Fr (fun i => i = w2.heap.size) w4 wr := fr6.trans fi (fun i e => Or.inr (by omega))
          clear fi rv6 rk6 ro6 fr6 HW6 hx hqlt hq hq64
          go_wp2_with fail
          clear q0
          go_loopw [14] (fun i wi => ∃ t : Nat, t ≤ 8 ∧ i = .int .i64 t ∧ wi.rowIs w2.heap.size 80 8 (n32 fun i => if i < t then (v i + x.at i) % 4294967296 else v i) ∧ wi.rowIs w5.heap.size 80 8 (n32 x.at) ∧ wi.rowIs w1.heap.size 78 64 (n32 kc) ∧ wi.rowIs w.heap.size 60 32 (n8 fun _ => 0) ∧ Fr (fun i => i = w2.heap.size) w4 wi) (fun i _ => 8 - (intOf i).toNat)
          case atStart => exact ⟨0, by omega, rfl, rv7.congr (fun i _ => by simp [n32]), rx, rk7, ro7, fr7⟩
          case round =>
            clear rx rv7 rk7 ro7 fr7
            obtain ⟨t, ht, rfl, rv, rx, rk, ro, fr⟩ := hrel
            by_cases htlt : t < 8
            · have t0 : (t : Int) < 8 := by omega
              have cx := rx.cell htlt
              have cv := rv.cell htlt
              have zf := rv.frozen t
              simp only [n32, Nat.lt_irrefl, if_false] at cv cx
              go_wp2_with fail
              refine region_tail 9 mixed (by kernel_rfl) ?_
              simp only [List.take_succ_cons, List.take_zero, List.drop_succ_cons, List.drop_zero]
              repeat still_step
              refine wpStill_nil ?_
              go_wp2
              go_roundw
              case rel =>
                refine ⟨t + 1, by omega, by go_num, World.rowIs.drew ((rv.set t _).congr (fun i _ => ?_)), World.rowIs.drew (rx.setOther (by simp; omega) _), World.rowIs.drew (rk.setOther (by simp; omega) _), World.rowIs.drew (ro.setOther (by simp; omega) _), (fr.then (Fr.setCell (M := fun i => i = w2.heap.size) _ rfl _)).then (Fr.drewN _ _ 1)⟩
                by_cases e : i = t
                · subst e
                  simp only [n32, if_true, if_pos (show i < i + 1 by omega)]
                · simp only [n32, if_neg e]
                  by_cases h1 : i < t
                  · rw [if_pos h1, if_pos (by omega)]
                  · rw [if_neg h1, if_neg (by omega)]
              case measure => simp [intOf]; omega
            · have t0 : (8 : Int) ≤ t := by omega
              have rv' : wr.rowIs w2.heap.size 80 8 (n32 (blks kc P iv (j + 1))) := rv.congr (fun i hi => by
                simp only [n32]; rw [if_pos (by omega), HM.out, HB.out])
              have hJ := HJ.out
              have a7 : IntKind.i64.wrap ((A : Int) + 64) = ((64 * (j + 1) : Nat) : Int) := by rw [IntKind.wrap_i64]; omega
              clear rv rx htlt ht hJ
              go_wp2_with fail
              have hJ := HJ.out
              refine ⟨⟨j + 1, by omega, by rw [show ((64 * (j + 1) : Nat) : Int) = 64 * ((j : Int) + 1) by omega], rv', rk, ro, fr⟩, ?_⟩
              simp only [intOf]
              omega
    · obtain ⟨wo, rfl⟩ : ∃ wo, wo = wr := ⟨wr, rfl⟩
      have a0 : (L : Int) ≤ (A : Int) := by omega
      have hjn : j = nb := by omega
      have rv' : wo.rowIs w2.heap.size 80 8 (n32 (rsumV n m)) := by rw [hV.out, ← hjn]; exact rv
      have fr0 : Fr None' w wo := f04.trans fr (fun i e => Or.inr (by omega))
      clear rk rv hlt hjn hj hL hA HAT fr f04
      have lo := ro.lt
      have lv := rv'.lt
      go_wp2_with fail
      have r9 : (wo.alloc (.cells (arr 32 (n8 fun _ => 0)) 60)).rowIs wo.heap.size 60 32 (n8 fun _ => 0) := rowIs_of (heap_alloc_new wo _)
      have f9 : Fr None' wo (wo.alloc (.cells (arr 32 (n8 fun _ => 0)) 60)) := Fr.alloc _ _ _
      generalize hw9 : wo.alloc _ = w9
      replace r9 : w9.rowIs wo.heap.size 60 32 (n8 fun _ => 0) := by rw [← hw9]; exact r9
      replace f9 : Fr None' wo w9 := by rw [← hw9]; exact f9
      clear hw9
      have rv9 := f9.rowIs rv' id
      have ro9 := f9.rowIs ro id
      have f09 := fr0.then f9
      clear f9 rv' ro fr0 a0
      have ls := f09.size
      go_loopw [16] (fun i wi => ∃ t : Nat, t ≤ 32 ∧ i = .int .i64 t ∧ wi.rowIs wo.heap.size 60 32 (fun i => if i < t then .int .u8 (rsumB n m i) else .int .u8 0) ∧ wi.rowIs w2.heap.size 80 8 (n32 (rsumV n m)) ∧ wi.rowIs w.heap.size 60 32 (n8 fun _ => 0) ∧ Fr None' w wi) (fun i _ => 32 - (intOf i).toNat)
      case atStart => exact ⟨0, by omega, rfl, r9.congr (fun i _ => by simp [n8]), rv9, ro9, f09⟩
      case round =>
        clear r9 rv9 ro9 f09
        obtain ⟨t, ht, rfl, rs, rv, ro, fr⟩ := hrel
        by_cases htlt : t < 32
        · have t0 : (t : Int) < 32 := by omega
          obtain ⟨p, hp⟩ : ∃ p, t / 4 = p := ⟨_, rfl⟩
          obtain ⟨s, hs⟩ : ∃ s, t % 4 = s := ⟨_, rfl⟩
          have hp2 : (t : Int) / 4 = p := by omega
          have hs2 : (t : Int) % 4 = s := by omega
          have p0 : (p : Int) < 8 := by omega
          have s0' : (s : Int) < 4 := by omega
          have cv := rv.cell (i := p) (by omega)
          have cs := rs.cell htlt
          have zf := rs.frozen t
          simp only [n32, Nat.lt_irrefl, if_false] at cv cs
          have s1' : IntKind.i64.wrap (8 * (s : Int)) = 8 * s := by rw [IntKind.wrap_i64]; omega
          have s2' : IntKind.i64.wrap (24 - 8 * (s : Int)) = 24 - 8 * s := by rw [IntKind.wrap_i64]; omega
          have s3' : 8 * (s : Int) ≤ 24 := by omega
          have s4' : (24 - 8 * (s : Int)).toNat = 24 - 8 * s := by omega
          have HP : Hid (t / 4 = p ∧ t % 4 = s) := ⟨hp, hs⟩
          clear hp hs
          go_wp2_with fail
          have hP := HP.out
          refine ⟨⟨t + 1, by omega, by go_num, (rs.set t _).congr (fun i _ => ?_), rv.setOther (by simp; omega) _, ro.setOther (by simp; omega) _, fr.trans (Fr.setCell (M := fun i => i = wo.heap.size) _ rfl _) (fun i e => Or.inr (by omega))⟩, by simp [intOf]; omega⟩
          by_cases e : i = t
          · subst e
            rw [if_pos rfl, if_pos (by omega)]
            unfold rsumB
            rw [hP.1, hP.2, bt_pow _ s (by omega)]
          · rw [if_neg e]
            by_cases h1 : i < t
            · rw [if_pos h1, if_pos (by omega)]
            · rw [if_neg h1, if_neg (by omega)]
        · have t0 : (32 : Int) ≤ t := by omega
          have q1' : wr.rowIs wo.heap.size 60 32 (n8 (rsumB n m)) := rs.congr (fun i hi => by rw [if_pos (by omega)]; rfl)
          clear rs rv htlt ht
          go_wp2_with (first
            | refine load_arr Try.underlying60 info32 wo.heap.size q1' _ rfl rfl rfl ?_
            | refine store_arr info32 w.heap.size ro (fun _ _ => rfl) _ _ rfl rfl rfl rfl rfl ?_)
          refine bodyPost_ret (v := .agg (arr 32 (n8 (rsumB n m)))) (result_arr Try.underlying60 info32 rfl _ rfl (rowIs_setRow ro)) rfl ⟨rfl, ?_⟩
          exact fr.trans (Fr.setRow (M := fun i => i = w.heap.size) _ rfl _) (fun i e => Or.inr (by omega))
end Go.Proofs.Ytklefjmihapdpaa.Sha
