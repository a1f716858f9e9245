/-
  What is proved here: what the document's Name and Named answer. Condition: the bytes lie in memory, fewer than 50,000.
-/
import Derived.Test.YtklefjmihapdpaaSRSame
namespace Go.Proofs.Ytklefjmihapdpaa.Sha
open Go.RowKit
set_option maxRecDepth 100000

theorem two_lies (w : World) (k : IntKind) (x y : Int) (t : TypeId) : Lies k (w.alloc (.cells #[.int k x, .int k y] t)) (some ⟨w.heap.size, 0, none⟩) 2 (fun i => if i = 0 then x else y) := fun i hi => by
  have hb := heap_alloc_new w (.cells #[.int k x, .int k y] t)
  have : i = 0 ∨ i = 1 := by omega
  rcases this with rfl | rfl <;> (refine ⟨_, _, rfl, ?_⟩; unfold World.cell?; simp only [hb]; rfl)

theorem range_two (x y : Int) : (List.range 2).map (fun i => if i = 0 then x else y) = [x, y] := rfl

/-- Some numbers more, as one step of a region that draws its order. -/
theorem step_many {e t : TypeId} {k : IntKind} {by' : Nat} (hu : Try.prog.underlying t = some (.slice e)) (hinfo : (Try.prog.info? e).map (fun i => (i.zero, i.size, i.bytes)) = some (some (.int k 0), 1, by')) (hby : by' ≤ 8)
    {ops : Array Oper} {o : Oper} {a : Act} {K : Act → World → Prop} {Q : Exit → Act → World → Prop} {E : Prop} {w : World} (hgd : o.guard = none) (s x : Operand)
    (ho : o.op = .call { callee := .builtin .append, args := #[s, x], argTypes := #[t, t] })
    {w0 : World} {v : Value} {l : List Int} (hs : a.eval s = v) (hown : Own e k w0 w v l) (hfr : Fr None' w0 w) {b n : Nat} {m : Nat → Int} (hx : a.eval x = .slice (some ⟨b, 0, none⟩) n n) (h0 : 0 < n) (hl : Lies k w (some ⟨b, 0, none⟩) n m) (hbig : l.length + n ≤ 100000)
    (h : ∀ v' w', Own e k w0 w' v' (l ++ (List.range n).map m) → Fr None' w0 w' → K (a.put o.dst v') w') : if Region.wanted o (yielded ops a.tmps) = true then Oper.wp Try.prog o a w K Q else E := by
  obtain ⟨i0, hi, hz0, hz1, hz2⟩ := info_parts hinfo
  have hm : (l.length + n) * by' ≤ 100000 * 8 := Nat.mul_le_mul (by omega) hby
  refine step_append_lies _ hgd s x t ho w0.heap.size e i0 (.int k 0) 1 by' hu hi hz0 hz1 hz2 rfl (by decide) v _ _ hs hown ⟨b, 0, none⟩ n n (((List.range n).map m).map (Value.int k)) hx (by simp) (fun j u hj => ?_) (fun u hu => by obtain ⟨z, _, rfl⟩ := List.mem_map.1 hu; rfl) h0 (by unfold maxLen; omega) (by omega) hfr.size _ rfl ?_
  · have hjn : j < n := by
      have := (List.getElem?_eq_some_iff.1 hj).1
      simpa using this
    obtain ⟨b', o', e, hc⟩ := hl j hjn
    cases e
    have hadd : (⟨b, 0, none⟩ : Addr).add j = ⟨b, 0 + j, none⟩ := by unfold Addr.add; split <;> simp_all
    rw [hadd, hc]
    simp [List.getElem?_map, List.getElem?_range hjn] at hj
    rw [← hj]
  intro g cap w' h1 h2 _ _
  refine h _ w' ?_ ?_
  · unfold Own
    rw [List.length_append, List.map_append, List.length_map, List.length_range]
    exact h1
  · refine hfr.trans (Fr.grown (M := fun i => v.ownBlock = some i) h2 (fun k e => e)) (fun i e => Or.inr ?_)
    rcases hown.2 with ⟨hvv, _⟩ | ⟨g', cap', cur', hvv, hb', _⟩
    · rw [hvv] at e; cases e
    · rw [hvv] at e; cases e; exact hb'

def dig : ByteArray := ⟨#[48, 49, 50, 51, 52, 53, 54, 55, 56, 57, 97, 98, 99, 100, 101, 102]⟩
theorem dig_at (p : Nat) (h : p < dig.size) : ((dig[p]).toNat : Int) = hexc p := by
  have : p < 16 := h
  have : p = 0 ∨ p = 1 ∨ p = 2 ∨ p = 3 ∨ p = 4 ∨ p = 5 ∨ p = 6 ∨ p = 7 ∨ p = 8 ∨ p = 9 ∨ p = 10 ∨ p = 11 ∨ p = 12 ∨ p = 13 ∨ p = 14 ∨ p = 15 := by omega
  rcases this with rfl | rfl | rfl | rfl | rfl | rfl | rfl | rfl | rfl | rfl | rfl | rfl | rfl | rfl | rfl | rfl <;> rfl

theorem name_two (n : Nat) (m : Nat → Int) (j : Nat) : (List.range (2 * (j + 1))).map (nameB n m) = (List.range (2 * j)).map (nameB n m) ++ [hexc (sumB n m j / 16), hexc (sumB n m j % 16)] := by
  rw [show 2 * (j + 1) = 2 * j + 1 + 1 by omega, range_succ_map, range_succ_map, List.append_assoc]
  have e0 : nameB n m (2 * j) = hexc (sumB n m j / 16) := by unfold nameB; rw [if_pos (by omega), show 2 * j / 2 = j by omega]
  have e1 : nameB n m (2 * j + 1) = hexc (sumB n m j % 16) := by unfold nameB; rw [if_neg (by omega), show (2 * j + 1) / 2 = j by omega]
  rw [e0, e1]
  rfl

set_option maxHeartbeats 4000000 in
theorem rname_any (va : Option Addr) (n c : Nat) (m : Nat → Int) (w : World) (h : Byt w (.slice va n c) n m) (hn : va = none → c = 0) (hbig : n ≤ 50000) :
   Calls Try.prog 14 #[.slice va n c] w fun e w' => e = .returned (.string ⟨(nameS n m).toArray⟩) ∧ Fr None' w w' := by
  have hs := rsum_any va n c m w h hn hbig
  rw [rsumB_eq n m (by omega)] at hs
  clear h hn
  go_enter Try.func14, Try.ntmps14
  go_wp2_with fail
  refine hs.mono ?_
  rintro e w1 ⟨rfl, f1⟩
  clear hs
  go_wp2_with (first
    | (refine store_arr2 info32 _ _ rfl rfl rfl w1.heap.size rfl rfl (fun _ _ => rfl) (f0 := n8 fun _ => 0) (rowIs_of (heap_alloc_new w1 _)) ?_
       intro w3 r3 f3))
  replace f3 := f1.then ((Fr.alloc None' w1 _).trans f3 (fun i e => Or.inr (by omega)))
  have l3 := r3.lt
  have l1 := f1.size
  clear f1
  generalize hD : (⟨#[48, 49, 50, 51, 52, 53, 54, 55, 56, 57, 97, 98, 99, 100, 101, 102]⟩ : ByteArray) = D
  have hD1 : D.size = 16 := by rw [← hD]; rfl
  have HD : Hid (D = dig) := hD.symm
  clear hD
  go_loopw [5, 6] (fun v i wr => ∃ j : Nat, j ≤ 32 ∧ i = .int .i64 j ∧ Own 5 .u8 w3 wr v ((List.range (2 * j)).map (nameB n m)) ∧ Fr None' w3 wr) (fun _ i _ => 32 - (intOf i).toNat)
  case atStart => exact ⟨0, by omega, rfl, Own.nil _ _ _ _, Fr.refl _ _⟩
  case round =>
    obtain ⟨j, hj, rfl, hown, fr⟩ := hrel
    by_cases hlt : j < 32
    · have i0 : (j : Int) < 32 := by omega
      obtain ⟨s, hs⟩ : ∃ s, sumB n m j = s := ⟨_, rfl⟩
      have hb := sumB_range n m j
      have hnt := name_two n m j
      rw [hs] at hb hnt
      have hS : Hid (∀ w', Fr None' w3 w' → w'.cell? ⟨w1.heap.size, j, none⟩ = some (.int .u8 s)) := fun w' f => by rw [← hs]; exact (f.rowIs r3 id).cell hlt
      obtain ⟨p, hp⟩ : ∃ p : Nat, s / 16 = p := ⟨(s / 16).toNat, by omega⟩
      obtain ⟨q, hq⟩ : ∃ q : Nat, s % 16 = q := ⟨(s % 16).toNat, by omega⟩
      have b0 : 0 ≤ s := by omega
      have b1 : s ≤ 255 := by omega
      have p0 : p < D.size := by omega
      have q0 : q < D.size := by omega
      have p1 : (p : Int) < 16 := by omega
      have q1 : (q : Int) < 16 := by omega
      have e1 : Int.tdiv s 16 = p := by rw [Int.tdiv_eq_ediv_of_nonneg b0]; exact hp
      have e2 : Int.tmod s 16 = q := by rw [Int.tmod_eq_emod_of_nonneg b0]; exact hq
      have e3 : IntKind.u8.wrap (p : Int) = p := by rw [IntKind.wrap_u8]; omega
      have e4 : IntKind.u8.wrap (q : Int) = q := by rw [IntKind.wrap_u8]; omega
      have HP : Hid (((D[p]).toNat : Int) = hexc p ∧ ((D[q]).toNat : Int) = hexc q) := by
        have hd := HD.out
        subst hd
        exact ⟨dig_at p p0, dig_at q q0⟩
      rw [hp, hq] at hnt
      have HN : Hid (_ = _) := hnt
      clear hs hb hnt r3
      go_wp2_with fail
      have hown' : Own 5 .u8 w3 wr.drew _ ((List.range (2 * j)).map (nameB n m)) := hown.fr (Fr.drewN None' wr 1)
      have fr' : Fr None' w3 wr.drew := fr.then (Fr.drewN None' wr 1)
      clear hown fr
      go_region_held3 (fun w' => w'.cell? ⟨w1.heap.size, j, none⟩ = some (.int .u8 s))
        (first | exact hS.out _ f4 | exact hS.out _ (fr'.then (Fr.alloc None' _ _)) | exact hS.out _ fr')
        (first | (refine step_many Try.underlying22 Try.info8 (by omega) rfl _ _ rfl rfl (hown'.alloc _) (fr'.then (Fr.alloc None' _ _)) rfl (by omega) (two_lies _ .u8 _ _ _) (by simp; omega) ?_; intro v4 w4 own4 f4))
      all_goals go_wp2_with fail
      all_goals
        refine ⟨⟨j + 1, by omega, by go_num, ?_, f4⟩, by simp [intOf]; omega⟩
        rw [HN.out, ← HP.out.1, ← HP.out.2]
        exact own4
    · have i0 : (32 : Int) ≤ (j : Int) := by omega
      have hj32 : j = 32 := by omega
      rw [hj32] at hown
      obtain ⟨g, cg, rfl, hcg, hg1, hg2, hat⟩ := hown.got (by simp)
      have hlen : ((List.range (2 * 32)).map (nameB n m)).length = 64 := by simp
      rw [hlen] at hcg hat ⊢
      have hcv := fun wx (hx : wx = wr) => run_convert_bytes_back (P := Try.prog) wx 22 9 5 ⟨g, 0, none⟩ cg (nameS n m) Try.underlying22 Try.underlying5 Try.underlying9 (fun i hi => by
        subst hx
        rw [nameS_at]
        have hadd : (⟨g, 0, none⟩ : Addr).add i = ⟨g, i, none⟩ := by unfold Addr.add; split <;> simp_all
        rw [nameS_length] at hi
        rw [hadd, hat i hi, range_getD 64 (nameB n m) hi])
      replace hcv := hcv wr rfl
      rw [nameS_length] at hcv
      have f0 := f3.then fr
      clear r3 hown hat hlt hj hj32 hlen fr f3
      go_wp2
      go_ret
      exact ⟨rfl, f0⟩

theorem okd_is (c : UInt8) : okd c = !(((decide ((c.toNat : Int) < 48) || decide ((57 : Int) < c.toNat)) && (decide ((c.toNat : Int) < 97) || decide ((102 : Int) < c.toNat)))) := by
  unfold okd
  rw [Bool.eq_iff_iff]
  simp <;> omega

set_option maxHeartbeats 1000000 in
theorem rnamed_any (s : ByteArray) (w : World) (hs : s.size ≤ maxLen) : Calls Try.prog 18 #[.string s] w fun e w' => e = .returned (.bool (namedB s.data.toList)) ∧ Fr None' w w' := by
  have e : s.data.toList.length = s.size := by cases s; rfl
  unfold maxLen at hs
  have hR : Hid (namedB s.data.toList = (decide (s.size = 64) && s.data.toList.all okd)) := by
    unfold Hid namedB; rw [e]
  clear e
  go_enter Try.func18, Try.ntmps18
  go_wp2_with fail
  go_loopw [3] (fun i wr => ∃ k : Nat, k ≤ s.size ∧ i = .int .i64 k ∧ (s.data.toList.take k).all okd = true ∧ Fr None' w wr) (fun i _ => s.size - (intOf i).toNat)
  case atStart => exact ⟨0, Nat.zero_le _, rfl, rfl, Fr.refl _ _⟩
  case round =>
    obtain ⟨k, hk, rfl, hall, fr⟩ := hrel
    have HA : Hid ((s.data.toList.take k).all okd = true) := hall
    clear hall
    by_cases hlt : k < s.size
    · obtain ⟨c, hc⟩ : ∃ c : Nat, (s[k]).toNat = c := ⟨_, rfl⟩
      have hd := okd_is s[k]
      rw [hc] at hd
      have i0 : (k : Int) < s.size := by omega
      have hcs : (c : Int) < 48 ∨ (48 ≤ (c : Int) ∧ (c : Int) ≤ 57) ∨ (57 < (c : Int) ∧ (c : Int) < 97) ∨ (97 ≤ (c : Int) ∧ (c : Int) ≤ 102) ∨ 102 < (c : Int) := by omega
      rcases hcs with g1 | ⟨g1, g2⟩ | ⟨g1, g2⟩ | ⟨g1, g2⟩ | g1
      · have g3 : (c : Int) < 97 := by omega
        have hd2 : Hid (okd s[k] = false) := by show _ = _; rw [hd]; simp; omega
        clear hd
        go_wp2_with fail
        go_ret
        refine ⟨?_, fr⟩
        rw [hR.out, all_no hlt hd2.out, Bool.and_false]
        rfl
      · have g3 : (c : Int) < 97 := by omega
        have hd2 : Hid (okd s[k] = true) := by show _ = _; rw [hd]; simp; omega
        clear hd
        go_wp2_with fail
        exact ⟨⟨k + 1, by omega, by go_num, all_step hlt HA.out hd2.out, fr⟩, by simp [intOf]; omega⟩
      · have g3 : (48 : Int) ≤ c := by omega
        have hd2 : Hid (okd s[k] = false) := by show _ = _; rw [hd]; simp; omega
        clear hd
        go_wp2_with fail
        go_ret
        refine ⟨?_, fr⟩
        rw [hR.out, all_no hlt hd2.out, Bool.and_false]
        rfl
      · have g3 : (48 : Int) ≤ c := by omega
        have g4 : (57 : Int) < c := by omega
        have hd2 : Hid (okd s[k] = true) := by show _ = _; rw [hd]; simp; omega
        clear hd
        go_wp2_with fail
        exact ⟨⟨k + 1, by omega, by go_num, all_step hlt HA.out hd2.out, fr⟩, by simp [intOf]; omega⟩
      · have g3 : (48 : Int) ≤ c := by omega
        have g4 : (57 : Int) < c := by omega
        have g5 : (97 : Int) ≤ c := by omega
        have hd2 : Hid (okd s[k] = false) := by show _ = _; rw [hd]; simp; omega
        clear hd
        go_wp2_with fail
        go_ret
        refine ⟨?_, fr⟩
        rw [hR.out, all_no hlt hd2.out, Bool.and_false]
        rfl
    · have i0 : (s.size : Int) ≤ k := by omega
      go_wp2
      go_ret
      refine ⟨?_, fr⟩
      have ht := HA.out
      rw [List.take_of_length_le (by rw [show s.data.toList.length = s.size from by cases s; rfl]; omega)] at ht
      rw [hR.out, ht, Bool.and_true]
      have e64 : ((s.size : Int) == 64) = decide (s.size = 64) := by
        rw [Bool.eq_iff_iff]
        simp
        omega
      rw [← e64]
      rfl
end Go.Proofs.Ytklefjmihapdpaa.Sha
