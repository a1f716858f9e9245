/- What is proved here: contracts for RecordMakes. Conditions: as named. -/
import Derived.Test.YtbnfjjjdnbcehaaGreatDoorXFHunks
import Derived.Test.YtbnfjjjdnbcehaaGreatDoorX47FTab
import Derived.Lib.AppendZeros
set_option maxHeartbeats 16000000
namespace Go.Proofs.YtbnfjjjdnbcehaaGreatDoor.Diff
open Go.RowKit
set_option maxRecDepth 100000
theorem infoS : (Tryz.prog.info? 9).map (fun i => (i.zero, i.size, i.bytes)) = some (some (.string ⟨#[]⟩), 1, 16) := by kernel_rfl
theorem grow_any (n : Nat) (w : World) (hn : n ≤ 1000000000) : Calls Tryz.prog 211 #[.slice none 0 0, .int .i64 n] w fun e w' => ∃ v, e = .returned v ∧ OwnV w.heap.size w' 9 v [] ∧ Fr None' w w' := by
 obtain ⟨i0, hi, hz0, hz1, hz2⟩ := info_parts infoS
 have i1 : (n : Int) ≤ 1000000000 := by omega
 have i2 : (0 : Int) ≤ (n : Int) := by omega
 by_cases h0 : n = 0
 ·subst h0
  clear i0 hi hz0 hz1 hz2
  go_enter Tryz.func211, Tryz.ntmps211
  go_wp2_with fail
  go_ret
  exact ⟨_, rfl, OwnV.nil _ _ _, Fr.refl _ _⟩
 ·have hr := Lib.run_append_nil_zeros (P := Tryz.prog) w 41 3 41 9 i0 (.string ⟨#[]⟩) .i64 .i64 (by kernel_rfl) (by kernel_rfl) hi hz0 n (by omega) (by rw [hz1]; omega) (by omega) (by rw [hz2]; omega)
  obtain ⟨cap, hcap⟩ : ∃ cap, grownCap w n 0 9 = cap := ⟨_, rfl⟩
  have hge : n ≤ cap := by rw [← hcap]; exact grownCap_ge w _ 0 9
  have hle : cap ≤ maxLen := by rw [← hcap]; exact grownCap_le_maxLen w _ 0 9 (by unfold maxLen; omega)
  rw [hcap] at hr
  obtain ⟨Z, hZ⟩ : ∃ Z, Builtin.zeroCells (Value.string ⟨#[]⟩).cells n ++ Builtin.zeroCells (Value.string ⟨#[]⟩).cells (cap - n) = Z := ⟨_, rfl⟩
  have hZs : Z.size = cap := by rw [← hZ]; simp [size_zeroCells, Value.cells]; omega
  rw [hZ] at hr
  have HR : Hid (OwnV w.heap.size (w.drew.alloc (.cells Z 9)) 9 (.slice (some ⟨w.heap.size, 0, none⟩) 0 cap) [] ∧ Fr None' w (w.drew.alloc (.cells Z 9))) := by
   refine ⟨⟨rfl, Or.inr ⟨w.heap.size, cap, Z, rfl, Nat.le_refl _, Array.getElem?_push_size, Nat.zero_le _, hle, by omega, by simp⟩⟩, ?_⟩
   exact (show Fr None' w w.drew from ⟨rfl, rfl, rfl, Nat.le_refl _, fun _ _ _ => rfl⟩).then (Fr.alloc None' _ _)
  have i3 : (0 : Int) < (n : Int) := by omega
  have i4 : (n : Int) ≤ (cap : Int) := by omega
  clear hcap hZ hZs hle i0 hi hz0 hz1 hz2 h0
  go_enter Tryz.func211, Tryz.ntmps211
  go_wp2_with (at_builtin; refine Lib.wpList_append_run _ rfl _ _ _ _ rfl _ _ rfl rfl _ _ hr ?_)
  go_ret
  exact ⟨_, rfl, HR.out⟩
def flatK (ps : List (Value × List ByteArray)) (k : Nat) : List ByteArray := ((ps.take k).map (·.2)).flatten
theorem flatK_succ {ps : List (Value × List ByteArray)} {k : Nat} (h : k < ps.length) : flatK ps (k + 1) = flatK ps k ++ ps[k].2 := by
 unfold flatK
 rw [List.take_succ_eq_append_getElem h, List.map_append, List.flatten_append]
 simp
theorem flatK_le {ps : List (Value × List ByteArray)} {m : Nat} (hm : ∀ p ∈ ps, p.2.length ≤ m) : ∀ k, k ≤ ps.length → (flatK ps k).length ≤ k * m := by
 intro k
 induction k with
 | zero => intro _; simp [flatK]
 | succ k ih =>
  intro hk
  rw [flatK_succ hk, List.length_append, Nat.succ_mul]
  have := ih (by omega)
  have := hm ps[k] (List.getElem_mem hk)
  omega
theorem concat_any (g n : Nat) (c : Nat) (ps : List (Value × List ByteArray)) (w : World) (hn : ps.length = n) (hn9 : n ≤ 10) (hc : ∀ k x, ps[k]? = some x → w.cell? ⟨g, k, none⟩ = some x.1 ∧ StrAt w x.1 x.2) (hm : ∀ p ∈ ps, p.2.length ≤ 50000000) :
  Calls Tryz.prog 181 #[.slice (some ⟨g, 0, none⟩) n c] w fun e w' => ∃ v, e = .returned v ∧ OwnV w.heap.size w' 9 v (((ps.map (·.2)).flatten).map .string) ∧ Fr None' w w' := by
 have HN : Hid (ps.length = n) := hn
 have HF : Hid (flatK ps n = (ps.map (·.2)).flatten) := by
  show _ = _
  unfold flatK
  rw [List.take_of_length_le (by omega)]
 have HL : Hid (∀ k, k ≤ n → (flatK ps k).length ≤ 500000000) := fun k hk => by
  have := flatK_le hm k (by omega)
  have : k * 50000000 ≤ 10 * 50000000 := Nat.mul_le_mul_right _ (by omega)
  omega
 have i1 : (n : Int) ≤ 10 := by omega
 clear hn hm
 go_enter Tryz.func181, Tryz.ntmps181
 go_wp2_with fail
 go_loopw [3, 11] (fun s i wr => ∃ k : Nat, k ≤ n ∧ i = .int .i64 k ∧ s = .int .i64 (flatK ps k).length ∧ Fr None' w wr) (fun _ i _ => n - (intOf i).toNat)
 case atStart => exact ⟨0, Nat.zero_le _, rfl, rfl, Fr.refl _ _⟩
 case round =>
  obtain ⟨k, hk, rfl, rfl, hF⟩ := hrel
  by_cases hlt : k < n
  ·have hkp : k < ps.length := by rw [HN.out]; exact hlt
   obtain ⟨c1, s1⟩ := hc k ps[k] (List.getElem?_eq_getElem hkp)
   obtain ⟨va, cv, hv, _, _, _⟩ := s1
   rw [hv] at c1
   have c2 := hF.cell c1 (fun e => e)
   have e1 := flatK_succ hkp
   obtain ⟨m, hm⟩ : ∃ m, ps[k].2.length = m := ⟨_, rfl⟩
   obtain ⟨t, ht⟩ : ∃ t, (flatK ps k).length = t := ⟨_, rfl⟩
   have l1 := HL.out (k + 1) hlt
   rw [e1, List.length_append, hm, ht] at l1
   rw [hm] at c2
   have HE : Hid ((flatK ps (k + 1)).length = t + m) := by show _ = _; rw [e1, List.length_append, hm, ht]
   rw [ht]
   clear hv c1 e1 hm ht hc
   have i3 : (0 : Int) ≤ (k : Int) := by omega
   have i4 : (k : Int) < (n : Int) := by omega
   have i5 : (t : Int) + (m : Int) ≤ 500000000 := by omega
   have i6 : (0 : Int) ≤ (t : Int) + (m : Int) := by omega
   go_wp2_with fail
   exact ⟨⟨k + 1, by omega, by go_num, by rw [HE.out]; go_num, hF⟩, by simp [intOf]; omega⟩
  ·have e : k = n := by omega
   subst e
   have l1 := HL.out k (Nat.le_refl _)
   have cG := fun w2 => grow_any (flatK ps k).length w2 (by omega)
   obtain ⟨t, ht⟩ : ∃ t, (flatK ps k).length = t := ⟨_, rfl⟩
   rw [ht] at cG
   rw [ht]
   clear l1 ht
   go_wp2_with (go_at_call 211; refine (cG _).mono ?_; rintro e w2 ⟨v, rfl, o2, f2⟩)
   have F2 := hF.then f2
   have O2 : OwnV w.heap.size w2 9 v [] := own_mono o2 hF.size
   clear o2 f2 hF
   go_loopw [6, 27] (fun v i wr => ∃ q : Nat, q ≤ k ∧ i = .int .i64 q ∧ Hid (OwnV w.heap.size wr 9 v ((flatK ps q).map .string)) ∧ Fr None' w wr) (fun _ i _ => k - (intOf i).toNat)
   case atStart => exact ⟨0, Nat.zero_le _, rfl, O2, F2⟩
   case round =>
    clear O2 F2
    obtain ⟨q, hq, rfl, HO, hF⟩ := hrel
    by_cases hlt2 : q < k
    ·have hkp : q < ps.length := by rw [HN.out]; exact hlt2
     obtain ⟨c1, s1⟩ := hc q ps[q] (List.getElem?_eq_getElem hkp)
     have s2 := s1.kept hF
     obtain ⟨va, cv, hv, n1, _, r1⟩ := s2
     rw [hv] at c1
     have c2 := hF.cell c1 (fun e => e)
     have e1 := flatK_succ hkp
     obtain ⟨X, hX⟩ : ∃ X, ps[q].2 = X := ⟨_, rfl⟩
     rw [hX] at c2 r1 e1
     have l1 := HL.out (q + 1) hlt2
     rw [e1, List.length_append] at l1
     obtain ⟨Y, hY⟩ : ∃ Y, flatK ps q = Y := ⟨_, rfl⟩
     rw [hY] at HO e1 l1
     have HE : Hid ((flatK ps (q + 1)) = Y ++ X) := e1
     have HRW : Hid (RowV wr va (X.map .string)) := r1.vals
     have HLL : Hid (Y.length + X.length ≤ 500000000) := l1
     clear s1 hv c1 e1 hX hY hc r1 l1
     have i3 : (0 : Int) ≤ (q : Int) := by omega
     have i4 : (q : Int) < (k : Int) := by omega
     obtain ⟨m, hm⟩ : ∃ m, X.length = m := ⟨_, rfl⟩
     rw [hm] at c2
     have HM : Hid ((X.map Value.string).length = m) := by show _ = _; rw [List.length_map, hm]
     clear hm
     have hsz := hF.size
     go_wp2_with (at_builtin
                  refine append_one oneS rfl _ _ rfl rfl HO.out (m := X.map .string) rfl HM.out HRW.out n1 (strs_one X) (by have := HLL.out; simp; omega) hsz ?_
                  intro v1 w1 own1 f1 _)
     rw [← List.map_append, ← HE.out] at own1
     exact ⟨⟨q + 1, by omega, by go_num, own1, (own_fr HO.out hF (Fr.refl None' wr) f1).1⟩, by simp [intOf]; omega⟩
    ·have e : q = k := by omega
     subst e
     have HR : Hid (OwnV w.heap.size wr 9 _ (((ps.map (·.2)).flatten).map .string)) := HF.out ▸ HO.out
     obtain ⟨va, cv, hv, _⟩ := HR.out.slice
     subst hv
     clear HO
     go_wp2_with fail
     go_ret
     exact ⟨_, rfl, HR.out, hF⟩
end Go.Proofs.YtbnfjjjdnbcehaaGreatDoor.Diff
namespace Go.Proofs.YtbnfjjjdnbcehaaGreatDoor.Diff
open Go.RowKit Go.Shelf
set_option maxRecDepth 100000
attribute [local go_sem] run_store_float
structure GE where
 (pn ps pr pk pb pw g0 gB gl ga oa sz nb m c0 cl cb H1 base : Nat)
 vb : Option Addr
 D : Nat → Value
 A : List Int
 B : List Int
def GE.foot (E : GE) (R : Nat → Value) : Nat → Prop := fun k => (E.H1 ≤ k ∧ k < E.base) ∨ ∃ i, i < E.sz + 1 ∧ Zr (R i) k
structure GE.Fit (E : GE) : Prop where
 sz1 : 1 ≤ E.sz
 sz9 : E.sz ≤ 100
 nA : E.A.length ≤ 4120
 mB : E.B.length = E.m
 m9 : E.m ≤ 4120
 m1 : 0 < E.m
 nb1 : E.A.length ≤ E.nb * E.sz
 nb2 : ∀ k, k < E.nb → k * E.sz < E.A.length
 nb9 : E.nb ≤ 4120
 low : ∀ k, k = E.pn ∨ k = E.ps ∨ k = E.pr ∨ k = E.pk ∨ k = E.pb ∨ k = E.pw ∨ k = E.g0 ∨ k = E.gB ∨ k = E.gl ∨ k = E.ga → E.H1 ≤ k ∧ k < E.base
 lowb : ∀ x, E.vb = some x → E.H1 ≤ x.block ∧ x.block < E.base
 lowD : ∀ k j, k < E.nb → Zr (E.D k) j → E.H1 ≤ j ∧ j < E.base
 ne : E.pn ≠ E.ps ∧ E.pn ≠ E.pr ∧ E.pn ≠ E.pk ∧ E.pn ≠ E.pb ∧ E.pn ≠ E.pw ∧ E.pn ≠ E.g0 ∧ E.pn ≠ E.gB ∧ E.pn ≠ E.gl ∧ E.pn ≠ E.ga
 neb : ∀ x, E.vb = some x → x.block ≠ E.pn ∧ x.block ≠ E.g0
 neD : ∀ k j, k < E.nb → Zr (E.D k) j → j ≠ E.pn ∧ j ≠ E.g0
 ne0 : E.g0 ≠ E.ps ∧ E.g0 ≠ E.pr ∧ E.g0 ≠ E.pk ∧ E.g0 ≠ E.pb ∧ E.g0 ≠ E.pw ∧ E.g0 ≠ E.gB ∧ E.g0 ≠ E.gl ∧ E.g0 ≠ E.ga
structure Yo (E : GE) (w : World) (R : Nat → Value) (now : Int) : Prop where
 cn : w.cell? ⟨E.pn, 0, none⟩ = some (.int .i64 now)
 zn : w.frozen? ⟨E.pn, 0, none⟩ = false
 cs : w.cell? ⟨E.ps, 0, none⟩ = some (.int .i64 E.sz)
 cr : w.cell? ⟨E.pr, 0, none⟩ = some (.slice (some ⟨E.g0, 0, none⟩) (E.sz + 1) E.c0)
 ck : w.cell? ⟨E.pk, 0, none⟩ = some (.slice (some ⟨E.gl, 0, none⟩) E.nb E.cl)
 cb : w.cell? ⟨E.pb, 0, none⟩ = some (.slice E.vb E.m E.cb)
 cw : w.cell? ⟨E.pw, 0, none⟩ = some (.slice (some ⟨E.gB, 0, none⟩) E.nb E.nb)
 rl : RowV w (some ⟨E.gl, 0, none⟩) (chs E.ga E.oa E.A.length E.sz E.nb)
 rA : RowV w (some ⟨E.ga, E.oa, none⟩) (ints E.A)
 rB : RowV w E.vb (ints E.B)
 rD : ∀ k, k < E.nb → w.cell? ⟨E.gB, k, none⟩ = some (E.D k) ∧ Yw E.H1 w (E.D k) (E.m + 1) (rowK (E.A.drop ((k + 1) * E.sz)) E.B)
 tab : Tab E.base w E.g0 (E.sz + 1) R
 top : E.base ≤ w.heap.size
 fill : now = -1 ∨ ∃ k : Nat, k < E.nb ∧ now = k ∧ ∀ i, i ≤ Yv E.A.length E.sz k → Yw E.base w (R i) (E.m + 1) (rowK (E.A.drop (k * E.sz + i)) E.B)
theorem GE.foot_low {E : GE} (hE : E.Fit) {R : Nat → Value} {k : Nat} (h : k = E.pn ∨ k = E.ps ∨ k = E.pr ∨ k = E.pk ∨ k = E.pb ∨ k = E.pw ∨ k = E.g0 ∨ k = E.gB ∨ k = E.gl ∨ k = E.ga) : E.foot R k := Or.inl (hE.low k h)
theorem Yo.fr {E : GE} (hE : E.Fit) {w w' : World} {R : Nat → Value} {now : Int} (h : Yo E w R now) {M : Nat → Prop} (f : Fr M w w') (hM : ∀ k, E.foot R k → ¬ M k) : Yo E w' R now := by
 have L := @GE.foot_low E hE R
 have own : ∀ i k, i < E.sz + 1 → Zr (R i) k → ¬ M k := fun i k hi hk => hM k (Or.inr ⟨i, hi, hk⟩)
 refine ⟨f.cell h.cn (hM _ (L (by simp))), (Zs (f.block _ (Zq h.cn) (hM _ (L (by simp))))).trans h.zn, f.cell h.cs (hM _ (L (by simp))), f.cell h.cr (hM _ (L (by simp))), f.cell h.ck (hM _ (L (by simp))), f.cell h.cb (hM _ (L (by simp))), f.cell h.cw (hM _ (L (by simp))),
  h.rl.fr f (fun a e => by cases e; exact hM _ (L (by simp))), h.rA.fr f (fun a e => by cases e; exact hM _ (L (by simp))), h.rB.fr f (fun a e => hM _ (Or.inl (hE.lowb a e))),
  fun k hk => ⟨f.cell (h.rD k hk).1 (hM _ (L (by simp))), (h.rD k hk).2.fr f (fun j hj => hM _ (Or.inl (hE.lowD k j hk hj)))⟩,
  h.tab.fr (by omega) f (hM _ (L (by simp))) own, Nat.le_trans h.top f.size, ?_⟩
 rcases h.fill with e | ⟨k, hk, e, hr⟩
 ·exact Or.inl e
 ·refine Or.inr ⟨k, hk, e, fun i hi => (hr i hi).fr f (fun j hj => own i j ?_ hj)⟩
  have : Yv E.A.length E.sz k ≤ E.sz := Nat.min_le_left _ _
  omega
theorem drop_part {A : List Int} {p sz i : Nat} (hi : i ≤ min sz (A.length - p)) : ((A.drop p).take (min sz (A.length - p))).drop i ++ A.drop (p + sz) = A.drop (p + i) := by
 have e1 : (A.drop p).take (min sz (A.length - p)) = (A.drop p).take sz := by
  rw [List.take_eq_take_iff]
  simp
 rw [e1, ← List.drop_drop, ← List.drop_drop]
 have h := List.take_append_drop sz (A.drop p)
 conv => rhs; rw [← h]
 rw [List.drop_append_of_le_length]
 rw [List.length_take, List.length_drop]
 exact hi
theorem Yo.rows {E : GE} (_ : E.Fit) {w : World} {R : Nat → Value} {i q r : Nat} (h : Yo E w R (q : Int)) (hi : i < E.A.length) (hq : i = q * E.sz + r) (hr : r < E.sz) :
  Yw E.base w (R r) (E.m + 1) (rowK (E.A.drop i) E.B) ∧ Yw E.base w (R (r + 1)) (E.m + 1) (rowK (E.A.drop (i + 1)) E.B) := by
 rcases h.fill with e | ⟨k, hk, e, hf⟩
 ·omega
 ·have ek : k = q := by omega
  subst ek
  have hlen : r + 1 ≤ Yv E.A.length E.sz k := by unfold Yv; omega
  have h1 := hf r (by omega)
  have h2 := hf (r + 1) hlen
  rw [← hq] at h1
  rw [← Nat.add_assoc, ← hq] at h2
  exact ⟨h1, h2⟩
theorem goes_read (E : GE) (hE : E.Fit) (w : World) (R : Nat → Value) (i j q r : Nat) (h : Yo E w R (q : Int)) (hi : i < E.A.length) (hj : j < E.m) (hq : i = q * E.sz + r) (hr : r < E.sz) :
  Calls Tryz.prog 168 #[.int .i64 i, .int .i64 j, .pointer (some ⟨E.pn, 0, none⟩), .pointer (some ⟨E.ps, 0, none⟩), .pointer (some ⟨E.pr, 0, none⟩), .pointer (some ⟨E.pk, 0, none⟩), .pointer (some ⟨E.pb, 0, none⟩), .pointer (some ⟨E.pw, 0, none⟩)] w fun e w' => e = .returned (.bool (kgeq (kept (E.A.drop (i + 1)) (E.B.drop j)) (kept (E.A.drop i) (E.B.drop (j + 1))))) ∧ Fr None' w w' := by
 obtain ⟨r1, r2⟩ := h.rows hE hi hq hr
 have hrm : i % E.sz = r := by rw [hq, Nat.mul_add_mod_self_right, Nat.mod_eq_of_lt hr]
 have hqd : i / E.sz = q := by rw [hq, Nat.mul_comm, Nat.mul_add_div (by omega), Nat.div_eq_of_lt hr, Nat.add_zero]
 have dq : (i : Int) / (E.sz : Int) = (q : Int) := by rw [← hqd]; exact (Int.natCast_ediv i E.sz).symm
 have dr : (i : Int) % (E.sz : Int) = (r : Int) := by rw [← hrm]; exact (Int.natCast_emod i E.sz).symm
 obtain ⟨g1, c1, hg1, _, _⟩ := r1.slice (by omega)
 obtain ⟨g2, c2, hg2, _, _⟩ := r2.slice (by omega)
 have t1 := h.tab.cell r (by omega)
 have t2 := h.tab.cell (r + 1) (by omega)
 rw [hg1] at r1 t1
 rw [hg2] at r2 t2
 have e1 := r1.cell (j := j + 1) (by omega)
 have e2 := r2.cell (j := j) (by omega)
 have hA9 := hE.nA
 have hm9 := hE.m9
 have hs9 := hE.sz9
 have hs1 := hE.sz1
 have b1 : ∀ k, rowK (E.A.drop i) E.B (j + 1) = some k → k ≤ 4220 := fun k hk => Nat.le_of_lt (kept_bound (by rw [List.length_drop]; omega) _ k hk)
 have b2 : ∀ k, rowK (E.A.drop (i + 1)) E.B j = some k → k ≤ 4220 := fun k hk => Nat.le_of_lt (kept_bound (by rw [List.length_drop]; omega) _ k hk)
 have hg := fl_geq (rowK (E.A.drop (i + 1)) E.B j) (rowK (E.A.drop i) E.B (j + 1)) b2 b1
 have HG : Hid (kgeq (rowK (E.A.drop (i + 1)) E.B j) (rowK (E.A.drop i) E.B (j + 1)) = kgeq (kept (E.A.drop (i + 1)) (E.B.drop j)) (kept (E.A.drop i) (E.B.drop (j + 1)))) := rfl
 unfold flV at e1 e2
 generalize fl (rowK (E.A.drop i) E.B (j + 1)) = x1 at e1 hg
 generalize fl (rowK (E.A.drop (i + 1)) E.B j) = x2 at e2 hg
 generalize kgeq (rowK (E.A.drop (i + 1)) E.B j) (rowK (E.A.drop i) E.B (j + 1)) = ans at hg HG
 rw [← HG.out]
 have cn := h.cn
 have cs := h.cs
 have cr := h.cr
 have i0 : (0 : Int) ≤ (i : Int) := by omega
 have i1 : (i : Int) ≤ 4120 := by omega
 have i2 : (1 : Int) ≤ (E.sz : Int) := by omega
 have i3 : (E.sz : Int) ≤ 100 := by omega
 have i4 : (0 : Int) ≤ (r : Int) := by omega
 have i5 : (r : Int) < (E.sz : Int) := by omega
 have i6 : (0 : Int) ≤ (j : Int) := by omega
 have i7 : (j : Int) < (E.m : Int) := by omega
 have i8 : (E.m : Int) ≤ 4120 := by omega
 have i9 : ¬ (E.sz : Int) = 0 := by omega
 have hqi : q ≤ i := by rw [← hqd]; exact Nat.div_le_self i E.sz
 have iq : (q : Int) ≤ 4120 := by omega
 have iq0 : (0 : Int) ≤ (q : Int) := by omega
 clear h r1 r2 hg1 hg2 b1 b2 HG hq hrm hqd hE
 go_enter Tryz.func168, Tryz.ntmps168
 go_wp2_with fail
 go_quiet (fail)
 go_wp2_with fail
 go_quiet (fail)
 go_wp2_with fail
 go_ret
 exact ⟨rfl, (Fr.drewN _ _ _).then (Fr.drewN _ _ _)⟩
theorem Yo.facts {E : GE} (hE : E.Fit) {w : World} {R : Nat → Value} {i j q r : Nat} (h : Yo E w R (q : Int)) (hi : i < E.A.length) (hj : j < E.m) (hq : i = q * E.sz + r) (hr : r < E.sz) :
  ∃ g1 c1 g2 c2 x1 x2 : Nat, w.cell? ⟨E.g0, r, none⟩ = some (.slice (some ⟨g1, 0, none⟩) (E.m + 1) c1) ∧ w.cell? ⟨E.g0, r + 1, none⟩ = some (.slice (some ⟨g2, 0, none⟩) (E.m + 1) c2) ∧ w.cell? ⟨g1, j + 1, none⟩ = some (.float .f64 x1) ∧ w.cell? ⟨g2, j, none⟩ = some (.float .f64 x2) ∧
   (FloatKind.f64.format.order x2 x1 == some Ordering.gt || FloatKind.f64.format.order x2 x1 == some Ordering.eq) = kgeq (kept (E.A.drop (i + 1)) (E.B.drop j)) (kept (E.A.drop i) (E.B.drop (j + 1))) := by
 obtain ⟨r1, r2⟩ := h.rows hE hi hq hr
 obtain ⟨g1, c1, hg1, _, _⟩ := r1.slice (by omega)
 obtain ⟨g2, c2, hg2, _, _⟩ := r2.slice (by omega)
 have t1 := h.tab.cell r (by omega)
 have t2 := h.tab.cell (r + 1) (by omega)
 rw [hg1] at r1 t1
 rw [hg2] at r2 t2
 have hA9 := hE.nA
 have b1 : ∀ k, rowK (E.A.drop i) E.B (j + 1) = some k → k ≤ 4220 := fun k hk => Nat.le_of_lt (kept_bound (by rw [List.length_drop]; omega) _ k hk)
 have b2 : ∀ k, rowK (E.A.drop (i + 1)) E.B j = some k → k ≤ 4220 := fun k hk => Nat.le_of_lt (kept_bound (by rw [List.length_drop]; omega) _ k hk)
 exact ⟨g1, c1, g2, c2, _, _, t1, t2, r1.cell (j := j + 1) (by omega), r2.cell (j := j) (by omega), fl_geq (rowK (E.A.drop (i + 1)) E.B j) (rowK (E.A.drop i) E.B (j + 1)) b2 b1⟩
theorem Yo.filled {E : GE} (hE : E.Fit) {w w1 w2 : World} {R R' : Nat → Value} {now : Int} {q : Nat} (h : Yo E w R now) (hq : q < E.nb) (f1 : Fr (fun k => k = E.pn) w w1) (c1 : w1.cell? ⟨E.pn, 0, none⟩ = some (.int .i64 q)) (z1 : w1.frozen? ⟨E.pn, 0, none⟩ = false)
  (t2 : Tab E.base w2 E.g0 (E.sz + 1) R') (rows : ∀ i, i ≤ Yv E.A.length E.sz q → Yw E.base w2 (R' i) (E.m + 1) (rowK (E.A.drop (q * E.sz + i)) E.B)) (new : ∀ i k, i < E.sz + 1 → Zr (R' i) k → Zr (R i) k ∨ w1.heap.size ≤ k) (f2 : Fr (fun k => k = E.g0 ∨ ∃ i, i < E.sz + 1 ∧ Zr (R i) k) w1 w2) :
  Yo E w2 R' (q : Int) ∧ Fr (E.foot R) w w2 ∧ ∀ k, E.foot R' k → E.foot R k ∨ w.heap.size ≤ k := by
 obtain ⟨n1, n2, n3, n4, n5, n6, n7, n8, n9⟩ := hE.ne
 obtain ⟨m1, m2, m3, m4, m5, m6, m7, m8⟩ := hE.ne0
 have L := hE.low
 have own : ∀ i k, i < E.sz + 1 → Zr (R i) k → E.base ≤ k := fun i k hi hk => by
  obtain ⟨vs, hv⟩ := h.tab.own i hi
  exact (hv.lt hk).1
 have f12 : Fr (fun k => k = E.pn ∨ k = E.g0 ∨ ∃ i, i < E.sz + 1 ∧ Zr (R i) k) w w2 := (f1.mono (fun _ e => Or.inl e)).then (f2.mono (fun _ e => Or.inr e))
 have no : ∀ k, k < E.base → k ≠ E.pn → k ≠ E.g0 → ¬ (k = E.pn ∨ k = E.g0 ∨ ∃ i, i < E.sz + 1 ∧ Zr (R i) k) := fun k hk h1 h2 e => by
  rcases e with e | e | ⟨i, hi, e⟩
  ·exact h1 e
  ·exact h2 e
  ·have := own i k hi e
   omega
 have nn : ¬ (E.pn = E.g0 ∨ ∃ i, i < E.sz + 1 ∧ Zr (R i) E.pn) := fun e => by
  rcases e with e | ⟨i, hi, e⟩
  ·exact n6 e
  ·have := own i _ hi e
   have := (L E.pn (by simp)).2
   omega
 refine ⟨⟨f2.cell c1 nn, (Zs (f2.block _ (Zq c1) nn)).trans z1, f12.cell h.cs (no _ (L _ (by simp)).2 (Ne.symm n1) (Ne.symm m1)), f12.cell h.cr (no _ (L _ (by simp)).2 (Ne.symm n2) (Ne.symm m2)), f12.cell h.ck (no _ (L _ (by simp)).2 (Ne.symm n3) (Ne.symm m3)), f12.cell h.cb (no _ (L _ (by simp)).2 (Ne.symm n4) (Ne.symm m4)), f12.cell h.cw (no _ (L _ (by simp)).2 (Ne.symm n5) (Ne.symm m5)),
  h.rl.fr f12 (fun a e => by cases e; exact no _ (L _ (by simp)).2 (Ne.symm n8) (Ne.symm m7)), h.rA.fr f12 (fun a e => by cases e; exact no _ (L _ (by simp)).2 (Ne.symm n9) (Ne.symm m8)), h.rB.fr f12 (fun a e => no _ (hE.lowb a e).2 (hE.neb a e).1 (hE.neb a e).2),
  fun k hk => ⟨f12.cell (h.rD k hk).1 (no _ (L _ (by simp)).2 (Ne.symm n7) (Ne.symm m6)), (h.rD k hk).2.fr f12 (fun j hj => no _ (hE.lowD k j hk hj).2 (hE.neD k j hk hj).1 (hE.neD k j hk hj).2)⟩,
  t2, Nat.le_trans h.top f12.size, Or.inr ⟨q, hq, rfl, rows⟩⟩, f12.mono (fun k e => ?_), fun k e => ?_⟩
 ·rcases e with e | e | e
  ·rw [e]; exact Or.inl (L _ (by simp))
  ·rw [e]; exact Or.inl (L _ (by simp))
  ·exact Or.inr e
 ·rcases e with e | ⟨i, hi, e⟩
  ·exact Or.inl (Or.inl e)
  ·rcases new i k hi e with e | e
   ·exact Or.inl (Or.inr ⟨i, hi, e⟩)
   ·exact Or.inr (Nat.le_trans f1.size e)
theorem goes_fill (E : GE) (hE : E.Fit) (w : World) (R : Nat → Value) (now : Int) (i j q r : Nat) (h : Yo E w R now) (hne : ¬ now = (q : Int)) (hi : i < E.A.length) (hj : j < E.m) (hq : i = q * E.sz + r) (hr : r < E.sz) :
  Calls Tryz.prog 168 #[.int .i64 i, .int .i64 j, .pointer (some ⟨E.pn, 0, none⟩), .pointer (some ⟨E.ps, 0, none⟩), .pointer (some ⟨E.pr, 0, none⟩), .pointer (some ⟨E.pk, 0, none⟩), .pointer (some ⟨E.pb, 0, none⟩), .pointer (some ⟨E.pw, 0, none⟩)] w fun e w' => e = .returned (.bool (kgeq (kept (E.A.drop (i + 1)) (E.B.drop j)) (kept (E.A.drop i) (E.B.drop (j + 1))))) ∧ ∃ R', Yo E w' R' (q : Int) ∧ Fr (E.foot R) w w' ∧ ∀ k, E.foot R' k → E.foot R k ∨ w.heap.size ≤ k := by
 have hrm : i % E.sz = r := by rw [hq, Nat.mul_add_mod_self_right, Nat.mod_eq_of_lt hr]
 have hqd : i / E.sz = q := by rw [hq, Nat.mul_comm, Nat.mul_add_div (by omega), Nat.div_eq_of_lt hr, Nat.add_zero]
 have dq : (i : Int) / (E.sz : Int) = (q : Int) := by rw [← hqd]; exact (Int.natCast_ediv i E.sz).symm
 have dr : (i : Int) % (E.sz : Int) = (r : Int) := by rw [← hrm]; exact (Int.natCast_emod i E.sz).symm
 have hA9 := hE.nA
 have hm9 := hE.m9
 have hs9 := hE.sz9
 have hs1 := hE.sz1
 have hb9 := hE.nb9
 have hqi : q ≤ i := by rw [← hqd]; exact Nat.div_le_self i E.sz
 have hqn : q < E.nb := by
  have h1 := hE.nb1
  rcases Nat.lt_or_ge q E.nb with h2 | h2
  ·exact h2
  ·have := Nat.mul_le_mul_right E.sz h2
   omega
 have i0 : (0 : Int) ≤ (i : Int) := by omega
 have i1 : (i : Int) ≤ 4120 := by omega
 have i2 : (1 : Int) ≤ (E.sz : Int) := by omega
 have i3 : (E.sz : Int) ≤ 100 := by omega
 have i4 : (0 : Int) ≤ (r : Int) := by omega
 have i5 : (r : Int) < (E.sz : Int) := by omega
 have i6 : (0 : Int) ≤ (j : Int) := by omega
 have i7 : (j : Int) < (E.m : Int) := by omega
 have i8 : (E.m : Int) ≤ 4120 := by omega
 have i9 : ¬ (E.sz : Int) = 0 := by omega
 have iq : (q : Int) ≤ 4120 := by omega
 have iq0 : (0 : Int) ≤ (q : Int) := by omega
 have iqn : (q : Int) < (E.nb : Int) := by omega
 have ib9 : (E.nb : Int) ≤ 4120 := by omega
 have HN : Hid (i = q * E.sz + r) := hq
 obtain ⟨ans, hans⟩ : ∃ ans, kgeq (kept (E.A.drop (i + 1)) (E.B.drop j)) (kept (E.A.drop i) (E.B.drop (j + 1))) = ans := ⟨_, rfl⟩
 rw [hans]
 have HANS : Hid (kgeq (kept (E.A.drop (i + 1)) (E.B.drop j)) (kept (E.A.drop i) (E.B.drop (j + 1))) = ans) := hans
 clear hans
 have Hh0 : Hid (Yo E w R now) := h
 have cn := h.cn
 have cs := h.cs
 clear h hq hrm hqd
 go_enter Tryz.func168, Tryz.ntmps168
 go_wp2_with fail
 go_quiet (fail)
 have h : Yo E (w.drewN nq) R now := Hh0.out.fr hE (Fr.drewN None' w nq) (fun _ _ e => e)
 have F0 : Fr None' w (w.drewN nq) := Fr.drewN None' w nq
 clear cn cs Hh0
 generalize w.drewN nq = v at *
 have cn := h.cn
 have zn := h.zn
 have cs := h.cs
 obtain ⟨rDc, rDr⟩ := h.rD q hqn
 obtain ⟨gd, cd, hgd, _, _⟩ := rDr.slice (by omega)
 rw [hgd] at rDc rDr
 have hgdl := hE.lowD q gd hqn (by rw [hgd]; rfl)
 have hgdn := hE.neD q gd hqn (by rw [hgd]; rfl)
 obtain ⟨n1, n2, n3, n4, n5, n6, n7, n8, n9⟩ := hE.ne
 obtain ⟨m1, m2, m3, m4, m5, m6, m7, m8⟩ := hE.ne0
 have L := hE.low
 obtain ⟨w1, hw1⟩ : ∃ w1, v.setCell ⟨E.pn, 0, none⟩ (.int .i64 q) = w1 := ⟨_, rfl⟩
 have f1 : Fr (fun k => k = E.pn) v w1 := hw1 ▸ Fr.setCell (M := fun k => k = E.pn) v (a := ⟨E.pn, 0, none⟩) rfl _
 have c1n : w1.cell? ⟨E.pn, 0, none⟩ = some (.int .i64 q) := by rw [← hw1]; exact World.cell?_setCell_same' _ _ _ (by rw [h.cn]; rfl)
 have z1n : w1.frozen? ⟨E.pn, 0, none⟩ = false := by rw [← hw1, World.frozen?_setCell]; exact h.zn
 have own : ∀ i k, i < E.sz + 1 → Zr (R i) k → E.base ≤ k := fun i k hi hk => by
  obtain ⟨vs, hv⟩ := h.tab.own i hi
  exact (hv.lt hk).1
 have T1 := h.tab.fr (by omega) f1 (Ne.symm n6) (fun i k hi hk e => by have := own i k hi hk; have := (L E.pn (by simp)).2; omega)
 have r1 := f1.cell h.cr (Ne.symm n2)
 have k1 := f1.cell h.ck (Ne.symm n3)
 have b1 := f1.cell h.cb (Ne.symm n4)
 have wc1 := f1.cell h.cw (Ne.symm n5)
 have d1 := f1.cell rDc (Ne.symm n7)
 have hcq : (chs E.ga E.oa E.A.length E.sz E.nb)[q]? = some (chV E.ga E.oa E.A.length E.sz q) := by simp [chs, hqn]
 obtain ⟨gx, ox, ex, lx⟩ := h.rl q _ hcq
 cases ex
 rw [Nat.zero_add] at lx
 have l1 := f1.cell lx (Ne.symm n8)
 have K1 : RowV w1 (some ⟨E.ga, E.oa + q * E.sz, none⟩) (ints ((E.A.drop (q * E.sz)).take (Yv E.A.length E.sz q))) := by
  have := (h.rA.fr f1 (fun a e => by cases e; exact Ne.symm n9)).part (q * E.sz) (Yv E.A.length E.sz q)
  unfold ints at this ⊢
  rw [List.map_take, List.map_drop]
  exact this
 have B1 : RowV w1 E.vb (ints E.B) := h.rB.fr f1 (fun a e => (hE.neb a e).1)
 have D1 := rDr.fr f1 (fun k e => by unfold Zr at e; cases e; exact hgdn.1)
 have hlen : ((E.A.drop (q * E.sz)).take (Yv E.A.length E.sz q)).length = Yv E.A.length E.sz q := by
  rw [List.length_take, List.length_drop]
  unfold Yv
  omega
 have hch : Yv E.A.length E.sz q ≤ E.sz := Nat.min_le_left _ _
 have htop := h.top
 have htop1 : E.base ≤ w1.heap.size := Nat.le_trans htop f1.size
 have cF := fill_any E.base E.H1 E.g0 (E.sz + 1) E.m E.c0 E.cb (Yv E.A.length E.sz q) gd cd (Yv E.A.length E.sz q) E.vb (some ⟨E.ga, E.oa + q * E.sz, none⟩) R ((E.A.drop (q * E.sz)).take (Yv E.A.length E.sz q)) (E.A.drop ((q + 1) * E.sz)) E.B w1.drew
  (T1.fr (by omega) (fr_drew None' w1) (fun e => e) (fun _ _ _ _ e => e)) (by omega) hlen (by omega) K1 B1 hE.mB hm9 (by rw [hlen, List.length_drop]; unfold Yv; rw [Nat.succ_mul]; omega) D1 (fun x e => by cases e; exact ⟨(L _ (by simp)).2, Ne.symm m8⟩) (fun x e => ⟨(hE.lowb x e).2, (hE.neb x e).2⟩) ⟨hgdl.2, hgdn.2⟩ htop1
 have HD : Hid (∀ i, i ≤ Yv E.A.length E.sz q → ((E.A.drop (q * E.sz)).take (Yv E.A.length E.sz q)).drop i ++ E.A.drop ((q + 1) * E.sz) = E.A.drop (q * E.sz + i)) := fun i hi => by
  rw [Nat.succ_mul]
  exact drop_part hi
 have HL : Hid (((E.A.drop (q * E.sz)).take (Yv E.A.length E.sz q)).length = Yv E.A.length E.sz q) := hlen
 have HX : Hid (chV E.ga E.oa E.A.length E.sz q = .slice (some ⟨E.ga, E.oa + q * E.sz, none⟩) (Yv E.A.length E.sz q) (Yv E.A.length E.sz q)) := rfl
 rw [HX.out] at l1
 have Hh : Hid (Yo E v R now) := h
 have own4 : ∀ k, k < E.base → k ≠ E.g0 → ¬ (k = E.g0 ∨ ∃ i, i < E.sz + 1 ∧ Zr (R i) k) := fun k h1 h2 e => by
  rcases e with e | ⟨i, hi, e⟩
  ·exact h2 e
  ·have := own i k hi e
   omega
 have s1 := own4 _ (L E.pr (by simp)).2 (Ne.symm m2)
 have s2 := own4 _ (L E.pk (by simp)).2 (Ne.symm m3)
 have s3 := own4 _ (L E.pn (by simp)).2 n6
 have s4 := own4 _ (L E.gl (by simp)).2 (Ne.symm m7)
 have s5 := own4 _ (L E.pb (by simp)).2 (Ne.symm m4)
 have s6 := own4 _ (L E.pw (by simp)).2 (Ne.symm m5)
 have s7 := own4 _ (L E.gB (by simp)).2 (Ne.symm m6)
 clear h rDr T1 K1 B1 D1 own own4 L lx hcq rDc hlen htop n1 n2 n3 n4 n5 n6 n7 n8 n9 m1 m2 m3 m4 m5 m6 m7 m8 hgd hgdl hgdn hch
 go_wp2_with fail
 go_region_held3 (fun x => x.cell? ⟨E.pr, 0, none⟩ = some (.slice (some ⟨E.g0, 0, none⟩) (E.sz + 1) E.c0) ∧ x.cell? ⟨E.pk, 0, none⟩ = some (.slice (some ⟨E.gl, 0, none⟩) E.nb E.cl) ∧ x.cell? ⟨E.pn, 0, none⟩ = some (.int .i64 q) ∧ x.cell? ⟨E.gl, q, none⟩ = some (.slice (some ⟨E.ga, E.oa + q * E.sz, none⟩) (Yv E.A.length E.sz q) (Yv E.A.length E.sz q)) ∧ x.cell? ⟨E.pb, 0, none⟩ = some (.slice E.vb E.m E.cb) ∧ x.cell? ⟨E.pw, 0, none⟩ = some (.slice (some ⟨E.gB, 0, none⟩) E.nb E.nb) ∧ x.cell? ⟨E.gB, q, none⟩ = some (.slice (some ⟨gd, 0, none⟩) (E.m + 1) cd))
  (first | exact ⟨r1, k1, c1n, l1, b1, wc1, d1⟩ | exact ⟨f2.cell r1 s1, f2.cell k1 s2, f2.cell c1n s3, f2.cell l1 s4, f2.cell b1 s5, f2.cell wc1 s6, f2.cell d1 s7⟩)
  ((go_at_call 169; refine cF.mono ?_; rintro e w2 ⟨⟨vr, rfl⟩, R', T2, rows, new, f2⟩))
 have f2' : Fr (fun k => k = E.g0 ∨ ∃ i, i < E.sz + 1 ∧ Zr (R i) k) w1 w2 := (fr_drew _ w1).then f2
 obtain ⟨G2, F2, N2⟩ := Hh.out.filled hE hqn f1 c1n z1n T2 (fun i hi => by rw [← HD.out i hi]; exact rows i (by rw [HL.out]; exact hi)) new f2'
 obtain ⟨g1, e1, g2, e2, x1, x2, t1, t2, y1, y2, hg⟩ := G2.facts hE hi hj HN.out hr
 have HR : Hid (Yo E w2 R' (q : Int) ∧ Fr (E.foot R) w w2 ∧ ∀ k, E.foot R' k → E.foot R k ∨ w.heap.size ≤ k) := ⟨G2, (F0.mono (fun _ e => e.elim)).then F2, fun k e => (N2 k e).imp id (fun e => Nat.le_trans F0.size e)⟩
 have cs2 := G2.cs
 have cr2 := G2.cr
 rw [HANS.out] at hg
 clear G2 F2 N2 T2 rows new f2 f2' cF HD HL HX Hh r1 k1 c1n l1 b1 wc1 d1 s1 s2 s3 s4 s5 s6 s7 hw1 f1 z1n cn zn cs
 go_wp2_with fail
 go_quiet (fail)
 go_wp2_with fail
 go_ret
 exact ⟨rfl, R', (HR.out.1.fr hE (Fr.drewN None' w2 nq) (fun _ _ e => e)), HR.out.2.1.then (Fr.drewN _ _ _), HR.out.2.2⟩
theorem goes_any (E : GE) (hE : E.Fit) (w : World) (R : Nat → Value) (now : Int) (i j : Nat) (h : Yo E w R now) (hi : i < E.A.length) (hj : j < E.m) :
  Calls Tryz.prog 168 #[.int .i64 i, .int .i64 j, .pointer (some ⟨E.pn, 0, none⟩), .pointer (some ⟨E.ps, 0, none⟩), .pointer (some ⟨E.pr, 0, none⟩), .pointer (some ⟨E.pk, 0, none⟩), .pointer (some ⟨E.pb, 0, none⟩), .pointer (some ⟨E.pw, 0, none⟩)] w fun e w' => e = .returned (.bool (kgeq (kept (E.A.drop (i + 1)) (E.B.drop j)) (kept (E.A.drop i) (E.B.drop (j + 1))))) ∧ ∃ R' now', Yo E w' R' now' ∧ Fr (E.foot R) w w' ∧ ∀ k, E.foot R' k → E.foot R k ∨ w.heap.size ≤ k := by
 have hs1 := hE.sz1
 have hq : i = i / E.sz * E.sz + i % E.sz := by rw [Nat.mul_comm]; exact (Nat.div_add_mod i E.sz).symm
 have hr : i % E.sz < E.sz := Nat.mod_lt _ (by omega)
 by_cases e : now = ((i / E.sz : Nat) : Int)
 ·subst e
  refine (goes_read E hE w R i j _ _ h hi hj hq hr).mono ?_
  rintro e w' ⟨he, f⟩
  exact ⟨he, R, _, h.fr hE f (fun _ _ e => e), f.mono (fun _ e => e.elim), fun k e => Or.inl e⟩
 ·refine (goes_fill E hE w R now i j _ _ h e hi hj hq hr).mono ?_
  rintro e w' ⟨he, R', h1, h2, h3⟩
  exact ⟨he, R', _, h1, h2, h3⟩
end Go.Proofs.YtbnfjjjdnbcehaaGreatDoor.Diff
namespace Go.Proofs.YtbnfjjjdnbcehaaGreatDoor.Diff
open Go.RowKit Go.Shelf
set_option maxRecDepth 100000
attribute [local go_sem] run_store_float
theorem chs_get {g o N sz nb k : Nat} (hk : k < nb) : (chs g o N sz nb)[k]? = some (chV g o N sz k) := by simp [chs, hk]
theorem reckon_any (H1 ga oa ca cb N m : Nat) (vb : Option Addr) (A B : List Int) (w : World) (hA : RowV w (some ⟨ga, oa, none⟩) (ints A)) (hN : A.length = N) (hN1 : 1 ≤ N) (hN9 : N ≤ 4020) (hca : N ≤ ca) (hB : RowV w vb (ints B)) (hm : B.length = m) (hm1 : 1 ≤ m) (hm9 : m ≤ 4020)
  (hga : H1 ≤ ga) (hvb : ∀ x, vb = some x → H1 ≤ x.block) (hH : H1 ≤ w.heap.size) :
  Calls Tryz.prog 131 #[.slice (some ⟨ga, oa, none⟩) N ca, .slice vb m cb] w fun e w' => ∃ (E : GE) (R : Nat → Value), e = .returned (.func (.func 168) #[] #[.pointer (some ⟨E.pn, 0, none⟩), .pointer (some ⟨E.ps, 0, none⟩), .pointer (some ⟨E.pr, 0, none⟩), .pointer (some ⟨E.pk, 0, none⟩), .pointer (some ⟨E.pb, 0, none⟩), .pointer (some ⟨E.pw, 0, none⟩)]) ∧ E.Fit ∧ E.A = A ∧ E.B = B ∧ E.H1 = H1 ∧ E.ga = ga ∧ E.oa = oa ∧ E.vb = vb ∧ E.m = m ∧ Yo E w' R (-1) ∧ Fr None' w w' ∧ ∀ k, E.foot R k → H1 ≤ k ∧ k < w'.heap.size := by
 obtain ⟨rt, s, hrt, hrs, hs40⟩ := root_ex (n := N) (by omega)
 have hga2 : ga < w.heap.size := by
  obtain ⟨g, o, e, hc⟩ := hA.get (k := 0) (by rw [Z9, hN]; omega)
  cases e
  exact Zq hc
 have hvb2 : ∀ x, vb = some x → x.block < w.heap.size := fun x e => by
  obtain ⟨g, o, e2, hc⟩ := hB.get (k := 0) (by rw [Z9, hm]; omega)
  rw [e] at e2
  cases e2
  exact Zq hc
 have HN : Hid (A.length = N) := hN
 have HM : Hid (B.length = m) := hm
 clear hN hm
 have i1 : (N : Int) ≤ 4020 := by omega
 have i2 : (m : Int) ≤ 4020 := by omega
 have i3 : (s : Int) ≤ 80 := by omega
 have i4 : (0 : Int) ≤ (s : Int) := by omega
 have cS := fun v => sqrt_any hrt v
 have cI : ∀ v, (convert 171 3 (.float .f64 rt)).run Tryz.prog v = .ok (.int .i64 (s : Int)) v := fun v => run_convert_float_int v 171 3 .f64 .i64 rt (s : Int) (by kernel_rfl) Tryz.underlying3 hrs
 obtain ⟨sz, hsz⟩ : ∃ sz, s + 1 = sz := ⟨_, rfl⟩
 have e1 : 1 + (s : Int) = (sz : Int) := by omega
 have hsz1 : 1 ≤ sz := by omega
 have hsz9 : sz ≤ 81 := by omega
 have i5 : (sz : Int) ≤ 81 := by omega
 have i6 : (1 : Int) ≤ (sz : Int) := by omega
 obtain ⟨w1, hw1⟩ : ∃ w1, (w.alloc (.cells #[.slice vb m cb] 122)).alloc (.cells #[.int .i64 (sz : Int)] 3) = w1 := ⟨_, rfl⟩
 have F1 : Fr None' w w1 := hw1 ▸ (Fr.alloc None' w _).then (Fr.alloc None' _ _)
 have hs1 : w1.heap.size = w.heap.size + 2 := by rw [← hw1]; simp
 have b3 : w1.cell? ⟨w.heap.size, 0, none⟩ = some (.slice vb m cb) := hw1 ▸ (Fr.alloc None' _ _).cell (cell_new1 w 122 _) (fun e => e)
 have b5 : w1.cell? ⟨w.heap.size + 1, 0, none⟩ = some (.int .i64 (sz : Int)) := hw1 ▸ cell_new2 (by simp) 3 _
 clear hsz
 go_enter Tryz.func131, Tryz.ntmps131
 go_wp2_with fail
 refine (cS _).mono ?_
 rintro e w' ⟨rfl, rfl⟩
 go_wp2_with fail
 clear cS cI hrt hrs hw1
 refine (chunk_any (some ⟨ga, oa, none⟩) N ca sz hsz1 w1).mono ?_
 rintro e w2 ⟨rfl, hw2⟩
 have F2 : Fr None' w1 w2 := hw2 ▸ (Fr.alloc None' w1 _).then (Fr.alloc None' _ _)
 have hs2 : w2.heap.size = w1.heap.size + 2 := by rw [hw2]; simp
 have x1 : w2.cell? ⟨w1.heap.size, 0, none⟩ = some (.slice (some ⟨ga, oa, none⟩) N ca) := hw2 ▸ (Fr.alloc None' _ _).cell (cell_new1 w1 122 _) (fun e => e)
 have x2 : w2.cell? ⟨w1.heap.size + 1, 0, none⟩ = some (.int .i64 (sz : Int)) := hw2 ▸ cell_new2 (by simp) 3 _
 have cC := collectV_any ga oa ca N sz w2 (by omega) hca hsz1 (by omega) w1.heap.size (w1.heap.size + 1) x1 x2
 rw [hs1] at cC
 clear hw2 x1 x2
 go_wp2_with fail
 refine cC.mono ?_
 rintro e w3 ⟨v, nb, rfl, o3, hnb, hnk, F3⟩
 clear cC
 have hnb1 : 1 ≤ nb := by
  rcases Nat.eq_zero_or_pos nb with e | e
  ·rw [e] at hnb; omega
  ·exact e
 obtain ⟨vl, cl, hv, _, _, r3, hvl⟩ := o3.slice
 rw [chs_length] at hv
 obtain ⟨gl, ol, hgl, _⟩ := r3.get (k := 0) (by rw [chs_length]; exact hnb1)
 obtain ⟨hg1, hg2, _, hg3⟩ := hvl _ hgl
 have hol : ol = 0 := hg2
 have hgl1 : w2.heap.size ≤ gl := hg1
 have hgl2 : gl < w3.heap.size := hg3
 rw [hol] at hgl
 subst hgl hv
 clear hvl hg1 hg2 hg3 o3 hol
 have hnb9 : nb ≤ 4020 := by
  have h1 := hnk (nb - 1) (by omega)
  have : (nb - 1) * 1 ≤ (nb - 1) * sz := Nat.mul_le_mul_left _ hsz1
  omega
 obtain ⟨w4, hw4⟩ : ∃ w4, w3.alloc (.cells #[.slice (some ⟨gl, 0, none⟩) nb cl] 173) = w4 := ⟨_, rfl⟩
 have F4 : Fr None' w3 w4 := hw4 ▸ Fr.alloc None' w3 _
 have hs4 : w4.heap.size = w3.heap.size + 1 := by rw [← hw4]; simp
 have bk : w4.cell? ⟨w3.heap.size, 0, none⟩ = some (.slice (some ⟨gl, 0, none⟩) nb cl) := hw4 ▸ cell_new1 w3 173 _
 have hs3 := F3.size
 have F14 : Fr None' w1 w4 := (F2.then F3).then F4
 have F04 := F1.then F14
 have b34 := F14.cell b3 (fun e => e)
 have b54 := F14.cell b5 (fun e => e)
 have r4 := r3.fr F4 (Off.no _)
 have A4 := hA.fr F04 (Off.no _)
 have B4 := hB.fr F04 (Off.no _)
 have hlk : ∀ k, ((A.drop (k * sz)).take (Yv N sz k)).length = Yv N sz k := fun k => by
  rw [List.length_take, List.length_drop, HN.out]
  unfold Yv
  omega
 have cB := rowsBelow_any m cb nb cl vb (some ⟨gl, 0, none⟩) (chs ga oa N sz nb) (fun k => some ⟨ga, oa + k * sz, none⟩) (fun k => Yv N sz k) (fun k => (A.drop (k * sz)).take (Yv N sz k)) (fun k => A.drop (k * sz)) B w4 (chs_length _ _ _ _ _) hnb1 (by omega) r4
  (fun k hk => ⟨by rw [chs_get hk, hlk]; rfl, by
   have := A4.part (k * sz) (Yv N sz k)
   unfold ints at this ⊢
   rw [List.map_take, List.map_drop]
   exact this⟩) B4 HM.out hm1 (by omega) (fun k hk => by
    rw [hlk]
    have := hnk k hk
    unfold Yv
    omega) (by exact List.drop_of_length_le (by rw [HN.out]; exact hnb)) (fun k hk => by
    have := drop_part (A := A) (p := k * sz) (sz := sz) (i := 0) (Nat.zero_le _)
    rw [List.drop_zero, Nat.add_zero, HN.out] at this
    rw [Nat.succ_mul]
    exact this.symm) (fun k => by rw [List.length_drop, HN.out]; omega)
 have Hr4 : Hid (RowV w4 (some ⟨gl, 0, none⟩) (chs ga oa N sz nb)) := r4
 have HA4 : Hid (RowV w4 (some ⟨ga, oa, none⟩) (ints A)) := A4
 have HB4 : Hid (RowV w4 vb (ints B)) := B4
 have Hnk : Hid (∀ k, k < nb → k * sz < N) := hnk
 clear r3 r4 A4 B4 hA hB hnk hlk F1 F2 F3 F4
 go_wp2_with fail
 refine cB.mono ?_
 rintro e w5 ⟨gB, D, rfl, hgB, rD, F5⟩
 clear cB
 have hs5 := F5.size
 have hgB2 : gB < w5.heap.size := Zq (rD 0 hnb1).1
 have oD : ∀ k j, k < nb → Zr (D k) j → w4.heap.size ≤ j ∧ j < w5.heap.size := fun k j hk hj => OwnV.lt (rD k hk).2 hj
 have hmk : ∀ w : World, (Instr.makeSlice 178 (.int .i64 ((sz : Int) + 1)) (.int .i64 ((sz : Int) + 1))).run Tryz.prog w = .ok (.slice (some ⟨w.heap.size, 0, none⟩) (sz + 1) (sz + 1)) (w.alloc (.cells (madeCells #[.slice none 0 0] (sz + 1)) 181)) := fun w => run_make_row' 178 181 (.slice none 0 0) 24 Tryz.underlying178 (by kernel_rfl) rfl .i64 .i64 (sz + 1) (by omega) (by omega) w
 obtain ⟨w6, hw6⟩ : ∃ w6, w5.alloc (.cells #[.slice (some ⟨gB, 0, none⟩) nb nb] 178) = w6 := ⟨_, rfl⟩
 have F6 : Fr None' w5 w6 := hw6 ▸ Fr.alloc None' w5 _
 have hs6 : w6.heap.size = w5.heap.size + 1 := by rw [← hw6]; simp
 have bw : w6.cell? ⟨w5.heap.size, 0, none⟩ = some (.slice (some ⟨gB, 0, none⟩) nb nb) := hw6 ▸ cell_new1 w5 178 _
 have b56 := (F5.then F6).cell b54 (fun e => e)
 obtain ⟨w7, hw7⟩ : ∃ w7, (w6.alloc (.cells (madeCells #[.slice none 0 0] (sz + 1)) 181)).alloc (.cells #[.slice (some ⟨w6.heap.size, 0, none⟩) (sz + 1) (sz + 1)] 178) = w7 := ⟨_, rfl⟩
 have F7 : Fr None' w6 w7 := hw7 ▸ (Fr.alloc None' w6 _).then (Fr.alloc None' _ _)
 have hs7 : w7.heap.size = w6.heap.size + 2 := by rw [← hw7]; simp
 have br : w7.cell? ⟨w6.heap.size + 1, 0, none⟩ = some (.slice (some ⟨w6.heap.size, 0, none⟩) (sz + 1) (sz + 1)) := hw7 ▸ cell_new2 (by simp) 178 _
 have rT : w7.rowIs w6.heap.size 181 (sz + 1) (fun _ => .slice none 0 0) := by rw [← hw7]; exact (World.rowIs_made w6 (.slice none 0 0) (sz + 1) 181).alloc _
 obtain ⟨w8, hw8⟩ : ∃ w8, w7.alloc (.cells #[.int .i64 (-1)] 3) = w8 := ⟨_, rfl⟩
 have F8 : Fr None' w7 w8 := hw8 ▸ Fr.alloc None' w7 _
 have hs8 : w8.heap.size = w7.heap.size + 1 := by rw [← hw8]; simp
 have bn : w8.cell? ⟨w7.heap.size, 0, none⟩ = some (.int .i64 (-1)) := hw8 ▸ cell_new1 w7 3 _
 have zn : w8.frozen? ⟨w7.heap.size, 0, none⟩ = false := by rw [← hw8]; simp
 have F68 := F7.then F8
 have F48 := (F5.then F6).then F68
 have rT8 := F8.rowIs rT (fun e => e)
 have hE : GE.Fit { pn := w7.heap.size, ps := w.heap.size + 1, pr := w6.heap.size + 1, pk := w3.heap.size, pb := w.heap.size, pw := w5.heap.size, g0 := w6.heap.size, gB, gl, ga, oa, sz, nb, m, c0 := sz + 1, cl, cb, H1, base := w8.heap.size, vb, D, A, B } := by
  refine ⟨hsz1, by show sz ≤ 100; omega, by rw [HN.out]; omega, HM.out, by show m ≤ 4120; omega, hm1, by rw [HN.out]; exact hnb, by rw [HN.out]; exact Hnk.out, by show nb ≤ 4120; omega, ?_, ?_, ?_, ?_, ?_, ?_, ?_⟩
  ·intro k hk
   dsimp only at hk ⊢
   rcases hk with e | e | e | e | e | e | e | e | e | e <;> omega
  ·intro x e
   have := hvb x e
   have := hvb2 x e
   dsimp only
   omega
  ·intro k j hk hj
   have := oD k j hk hj
   dsimp only
   omega
  ·refine ⟨?_, ?_, ?_, ?_, ?_, ?_, ?_, ?_, ?_⟩ <;> (dsimp only; omega)
  ·intro x e
   have := hvb2 x e
   dsimp only
   omega
  ·intro k j hk hj
   have := oD k j hk hj
   dsimp only
   omega
  ·refine ⟨?_, ?_, ?_, ?_, ?_, ?_, ?_, ?_⟩ <;> (dsimp only; omega)
 have hG : Yo { pn := w7.heap.size, ps := w.heap.size + 1, pr := w6.heap.size + 1, pk := w3.heap.size, pb := w.heap.size, pw := w5.heap.size, g0 := w6.heap.size, gB, gl, ga, oa, sz, nb, m, c0 := sz + 1, cl, cb, H1, base := w8.heap.size, vb, D, A, B } w8 (fun _ => .slice none 0 0) (-1) := by
  refine ⟨bn, zn, F48.cell b54 (fun e => e), F8.cell br (fun e => e), F48.cell bk (fun e => e), F48.cell b34 (fun e => e), F68.cell bw (fun e => e), by rw [HN.out]; exact Hr4.out.fr F48 (Off.no _), HA4.out.fr F48 (Off.no _), HB4.out.fr F48 (Off.no _), fun k hk => ⟨(F6.then F68).cell (rD k hk).1 (fun e => e), (Yw.of (own_mono (rD k hk).2.own (by show H1 ≤ w4.heap.size; omega))).fr (F6.then F68) (fun _ _ e => e)⟩, ⟨by show w6.heap.size < w8.heap.size; omega, fun i hi => rT8.cell hi, fun i => rT8.frozen i, fun i hi => ⟨[], OwnV.nil _ _ _⟩, fun i j k _ _ _ e => by cases e⟩, Nat.le_refl _, Or.inl rfl⟩
 have HE : Hid (GE.Fit { pn := w7.heap.size, ps := w.heap.size + 1, pr := w6.heap.size + 1, pk := w3.heap.size, pb := w.heap.size, pw := w5.heap.size, g0 := w6.heap.size, gB, gl, ga, oa, sz, nb, m, c0 := sz + 1, cl, cb, H1, base := w8.heap.size, vb, D, A, B } ∧ Yo { pn := w7.heap.size, ps := w.heap.size + 1, pr := w6.heap.size + 1, pk := w3.heap.size, pb := w.heap.size, pw := w5.heap.size, g0 := w6.heap.size, gB, gl, ga, oa, sz, nb, m, c0 := sz + 1, cl, cb, H1, base := w8.heap.size, vb, D, A, B } w8 (fun _ => .slice none 0 0) (-1) ∧ Fr None' w w8) := ⟨hE, hG, F04.then F48⟩
 rw [hs6] at hw7
 clear hE hG rD oD rT rT8 F04 F48 F68 F14 hvb hvb2
 go_wp2_with fail
 go_ret
 refine ⟨_, _, ?_, HE.out.1, rfl, rfl, rfl, rfl, rfl, rfl, rfl, HE.out.2.1, HE.out.2.2, fun k e => ?_⟩
 ·show Ending.returned (.func (.func 168) #[] #[.pointer (some ⟨w5.heap.size + 1 + 1 + 1, 0, none⟩), .pointer (some ⟨w.heap.size + 1, 0, none⟩), .pointer (some ⟨w5.heap.size + 1 + 1, 0, none⟩), .pointer (some ⟨w3.heap.size, 0, none⟩), .pointer (some ⟨w.heap.size, 0, none⟩), .pointer (some ⟨w5.heap.size, 0, none⟩)]) = Ending.returned (.func (.func 168) #[] #[.pointer (some ⟨w7.heap.size, 0, none⟩), .pointer (some ⟨w.heap.size + 1, 0, none⟩), .pointer (some ⟨w6.heap.size + 1, 0, none⟩), .pointer (some ⟨w3.heap.size, 0, none⟩), .pointer (some ⟨w.heap.size, 0, none⟩), .pointer (some ⟨w5.heap.size, 0, none⟩)])
  rw [hs7, hs6]
 ·rcases e with e | ⟨i, _, e⟩
  ·exact e
  ·cases e
end Go.Proofs.YtbnfjjjdnbcehaaGreatDoor.Diff
