/- What is proved here: contracts that SeqTells stands on. Conditions: as each theorem names them. -/
import Derived.Test.YtbnfjjjdnbcehaaGreatDoorM29Settle11
import Derived.Lib.AppendZeros
set_option maxHeartbeats 16000000
namespace Go.Proofs.YtbnfjjjdnbcehaaGreatDoor
open Go.RowKit
set_option maxRecDepth 100000
theorem growP_any (n : Nat) (w : World) (hn : n ≤ 90000) : Calls Tryz.prog 58 #[.slice none 0 0, .int .i64 n] w fun e w' => ∃ v, e = .returned v ∧ Zh w.heap.size w' v [] [] ∧ Fr None' w w' := by
 obtain ⟨i0, hi, hz0, hz1, hz2⟩ := info_parts infoP
 have i1 : (n : Int) ≤ 90000 := by omega
 have i2 : (0 : Int) ≤ (n : Int) := by omega
 by_cases h0 : n = 0
 ·subst h0
  clear i0 hi hz0 hz1 hz2
  go_enter Tryz.func58, Tryz.ntmps58
  go_wp2_with fail
  go_ret
  exact ⟨_, rfl, Zh.nil _ _, Fr.refl _ _⟩
 ·have hr := Lib.run_append_nil_zeros (P := Tryz.prog) w 22 3 22 43 i0 (.agg zcells) .i64 .i64 (by kernel_rfl) (by kernel_rfl) hi hz0 n (by omega) (by rw [hz1]; omega) (by omega) (by rw [hz2]; omega)
  obtain ⟨cap, hcap⟩ : ∃ cap, grownCap w n 0 43 = cap := ⟨_, rfl⟩
  have hge : n ≤ cap := by rw [← hcap]; exact grownCap_ge w _ 0 43
  have hle : cap ≤ maxLen := by rw [← hcap]; exact grownCap_le_maxLen w _ 0 43 (by unfold maxLen; omega)
  rw [hcap] at hr
  obtain ⟨Z, hZ⟩ : ∃ Z, Builtin.zeroCells (Value.agg zcells).cells n ++ Builtin.zeroCells (Value.agg zcells).cells (cap - n) = Z := ⟨_, rfl⟩
  have hZs : Z.size = cap * 7 := by rw [← hZ]; simp [size_zeroCells, Value.cells, zcells]; omega
  rw [hZ] at hr
  have HR : Hid (Zh w.heap.size (w.drew.alloc (.cells Z 43)) (.slice (some ⟨w.heap.size, 0, none⟩) 0 cap) [] [] ∧ Fr None' w (w.drew.alloc (.cells Z 43))) := by
   refine ⟨⟨rfl, ⟨rfl, Or.inr ⟨w.heap.size, cap, Z, rfl, Nat.le_refl _, Array.getElem?_push_size, Nat.zero_le _, hle, by omega, by simp [pcells]⟩⟩, fun k x u e => by simp at e⟩, ?_⟩
   exact (Fr.drew None' w).then7 (Fr.alloc None' _ _)
  have i3 : (0 : Int) < (n : Int) := by omega
  have i4 : (n : Int) ≤ (cap : Int) := by omega
  clear hcap hZ hZs hle i0 hi hz0 hz1 hz2 h0
  go_enter Tryz.func58, Tryz.ntmps58
  go_wp2_with (at_builtin; refine Lib.wpList_append_run _ rfl _ _ _ _ rfl _ _ rfl rfl _ _ hr ?_)
  go_ret
  exact ⟨_, rfl, HR.out⟩
def PrsIn (w : World) (v : Value) (L : List Pr) : Prop := ∃ va c, v = .slice va L.length c ∧ (va = none → c = 0) ∧ Zc w va L
theorem PrsIn.kept {w w' : World} {v : Value} {L : List Pr} (h : PrsIn w v L) (f : Fr None' w w') : PrsIn w' v L := by
 obtain ⟨va, c, e, h1, h2⟩ := h
 exact ⟨va, c, e, h1, h2.kept f⟩
theorem Zh.prsIn {base : Nat} {w : World} {v : Value} {L : List Pr} {V : List (Value × Value)} (h : Zh base w v L V) : PrsIn w v L := by
 obtain ⟨va, c, e, _, h1, h2⟩ := h.slice
 exact ⟨va, c, e, h1, h2⟩
def flatP (ps : List (Value × List Pr)) (k : Nat) : List Pr := ((ps.take k).map (·.2)).flatten
theorem flatP_succ {ps : List (Value × List Pr)} {k : Nat} (h : k < ps.length) : flatP ps (k + 1) = flatP ps k ++ ps[k].2 := by
 unfold flatP
 rw [List.take_succ_eq_append_getElem h, List.map_append, List.flatten_append]
 simp
theorem flatP_le {ps : List (Value × List Pr)} {m : Nat} (hm : ∀ p ∈ ps, p.2.length ≤ m) : ∀ k, k ≤ ps.length → (flatP ps k).length ≤ k * m := by
 intro k
 induction k with
 | zero => intro _; simp [flatP]
 | succ k ih =>
  intro hk
  rw [flatP_succ hk, List.length_append, Nat.succ_mul]
  have := ih (by omega)
  have := hm ps[k] (List.getElem_mem hk)
  omega
theorem concatP_any (g n : Nat) (c : Nat) (ps : List (Value × List Pr)) (w : World) (hn : ps.length = n) (hn9 : n ≤ 9) (hc : ∀ k x, ps[k]? = some x → w.cell? ⟨g, k, none⟩ = some x.1 ∧ PrsIn w x.1 x.2) (hm : ∀ p ∈ ps, p.2.length ≤ 5000) :
  Calls Tryz.prog 31 #[.slice (some ⟨g, 0, none⟩) n c] w fun e w' => ∃ v U, e = .returned v ∧ Zh w.heap.size w' v ((ps.map (·.2)).flatten) U ∧ Fr None' w w' := by
 have HN : Hid (ps.length = n) := hn
 have HF : Hid (flatP ps n = (ps.map (·.2)).flatten) := by
  show _ = _
  unfold flatP
  rw [List.take_of_length_le (by omega)]
 have HL : Hid (∀ k, k ≤ n → (flatP ps k).length ≤ 50000) := fun k hk => by
  have := flatP_le hm k (by omega)
  have : k * 5000 ≤ 10 * 5000 := Nat.mul_le_mul_right _ (by omega)
  omega
 have i1 : (n : Int) ≤ 10 := by omega
 clear hn hm
 go_enter Tryz.func31, Tryz.ntmps31
 go_wp2_with fail
 go_loopw [3, 11] (fun s i wr => ∃ k : Nat, k ≤ n ∧ i = .int .i64 k ∧ s = .int .i64 (flatP ps k).length ∧ Fr None' w wr) (fun _ i _ => n - (intOf i).toNat)
 case atStart => exact ⟨0, Nat.zero_le _, rfl, rfl, Fr.refl _ _⟩
 case round =>
  obtain ⟨k, hk, rfl, rfl, hF⟩ := hrel
  by_cases hlt : k < n
  ·have hkp : k < ps.length := by rw [HN.out]; exact hlt
   obtain ⟨c1, s1⟩ := hc k ps[k] (List.getElem?_eq_getElem hkp)
   obtain ⟨va, cv, hv, _, _⟩ := s1
   rw [hv] at c1
   have c2 := hF.keepCell c1 (fun e => e)
   have e1 := flatP_succ hkp
   obtain ⟨m, hm⟩ : ∃ m, ps[k].2.length = m := ⟨_, rfl⟩
   obtain ⟨t, ht⟩ : ∃ t, (flatP ps k).length = t := ⟨_, rfl⟩
   have l1 := HL.out (k + 1) hlt
   rw [e1, List.length_append, hm, ht] at l1
   rw [hm] at c2
   have HE : Hid ((flatP ps (k + 1)).length = t + m) := by show _ = _; rw [e1, List.length_append, hm, ht]
   rw [ht]
   clear hv c1 e1 hm ht hc
   have i3 : (0 : Int) ≤ (k : Int) := by omega
   have i4 : (k : Int) < (n : Int) := by omega
   have i5 : (t : Int) + (m : Int) ≤ 50000 := by omega
   have i6 : (0 : Int) ≤ (t : Int) + (m : Int) := by omega
   go_wp2_with fail
   exact ⟨⟨k + 1, by omega, by go_num, by rw [HE.out]; go_num, hF⟩, by simp [intOf]; omega⟩
  ·have e : k = n := by omega
   subst e
   have l1 := HL.out k (Nat.le_refl _)
   have cG := fun w2 => growP_any (flatP ps k).length w2 (by omega)
   obtain ⟨t, ht⟩ : ∃ t, (flatP ps k).length = t := ⟨_, rfl⟩
   rw [ht] at cG
   rw [ht]
   clear l1 ht
   go_wp2_with (go_at_call 58; refine (cG _).mono ?_; rintro e w2 ⟨v, rfl, o2, f2⟩)
   have F2 := hF.then7 f2
   have O2 : Zh w.heap.size w2 v [] [] := o2.weaken hF.size
   clear o2 f2 hF
   go_loopw [6, 27] (fun v i wr => ∃ (q : Nat) (V : List (Value × Value)), q ≤ k ∧ i = .int .i64 q ∧ Hid (Zh w.heap.size wr v (flatP ps q) V) ∧ Fr None' w wr) (fun _ i _ => k - (intOf i).toNat)
   case atStart => exact ⟨0, [], Nat.zero_le _, rfl, O2, F2⟩
   case round =>
    clear O2 F2
    obtain ⟨q, V, hq, rfl, HO, hF⟩ := hrel
    by_cases hlt2 : q < k
    ·have hkp : q < ps.length := by rw [HN.out]; exact hlt2
     obtain ⟨c1, s1⟩ := hc q ps[q] (List.getElem?_eq_getElem hkp)
     obtain ⟨va, cv, hv, n1, r1⟩ := s1
     rw [hv] at c1
     have c2 := hF.keepCell c1 (fun e => e)
     have e1 := flatP_succ hkp
     have l1 := HL.out (q + 1) hlt2
     rw [e1, List.length_append] at l1
     obtain ⟨v3, U3, w3, r3, O3, f3⟩ := HO.out.addAll r1 rfl n1 hF (Nat.le_refl _) hF.size (by omega)
     rw [← e1] at O3
     have HO3 : Hid (Zh w.heap.size w3 v3 (flatP ps (q + 1)) (V ++ U3)) := O3
     have F3 : Fr None' w w3 := hF.trans f3 (fun i e => Or.inr (HO.out.ge e).1)
     obtain ⟨m, hm⟩ : ∃ m, ps[q].2.length = m := ⟨_, rfl⟩
     rw [hm] at c2 r3
     have HR : Hid (_ = _) := r3
     clear hv c1 e1 hc l1 r1 O3 f3 r3 hm n1
     have i3 : (0 : Int) ≤ (q : Int) := by omega
     have i4 : (q : Int) < (k : Int) := by omega
     go_wp2_with (at_builtin
                  refine Y0 rfl _ _ rfl rfl rfl HR.out ?_)
     exact ⟨⟨q + 1, _, by omega, by go_num, HO3.out, F3⟩, by simp [intOf]; omega⟩
    ·have e : q = k := by omega
     subst e
     have HR : Hid (Zh w.heap.size wr _ ((ps.map (·.2)).flatten) V) := HF.out ▸ HO.out
     obtain ⟨va, cv, hv, _⟩ := HR.out.slice
     subst hv
     clear HO
     go_wp2_with fail
     go_ret
     exact ⟨_, _, rfl, HR.out, hF⟩
end Go.Proofs.YtbnfjjjdnbcehaaGreatDoor
namespace Go.Proofs.YtbnfjjjdnbcehaaGreatDoor
open Go.RowKit
set_option maxRecDepth 100000
def lastQ (L : List Pr) (z : Int) : List Pr × Bool :=
 if h : 0 ≤ z ∧ z < L.length then (if (Zk (L[z.toNat]'(by omega)) (L.drop (z.toNat + 1))).2.2 then (L.take z.toNat ++ (Zk (L[z.toNat]'(by omega)) (L.drop (z.toNat + 1))).1 ++ [(Zk (L[z.toNat]'(by omega)) (L.drop (z.toNat + 1))).2.1], true) else ([], false)) else ([], false)
theorem past_le11 : ∀ (L : List Pr) (p : Pr), (Zk p L).1.length ≤ L.length
 | [], p => by simp [Zk]
 | q :: L, p => by
  have ih := past_le11 L (Zj p q).2.1
  unfold Zk
  split
  ·rename_i h
   generalize Zk (Zj p q).2.1 L = r at ih ⊢
   obtain ⟨a, b, t⟩ := r
   simp only at ih ⊢
   split <;> simp <;> omega
  ·simp
def PastC (A : List Pr) (b : Pr) (t : Bool) (w cw : World) (e : Ending) (w1 : World) : Prop := ∃ (sz : Nat) (pv : Option Addr) (cv : Nat) (po : Option Addr) (co : Nat) (pn : Option Addr) (cn : Nat), e = .returned (.tuple #[.slice pv A.length cv, .agg #[.int .i64 b.kind, .string b.path, .string b.dst, .string b.src, .int .i64 b.pos, .slice po b.old.length co, .slice pn b.new.length cn], .bool t]) ∧
 Hid (∀ c y0 y1 y2 y3 y4 y5 y6, Box cw c y0 y1 y2 y3 y4 y5 y6 → c < sz) ∧ Hid (∀ (W : World) (b7 : Nat), (b7 < sz ∨ w1.heap.size ≤ b7) → w.heap.size ≤ b7 → Fr (fun k => k = b7) w1 W → ∃ V, Zh w.heap.size W (.slice pv A.length cv) A V ∧ Zv W (.slice po b.old.length co) b.old ∧ Zv W (.slice pn b.new.length cn) b.new ∧ Fr None' w W) ∧ Fr None' cw w1
theorem PastPost11.is {x : Pr} {L A : List Pr} {b : Pr} {t : Bool} {w cw w1 : World} {e : Ending} (hp : Zk x L = (A, b, t)) (f : Fr None' w cw) (h : PastPost11 x L cw e w1) : PastC A b t w cw e w1 := by
 obtain ⟨va, vb, V, he, hO, hnw, ⟨vo1, vn1, rfl, s1, s2, g1, g2⟩, f1⟩ := h
 rw [hp] at he hO s1 s2
 simp only at he hO s1 s2
 obtain ⟨po, co, rfl⟩ := s1.as2
 obtain ⟨pn, cn, rfl⟩ := s2.as2
 obtain ⟨pv, cv, rfl, _⟩ := hO.slice
 refine ⟨cw.heap.size, pv, cv, po, co, pn, cn, he, (fun c y0 y1 y2 y3 y4 y5 y6 h => h.lt), fun W b7 hb hwb fW => ⟨V, ?_, ?_, ?_, ?_⟩, f1⟩
 ·refine (hO.fr2 fW (fun k e e' => ?_) (fun i y u e1 e2 => ?_)).weaken f.size
  ·have := hO.ge e
   omega
  ·have hu := List.mem_of_getElem? e2
   obtain ⟨q1, q2, _, _⟩ := hO.str i y u e1 e2
   refine ⟨fun hl j e e' => ?_, fun hl j e e' => ?_⟩
   ·have h1 := hnw u hu j (Or.inl e); have h2 := q1.lt hl e; omega
   ·have h1 := hnw u hu j (Or.inr e); have h2 := q2.lt hl e; omega
 ·exact s1.far fW (fun hl j e e' => by have h1 := g1 j e; have h2 := s1.lt hl e; omega)
 ·exact s2.far fW (fun hl j e e' => by have h1 := g2 j e; have h2 := s2.lt hl e; omega)
 ·exact (f.then7 f1).trans fW (fun i e => Or.inr (by omega))
def CopyC (k : Nat) (M : List Pr) (w : World) (e : Ending) (w' : World) : Prop := ∃ (p3 : Option Addr) (c3 : Nat), e = .returned (.slice p3 k c3) ∧ Hid (PrsIn w' (.slice p3 k c3) M) ∧ Fr None' w w'
theorem copied_in (va : Option Addr) (n c : Nat) (L : List Pr) (w : World) (hl : L.length = n) (ha : Zc w va L) (hc : va = none → c = 0) (hn : n ≤ 90000) (hs : ∀ x ∈ L, x.old.length ≤ 900000 ∧ x.new.length ≤ 900000) :
  Calls Tryz.prog 27 #[.slice va n c] w fun e w' => CopyC n L w e w' := by
 refine (copiedR_any va n c L w hl ha hc hn hs).mono ?_
 rintro e w' ⟨v, V, rfl, hO, f, _⟩
 obtain ⟨p3, c3, hv, _⟩ := hO.slice
 rw [hl] at hv
 subst hv
 exact ⟨p3, c3, rfl, hO.prsIn, f⟩
theorem concat_three {w2 W : World} {gX gY k : Nat} {M A : List Pr} {b : Pr} {p3 pv po pn : Option Addr} {c3 cv co cn : Nat} (hX : Box W gX (.int .i64 b.kind) (.string b.path) (.string b.dst) (.string b.src) (.int .i64 b.pos) (.slice po b.old.length co) (.slice pn b.new.length cn)) (f : Fr None' w2 W) (hM : PrsIn W (.slice p3 k c3) M) (hA : PrsIn w2 (.slice pv A.length cv) A) (s1 : Zv w2 (.slice po b.old.length co) b.old) (s2 : Zv w2 (.slice pn b.new.length cn) b.new)
  (hY : W.heap[gY]? = some (.cells #[.slice p3 k c3, .slice pv A.length cv, .slice (some ⟨gX, 0, none⟩) 1 1] 22 (0, 0))) (lM : M.length ≤ 5000) (lA : A.length ≤ 5000) :
  Calls Tryz.prog 31 #[.slice (some ⟨gY, 0, none⟩) 3 3] W fun e w' => ∃ (p4 : Option Addr) (n4 c4 : Nat), e = .returned (.slice p4 n4 c4) ∧ Hid (PrsIn w' (.slice p4 n4 c4) (M ++ A ++ [b])) ∧ Fr None' W w' := by
 refine (concatP_any gY 3 3 [(.slice p3 k c3, M), (.slice pv A.length cv, A), (.slice (some ⟨gX, 0, none⟩) 1 1, [b])] W rfl (by omega) (fun j x hj => ?_) (fun p hp => ?_)).mono ?_
 ·have hc : ∀ j v, #[Value.slice p3 k c3, .slice pv A.length cv, .slice (some ⟨gX, 0, none⟩) 1 1][j]? = some v → W.cell? ⟨gY, j, none⟩ = some v := fun j v h => by rw [World.cell?, hY]; exact h
  match j, hj with
  | 0, hj => cases hj; exact ⟨hc 0 _ rfl, hM⟩
  | 1, hj => cases hj; exact ⟨hc 1 _ rfl, hA.kept f⟩
  | 2, hj =>
   cases hj
   refine ⟨hc 2 _ rfl, ⟨some ⟨gX, 0, none⟩, 1, rfl, (fun e => by cases e), fun i y hi => ?_⟩⟩
   have hi0 : i = 0 := by have := (List.getElem?_eq_some_iff.1 hi).1; simpa using this
   subst hi0
   cases hi
   obtain ⟨c0, c1, c2, c3, c4, c5, c6⟩ := hX.cells
   exact ⟨gX, 0, rfl, _, _, c0, c1, c2, c3, c4, c5, c6, s1.kept f, s2.kept f⟩
  | j + 3, hj => simp at hj
 ·simp only [List.mem_cons, List.not_mem_nil, or_false] at hp
  rcases hp with rfl | rfl | rfl
  ·exact lM
  ·exact lA
  ·simp
 ·rintro e w' ⟨v, U, rfl, hO, f'⟩
  have e1 : ([(Value.slice p3 k c3, M), (.slice pv A.length cv, A), (.slice (some ⟨gX, 0, none⟩) 1 1, [b])].map (·.2)).flatten = M ++ A ++ [b] := by simp
  rw [e1] at hO
  obtain ⟨p4, c4, rfl, _⟩ := hO.slice
  exact ⟨p4, _, c4, rfl, hO.prsIn, f'⟩
theorem heap_two (w : World) (a b : Obj) : ((w.alloc a).alloc b).heap[w.heap.size + 1]? = some b := by
 have := heap_alloc_new (w.alloc a) b
 simpa using this
theorem close_a {sz : Nat} {w w1 : World} {A : List Pr} {b : Pr} {pv po pn : Option Addr} {cv co cn : Nat} (na : Box w1 w.heap.size (.int .i64 0) (.string ⟨#[]⟩) (.string ⟨#[]⟩) (.string ⟨#[]⟩) (.int .i64 0) (.slice none 0 0) (.slice none 0 0))
  (hK : ∀ (W : World) (b7 : Nat), (b7 < sz ∨ w1.heap.size ≤ b7) → w.heap.size ≤ b7 → Fr (fun k => k = b7) w1 W → ∃ V, Zh w.heap.size W (.slice pv A.length cv) A V ∧ Zv W (.slice po b.old.length co) b.old ∧ Zv W (.slice pn b.new.length cn) b.new ∧ Fr None' w W) (h : w.heap.size < sz) :
  Hid (∃ V, Box (setP w1 w.heap.size (.int .i64 b.kind) (.string b.path) (.string b.dst) (.string b.src) (.int .i64 b.pos) (.slice po b.old.length co) (.slice pn b.new.length cn)) w.heap.size (.int .i64 b.kind) (.string b.path) (.string b.dst) (.string b.src) (.int .i64 b.pos) (.slice po b.old.length co) (.slice pn b.new.length cn) ∧ Zh w.heap.size (setP w1 w.heap.size (.int .i64 b.kind) (.string b.path) (.string b.dst) (.string b.src) (.int .i64 b.pos) (.slice po b.old.length co) (.slice pn b.new.length cn)) (.slice pv A.length cv) A V ∧ Zv (setP w1 w.heap.size (.int .i64 b.kind) (.string b.path) (.string b.dst) (.string b.src) (.int .i64 b.pos) (.slice po b.old.length co) (.slice pn b.new.length cn)) (.slice po b.old.length co) b.old ∧ Zv (setP w1 w.heap.size (.int .i64 b.kind) (.string b.path) (.string b.dst) (.string b.src) (.int .i64 b.pos) (.slice po b.old.length co) (.slice pn b.new.length cn)) (.slice pn b.new.length cn) b.new ∧ Fr None' w (setP w1 w.heap.size (.int .i64 b.kind) (.string b.path) (.string b.dst) (.string b.src) (.int .i64 b.pos) (.slice po b.old.length co) (.slice pn b.new.length cn))) := by
 obtain ⟨V, h1, h2, h3, h4⟩ := hK (setP w1 w.heap.size (.int .i64 b.kind) (.string b.path) (.string b.dst) (.string b.src) (.int .i64 b.pos) (.slice po b.old.length co) (.slice pn b.new.length cn)) w.heap.size (Or.inl h) (Nat.le_refl _) (Fr.setP (M := fun k => k = w.heap.size) w1 rfl _ _ _ _ _ _ _)
 exact ⟨V, na.all _ _ _ _ _ _ _, h1, h2, h3, h4⟩
theorem close_b {sz : Nat} {w w1 : World} {A : List Pr} {b : Pr} {pv po pn : Option Addr} {cv co cn : Nat}
  (hK : ∀ (W : World) (b7 : Nat), (b7 < sz ∨ w1.heap.size ≤ b7) → w.heap.size ≤ b7 → Fr (fun k => k = b7) w1 W → ∃ V, Zh w.heap.size W (.slice pv A.length cv) A V ∧ Zv W (.slice po b.old.length co) b.old ∧ Zv W (.slice pn b.new.length cn) b.new ∧ Fr None' w W) (h : w.heap.size ≤ w1.heap.size) :
  Hid (∃ V, Box (w1.alloc (.cells #[.int .i64 b.kind, .string b.path, .string b.dst, .string b.src, .int .i64 b.pos, .slice po b.old.length co, .slice pn b.new.length cn] 43)) w1.heap.size (.int .i64 b.kind) (.string b.path) (.string b.dst) (.string b.src) (.int .i64 b.pos) (.slice po b.old.length co) (.slice pn b.new.length cn) ∧ Zh w.heap.size (w1.alloc (.cells #[.int .i64 b.kind, .string b.path, .string b.dst, .string b.src, .int .i64 b.pos, .slice po b.old.length co, .slice pn b.new.length cn] 43)) (.slice pv A.length cv) A V ∧ Zv (w1.alloc (.cells #[.int .i64 b.kind, .string b.path, .string b.dst, .string b.src, .int .i64 b.pos, .slice po b.old.length co, .slice pn b.new.length cn] 43)) (.slice po b.old.length co) b.old ∧ Zv (w1.alloc (.cells #[.int .i64 b.kind, .string b.path, .string b.dst, .string b.src, .int .i64 b.pos, .slice po b.old.length co, .slice pn b.new.length cn] 43)) (.slice pn b.new.length cn) b.new ∧ Fr None' w (w1.alloc (.cells #[.int .i64 b.kind, .string b.path, .string b.dst, .string b.src, .int .i64 b.pos, .slice po b.old.length co, .slice pn b.new.length cn] 43))) := by
 obtain ⟨V, h1, h2, h3, h4⟩ := hK (w1.alloc (.cells #[.int .i64 b.kind, .string b.path, .string b.dst, .string b.src, .int .i64 b.pos, .slice po b.old.length co, .slice pn b.new.length cn] 43)) w1.heap.size (Or.inr (Nat.le_refl _)) h (Fr.alloc _ _ _)
 exact ⟨V, Box.new w1 _ _ _ _ _ _ _, h1, h2, h3, h4⟩
theorem last_any (hC : CommuteAll) (va : Option Addr) (n c : Nat) (L : List Pr) (z : Int) (w : World) (hl : L.length = n) (ha : Zc w va L) (hc : va = none → c = 0) (hnc : n ≤ c) (hcm : c ≤ 9223372036854775807) (hn : n ≤ 200) (hs : ∀ x ∈ L, Zs x) :
  Calls Tryz.prog 12 #[.slice va n c, .int .i64 z] w fun e w' => ∃ v, e = .returned (.tuple #[v, .bool (lastQ L z).2]) ∧ PrsIn w' v (lastQ L z).1 ∧ Fr None' w w' := by
 by_cases hz : 0 ≤ z ∧ z < L.length
 case neg =>
  have HL := Zy (show lastQ L z = ([], false) from by unfold lastQ; rw [dif_neg hz])
  rw [HL.out]
  by_cases h0 : 0 ≤ z
  ·have i1 : ¬ z < (n : Int) := by omega
   have i2 : ¬ z < 0 := by omega
   clear hl ha hc hnc hcm hn hs hz hC
   go_enter Tryz.func12, Tryz.ntmps12
   go_wp2_with fail
   go_ret2
   exact ⟨_, rfl, ⟨none, 0, rfl, fun _ => rfl, fun k x hk => by simp at hk⟩, Fr.refl _ _⟩
  ·have i1 : z < 0 := by omega
   clear hl ha hc hnc hcm hn hs hz hC h0
   go_enter Tryz.func12, Tryz.ntmps12
   go_wp2_with fail
   go_ret2
   exact ⟨_, rfl, ⟨none, 0, rfl, fun _ => rfl, fun k x hk => by simp at hk⟩, Fr.refl _ _⟩
 case pos =>
 obtain ⟨k, rfl⟩ : ∃ k : Nat, z = k := ⟨z.toNat, by omega⟩
 have hkL : k < L.length := by omega
 have HL := Zy (show lastQ L k = if (Zk L[k] (L.drop (k + 1))).2.2 then (L.take k ++ (Zk L[k] (L.drop (k + 1))).1 ++ [(Zk L[k] (L.drop (k + 1))).2.1], true) else ([], false) from by unfold lastQ; rw [dif_pos hz]; rfl)
 rw [HL.out]
 obtain ⟨g, o, rfl, uo, un, d0, d1, d2, d3, d4, d5, d6, t1, t2⟩ := ha.get hkL
 obtain ⟨pa, ca, rfl⟩ := t1.as2
 obtain ⟨pb, cb, rfl⟩ := t2.as2
 obtain ⟨q, hq⟩ : ∃ q, k + 1 = q := ⟨_, rfl⟩
 obtain ⟨pr, hpr⟩ : ∃ pr : Option Addr, (if c = q then some (⟨g, o, none⟩ : Addr) else some ⟨g, o + q * 7, none⟩) = pr := ⟨_, rfl⟩
 have HP := Zy (fun w' (f : Fr None' w w') => (past_new hC L[k] (.slice pa L[k].old.length ca) (.slice pb L[k].new.length cb) pr (n - q) (c - q) (L.drop (k + 1)) w' (t1.kept f) (t2.kept f) (hs _ (List.getElem_mem hkL)) (by simp; omega) (by omega) (fun j x hj => by
  have hj1 := (List.getElem?_eq_some_iff.1 hj).1
  simp at hj1
  rw [← hpr, if_neg (by omega), ← hq]
  exact ((ha.dropP (k + 1)).kept f) j x hj) (fun y hy => hs y (List.mem_of_mem_drop hy))).mono (fun e w'' h => PastPost11.is (A := (Zk L[k] (L.drop (k + 1))).1) (b := (Zk L[k] (L.drop (k + 1))).2.1) (t := (Zk L[k] (L.drop (k + 1))).2.2) rfl f h))
 have HC := Zy (fun w' (f : Fr None' w w') => copied_in (some ⟨g, o, none⟩) k c (L.take k) w' (by simp; omega) ((ha.takeP k).kept f) (fun e => by cases e) (by omega) (fun x hx => by have h1 := (hs x (List.mem_of_mem_take hx)).old; have h2 := (hs x (List.mem_of_mem_take hx)).new; omega))
 unfold CopyC at HC
 unfold PastC at HP
 have HPl := Zy (show (Zk L[k] (L.drop (k + 1))).1.length ≤ 5000 ∧ (L.take k).length ≤ 5000 from ⟨Nat.le_trans (past_le11 _ _) (by simp; omega), by simp; omega⟩)
 generalize Zk L[k] (L.drop (k + 1)) = r at HP HPl HL ⊢
 obtain ⟨A, b, t⟩ := r
 simp only at HP HPl HL ⊢
 have HS := Zy (show ∀ w', Fr None' w w' → Fr None' w w' ∧ w'.cell? ⟨g, o + k * 7, none⟩ = some (.int .i64 L[k].kind) ∧ w'.cell? ⟨g, o + k * 7 + 1, none⟩ = some (.string L[k].path) ∧ w'.cell? ⟨g, o + k * 7 + 2, none⟩ = some (.string L[k].dst) ∧ w'.cell? ⟨g, o + k * 7 + 3, none⟩ = some (.string L[k].src) ∧ w'.cell? ⟨g, o + k * 7 + 4, none⟩ = some (.int .i64 L[k].pos) ∧ w'.cell? ⟨g, o + k * 7 + 5, none⟩ = some (.slice pa L[k].old.length ca) ∧ w'.cell? ⟨g, o + k * 7 + 6, none⟩ = some (.slice pb L[k].new.length cb) from fun w' f => ⟨f, f.keepCell d0 (fun e => e), f.keepCell d1 (fun e => e), f.keepCell d2 (fun e => e), f.keepCell d3 (fun e => e), f.keepCell d4 (fun e => e), f.keepCell d5 (fun e => e), f.keepCell d6 (fun e => e)⟩)
 generalize L[k] = x at d0 d1 d2 d3 d4 d5 d6 HP HS
 have i1 : (k : Int) < (n : Int) := by omega
 have i2 : (0 : Int) ≤ (k : Int) := by omega
 have i3 : (n : Int) ≤ (c : Int) := by omega
 have i4 : (c : Int) ≤ 9223372036854775807 := by omega
 have i5 : (n : Int) ≤ 200 := by omega
 have i6 : (q : Int) ≤ (n : Int) := by omega
 have i7 : (q : Int) ≤ (c : Int) := by omega
 have i8 : (0 : Int) ≤ (q : Int) := by omega
 have i9 : (k : Int) + 1 = (q : Int) := by omega
 have j1 : IntKind.i64.wrap ((k : Int) + 1) = (q : Int) := by rw [IntKind.wrap_i64]; omega
 have j4 : IntKind.i64.wrap (q : Int) = (q : Int) := by rw [IntKind.wrap_i64]; omega
 have j2 : (k : Int) ≤ (n : Int) := by omega
 have j3 : (k : Int) ≤ (c : Int) := by omega
 clear hl ha hc hnc hcm hn hs hkL t1 t2 hC d0 d1 d2 d3 d4 d5 d6 hz hq
 have fr0 := Fr.refl None' w
 go_enter Tryz.func12, Tryz.ntmps12
 go_wp2_with fail
 refine region_told (fun a' w' => ∃ b7 u9 u10 u11 u12 u13 u14 u15 u16 u17 u18 u19 u20 u21 u22 u23 u24 u25 u26 u27 u28 u29 u30 u31 u32 u33 u34 u35 u36 u37 u38 u39 u40 pv cv po co pn cn, a' = { tmps := #[.slice (some ⟨g, o, none⟩) n c, .int .i64 k, undef, undef, .slice none 0 0, .bool false, .slice pv A.length cv, .pointer (some ⟨b7, 0, none⟩), .bool t, u9, u10, u11, u12, u13, u14, u15, u16, u17, u18, u19, u20, u21, u22, u23, u24, u25, u26, u27, u28, u29, u30, u31, u32, u33, u34, u35, u36, u37, u38, u39, u40], defers := [] } ∧ Hid (∃ V, Box w' b7 (.int .i64 b.kind) (.string b.path) (.string b.dst) (.string b.src) (.int .i64 b.pos) (.slice po b.old.length co) (.slice pn b.new.length cn) ∧ Zh w.heap.size w' (.slice pv A.length cv) A V ∧ Zv w' (.slice po b.old.length co) b.old ∧ Zv w' (.slice pn b.new.length cn) b.new ∧ Fr None' w w')) ?reg ?rest
 case reg =>
  go_region_held3 (fun w' => Fr None' w w' ∧ w'.cell? ⟨g, o + k * 7, none⟩ = some (.int .i64 x.kind) ∧ w'.cell? ⟨g, o + k * 7 + 1, none⟩ = some (.string x.path) ∧ w'.cell? ⟨g, o + k * 7 + 2, none⟩ = some (.string x.dst) ∧ w'.cell? ⟨g, o + k * 7 + 3, none⟩ = some (.string x.src) ∧ w'.cell? ⟨g, o + k * 7 + 4, none⟩ = some (.int .i64 x.pos) ∧ w'.cell? ⟨g, o + k * 7 + 5, none⟩ = some (.slice pa x.old.length ca) ∧ w'.cell? ⟨g, o + k * 7 + 6, none⟩ = some (.slice pb x.new.length cb))
   (exact HS.out _ (by (repeat (first | with_reducible assumption | with_reducible refine alloc10 ?_ _ | with_reducible refine Ye ?_ | (with_reducible refine set10 ?_ ?_ _ _ _ _ _ _ _; rotate_left; focus (first | exact Nat.le_refl _ | exact Fr.size g1 | (have h1 := Fr.size g1; simp; omega)))))))
   (first
    | (go_at_call 29; with_reducible (refine (HP.out _ (by (repeat (first | with_reducible assumption | with_reducible refine alloc10 ?_ _ | with_reducible refine Ye ?_ | (with_reducible refine set10 ?_ ?_ _ _ _ _ _ _ _; rotate_left; focus (first | exact Nat.le_refl _ | exact Fr.size g1 | (have h1 := Fr.size g1; simp; omega))))))).mono ?_); rintro e w1 ⟨sz, pv, cv, po, co, pn, cn, rfl, Hsz, HK, f1⟩; have g1 := Fr.then7 (show Fr None' w _ by (repeat (first | with_reducible assumption | with_reducible refine alloc10 ?_ _ | with_reducible refine Ye ?_ | (with_reducible refine set10 ?_ ?_ _ _ _ _ _ _ _; rotate_left; focus (first | exact Nat.le_refl _ | exact Fr.size g1 | (have h1 := Fr.size g1; simp; omega)))))) f1; (try (refine (fun (la : w.heap.size < sz) => ?_) ((Hid.out Hsz) _ (.int .i64 0) (.string ⟨#[]⟩) (.string ⟨#[]⟩) (.string ⟨#[]⟩) (.int .i64 0) (.slice none 0 0) (.slice none 0 0) ?_); rotate_left; (focus ((repeat (first | with_reducible assumption | (with_reducible refine Box.new10 ?_ _ _ _ _ _ _ _; focus (simp; done)) | with_reducible refine Box.alloc10 ?_ _ | with_reducible refine Box.drew ?_)); done)))); (try (refine (fun (na : Box w1 w.heap.size (.int .i64 0) (.string ⟨#[]⟩) (.string ⟨#[]⟩) (.string ⟨#[]⟩) (.int .i64 0) (.slice none 0 0) (.slice none 0 0)) => ?_) (Box.kept ?_ f1); rotate_left; (focus ((repeat (first | with_reducible assumption | (with_reducible refine Box.new10 ?_ _ _ _ _ _ _ _; focus (simp; done)) | with_reducible refine Box.alloc10 ?_ _ | with_reducible refine Box.drew ?_)); done)); obtain ⟨na0, na1, na2, na3, na4, na5, na6⟩ := Box.cells na; have naz := Box.frozen na)))
    | fail)
  all_goals
   refine ⟨_, _, _, _, _, _, _, _, _, _, _, _, _, _, _, _, _, _, _, _, _, _, _, _, _, _, _, _, _, _, _, _, _, pv, cv, po, co, pn, cn, rfl, ?_⟩
   first
    | with_reducible exact close_a na (Hid.out HK) la
    | with_reducible exact close_b (Hid.out HK) (Fr.size g1)
 case rest =>
  rintro a' w2 ⟨b7, u9, u10, u11, u12, u13, u14, u15, u16, u17, u18, u19, u20, u21, u22, u23, u24, u25, u26, u27, u28, u29, u30, u31, u32, u33, u34, u35, u36, u37, u38, u39, u40, pv, cv, po, co, pn, cn, rfl, HG⟩
  obtain ⟨V, B7, O2, s1, s2, F2⟩ := HG.out
  have HX := Zy (show Zh w.heap.size w2 (.slice pv A.length cv) A V ∧ Zv w2 (.slice po b.old.length co) b.old ∧ Zv w2 (.slice pn b.new.length cn) b.new ∧ Fr None' w w2 from ⟨O2, s1, s2, F2⟩)
  have HB := Zy B7
  clear O2 s1 s2 F2 HS HP HG fr0 B7
  cases t with
  | false =>
   go_wp2_with fail
   go_ret2
   exact ⟨_, rfl, ⟨none, 0, rfl, fun _ => rfl, fun k x hk => by simp at hk⟩, HX.out.2.2.2⟩
  | true =>
   have HS2 := Zy (show ∀ w', Fr None' w2 w' → Fr None' w2 w' ∧ w'.cell? ⟨b7, 0, none⟩ = some (.int .i64 b.kind) ∧ w'.cell? ⟨b7, 1, none⟩ = some (.string b.path) ∧ w'.cell? ⟨b7, 2, none⟩ = some (.string b.dst) ∧ w'.cell? ⟨b7, 3, none⟩ = some (.string b.src) ∧ w'.cell? ⟨b7, 4, none⟩ = some (.int .i64 b.pos) ∧ w'.cell? ⟨b7, 5, none⟩ = some (.slice po b.old.length co) ∧ w'.cell? ⟨b7, 6, none⟩ = some (.slice pn b.new.length cn) from fun w' f => by
    obtain ⟨a0, a1, a2, a3, a4, a5, a6⟩ := (HB.out.kept f).cells
    exact ⟨f, a0, a1, a2, a3, a4, a5, a6⟩)
   have HT := Zy (fun W gX gY p3 c3 hX f hM hY => concat_three (w2 := w2) (W := W) (gX := gX) (gY := gY) (k := k) (M := L.take k) (A := A) (b := b) (p3 := p3) (c3 := c3) (pv := pv) (cv := cv) (po := po) (co := co) (pn := pn) (cn := cn) hX f hM HX.out.1.prsIn HX.out.2.1 HX.out.2.2.1 hY HPl.out.2 HPl.out.1)
   have HF2 := Zy HX.out.2.2.2
   have fr2 := Fr.refl None' w2
   clear HX
   go_wp2_with fail
   go_region_held3 (fun w' => Fr None' w2 w' ∧ w'.cell? ⟨b7, 0, none⟩ = some (.int .i64 b.kind) ∧ w'.cell? ⟨b7, 1, none⟩ = some (.string b.path) ∧ w'.cell? ⟨b7, 2, none⟩ = some (.string b.dst) ∧ w'.cell? ⟨b7, 3, none⟩ = some (.string b.src) ∧ w'.cell? ⟨b7, 4, none⟩ = some (.int .i64 b.pos) ∧ w'.cell? ⟨b7, 5, none⟩ = some (.slice po b.old.length co) ∧ w'.cell? ⟨b7, 6, none⟩ = some (.slice pn b.new.length cn))
    (exact HS2.out _ (by (repeat (first | with_reducible assumption | with_reducible refine alloc10 ?_ _ | with_reducible refine Ye ?_))))
    (first
     | (go_at_call 27; with_reducible (refine (HC.out _ (Fr.then7 (Hid.out HF2) (by (repeat (first | with_reducible assumption | with_reducible refine alloc10 ?_ _ | with_reducible refine Ye ?_))))).mono ?_); rintro e w3 ⟨p3, c3, rfl, HM, f3⟩; have g3 := Fr.then7 (show Fr None' w2 _ by (repeat (first | with_reducible assumption | with_reducible refine alloc10 ?_ _ | with_reducible refine Ye ?_))) f3; (try (refine (fun (nx : Box w3 w2.heap.size (.int .i64 b.kind) (.string b.path) (.string b.dst) (.string b.src) (.int .i64 b.pos) (.slice po b.old.length co) (.slice pn b.new.length cn)) => ?_) (Box.kept ?_ f3); rotate_left; (focus ((repeat (first | with_reducible assumption | (with_reducible refine Box.new10 ?_ _ _ _ _ _ _ _; focus (simp; done)) | with_reducible refine Box.alloc10 ?_ _ | with_reducible refine Box.drew ?_)); done)))))
     | (go_at_call 31; with_reducible (refine (HT.out _ w2.heap.size w3.heap.size p3 c3 (Box.alloc10 nx _) (alloc10 g3 _) (PrsIn.kept (Hid.out HM) (Fr.alloc None' _ _)) (heap_alloc_new _ _)).mono ?_); rintro e w4 ⟨p4, n4, c4, rfl, HQ, f4⟩; have g4 := Fr.then7 (show Fr None' w2 _ by (repeat (first | with_reducible assumption | with_reducible refine alloc10 ?_ _ | with_reducible refine Ye ?_))) f4)
     | (go_at_call 31; with_reducible (refine (HT.out _ w3.heap.size (w3.heap.size + 1) p3 c3 (Box.alloc10 (Box.new w3 _ _ _ _ _ _ _) _) (alloc10 (alloc10 g3 _) _) (PrsIn.kept (Hid.out HM) (alloc10 (Fr.alloc None' _ _) _)) (heap_two _ _ _)).mono ?_); rintro e w4 ⟨p4, n4, c4, rfl, HQ, f4⟩; have g4 := Fr.then7 (show Fr None' w2 _ by (repeat (first | with_reducible assumption | with_reducible refine alloc10 ?_ _ | with_reducible refine Ye ?_))) f4)
     | fail)
   all_goals
    go_wp2_with fail
    go_ret2
    exact ⟨.slice p4 n4 c4, rfl, (by have h := HQ.out; rw [List.append_assoc] at h; exact h), HF2.out.then7 g4⟩
end Go.Proofs.YtbnfjjjdnbcehaaGreatDoor
