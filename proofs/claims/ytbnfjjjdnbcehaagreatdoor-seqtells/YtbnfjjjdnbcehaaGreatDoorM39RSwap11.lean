/- What is proved here: contracts that SeqTells stands on. Conditions: as each theorem names them. -/
import Derived.Test.YtbnfjjjdnbcehaaGreatDoorM38RPast10
import Derived.Test.YtbnfjjjdnbcehaaGreatDoorMSwapD11
import Derived.Test.YtbnfjjjdnbcehaaGreatDoorM30Concat11
import Derived.OwnWalk
import Derived.Test.YtbnfjjjdnbcehaaGreatDoorM24Rules10
import Derived.Test.YtbnfjjjdnbcehaaGreatDoorMRepl11
set_option maxHeartbeats 16000000
namespace Go.Proofs.YtbnfjjjdnbcehaaGreatDoor
open Go.RowKit
set_option maxRecDepth 100000
def LieIn (w0 w : World) (v : Value) (L : List Pr) : Prop := ∃ va c, v = .slice va L.length c ∧ (va = none → c = 0) ∧ PrsLie w0 w va L
theorem Zh.lieIn {base : Nat} {w0 w : World} {v : Value} {L : List Pr} {V : List (Value × Value)} (h : Zh base w v L V) (hl : ∀ (k : Nat) (y : Pr) (u : Value × Value), L[k]? = some y → V[k]? = some u → Zv w0 u.1 y.old ∧ Zv w0 u.2 y.new) : LieIn w0 w v L := by
 rcases h.row.2 with ⟨hv, e⟩ | ⟨g, cap, cur, hv, hb, hh, hc, _, hs, ht⟩
 ·have e2 : L = [] := List.length_eq_zero_iff.1 e
  subst e2
  exact ⟨none, 0, hv, fun _ => rfl, fun k x hk => by simp at hk⟩
 ·refine ⟨_, cap, hv, fun e => by simp at e, fun k x hk => ?_⟩
  have hkl := (List.getElem?_eq_some_iff.1 hk).1
  obtain ⟨u, hp⟩ : ∃ u, V[k]? = some u := ⟨_, List.getElem?_eq_getElem (by rw [h.len]; exact hkl)⟩
  have hx := pcells_get L V k x u hk hp
  have hc' : ∀ j u, j < L.length * 7 → (pcells L V)[j]? = some u → w.cell? ⟨g, j, none⟩ = some u := fun j u hj h1 => by
   rw [← ht, List.getElem?_take, if_pos hj] at h1
   rw [World.cell?, hh]
   simpa using h1
  obtain ⟨s1, s2⟩ := hl k x u hk hp
  have h7 : ∀ j v, j < 7 → (prCells x u.1 u.2)[j]? = some v → w.cell? ⟨g, 0 + k * 7 + j, none⟩ = some v := fun j v hj e => by
   rw [Nat.zero_add]
   exact hc' _ _ (by omega) ((hx j hj).trans e)
  exact ⟨g, 0, rfl, u.1, u.2, h7 0 _ (by omega) rfl, h7 1 _ (by omega) rfl, h7 2 _ (by omega) rfl, h7 3 _ (by omega) rfl, h7 4 _ (by omega) rfl, h7 5 _ (by omega) rfl, h7 6 _ (by omega) rfl, s1, s2⟩
theorem LieIn.prsIn {w0 w : World} {v : Value} {L : List Pr} (h : LieIn w0 w v L) (f : Fr None' w0 w) : PrsIn w v L := by
 obtain ⟨va, c, e, h1, h2⟩ := h
 exact ⟨va, c, e, h1, h2.prs f⟩
theorem past_smallL : ∀ (L : List Pr) (p : Pr), (Zs p ∧ Zo p) → (∀ y ∈ L, Zs y ∧ Zo y) → (Zk p L).2.2 = true → (∀ y ∈ (Zk p L).1, Zs y ∧ Zo y) ∧ Zs (Zk p L).2.1 ∧ Zo (Zk p L).2.1
 | [], p, hp, _, _ => ⟨(fun y hy => by simp [Zk] at hy), hp⟩
 | q :: L, p, hp, hL, h => by
  unfold Zk at h ⊢
  by_cases h1 : (Zj p q).2.2 = true
  ·rw [if_pos h1] at h ⊢
   have s1 : Zs (Zj p q).1 ∧ Zo (Zj p q).1 := by
    have hq := hL q (List.mem_cons_self ..)
    refine ⟨(comm_small hp.1 hq.1 h1).1, ?_⟩
    obtain ⟨_, _, h3, _⟩ := commP_yes h1
    rw [h3]
    obtain ⟨r1, r2, _, _⟩ := Yj p q
    exact ⟨by rw [r1]; exact hq.2.1, by rw [r2]; exact hq.2.2⟩
   have s2 : Zs (Zj p q).2.1 ∧ Zo (Zj p q).2.1 := (comm_smallL hp.1 (hL q (List.mem_cons_self ..)).1 hp.2).resolve_right (by rw [h1]; simp)
   have ih := past_smallL L (Zj p q).2.1 s2 (fun y hy => hL y (List.mem_cons_of_mem _ hy))
   generalize Zk (Zj p q).2.1 L = r at h ih ⊢
   obtain ⟨a, b, t⟩ := r
   simp only at h ih ⊢
   by_cases h2 : t = true
   ·rw [if_pos h2] at h ⊢
    obtain ⟨i1, i2⟩ := ih h2
    refine ⟨fun y hy => ?_, i2⟩
    rcases List.mem_cons.1 hy with rfl | hy
    ·exact s1
    ·exact i1 y hy
   ·rw [if_neg h2] at h
    cases h
  ·rw [if_neg h1] at h
   cases h
theorem swap_smallL : ∀ (a b : List Pr), (∀ y ∈ a, Zs y ∧ Zo y) → (∀ y ∈ b, Zs y ∧ Zo y) → (Z1 a b).2.2 = true → (∀ y ∈ (Z1 a b).1, Zs y ∧ Zo y)
 | [], b, _, hb, _ => hb
 | p :: a, b, ha, hb, h => by
  unfold Z1 at h ⊢
  by_cases h1 : (Z1 a b).2.2 = true
  ·rw [if_pos h1] at h ⊢
   have i1 := swap_smallL a b (fun y hy => ha y (List.mem_cons_of_mem _ hy)) hb h1
   by_cases h2 : (Zk p (Z1 a b).1).2.2 = true
   ·rw [if_pos h2]
    exact (past_smallL _ p (ha p (List.mem_cons_self ..)) i1 h2).1
   ·rw [if_neg h2] at h
    cases h
  ·rw [if_neg h1] at h
   cases h
theorem swap_len2 : ∀ (a b : List Pr), (Z1 a b).2.1.length ≤ a.length
 | [], b => Nat.le_refl _
 | p :: a, b => by
  unfold Z1
  split
  ·split
   ·simpa using swap_len2 a b
   ·exact Nat.zero_le _
  ·exact Nat.zero_le _
structure RSwIn (w : World) (L B : List Pr) (k : Nat) (wr : World) (v1 v7 : Value) (A back : List Pr) (V : List (Value × Value)) : Prop where
 eq : Z1 (L.drop k) B = (A, back, true)
 fr : Fr None' w wr
 row : LieIn w wr v1 A
 own : Zh w.heap.size wr v7 back.reverse V
 lie : ∀ (j : Nat) (y : Pr) (u : Value × Value), back.reverse[j]? = some y → V[j]? = some u → Zv w u.1 y.old ∧ Zv w u.2 y.new
structure RSw2 (wr : World) (R : List Pr) (q : Nat) (w2 : World) (v : Value) (V : List (Value × Value)) : Prop where
 fr : Fr None' wr w2
 own : Zh wr.heap.size w2 v (R.drop q).reverse V
theorem tswap_any (va vb : Option Addr) (n c m d : Nat) (L B : List Pr) (w : World) (hl : L.length = n) (hm : B.length = m) (ha : Zc w va L) (hb : Zc w vb B) (hd : vb = none → d = 0) (hn : n ≤ 200) (hm2 : m ≤ 200) (hs : ∀ x ∈ L, Zs x ∧ Zo x) (ht : ∀ x ∈ B, Zs x ∧ Zo x) :
  Calls Tryz.prog 11 #[.slice va n c, .slice vb m d] w fun e w' => ∃ v u, e = .returned (.tuple #[v, u, .bool (Z1 L B).2.2]) ∧ PrsIn w' v (Z1 L B).1 ∧ PrsIn w' u (Z1 L B).2.1 ∧ Fr None' w w' := by
 have i1 : (n : Int) ≤ 200 := by omega
 have i2 : (0 : Int) ≤ (n : Int) := by omega
 have j1 : IntKind.i64.wrap ((n : Int) - 1) = (n : Int) - 1 := by rw [IntKind.wrap_i64]; omega
 have HP := Zy (fun (k : Nat) (hk : k < L.length) (A back : List Pr) (h : Z1 (L.drop (k + 1)) B = (A, back, true)) (wr : World) (f : Fr None' w wr) (vo vn : Value) (s1 : Zv w vo L[k].old) (s2 : Zv w vn L[k].new) (p1 : Option Addr) (c1 : Nat) (hA : PrsLie w wr p1 A) => rpastL_any L[k] vo vn p1 A.length c1 A w wr f s1 s2 (hs _ (List.getElem_mem hk)).1 (hs _ (List.getElem_mem hk)).2 rfl (by have := swap_len (L.drop (k + 1)) B; rw [h] at this; simp only at this; omega) hA (by have := swap_smallL (L.drop (k + 1)) B (fun y hy => hs y (List.mem_of_mem_drop hy)) ht (by rw [h]); rw [h] at this; exact this))
 unfold RPastPostL at HP
 have HL := Zy hl
 have HA := Zy ha
 have HI0 := Zy (show RSwIn w L B n w (.slice vb m d) (.slice none 0 0) B [] [] from ⟨by rw [List.drop_of_length_le (by omega)]; rfl, Fr.refl _ _, ⟨vb, d, by rw [hm], hd, hb.lie⟩, Zh.nil _ _, fun j y u e => by simp at e⟩)
 clear hl hm ha hb hd hn hm2 hs ht
 go_enter Tryz.func11, Tryz.ntmps11
 go_wp2_with fail
 go_loopw [1, 7, 8] (fun v1 v7 vi wr => ∃ (k : Nat) (A back : List Pr) (V : List (Value × Value)), k ≤ n ∧ vi = .int .i64 ((k : Int) - 1) ∧ Hid (RSwIn w L B k wr v1 v7 A back V)) (fun _ _ vi _ => (intOf vi + 1).toNat)
 case atStart => exact ⟨n, B, [], [], Nat.le_refl _, rfl, HI0.out⟩
 case round =>
  clear HI0
  obtain ⟨k, A, back, V, hk, rfl, HI⟩ := hrel
  cases k with
  | succ k =>
   have hkL : k < L.length := by rw [HL.out]; omega
   have hI := HI.out
   obtain ⟨p1, c1, rfl, _, PL⟩ := hI.row
   obtain ⟨g, o, rfl, uo, un, d0, d1, d2, d3, d4, d5, d6, s1, s2⟩ := HA.out.get hkL
   have f := hI.fr
   have cP := HP.out k hkL A back hI.eq wr f uo un s1 s2 p1 c1 PL
   obtain ⟨pa, ca, rfl⟩ := s1.as2
   obtain ⟨pb, cb, rfl⟩ := s2.as2
   replace d0 := f.keepCell d0 (fun e => e)
   replace d1 := f.keepCell d1 (fun e => e)
   replace d2 := f.keepCell d2 (fun e => e)
   replace d3 := f.keepCell d3 (fun e => e)
   replace d4 := f.keepCell d4 (fun e => e)
   replace d5 := f.keepCell d5 (fun e => e)
   replace d6 := f.keepCell d6 (fun e => e)
   obtain ⟨rp, hrp⟩ : ∃ r, Zk L[k] A = r := ⟨_, rfl⟩
   rw [hrp] at cP
   obtain ⟨A', y, t⟩ := rp
   have HMo := Zy (fun (h : t = true) => swap_more11 hkL hI.eq (h ▸ hrp))
   have HNo := Zy (fun (h : t = false) => swap_fails hkL hI.eq (h ▸ hrp))
   have e1 : ((k + 1 : Nat) : Int) - 1 = (k : Int) := by omega
   rw [e1]
   have i3 : (k : Int) < (n : Int) := by omega
   have i4 : (0 : Int) ≤ (k : Int) := by omega
   have j2 : IntKind.i64.wrap ((k : Int) - 1) = (k : Int) - 1 := by rw [IntKind.wrap_i64]; omega
   obtain ⟨p7, c7, hv7, _⟩ := hI.own.slice
   obtain ⟨bl, hbl⟩ : ∃ bl, back.reverse.length = bl := ⟨_, rfl⟩
   rw [hbl] at hv7
   clear hbl hrp s1 s2 f hI PL
   generalize L[k] = x at cP d0 d1 d2 d3 d4 d5 d6
   clear hkL
   subst hv7
   go_wp2_with fail
   with_reducible refine cP.mono ?_
   rintro e w4 ⟨v4, vb4, V4, rfl, O4, lie4, ⟨vo, vn, rfl, t1, t2⟩, f4⟩
   obtain ⟨po, co, rfl⟩ := t1.as2
   obtain ⟨pn, cn, rfl⟩ := t2.as2
   obtain ⟨p4, c4, rfl, _⟩ := O4.slice
   clear cP d0 d1 d2 d3 d4 d5 d6
   cases t with
   | false =>
    have HNo2 := Zy (HNo.out rfl)
    clear HNo HMo
    have HF := Zy ((HI.out.fr.then7 f4).then7 (Fr.alloc None' w4 (.cells #[.int .i64 y.kind, .string y.path, .string y.dst, .string y.src, .int .i64 y.pos, .slice po y.old.length co, .slice pn y.new.length cn] 43)))
    clear O4 lie4 t1 t2 f4
    go_wp2_with fail
    go_ret3
    rw [HNo2.out]
    refine ⟨.slice none 0 0, .slice none 0 0, rfl, ⟨none, 0, rfl, fun _ => rfl, fun k x hk => by simp at hk⟩, ⟨none, 0, rfl, fun _ => rfl, fun k x hk => by simp at hk⟩, HF.out⟩
   | true =>
    have hI := HI.out
    obtain ⟨w5, hw5⟩ : ∃ w5, w4.alloc (.cells #[.int .i64 y.kind, .string y.path, .string y.dst, .string y.src, .int .i64 y.pos, .slice po y.old.length co, .slice pn y.new.length cn] 43) = w5 := ⟨_, rfl⟩
    have F5 : Fr None' w4 w5 := hw5 ▸ Fr.alloc None' w4 _
    have B5 : Box w5 w4.heap.size (.int .i64 y.kind) (.string y.path) (.string y.dst) (.string y.src) (.int .i64 y.pos) (.slice po y.old.length co) (.slice pn y.new.length cn) := hw5 ▸ Box.new w4 _ _ _ _ _ _ _
    obtain ⟨w6, hw6⟩ : ∃ w6, w5.alloc (.cells #[.int .i64 y.kind, .string y.path, .string y.dst, .string y.src, .int .i64 y.pos, .slice po y.old.length co, .slice pn y.new.length cn] 43) = w6 := ⟨_, rfl⟩
    have F6 : Fr None' w5 w6 := hw6 ▸ Fr.alloc None' w5 _
    have B6 : Box w6 w5.heap.size (.int .i64 y.kind) (.string y.path) (.string y.dst) (.string y.src) (.int .i64 y.pos) (.slice po y.old.length co) (.slice pn y.new.length cn) := hw6 ▸ Box.new w5 _ _ _ _ _ _ _
    have fr6 : Fr None' wr w6 := (f4.then7 F5).then7 F6
    have fw6 : Fr None' w w6 := hI.fr.then7 fr6
    have hge : ∀ j, (Value.slice p7 bl c7).ownBlock = some j → w.heap.size ≤ j ∧ j < wr.heap.size := fun j e => hI.own.ge e
    obtain ⟨v7, w7, hr7, own7, hf7, ho7⟩ := (hI.own.kept fr6).push (b := w5.heap.size) (x := y) B6 (t1.kept fw6) (t2.kept fw6) (fun hl j e e' => by have := t1.lt hl e; have := hge j e'; omega) (fun hl j e e' => by have := t2.lt hl e; have := hge j e'; omega) (by have := swap_len2 (L.drop (k + 1)) B; rw [hI.eq] at this; rw [List.length_reverse]; simp only [List.length_drop] at this; have := HL.out; omega) (by have := fw6.size; omega)
    have lie7 : ∀ (j : Nat) (z : Pr) (u : Value × Value), (back.reverse ++ [y])[j]? = some z → (V ++ [(.slice po y.old.length co, .slice pn y.new.length cn)])[j]? = some u → Zv w u.1 z.old ∧ Zv w u.2 z.new := fun j z u e1 e2 => by
     have hVA := hI.own.len
     rcases Nat.lt_or_ge j back.reverse.length with hi | hi
     ·rw [List.getElem?_append_left hi] at e1
      rw [List.getElem?_append_left (by omega)] at e2
      exact hI.lie j z u e1 e2
     ·rw [List.getElem?_append_right hi] at e1
      rw [List.getElem?_append_right (by omega), hVA] at e2
      have hi0 : j - back.reverse.length = 0 := by
       have := (List.getElem?_eq_some_iff.1 e1).1
       simpa using this
      rw [hi0] at e1 e2
      simp at e1 e2
      subst e1 e2
      exact ⟨t1, t2⟩
    have fr7 : Fr None' w w7 := fw6.trans hf7 (fun i e => Or.inr (hge i e).1)
    have HIn := Zy (show RSwIn w L B k w7 (.slice p4 A'.length c4) v7 A' (y :: back) (V ++ [(.slice po y.old.length co, .slice pn y.new.length cn)]) from ⟨HMo.out rfl, fr7, by
     have h4 := ((O4.kept F5).kept F6).fr2 hf7 (fun j e e' => by have := (O4.ge e).1; have := hge j e'; omega) (fun i z u e1 e2 => ⟨fun hl j e e' => by have := (lie4 i z u e1 e2).1.lt hl e; have := hge j e'; omega, fun hl j e e' => by have := (lie4 i z u e1 e2).2.lt hl e; have := hge j e'; omega⟩)
     exact h4.lieIn lie4, by rw [List.reverse_cons]; exact own7, by rw [List.reverse_cons]; exact lie7⟩)
    obtain ⟨a0, a1, a2, a3, a4, a5, a6⟩ := B5.cells
    have HR7 := Zy hr7
    have HW5 := Zy hw5
    obtain ⟨q7, r7, hv7, _⟩ := own7.slice
    generalize (back.reverse ++ [y]).length = bl2 at hv7
    clear hI F5 B5 F6 B6 fr6 fw6 hge hr7 own7 hf7 ho7 lie7 fr7 O4 lie4 t1 t2 f4 HMo HNo HI
    subst hv7
    go_wp2_with (at_builtin
                 first
            | (refine Y0 (vs := .slice p7 bl c7) (vx := .slice (some ⟨w5.heap.size, 0, none⟩) 1 1) rfl _ _ rfl rfl rfl HR7.out ?_))
    exact ⟨⟨k, _, _, _, by omega, rfl, HIn.out⟩, by simp [intOf]⟩
  | zero =>
   rename World => wo
   rw [show ((0 : Nat) : Int) - 1 = -1 from rfl]
   have hI := HI.out
   obtain ⟨p1, c1, rfl, n1, PL⟩ := hI.row
   obtain ⟨p7, c7, hv7, _, _, P7⟩ := hI.own.slice
   have heq := hI.eq
   rw [List.drop_zero] at heq
   have hb2 : back.reverse.length ≤ 200 := by
    have h9 := swap_len2 L B
    rw [heq] at h9
    simp only at h9
    rw [List.length_reverse]
    have := HL.out
    omega
   have HEq := Zy heq
   have HX := Zy (show PrsIn wo (.slice p1 A.length c1) A ∧ Fr None' w wo from ⟨LieIn.prsIn ⟨p1, c1, rfl, n1, PL⟩ hI.fr, hI.fr⟩)
   have HP7 := Zy P7
   obtain ⟨nb, hnb⟩ : ∃ nb, back.reverse.length = nb := ⟨_, rfl⟩
   have HNb := Zy hnb
   have i5 : (nb : Int) ≤ 200 := by omega
   have j3 : IntKind.i64.wrap ((nb : Int) - 1) = (nb : Int) - 1 := by rw [IntKind.wrap_i64]; omega
   have H20 := Zy (show RSw2 wo back.reverse nb wo (.slice none 0 0) [] from ⟨Fr.refl _ _, by rw [List.drop_of_length_le (by omega)]; exact Zh.nil _ _⟩)
   rw [hnb] at hv7
   clear hI n1 PL P7 heq hb2 hnb HI HP
   subst hv7
   go_wp2_with fail
   go_loopw [12, 13] (fun v12 vi wr => ∃ (q : Nat) (V2 : List (Value × Value)), q ≤ nb ∧ vi = .int .i64 ((q : Int) - 1) ∧ Hid (RSw2 wo back.reverse q wr v12 V2)) (fun _ vi _ => (intOf vi + 1).toNat)
   case atStart => exact ⟨nb, [], Nat.le_refl _, rfl, H20.out⟩
   case round =>
    clear H20
    obtain ⟨q, V2, hq, rfl, HJ⟩ := hrel
    cases q with
    | zero =>
     have hJ := HJ.out
     have hown := hJ.own
     rw [List.drop_zero, List.reverse_reverse] at hown
     have HZ := Zy (show PrsIn wr _ back ∧ PrsIn wr (.slice p1 A.length c1) A ∧ Fr None' w wr from ⟨hown.prsIn, HX.out.1.kept hJ.fr, HX.out.2.then7 hJ.fr⟩)
     obtain ⟨pz, cz, hvz, _⟩ := hown.slice
     clear hJ hown
     go_wp2_with fail
     go_ret3
     rw [HEq.out]
     exact ⟨_, _, rfl, HZ.out.2.1, HZ.out.1, HZ.out.2.2⟩
    | succ q =>
     have hJ := HJ.out
     have hqL : q < back.reverse.length := by rw [HNb.out]; omega
     obtain ⟨g, o, rfl, uo, un, d0, d1, d2, d3, d4, d5, d6, t1, t2⟩ := HP7.out.get hqL
     have f := hJ.fr
     obtain ⟨po, co, rfl⟩ := t1.as2
     obtain ⟨pn, cn, rfl⟩ := t2.as2
     have hdrop : (back.reverse.drop (q + 1)).reverse ++ [back.reverse[q]] = (back.reverse.drop q).reverse := by
      rw [List.drop_eq_getElem_cons hqL, List.reverse_cons]
     obtain ⟨p12, c12, hv12, _⟩ := hJ.own.slice
     obtain ⟨ol, hol⟩ : ∃ ol, (back.reverse.drop (q + 1)).reverse.length = ol := ⟨_, rfl⟩
     rw [hol] at hv12
     subst hv12
     obtain ⟨y, hy⟩ : ∃ y, back.reverse[q] = y := ⟨_, rfl⟩
     rw [hy] at d0 d1 d2 d3 d4 d5 d6 t1 t2 hdrop
     obtain ⟨w6, hw6⟩ : ∃ w6, wr.alloc (.cells #[.int .i64 y.kind, .string y.path, .string y.dst, .string y.src, .int .i64 y.pos, .slice po y.old.length co, .slice pn y.new.length cn] 43) = w6 := ⟨_, rfl⟩
     have F6 : Fr None' wr w6 := hw6 ▸ Fr.alloc None' wr _
     have B6 : Box w6 wr.heap.size (.int .i64 y.kind) (.string y.path) (.string y.dst) (.string y.src) (.int .i64 y.pos) (.slice po y.old.length co) (.slice pn y.new.length cn) := hw6 ▸ Box.new wr _ _ _ _ _ _ _
     have fw6 := f.then7 F6
     have hge : ∀ j, (Value.slice p12 ol c12).ownBlock = some j → wo.heap.size ≤ j ∧ j < wr.heap.size := fun j e => hJ.own.ge e
     have hlen : (back.reverse.drop (q + 1)).reverse.length ≤ 200 := by rw [List.length_reverse, List.length_drop, HNb.out]; omega
     obtain ⟨v7, w7, hr7, own7, hf7, ho7⟩ := (hJ.own.kept F6).push (b := wr.heap.size) (x := y) B6 (t1.kept fw6) (t2.kept fw6) (fun hl j e e' => by have := t1.lt hl e; have := hge j e'; omega) (fun hl j e e' => by have := t2.lt hl e; have := hge j e'; omega) (by omega) (by have := fw6.size; omega)
     rw [hdrop] at own7
     have HIn := Zy (show RSw2 wo back.reverse q w7 v7 _ from ⟨fw6.trans hf7 (fun i e => Or.inr (hge i e).1), own7⟩)
     replace d0 := f.keepCell d0 (fun e => e)
     replace d1 := f.keepCell d1 (fun e => e)
     replace d2 := f.keepCell d2 (fun e => e)
     replace d3 := f.keepCell d3 (fun e => e)
     replace d4 := f.keepCell d4 (fun e => e)
     replace d5 := f.keepCell d5 (fun e => e)
     replace d6 := f.keepCell d6 (fun e => e)
     have e1 : ((q + 1 : Nat) : Int) - 1 = (q : Int) := by omega
     rw [e1]
     have i6 : (q : Int) < (nb : Int) := by omega
     have i7 : (0 : Int) ≤ (q : Int) := by omega
     have j4 : IntKind.i64.wrap ((q : Int) - 1) = (q : Int) - 1 := by rw [IntKind.wrap_i64]; omega
     have HR7 := Zy hr7
     obtain ⟨q7, r7, hv7, _⟩ := own7.slice
     generalize (back.reverse.drop q).reverse.length = ol2 at hv7
     clear hJ F6 B6 fw6 hge hr7 own7 hf7 ho7 hdrop hy t1 t2 f hlen hqL hol
     subst hv7
     go_wp2_with (at_builtin
                  first
             | (refine Y0 (vs := .slice p12 ol c12) (vx := .slice (some ⟨wr.heap.size, 0, none⟩) 1 1) rfl _ _ rfl rfl rfl HR7.out ?_))
     exact ⟨⟨q, _, by omega, rfl, HIn.out⟩, by simp [intOf]⟩
end Go.Proofs.YtbnfjjjdnbcehaaGreatDoor
namespace Go.Proofs.YtbnfjjjdnbcehaaGreatDoor
open Go.RowKit
set_option maxRecDepth 100000
theorem RPastPostL.is {x : Pr} {L A : List Pr} {b : Pr} {t : Bool} {w cw w1 : World} {e : Ending} (hp : Zk x L = (A, b, t)) (f : Fr None' w cw) (h : RPastPostL x L w cw e w1) : PastC A b t w cw e w1 := by
 obtain ⟨va, vb, V, he, hO, hlie, ⟨vo1, vn1, rfl, s1, s2⟩, f1⟩ := h
 rw [hp] at he hO s1 s2 hlie
 simp only at he hO s1 s2 hlie
 obtain ⟨po, co, rfl⟩ := s1.as2
 obtain ⟨pn, cn, rfl⟩ := s2.as2
 obtain ⟨pv, cv, rfl, _⟩ := hO.slice
 have fw : Fr None' w w1 := f.then7 f1
 refine ⟨cw.heap.size, pv, cv, po, co, pn, cn, he, (fun c y0 y1 y2 y3 y4 y5 y6 h => h.lt), fun W b7 hb hwb fW => ⟨V, ?_, ?_, ?_, ?_⟩, f1⟩
 ·refine (hO.fr2 fW (fun k e e' => ?_) (fun i y u e1 e2 => ?_)).weakenR f.size
  ·have := hO.ge e
   omega
  ·obtain ⟨q1, q2⟩ := hlie i y u e1 e2
   exact ⟨fun hl j e e' => by have := q1.lt hl e; omega, fun hl j e e' => by have := q2.lt hl e; omega⟩
 ·exact (s1.kept fw).far fW (fun hl j e e' => by have := s1.lt hl e; omega)
 ·exact (s2.kept fw).far fW (fun hl j e e' => by have := s2.lt hl e; omega)
 ·exact fw.trans fW (fun i e => Or.inr (by omega))
theorem tlast_any (va : Option Addr) (n c : Nat) (L : List Pr) (z : Int) (w : World) (hl : L.length = n) (ha : Zc w va L) (hc : va = none → c = 0) (hnc : n ≤ c) (hcm : c ≤ 9223372036854775807) (hn : n ≤ 200) (hs : ∀ x ∈ L, Zs x ∧ Zo x) :
  Calls Tryz.prog 13 #[.slice va n c, .int .i64 z] w fun e w' => ∃ v, e = .returned (.tuple #[v, .bool (lastQ L z).2]) ∧ PrsIn w' v (lastQ L z).1 ∧ Fr None' w w' := by
 by_cases hz : 0 ≤ z ∧ z < L.length
 case neg =>
  have HL := Zy (show lastQ L z = ([], false) from by unfold lastQ; rw [dif_neg hz])
  rw [HL.out]
  by_cases h0 : 0 ≤ z
  ·have i1 : ¬ z < (n : Int) := by omega
   have i2 : ¬ z < 0 := by omega
   clear hl ha hc hnc hcm hn hs hz
   go_enter Tryz.func13, Tryz.ntmps13
   go_wp2_with fail
   go_ret2
   exact ⟨_, rfl, ⟨none, 0, rfl, fun _ => rfl, fun k x hk => by simp at hk⟩, Fr.refl _ _⟩
  ·have i1 : z < 0 := by omega
   clear hl ha hc hnc hcm hn hs hz h0
   go_enter Tryz.func13, Tryz.ntmps13
   go_wp2_with fail
   go_ret2
   exact ⟨_, rfl, ⟨none, 0, rfl, fun _ => rfl, fun k x hk => by simp at hk⟩, Fr.refl _ _⟩
 case pos =>
 obtain ⟨k, rfl⟩ : ∃ k : Nat, z = k := ⟨z.toNat, by omega⟩
 have hkL : k < L.length := by omega
 have HL := Zy (show lastQ L k = if (Zk L[k] (L.drop (k + 1))).2.2 then (L.take k ++ (Zk L[k] (L.drop (k + 1))).1 ++ [(Zk L[k] (L.drop (k + 1))).2.1], true) else ([], false) from by unfold lastQ; rw [dif_pos hz]; rfl)
 rw [HL.out]
 obtain ⟨g, o, rfl, uo, un, d0, d1, d2, d3, d4, d5, d6, t1, t2⟩ := ha.get hkL
 obtain ⟨pa, ca, rfl⟩ := t1.as2
 obtain ⟨pb, cb, rfl⟩ := t2.as2
 obtain ⟨q, hq⟩ : ∃ q, k + 1 = q := ⟨_, rfl⟩
 obtain ⟨pr, hpr⟩ : ∃ pr : Option Addr, (if c = q then some (⟨g, o, none⟩ : Addr) else some ⟨g, o + q * 7, none⟩) = pr := ⟨_, rfl⟩
 have HP := Zy (fun w' (f : Fr None' w w') => (rpastL_any L[k] (.slice pa L[k].old.length ca) (.slice pb L[k].new.length cb) pr (n - q) (c - q) (L.drop (k + 1)) w w' f t1 t2 (hs _ (List.getElem_mem hkL)).1 (hs _ (List.getElem_mem hkL)).2 (by simp; omega) (by omega) (fun j x hj => by
  have hj1 := (List.getElem?_eq_some_iff.1 hj).1
  simp at hj1
  rw [← hpr, if_neg (by omega), ← hq]
  exact ((Zc.lie (ha.dropP (k + 1))).kept f) j x hj) (fun y hy => hs y (List.mem_of_mem_drop hy))).mono (fun e w'' h => RPastPostL.is (A := (Zk L[k] (L.drop (k + 1))).1) (b := (Zk L[k] (L.drop (k + 1))).2.1) (t := (Zk L[k] (L.drop (k + 1))).2.2) rfl f h))
 have HTk := Zy (show (∀ w', Fr None' w w' → Zc w' (some ⟨g, o, none⟩) (L.take k)) ∧ (L.take k).length = k from ⟨fun w' f => (ha.takeP k).kept f, by simp; omega⟩)
 unfold PastC at HP
 have HPl := Zy (show (Zk L[k] (L.drop (k + 1))).1.length ≤ 5000 ∧ (L.take k).length ≤ 5000 from ⟨Nat.le_trans (past_le11 _ _) (by simp; omega), by simp; omega⟩)
 generalize Zk L[k] (L.drop (k + 1)) = r at HP HPl HL ⊢
 obtain ⟨A, b, t⟩ := r
 simp only at HP HPl HL ⊢
 have HS := Zy (show ∀ w', Fr None' w w' → Fr None' w w' ∧ w'.cell? ⟨g, o + k * 7, none⟩ = some (.int .i64 L[k].kind) ∧ w'.cell? ⟨g, o + k * 7 + 1, none⟩ = some (.string L[k].path) ∧ w'.cell? ⟨g, o + k * 7 + 2, none⟩ = some (.string L[k].dst) ∧ w'.cell? ⟨g, o + k * 7 + 3, none⟩ = some (.string L[k].src) ∧ w'.cell? ⟨g, o + k * 7 + 4, none⟩ = some (.int .i64 L[k].pos) ∧ w'.cell? ⟨g, o + k * 7 + 5, none⟩ = some (.slice pa L[k].old.length ca) ∧ w'.cell? ⟨g, o + k * 7 + 6, none⟩ = some (.slice pb L[k].new.length cb) from fun w' f => ⟨f, f.keepCell d0 (fun e => e), f.keepCell d1 (fun e => e), f.keepCell d2 (fun e => e), f.keepCell d3 (fun e => e), f.keepCell d4 (fun e => e), f.keepCell d5 (fun e => e), f.keepCell d6 (fun e => e)⟩)
 generalize L[k] = x at d0 d1 d2 d3 d4 d5 d6 HP HS
 have i1 : (k : Int) < (n : Int) := by omega
 have i2 : (0 : Int) ≤ (k : Int) := by omega
 have i3 : (n : Int) ≤ (c : Int) := by omega
 have i4 : (c : Int) ≤ 9223372036854775807 := by omega
 have i5 : (n : Int) ≤ 200 := by omega
 have i6 : (q : Int) ≤ (n : Int) := by omega
 have i7 : (q : Int) ≤ (c : Int) := by omega
 have i8 : (0 : Int) ≤ (q : Int) := by omega
 have i9 : (k : Int) + 1 = (q : Int) := by omega
 have j1 : IntKind.i64.wrap ((k : Int) + 1) = (q : Int) := by rw [IntKind.wrap_i64]; omega
 have j4 : IntKind.i64.wrap (q : Int) = (q : Int) := by rw [IntKind.wrap_i64]; omega
 have j2 : (k : Int) ≤ (n : Int) := by omega
 have j3 : (k : Int) ≤ (c : Int) := by omega
 clear hl ha hc hnc hcm hn hs hkL t1 t2 d0 d1 d2 d3 d4 d5 d6 hz hq
 have fr0 := Fr.refl None' w
 go_enter Tryz.func13, Tryz.ntmps13
 go_wp2_with fail
 refine region_told (fun a' w' => ∃ b7 u9 u10 u11 u12 u13 u14 u15 u16 u17 u18 u19 u20 u21 u22 u23 u24 u25 u26 u27 u28 u29 u30 u31 u32 u33 u34 u35 u36 u37 u38 u39 u40 u41 u42 u43 u44 pv cv po co pn cn, a' = { tmps := #[.slice (some ⟨g, o, none⟩) n c, .int .i64 k, undef, undef, .slice none 0 0, .bool false, .slice pv A.length cv, .pointer (some ⟨b7, 0, none⟩), .bool t, u9, u10, u11, u12, u13, u14, u15, u16, u17, u18, u19, u20, u21, u22, u23, u24, u25, u26, u27, u28, u29, u30, u31, u32, u33, u34, u35, u36, u37, u38, u39, u40, u41, u42, u43, u44], defers := [] } ∧ Hid (∃ V, Box w' b7 (.int .i64 b.kind) (.string b.path) (.string b.dst) (.string b.src) (.int .i64 b.pos) (.slice po b.old.length co) (.slice pn b.new.length cn) ∧ Zh w.heap.size w' (.slice pv A.length cv) A V ∧ Zv w' (.slice po b.old.length co) b.old ∧ Zv w' (.slice pn b.new.length cn) b.new ∧ Fr None' w w')) ?reg ?rest
 case reg =>
  go_region_held3 (fun w' => Fr None' w w' ∧ w'.cell? ⟨g, o + k * 7, none⟩ = some (.int .i64 x.kind) ∧ w'.cell? ⟨g, o + k * 7 + 1, none⟩ = some (.string x.path) ∧ w'.cell? ⟨g, o + k * 7 + 2, none⟩ = some (.string x.dst) ∧ w'.cell? ⟨g, o + k * 7 + 3, none⟩ = some (.string x.src) ∧ w'.cell? ⟨g, o + k * 7 + 4, none⟩ = some (.int .i64 x.pos) ∧ w'.cell? ⟨g, o + k * 7 + 5, none⟩ = some (.slice pa x.old.length ca) ∧ w'.cell? ⟨g, o + k * 7 + 6, none⟩ = some (.slice pb x.new.length cb))
   (exact HS.out _ (by (repeat (first | with_reducible assumption | with_reducible refine alloc10 ?_ _ | with_reducible refine Ye ?_ | (with_reducible refine set10 ?_ ?_ _ _ _ _ _ _ _; rotate_left; focus (first | exact Nat.le_refl _ | exact Fr.size g1 | (have h1 := Fr.size g1; simp; omega)))))))
   (first
    | (go_at_call 30; with_reducible (refine (HP.out _ (by (repeat (first | with_reducible assumption | with_reducible refine alloc10 ?_ _ | with_reducible refine Ye ?_ | (with_reducible refine set10 ?_ ?_ _ _ _ _ _ _ _; rotate_left; focus (first | exact Nat.le_refl _ | exact Fr.size g1 | (have h1 := Fr.size g1; simp; omega))))))).mono ?_); rintro e w1 ⟨sz, pv, cv, po, co, pn, cn, rfl, Hsz, HK, f1⟩; have g1 := Fr.then7 (show Fr None' w _ by (repeat (first | with_reducible assumption | with_reducible refine alloc10 ?_ _ | with_reducible refine Ye ?_ | (with_reducible refine set10 ?_ ?_ _ _ _ _ _ _ _; rotate_left; focus (first | exact Nat.le_refl _ | exact Fr.size g1 | (have h1 := Fr.size g1; simp; omega)))))) f1; (try (refine (fun (la : w.heap.size < sz) => ?_) ((Hid.out Hsz) _ (.int .i64 0) (.string ⟨#[]⟩) (.string ⟨#[]⟩) (.string ⟨#[]⟩) (.int .i64 0) (.slice none 0 0) (.slice none 0 0) ?_); rotate_left; (focus ((repeat (first | with_reducible assumption | (with_reducible refine Box.new10 ?_ _ _ _ _ _ _ _; focus (simp; done)) | with_reducible refine Box.alloc10 ?_ _ | with_reducible refine Box.drew ?_)); done)))); (try (refine (fun (na : Box w1 w.heap.size (.int .i64 0) (.string ⟨#[]⟩) (.string ⟨#[]⟩) (.string ⟨#[]⟩) (.int .i64 0) (.slice none 0 0) (.slice none 0 0)) => ?_) (Box.kept ?_ f1); rotate_left; (focus ((repeat (first | with_reducible assumption | (with_reducible refine Box.new10 ?_ _ _ _ _ _ _ _; focus (simp; done)) | with_reducible refine Box.alloc10 ?_ _ | with_reducible refine Box.drew ?_)); done)); obtain ⟨na0, na1, na2, na3, na4, na5, na6⟩ := Box.cells na; have naz := Box.frozen na)))
    | fail)
  all_goals
   refine ⟨_, _, _, _, _, _, _, _, _, _, _, _, _, _, _, _, _, _, _, _, _, _, _, _, _, _, _, _, _, _, _, _, _, _, _, _, _, pv, cv, po, co, pn, cn, rfl, ?_⟩
   first
    | with_reducible exact close_a na (Hid.out HK) la
    | with_reducible exact close_b (Hid.out HK) (Fr.size g1)
 case rest =>
  rintro a' w2 ⟨b7, u9, u10, u11, u12, u13, u14, u15, u16, u17, u18, u19, u20, u21, u22, u23, u24, u25, u26, u27, u28, u29, u30, u31, u32, u33, u34, u35, u36, u37, u38, u39, u40, u41, u42, u43, u44, pv, cv, po, co, pn, cn, rfl, HG⟩
  obtain ⟨V, B7, O2, s1, s2, F2⟩ := HG.out
  have HX := Zy (show Zh w.heap.size w2 (.slice pv A.length cv) A V ∧ Zv w2 (.slice po b.old.length co) b.old ∧ Zv w2 (.slice pn b.new.length cn) b.new ∧ Fr None' w w2 from ⟨O2, s1, s2, F2⟩)
  have HB := Zy B7
  clear O2 s1 s2 F2 HS HP HG fr0 B7
  cases t with
  | false =>
   go_wp2_with fail
   go_ret2
   exact ⟨_, rfl, ⟨none, 0, rfl, fun _ => rfl, fun k x hk => by simp at hk⟩, HX.out.2.2.2⟩
  | true =>
   obtain ⟨al, hal⟩ : ∃ al, A.length = al := ⟨_, rfl⟩
   have F0 : Fr None' w2 (w2.alloc (.cells #[] 43)) := Fr.alloc None' w2 _
   have O0 : Zh w2.heap.size (w2.alloc (.cells #[] 43)) (.slice (some ⟨w2.heap.size, 0, none⟩) 0 0) [] [] := Zh.empty (Nat.le_refl _)
   obtain ⟨v1, U1, wa, r1, O1, f1⟩ := O0.addAll (c := c) (HTk.out.1 w2 HX.out.2.2.2) HTk.out.2 (fun e => by cases e) F0 (Nat.le_refl _) F0.size (by have := HPl.out.2; rw [HTk.out.2] at this; simp; omega)
   have Fa : Fr None' w2 wa := F0.trans f1 (fun i e => Or.inr (O0.ge e).1)
   obtain ⟨p1, c1, rfl, _⟩ := O1.slice
   have e1 : ([] ++ L.take k).length = k := by simpa using HTk.out.2
   obtain ⟨pv', cv', ev, _, nv, PV⟩ := HX.out.1.slice
   obtain ⟨rfl, rfl⟩ : pv = pv' ∧ cv = cv' := by simpa using ev
   obtain ⟨v2, U2, wb, r2, O2, f2⟩ := O1.addAll PV hal nv Fa (Nat.le_refl _) Fa.size (by have := HPl.out; rw [e1]; rw [HTk.out.2, hal] at this; omega)
   have Fb : Fr None' w2 wb := Fa.trans f2 (fun i e => Or.inr (O1.ge e).1)
   obtain ⟨p2, c2, rfl, _⟩ := O2.slice
   obtain ⟨s, hs⟩ : ∃ s, ([] ++ L.take k ++ A).length = s := ⟨_, rfl⟩
   have hs9 : s ≤ 90000 := by have := HPl.out; rw [← hs]; simp only [List.nil_append, List.length_append]; omega
   obtain ⟨wc, hwc⟩ : ∃ wc, wb.alloc (.cells #[.int .i64 b.kind, .string b.path, .string b.dst, .string b.src, .int .i64 b.pos, .slice po b.old.length co, .slice pn b.new.length cn] 43) = wc := ⟨_, rfl⟩
   have Fc : Fr None' wb wc := hwc ▸ Fr.alloc None' wb _
   have Bc : Box wc wb.heap.size (.int .i64 b.kind) (.string b.path) (.string b.dst) (.string b.src) (.int .i64 b.pos) (.slice po b.old.length co) (.slice pn b.new.length cn) := hwc ▸ Box.new wb _ _ _ _ _ _ _
   have Fwc := Fb.then7 Fc
   obtain ⟨v3, wd, r3, O3, f3, _⟩ := (O2.kept Fc).push (b := wb.heap.size) (x := b) Bc (HX.out.2.1.kept Fwc) (HX.out.2.2.1.kept Fwc) (fun hl j e e' => by have := HX.out.2.1.lt hl e; have := (O2.ge e').1; omega) (fun hl j e e' => by have := HX.out.2.2.1.lt hl e; have := (O2.ge e').1; omega) (by rw [hs]; exact hs9) (by have := Fwc.size; omega)
   have Fd : Fr None' w2 wd := Fwc.trans f3 (fun i e => Or.inr (O2.ge e).1)
   obtain ⟨a0, a1, a2, a3, a4, a5, a6⟩ := (HB.out.kept Fb).cells
   rw [e1] at r1 r2
   rw [hs] at r2 r3
   have HRa := Zy r1
   have HRb := Zy r2
   have HRc := Zy r3
   have HQ := Zy (show PrsIn wd v3 (L.take k ++ A ++ [b]) ∧ Fr None' w wd from ⟨by have := O3.prsIn; simpa using this, HX.out.2.2.2.then7 Fd⟩)
   rw [hal]
   clear F0 O0 r1 O1 f1 Fa e1 ev nv PV r2 O2 f2 Fb hs hs9 Fc Bc Fwc r3 O3 f3 Fd hal HX HB
   go_wp2_with (at_builtin
                first
           | (refine Y0 (vs := .slice (some ⟨w2.heap.size, 0, none⟩) 0 0) (vx := .slice (some ⟨g, o, none⟩) k c) rfl _ _ rfl rfl rfl HRa.out ?_)
           | (refine Y0 (vs := .slice p1 k c1) (vx := .slice pv al cv) rfl _ _ rfl rfl rfl HRb.out ?_)
           | (refine Y0 (vs := .slice p2 s c2) (vx := .slice (some ⟨wb.heap.size, 0, none⟩) 1 1) rfl _ _ rfl rfl rfl HRc.out ?_))
   go_ret2
   exact ⟨v3, rfl, (by have h := HQ.out.1; rw [List.append_assoc] at h; exact h), HQ.out.2⟩
end Go.Proofs.YtbnfjjjdnbcehaaGreatDoor
namespace Go.Proofs.YtbnfjjjdnbcehaaGreatDoor
open Go.RowKit
set_option maxRecDepth 100000
def jrP (p q : Pr) : Pr × Int × Bool := match Z0 p q with
 | none => (Yr, 0, false)
 | some [] => (Yr, 0, true)
 | some (z :: _) => (z, 1, true)
theorem results_ctt {fn : Func} {p q r : Tmp} (hres : fn.results = #[.cell p 43, .tmp q, .tmp r]) (tmps : Array Value) {w : World} {b : Nat} {y0 y1 y2 y3 y4 y5 y6 : Value} (hp : tmps.getD p undef = .pointer (some ⟨b, 0, none⟩)) (h : Box w b y0 y1 y2 y3 y4 y5 y6) :
  (results fn tmps).run Tryz.prog w = .ok (.tuple #[.agg #[y0, y1, y2, y3, y4, y5, y6], tmps.getD q undef, tmps.getD r undef]) w := by
 have hp' : tmps[p]?.getD undef = .pointer (some ⟨b, 0, none⟩) := by simpa using hp
 simp [results, hres, hp', asAddr, h.load]
theorem ret_ctt {fn : Func} {p q r : Tmp} (hres : fn.results = #[.cell p 43, .tmp q, .tmp r]) {Q : Ending → World → Prop} {a : Act} {w : World} {b : Nat} {y0 y1 y2 y3 y4 y5 y6 u v : Value} (hd : a.defers = []) (hp : a.tmps.getD p undef = .pointer (some ⟨b, 0, none⟩)) (hu : a.tmps.getD q undef = u) (hv : a.tmps.getD r undef = v) (h : Box w b y0 y1 y2 y3 y4 y5 y6)
  (hQ : Q (.returned (.tuple #[.agg #[y0, y1, y2, y3, y4, y5, y6], u, v])) w) : bodyPost Tryz.prog fn Q .ret a w := by
 subst hu hv
 exact bodyPost_ret (results_ctt hres _ hp h) hd hQ
def Yq (p q : Pr) (w0 w : World) (e : Ending) (w' : World) : Prop := ∃ vb, e = .returned (.tuple #[vb, .int .i64 (jrP p q).2.1, .bool (jrP p q).2.2]) ∧ Yf w0 vb (jrP p q).1 ∧ Fr None' w w'
theorem tj_zero {w0 : World} : Yf w0 (.agg #[.int .i64 0, .string ⟨#[]⟩, .string ⟨#[]⟩, .string ⟨#[]⟩, .int .i64 0, .slice none 0 0, .slice none 0 0]) Yr := (zero_new w0 w0).val
theorem Zv.row9 {w : World} {va : Option Addr} {c : Nat} {l : List ByteArray} (h : Zv w (.slice va l.length c) l) : Lines.Row w va l := by
 obtain ⟨va', c', e, _, _, h⟩ := h
 cases e
 exact h
theorem jr_none {p q : Pr} (h : Z0 p q = none) : jrP p q = (Yr, 0, false) := by unfold jrP; rw [h]
theorem jr_gone {p q : Pr} (h : Z0 p q = some []) : jrP p q = (Yr, 0, true) := by unfold jrP; rw [h]
theorem jr_one {p q z : Pr} (h : Z0 p q = some [z]) : jrP p q = (z, 1, true) := by unfold jrP; rw [h]
theorem right7 {p : Pr} (h : Zw p = true) (hk : p.kind = 7) : p.dst = ⟨#[]⟩ ∧ p.src = ⟨#[]⟩ := by
 obtain ⟨K, P, T, F, A, O, N⟩ := p
 simp only at hk
 subst hk
 simp [Zw, Ze, Zm] at h ⊢
 exact ⟨bytes0 h.2.1.1.1.1.1.1, bytes0 h.2.1.1.1.1.1.2⟩
theorem right9 {p : Pr} (h : Zw p = true) (hk : p.kind = 9) : p.pos = 0 ∧ p.old = [] ∧ p.new = [] := by
 obtain ⟨K, P, T, F, A, O, N⟩ := p
 simp only at hk
 subst hk
 simp [Zw, Ze, Zi, Zp] at h ⊢
 simp [h]
theorem right10 {p : Pr} (h : Zw p = true) (hk : p.kind = 10) : p.src = ⟨#[]⟩ ∧ p.pos = 0 ∧ p.old = [] ∧ p.new = [] := by
 obtain ⟨K, P, T, F, A, O, N⟩ := p
 simp only at hk
 subst hk
 simp [Zw, Ze, Zb, Zp] at h ⊢
 refine ⟨bytes0 ?_, ?_, ?_, ?_⟩ <;> simp [h]
theorem tjoin_1 (p q : Pr) (vo vn uo un : Value) (w0 w : World) (f0 : Fr None' w0 w) (ho : Zv w0 vo p.old) (hn : Zv w0 vn p.new) (go : Zv w0 uo q.old) (gn : Zv w0 un q.new) (sp : Zs p ∧ Zo p) (sq : Zs q ∧ Zo q) (hp : Zw p = false) (hj : Z0 p q = none) :
  Calls Tryz.prog 35 #[.agg #[.int .i64 p.kind, .string p.path, .string p.dst, .string p.src, .int .i64 p.pos, vo, vn], .agg #[.int .i64 q.kind, .string q.path, .string q.dst, .string q.src, .int .i64 q.pos, uo, un]] w fun e w' => Yq p q w0 w e w' := by
 obtain ⟨K, P, T, F, A, lO, lN⟩ := p
 obtain ⟨K', P', T', F', A', mO, mN⟩ := q
 simp only at ho hn go gn
 obtain ⟨pa, ca, rfl⟩ := ho.as2
 obtain ⟨pb, cb, rfl⟩ := hn.as2
 obtain ⟨qa, da, rfl⟩ := go.as2
 obtain ⟨qb, db, rfl⟩ := gn.as2
 have HRp := Zy (fun w' (f : Fr None' w0 w') => Y3 ⟨K, P, T, F, A, lO, lN⟩ _ _ w' (ho.kept f) (hn.kept f) sp.1 sp.2)
 have HRq := Zy (fun w' (f : Fr None' w0 w') => Y3 ⟨K', P', T', F', A', mO, mN⟩ _ _ w' (go.kept f) (gn.kept f) sq.1 sq.2)
 have HSt := Zy (And.intro (And.intro ho hn) (And.intro go gn))
 have HJ := Zy hj
 obtain ⟨no, hno⟩ : ∃ n, lO.length = n := ⟨_, rfl⟩
 obtain ⟨nn, hnn⟩ : ∃ n, lN.length = n := ⟨_, rfl⟩
 obtain ⟨mo, hmo⟩ : ∃ n, mO.length = n := ⟨_, rfl⟩
 obtain ⟨mn, hmn⟩ : ∃ n, mN.length = n := ⟨_, rfl⟩
 have HLn := Zy (And.intro (And.intro hno hnn) (And.intro hmo hmn))
 simp only [hno, hnn] at HRp ⊢
 simp only [hmo, hmn] at HRq ⊢
 rw [hp] at HRp
 obtain ⟨w1, hw1⟩ : ∃ w1, w.alloc (.cells #[.int .i64 K, .string P, .string T, .string F, .int .i64 A, .slice pa no ca, .slice pb nn cb] 43) = w1 := ⟨_, rfl⟩
 obtain ⟨w2, hw2⟩ : ∃ w2, w1.alloc (.cells #[.int .i64 K', .string P', .string T', .string F', .int .i64 A', .slice qa mo da, .slice qb mn db] 43) = w2 := ⟨_, rfl⟩
 obtain ⟨w3, hw3⟩ : ∃ w3, w2.alloc (.cells #[.int .i64 0, .string ⟨#[]⟩, .string ⟨#[]⟩, .string ⟨#[]⟩, .int .i64 0, .slice none 0 0, .slice none 0 0] 43) = w3 := ⟨_, rfl⟩
 have F1 : Fr None' w w1 := hw1 ▸ Fr.alloc None' w _
 have F2 : Fr None' w1 w2 := hw2 ▸ Fr.alloc None' w1 _
 have F3 : Fr None' w2 w3 := hw3 ▸ Fr.alloc None' w2 _
 have HF3 := Zy ((F1.then7 F2).then7 F3)
 have HB1 := Zy (show Box w3 w.heap.size (.int .i64 K) (.string P) (.string T) (.string F) (.int .i64 A) (.slice pa no ca) (.slice pb nn cb) from ((hw1 ▸ Box.new w _ _ _ _ _ _ _ : Box w1 _ _ _ _ _ _ _ _).kept F2).kept F3)
 have HB2 := Zy (show Box w3 w1.heap.size (.int .i64 K') (.string P') (.string T') (.string F') (.int .i64 A') (.slice qa mo da) (.slice qb mn db) from (hw2 ▸ Box.new w1 _ _ _ _ _ _ _ : Box w2 _ _ _ _ _ _ _ _).kept F3)
 have HB4 := Zy (show Box w3 w2.heap.size (.int .i64 0) (.string ⟨#[]⟩) (.string ⟨#[]⟩) (.string ⟨#[]⟩) (.int .i64 0) (.slice none 0 0) (.slice none 0 0) from hw3 ▸ Box.new w2 _ _ _ _ _ _ _)
 have HN := Zy (show w.heap.size ≤ w2.heap.size from (F1.then7 F2).size)
 obtain ⟨a0, a1, a2, a3, a4, a5, a6⟩ := HB1.out.cells
 have q1 := HRp.out w3 (f0.then7 HF3.out)
 clear F1 F2 F3 ho hn go gn sp sq hno hnn hmo hmn hp hj HRp
 go_enter Tryz.func35, Tryz.ntmps35
 go_wp2_with fail
 with_reducible refine q1.mono ?_
 rintro e w4 ⟨rfl, f4⟩
 have HF4 := Zy (HF3.out.then7 f4)
 have HC1 := Zy (HB1.out.kept f4)
 have HC2 := Zy (HB2.out.kept f4)
 have HC4 := Zy (HB4.out.kept f4)
 clear q1 f4 HF3 HB1 HB2 HB4 a0 a1 a2 a3 a4 a5 a6
 obtain ⟨z0, z1, z2, z3, z4, z5, z6⟩ := HC4.out.cells
 have zf := HC4.out.frozen
 go_wp2_with fail
 have hfin := fin9 (W := w4) HF4.out HC4.out (Fr.refl (fun k => k = w4.heap.size) _) (by have := HC4.out.lt; omega) HN.out HF4.out.size (.int .i64 0) (.string ⟨#[]⟩) (.string ⟨#[]⟩) (.string ⟨#[]⟩) (.int .i64 0) (.slice none 0 0) (.slice none 0 0)
 refine ret_ctt rfl rfl rfl rfl rfl hfin.1 ?_
 unfold Yq
 rw [jr_none HJ.out]
 exact ⟨_, rfl, tj_zero, hfin.2⟩
theorem tjoin_2 (p q : Pr) (vo vn uo un : Value) (w0 w : World) (f0 : Fr None' w0 w) (ho : Zv w0 vo p.old) (hn : Zv w0 vn p.new) (go : Zv w0 uo q.old) (gn : Zv w0 un q.new) (sp : Zs p ∧ Zo p) (sq : Zs q ∧ Zo q) (hp : Zw p = true) (hq : Zw q = false) (hj : Z0 p q = none) :
  Calls Tryz.prog 35 #[.agg #[.int .i64 p.kind, .string p.path, .string p.dst, .string p.src, .int .i64 p.pos, vo, vn], .agg #[.int .i64 q.kind, .string q.path, .string q.dst, .string q.src, .int .i64 q.pos, uo, un]] w fun e w' => Yq p q w0 w e w' := by
 obtain ⟨K, P, T, F, A, lO, lN⟩ := p
 obtain ⟨K', P', T', F', A', mO, mN⟩ := q
 simp only at ho hn go gn
 obtain ⟨pa, ca, rfl⟩ := ho.as2
 obtain ⟨pb, cb, rfl⟩ := hn.as2
 obtain ⟨qa, da, rfl⟩ := go.as2
 obtain ⟨qb, db, rfl⟩ := gn.as2
 have HRp := Zy (fun w' (f : Fr None' w0 w') => Y3 ⟨K, P, T, F, A, lO, lN⟩ _ _ w' (ho.kept f) (hn.kept f) sp.1 sp.2)
 have HRq := Zy (fun w' (f : Fr None' w0 w') => Y3 ⟨K', P', T', F', A', mO, mN⟩ _ _ w' (go.kept f) (gn.kept f) sq.1 sq.2)
 have HSt := Zy (And.intro (And.intro ho hn) (And.intro go gn))
 have HJ := Zy hj
 obtain ⟨no, hno⟩ : ∃ n, lO.length = n := ⟨_, rfl⟩
 obtain ⟨nn, hnn⟩ : ∃ n, lN.length = n := ⟨_, rfl⟩
 obtain ⟨mo, hmo⟩ : ∃ n, mO.length = n := ⟨_, rfl⟩
 obtain ⟨mn, hmn⟩ : ∃ n, mN.length = n := ⟨_, rfl⟩
 have HLn := Zy (And.intro (And.intro hno hnn) (And.intro hmo hmn))
 simp only [hno, hnn] at HRp ⊢
 simp only [hmo, hmn] at HRq ⊢
 rw [hp] at HRp
 obtain ⟨w1, hw1⟩ : ∃ w1, w.alloc (.cells #[.int .i64 K, .string P, .string T, .string F, .int .i64 A, .slice pa no ca, .slice pb nn cb] 43) = w1 := ⟨_, rfl⟩
 obtain ⟨w2, hw2⟩ : ∃ w2, w1.alloc (.cells #[.int .i64 K', .string P', .string T', .string F', .int .i64 A', .slice qa mo da, .slice qb mn db] 43) = w2 := ⟨_, rfl⟩
 obtain ⟨w3, hw3⟩ : ∃ w3, w2.alloc (.cells #[.int .i64 0, .string ⟨#[]⟩, .string ⟨#[]⟩, .string ⟨#[]⟩, .int .i64 0, .slice none 0 0, .slice none 0 0] 43) = w3 := ⟨_, rfl⟩
 have F1 : Fr None' w w1 := hw1 ▸ Fr.alloc None' w _
 have F2 : Fr None' w1 w2 := hw2 ▸ Fr.alloc None' w1 _
 have F3 : Fr None' w2 w3 := hw3 ▸ Fr.alloc None' w2 _
 have HF3 := Zy ((F1.then7 F2).then7 F3)
 have HB1 := Zy (show Box w3 w.heap.size (.int .i64 K) (.string P) (.string T) (.string F) (.int .i64 A) (.slice pa no ca) (.slice pb nn cb) from ((hw1 ▸ Box.new w _ _ _ _ _ _ _ : Box w1 _ _ _ _ _ _ _ _).kept F2).kept F3)
 have HB2 := Zy (show Box w3 w1.heap.size (.int .i64 K') (.string P') (.string T') (.string F') (.int .i64 A') (.slice qa mo da) (.slice qb mn db) from (hw2 ▸ Box.new w1 _ _ _ _ _ _ _ : Box w2 _ _ _ _ _ _ _ _).kept F3)
 have HB4 := Zy (show Box w3 w2.heap.size (.int .i64 0) (.string ⟨#[]⟩) (.string ⟨#[]⟩) (.string ⟨#[]⟩) (.int .i64 0) (.slice none 0 0) (.slice none 0 0) from hw3 ▸ Box.new w2 _ _ _ _ _ _ _)
 have HN := Zy (show w.heap.size ≤ w2.heap.size from (F1.then7 F2).size)
 obtain ⟨a0, a1, a2, a3, a4, a5, a6⟩ := HB1.out.cells
 have q1 := HRp.out w3 (f0.then7 HF3.out)
 clear F1 F2 F3 ho hn go gn sp sq hno hnn hmo hmn hp hj HRp
 go_enter Tryz.func35, Tryz.ntmps35
 go_wp2_with fail
 with_reducible refine q1.mono ?_
 rintro e w4 ⟨rfl, f4⟩
 have HF4 := Zy (HF3.out.then7 f4)
 have HC1 := Zy (HB1.out.kept f4)
 have HC2 := Zy (HB2.out.kept f4)
 have HC4 := Zy (HB4.out.kept f4)
 clear q1 f4 HF3 HB1 HB2 HB4 a0 a1 a2 a3 a4 a5 a6
 rw [hq] at HRq
 clear hq
 obtain ⟨b0, b1, b2, b3, b4, b5, b6⟩ := HC2.out.cells
 have q2 := HRq.out w4 (f0.then7 HF4.out)
 go_wp2_with fail
 with_reducible refine q2.mono ?_
 rintro e w5 ⟨rfl, f5⟩
 have HF5 := Zy (HF4.out.then7 f5)
 have HD1 := Zy (HC1.out.kept f5)
 have HD2 := Zy (HC2.out.kept f5)
 have HD4 := Zy (HC4.out.kept f5)
 clear q2 f5 HF4 HC1 HC2 HC4 b0 b1 b2 b3 b4 b5 b6 HRq
 obtain ⟨z0, z1, z2, z3, z4, z5, z6⟩ := HD4.out.cells
 have zf := HD4.out.frozen
 go_wp2_with fail
 have hfin := fin9 (W := w5) HF5.out HD4.out (Fr.refl (fun k => k = w5.heap.size) _) (by have := HD4.out.lt; omega) HN.out HF5.out.size (.int .i64 0) (.string ⟨#[]⟩) (.string ⟨#[]⟩) (.string ⟨#[]⟩) (.int .i64 0) (.slice none 0 0) (.slice none 0 0)
 refine ret_ctt rfl rfl rfl rfl rfl hfin.1 ?_
 unfold Yq
 rw [jr_none HJ.out]
 exact ⟨_, rfl, tj_zero, hfin.2⟩
inductive TC (p q : Pr) : Prop
 | a (h : Yb (inv p) q = true) (hj : Z0 p q = some [])
 | b (h : Yb (inv p) q = false) (hk : ¬ p.kind = q.kind) (hj : Z0 p q = none)
 | c (h : Yb (inv p) q = false) (hk : p.kind = 9) (hk' : q.kind = 9) (h1 : p.path = q.path) (h2 : p.dst = q.src) (hj : Z0 p q = some [⟨9, p.path, q.dst, p.src, 0, [], []⟩])
 | d (h : Yb (inv p) q = false) (hk : p.kind = 9) (hk' : q.kind = 9) (h1 : ¬ p.path = q.path) (hj : Z0 p q = none)
 | e (h : Yb (inv p) q = false) (hk : p.kind = 9) (hk' : q.kind = 9) (h1 : p.path = q.path) (h2 : ¬ q.src = p.dst) (hj : Z0 p q = none)
 | f (h : Yb (inv p) q = false) (hk : p.kind = 7) (hk' : q.kind = 7) (h1 : ¬ p.path = q.path) (hj : Z0 p q = none)
 | g (h : Yb (inv p) q = false) (hk : p.kind = 7) (hk' : q.kind = 7) (h1 : p.path = q.path) (h2 : ¬ p.pos = q.pos) (hj : Z0 p q = none)
 | h (h : Yb (inv p) q = false) (hk : p.kind = 7) (hk' : q.kind = 7) (h1 : p.path = q.path) (h2 : p.pos = q.pos) (r : Bool) (h3 : decide (p.new = q.old) = r) (hin4 : p.new.length < 1000000) (hj : Z0 p q = if r then some [⟨7, p.path, ⟨#[]⟩, ⟨#[]⟩, p.pos, p.old, q.new⟩] else none)
 | i (h : Yb (inv p) q = false) (hk : p.kind = 10) (hk' : q.kind = 10) (h1 : ¬ q.path = p.dst) (hj : Z0 p q = none)
 | j (h : Yb (inv p) q = false) (hk : p.kind = 10) (hk' : q.kind = 10) (h1 : p.dst = q.path) (hs1 : p.path.size < 100000000) (hs2 : q.dst.size < 100000000) (r : Bool) (hap : Path.apart p.path.data.toList q.dst.data.toList = r) (hj : Z0 p q = if r then some [⟨10, p.path, q.dst, ⟨#[]⟩, 0, [], []⟩] else none)
 | k (h : Yb (inv p) q = false) (hk : p.kind = q.kind) (n7 : ¬ p.kind = 7) (n9 : ¬ p.kind = 9) (n10 : ¬ p.kind = 10) (hj : Z0 p q = none)
theorem tjoin_m (p q : Pr) (vo vn uo un : Value) (w0 w : World) (f0 : Fr None' w0 w) (ho : Zv w0 vo p.old) (hn : Zv w0 vn p.new) (go : Zv w0 uo q.old) (gn : Zv w0 un q.new) (sp : Zs p ∧ Zo p) (sq : Zs q ∧ Zo q) (hp : Zw p = true) (hq : Zw q = true) (hc : TC p q) (hio : (inv p).old.length ≤ 900000) (hin : (inv p).new.length ≤ 900000) :
  Calls Tryz.prog 35 #[.agg #[.int .i64 p.kind, .string p.path, .string p.dst, .string p.src, .int .i64 p.pos, vo, vn], .agg #[.int .i64 q.kind, .string q.path, .string q.dst, .string q.src, .int .i64 q.pos, uo, un]] w fun e w' => Yq p q w0 w e w' := by
 obtain ⟨K, P, T, F, A, lO, lN⟩ := p
 obtain ⟨K', P', T', F', A', mO, mN⟩ := q
 simp only at ho hn go gn
 obtain ⟨pa, ca, rfl⟩ := ho.as2
 obtain ⟨pb, cb, rfl⟩ := hn.as2
 obtain ⟨qa, da, rfl⟩ := go.as2
 obtain ⟨qb, db, rfl⟩ := gn.as2
 have HRp := Zy (fun w' (f : Fr None' w0 w') => Y3 ⟨K, P, T, F, A, lO, lN⟩ _ _ w' (ho.kept f) (hn.kept f) sp.1 sp.2)
 have HRq := Zy (fun w' (f : Fr None' w0 w') => Y3 ⟨K', P', T', F', A', mO, mN⟩ _ _ w' (go.kept f) (gn.kept f) sq.1 sq.2)
 have HSt := Zy (And.intro (And.intro ho hn) (And.intro go gn))
 have HC := Zy hc
 obtain ⟨no, hno⟩ : ∃ n, lO.length = n := ⟨_, rfl⟩
 obtain ⟨nn, hnn⟩ : ∃ n, lN.length = n := ⟨_, rfl⟩
 obtain ⟨mo, hmo⟩ : ∃ n, mO.length = n := ⟨_, rfl⟩
 obtain ⟨mn, hmn⟩ : ∃ n, mN.length = n := ⟨_, rfl⟩
 have HLn := Zy (And.intro (And.intro hno hnn) (And.intro hmo hmn))
 simp only [hno, hnn] at HRp ⊢
 simp only [hmo, hmn] at HRq ⊢
 rw [hp] at HRp
 obtain ⟨w1, hw1⟩ : ∃ w1, w.alloc (.cells #[.int .i64 K, .string P, .string T, .string F, .int .i64 A, .slice pa no ca, .slice pb nn cb] 43) = w1 := ⟨_, rfl⟩
 obtain ⟨w2, hw2⟩ : ∃ w2, w1.alloc (.cells #[.int .i64 K', .string P', .string T', .string F', .int .i64 A', .slice qa mo da, .slice qb mn db] 43) = w2 := ⟨_, rfl⟩
 obtain ⟨w3, hw3⟩ : ∃ w3, w2.alloc (.cells #[.int .i64 0, .string ⟨#[]⟩, .string ⟨#[]⟩, .string ⟨#[]⟩, .int .i64 0, .slice none 0 0, .slice none 0 0] 43) = w3 := ⟨_, rfl⟩
 have F1 : Fr None' w w1 := hw1 ▸ Fr.alloc None' w _
 have F2 : Fr None' w1 w2 := hw2 ▸ Fr.alloc None' w1 _
 have F3 : Fr None' w2 w3 := hw3 ▸ Fr.alloc None' w2 _
 have HF3 := Zy ((F1.then7 F2).then7 F3)
 have HB1 := Zy (show Box w3 w.heap.size (.int .i64 K) (.string P) (.string T) (.string F) (.int .i64 A) (.slice pa no ca) (.slice pb nn cb) from ((hw1 ▸ Box.new w _ _ _ _ _ _ _ : Box w1 _ _ _ _ _ _ _ _).kept F2).kept F3)
 have HB2 := Zy (show Box w3 w1.heap.size (.int .i64 K') (.string P') (.string T') (.string F') (.int .i64 A') (.slice qa mo da) (.slice qb mn db) from (hw2 ▸ Box.new w1 _ _ _ _ _ _ _ : Box w2 _ _ _ _ _ _ _ _).kept F3)
 have HB4 := Zy (show Box w3 w2.heap.size (.int .i64 0) (.string ⟨#[]⟩) (.string ⟨#[]⟩) (.string ⟨#[]⟩) (.int .i64 0) (.slice none 0 0) (.slice none 0 0) from hw3 ▸ Box.new w2 _ _ _ _ _ _ _)
 have HN := Zy (show w.heap.size ≤ w2.heap.size from (F1.then7 F2).size)
 obtain ⟨a0, a1, a2, a3, a4, a5, a6⟩ := HB1.out.cells
 have q1 := HRp.out w3 (f0.then7 HF3.out)
 clear F1 F2 F3 ho hn go gn sp sq hno hnn hmo hmn hp hc HRp
 go_enter Tryz.func35, Tryz.ntmps35
 go_wp2_with fail
 with_reducible refine q1.mono ?_
 rintro e w4 ⟨rfl, f4⟩
 have HF4 := Zy (HF3.out.then7 f4)
 have HC1 := Zy (HB1.out.kept f4)
 have HC2 := Zy (HB2.out.kept f4)
 have HC4 := Zy (HB4.out.kept f4)
 clear q1 f4 HF3 HB1 HB2 HB4 a0 a1 a2 a3 a4 a5 a6
 rw [hq] at HRq
 clear hq
 obtain ⟨b0, b1, b2, b3, b4, b5, b6⟩ := HC2.out.cells
 have q2 := HRq.out w4 (f0.then7 HF4.out)
 go_wp2_with fail
 with_reducible refine q2.mono ?_
 rintro e w5 ⟨rfl, f5⟩
 have HF5 := Zy (HF4.out.then7 f5)
 have HD1 := Zy (HC1.out.kept f5)
 have HD2 := Zy (HC2.out.kept f5)
 have HD4 := Zy (HC4.out.kept f5)
 clear q2 f5 HF4 HC1 HC2 HC4 b0 b1 b2 b3 b4 b5 b6 HRq
 have HIv := Zy (fun w' => rinv_any ⟨K, P, T, F, A, lO, lN⟩ (.slice pa lO.length ca) (.slice pb lN.length cb) w0 w' HSt.out.1.1 HSt.out.1.2)
 have HSm := Zy (fun w' (f : Fr None' w0 w') vo vn (s1 : Zv w0 vo (inv ⟨K, P, T, F, A, lO, lN⟩).old) (s2 : Zv w0 vn (inv ⟨K, P, T, F, A, lO, lN⟩).new) => psame_dec (inv ⟨K, P, T, F, A, lO, lN⟩) ⟨K', P', T', F', A', mO, mN⟩ vo vn (.slice qa mO.length da) (.slice qb mN.length db) w' (s1.kept f) (s2.kept f) (HSt.out.2.1.kept f) (HSt.out.2.2.kept f) hio hin)
 obtain ⟨AL, hAL⟩ : ∃ AL, Yb (inv ⟨K, P, T, F, A, lO, lN⟩) ⟨K', P', T', F', A', mO, mN⟩ = AL := ⟨_, rfl⟩
 have HA := Zy hAL
 simp only [hAL] at HSm
 simp only [HLn.out.1.1, HLn.out.1.2] at HIv
 simp only [HLn.out.2.1, HLn.out.2.2] at HSm
 generalize inv ⟨K, P, T, F, A, lO, lN⟩ = I at HIv HSm
 obtain ⟨IK, IP, IT, IF, IA, IO, IN⟩ := I
 simp only at HIv HSm
 obtain ⟨io, hio2⟩ : ∃ n, IO.length = n := ⟨_, rfl⟩
 obtain ⟨iN, hin2⟩ : ∃ n, IN.length = n := ⟨_, rfl⟩
 have HIw := Zy (show ∀ w', Calls Tryz.prog 62 #[.agg #[.int .i64 K, .string P, .string T, .string F, .int .i64 A, .slice pa no ca, .slice pb nn cb]] w' (fun e w'' => ∃ (po : Option Addr) (co : Nat) (pn : Option Addr) (cn : Nat), e = .returned (.agg #[.int .i64 IK, .string IP, .string IT, .string IF, .int .i64 IA, .slice po io co, .slice pn iN cn]) ∧ Hid (Zv w0 (.slice po io co) IO ∧ Zv w0 (.slice pn iN cn) IN) ∧ Fr None' w' w'') from fun w' => (HIv.out w').mono (fun e w'' h => by
  obtain ⟨v, rfl, ⟨vo, vn, rfl, s1, s2⟩, f⟩ := h
  obtain ⟨po, co, rfl⟩ := s1.as2
  obtain ⟨pn, cn, rfl⟩ := s2.as2
  simp only [hio2, hin2] at s1 s2 ⊢
  exact ⟨po, co, pn, cn, rfl, ⟨s1, s2⟩, f⟩))
 have HS := Zy (show ∀ w', Fr None' w5 w' → Fr None' w5 w' ∧ w'.cell? ⟨w.heap.size, 0, none⟩ = some (.int .i64 K) ∧ w'.cell? ⟨w.heap.size, 1, none⟩ = some (.string P) ∧ w'.cell? ⟨w.heap.size, 2, none⟩ = some (.string T) ∧ w'.cell? ⟨w.heap.size, 3, none⟩ = some (.string F) ∧ w'.cell? ⟨w.heap.size, 4, none⟩ = some (.int .i64 A) ∧ w'.cell? ⟨w.heap.size, 5, none⟩ = some (.slice pa no ca) ∧ w'.cell? ⟨w.heap.size, 6, none⟩ = some (.slice pb nn cb) ∧ w'.cell? ⟨w1.heap.size, 0, none⟩ = some (.int .i64 K') ∧ w'.cell? ⟨w1.heap.size, 1, none⟩ = some (.string P') ∧ w'.cell? ⟨w1.heap.size, 2, none⟩ = some (.string T') ∧ w'.cell? ⟨w1.heap.size, 3, none⟩ = some (.string F') ∧ w'.cell? ⟨w1.heap.size, 4, none⟩ = some (.int .i64 A') ∧ w'.cell? ⟨w1.heap.size, 5, none⟩ = some (.slice qa mo da) ∧ w'.cell? ⟨w1.heap.size, 6, none⟩ = some (.slice qb mn db) from fun w' f => by
  obtain ⟨x0, x1, x2, x3, x4, x5, x6⟩ := (HD1.out.kept f).cells
  obtain ⟨y0, y1, y2, y3, y4, y5, y6⟩ := (HD2.out.kept f).cells
  exact ⟨f, x0, x1, x2, x3, x4, x5, x6, y0, y1, y2, y3, y4, y5, y6⟩)
 have fr5 := Fr.refl None' w5
 clear HIv hAL hio hin hio2 hin2
 go_wp2_with fail
 go_region_held3 (fun w' => Fr None' w5 w' ∧ w'.cell? ⟨w.heap.size, 0, none⟩ = some (.int .i64 K) ∧ w'.cell? ⟨w.heap.size, 1, none⟩ = some (.string P) ∧ w'.cell? ⟨w.heap.size, 2, none⟩ = some (.string T) ∧ w'.cell? ⟨w.heap.size, 3, none⟩ = some (.string F) ∧ w'.cell? ⟨w.heap.size, 4, none⟩ = some (.int .i64 A) ∧ w'.cell? ⟨w.heap.size, 5, none⟩ = some (.slice pa no ca) ∧ w'.cell? ⟨w.heap.size, 6, none⟩ = some (.slice pb nn cb) ∧ w'.cell? ⟨w1.heap.size, 0, none⟩ = some (.int .i64 K') ∧ w'.cell? ⟨w1.heap.size, 1, none⟩ = some (.string P') ∧ w'.cell? ⟨w1.heap.size, 2, none⟩ = some (.string T') ∧ w'.cell? ⟨w1.heap.size, 3, none⟩ = some (.string F') ∧ w'.cell? ⟨w1.heap.size, 4, none⟩ = some (.int .i64 A') ∧ w'.cell? ⟨w1.heap.size, 5, none⟩ = some (.slice qa mo da) ∧ w'.cell? ⟨w1.heap.size, 6, none⟩ = some (.slice qb mn db))
  (exact HS.out _ (by (repeat (first | with_reducible assumption | with_reducible refine Ye ?_ | with_reducible exact Fr.refl _ _))))
  (first
   | (go_at_call 62; with_reducible (refine (HIw.out _).mono ?_); rintro e w6 ⟨po, co, pn, cn, rfl, HIs, f6⟩; have g6 := Fr.then7 (show Fr None' w5 _ from (by (repeat (first | with_reducible assumption | with_reducible refine Ye ?_ | with_reducible exact Fr.refl _ _)))) f6)
   | (go_at_call 32; with_reducible (refine (HSm.out _ (Fr.then7 f0 (Fr.then7 (Hid.out HF5) (show Fr None' w5 _ from (by (repeat (first | with_reducible assumption | with_reducible refine Ye ?_ | with_reducible exact Fr.refl _ _)))))) _ _ (Hid.out HIs).1 (Hid.out HIs).2).mono ?_); rintro e w7 ⟨rfl, f7⟩; have g7 := Fr.then7 (show Fr None' w5 _ from (by (repeat (first | with_reducible assumption | with_reducible refine Ye ?_ | with_reducible exact Fr.refl _ _)))) f7)
   | fail)
 have HF7 := Zy (HF5.out.then7 g7)
 have HE1 := Zy (HD1.out.kept g7)
 have HE2 := Zy (HD2.out.kept g7)
 have HE4 := Zy (HD4.out.kept g7)
 clear HS HIw HSm g6 g7 f6 f7 fr5 HIs HF5 HD1 HD2 HD4
 have hno := Zy (fin9 (W := w7) HF7.out HE4.out (Fr.refl (fun k => k = w7.heap.size) _) (by have := HE4.out.lt; omega) HN.out HF7.out.size (.int .i64 0) (.string ⟨#[]⟩) (.string ⟨#[]⟩) (.string ⟨#[]⟩) (.int .i64 0) (.slice none 0 0) (.slice none 0 0))
 obtain ⟨x0, x1, x2, x3, x4, x5, x6⟩ := HE1.out.cells
 obtain ⟨y0, y1, y2, y3, y4, y5, y6⟩ := HE2.out.cells
 obtain ⟨z0, z1, z2, z3, z4, z5, z6⟩ := HE4.out.cells
 have zf := HE4.out.frozen
 have HNil : Hid (Zv w0 (.slice none 0 0) []) := Zy ⟨none, 0, rfl, fun _ => rfl, Nat.le_refl _, Lines.Row.nil _ _⟩
 cases HC.out with
 | a h hj =>
  cases HA.out.symm.trans h
  go_wp2_with fail
  refine ret_ctt rfl rfl rfl rfl rfl hno.out.1 ?_
  unfold Yq
  rw [jr_gone hj]
  exact ⟨_, rfl, tj_zero, hno.out.2⟩
 | b h hk hj =>
  cases HA.out.symm.trans h
  simp only at hk
  have zk : (K == K') = false := beq_eq_false_iff_ne.2 hk
  go_wp2_with fail
  refine ret_ctt rfl rfl rfl rfl rfl hno.out.1 ?_
  unfold Yq
  rw [jr_none hj]
  exact ⟨_, rfl, tj_zero, hno.out.2⟩
 | c h hk hk' h1 h2 hj =>
  cases HA.out.symm.trans h
  simp only at hk hk'
  subst hk hk'
  simp only at h1 h2
  subst h1 h2
  go_wp2_with fail
  have hfin := (fin9 (W := w7) HF7.out HE4.out (Fr.refl (fun k => k = w7.heap.size) _) (by have := HE4.out.lt; omega) HN.out HF7.out.size (.int .i64 9) (.string P) (.string T') (.string F) (.int .i64 0) (.slice none 0 0) (.slice none 0 0))
  refine ret_ctt rfl rfl rfl rfl rfl hfin.1 ?_
  unfold Yq
  rw [jr_one hj]
  exact ⟨_, rfl, ⟨_, _, rfl, HNil.out, HNil.out⟩, hfin.2⟩
 | d h hk hk' h1 hj =>
  cases HA.out.symm.trans h
  simp only at hk hk'
  subst hk hk'
  simp only at h1
  obtain ⟨e1, e2⟩ := Lines.str_no h1
  go_wp2_with fail
  refine ret_ctt rfl rfl rfl rfl rfl hno.out.1 ?_
  unfold Yq
  rw [jr_none hj]
  exact ⟨_, rfl, tj_zero, hno.out.2⟩
 | e h hk hk' h1 h2 hj =>
  cases HA.out.symm.trans h
  simp only at hk hk'
  subst hk hk'
  simp only at h1 h2
  subst h1
  obtain ⟨e1, e2⟩ := Lines.str_no h2
  go_wp2_with fail
  refine ret_ctt rfl rfl rfl rfl rfl hno.out.1 ?_
  unfold Yq
  rw [jr_none hj]
  exact ⟨_, rfl, tj_zero, hno.out.2⟩
 | f h hk hk' h1 hj =>
  cases HA.out.symm.trans h
  simp only at hk hk'
  subst hk hk'
  simp only at h1
  obtain ⟨e1, e2⟩ := Lines.str_no h1
  go_wp2_with fail
  refine ret_ctt rfl rfl rfl rfl rfl hno.out.1 ?_
  unfold Yq
  rw [jr_none hj]
  exact ⟨_, rfl, tj_zero, hno.out.2⟩
 | g h hk hk' h1 h2 hj =>
  cases HA.out.symm.trans h
  simp only at hk hk'
  subst hk hk'
  simp only at h1 h2
  subst h1
  have zk : (A == A') = false := beq_eq_false_iff_ne.2 h2
  go_wp2_with fail
  refine ret_ctt rfl rfl rfl rfl rfl hno.out.1 ?_
  unfold Yq
  rw [jr_none hj]
  exact ⟨_, rfl, tj_zero, hno.out.2⟩
 | h h hk hk' h1 h2 r h3 hin4 hj =>
  cases HA.out.symm.trans h
  simp only at hk hk'
  subst hk hk'
  simp only at h1 h2 h3 hin4
  subst h1 h2
  have q4 := (Lines.same_any pb qa cb da lN mO w7 (Zv.row9 (HSt.out.1.2.kept (f0.then7 HF7.out))) (Zv.row9 (HSt.out.2.1.kept (f0.then7 HF7.out))) hin4).mono (fun e w'' h => (⟨h.1, ofLN h.2⟩ : e = .returned (.bool (decide (lN = mO))) ∧ Fr None' w7 w''))
  rw [HLn.out.1.2, HLn.out.2.1, h3] at q4
  clear hin4 h3
  have HJ := Zy hj
  clear hj hno z0 z1 z2 z3 z4 z5 z6 zf
  go_wp2_with fail
  with_reducible refine q4.mono ?_
  rintro e w8 ⟨rfl, f8⟩
  have HF8 := Zy (HF7.out.then7 f8)
  have HG1 := Zy (HE1.out.kept f8)
  have HG2 := Zy (HE2.out.kept f8)
  have HG4 := Zy (HE4.out.kept f8)
  clear q4 f8 HF7 HE1 HE2 HE4 x0 x1 x2 x3 x4 x5 x6 y0 y1 y2 y3 y4 y5 y6
  obtain ⟨x0, x1, x2, x3, x4, x5, x6⟩ := HG1.out.cells
  obtain ⟨y0, y1, y2, y3, y4, y5, y6⟩ := HG2.out.cells
  obtain ⟨z0, z1, z2, z3, z4, z5, z6⟩ := HG4.out.cells
  have zf := HG4.out.frozen
  cases r with
  | false =>
   go_wp2_with fail
   have hfin := (fin9 (W := w8) HF8.out HG4.out (Fr.refl (fun k => k = w8.heap.size) _) (by have := HG4.out.lt; omega) HN.out HF8.out.size (.int .i64 0) (.string ⟨#[]⟩) (.string ⟨#[]⟩) (.string ⟨#[]⟩) (.int .i64 0) (.slice none 0 0) (.slice none 0 0))
   refine ret_ctt rfl rfl rfl rfl rfl hfin.1 ?_
   unfold Yq
   rw [jr_none HJ.out]
   exact ⟨_, rfl, tj_zero, hfin.2⟩
  | true =>
   go_wp2_with fail
   have hfin := (fin9 (W := w8) HF8.out HG4.out (Fr.refl (fun k => k = w8.heap.size) _) (by have := HG4.out.lt; omega) HN.out HF8.out.size (.int .i64 7) (.string P) (.string ⟨#[]⟩) (.string ⟨#[]⟩) (.int .i64 A) (.slice pa no ca) (.slice qb mn db))
   refine ret_ctt rfl rfl rfl rfl rfl hfin.1 ?_
   unfold Yq
   rw [jr_one HJ.out]
   exact ⟨_, rfl, ⟨_, _, rfl, (by have h := HSt.out.1.1; rw [HLn.out.1.1] at h; exact h), (by have h := HSt.out.2.2; rw [HLn.out.2.2] at h; exact h)⟩, hfin.2⟩
 | i h hk hk' h1 hj =>
  cases HA.out.symm.trans h
  simp only at hk hk'
  subst hk hk'
  simp only at h1
  obtain ⟨e1, e2⟩ := Lines.str_no h1
  go_wp2_with fail
  refine ret_ctt rfl rfl rfl rfl rfl hno.out.1 ?_
  unfold Yq
  rw [jr_none hj]
  exact ⟨_, rfl, tj_zero, hno.out.2⟩
 | j h hk hk' h1 hs1 hs2 r hap hj =>
  cases HA.out.symm.trans h
  simp only at hk hk'
  subst hk hk'
  simp only at h1 hap hs1 hs2
  subst h1
  have q4 := Path.rapart_any P T' w7 hs1 hs2
  rw [hap] at q4
  clear hap hs1 hs2
  have HJ := Zy hj
  clear hj z0 z1 z2 z3 z4 z5 z6 zf
  go_wp2_with fail
  with_reducible refine q4.mono ?_
  rintro e w8 ⟨rfl, rfl⟩
  clear q4
  obtain ⟨z0, z1, z2, z3, z4, z5, z6⟩ := HE4.out.cells
  have zf := HE4.out.frozen
  cases r with
  | false =>
   go_wp2_with fail
   refine ret_ctt rfl rfl rfl rfl rfl hno.out.1 ?_
   unfold Yq
   rw [jr_none HJ.out]
   exact ⟨_, rfl, tj_zero, hno.out.2⟩
  | true =>
   go_wp2_with fail
   have hfin := (fin9 (W := w7) HF7.out HE4.out (Fr.refl (fun k => k = w7.heap.size) _) (by have := HE4.out.lt; omega) HN.out HF7.out.size (.int .i64 10) (.string P) (.string T') (.string ⟨#[]⟩) (.int .i64 0) (.slice none 0 0) (.slice none 0 0))
   refine ret_ctt rfl rfl rfl rfl rfl hfin.1 ?_
   unfold Yq
   rw [jr_one HJ.out]
   exact ⟨_, rfl, ⟨_, _, rfl, HNil.out, HNil.out⟩, hfin.2⟩
 | k h hk n7 n9 n10 hj =>
  cases HA.out.symm.trans h
  simp only at hk n7 n9 n10
  subst hk
  have z7 : (K == 7) = false := beq_eq_false_iff_ne.2 n7
  have z9 : (K == 9) = false := beq_eq_false_iff_ne.2 n9
  have z10 : (K == 10) = false := beq_eq_false_iff_ne.2 n10
  go_wp2_with fail
  refine ret_ctt rfl rfl rfl rfl rfl hno.out.1 ?_
  unfold Yq
  rw [jr_none hj]
  exact ⟨_, rfl, tj_zero, hno.out.2⟩
end Go.Proofs.YtbnfjjjdnbcehaaGreatDoor
namespace Go.Proofs.YtbnfjjjdnbcehaaGreatDoor
open Go.RowKit
set_option maxRecDepth 100000
theorem inv_rows (p : Pr) : ((inv p).old = p.new ∨ (inv p).old = p.old ∨ (inv p).old = []) ∧ ((inv p).new = p.old ∨ (inv p).new = p.new ∨ (inv p).new = []) := by
 unfold inv
 by_cases a : p.kind = 1 ∨ p.kind = 3 ∨ p.kind = 5
 ·rw [if_pos a]; simp
 by_cases b : p.kind = 2 ∨ p.kind = 4 ∨ p.kind = 6
 ·rw [if_neg a, if_pos b]; simp
 by_cases c : p.kind = 7
 ·rw [if_neg a, if_neg b, if_pos c]; simp
 by_cases d : p.kind = 8 ∨ p.kind = 9
 ·rw [if_neg a, if_neg b, if_neg c, if_pos d]; simp
 by_cases e : p.kind = 10
 ·rw [if_neg a, if_neg b, if_neg c, if_neg d, if_pos e]; simp
 ·rw [if_neg a, if_neg b, if_neg c, if_neg d, if_neg e]; simp [Yr]
theorem join_p (p q : Pr) (hp : Zw p = false) : Z0 p q = none := by unfold Z0; simp [hp]
theorem join_q (p q : Pr) (hq : Zw q = false) : Z0 p q = none := by unfold Z0; simp [hq]
theorem tjoin_any (p q : Pr) (vo vn uo un : Value) (w0 w : World) (f0 : Fr None' w0 w) (ho : Zv w0 vo p.old) (hn : Zv w0 vn p.new) (go : Zv w0 uo q.old) (gn : Zv w0 un q.new) (sp : Zs p ∧ Zo p) (sq : Zs q ∧ Zo q) :
  Calls Tryz.prog 35 #[.agg #[.int .i64 p.kind, .string p.path, .string p.dst, .string p.src, .int .i64 p.pos, vo, vn], .agg #[.int .i64 q.kind, .string q.path, .string q.dst, .string q.src, .int .i64 q.pos, uo, un]] w fun e w' => Yq p q w0 w e w' := by
 cases hp : Zw p with
 | false => exact tjoin_1 p q vo vn uo un w0 w f0 ho hn go gn sp sq hp (join_p p q hp)
 | true =>
 cases hq : Zw q with
 | false => exact tjoin_2 p q vo vn uo un w0 w f0 ho hn go gn sp sq hp hq (join_q p q hq)
 | true =>
 have s1 := sp.1.old
 have s2 := sp.1.new
 have hio : (inv p).old.length ≤ 900000 := by rcases (inv_rows p).1 with h | h | h <;> rw [h] <;> first | omega | simp
 have hin : (inv p).new.length ≤ 900000 := by rcases (inv_rows p).2 with h | h | h <;> rw [h] <;> first | omega | simp
 cases hal : Yb (inv p) q with
 | true =>
  have e := alike_iff.1 hal
  exact tjoin_m p q vo vn uo un w0 w f0 ho hn go gn sp sq hp hq (.a hal (by unfold Z0; rw [hp, hq, alike_iff.2 e.symm]; rfl)) hio hin
 | false =>
 have hal2 : Yb q (inv p) = false := by
  cases h : Yb q (inv p) with
  | false => rfl
  | true => rw [alike_iff.2 (alike_iff.1 h).symm] at hal; cases hal
 have hJ : Z0 p q = if ¬ p.kind = q.kind then none
   else if p.kind = 9 ∧ p.path = q.path ∧ p.dst = q.src then some [{ p with dst := q.dst }]
   else if p.kind = 7 ∧ p.path = q.path ∧ p.pos = q.pos ∧ p.new = q.old then some [{ p with new := q.new }]
   else if p.kind = 10 ∧ p.dst = q.path ∧ apP p.path q.dst = true then some [{ p with dst := q.dst }]
   else none := by
  unfold Z0
  rw [hp, hq, hal2]
  rfl
 by_cases hk : p.kind = q.kind
 case neg => exact tjoin_m p q vo vn uo un w0 w f0 ho hn go gn sp sq hp hq (.b hal hk (by rw [hJ, if_pos hk])) hio hin
 rw [if_neg (fun h => h hk)] at hJ
 by_cases k9 : p.kind = 9
 ·have n7 : ¬ p.kind = 7 := by omega
  have n10 : ¬ p.kind = 10 := by omega
  have hk' : q.kind = 9 := by omega
  by_cases h1 : p.path = q.path
  ·by_cases h2 : p.dst = q.src
   ·obtain ⟨r1, r2, r3⟩ := right9 hp k9
    exact tjoin_m p q vo vn uo un w0 w f0 ho hn go gn sp sq hp hq (.c hal k9 hk' h1 h2 (by rw [hJ, if_pos ⟨k9, h1, h2⟩, r1, r2, r3, k9])) hio hin
   ·exact tjoin_m p q vo vn uo un w0 w f0 ho hn go gn sp sq hp hq (.e hal k9 hk' h1 (fun e => h2 e.symm) (by rw [hJ, if_neg (fun h => h2 h.2.2), if_neg (fun h => n7 h.1), if_neg (fun h => n10 h.1)])) hio hin
  ·exact tjoin_m p q vo vn uo un w0 w f0 ho hn go gn sp sq hp hq (.d hal k9 hk' h1 (by rw [hJ, if_neg (fun h => h1 h.2.1), if_neg (fun h => n7 h.1), if_neg (fun h => n10 h.1)])) hio hin
 ·rw [if_neg (fun h => k9 h.1)] at hJ
  by_cases k7 : p.kind = 7
  ·have n10 : ¬ p.kind = 10 := by omega
   have hk' : q.kind = 7 := by omega
   by_cases h1 : p.path = q.path
   ·by_cases h2 : p.pos = q.pos
    ·by_cases h3 : p.new = q.old
     ·obtain ⟨r1, r2⟩ := right7 hp k7
      exact tjoin_m p q vo vn uo un w0 w f0 ho hn go gn sp sq hp hq (.h hal k7 hk' h1 h2 true (decide_eq_true h3) (by omega) (by rw [hJ, if_pos ⟨k7, h1, h2, h3⟩, r1, r2, k7]; try rfl)) hio hin
     ·exact tjoin_m p q vo vn uo un w0 w f0 ho hn go gn sp sq hp hq (.h hal k7 hk' h1 h2 false (decide_eq_false h3) (by omega) (by rw [hJ, if_neg (fun h => h3 h.2.2.2), if_neg (fun h => n10 h.1)]; try rfl)) hio hin
    ·exact tjoin_m p q vo vn uo un w0 w f0 ho hn go gn sp sq hp hq (.g hal k7 hk' h1 h2 (by rw [hJ, if_neg (fun h => h2 h.2.2.1), if_neg (fun h => n10 h.1)])) hio hin
   ·exact tjoin_m p q vo vn uo un w0 w f0 ho hn go gn sp sq hp hq (.f hal k7 hk' h1 (by rw [hJ, if_neg (fun h => h1 h.2.1), if_neg (fun h => n10 h.1)])) hio hin
  ·rw [if_neg (fun h => k7 h.1)] at hJ
   by_cases k10 : p.kind = 10
   ·have hk' : q.kind = 10 := by omega
    have z1 := sp.1.path
    have z2 := sq.1.dst
    by_cases h1 : p.dst = q.path
    ·cases hap : Path.apart p.path.data.toList q.dst.data.toList with
     | true =>
      obtain ⟨r1, r2, r3, r4⟩ := right10 hp k10
      exact tjoin_m p q vo vn uo un w0 w f0 ho hn go gn sp sq hp hq (.j hal k10 hk' h1 (by omega) (by omega) true hap (by rw [hJ, if_pos ⟨k10, h1, hap⟩, r1, r2, r3, r4, k10]; try rfl)) hio hin
     | false => exact tjoin_m p q vo vn uo un w0 w f0 ho hn go gn sp sq hp hq (.j hal k10 hk' h1 (by omega) (by omega) false hap (by rw [hJ, if_neg (fun h => by have := h.2.2; unfold apP at this; rw [hap] at this; cases this)]; try rfl)) hio hin
    ·exact tjoin_m p q vo vn uo un w0 w f0 ho hn go gn sp sq hp hq (.i hal k10 hk' (fun e => h1 e.symm) (by rw [hJ, if_neg (fun h => h1 h.2.1)])) hio hin
   ·exact tjoin_m p q vo vn uo un w0 w f0 ho hn go gn sp sq hp hq (.k hal hk k7 k9 k10 (by rw [hJ, if_neg (fun h => k10 h.1)])) hio hin
end Go.Proofs.YtbnfjjjdnbcehaaGreatDoor
namespace Go.Proofs.YtbnfjjjdnbcehaaGreatDoor
open Go.RowKit
set_option maxRecDepth 100000
theorem Zh.cut {base : Nat} {w : World} {g n c : Nat} {L : List Pr} {V : List (Value × Value)} (h : Zh base w (.slice (some ⟨g, 0, none⟩) n c) L V) {k : Nat} (hk : k ≤ L.length) : Zh base w (.slice (some ⟨g, 0, none⟩) k c) (L.take k) (V.take k) := by
 rcases h.row.2 with ⟨hv, _⟩ | ⟨g', cap, cur, he, hb, hh, h1, h2, h3, h4⟩
 ·cases hv
 ·cases he
  have hlen : (L.take k).length = k := by rw [List.length_take]; omega
  have hV : (V.take k).length = (L.take k).length := by rw [List.length_take, List.length_take, h.len]
  refine ⟨hV, ⟨by rw [Yc _ _ hV], Or.inr ⟨g, c, cur, by rw [hlen], hb, hh, by omega, h2, h3, ?_⟩⟩, fun j x u e1 e2 => ?_⟩
  ·rw [hlen, pcells_take L V k h.len, ← h4, List.take_take, Nat.min_eq_left (by omega)]
  ·have hj : j < k := by have := (List.getElem?_eq_some_iff.1 e1).1; omega
   rw [List.getElem?_take, if_pos hj] at e1 e2
   obtain ⟨s1, s2, f1, f2⟩ := h.str j x u e1 e2
   exact ⟨s1, s2, f1, f2⟩
theorem push_go {st T : List Pr} {y x : Pr} (h : pushR (y :: st) x = T) : (jrP y x = (Yr, 0, false) ∧ T = x :: y :: st) ∨ (jrP y x = (Yr, 0, true) ∧ T = st) ∨ ∃ z, jrP y x = (z, 1, true) ∧ pushR st z = T := by
 unfold pushR at h
 unfold jrP
 cases hj : Z0 y x with
 | none => rw [hj] at h; exact Or.inl ⟨rfl, h.symm⟩
 | some l =>
  rw [hj] at h
  cases l with
  | nil => exact Or.inr (Or.inl ⟨rfl, h.symm⟩)
  | cons z l => exact Or.inr (Or.inr ⟨z, rfl, h⟩)
theorem lie_cut {w : World} {L : List Pr} {V : List (Value × Value)} (h : ∀ (j : Nat) (y : Pr) (u : Value × Value), L[j]? = some y → V[j]? = some u → Zv w u.1 y.old ∧ Zv w u.2 y.new) (k : Nat) : ∀ (j : Nat) (y : Pr) (u : Value × Value), (L.take k)[j]? = some y → (V.take k)[j]? = some u → Zv w u.1 y.old ∧ Zv w u.2 y.new := fun j y u e1 e2 => by
 rw [List.getElem?_take] at e1 e2
 split at e1
 ·rename_i hj
  rw [if_pos hj] at e2
  exact h j y u e1 e2
 ·cases e1
theorem lie_push {w : World} {L : List Pr} {V : List (Value × Value)} (hl : V.length = L.length) (h : ∀ (j : Nat) (y : Pr) (u : Value × Value), L[j]? = some y → V[j]? = some u → Zv w u.1 y.old ∧ Zv w u.2 y.new) {x : Pr} {vo vn : Value} (s1 : Zv w vo x.old) (s2 : Zv w vn x.new) : ∀ (j : Nat) (y : Pr) (u : Value × Value), (L ++ [x])[j]? = some y → (V ++ [(vo, vn)])[j]? = some u → Zv w u.1 y.old ∧ Zv w u.2 y.new := fun j y u e1 e2 => by
 rcases Nat.lt_or_ge j L.length with hi | hi
 ·rw [List.getElem?_append_left hi] at e1
  rw [List.getElem?_append_left (by omega)] at e2
  exact h j y u e1 e2
 ·rw [List.getElem?_append_right hi] at e1
  rw [List.getElem?_append_right (by omega), hl] at e2
  have hi0 : j - L.length = 0 := by
   have := (List.getElem?_eq_some_iff.1 e1).1
   simpa using this
  rw [hi0] at e1 e2
  simp at e1 e2
  subst e1 e2
  exact ⟨s1, s2⟩
theorem jr_small {p q : Pr} (sp : Zs p ∧ Zo p) (sq : Zs q ∧ Zo q) : Zs (jrP p q).1 ∧ Zo (jrP p q).1 := by
 have hz : Zs Yr ∧ Zo Yr := ⟨⟨by decide, by decide, by decide, by decide, by decide⟩, (fun z hz => by cases hz), fun z hz => by cases hz⟩
 unfold jrP
 cases hj : Z0 p q with
 | none => exact hz
 | some l =>
  cases l with
  | nil => exact hz
  | cons z l =>
   simp only
   unfold Z0 at hj
   repeat' split at hj
   all_goals first | (cases hj; done) | skip
   all_goals
    cases hj
    first
     | exact ⟨⟨sp.1.path, sq.1.dst, sp.1.src, sp.1.old, sp.1.new⟩, sp.2.1, sp.2.2⟩
     | exact ⟨⟨sp.1.path, sp.1.dst, sp.1.src, sp.1.old, sq.1.new⟩, sp.2.1, sq.2.2⟩
end Go.Proofs.YtbnfjjjdnbcehaaGreatDoor
