/- What is proved here: contracts that SeqTells stands on. Conditions: as each theorem names them. -/
import Derived.Test.YtbnfjjjdnbcehaaGreatDoorM39RSwap11
import Derived.Test.YtbnfjjjdnbcehaaGreatDoorM1Base
import Derived.Test.YtbnfjjjdnbcehaaGreatDoorM33Swap11
import Derived.Test.YtbnfjjjdnbcehaaGreatDoorM8RInv9
set_option maxHeartbeats 16000000
namespace Go.Proofs.YtbnfjjjdnbcehaaGreatDoor
open Go.RowKit
set_option maxRecDepth 100000
structure RC8 (w wr : World) (g m ml c3 : Nat) (y x z : Pr) (ya yb xa xb : Option Addr) (yc yd xc xd : Nat) (N : Int) (B : Bool) (t7 t8 t9 t26 t27 t28 t29 t30 t31 t32 t33 t34 t35 t36 t37 : Value) (po pn : Option Addr) (co cn b7 : Nat) (S : Nat → Bool) (w' : World) : Prop where
 fr : Fr None' wr w'
 o0 : S 0 = true → t27 = .slice (some ⟨g, 0, none⟩) ml c3
 o1 : S 1 = true → t28 = .slice (some ⟨g, 0, none⟩) ml c3
 o2 : S 2 = true → t29 = .int .i64 ml
 o3 : S 3 = true → t30 = .int .i64 m
 o4 : S 4 = true → t31 = .pointer (some ⟨g, m * 7, none⟩)
 o5 : S 5 = true → t32 = .agg #[.int .i64 y.kind, .string y.path, .string y.dst, .string y.src, .int .i64 y.pos, .slice ya y.old.length yc, .slice yb y.new.length yd]
 o6 : S 6 = true → t33 = .agg #[.int .i64 x.kind, .string x.path, .string x.dst, .string x.src, .int .i64 x.pos, .slice xa x.old.length xc, .slice xb x.new.length xd]
 o7 : S 7 = true → t34 = .tuple #[.agg #[.int .i64 z.kind, .string z.path, .string z.dst, .string z.src, .int .i64 z.pos, .slice po z.old.length co, .slice pn z.new.length cn], .int .i64 N, .bool B]
 o8 : S 8 = true → t26 = .tuple #[.agg #[.int .i64 z.kind, .string z.path, .string z.dst, .string z.src, .int .i64 z.pos, .slice po z.old.length co, .slice pn z.new.length cn], .int .i64 N, .bool B]
 o9 : S 9 = true → t35 = .agg #[.int .i64 z.kind, .string z.path, .string z.dst, .string z.src, .int .i64 z.pos, .slice po z.old.length co, .slice pn z.new.length cn]
 o10 : S 10 = true → t36 = .int .i64 N
 o11 : S 11 = true → t37 = .bool B
 o14 : S 14 = true → t8 = .int .i64 N
 o15 : S 15 = true → t9 = .bool B
 c7 : S 7 = true → Zv w (.slice po z.old.length co) z.old ∧ Zv w (.slice pn z.new.length cn) z.new
 c12 : S 12 = true → t7 = .pointer (some ⟨b7, 0, none⟩) ∧ wr.heap.size ≤ b7 ∧ (S 13 = false → Box w' b7 (.int .i64 0) (.string ⟨#[]⟩) (.string ⟨#[]⟩) (.string ⟨#[]⟩) (.int .i64 0) (.slice none 0 0) (.slice none 0 0)) ∧ (S 13 = true → Box w' b7 (.int .i64 z.kind) (.string z.path) (.string z.dst) (.string z.src) (.int .i64 z.pos) (.slice po z.old.length co) (.slice pn z.new.length cn))
 d8 : S 8 = true → S 7 = true
 d9 : S 9 = true → S 8 = true
 d13 : S 13 = true → S 9 = true ∧ S 12 = true
def Inv8c (T : Value → Value → Value → Value → Value → Value → Value → Value → Value → Value → Value → Value → Value → Value → Value → Array Value) (w wr : World) (g m ml c3 : Nat) (y x z : Pr) (ya yb xa xb : Option Addr) (yc yd xc xd : Nat) (N : Int) (B : Bool) (S : Nat → Bool) (a : Act) (w' : World) : Prop := ∃ t7 t8 t9 t26 t27 t28 t29 t30 t31 t32 t33 t34 t35 t36 t37 po pn co cn b7, a = { tmps := T t7 t8 t9 t26 t27 t28 t29 t30 t31 t32 t33 t34 t35 t36 t37, defers := [] } ∧ RC8 w wr g m ml c3 y x z ya yb xa xb yc yd xc xd N B t7 t8 t9 t26 t27 t28 t29 t30 t31 t32 t33 t34 t35 t36 t37 po pn co cn b7 S w'
structure RCo (w : World) (L : List Pr) (k : Nat) (wr : World) (v3 : Value) (st : List Pr) (V : List (Value × Value)) : Prop where
 eq : coalR [] (L.take k) = st
 fr : Fr None' w wr
 own : Zh w.heap.size wr v3 st.reverse V
 lie : ∀ (j : Nat) (y : Pr) (u : Value × Value), st.reverse[j]? = some y → V[j]? = some u → Zv w u.1 y.old ∧ Zv w u.2 y.new
 small : ∀ y ∈ st, Zs y ∧ Zo y
structure RCi (w : World) (b5 : Nat) (T st : List Pr) (x : Pr) (put : Bool) (wr : World) (v3 : Value) (V : List (Value × Value)) (xa xb : Option Addr) (xc xd : Nat) : Prop where
 tgt : (if put = true then pushR st x else st) = T
 fr : Fr None' w wr
 own : Zh w.heap.size wr v3 st.reverse V
 lie : ∀ (j : Nat) (y : Pr) (u : Value × Value), st.reverse[j]? = some y → V[j]? = some u → Zv w u.1 y.old ∧ Zv w u.2 y.new
 small : ∀ y ∈ st, Zs y ∧ Zo y
 bx : Box wr b5 (.int .i64 x.kind) (.string x.path) (.string x.dst) (.string x.src) (.int .i64 x.pos) (.slice xa x.old.length xc) (.slice xb x.new.length xd)
 so : Zv w (.slice xa x.old.length xc) x.old
 sn : Zv w (.slice xb x.new.length xd) x.new
 sx : Zs x ∧ Zo x
 far : ∀ j, v3.ownBlock = some j → ¬ j = b5
 hb5 : w.heap.size ≤ b5
 len : st.length ≤ 200
theorem RCi.kept {w : World} {b5 : Nat} {T st : List Pr} {x : Pr} {put : Bool} {wr W : World} {v3 : Value} {V : List (Value × Value)} {xa xb : Option Addr} {xc xd : Nat} (h : RCi w b5 T st x put wr v3 V xa xb xc xd) (f : Fr None' wr W) : RCi w b5 T st x put W v3 V xa xb xc xd :=
 ⟨h.tgt, h.fr.then7 f, h.own.kept f, h.lie, h.small, h.bx.kept f, h.so, h.sn, h.sx, h.far, h.hb5, h.len⟩
theorem RCi.putE {w : World} {b5 : Nat} {T st : List Pr} {x : Pr} {put : Bool} {W : World} {v3 : Value} {V : List (Value × Value)} {xa xb : Option Addr} {xc xd : Nat} (h : RCi w b5 T st x put W v3 V xa xb xc xd) {L : List Pr} {k : Nat} (hT : coalR [] (L.take k) = x :: st) :
  ∃ p7 n7 c7 w7 V7, (Builtin.append_ #[22, 22] 22 #[v3, .slice (some ⟨W.heap.size, 0, none⟩) 1 1]).run Tryz.prog (W.alloc (.cells #[.int .i64 x.kind, .string x.path, .string x.dst, .string x.src, .int .i64 x.pos, .slice xa x.old.length xc, .slice xb x.new.length xd] 43)) = .ok (.slice p7 n7 c7) w7 ∧ RCo w L k w7 (.slice p7 n7 c7) (x :: st) V7 := by
 have F6 : Fr None' W (W.alloc (.cells #[.int .i64 x.kind, .string x.path, .string x.dst, .string x.src, .int .i64 x.pos, .slice xa x.old.length xc, .slice xb x.new.length xd] 43)) := Fr.alloc None' W _
 have fw6 := h.fr.then7 F6
 obtain ⟨v7, w7, hr7, own7, hf7, _⟩ := (h.own.kept F6).push (b := W.heap.size) (x := x) (Box.new W _ _ _ _ _ _ _) (h.so.kept fw6) (h.sn.kept fw6) (fun hl j e e' => by have := h.so.lt hl e; have := (h.own.ge e').1; omega) (fun hl j e e' => by have := h.sn.lt hl e; have := (h.own.ge e').1; omega) (by rw [List.length_reverse]; have := h.len; omega) (by have := fw6.size; omega)
 obtain ⟨p7, c7, rfl, _⟩ := own7.slice
 refine ⟨p7, _, c7, w7, _, hr7, hT, fw6.trans hf7 (fun i e => Or.inr (h.own.ge e).1), by rw [List.reverse_cons]; exact own7, by rw [List.reverse_cons]; exact lie_push h.own.len h.lie h.so h.sn, fun y hy => ?_⟩
 rcases List.mem_cons.1 hy with rfl | hy
 ·exact h.sx
 ·exact h.small y hy
theorem RCi.noPut {w : World} {b5 : Nat} {T st : List Pr} {x : Pr} {put : Bool} {W : World} {v3 : Value} {V : List (Value × Value)} {xa xb : Option Addr} {xc xd : Nat} (h : RCi w b5 T st x put W v3 V xa xb xc xd) {L : List Pr} {k : Nat} (hT : coalR [] (L.take k) = st) : RCo w L k W v3 st V := ⟨hT, h.fr, h.own, h.lie, h.small⟩
theorem RCi.pop {w : World} {b5 : Nat} {T T' st : List Pr} {y x z : Pr} {put put' : Bool} {W : World} {g n c3 m : Nat} {V : List (Value × Value)} {xa xb po pn : Option Addr} {xc xd co cn : Nat} (h : RCi w b5 T (y :: st) x put W (.slice (some ⟨g, 0, none⟩) n c3) V xa xb xc xd) (hm : st.length = m) (hz1 : Zv w (.slice po z.old.length co) z.old) (hz2 : Zv w (.slice pn z.new.length cn) z.new) (sz : Zs z ∧ Zo z) (ht : (if put' = true then pushR st z else st) = T') :
  RCi w b5 T' st z put' (setP W b5 (.int .i64 z.kind) (.string z.path) (.string z.dst) (.string z.src) (.int .i64 z.pos) (.slice po z.old.length co) (.slice pn z.new.length cn)) (.slice (some ⟨g, 0, none⟩) m c3) (V.take m) po pn co cn := by
 have hrev : (y :: st).reverse.take m = st.reverse := by rw [List.reverse_cons, List.take_append_of_le_length (by simp [hm]), List.take_of_length_le (by simp [hm])]
 have hcut := h.own.cut (k := m) (by simp [hm])
 rw [hrev] at hcut
 have FS : Fr (fun k => k = b5) W (setP W b5 (.int .i64 z.kind) (.string z.path) (.string z.dst) (.string z.src) (.int .i64 z.pos) (.slice po z.old.length co) (.slice pn z.new.length cn)) := Fr.setP (M := fun k => k = b5) W rfl _ _ _ _ _ _ _
 have hlie := lie_cut h.lie m
 rw [hrev] at hlie
 have hlen := h.len
 refine ⟨ht, h.fr.trans FS (fun i e => Or.inr (by have := h.hb5; omega)), hcut.fr2 FS (fun j e e' => h.far j e e') (fun i y u e1 e2 => ?_), hlie, (fun y hy => h.small y (List.mem_cons_of_mem _ hy)), h.bx.all _ _ _ _ _ _ _, hz1, hz2, sz, (fun j e => h.far j e), h.hb5, by simp at hlen; omega⟩
 obtain ⟨q1, q2⟩ := hlie i y u e1 e2
 exact ⟨fun hl j e e' => by have := q1.lt hl e; have := h.hb5; omega, fun hl j e e' => by have := q2.lt hl e; have := h.hb5; omega⟩
def slLen : Value → Nat
 | .slice _ n _ => n
 | _ => 0
theorem coal_snoc {L : List Pr} {k : Nat} (h : k < L.length) : coalR [] (L.take (k + 1)) = pushR (coalR [] (L.take k)) L[k] := by
 rw [List.take_succ_eq_append_getElem h, coalR_append]
 rfl
theorem tcoal_any (va : Option Addr) (n c : Nat) (L : List Pr) (w : World) (hl : L.length = n) (ha : Zc w va L) (hn : n ≤ 200) (hs : ∀ x ∈ L, Zs x ∧ Zo x) :
  Calls Tryz.prog 16 #[.slice va n c] w fun e w' => ∃ v, e = .returned v ∧ PrsIn w' v (coalP L) ∧ Fr None' w w' := by
 have i1 : (n : Int) ≤ 200 := by omega
 have HL := Zy hl
 have HA := Zy ha
 have HSm := Zy hs
 have HI0 := Zy (show RCo w L 0 w (.slice none 0 0) [] [] from ⟨rfl, Fr.refl _ _, Zh.nil _ _, (fun j y u e => by simp at e), fun y hy => by cases hy⟩)
 clear hl ha hn hs
 go_enter Tryz.func16, Tryz.ntmps16
 go_wp2_with fail
 go_loopw [3, 4] (fun v3 vi wr => ∃ (k : Nat) (st : List Pr) (V : List (Value × Value)), k ≤ n ∧ vi = .int .i64 k ∧ Hid (RCo w L k wr v3 st V)) (fun _ vi _ => n - (intOf vi).toNat)
 case atStart => exact ⟨0, [], [], Nat.zero_le _, rfl, HI0.out⟩
 case round =>
  clear HI0
  obtain ⟨k, st, V, hk, rfl, HI⟩ := hrel
  by_cases hlt : k < n
  case neg =>
   obtain rfl : k = n := by omega
   have hI := HI.out
   have heq := hI.eq
   rw [List.take_of_length_le (by rw [HL.out]; exact Nat.le_refl _)] at heq
   have HZ := Zy (show PrsIn wr _ (coalP L) ∧ Fr None' w wr from ⟨by unfold coalP; rw [heq]; exact hI.own.prsIn, hI.fr⟩)
   obtain ⟨pz, cz, hvz, _⟩ := hI.own.slice
   clear hI heq
   go_wp2_with fail
   go_ret
   exact ⟨_, rfl, HZ.out.1, HZ.out.2⟩
  case pos =>
  rename World => wo
  have hkL : k < L.length := by rw [HL.out]; exact hlt
  obtain ⟨g0, o0, rfl, uo, un, d0, d1, d2, d3, d4, d5, d6, s1, s2⟩ := HA.out.get hkL
  have hI := HI.out
  have f := hI.fr
  obtain ⟨xa, xc, rfl⟩ := s1.as2
  obtain ⟨xb, xd, rfl⟩ := s2.as2
  replace d0 := f.keepCell d0 (fun e => e)
  replace d1 := f.keepCell d1 (fun e => e)
  replace d2 := f.keepCell d2 (fun e => e)
  replace d3 := f.keepCell d3 (fun e => e)
  replace d4 := f.keepCell d4 (fun e => e)
  replace d5 := f.keepCell d5 (fun e => e)
  replace d6 := f.keepCell d6 (fun e => e)
  have hT := coal_snoc hkL
  rw [hI.eq] at hT
  have hsx := HSm.out _ (List.getElem_mem hkL)
  have hlen : st.length ≤ 200 := by
   have := coal_length (L.take k) []
   rw [hI.eq] at this
   simp at this
   omega
  obtain ⟨T, hT2⟩ : ∃ T, pushR st L[k] = T := ⟨_, rfl⟩
  rw [hT2] at hT
  have HT := Zy hT
  generalize L[k] = x at d0 d1 d2 d3 d4 d5 d6 s1 s2 hsx hT2
  obtain ⟨w5, hw5⟩ : ∃ w5, wo.alloc (.cells #[.int .i64 x.kind, .string x.path, .string x.dst, .string x.src, .int .i64 x.pos, .slice xa x.old.length xc, .slice xb x.new.length xd] 43) = w5 := ⟨_, rfl⟩
  have F5 : Fr None' wo w5 := hw5 ▸ Fr.alloc None' wo _
  have HJ0 := Zy (show RCi w wo.heap.size T st x true w5 _ V xa xb xc xd from ⟨hT2, f.then7 F5, hI.own.kept F5, hI.lie, hI.small, hw5 ▸ Box.new wo _ _ _ _ _ _ _, s1, s2, hsx, (fun j e => by have := (hI.own.ge e).2; omega), f.size, hlen⟩)
  have i2 : (k : Int) < (n : Int) := by omega
  have i3 : (0 : Int) ≤ (k : Int) := by omega
  obtain ⟨p3, c3, hv3, _⟩ := hI.own.slice
  generalize st.reverse.length = ol at hv3
  clear hI f hT hT2 hsx hlen F5 s1 s2 hkL HI
  subst hv3
  go_wp2_with fail
  generalize (.agg #[.int .i64 x.kind, .string x.path, .string x.dst, .string x.src, .int .i64 x.pos, .slice xa x.old.length xc, .slice xb x.new.length xd] : Value) = v19
  go_loopw [3, 6] (fun v3 v6 wr => ∃ (st : List Pr) (x : Pr) (put : Bool) (V : List (Value × Value)) (xa xb : Option Addr) (xc xd : Nat), v6 = .bool put ∧ Hid (RCi w wo.heap.size T st x put wr v3 V xa xb xc xd)) (fun v3 _ _ => slLen v3)
  case atStart => exact ⟨st, x, true, V, xa, xb, xc, xd, rfl, HJ0.out⟩
  case round =>
   clear HJ0 d0 d1 d2 d3 d4 d5 d6
   obtain ⟨st, x, put, V, xa, xb, xc, xd, rfl, HJ⟩ := hrel
   obtain ⟨p3, c3, hv3, hle, -⟩ := HJ.out.own.slice
   cases put with
   | false =>
    clear hle
    have HO := Zy (HJ.out.noPut (L := L) (k := k + 1) (by rw [HT.out]; exact HJ.out.tgt.symm))
    generalize st.reverse.length = ol at hv3
    subst hv3
    have HO := HO
    by_cases h0 : ol = 0
    ·subst h0
     go_wp2_with fail
     exact ⟨⟨k + 1, _, _, by omega, by go_num, HO.out⟩, by simp [intOf]; omega⟩
    ·have i4 : (0 : Int) < (ol : Int) := by omega
     clear h0
     go_wp2_with fail
     exact ⟨⟨k + 1, _, _, by omega, by go_num, HO.out⟩, by simp [intOf]; omega⟩
   | true =>
    cases st with
    | nil =>
     clear hle
     obtain ⟨p7, n7, c7, w7, V7, hr7, hO⟩ := HJ.out.putE (L := L) (k := k + 1) (by rw [HT.out]; exact HJ.out.tgt.symm)
     obtain ⟨x0, x1, x2, x3, x4, x5, x6⟩ := HJ.out.bx.cells
     have HO := Zy hO
     simp only [List.reverse_nil, List.length_nil] at hv3
     subst hv3
     have HR := Zy hr7
     clear hr7 hO
     go_wp2_with (at_builtin
                  first
             | (refine Y0 (vs := .slice p3 0 c3) (vx := .slice (some ⟨wr.heap.size, 0, none⟩) 1 1) rfl _ _ rfl rfl rfl HR.out ?_))
     exact ⟨⟨k + 1, _, _, by omega, by go_num, HO.out⟩, by simp [intOf]; omega⟩
    | cons y st =>
     have hJ := HJ.out
     obtain ⟨m, hm⟩ : ∃ m, st.length = m := ⟨_, rfl⟩
     have hmL : m < (y :: st).reverse.length := by simp; omega
     subst hv3
     obtain ⟨g, rfl, -, hgl⟩ := hJ.own.at0 hmL
     obtain ⟨u, hu, ⟨d0, d1, d2, d3, d4, d5, d6⟩, -, -⟩ := hJ.own.cellsAt hmL
     have hy : (y :: st).reverse[m] = y := by
      rw [List.getElem_reverse]
      simp [hm]
     obtain ⟨l1, l2⟩ := hJ.lie m _ u (List.getElem?_eq_getElem hmL) hu
     rw [hy] at d0 d1 d2 d3 d4 l1 l2
     obtain ⟨u1, u2⟩ := u
     simp only at d5 d6 l1 l2
     obtain ⟨ya, yc, rfl⟩ := l1.as2
     obtain ⟨yb, yd, rfl⟩ := l2.as2
     have hlen1 : (y :: st).reverse.length = m + 1 := by simp [hm]
     obtain ⟨ml, hml⟩ : ∃ ml, m + 1 = ml := ⟨_, rfl⟩
     rw [hlen1, hml] at HJ hle ⊢
     have i10 : (ml : Int) ≤ (c3 : Int) := by omega
     have i11 : (m : Int) ≤ (c3 : Int) := by omega
     clear hle
     obtain ⟨jr, hjr⟩ : ∃ r, jrP y x = r := ⟨_, rfl⟩
     obtain ⟨z, N, B⟩ := jr
     have HJn := Zy (show ∀ w', Fr None' w w' → Calls Tryz.prog 35 #[.agg #[.int .i64 y.kind, .string y.path, .string y.dst, .string y.src, .int .i64 y.pos, .slice ya y.old.length yc, .slice yb y.new.length yd], .agg #[.int .i64 x.kind, .string x.path, .string x.dst, .string x.src, .int .i64 x.pos, .slice xa x.old.length xc, .slice xb x.new.length xd]] w' (fun e w'' => ∃ (po : Option Addr) (co : Nat) (pn : Option Addr) (cn : Nat), e = .returned (.tuple #[.agg #[.int .i64 z.kind, .string z.path, .string z.dst, .string z.src, .int .i64 z.pos, .slice po z.old.length co, .slice pn z.new.length cn], .int .i64 N, .bool B]) ∧ Hid (Zv w (.slice po z.old.length co) z.old ∧ Zv w (.slice pn z.new.length cn) z.new) ∧ Fr None' w' w'') from fun w' f => (tjoin_any y x _ _ _ _ w w' f l1 l2 hJ.so hJ.sn (hJ.small y (List.mem_cons_self ..)) hJ.sx).mono (fun e w'' h => by
      obtain ⟨vb, rfl, hv, f⟩ := h
      rw [hjr] at hv ⊢
      obtain ⟨vo, vn, rfl, s1, s2⟩ := hv
      obtain ⟨po, co, rfl⟩ := s1.as2
      obtain ⟨pn, cn, rfl⟩ := s2.as2
      exact ⟨po, co, pn, cn, rfl, ⟨s1, s2⟩, f⟩))
     have HSz := Zy (show Zs z ∧ Zo z from by have := jr_small (hJ.small y (List.mem_cons_self ..)) hJ.sx; rw [hjr] at this; exact this)
     have HGo := Zy (push_go (show pushR (y :: st) x = T from hJ.tgt))
     rw [hjr] at HGo
     have HS := Zy (show ∀ w', Fr None' wr w' → (w'.cell? ⟨g, m * 7, none⟩ = some (.int .i64 y.kind) ∧ w'.cell? ⟨g, m * 7 + 1, none⟩ = some (.string y.path) ∧ w'.cell? ⟨g, m * 7 + 2, none⟩ = some (.string y.dst) ∧ w'.cell? ⟨g, m * 7 + 3, none⟩ = some (.string y.src) ∧ w'.cell? ⟨g, m * 7 + 4, none⟩ = some (.int .i64 y.pos) ∧ w'.cell? ⟨g, m * 7 + 5, none⟩ = some (.slice ya y.old.length yc) ∧ w'.cell? ⟨g, m * 7 + 6, none⟩ = some (.slice yb y.new.length yd)) ∧ Box w' wo.heap.size (.int .i64 x.kind) (.string x.path) (.string x.dst) (.string x.src) (.int .i64 x.pos) (.slice xa x.old.length xc) (.slice xb x.new.length xd) from fun w' f => ⟨⟨f.keepCell d0 (fun e => e), f.keepCell d1 (fun e => e), f.keepCell d2 (fun e => e), f.keepCell d3 (fun e => e), f.keepCell d4 (fun e => e), f.keepCell d5 (fun e => e), f.keepCell d6 (fun e => e)⟩, hJ.bx.kept f⟩)
     have HFw := Zy hJ.fr
     have Hm := Zy (And.intro hm hml)
     have i5 : (0 : Int) < (ml : Int) := by omega
     have i6 : (ml : Int) - 1 = (m : Int) := by omega
     have i7 : (m : Int) < (ml : Int) := by omega
     have i8 : (0 : Int) ≤ (m : Int) := by omega
     have i9 : (ml : Int) ≤ 201 := by have := hJ.len; simp at this; omega
     have j1 : IntKind.i64.wrap ((ml : Int) - 1) = (m : Int) := by rw [IntKind.wrap_i64]; omega
     have j2 : IntKind.i64.wrap (m : Int) = (m : Int) := by rw [IntKind.wrap_i64]; omega
     clear hJ hm hmL hu hy l1 l2 hlen1 hml hjr d0 d1 d2 d3 d4 d5 d6 hgl
     go_wp2_with fail
     refine (wpIn_wide (n := 3)).1 (region_inv (by kernel_rfl) (by decide +kernel) (Inv8c (fun t7 t8 t9 t26 t27 t28 t29 t30 t31 t32 t33 t34 t35 t36 t37 => #[.slice (some ⟨g0, o0, none⟩) n c, undef, .slice none 0 0, .slice (some ⟨g, 0, none⟩) ml c3, .int .i64 k, .pointer (some ⟨wo.heap.size, 0, none⟩), .bool true, t7, t8, t9, .int .i64 k, .slice (some ⟨g0, o0, none⟩) n c, .int .i64 n, .bool true, u14, u15, .slice (some ⟨g0, o0, none⟩) n c, .int .i64 k, .pointer (some ⟨g0, o0 + k * 7, none⟩), v19, .slice (some ⟨g, 0, none⟩) ml c3, .int .i64 ml, .bool true, .bool true, .bool true, .bool true, t26, t27, t28, t29, t30, t31, t32, t33, t34, t35, t36, t37, u38, u39, u40, u41, u42, u43, u44, u45, u46, u47, u48, u49, u50, u51, u52, undef]) w wr g m ml c3 y x z ya yb xa xb yc yd xc xd N B) ?h0 ?step ?done8)
     case h0 => exact ⟨u7, u8, u9, u26, u27, u28, u29, u30, u31, u32, u33, u34, u35, u36, u37, none, none, 0, 0, 0, rfl, Fr.drew None' wr, (fun h => by cases h), (fun h => by cases h), (fun h => by cases h), (fun h => by cases h), (fun h => by cases h), (fun h => by cases h), (fun h => by cases h), (fun h => by cases h), (fun h => by cases h), (fun h => by cases h), (fun h => by cases h), (fun h => by cases h), (fun h => by cases h), (fun h => by cases h), (fun h => by cases h), (fun h => by cases h), (fun h => by cases h), (fun h => by cases h), (fun h => by cases h)⟩
     case step =>
      rintro S a w' ⟨t7, t8, t9, t26, t27, t28, t29, t30, t31, t32, t33, t34, t35, t36, t37, po, pn, co, cn, b7, rfl, R⟩
      dsimp only
      refine Z3.cons (fun h0 hd => ?s0) (Z3.cons (fun h0 hd => ?s1) (Z3.cons (fun h0 hd => ?s2) (Z3.cons (fun h0 hd => ?s3) (Z3.cons (fun h0 hd => ?s4) (Z3.cons (fun h0 hd => ?s5) (Z3.cons (fun h0 hd => ?s6) (Z3.cons (fun h0 hd => ?s7) (Z3.cons (fun h0 hd => ?s8) (Z3.cons (fun h0 hd => ?s9) (Z3.cons (fun h0 hd => ?s10) (Z3.cons (fun h0 hd => ?s11) (Z3.cons (fun h0 hd => ?s12) (Z3.cons (fun h0 hd => ?s13) (Z3.cons (fun h0 hd => ?s14) (Z3.cons (fun h0 hd => ?s15) (Z3.nil))))))))))))))))
      case s0 =>
       clear hd
       go_simp
       exact ⟨_, _, _, _, _, _, _, _, _, _, _, _, _, _, _, po, pn, co, cn, b7, rfl, R.fr, (fun _ => rfl), R.o1, R.o2, R.o3, R.o4, R.o5, R.o6, R.o7, R.o8, R.o9, R.o10, R.o11, R.o14, R.o15, R.c7, R.c12, R.d8, R.d9, R.d13⟩
      case s1 =>
       clear hd
       go_simp
       exact ⟨_, _, _, _, _, _, _, _, _, _, _, _, _, _, _, po, pn, co, cn, b7, rfl, R.fr, R.o0, (fun _ => rfl), R.o2, R.o3, R.o4, R.o5, R.o6, R.o7, R.o8, R.o9, R.o10, R.o11, R.o14, R.o15, R.c7, R.c12, R.d8, R.d9, R.d13⟩
      case s2 =>
       have h1 : S 1 = true := hd { on := 1, ground := .data } (by simp) rfl
       have e1 := R.o1 h1
       subst e1
       clear hd h1
       go_simp
       exact ⟨_, _, _, _, _, _, _, _, _, _, _, _, _, _, _, po, pn, co, cn, b7, rfl, R.fr, R.o0, (fun _ => rfl), (fun _ => rfl), R.o3, R.o4, R.o5, R.o6, R.o7, R.o8, R.o9, R.o10, R.o11, R.o14, R.o15, R.c7, R.c12, R.d8, R.d9, R.d13⟩
      case s3 =>
       have h2 : S 2 = true := hd { on := 2, ground := .data } (by simp) rfl
       have e2 := R.o2 h2
       subst e2
       clear hd h2
       go_simp
       exact ⟨_, _, _, _, _, _, _, _, _, _, _, _, _, _, _, po, pn, co, cn, b7, rfl, R.fr, R.o0, R.o1, (fun _ => rfl), (fun _ => rfl), R.o4, R.o5, R.o6, R.o7, R.o8, R.o9, R.o10, R.o11, R.o14, R.o15, R.c7, R.c12, R.d8, R.d9, R.d13⟩
      case s4 =>
       have h0 : S 0 = true := hd { on := 0, ground := .data } (by simp) rfl
       have e0 := R.o0 h0
       subst e0
       have h3 : S 3 = true := hd { on := 3, ground := .data } (by simp) rfl
       have e3 := R.o3 h3
       subst e3
       clear hd h0 h3
       go_simp
       exact ⟨_, _, _, _, _, _, _, _, _, _, _, _, _, _, _, po, pn, co, cn, b7, rfl, R.fr, (fun _ => rfl), R.o1, R.o2, (fun _ => rfl), (fun _ => rfl), R.o5, R.o6, R.o7, R.o8, R.o9, R.o10, R.o11, R.o14, R.o15, R.c7, R.c12, R.d8, R.d9, R.d13⟩
      case s5 =>
       have h4 : S 4 = true := hd { on := 4, ground := .data } (by simp) rfl
       have e4 := R.o4 h4
       subst e4
       obtain ⟨q0, q1, q2, q3, q4, q5, q6⟩ := (HS.out w' R.fr).1
       clear hd h4
       go_simp
       exact ⟨_, _, _, _, _, _, _, _, _, _, _, _, _, _, _, po, pn, co, cn, b7, rfl, R.fr, R.o0, R.o1, R.o2, R.o3, (fun _ => rfl), (fun _ => rfl), R.o6, R.o7, R.o8, R.o9, R.o10, R.o11, R.o14, R.o15, R.c7, R.c12, R.d8, R.d9, R.d13⟩
      case s6 =>
       obtain ⟨q0, q1, q2, q3, q4, q5, q6⟩ := (HS.out w' R.fr).2.cells
       clear hd
       go_simp
       exact ⟨_, _, _, _, _, _, _, _, _, _, _, _, _, _, _, po, pn, co, cn, b7, rfl, R.fr, R.o0, R.o1, R.o2, R.o3, R.o4, R.o5, (fun _ => rfl), R.o7, R.o8, R.o9, R.o10, R.o11, R.o14, R.o15, R.c7, R.c12, R.d8, R.d9, R.d13⟩
      case s7 =>
       have e5 := R.o5 (hd { on := 5, ground := .data } (by simp) rfl)
       subst e5
       have e6 := R.o6 (hd { on := 6, ground := .data } (by simp) rfl)
       subst e6
       have h8 : S 8 = false := by
        cases h : S 8 with
        | false => rfl
        | true => exact absurd (R.d8 h) (by rw [h0]; decide)
       have h9 : S 9 = false := by
        cases h : S 9 with
        | false => rfl
        | true => exact absurd (R.d9 h) (by rw [h8]; decide)
       have h13 : S 13 = false := by
        cases h : S 13 with
        | false => rfl
        | true => exact absurd (R.d13 h).1 (by rw [h9]; decide)
       have N8 := Zy (show ¬ S 8 = true by rw [h8]; decide)
       have N9 := Zy (show ¬ S 9 = true by rw [h9]; decide)
       have N13 := Zy (show ¬ S 13 = true by rw [h13]; decide)
       clear hd h8 h9 h13
       go_simp
       refine ⟨trivial, (callsIn_wide.2 (HJn.out w' (HFw.out.then7 R.fr))).mono ?_⟩
       rintro e w'' ⟨po, co, pn, cn, rfl, HZ, f⟩
       exact ⟨_, _, _, _, _, _, _, _, _, _, _, _, _, _, _, po, pn, co, cn, b7, rfl, R.fr.then7 f, R.o0, R.o1, R.o2, R.o3, R.o4, (fun _ => rfl), (fun _ => rfl), (fun _ => rfl), (fun h => absurd h N8.out), (fun h => absurd h N9.out), R.o10, R.o11, R.o14, R.o15, (fun _ => HZ.out), (fun h => ⟨(R.c12 h).1, (R.c12 h).2.1, (fun h' => ((R.c12 h).2.2.1 h').kept f), (fun h' => absurd h' N13.out)⟩), (fun _ => rfl), R.d9, R.d13⟩
      case s8 =>
       have h7 : S 7 = true := hd { on := 7, ground := .data } (by simp) rfl
       have e7 := R.o7 h7
       subst e7
       have h7x := h7
       clear hd
       go_simp
       exact ⟨_, _, _, _, _, _, _, _, _, _, _, _, _, _, _, po, pn, co, cn, b7, rfl, R.fr, R.o0, R.o1, R.o2, R.o3, R.o4, R.o5, R.o6, (fun _ => rfl), (fun _ => rfl), R.o9, R.o10, R.o11, R.o14, R.o15, R.c7, R.c12, (fun _ => h7x), (fun _ => rfl), R.d13⟩
      case s9 =>
       have h8 : S 8 = true := hd { on := 8, ground := .data } (by simp) rfl
       have e8 := R.o8 h8
       subst e8
       have h8x := h8
       clear hd
       go_simp
       exact ⟨_, _, _, _, _, _, _, _, _, _, _, _, _, _, _, po, pn, co, cn, b7, rfl, R.fr, R.o0, R.o1, R.o2, R.o3, R.o4, R.o5, R.o6, R.o7, (fun _ => rfl), (fun _ => rfl), R.o10, R.o11, R.o14, R.o15, R.c7, R.c12, R.d8, (fun _ => h8x), (fun h => ⟨rfl, (R.d13 h).2⟩)⟩
      case s10 =>
       have h8 : S 8 = true := hd { on := 8, ground := .data } (by simp) rfl
       have e8 := R.o8 h8
       subst e8
       clear hd h8
       go_simp
       exact ⟨_, _, _, _, _, _, _, _, _, _, _, _, _, _, _, po, pn, co, cn, b7, rfl, R.fr, R.o0, R.o1, R.o2, R.o3, R.o4, R.o5, R.o6, R.o7, (fun _ => rfl), R.o9, (fun _ => rfl), R.o11, R.o14, R.o15, R.c7, R.c12, R.d8, R.d9, R.d13⟩
      case s11 =>
       have h8 : S 8 = true := hd { on := 8, ground := .data } (by simp) rfl
       have e8 := R.o8 h8
       subst e8
       clear hd h8
       go_simp
       exact ⟨_, _, _, _, _, _, _, _, _, _, _, _, _, _, _, po, pn, co, cn, b7, rfl, R.fr, R.o0, R.o1, R.o2, R.o3, R.o4, R.o5, R.o6, R.o7, (fun _ => rfl), R.o9, R.o10, (fun _ => rfl), R.o14, R.o15, R.c7, R.c12, R.d8, R.d9, R.d13⟩
      case s12 =>
       have h13 : S 13 = false := by
        cases h : S 13 with
        | false => rfl
        | true => exact absurd (R.d13 h).2 (by rw [h0]; decide)
       clear hd
       go_simp
       have f : Fr None' w' (w'.alloc (.cells #[.int .i64 0, .string ⟨#[]⟩, .string ⟨#[]⟩, .string ⟨#[]⟩, .int .i64 0, .slice none 0 0, .slice none 0 0] 43)) := Fr.alloc None' w' _
       exact ⟨_, _, _, _, _, _, _, _, _, _, _, _, _, _, _, po, pn, co, cn, w'.heap.size, rfl, R.fr.then7 f, R.o0, R.o1, R.o2, R.o3, R.o4, R.o5, R.o6, R.o7, R.o8, R.o9, R.o10, R.o11, R.o14, R.o15, R.c7, (fun _ => ⟨rfl, R.fr.size, (fun _ => Box.new w' _ _ _ _ _ _ _), (fun h => absurd (show S 13 = true from h) (by rw [h13]; decide))⟩), R.d8, R.d9, (fun h => ⟨(R.d13 h).1, rfl⟩)⟩
      case s13 =>
       have h12 : S 12 = true := hd { on := 12, ground := .data } (by simp) rfl
       have h9 : S 9 = true := hd { on := 9, ground := .data } (by simp) rfl
       have e9 := R.o9 h9
       subst e9
       obtain ⟨e12, hb7, hz7, _⟩ := R.c12 h12
       subst e12
       have hbx := hz7 h0
       obtain ⟨q0, q1, q2, q3, q4, q5, q6⟩ := hbx.cells
       have qz := hbx.frozen
       have H9 := Zy (And.intro h9 h12)
       have HX := Zy hbx
       clear hd h9 h12 hz7 hbx
       go_simp
       exact ⟨_, _, _, _, _, _, _, _, _, _, _, _, _, _, _, po, pn, co, cn, b7, rfl, R.fr.trans (Fr.setP (M := fun k => k = b7) w' rfl _ _ _ _ _ _ _) (fun i e => Or.inr (by omega)), R.o0, R.o1, R.o2, R.o3, R.o4, R.o5, R.o6, R.o7, R.o8, (fun _ => rfl), R.o10, R.o11, R.o14, R.o15, R.c7, (fun _ => ⟨rfl, hb7, (fun h => by cases h), (fun _ => HX.out.all _ _ _ _ _ _ _)⟩), R.d8, R.d9, (fun _ => H9.out)⟩
      case s14 =>
       have h10 : S 10 = true := hd { on := 10, ground := .data } (by simp) rfl
       have e10 := R.o10 h10
       subst e10
       clear hd h10
       go_simp
       exact ⟨_, _, _, _, _, _, _, _, _, _, _, _, _, _, _, po, pn, co, cn, b7, rfl, R.fr, R.o0, R.o1, R.o2, R.o3, R.o4, R.o5, R.o6, R.o7, R.o8, R.o9, (fun _ => rfl), R.o11, (fun _ => rfl), R.o15, R.c7, R.c12, R.d8, R.d9, R.d13⟩
      case s15 =>
       have h11 : S 11 = true := hd { on := 11, ground := .data } (by simp) rfl
       have e11 := R.o11 h11
       subst e11
       clear hd h11
       go_simp
       exact ⟨_, _, _, _, _, _, _, _, _, _, _, _, _, _, _, po, pn, co, cn, b7, rfl, R.fr, R.o0, R.o1, R.o2, R.o3, R.o4, R.o5, R.o6, R.o7, R.o8, R.o9, R.o10, (fun _ => rfl), R.o14, (fun _ => rfl), R.c7, R.c12, R.d8, R.d9, R.d13⟩
     case done8 =>
      rintro S a w8 ⟨t7, t8, t9, t26, t27, t28, t29, t30, t31, t32, t33, t34, t35, t36, t37, po, pn, co, cn, b7, rfl, R⟩ hall
      dsimp only
      have e8 := R.o14 (hall 14 (by simp))
      have e9 := R.o15 (hall 15 (by simp))
      obtain ⟨e7, hb7, -, hz7⟩ := R.c12 (hall 12 (by simp))
      subst e7 e8 e9
      have HB7 := Zy (hz7 (hall 13 (by simp)))
      have HCz := Zy (R.c7 (hall 7 (by simp)))
      have HJ8 := Zy (HJ.out.kept R.fr)
      have HGr := Zy HGo.out
      clear R hall hz7 hb7 HJ HGo HS HJn HFw
      obtain ⟨x0, x1, x2, x3, x4, x5, x6⟩ := HJ8.out.bx.cells
      rcases HGr.out with ⟨hg, hT⟩ | ⟨hg, hT⟩ | ⟨z', hg, hT⟩
      ·obtain ⟨-, rfl, rfl⟩ : z = Yr ∧ N = 0 ∧ B = false := by simpa using hg
       obtain ⟨p7, n7, c7, w9, V7, hr7, hO⟩ := HJ8.out.putE (L := L) (k := k + 1) (by rw [HT.out]; exact hT)
       have HO := Zy hO
       have HR := Zy hr7
       clear hr7 hO hg hT
       go_wp2_with (at_builtin
                    first
               | (refine Y0 (vs := .slice (some ⟨g, 0, none⟩) ml c3) (vx := .slice (some ⟨w8.heap.size, 0, none⟩) 1 1) rfl _ _ rfl rfl rfl HR.out ?_))
       exact ⟨⟨k + 1, _, _, by omega, by go_num, HO.out⟩, by simp [intOf]; omega⟩
      ·obtain ⟨-, rfl, rfl⟩ : z = Yr ∧ N = 0 ∧ B = true := by simpa using hg
       have HP := Zy (HJ8.out.pop (put' := false) (T' := T) Hm.out.1 HCz.out.1 HCz.out.2 HSz.out (by simp; exact hT.symm))
       obtain ⟨q0, q1, q2, q3, q4, q5, q6⟩ := HB7.out.cells
       have xz := HJ8.out.bx.frozen
       clear hg hT
       go_wp2_with fail
       exact ⟨⟨st, z, false, _, po, pn, co, cn, rfl, HP.out⟩, by simp [slLen]; omega⟩
      ·obtain ⟨rfl, rfl, rfl⟩ : z = z' ∧ N = 1 ∧ B = true := by simpa using hg
       have HP := Zy (HJ8.out.pop (put' := true) (T' := T) Hm.out.1 HCz.out.1 HCz.out.2 HSz.out (by simp; exact hT))
       obtain ⟨q0, q1, q2, q3, q4, q5, q6⟩ := HB7.out.cells
       have xz := HJ8.out.bx.frozen
       clear hg hT
       go_wp2_with fail
       exact ⟨⟨st, z, true, _, po, pn, co, cn, rfl, HP.out⟩, by simp [slLen]; omega⟩
end Go.Proofs.YtbnfjjjdnbcehaaGreatDoor
namespace Go.Proofs.YtbnfjjjdnbcehaaGreatDoor
open Go.RowKit
set_option maxRecDepth 100000
theorem weight_two {x : Pr} (h : x.weight < 4000) : Zs x ∧ Zo x := by
 have hin : ∀ (l : List ByteArray) (y : ByteArray), y ∈ l → y.size ≤ (l.map (·.size)).sum := fun l => by
  induction l with
  | nil => intro y hy; cases hy
  | cons a l ih =>
   intro y hy
   rcases List.mem_cons.1 hy with rfl | hy
   ·simp
   ·have := ih y hy
    simp only [List.map_cons, List.sum_cons]
    omega
 unfold Pr.weight at h
 refine ⟨⟨by omega, by omega, by omega, by omega, by omega⟩, fun y hy => ?_, fun y hy => ?_⟩
 ·have := hin _ y hy; omega
 ·have := hin _ y hy; omega
theorem swap_fit {a b : List Pr} (ha : ∀ p ∈ a, Zs p) (hb : ∀ p ∈ b, Zs p) : (∀ p ∈ (Z1 a b).1, Zs p) ∧ ∀ p ∈ (Z1 a b).2.1, Zs p := by
 cases ht : (Z1 a b).2.2 with
 | true => exact swap_small a b ha hb ht
 | false =>
  rw [swap_no ht]
  exact ⟨fun p hp => (by cases hp), fun p hp => (by cases hp)⟩
theorem last_fit {a : List Pr} {z : Int} (ha : ∀ p ∈ a, Zs p) : (∀ p ∈ (lastQ a z).1, Zs p) ∧ (lastQ a z).1.length ≤ a.length := by
 unfold lastQ
 split
 ·rename_i hz
  split
  ·rename_i ht
   obtain ⟨h1, h2⟩ := past_small _ _ (ha _ (List.getElem_mem _)) (fun y hy => ha y (List.mem_of_mem_drop hy)) ht
   refine ⟨fun p hp => ?_, ?_⟩
   ·rw [List.append_assoc] at hp
    rcases List.mem_append.1 hp with hp | hp
    ·exact ha p (List.mem_of_mem_take hp)
    ·rcases List.mem_append.1 hp with hp | hp
     ·exact h1 p hp
     ·rw [List.mem_singleton.1 hp]; exact h2
   ·have := past_le11 (a.drop (z.toNat + 1)) (a[z.toNat]'(by omega))
    simp only [List.length_append, List.length_take, List.length_singleton, List.length_drop] at this ⊢
    omega
  ·exact ⟨fun p hp => (by cases hp), Nat.zero_le _⟩
 ·exact ⟨fun p hp => (by cases hp), Nat.zero_le _⟩
theorem stells_walk (hC : CommuteAll) (va : Option Addr) (n c : Nat) (xs : List Pr) (vb : Option Addr) (m d : Nat) (ys : List Pr) (z : Int) (W : World) (hm1 : xs.length = n) (hb1 : Zc W va xs) (hd1 : va = none → c = 0) (hs1 : ∀ x ∈ xs, x.old.length ≤ 140737488355328 ∧ x.new.length ≤ 140737488355328) (hr1 : n ≤ c ∧ c ≤ 9223372036854775807) (hm2 : ys.length = m) (hb2 : Zc W vb ys) (hd2 : vb = none → d = 0) (hs2 : ∀ x ∈ ys, x.old.length ≤ 140737488355328 ∧ x.new.length ≤ 140737488355328) (_hr2 : m ≤ d ∧ d ≤ 9223372036854775807) :
  Calls Tryz.prog 3 #[.slice va n c, .slice vb m d, .int .i64 z] W fun e w' => e = .returned (.bool true) ∧ Fr None' W w' := by
 have HG1 := Zy (fun w' (f : Fr None' W w') => pgreats_any va n c xs w' hm1 (hb1.kept f) hs1)
 unfold GreatPs at HG1
 have HL1 := Zy hm1
 have HR1 := Zy (show (∀ w', Fr None' W w' → Zc w' va xs) ∧ (va = none → c = 0) from ⟨fun w' f => hb1.kept f, hd1⟩)
 have HG2 := Zy (fun w' (f : Fr None' W w') => pgreats_any vb m d ys w' hm2 (hb2.kept f) hs2)
 unfold GreatPs at HG2
 have HL2 := Zy hm2
 have HR2 := Zy (show (∀ w', Fr None' W w' → Zc w' vb ys) ∧ (vb = none → d = 0) from ⟨fun w' f => hb2.kept f, hd2⟩)
 have HSL := Zy (fun (A : List Pr) (pa pb : Option Addr) (na ca cb : Nat) w' (la : A.length = na) (PA : Zc w' pa A) (PB : Zc w' pb A) (h : na ≤ 200) (s1 : ∀ x ∈ A, Zs x) => psames_any pa pb na ca cb A w' la PA PB (by omega) (fun x hx => by have h1 := (s1 x hx).old; have h2 := (s1 x hx).new; omega))
 have HF0 := Zy (Fr.refl None' W)
 have HC := Zy hC
 have HRm := Zy hr1
 have q1 := shead_any hC W
 clear hC hm1 hb1 hd1 hs1 hr1 hm2 hb2 hd2 hs2
 go_enter Tryz.func3, Tryz.ntmps3
 go_wp2_with fail
 with_reducible refine q1.mono ?_
 rintro e w1 ⟨rfl, f⟩
 have HF1 := Zy (HF0.out.then7 f)
 clear q1 f HF0
 have q2 := HG1.out w1 HF1.out
 go_wp2_with fail
 with_reducible refine q2.mono ?_
 rintro e w2 ⟨g, rfl, hg, f⟩
 have HF2 := Zy (HF1.out.then7 f)
 have HGf := Zy hg
 clear q2 f hg HF1
 cases g
 case true =>
  go_wp2_with fail
  go_ret
  exact ⟨rfl, HF2.out⟩
 have HW1 := Zy (HGf.out rfl)
 clear HGf
 have q3 := HG2.out w2 HF2.out
 go_wp2_with fail
 with_reducible refine q3.mono ?_
 rintro e w3 ⟨g, rfl, hg, f⟩
 have HF3 := Zy (HF2.out.then7 f)
 have HGf := Zy hg
 clear q3 f hg HF2
 cases g
 case true =>
  go_wp2_with fail
  go_ret
  exact ⟨rfl, HF3.out⟩
 have HW2 := Zy (HGf.out rfl)
 clear HGf
 have Hs1 := Zy (show ∀ x ∈ xs, Zs x ∧ Zo x from fun x hx => weight_two (HW1.out.2 x hx))
 have Hs2 := Zy (show ∀ x ∈ ys, Zs x ∧ Zo x from fun x hx => weight_two (HW2.out.2 x hx))
 have H60 := Zy (show n ≤ 60 ∧ m ≤ 60 from ⟨HW1.out.1, HW2.out.1⟩)
 have q4 := swap_any HC.out va vb n c m d xs ys w3 HL1.out HL2.out (HR1.out.1 w3 HF3.out) (HR2.out.1 w3 HF3.out) HR2.out.2 (by have := H60.out; omega) (by have := H60.out; omega) (fun x hx => (Hs1.out x hx).1) (fun x hx => (Hs2.out x hx).1)
 have HQ5 := Zy (fun w' (f : Fr None' W w') => tswap_any va vb n c m d xs ys w' HL1.out HL2.out (HR1.out.1 w' f) (HR2.out.1 w' f) HR2.out.2 (by have := H60.out; omega) (by have := H60.out; omega) Hs1.out Hs2.out)
 have HQ6 := Zy (fun w' (f : Fr None' W w') => last_any HC.out va n c xs z w' HL1.out (HR1.out.1 w' f) HR1.out.2 HRm.out.1 HRm.out.2 (by have := H60.out; omega) (fun x hx => (Hs1.out x hx).1))
 have HQ7 := Zy (fun w' (f : Fr None' W w') => tlast_any va n c xs z w' HL1.out (HR1.out.1 w' f) HR1.out.2 HRm.out.1 HRm.out.2 (by have := H60.out; omega) Hs1.out)
 have HQ8 := Zy (fun w' (f : Fr None' W w') => coalesce_any va n c xs w' HL1.out (HR1.out.1 w' f) HR1.out.2 HRm.out.1 HRm.out.2 (by have := H60.out; omega) (fun x hx => (Hs1.out x hx).1))
 have HQ9 := Zy (fun w' (f : Fr None' W w') => tcoal_any va n c xs w' HL1.out (HR1.out.1 w' f) (by have := H60.out; omega) Hs1.out)
 have HFit := Zy (swap_fit (fun x hx => (Hs1.out x hx).1) (fun x hx => (Hs2.out x hx).1))
 have HLe := Zy (And.intro (swap_len xs ys) (swap_len2 xs ys))
 have HFl := Zy (last_fit (z := z) (fun x hx => (Hs1.out x hx).1))
 generalize Z1 xs ys = sw at q4 HQ5 HFit HLe
 generalize lastQ xs z = la at HQ6 HQ7 HFl
 obtain ⟨X, Y, t1⟩ := sw
 obtain ⟨Z, t2⟩ := la
 simp only at q4 HQ5 HFit HLe HQ6 HQ7 HFl
 clear HG1 HG2 HW1 HW2
 go_wp2_with fail
 with_reducible refine q4.mono ?_
 rintro e w4 ⟨vx, vy, rfl, hvx, hvy, f⟩
 obtain ⟨px, cx, rfl, -, PX⟩ := hvx
 obtain ⟨py, cy, rfl, -, PY⟩ := hvy
 obtain ⟨nx, hnx⟩ : ∃ nx, X.length = nx := ⟨_, rfl⟩
 obtain ⟨ny, hny⟩ : ∃ ny, Y.length = ny := ⟨_, rfl⟩
 have HNx := Zy (show (X.length = nx ∧ nx ≤ 200) ∧ Y.length = ny ∧ ny ≤ 200 from ⟨⟨hnx, by have := HLe.out.1; have := HL2.out; have := H60.out; omega⟩, hny, by have := HLe.out.2; have := HL1.out; have := H60.out; omega⟩)
 rw [hnx, hny]
 have HF4 := Zy (HF3.out.then7 f)
 have HX := Zy (And.intro PX PY)
 have q5 := HQ5.out w4 HF4.out
 clear q4 f PX PY hnx hny HF3 HQ5 HLe
 go_wp2_with fail
 with_reducible refine q5.mono ?_
 rintro e w5 ⟨vu, vv, rfl, hvu, hvv, f⟩
 obtain ⟨pu, cu, rfl, -, PU⟩ := hvu
 obtain ⟨pv, cv, rfl, -, PV⟩ := hvv
 rw [HNx.out.1.1, HNx.out.2.1]
 have HF5 := Zy (HF4.out.then7 f)
 have HX5 := Zy (show (Zc w5 px X ∧ Zc w5 py Y) ∧ Zc w5 pu X ∧ Zc w5 pv Y from ⟨⟨HX.out.1.kept f, HX.out.2.kept f⟩, PU, PV⟩)
 have q6 := HQ6.out w5 HF5.out
 clear q5 f PU PV HF4 HX HQ6
 go_wp2_with fail
 with_reducible refine q6.mono ?_
 rintro e w6 ⟨vl, rfl, hvl, f⟩
 obtain ⟨pl, cl, rfl, -, PL⟩ := hvl
 obtain ⟨nl, hnl⟩ : ∃ nl, Z.length = nl := ⟨_, rfl⟩
 have HNl := Zy (show Z.length = nl ∧ nl ≤ 200 from ⟨hnl, by have := HFl.out.2; have := HL1.out; have := H60.out; omega⟩)
 rw [hnl]
 have HF6 := Zy (HF5.out.then7 f)
 have HX6 := Zy (show ((Zc w6 px X ∧ Zc w6 py Y) ∧ Zc w6 pu X ∧ Zc w6 pv Y) ∧ Zc w6 pl Z from ⟨⟨⟨HX5.out.1.1.kept f, HX5.out.1.2.kept f⟩, HX5.out.2.1.kept f, HX5.out.2.2.kept f⟩, PL⟩)
 have q7 := HQ7.out w6 HF6.out
 clear q6 f PL hnl HF5 HX5 HQ7
 go_wp2_with fail
 with_reducible refine q7.mono ?_
 rintro e w7 ⟨vk, rfl, hvk, f⟩
 obtain ⟨pk, ck, rfl, -, PK⟩ := hvk
 rw [HNl.out.1]
 have HF7 := Zy (HF6.out.then7 f)
 have HX7 := Zy (show ((Zc w7 px X ∧ Zc w7 py Y) ∧ Zc w7 pu X ∧ Zc w7 pv Y) ∧ Zc w7 pl Z ∧ Zc w7 pk Z from ⟨⟨⟨HX6.out.1.1.1.kept f, HX6.out.1.1.2.kept f⟩, HX6.out.1.2.1.kept f, HX6.out.1.2.2.kept f⟩, HX6.out.2.kept f, PK⟩)
 have q8 := HSL.out X px pu nx cx cu w7 HNx.out.1.1 HX7.out.1.1.1 HX7.out.1.2.1 HNx.out.1.2 HFit.out.1
 clear q7 f PK HF6 HX6
 go_wp2_with fail
 with_reducible refine q8.mono ?_
 rintro e w8 ⟨rfl, f⟩
 have HF8 := Zy (HF7.out.then7 f)
 have HX8 := Zy (show (Zc w8 py Y ∧ Zc w8 pv Y) ∧ Zc w8 pl Z ∧ Zc w8 pk Z from ⟨⟨HX7.out.1.1.2.kept f, HX7.out.1.2.2.kept f⟩, HX7.out.2.1.kept f, HX7.out.2.2.kept f⟩)
 have q9 := HSL.out Y py pv ny cy cv w8 HNx.out.2.1 HX8.out.1.1 HX8.out.1.2 HNx.out.2.2 HFit.out.2
 clear q8 f HF7 HX7
 go_wp2_with fail
 with_reducible refine q9.mono ?_
 rintro e w9 ⟨rfl, f⟩
 have HF9 := Zy (HF8.out.then7 f)
 have q10 := HSL.out Z pl pk nl cl ck w9 HNl.out.1 (HX8.out.2.1.kept f) (HX8.out.2.2.kept f) HNl.out.2 HFl.out.1
 clear q9 f HF8 HX8
 go_wp2_with fail
 with_reducible refine q10.mono ?_
 rintro e w10 ⟨rfl, f⟩
 have HF10 := Zy (HF9.out.then7 f)
 have q11 := HQ8.out w10 HF10.out
 clear q10 f HF9 HQ8
 go_wp2_with fail
 with_reducible refine q11.mono ?_
 rintro e w11 ⟨p1, n1, c1, rfl, H1⟩
 obtain ⟨V1, O1, hn1, f, hsc⟩ := H1.out
 have HSc := Zy hsc
 obtain ⟨p1', c1', e1, -, -, P1⟩ := O1.slice
 obtain ⟨rfl, -, rfl⟩ : p1 = p1' ∧ n1 = (coalP xs).length ∧ c1 = c1' := by simpa using e1
 have HN1 := Zy hn1
 have HP1 := Zy P1
 have HF11 := Zy (HF10.out.then7 f)
 have q12 := HQ9.out w11 HF11.out
 clear q11 H1 O1 hn1 f e1 P1 HF10 HQ9 hsc
 go_wp2_with fail
 with_reducible refine q12.mono ?_
 rintro e w12 ⟨v2, rfl, hv2, f⟩
 obtain ⟨p2, c2, rfl, -, P2⟩ := hv2
 rw [HN1.out]
 have HF12 := Zy (HF11.out.then7 f)
 have q13 := HSL.out (coalP xs) p1 p2 n1 c1 c2 w12 HN1.out (HP1.out.kept f) P2 (by have h1 := coal_length xs []; have h2 := HN1.out; unfold coalP at h2; rw [List.length_reverse] at h2; simp at h1; have := HL1.out; have := H60.out; omega) HSc.out
 clear q12 f P2 HF11 HP1
 go_wp2_with fail
 with_reducible refine q13.mono ?_
 rintro e w13 ⟨rfl, f⟩
 have HF13 := Zy (HF12.out.then7 f)
 clear q13 f HF12
 go_wp2_with fail
 go_ret
 exact ⟨rfl, HF13.out⟩
end Go.Proofs.YtbnfjjjdnbcehaaGreatDoor
