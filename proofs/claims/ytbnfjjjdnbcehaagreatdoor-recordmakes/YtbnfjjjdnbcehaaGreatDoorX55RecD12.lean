/- What is proved here: contracts for RecordMakes. Conditions: as named. -/
import Derived.Test.YtbnfjjjdnbcehaaGreatDoorX30RecC12
import Derived.Test.YtbnfjjjdnbcehaaGreatDoorX50FThru
import Derived.Test.YtbnfjjjdnbcehaaGreatDoorXWithL8
import Derived.Test.YtbnfjjjdnbcehaaGreatDoorX28RecM12
import Derived.Test.YtbnfjjjdnbcehaaGreatDoorXLRep
import Derived.Test.YtbnfjjjdnbcehaaGreatDoorX24LIter
import Derived.Deep.RegionHeld3
import Derived.Test.YtbnfjjjdnbcehaaGreatDoorX9Plain8
import Derived.Test.YtbnfjjjdnbcehaaGreatDoorXRule8
import Derived.Test.YtbnfjjjdnbcehaaGreatDoorX11RAll9
import Derived.Test.YtbnfjjjdnbcehaaGreatDoorX27Of8
import Derived.Test.YtbnfjjjdnbcehaaGreatDoorX25RightT
import Derived.Test.YtbnfjjjdnbcehaaGreatDoorX26RFindE
set_option maxHeartbeats 16000000
namespace Go.Proofs.YtbnfjjjdnbcehaaGreatDoor
open Go.RowKit
set_option maxRecDepth 100000
theorem Zy.low {w : World} {va : Option Addr} {n c : Nat} {l : List ByteArray} (h : Zy w (.slice va n c) l) (hl : l ≠ []) : ∀ x, va = some x → x.block < w.heap.size := fun x e => h.lt hl (by rw [e]; rfl)
theorem diff_all12 : DiffAll12 := fun va vb ca cb a b w ha hb la lb za zb => by
 have la1 := ha.low
 have lb1 := hb.low
 obtain ⟨pa, c1, e1, h1, h2, h3⟩ := ha
 obtain ⟨pb, c2, e2, k1, k2, k3⟩ := hb
 cases e1
 cases e2
 refine (Diff.diff_far va vb ca cb a.length b.length a b w rfl rfl h3 k3 (by omega) (by omega) h2 k2 h1 k1 za zb la1 lb1).mono ?_
 rintro e w' ⟨v, rfl, ⟨pv, c, hv, hn, hc⟩, f⟩
 refine ⟨v, rfl, ⟨pv, c, hv, fun k h hk => ?_⟩, ⟨f.os, f.tape, f.output, f.size, fun i hi hm => f.block i hi hm⟩⟩
 obtain ⟨g, o, vo, vn, e, d0, d1, d2, s1, s2, hb⟩ := hc k h hk
 exact ⟨g, o, vo, vn, e, d0, d1, d2, s1, s2, fun j hj => hb j hj⟩
theorem indexS_any (va : Option Addr) (n c : Nat) (l : List ByteArray) (t : ByteArray) (w : World) (hl : l.length = n) (h : Lines.Row w va l) (hn : n ≤ 1000000000) :
  Calls Tryz.prog 184 #[.slice va n c, .string t] w fun e w' => ∃ z : Int, e = .returned (.int .i64 z) ∧ (0 ≤ z ↔ t ∈ l) ∧ w = w' := by
 have HL := Zz hl
 have HR := Zz h
 have i1 : (n : Int) ≤ 1000000000 := by omega
 clear hl h
 go_enter Tryz.func184, Tryz.ntmps184
 go_wp2_with fail
 go_loopw [8] (fun vi wr => ∃ k : Nat, k ≤ n ∧ vi = .int .i64 k ∧ wr = w ∧ Hid (∀ j (hj : j < l.length), j < k → ¬ l[j] = t)) (fun vi _ => n - (intOf vi).toNat)
 case atStart => exact ⟨0, Nat.zero_le _, rfl, rfl, fun j _ h => by omega⟩
 case round =>
  obtain ⟨k, hk, rfl, hw, HT⟩ := hrel
  subst hw
  by_cases hlt : k < n
  ·have hkL : k < l.length := by rw [HL.out]; exact hlt
   obtain ⟨g, o, rfl, d0⟩ := HR.out k l[k] (List.getElem?_eq_getElem hkL)
   have HY := Zz (show l[k] = t → t ∈ l from fun e => e ▸ List.getElem_mem hkL)
   have HN := Zz (show ¬ l[k] = t → ∀ j (hj : j < l.length), j < k + 1 → ¬ l[j] = t from fun h j hj hlt => by
    by_cases e : j = k
    ·subst e; exact h
    ·exact HT.out j hj (by omega))
   generalize l[k] = y at d0 HY HN
   have i2 : (k : Int) < (n : Int) := by omega
   have i3 : (0 : Int) ≤ (k : Int) := by omega
   by_cases e : t = y
   ·subst e
    have HM := Zz (HY.out rfl)
    clear HY HN HT
    go_wp2_with fail
    go_ret
    exact ⟨k, rfl, ⟨fun _ => HM.out, fun _ => i3⟩, rfl⟩
   ·obtain ⟨s1, s2⟩ := str_no7 e
    have HN2 := Zz (HN.out (fun h => e h.symm))
    clear HY HN HT e
    go_wp2_with fail
    exact ⟨⟨k + 1, by omega, by go_num, trivial, HN2.out⟩, by simp [intOf]; omega⟩
  ·have e : k = n := by omega
   subst e
   have HM := Zz (show ¬ t ∈ l from fun hm => by
    obtain ⟨j, hj, e⟩ := List.getElem_of_mem hm
    exact HT.out j hj (by rw [← HL.out]; exact hj) e)
   clear HT
   go_wp2_with fail
   go_ret
   exact ⟨-1, rfl, ⟨fun h => absurd h (by decide), fun h => absurd h HM.out⟩, rfl⟩
theorem containsS_any (va : Option Addr) (n c : Nat) (l : List ByteArray) (t : ByteArray) (w : World) (hl : l.length = n) (h : Lines.Row w va l) (hn : n ≤ 1000000000) :
  Calls Tryz.prog 144 #[.slice va n c, .string t] w fun e w' => ∃ b : Bool, e = .returned (.bool b) ∧ (b = true ↔ t ∈ l) ∧ w = w' := by
 have cI := indexS_any va n c l t w hl h hn
 clear hl h hn
 go_enter Tryz.func144, Tryz.ntmps144
 go_wp2_with fail
 refine cI.mono ?_
 rintro e w2 ⟨z, rfl, hz, rfl⟩
 clear cI
 go_wp2_with fail
 go_ret
 refine ⟨decide (0 ≤ z), ?_, ?_, rfl⟩
 ·rfl
 ·rw [decide_eq_true_eq]; exact hz
theorem tok_in {l : List ByteArray} {s : List UInt8} (h : Lines.bs l = Lines.pieces s) (t : ByteArray) : (t ∈ l) ↔ bl t ∈ Lines.pieces s := by
 rw [← h]
 unfold Lines.bs
 constructor
 ·intro e; exact List.mem_map.2 ⟨t, e, rfl⟩
 ·intro e
  obtain ⟨y, hy, e⟩ := List.mem_map.1 e
  rw [← bl_inj (a := y) (b := t) e]
  exact hy
theorem Lines.pieces_count (s : Lines.Bs) : (Lines.pieces s).length ≤ s.length := by
 have h1 := (Lines.pieces_all s).1
 have h2 := (Lines.pieces_all s).2
 have h3 := Lines.good_some h1
 generalize Lines.pieces s = L at *
 rw [← h2]
 clear h1 h2
 induction L with
 | nil => exact Nat.zero_le _
 | cons p L ih =>
  have := ih (fun q hq => h3 q (List.mem_cons_of_mem _ hq))
  have hp := h3 p (List.mem_cons_self ..)
  have : 0 < p.length := List.length_pos_iff.2 hp
  simp only [List.length_cons, List.flatten_cons, List.length_append]
  omega
theorem drew8 {w W : World} (h : Fr None' w W) : Fr None' w W.drew := h.then7 (Fr.drew None' _)
def repB (f t y : ByteArray) : ByteArray := ⟨(Lines.replace (bl y) (bl f) (bl t)).toArray⟩
theorem tokens_none {l : List ByteArray} {f t y : ByteArray} (hy : y ∈ l) (h : bl t ∈ Lines.pieces (bl y)) : tokensL l f t = none := by
 unfold tokensL
 rw [if_pos]
 exact List.any_eq_true.2 ⟨y, hy, by simpa using h⟩
theorem tokens_all {l : List ByteArray} {f t : ByteArray} (h : ∀ j (hj : j < l.length), bl t ∉ Lines.pieces (bl l[j])) : tokensL l f t = some (l.map (repB f t)) := by
 unfold tokensL
 rw [if_neg]
 ·rfl
 ·intro e
  obtain ⟨y, hy, e⟩ := List.any_eq_true.1 e
  obtain ⟨j, hj, rfl⟩ := List.getElem_of_mem hy
  exact h j hj (by simpa using e)
theorem tokens8_any (s : ByteArray) (w : World) (hs : (s.size : Int) < 1000000000) : Calls Tryz.prog 145 #[.string s] w fun e w' => ∃ (l : List ByteArray) (va : Option Addr) (n c : Nat), e = .returned (.slice va n c) ∧ Hid (Lines.bs l = Lines.pieces (bl s) ∧ l.length = n ∧ Lines.Row w' va l) ∧ Fr None' w w' :=
 (Lines.tokens_any s w hs).mono fun e w' ⟨v, he, hm⟩ => by
  obtain ⟨l, h1, va, c, rfl, _, h2⟩ := hm.is
  exact ⟨l, va, l.length, c, he, ⟨h1, rfl, h2⟩, ofLN hm.fr⟩
theorem replace8_any (y f t : ByteArray) (w : World) (h1 : (y.size : Int) < 1000000000) (h2 : f.size < 900000) (h3 : y.size + y.size * t.size ≤ 10000000000000) : Calls Tryz.prog 146 #[.string y, .string f, .string t] w fun e w' => e = .returned (.string (repB f t y)) ∧ Fr None' w w' :=
 (Lines.replace_any y f t w h1 (by omega) h3).mono fun _ _ ⟨a, b⟩ => ⟨a, ofLN b⟩
theorem row1_new (w : World) (z : ByteArray) : Lines.Row (w.alloc (.cells #[.string z] 9)) (some ⟨w.heap.size, 0, none⟩) [z] := fun j x hj => by
 have hj0 : j = 0 := by have := (List.getElem?_eq_some_iff.1 hj).1; simpa using this
 subst hj0
 cases hj
 exact ⟨w.heap.size, 0, rfl, by rw [World.cell?, heap_alloc_new]; rfl⟩
theorem row8 {w : World} {va : Option Addr} {n : Nat} {l : List ByteArray} {s : List UInt8} (h : Lines.bs l = Lines.pieces s ∧ l.length = n ∧ Lines.Row w va l) : Lines.bs l = Lines.pieces s ∧ l.length = n ∧ Lines.Row w va l := h
theorem withToken_any (x : En) (p : Pr) (ua : Option Addr) (um uc : Nat) (vo vn : Value) (w : World) (hx : Zy w (.slice ua um uc) x.lines) (ho : Zy w vo p.old) (hn : Zy w vn p.new) (hk : p.kind = 8) (l1 : x.lines.length ≤ 900000) (l2 : ∀ y ∈ x.lines, (y.size : Int) < 1000000000 ∧ y.size + y.size * p.dst.size ≤ 10000000000000) (l3 : p.src.size < 900000) :
  Calls Tryz.prog 111 #[.agg #[.string x.path, .int .i64 x.kind, .slice ua um uc, .string x.data], .agg #[.int .i64 p.kind, .string p.path, .string p.dst, .string p.src, .int .i64 p.pos, vo, vn]] w fun e w' => WithPost (Zb x p) w e w' := by
 have HW := Zz (show Zb x p = (tokensL x.lines p.src p.dst).map (fun l => { x with lines := l }) from by unfold Zb; rw [if_neg (by omega), if_pos hk])
 rw [HW.out]
 clear HW hk
 have HX := Zz hx
 obtain ⟨P, K, l, D⟩ := x
 obtain ⟨K2, P2, T2, F2, A2, lO, lN⟩ := p
 simp only at hx ho hn HX l1 l2 l3 ⊢
 obtain ⟨pa, ca, rfl, _⟩ := ho
 obtain ⟨pb, cb, rfl, _⟩ := hn
 obtain ⟨va0, c0, e0, _, _, hrow⟩ := hx
 cases e0
 have HR := Zz hrow
 have HL2 := Zz l2
 have i1 : (l.length : Int) ≤ 900000 := by omega
 have HB3 := Zz l3
 clear hrow l2 l3
 generalize lO.length = no
 generalize lN.length = nn
 obtain ⟨w1, hw1⟩ : ∃ w1, w.alloc (.cells #[.string P, .int .i64 K, .slice ua l.length uc, .string D] 45) = w1 := ⟨_, rfl⟩
 obtain ⟨w2, hw2⟩ : ∃ w2, w1.alloc (.cells #[.int .i64 K2, .string P2, .string T2, .string F2, .int .i64 A2, .slice pa no ca, .slice pb nn cb] 43) = w2 := ⟨_, rfl⟩
 obtain ⟨w3, hw3⟩ : ∃ w3, w2.alloc (.cells #[.string ⟨#[]⟩, .int .i64 0, .slice none 0 0, .string ⟨#[]⟩] 45) = w3 := ⟨_, rfl⟩
 have F1 : Fr None' w w1 := hw1 ▸ Fr.alloc None' w _
 have F2' : Fr None' w1 w2 := hw2 ▸ Fr.alloc None' w1 _
 have F3 : Fr None' w2 w3 := hw3 ▸ Fr.alloc None' w2 _
 have s1 : w1.heap.size = w.heap.size + 1 := by rw [← hw1]; simp
 have s2 : w2.heap.size = w1.heap.size + 1 := by rw [← hw2]; simp
 have s3 : w3.heap.size = w2.heap.size + 1 := by rw [← hw3]; simp
 have BX : Yu w3 w.heap.size (.string P) (.int .i64 K) (.slice ua l.length uc) (.string D) := ((hw1 ▸ Yu.new w _ _ _ _ : Yu w1 _ _ _ _ _).kept F2').kept F3
 have BP : Box w3 w1.heap.size (.int .i64 K2) (.string P2) (.string T2) (.string F2) (.int .i64 A2) (.slice pa no ca) (.slice pb nn cb) := (hw2 ▸ Box.new w1 _ _ _ _ _ _ _ : Box w2 _ _ _ _ _ _ _ _).kept F3
 have BR : Yu w3 w2.heap.size (.string ⟨#[]⟩) (.int .i64 0) (.slice none 0 0) (.string ⟨#[]⟩) := hw3 ▸ Yu.new w2 _ _ _ _
 have HF := Zz ((F1.then7 F2').then7 F3)
 have HS := Zz (And.intro s1 (And.intro s2 s3))
 have HBX := Zz BX
 have HBP := Zz BP
 have HBR := Zz BR
 obtain ⟨x0, x1, x2, x3⟩ := BX.cells
 clear BX BP BR F1 F2' F3 s1 s2 s3
 go_enter Tryz.func111, Tryz.ntmps111
 go_wp2_with fail
 clear x0 x1 x2 x3
 go_loopw [6, 12] (fun v vi wr => ∃ (k : Nat), k ≤ l.length ∧ vi = .int .i64 k ∧ Hid (Lines.OwnS w3 wr v ((l.take k).map (repB F2 T2))) ∧ Hid (Fr None' w3 wr) ∧ Hid (∀ j (hj : j < l.length), j < k → bl T2 ∉ Lines.pieces (bl l[j]))) (fun _ vi _ => l.length - (intOf vi).toNat)
 case atStart => exact ⟨0, Nat.zero_le _, rfl, Lines.OwnS.nil _ _, Fr.refl _ _, fun j _ h => by omega⟩
 case round =>
  obtain ⟨k, hk, rfl, HO, HFr, HT⟩ := hrel
  obtain ⟨va, vc, hv, _⟩ := HO.out.slice
  subst hv
  by_cases hlt : k < l.length
  ·obtain ⟨g, o, rfl, d0⟩ := HR.out k l[k] (List.getElem?_eq_getElem hlt)
   replace d0 := (HF.out.then7 HFr.out).keepCell d0 (fun e => e)
   have hm := List.getElem_mem hlt
   obtain ⟨z1, z2⟩ := HL2.out _ hm
   have HY := Zz (show bl T2 ∈ Lines.pieces (bl l[k]) → tokensL l F2 T2 = none from fun e => tokens_none hm e)
   have HN := Zz (show bl T2 ∉ Lines.pieces (bl l[k]) → ∀ j (hj : j < l.length), j < k + 1 → bl T2 ∉ Lines.pieces (bl l[j]) from fun h j hj hlt => by
    by_cases e : j = k
    ·subst e; exact h
    ·exact HT.out j hj (by omega))
   have HK := Zz (show (l.take (k + 1)).map (repB F2 T2) = (l.take k).map (repB F2 T2) ++ [repB F2 T2 l[k]] from by
    rw [List.take_succ_eq_append_getElem hlt, List.map_append]
    rfl)
   have HR3 := Zz (fun w' => replace8_any l[k] F2 T2 w' z1 HB3.out z2)
   generalize l[k] = y at d0 z1 HY HN HK HR3
   clear z2 hm
   have i2 : (k : Int) < (l.length : Int) := by omega
   have i3 : (0 : Int) ≤ (k : Int) := by omega
   have hmk : ((l.take k).map (repB F2 T2)).length = k := by rw [List.length_map, List.length_take]; omega
   rw [hmk] at HO
   rw [hmk]
   have HQ := Zz (fun w' => tokens8_any y w' z1)
   have HC := Zz (fun w' l' va n c (h : Lines.bs l' = Lines.pieces (bl y) ∧ l'.length = n ∧ Lines.Row w' va l') => containsS_any va n c l' T2 w' h.2.1 h.2.2 (by
    have h1 := Lines.pieces_count (bl y)
    have h2 := congrArg List.length h.1
    have h3 : (bl y).length = y.size := Array.length_toList
    unfold Lines.bs at h2
    rw [List.length_map] at h2
    have := h.2.1
    omega))
   have HS5 := Zz (show ∀ w', Fr None' wr w' → Fr None' wr w' ∧ w'.cell? ⟨w1.heap.size, 2, none⟩ = some (.string T2) from fun w' f => ⟨f, (HBP.out.kept (HFr.out.then7 f)).cells.2.2.1⟩)
   clear z1 hmk HT
   go_wp2_with fail
   have frr := Fr.refl None' wr
   go_region_held3 (fun w' => Fr None' wr w' ∧ w'.cell? ⟨w1.heap.size, 2, none⟩ = some (.string T2))
    (exact HS5.out _ (by (repeat (first | with_reducible assumption | with_reducible refine drew8 ?_))))
    (first
     | (go_at_call 145; with_reducible (refine (HQ.out _).mono ?_); rintro e w4 ⟨l', va4, n4, c4, rfl, HM, f4⟩; have g4 := Fr.then7 (show Fr None' wr _ by (repeat (first | with_reducible assumption | with_reducible refine drew8 ?_))) f4)
     | (go_at_call 144; with_reducible (refine (HC.out _ l' va4 n4 c4 (row8 (Hid.out HM))).mono ?_); rintro e w5 ⟨b5, rfl, hb5, rfl⟩)
     | fail)
   all_goals
    have HF4 := Zz (HFr.out.then7 g4)
    have HM2 := Zz (hb5.trans (tok_in (Hid.out HM).1 T2))
    have HO4 := Zz (HO.out.fr (toLN g4))
    clear hb5 HM f4 g4 frr HS5 HQ HC HO d0
    cases b5 with
    | true =>
     have HE := Zz (HY.out (HM2.out.1 rfl))
     clear HY HN HK HR3 HM2 HO4
     obtain ⟨x0, x1, x2, x3⟩ := (HBX.out.kept HF4.out).cells
     have BR4 := HBR.out.kept HF4.out
     obtain ⟨r0, r1, r2, r3⟩ := BR4.cells
     have rz := BR4.frozen
     have HBR4 := Zz BR4
     clear BR4
     go_wp2_with fail
     obtain ⟨hld, hfs, hfr⟩ := fin_entry (HF.out.then7 HF4.out) HBR4.out (by have := HS.out; omega) (.string P) (.int .i64 K) (.slice (some ⟨g, o, none⟩) l.length uc) (.string D)
     refine bodyPost_ret (v := .tuple #[.agg #[.string P, .int .i64 K, .slice (some ⟨g, o, none⟩) l.length uc, .string D], .bool false]) (by rw [results_cell_tmp rfl]; simp [asAddr, Result.andThen, hld]) rfl ?_
     rw [HE.out]
     exact ⟨P, K, some ⟨g, o, none⟩, l.length, uc, D, false, rfl, rfl, fun y hy => (by cases hy), hfr⟩
    | false =>
     have HN2 := Zz (HN.out (fun e => by have := HM2.out.2 e; cases this))
     obtain ⟨q0, q1, q2, q3, q4, q5, q6⟩ := (HBP.out.kept HF4.out).cells
     have cR := HR3.out w4
     clear HY HN HR3 HM2
     go_wp2_with fail
     with_reducible refine cR.mono ?_
     rintro e w5 ⟨rfl, f5⟩
     have HF5 := Zz (HF4.out.then7 f5)
     have HO5 := Zz (HO4.out.fr (toLN f5))
     clear cR q0 q1 q2 q3 q4 q5 q6 f5 HO4 HF4
     have HRW := Zz (row1_new w5 (repB F2 T2 y))
     generalize repB F2 T2 y = z at *
     go_wp2_with (first
      | (at_builtin; refine Lines.append_str rfl _ _ rfl rfl (HO5.out.alloc _) (toLN (HF5.out.then7 (Fr.alloc None' _ _))) (m := [z]) rfl HRW.out (fun e => by cases e) (by simp; omega) ?_; intro v6 w6 O6 F6 f6)
      | go_in)
     refine ⟨⟨k + 1, by omega, by go_num, ?_, ofLN F6, HN2.out⟩, by simp [intOf]; omega⟩
     show Lines.OwnS _ _ _ _
     rw [HK.out]
     exact O6
  ·have e : k = l.length := by omega
   subst e
   have HE := Zz (tokens_all (f := F2) (t := T2) (l := l) (fun j hj => HT.out j hj hj))
   have HO2 := Zz (show Lines.OwnS w3 wr (.slice va (l.map (repB F2 T2)).length vc) (l.map (repB F2 T2)) from by
    have h := HO.out
    rw [List.take_length] at h
    exact h)
   rw [List.take_length]
   obtain ⟨x0, x1, x2, x3⟩ := (HBX.out.kept HFr.out).cells
   have xz := (HBX.out.kept HFr.out).frozen
   obtain ⟨w5, hw5⟩ : ∃ w5, wr.setCell ⟨w.heap.size, 2, none⟩ (.slice va (l.map (repB F2 T2)).length vc) = w5 := ⟨_, rfl⟩
   have F5 : Fr (fun k => k = w.heap.size) wr w5 := hw5 ▸ Fr.setCell (M := fun k => k = w.heap.size) (a := ⟨w.heap.size, 2, none⟩) wr rfl _
   have BX5 : Yu w5 w.heap.size (.string P) (.int .i64 K) (.slice va (l.map (repB F2 T2)).length vc) (.string D) := hw5 ▸ (HBX.out.kept HFr.out).set2 _
   have BR5 : Yu w5 w2.heap.size (.string ⟨#[]⟩) (.int .i64 0) (.slice none 0 0) (.string ⟨#[]⟩) := (HBR.out.kept HFr.out).fr F5 (fun e => by have e : w2.heap.size = w.heap.size := e; have := HS.out; omega)
   obtain ⟨e0, e1, e2, e3⟩ := BX5.cells
   obtain ⟨r0, r1, r2, r3⟩ := BR5.cells
   have rz := BR5.frozen
   have HBR5 := Zz BR5
   have HF5 := Zz ((HF.out.then7 HFr.out).trans F5 (fun i e => Or.inr (by have e : i = w.heap.size := e; omega)))
   have HN := Zz (show ∀ W, Fr (fun k => k = w2.heap.size) w5 W → Zy W (.slice va (l.map (repB F2 T2)).length vc) (l.map (repB F2 T2)) from fun W f => by
    have hO : wr.ownsRow w3.heap.size 9 1 (.slice va (l.map (repB F2 T2)).length vc) (l.map (repB F2 T2)).length ((l.map (repB F2 T2)).map Value.string) := HO2.out
    have h4 := own_strs hO
    have hz := fun k (e : (Value.slice va (l.map (repB F2 T2)).length vc).ownBlock = some k) => own_ge hO e
    refine (h4.far F5 (fun hl k ek ek' => ?_)).far f (fun hl k ek ek' => ?_)
    ·have := hz k ek; have e' : k = w.heap.size := ek'; have := HS.out; omega
    ·have := hz k ek; have e' : k = w2.heap.size := ek'; have := HS.out; omega)
   clear BX5 BR5 F5 HBX HBR HO HO2 HT HR HX HBP
   generalize hmm : l.map (repB F2 T2) = M at *
   go_wp2_with fail
   obtain ⟨hld, hfs, hfr⟩ := fin_entry HF5.out HBR5.out (by have := HS.out; omega) (.string P) (.int .i64 K) (.slice va M.length vc) (.string D)
   refine bodyPost_ret (v := .tuple #[.agg #[.string P, .int .i64 K, .slice va M.length vc, .string D], .bool true]) (by rw [results_cell_tmp rfl]; simp [asAddr, Result.andThen, hld]) rfl ?_
   rw [HE.out]
   exact ⟨P, K, va, M.length, vc, D, true, rfl, rfl, fun y hy => (by cases hy; exact ⟨rfl, rfl, rfl, HN.out _ hfs⟩), hfr⟩
end Go.Proofs.YtbnfjjjdnbcehaaGreatDoor
namespace Go.Proofs.YtbnfjjjdnbcehaaGreatDoor
open Go.RowKit Go.Maps Go.WideMaps
set_option maxRecDepth 100000
def chgE (L : List En) (p : Pr) (k : Int) : List En × Int := if hasE L (bl p.path) k ≠ 0 then (L, hasE L (bl p.path) k) else match Zt L (bl p.path) with
 | none => (L, 72)
 | some x => match Zb x p with
  | none => (L, 81)
  | some y => (putE L y, 0)
theorem chgE_no {L : List En} {p : Pr} {k : Int} (h : hasE L (bl p.path) k ≠ 0) : chgE L p k = (L, hasE L (bl p.path) k) := by
 unfold chgE; rw [if_pos h]
theorem chgE_none {L : List En} {p : Pr} {k : Int} (h : hasE L (bl p.path) k = 0) {x : En} (hx : Zt L (bl p.path) = some x) (hw : Zb x p = none) : chgE L p k = (L, 81) := by
 unfold chgE; rw [if_neg (by simpa using h), hx]; simp only [hw]
theorem chgE_some {L : List En} {p : Pr} {k : Int} (h : hasE L (bl p.path) k = 0) {x y : En} (hx : Zt L (bl p.path) = some x) (hw : Zb x p = some y) : chgE L p k = (putE L y, 0) := by
 unfold chgE; rw [if_neg (by simpa using h), hx]; simp only [hw]
theorem change7_any (b : Nat) (T : List Th) (p : Pr) (vo vn : Value) (k : Int) (g c : Nat) (w : World) (h : Yt w b T.length T) (hn : T.length ≤ 90000) (ho : Zy w vo p.old) (hw : Zy w vn p.new) (hp : p.path.size ≤ 1000000) (hg : w.cell? ⟨g, 0, none⟩ = some (.int .i64 k)) (hc : w.cell? ⟨c, 0, none⟩ = some (.func (.func 109) #[] #[]))
  (hf : ∀ t ∈ T, ∀ w', Fr None' w w' → Calls Tryz.prog 109 #[.agg #[.string t.x.path, .int .i64 t.x.kind, .slice t.u.1 t.u.2.1 t.u.2.2, .string t.x.data], .agg #[.int .i64 p.kind, .string p.path, .string p.dst, .string p.src, .int .i64 p.pos, vo, vn]] w' fun e w'' => WithPost (Zb t.x p) w' e w'') :
  Calls Tryz.prog 141 #[.map (some b), .agg #[.int .i64 p.kind, .string p.path, .string p.dst, .string p.src, .int .i64 p.pos, vo, vn], .pointer (some ⟨g, 0, none⟩), .pointer (some ⟨c, 0, none⟩)] w fun e w' => DoPost (chgE (ens T) p k) b w e w' := by
 obtain ⟨pa, ca, rfl, _⟩ := ho
 obtain ⟨pb, cb, rfl, _⟩ := hw
 have HG := Zz hg
 have HC := Zz hc
 have HT := Zz h
 have HFn := Zz hf
 obtain ⟨w1, hw1⟩ : ∃ w1, w.alloc (.cells #[.int .i64 p.kind, .string p.path, .string p.dst, .string p.src, .int .i64 p.pos, .slice pa p.old.length ca, .slice pb p.new.length cb] 43) = w1 := ⟨_, rfl⟩
 have F1 : Fr None' w w1 := hw1 ▸ Fr.alloc None' w _
 have BP : Box w1 w.heap.size (.int .i64 p.kind) (.string p.path) (.string p.dst) (.string p.src) (.int .i64 p.pos) (.slice pa p.old.length ca) (.slice pb p.new.length cb) := hw1 ▸ Box.new w _ _ _ _ _ _ _
 obtain ⟨p0, p1, p2, p3, p4, p5, p6⟩ := BP.cells
 have g1 := F1.keepCell hg (fun e => e)
 have cF := has8_any b T.length T p.path k w1 (h.kept F1) hp
 have HB := Zz BP
 have HF1 := Zz F1
 have hkS := keyS p.path (by unfold maxLen; omega)
 clear F1 BP hg hc h hf
 by_cases hr : hasE (ens T) (bl p.path) k = 0
 ·obtain ⟨x, hx, hxk⟩ := hasE_zero.1 hr
  clear hxk
  have hx' := hx
  rw [← ens_get] at hx'
  obtain ⟨t, ht, rfl⟩ := Option.map_eq_some_iff.1 hx'
  obtain ⟨htm, htk⟩ := get8_mem ht
  have HNo := Zz (fun (hz : Zb t.x p = none) => chgE_none hr hx hz)
  have HYes := Zz (fun y (hz : Zb t.x p = some y) => chgE_some hr hx hz)
  have HKey := Zz (show ∀ y, Zb t.x p = some y → bl y.path = bl p.path from fun y hy => by rw [(with_facts hy).1]; exact htk)
  rw [hr] at cF
  have HW := Zz (HFn.out t htm)
  have HLk := Zz (fun w' (f : Fr None' w w') => show (Instr.lookup 76 (.map (some b)) (.string p.path) false).run Tryz.prog w' = .ok (.agg #[.string t.x.path, .int .i64 t.x.kind, .slice t.u.1 t.u.2.1 t.u.2.2, .string t.x.data]) w' from by
   have := (HT.out.kept f).look p.path (by unfold maxLen; omega)
   rw [ht] at this
   exact this)
  clear hr hx hx' ht htm htk HFn
  generalize hR : Zb t.x p = R at HNo HYes HKey HW
  clear hR
  obtain ⟨⟨P, K, l, D⟩, a, m, u⟩ := t
  simp only at HW HLk
  go_enter Tryz.func141, Tryz.ntmps141
  go_wp2_with fail
  with_reducible refine cF.mono ?_
  rintro e w2 ⟨rfl, f2⟩
  clear cF p0 p1 p2 p3 p4 p5 p6 g1
  have HF2 := Zz (HF1.out.then7 f2)
  have HB2 := Zz (HB.out.kept f2)
  obtain ⟨p0, p1, p2, p3, p4, p5, p6⟩ := HB2.out.cells
  have g2 := HF2.out.keepCell HC.out (fun e => e)
  have hlk := HLk.out w2 HF2.out
  have cW := HW.out w2 HF2.out
  clear f2 HB
  go_wp2_with fail
  with_reducible refine cW.mono ?_
  rintro e w3 ⟨P', K', ua, um, uc, D', b', rfl, Hb, HN, f3⟩
  clear cW hlk p0 p1 p2 p3 p4 p5 p6 g2
  obtain ⟨p0, p1, p2, p3, p4, p5, p6⟩ := (HB2.out.kept f3).cells
  have HF3 := Zz (HF2.out.then7 f3)
  clear f3
  cases b' with
  | false =>
   have HR := Zz (show R = none from by
    have := Hb.out
    cases R with
    | none => rfl
    | some y => cases this)
   have HM := Zz (HT.out.kept (HF3.out.then7 (Fr.alloc None' w3 (.cells #[.string P', .int .i64 K', .slice ua um uc, .string D'] 45))))
   clear p0 p1 p2 p3 p4 p5 p6
   go_wp2_with fail
   go_ret
   rw [HNo.out HR.out]
   exact ⟨T, rfl, HM.out, rfl, (HF3.out.then7 (Fr.alloc None' _ _)).any⟩
  | true =>
   obtain ⟨y, hy⟩ : ∃ y, R = some y := by
    have := Hb.out
    cases R with
    | none => cases this
    | some y => exact ⟨y, rfl⟩
   obtain ⟨rfl, rfl, rfl, hst⟩ := HN.out y hy
   have HY := Zz hy
   obtain ⟨w4, hw4⟩ : ∃ w4, w3.alloc (.cells #[.string y.path, .int .i64 y.kind, .slice ua um uc, .string y.data] 45) = w4 := ⟨_, rfl⟩
   have F4 : Fr None' w3 w4 := hw4 ▸ Fr.alloc None' w3 _
   obtain ⟨e0, e1, e2, e3⟩ := (hw4 ▸ Yu.new w3 _ _ _ _ : Yu w4 w3.heap.size (.string y.path) (.int .i64 y.kind) (.slice ua um uc) (.string y.data)).cells
   replace p1 := F4.keepCell p1 (fun e => e)
   have T4 := HT.out.kept (HF3.out.then7 F4)
   have HM := Zz T4
   have hown := T4.map
   have HS4 := Zz (hst.kept F4)
   have HF4 := Zz (HF3.out.then7 F4)
   clear hst F4 T4 hy p0 p2 p3 p4 p5 p6 HN Hb
   go_wp2_with (first
    | (at_mapUpdate; refine wpList_mapUpdate_in _ rfl _ _ _ 76 rfl 9 45 lawS Tryz.underlying76 heldE b T.length _ rfl hown (by unfold maxLen; omega) _ _ _ rfl rfl hkS _ [] (heldE_th ⟨y, ua, um, uc⟩) ?_; intro w5 hown5 hturn5)
    | go_in)
   go_ret
   rw [HYes.out y HY.out]
   rw [← HKey.out y HY.out] at hown5
   have hP := HM.out.put (t := ⟨y, ua, um, uc⟩) HS4.out hown5 hturn5
   exact ⟨_, rfl, hP.tight, ens_put _ _, (HF4.out.any).then (Fr.turned hturn5 rfl)⟩
 ·have HA := Zz (chgE_no (p := p) hr)
  rw [HA.out]
  generalize hasE (ens T) (bl p.path) k = r at cF hr
  have hr2 : (r == 0) = false := by simpa using hr
  clear HFn HA
  go_enter Tryz.func141, Tryz.ntmps141
  go_wp2_with fail
  with_reducible refine cF.mono ?_
  rintro e w2 ⟨rfl, f2⟩
  clear cF p0 p1 p2 p3 p4 p5 p6 g1
  have HF2 := Zz (HF1.out.then7 f2)
  have HM := Zz (HT.out.kept HF2.out)
  clear f2
  go_wp2_with fail
  go_ret
  exact ⟨T, rfl, HM.out, rfl, HF2.out.any⟩
theorem change8_any (b : Nat) (T : List Th) (p : Pr) (vo vn : Value) (k : Int) (g c : Nat) (w : World) (h : Yt w b T.length T) (hn : T.length ≤ 90000) (ho : Zy w vo p.old) (hw : Zy w vn p.new) (hp : p.path.size ≤ 1000000) (hg : w.cell? ⟨g, 0, none⟩ = some (.int .i64 k)) (hc : w.cell? ⟨c, 0, none⟩ = some (.func (.func 111) #[] #[]))
  (hf : ∀ t ∈ T, ∀ w', Fr None' w w' → Calls Tryz.prog 111 #[.agg #[.string t.x.path, .int .i64 t.x.kind, .slice t.u.1 t.u.2.1 t.u.2.2, .string t.x.data], .agg #[.int .i64 p.kind, .string p.path, .string p.dst, .string p.src, .int .i64 p.pos, vo, vn]] w' fun e w'' => WithPost (Zb t.x p) w' e w'') :
  Calls Tryz.prog 141 #[.map (some b), .agg #[.int .i64 p.kind, .string p.path, .string p.dst, .string p.src, .int .i64 p.pos, vo, vn], .pointer (some ⟨g, 0, none⟩), .pointer (some ⟨c, 0, none⟩)] w fun e w' => DoPost (chgE (ens T) p k) b w e w' := by
 obtain ⟨pa, ca, rfl, _⟩ := ho
 obtain ⟨pb, cb, rfl, _⟩ := hw
 have HG := Zz hg
 have HC := Zz hc
 have HT := Zz h
 have HFn := Zz hf
 obtain ⟨w1, hw1⟩ : ∃ w1, w.alloc (.cells #[.int .i64 p.kind, .string p.path, .string p.dst, .string p.src, .int .i64 p.pos, .slice pa p.old.length ca, .slice pb p.new.length cb] 43) = w1 := ⟨_, rfl⟩
 have F1 : Fr None' w w1 := hw1 ▸ Fr.alloc None' w _
 have BP : Box w1 w.heap.size (.int .i64 p.kind) (.string p.path) (.string p.dst) (.string p.src) (.int .i64 p.pos) (.slice pa p.old.length ca) (.slice pb p.new.length cb) := hw1 ▸ Box.new w _ _ _ _ _ _ _
 obtain ⟨p0, p1, p2, p3, p4, p5, p6⟩ := BP.cells
 have g1 := F1.keepCell hg (fun e => e)
 have cF := has8_any b T.length T p.path k w1 (h.kept F1) hp
 have HB := Zz BP
 have HF1 := Zz F1
 have hkS := keyS p.path (by unfold maxLen; omega)
 clear F1 BP hg hc h hf
 by_cases hr : hasE (ens T) (bl p.path) k = 0
 ·obtain ⟨x, hx, hxk⟩ := hasE_zero.1 hr
  clear hxk
  have hx' := hx
  rw [← ens_get] at hx'
  obtain ⟨t, ht, rfl⟩ := Option.map_eq_some_iff.1 hx'
  obtain ⟨htm, htk⟩ := get8_mem ht
  have HNo := Zz (fun (hz : Zb t.x p = none) => chgE_none hr hx hz)
  have HYes := Zz (fun y (hz : Zb t.x p = some y) => chgE_some hr hx hz)
  have HKey := Zz (show ∀ y, Zb t.x p = some y → bl y.path = bl p.path from fun y hy => by rw [(with_facts hy).1]; exact htk)
  rw [hr] at cF
  have HW := Zz (HFn.out t htm)
  have HLk := Zz (fun w' (f : Fr None' w w') => show (Instr.lookup 76 (.map (some b)) (.string p.path) false).run Tryz.prog w' = .ok (.agg #[.string t.x.path, .int .i64 t.x.kind, .slice t.u.1 t.u.2.1 t.u.2.2, .string t.x.data]) w' from by
   have := (HT.out.kept f).look p.path (by unfold maxLen; omega)
   rw [ht] at this
   exact this)
  clear hr hx hx' ht htm htk HFn
  generalize hR : Zb t.x p = R at HNo HYes HKey HW
  clear hR
  obtain ⟨⟨P, K, l, D⟩, a, m, u⟩ := t
  simp only at HW HLk
  go_enter Tryz.func141, Tryz.ntmps141
  go_wp2_with fail
  with_reducible refine cF.mono ?_
  rintro e w2 ⟨rfl, f2⟩
  clear cF p0 p1 p2 p3 p4 p5 p6 g1
  have HF2 := Zz (HF1.out.then7 f2)
  have HB2 := Zz (HB.out.kept f2)
  obtain ⟨p0, p1, p2, p3, p4, p5, p6⟩ := HB2.out.cells
  have g2 := HF2.out.keepCell HC.out (fun e => e)
  have hlk := HLk.out w2 HF2.out
  have cW := HW.out w2 HF2.out
  clear f2 HB
  go_wp2_with fail
  with_reducible refine cW.mono ?_
  rintro e w3 ⟨P', K', ua, um, uc, D', b', rfl, Hb, HN, f3⟩
  clear cW hlk p0 p1 p2 p3 p4 p5 p6 g2
  obtain ⟨p0, p1, p2, p3, p4, p5, p6⟩ := (HB2.out.kept f3).cells
  have HF3 := Zz (HF2.out.then7 f3)
  clear f3
  cases b' with
  | false =>
   have HR := Zz (show R = none from by
    have := Hb.out
    cases R with
    | none => rfl
    | some y => cases this)
   have HM := Zz (HT.out.kept (HF3.out.then7 (Fr.alloc None' w3 (.cells #[.string P', .int .i64 K', .slice ua um uc, .string D'] 45))))
   clear p0 p1 p2 p3 p4 p5 p6
   go_wp2_with fail
   go_ret
   rw [HNo.out HR.out]
   exact ⟨T, rfl, HM.out, rfl, (HF3.out.then7 (Fr.alloc None' _ _)).any⟩
  | true =>
   obtain ⟨y, hy⟩ : ∃ y, R = some y := by
    have := Hb.out
    cases R with
    | none => cases this
    | some y => exact ⟨y, rfl⟩
   obtain ⟨rfl, rfl, rfl, hst⟩ := HN.out y hy
   have HY := Zz hy
   obtain ⟨w4, hw4⟩ : ∃ w4, w3.alloc (.cells #[.string y.path, .int .i64 y.kind, .slice ua um uc, .string y.data] 45) = w4 := ⟨_, rfl⟩
   have F4 : Fr None' w3 w4 := hw4 ▸ Fr.alloc None' w3 _
   obtain ⟨e0, e1, e2, e3⟩ := (hw4 ▸ Yu.new w3 _ _ _ _ : Yu w4 w3.heap.size (.string y.path) (.int .i64 y.kind) (.slice ua um uc) (.string y.data)).cells
   replace p1 := F4.keepCell p1 (fun e => e)
   have T4 := HT.out.kept (HF3.out.then7 F4)
   have HM := Zz T4
   have hown := T4.map
   have HS4 := Zz (hst.kept F4)
   have HF4 := Zz (HF3.out.then7 F4)
   clear hst F4 T4 hy p0 p2 p3 p4 p5 p6 HN Hb
   go_wp2_with (first
    | (at_mapUpdate; refine wpList_mapUpdate_in _ rfl _ _ _ 76 rfl 9 45 lawS Tryz.underlying76 heldE b T.length _ rfl hown (by unfold maxLen; omega) _ _ _ rfl rfl hkS _ [] (heldE_th ⟨y, ua, um, uc⟩) ?_; intro w5 hown5 hturn5)
    | go_in)
   go_ret
   rw [HYes.out y HY.out]
   rw [← HKey.out y HY.out] at hown5
   have hP := HM.out.put (t := ⟨y, ua, um, uc⟩) HS4.out hown5 hturn5
   exact ⟨_, rfl, hP.tight, ens_put _ _, (HF4.out.any).then (Fr.turned hturn5 rfl)⟩
 ·have HA := Zz (chgE_no (p := p) hr)
  rw [HA.out]
  generalize hasE (ens T) (bl p.path) k = r at cF hr
  have hr2 : (r == 0) = false := by simpa using hr
  clear HFn HA
  go_enter Tryz.func141, Tryz.ntmps141
  go_wp2_with fail
  with_reducible refine cF.mono ?_
  rintro e w2 ⟨rfl, f2⟩
  clear cF p0 p1 p2 p3 p4 p5 p6 g1
  have HF2 := Zz (HF1.out.then7 f2)
  have HM := Zz (HT.out.kept HF2.out)
  clear f2
  go_wp2_with fail
  go_ret
  exact ⟨T, rfl, HM.out, rfl, HF2.out.any⟩
theorem change9_any (b : Nat) (T : List Th) (p : Pr) (vo vn : Value) (k : Int) (g c : Nat) (w : World) (h : Yt w b T.length T) (hn : T.length ≤ 90000) (ho : Zy w vo p.old) (hw : Zy w vn p.new) (hp : p.path.size ≤ 1000000) (hg : w.cell? ⟨g, 0, none⟩ = some (.int .i64 k)) (hc : w.cell? ⟨c, 0, none⟩ = some (.func (.func 113) #[] #[]))
  (hf : ∀ t ∈ T, ∀ w', Fr None' w w' → Calls Tryz.prog 113 #[.agg #[.string t.x.path, .int .i64 t.x.kind, .slice t.u.1 t.u.2.1 t.u.2.2, .string t.x.data], .agg #[.int .i64 p.kind, .string p.path, .string p.dst, .string p.src, .int .i64 p.pos, vo, vn]] w' fun e w'' => WithPost (Zb t.x p) w' e w'') :
  Calls Tryz.prog 141 #[.map (some b), .agg #[.int .i64 p.kind, .string p.path, .string p.dst, .string p.src, .int .i64 p.pos, vo, vn], .pointer (some ⟨g, 0, none⟩), .pointer (some ⟨c, 0, none⟩)] w fun e w' => DoPost (chgE (ens T) p k) b w e w' := by
 obtain ⟨pa, ca, rfl, _⟩ := ho
 obtain ⟨pb, cb, rfl, _⟩ := hw
 have HG := Zz hg
 have HC := Zz hc
 have HT := Zz h
 have HFn := Zz hf
 obtain ⟨w1, hw1⟩ : ∃ w1, w.alloc (.cells #[.int .i64 p.kind, .string p.path, .string p.dst, .string p.src, .int .i64 p.pos, .slice pa p.old.length ca, .slice pb p.new.length cb] 43) = w1 := ⟨_, rfl⟩
 have F1 : Fr None' w w1 := hw1 ▸ Fr.alloc None' w _
 have BP : Box w1 w.heap.size (.int .i64 p.kind) (.string p.path) (.string p.dst) (.string p.src) (.int .i64 p.pos) (.slice pa p.old.length ca) (.slice pb p.new.length cb) := hw1 ▸ Box.new w _ _ _ _ _ _ _
 obtain ⟨p0, p1, p2, p3, p4, p5, p6⟩ := BP.cells
 have g1 := F1.keepCell hg (fun e => e)
 have cF := has8_any b T.length T p.path k w1 (h.kept F1) hp
 have HB := Zz BP
 have HF1 := Zz F1
 have hkS := keyS p.path (by unfold maxLen; omega)
 clear F1 BP hg hc h hf
 by_cases hr : hasE (ens T) (bl p.path) k = 0
 ·obtain ⟨x, hx, hxk⟩ := hasE_zero.1 hr
  clear hxk
  have hx' := hx
  rw [← ens_get] at hx'
  obtain ⟨t, ht, rfl⟩ := Option.map_eq_some_iff.1 hx'
  obtain ⟨htm, htk⟩ := get8_mem ht
  have HNo := Zz (fun (hz : Zb t.x p = none) => chgE_none hr hx hz)
  have HYes := Zz (fun y (hz : Zb t.x p = some y) => chgE_some hr hx hz)
  have HKey := Zz (show ∀ y, Zb t.x p = some y → bl y.path = bl p.path from fun y hy => by rw [(with_facts hy).1]; exact htk)
  rw [hr] at cF
  have HW := Zz (HFn.out t htm)
  have HLk := Zz (fun w' (f : Fr None' w w') => show (Instr.lookup 76 (.map (some b)) (.string p.path) false).run Tryz.prog w' = .ok (.agg #[.string t.x.path, .int .i64 t.x.kind, .slice t.u.1 t.u.2.1 t.u.2.2, .string t.x.data]) w' from by
   have := (HT.out.kept f).look p.path (by unfold maxLen; omega)
   rw [ht] at this
   exact this)
  clear hr hx hx' ht htm htk HFn
  generalize hR : Zb t.x p = R at HNo HYes HKey HW
  clear hR
  obtain ⟨⟨P, K, l, D⟩, a, m, u⟩ := t
  simp only at HW HLk
  go_enter Tryz.func141, Tryz.ntmps141
  go_wp2_with fail
  with_reducible refine cF.mono ?_
  rintro e w2 ⟨rfl, f2⟩
  clear cF p0 p1 p2 p3 p4 p5 p6 g1
  have HF2 := Zz (HF1.out.then7 f2)
  have HB2 := Zz (HB.out.kept f2)
  obtain ⟨p0, p1, p2, p3, p4, p5, p6⟩ := HB2.out.cells
  have g2 := HF2.out.keepCell HC.out (fun e => e)
  have hlk := HLk.out w2 HF2.out
  have cW := HW.out w2 HF2.out
  clear f2 HB
  go_wp2_with fail
  with_reducible refine cW.mono ?_
  rintro e w3 ⟨P', K', ua, um, uc, D', b', rfl, Hb, HN, f3⟩
  clear cW hlk p0 p1 p2 p3 p4 p5 p6 g2
  obtain ⟨p0, p1, p2, p3, p4, p5, p6⟩ := (HB2.out.kept f3).cells
  have HF3 := Zz (HF2.out.then7 f3)
  clear f3
  cases b' with
  | false =>
   have HR := Zz (show R = none from by
    have := Hb.out
    cases R with
    | none => rfl
    | some y => cases this)
   have HM := Zz (HT.out.kept (HF3.out.then7 (Fr.alloc None' w3 (.cells #[.string P', .int .i64 K', .slice ua um uc, .string D'] 45))))
   clear p0 p1 p2 p3 p4 p5 p6
   go_wp2_with fail
   go_ret
   rw [HNo.out HR.out]
   exact ⟨T, rfl, HM.out, rfl, (HF3.out.then7 (Fr.alloc None' _ _)).any⟩
  | true =>
   obtain ⟨y, hy⟩ : ∃ y, R = some y := by
    have := Hb.out
    cases R with
    | none => cases this
    | some y => exact ⟨y, rfl⟩
   obtain ⟨rfl, rfl, rfl, hst⟩ := HN.out y hy
   have HY := Zz hy
   obtain ⟨w4, hw4⟩ : ∃ w4, w3.alloc (.cells #[.string y.path, .int .i64 y.kind, .slice ua um uc, .string y.data] 45) = w4 := ⟨_, rfl⟩
   have F4 : Fr None' w3 w4 := hw4 ▸ Fr.alloc None' w3 _
   obtain ⟨e0, e1, e2, e3⟩ := (hw4 ▸ Yu.new w3 _ _ _ _ : Yu w4 w3.heap.size (.string y.path) (.int .i64 y.kind) (.slice ua um uc) (.string y.data)).cells
   replace p1 := F4.keepCell p1 (fun e => e)
   have T4 := HT.out.kept (HF3.out.then7 F4)
   have HM := Zz T4
   have hown := T4.map
   have HS4 := Zz (hst.kept F4)
   have HF4 := Zz (HF3.out.then7 F4)
   clear hst F4 T4 hy p0 p2 p3 p4 p5 p6 HN Hb
   go_wp2_with (first
    | (at_mapUpdate; refine wpList_mapUpdate_in _ rfl _ _ _ 76 rfl 9 45 lawS Tryz.underlying76 heldE b T.length _ rfl hown (by unfold maxLen; omega) _ _ _ rfl rfl hkS _ [] (heldE_th ⟨y, ua, um, uc⟩) ?_; intro w5 hown5 hturn5)
    | go_in)
   go_ret
   rw [HYes.out y HY.out]
   rw [← HKey.out y HY.out] at hown5
   have hP := HM.out.put (t := ⟨y, ua, um, uc⟩) HS4.out hown5 hturn5
   exact ⟨_, rfl, hP.tight, ens_put _ _, (HF4.out.any).then (Fr.turned hturn5 rfl)⟩
 ·have HA := Zz (chgE_no (p := p) hr)
  rw [HA.out]
  generalize hasE (ens T) (bl p.path) k = r at cF hr
  have hr2 : (r == 0) = false := by simpa using hr
  clear HFn HA
  go_enter Tryz.func141, Tryz.ntmps141
  go_wp2_with fail
  with_reducible refine cF.mono ?_
  rintro e w2 ⟨rfl, f2⟩
  clear cF p0 p1 p2 p3 p4 p5 p6 g1
  have HF2 := Zz (HF1.out.then7 f2)
  have HM := Zz (HT.out.kept HF2.out)
  clear f2
  go_wp2_with fail
  go_ret
  exact ⟨T, rfl, HM.out, rfl, HF2.out.any⟩
theorem act_addE {L : List En} {p : Pr} (hk : p.kind = 1 ∨ p.kind = 3 ∨ p.kind = 5) : actE L p = addE L p.path ((p.kind + 1) / 2) := by
 unfold actE; rw [if_pos hk]; rfl
theorem act_rmE {L : List En} {p : Pr} (hk : p.kind = 2 ∨ p.kind = 4 ∨ p.kind = 6) : actE L p = rmE L (bl p.path) (p.kind / 2) := by
 unfold actE; rw [if_neg (by omega), if_pos hk]; rfl
theorem act_moveE {L : List En} {p : Pr} (hk : p.kind = 10) : actE L p = moveE L (bl p.path) (bl p.dst) := by
 unfold actE; rw [if_neg (by omega), if_neg (by omega), if_pos hk]
theorem act_chgE {L : List En} {p : Pr} (hk : p.kind = 7 ∨ p.kind = 8 ∨ p.kind = 9) : actE L p = chgE L p (if p.kind = 9 then 3 else 2) := by
 unfold actE; rw [if_neg (by omega), if_neg (by omega), if_neg (by omega)]; rfl
theorem SmPr.small {p : Pr} (h : SmPr p) : SmallP p := ⟨by have := h.path; omega, by have := h.dst; omega, by have := h.src; omega, by have := h.old; omega, by have := h.new; omega⟩
theorem lines_pos {p : Pr} (hr : Zv p = true) (hk : p.kind = 7) : -9223372036854775808 ≤ p.pos ∧ p.pos < 9223372036854775808 := by
 have hrule := (rule_of hr).2.2
 unfold Yn linesP at hrule
 rw [if_neg (by omega), if_pos hk] at hrule
 simp only [Bool.and_eq_true, decide_eq_true_eq] at hrule
 have h1 := hrule.1.1.1.1.2
 have h2 := hrule.1.1.1.2
 omega
theorem do8_any (b : Nat) (T : List Th) (p : Pr) (vo vn : Value) (B : Nat) (w : World) (h : Yt w b T.length T) (hn : T.length ≤ 40000) (hT : ∀ t ∈ T, t.x.path.size ≤ 1000000) (hB : SmLn B (ens T)) (hB2 : B ≤ 900000) (hs : SmPr p) (ho : Zy w vo p.old) (hw : Zy w vn p.new) :
  Calls Tryz.prog 47 #[.map (some b), .agg #[.int .i64 p.kind, .string p.path, .string p.dst, .string p.src, .int .i64 p.pos, vo, vn]] w fun e w' => DoPost (doE (ens T) p) b w e w' := by
 obtain ⟨pa, ca, rfl, ho'⟩ := ho
 obtain ⟨pb, cb, rfl, hw'⟩ := hw
 have HO := Zz (show ∀ w', Fr None' w w' → Zy w' (.slice pa p.old.length ca) p.old from fun w' f => Zy.kept ⟨pa, ca, rfl, ho'⟩ f)
 have HN := Zz (show ∀ w', Fr None' w w' → Zy w' (.slice pb p.new.length cb) p.new from fun w' f => Zy.kept ⟨pb, cb, rfl, hw'⟩ f)
 obtain ⟨w1, hw1⟩ : ∃ w1, w.alloc (.cells #[.int .i64 p.kind, .string p.path, .string p.dst, .string p.src, .int .i64 p.pos, .slice pa p.old.length ca, .slice pb p.new.length cb] 43) = w1 := ⟨_, rfl⟩
 have F1 : Fr None' w w1 := hw1 ▸ Fr.alloc None' w _
 have BP : Box w1 w.heap.size (.int .i64 p.kind) (.string p.path) (.string p.dst) (.string p.src) (.int .i64 p.pos) (.slice pa p.old.length ca) (.slice pb p.new.length cb) := hw1 ▸ Box.new w _ _ _ _ _ _ _
 obtain ⟨p0, p1, p2, p3, p4, p5, p6⟩ := BP.cells
 have cR := ruleOf_any p (.slice pa p.old.length ca) (.slice pb p.new.length cb) w1 (HO.out w1 F1) (HN.out w1 F1) hs.small
 have HB := Zz BP
 have HF1 := Zz F1
 have HT := Zz h
 have HLn := Zz (show ∀ t ∈ T, t.x.lines.length ≤ 900000 ∧ ∀ y ∈ t.x.lines, SmLine y from fun t ht => by
  have := hB t.x (List.mem_map.2 ⟨t, ht, rfl⟩)
  exact ⟨by have := this.1.1; omega, this.2⟩)
 have HTs := Zz hT
 have HSp := Zz hs
 have hbw := h.map.lt
 clear ho' hw' F1 BP h hT hB
 cases hr : Zv p with
 | false =>
  have HE := Zz (show doE (ens T) p = (ens T, 1) from by unfold doE; rw [hr]; rfl)
  rw [HE.out]
  rw [hr] at cR
  clear hr HE
  go_enter Tryz.func47, Tryz.ntmps47
  go_wp2_with fail
  with_reducible refine cR.mono ?_
  rintro e w2 ⟨r0, r1, rfl, ⟨h0, h1⟩, _, f2⟩
  have HF2 := Zz (HF1.out.then7 f2)
  have H01 := Zz (And.intro h0 h1)
  clear cR f2 h0 h1 p0 p1 p2 p3 p4 p5 p6
  go_wp2_with (refine wpList_store_row rfl _ _ _ rfl w2.heap.size _ rfl rfl 83 _ (heap_alloc_new w2 _) infoRule (by simp) (by simp [H01.out.1, H01.out.2]) ?_)
  go_ret
  have key : ∀ c, Fr None' w ((w2.alloc (.cells #[.nilFunc, .nilFunc] 83)).setRow w2.heap.size c) := fun c => HF2.out.then7 ((Fr.alloc None' w2 _).trans (Fr.setRow (M := fun i => i = w2.heap.size) _ rfl _) (fun i e => Or.inr (by omega)))
  exact ⟨T, rfl, HT.out.kept (key _), rfl, (key _).any⟩
 | true =>
  have HE := Zz (show doE (ens T) p = actE (ens T) p from by unfold doE; rw [hr]; rfl)
  rw [HE.out]
  rw [hr] at cR
  have HRt := Zz hr
  clear hr HE
  go_enter Tryz.func47, Tryz.ntmps47
  go_wp2_with fail
  with_reducible refine cR.mono ?_
  rintro e w2 ⟨r0, r1, rfl, ⟨h0, h1⟩, HI, f2⟩
  have hI := HI.out rfl
  have HF2 := Zz (HF1.out.then7 f2)
  have HB2 := Zz (HB.out.kept f2)
  have H01 := Zz (And.intro h0 h1)
  clear cR f2 h0 h1 p0 p1 p2 p3 p4 p5 p6 HI HB
  obtain ⟨w3, hw3⟩ : ∃ w3, (w2.alloc (.cells #[.nilFunc, .nilFunc] 83)).setRow w2.heap.size #[r0, r1] = w3 := ⟨_, rfl⟩
  have F3 : Fr None' w2 w3 := hw3 ▸ (Fr.alloc None' w2 _).trans (Fr.setRow (M := fun i => i = w2.heap.size) _ rfl _) (fun i e => Or.inr (by omega))
  have B3 : w3.heap[w2.heap.size]? = some (.cells #[r0, r1] 83 (0, 0)) := hw3 ▸ setRow_at (heap_alloc_new w2 _)
  have k1 : w3.cell? ⟨w2.heap.size, 1, none⟩ = some r1 := by rw [World.cell?, B3]; rfl
  obtain ⟨p0, p1, p2, p3, p4, p5, p6⟩ := (HB2.out.kept F3).cells
  have HF3 := Zz (HF2.out.then7 F3)
  have HT3 := Zz (HT.out.kept HF3.out)
  have HO3 := Zz (HO.out w3 HF3.out)
  have HN3 := Zz (HN.out w3 HF3.out)
  have HEnd := Zz (show ∀ r e W, DoPost r b w3 e W → DoPost r b w e W from fun r e W ⟨T', h1, h2, h3, h4⟩ => ⟨T', h1, h2, h3, (HF3.out.any).then h4⟩)
  have hpz : p.path.size ≤ 1000000 := by have := hs.path; omega
  rcases hI with ⟨hk, g, rfl, hg⟩ | ⟨hk, g, rfl, hg⟩ | ⟨hk, g, c, fn, rfl, hg, hc, hfn⟩ | ⟨hk, rfl⟩
  ·have HA := Zz (act_addE (L := ens T) hk)
   have cA := add1_any b T p _ _ ((p.kind + 1) / 2) g w3 HT3.out (by omega) HO3.out HN3.out hpz (F3.keepCell hg (fun e => e))
   clear F3 B3 hg hk
   go_wp2_with (refine wpList_store_row rfl _ _ _ rfl w2.heap.size _ rfl rfl 83 _ (heap_alloc_new w2 _) infoRule (by simp) (by simp [H01.out.1, H01.out.2]) ?_)
   with_reducible refine cA.mono ?_
   rintro e w4 ⟨T', rfl, hT', hE', f4⟩
   clear cA
   have HP := Zz (HEnd.out _ _ _ ⟨T', rfl, hT', hE', f4⟩)
   clear hT' hE' f4
   go_wp2_with fail
   go_ret
   rw [HA.out]
   exact HP.out
  ·have HA := Zz (act_rmE (L := ens T) hk)
   have cA := remove1_any b T p _ _ (p.kind / 2) g w3 HT3.out (by omega) HO3.out HN3.out hpz (F3.keepCell hg (fun e => e))
   clear F3 B3 hg hk
   go_wp2_with (refine wpList_store_row rfl _ _ _ rfl w2.heap.size _ rfl rfl 83 _ (heap_alloc_new w2 _) infoRule (by simp) (by simp [H01.out.1, H01.out.2]) ?_)
   with_reducible refine cA.mono ?_
   rintro e w4 ⟨T', rfl, hT', hE', f4⟩
   clear cA
   have HP := Zz (HEnd.out _ _ _ ⟨T', rfl, hT', hE', f4⟩)
   clear hT' hE' f4
   go_wp2_with fail
   go_ret
   rw [HA.out]
   exact HP.out
  ·have HA := Zz (act_chgE (L := ens T) hk)
   have hg3 := F3.keepCell hg (fun e => e)
   have hc3 := F3.keepCell hc (fun e => e)
   have cA : Calls Tryz.prog 141 #[.map (some b), .agg #[.int .i64 p.kind, .string p.path, .string p.dst, .string p.src, .int .i64 p.pos, .slice pa p.old.length ca, .slice pb p.new.length cb], .pointer (some ⟨g, 0, none⟩), .pointer (some ⟨c, 0, none⟩)] w3 fun e w' => DoPost (chgE (ens T) p (if p.kind = 9 then 3 else 2)) b w3 e w' := by
    rcases hk with hk | hk | hk
    ·rw [if_pos hk] at hfn
     subst hfn
     exact change7_any b T p _ _ _ g c w3 HT3.out (by omega) HO3.out HN3.out hpz hg3 hc3 (fun t ht w' f => withLines_any t.x p t.u.1 t.u.2.1 t.u.2.2 _ _ w' ((HT3.out.str t ht).kept f) (HO3.out.kept f) (HN3.out.kept f) hk (by have := (HLn.out t ht).1; omega) (by have := hs.old; omega) (by have := hs.new; omega) (lines_pos HRt.out hk))
    ·rw [if_neg (by omega), if_pos hk] at hfn
     subst hfn
     exact change8_any b T p _ _ _ g c w3 HT3.out (by omega) HO3.out HN3.out hpz hg3 hc3 (fun t ht w' f => withToken_any t.x p t.u.1 t.u.2.1 t.u.2.2 _ _ w' ((HT3.out.str t ht).kept f) (HO3.out.kept f) (HN3.out.kept f) hk (by have := (HLn.out t ht).1; omega) (fun y hy => ((HLn.out t ht).2 y hy).fits hs.dst) (by have := hs.src; omega))
    ·rw [if_neg (by omega), if_neg (by omega)] at hfn
     subst hfn
     exact change9_any b T p _ _ _ g c w3 HT3.out (by omega) HO3.out HN3.out hpz hg3 hc3 (fun t ht w' f => withBytes_any t.x p t.u.1 t.u.2.1 t.u.2.2 _ _ w' ((HT3.out.str t ht).kept f) (HO3.out.kept f) (HN3.out.kept f) hk)
   clear F3 B3 hg hk hc hg3 hc3 hfn
   generalize (if p.kind = 9 then (3 : Int) else 2) = kk at cA HA
   go_wp2_with (refine wpList_store_row rfl _ _ _ rfl w2.heap.size _ rfl rfl 83 _ (heap_alloc_new w2 _) infoRule (by simp) (by simp [H01.out.1, H01.out.2]) ?_)
   with_reducible refine cA.mono ?_
   rintro e w4 ⟨T', rfl, hT', hE', f4⟩
   clear cA
   have HP := Zz (HEnd.out _ _ _ ⟨T', rfl, hT', hE', f4⟩)
   clear hT' hE' f4
   go_wp2_with fail
   go_ret
   rw [HA.out]
   exact HP.out
  ·have HA := Zz (act_moveE (L := ens T) hk)
   have cA := move8_any b T p _ _ w3 HT3.out hn HO3.out HN3.out hpz (by have := hs.dst; omega) HTs.out
   clear F3 B3 hk
   go_wp2_with (refine wpList_store_row rfl _ _ _ rfl w2.heap.size _ rfl rfl 83 _ (heap_alloc_new w2 _) infoRule (by simp) (by simp [H01.out.1, H01.out.2]) ?_)
   with_reducible refine cA.mono ?_
   rintro e w4 ⟨T', rfl, hT', hE', f4⟩
   clear cA
   have HP := Zz (HEnd.out _ _ _ ⟨T', rfl, hT', hE', f4⟩)
   clear hT' hE' f4
   go_wp2_with fail
   go_ret
   rw [HA.out]
   exact HP.out
def AllPost (r : List En × Int × Nat) (w : World) (e : Ending) (w' : World) : Prop := ∃ (va : Option Addr) (c : Nat), e = .returned (.tuple #[.slice va r.1.length c, .int .i64 r.2.1, .int .i64 r.2.2]) ∧ Hid (Z0 w' va r.1) ∧ Hid (va = none → c = 0) ∧ Fr None' w w'
theorem path_size {x : En} (h : Path.right (bl x.path) = true) : x.path.size ≤ 135 := by
 have := right_len h
 have h3 : (bl x.path).length = x.path.size := Array.length_toList
 omega
theorem runE_bad {L : List En} {ps : List Pr} (h : Zw L = false) : allE L ps = ([], 1, 0) := by unfold allE; rw [h]; rfl
theorem runE_good {L : List En} {ps : List Pr} (h : Zw L = true) : allE L ps = runE L ps 0 := by unfold allE; rw [h]; rfl
theorem all8_any (va : Option Addr) (n c : Nat) (L : List En) (vb : Option Addr) (m d : Nat) (ps : List Pr) (B : Nat) (w : World) (hl : L.length = n) (h : Z0 w va L) (hn : n ≤ 90000) (hs : SmallE L) (hm : ps.length = m) (hb : PrsAt w vb ps) (hm2 : m ≤ 90000) (hB : SmLn B L) (hB2 : B + newTo ps ps.length ≤ 900000) (hp : ∀ p ∈ ps, SmPr p) :
  Calls Tryz.prog 21 #[.slice va n c, .slice vb m d] w fun e w' => AllPost (allE L ps) w e w' := by
 have cT := tright_any va n c L w hl h (by omega) hs
 have cO := fun w' (f : Fr None' w w') => of8_any va n c L w' hl (h.kept f) hn hs
 have HM := Zz hm
 have HB := Zz hb
 have HSB := Zz hB
 have HB2 := Zz hB2
 have HPs := Zz hp
 have i1 : (m : Int) ≤ 90000 := by omega
 cases ht : Zw L with
 | false =>
  rw [ht] at cT
  rw [runE_bad ht]
  clear cO ht hl h hs hb hB hB2 hp hm
  go_enter Tryz.func21, Tryz.ntmps21
  go_wp2_with fail
  with_reducible refine cT.mono ?_
  rintro e w2 ⟨rfl, f2⟩
  clear cT
  go_wp2_with fail
  go_ret3
  exact ⟨none, 0, rfl, (fun k x hk => by simp at hk), (fun _ => rfl), f2⟩
 | true =>
  rw [ht] at cT
  rw [runE_good ht]
  have HTr := Zz ((treeR L).1 ht)
  have HPT := Zz (show putsE L = L from by
   have := puts_self [] L (by simpa using ((treeR L).1 ht).strict)
   simpa [putsE] using this)
  have HLn := Zz hl
  clear ht hl h hs hb hB hB2 hp hm
  go_enter Tryz.func21, Tryz.ntmps21
  go_wp2_with fail
  with_reducible refine cT.mono ?_
  rintro e w2 ⟨rfl, f2⟩
  clear cT
  have cO2 := cO w2 f2
  have HF2 := Zz f2
  clear cO f2
  go_wp2_with fail
  with_reducible refine cO2.mono ?_
  rintro e w3 ⟨b, T, rfl, hT, hE, f3, hbw⟩
  clear cO2
  have HF3 := Zz (HF2.out.then7 f3)
  have HT0 := Zz hT.tight
  have HE0 := Zz (show ens T = L from hE.trans HPT.out)
  have HBw := Zz (show w.heap.size ≤ b from by have := HF2.out.size; omega)
  clear hT hE f3 hbw
  go_wp2_with fail
  go_loopw [18] (fun vi wr => ∃ (k : Nat) (T' : List Th), k ≤ m ∧ vi = .int .i64 k ∧ Hid (Yt wr b T'.length T') ∧ Hid (ens T' = stE L ps k) ∧ Hid (OkTo L ps k) ∧ Hid (Fr None' w wr)) (fun vi _ => m - (intOf vi).toNat)
  case atStart => exact ⟨0, T, Nat.zero_le _, rfl, HT0.out, HE0.out, OkTo.zero _ _, HF3.out⟩
  case round =>
   obtain ⟨k, T', hk, rfl, HT, HE, HOk, HF⟩ := hrel
   clear HT0 HE0
   by_cases hlt : k < m
   ·have hkL : k < ps.length := by rw [HM.out]; exact hlt
    obtain ⟨g, o, rfl, uo, un, d0, d1, d2, d3, d4, d5, d6, t1, t2⟩ := (HB.out.kept HF.out).get hkL
    obtain ⟨st1, st2⟩ := st_ok HTr.out HSB.out HPs.out k (by omega) HOk.out
    have HStop := Zz (fun he => run_stop hkL HOk.out he)
    have HNext := Zz (fun he => HOk.out.succ hkL he)
    have HSt := Zz (stE_succ (L := L) hkL)
    have hsp := HPs.out _ (List.getElem_mem hkL)
    have hnt := newTo_le ps k
    have hB9 := HB2.out
    obtain ⟨pa, ca, rfl, q1⟩ := t1
    obtain ⟨pb, cb, rfl, q2⟩ := t2
    have HD := Zz (fun w' (f : Fr None' wr w') => do8_any b T' ps[k] (.slice pa ps[k].old.length ca) (.slice pb ps[k].new.length cb) (B + newTo ps k) w' (HT.out.kept f) (by
      have h1 := st1.len
      rw [← HE.out, ens_len] at h1
      omega) (fun t ht => by
      have h1 := st1.own t.x (by rw [← HE.out]; exact List.mem_map.2 ⟨t, ht, rfl⟩)
      have := path_size h1.1
      omega) (by rw [HE.out]; exact st2) (by omega) hsp (Zy.kept ⟨pa, ca, rfl, q1⟩ f) (Zy.kept ⟨pb, cb, rfl, q2⟩ f))
    rw [HE.out] at HD
    clear q1 q2 st1 st2 hsp hnt hB9
    generalize ps[k] = p at d0 d1 d2 d3 d4 d5 d6 HStop HNext HSt HD
    generalize doE (stE L ps k) p = r at HStop HNext HSt HD
    obtain ⟨R, er⟩ := r
    simp only at HStop HNext HSt
    obtain ⟨w4, hw4⟩ : ∃ w4, wr.alloc (.cells #[.int .i64 p.kind, .string p.path, .string p.dst, .string p.src, .int .i64 p.pos, .slice pa p.old.length ca, .slice pb p.new.length cb] 43) = w4 := ⟨_, rfl⟩
    have F4 : Fr None' wr w4 := hw4 ▸ Fr.alloc None' wr _
    obtain ⟨a0, a1, a2, a3, a4, a5, a6⟩ := (hw4 ▸ Box.new wr _ _ _ _ _ _ _ : Box w4 wr.heap.size (.int .i64 p.kind) (.string p.path) (.string p.dst) (.string p.src) (.int .i64 p.pos) (.slice pa p.old.length ca) (.slice pb p.new.length cb)).cells
    have cD := HD.out w4 F4
    have HF4 := Zz (HF.out.then7 F4)
    have i2 : (k : Int) < (m : Int) := by omega
    have i3 : (0 : Int) ≤ (k : Int) := by omega
    clear HD F4
    go_wp2_with fail
    with_reducible refine cD.mono ?_
    rintro e w5 ⟨T5, rfl, hT5, hE5, f5⟩
    clear cD d0 d1 d2 d3 d4 d5 d6 a0 a1 a2 a3 a4 a5 a6
    simp only at hE5
    have HT5 := Zz hT5
    have HE5 := Zz hE5
    have HF5 := Zz (HF4.out.trans f5 (fun i e => Or.inr (by have e : i = b := e; have := HBw.out; omega)))
    clear hT5 hE5 f5
    by_cases he : er = 0
    ·subst he
     have HOk2 := Zz (HNext.out rfl)
     clear HStop HNext
     go_wp2_with fail
     exact ⟨⟨k + 1, T5, by omega, by go_num, HT5.out, HE5.out.trans HSt.out.symm, HOk2.out, HF5.out⟩, by simp [intOf]; omega⟩
    ·have HR := Zz (HStop.out he)
     have he2 : (er == 0) = false := by simpa using he
     clear HStop HNext HSt
     go_wp2_with fail
     go_ret3
     rw [HR.out]
     exact ⟨none, 0, rfl, (fun k x hk => by simp at hk), (fun _ => rfl), HF5.out⟩
   ·have e : k = m := by omega
    subst e
    have HR := Zz (show runE L ps 0 = (stE L ps k, 0, 0) from by
     have h := HOk.out
     rw [← HM.out] at h
     rw [run_end h, HM.out])
    obtain ⟨st1, st2⟩ := st_ok HTr.out HSB.out HPs.out k (by rw [HM.out]; exact Nat.le_refl _) HOk.out
    have h1 := st1.len
    rw [← HE.out, ens_len] at h1
    have cL := list8_any b T'.length T' wr HT.out (by omega) (fun t ht => by
      have h1 := st1.own t.x (by rw [← HE.out]; exact List.mem_map.2 ⟨t, ht, rfl⟩)
      have := path_size h1.1
      omega)
    clear st1 st2 h1 HOk
    go_wp2_with fail
    with_reducible refine cL.mono ?_
    rintro e w5 ⟨v, rfl, hO, f5⟩
    clear cL
    obtain ⟨va5, c5, rfl, _, hc5, hE5, _⟩ := hO.slice f5
    have HP := Zz (show Z0 w5 va5 (ens T') from hE5)
    have HF5 := Zz (HF.out.then7 f5)
    have HC5 := Zz hc5
    clear hO hE5 f5 hc5
    go_wp2_with fail
    go_ret3
    rw [HR.out, ← HE.out]
    exact ⟨va5, c5, rfl, HP.out, HC5.out, HF5.out⟩
end Go.Proofs.YtbnfjjjdnbcehaaGreatDoor
