/-
  What is proved here: the contracts that the statement stands on: Tok8, WithT8. Conditions: as each theorem names them.
-/
import Derived.Test.YtcpjneejlfgkeaaGreatDoorM26With8
import Derived.Test.YtcpjneejlfgkeaaGreatDoorM34LIter
import Derived.Deep.RegionHeld3
namespace Go.Proofs.YtcpjneejlfgkeaaGreatDoor
open Go.RowKit
set_option maxRecDepth 100000

set_option maxHeartbeats 1000000 in
theorem indexS_any (va : Option Addr) (n c : Nat) (l : List ByteArray) (t : ByteArray) (w : World) (hl : l.length = n) (h : Lines.Row w va l) (hn : n ≤ 1000000000) :
    Calls Tryz.prog 105 #[.slice va n c, .string t] w fun e w' => ∃ z : Int, e = .returned (.int .i64 z) ∧ (0 ≤ z ↔ t ∈ l) ∧ w = w' := by
  have HL := toHid8 hl
  have HR := toHid8 h
  have i1 : (n : Int) ≤ 1000000000 := by omega
  clear hl h
  go_enter Tryz.func105, Tryz.ntmps105
  go_wp2_with fail
  go_loopw [8] (fun vi wr => ∃ k : Nat, k ≤ n ∧ vi = .int .i64 k ∧ wr = w ∧ Hid (∀ j (hj : j < l.length), j < k → ¬ l[j] = t)) (fun vi _ => n - (intOf vi).toNat)
  case atStart => exact ⟨0, Nat.zero_le _, rfl, rfl, fun j _ h => by omega⟩
  case round =>
    obtain ⟨k, hk, rfl, hw, HT⟩ := hrel
    subst hw
    by_cases hlt : k < n
    · have hkL : k < l.length := by rw [HL.out]; exact hlt
      obtain ⟨g, o, rfl, d0⟩ := HR.out k l[k] (List.getElem?_eq_getElem hkL)
      have HY := toHid8 (show l[k] = t → t ∈ l from fun e => e ▸ List.getElem_mem hkL)
      have HN := toHid8 (show ¬ l[k] = t → ∀ j (hj : j < l.length), j < k + 1 → ¬ l[j] = t from fun h j hj hlt => by
        by_cases e : j = k
        · subst e; exact h
        · exact HT.out j hj (by omega))
      generalize l[k] = y at d0 HY HN
      have i2 : (k : Int) < (n : Int) := by omega
      have i3 : (0 : Int) ≤ (k : Int) := by omega
      by_cases e : t = y
      · subst e
        have HM := toHid8 (HY.out rfl)
        clear HY HN HT
        go_wp2_with fail
        go_ret
        exact ⟨k, rfl, ⟨fun _ => HM.out, fun _ => i3⟩, rfl⟩
      · obtain ⟨s1, s2⟩ := str_no7 e
        have HN2 := toHid8 (HN.out (fun h => e h.symm))
        clear HY HN HT e
        go_wp2_with fail
        exact ⟨⟨k + 1, by omega, by go_num, trivial, HN2.out⟩, by simp [intOf]; omega⟩
    · have e : k = n := by omega
      subst e
      have HM := toHid8 (show ¬ t ∈ l from fun hm => by
        obtain ⟨j, hj, e⟩ := List.getElem_of_mem hm
        exact HT.out j hj (by rw [← HL.out]; exact hj) e)
      clear HT
      go_wp2_with fail
      go_ret
      exact ⟨-1, rfl, ⟨fun h => absurd h (by decide), fun h => absurd h HM.out⟩, rfl⟩

set_option maxHeartbeats 1000000 in
theorem containsS_any (va : Option Addr) (n c : Nat) (l : List ByteArray) (t : ByteArray) (w : World) (hl : l.length = n) (h : Lines.Row w va l) (hn : n ≤ 1000000000) :
    Calls Tryz.prog 83 #[.slice va n c, .string t] w fun e w' => ∃ b : Bool, e = .returned (.bool b) ∧ (b = true ↔ t ∈ l) ∧ w = w' := by
  have cI := indexS_any va n c l t w hl h hn
  clear hl h hn
  go_enter Tryz.func83, Tryz.ntmps83
  go_wp2_with fail
  refine cI.mono ?_
  rintro e w2 ⟨z, rfl, hz, rfl⟩
  clear cI
  go_wp2_with fail
  go_ret
  refine ⟨decide (0 ≤ z), ?_, ?_, rfl⟩
  · rfl
  · rw [decide_eq_true_eq]; exact hz

/-- Whether a line has the token, as Tokens and Contains tell it. -/
theorem tok_in {l : List ByteArray} {s : List UInt8} (h : Lines.bs l = Lines.pieces s) (t : ByteArray) : (t ∈ l) ↔ bl t ∈ Lines.pieces s := by
  rw [← h]
  unfold Lines.bs
  constructor
  · intro e; exact List.mem_map.2 ⟨t, e, rfl⟩
  · intro e
    obtain ⟨y, hy, e⟩ := List.mem_map.1 e
    rw [← bl_inj (a := y) (b := t) e]
    exact hy

theorem Lines.pieces_count (s : Lines.Bs) : (Lines.pieces s).length ≤ s.length := by
  have h1 := (Lines.pieces_all s).1
  have h2 := (Lines.pieces_all s).2
  have h3 := Lines.good_some h1
  generalize Lines.pieces s = L at *
  rw [← h2]
  clear h1 h2
  induction L with
  | nil => exact Nat.zero_le _
  | cons p L ih =>
    have := ih (fun q hq => h3 q (List.mem_cons_of_mem _ hq))
    have hp := h3 p (List.mem_cons_self ..)
    have : 0 < p.length := List.length_pos_iff.2 hp
    simp only [List.length_cons, List.flatten_cons, List.length_append]
    omega

theorem drew8 {w W : World} (h : Fr None' w W) : Fr None' w W.drew := h.then7 (Fr.drew None' _)

def repB (f t y : ByteArray) : ByteArray := ⟨(Lines.replace (bl y) (bl f) (bl t)).toArray⟩

theorem tokens_none {l : List ByteArray} {f t y : ByteArray} (hy : y ∈ l) (h : bl t ∈ Lines.pieces (bl y)) : tokensL l f t = none := by
  unfold tokensL
  rw [if_pos]
  exact List.any_eq_true.2 ⟨y, hy, by simpa using h⟩

theorem tokens_all {l : List ByteArray} {f t : ByteArray} (h : ∀ j (hj : j < l.length), bl t ∉ Lines.pieces (bl l[j])) : tokensL l f t = some (l.map (repB f t)) := by
  unfold tokensL
  rw [if_neg]
  · rfl
  · intro e
    obtain ⟨y, hy, e⟩ := List.any_eq_true.1 e
    obtain ⟨j, hj, rfl⟩ := List.getElem_of_mem hy
    exact h j hj (by simpa using e)

/-- What Tokens answers, its row named. -/
theorem tokens8_any (s : ByteArray) (w : World) (hs : (s.size : Int) < 1000000000) : Calls Tryz.prog 84 #[.string s] w fun e w' => ∃ (l : List ByteArray) (va : Option Addr) (n c : Nat), e = .returned (.slice va n c) ∧ Hid (Lines.bs l = Lines.pieces (bl s) ∧ l.length = n ∧ Lines.Row w' va l) ∧ Fr None' w w' :=
  (Lines.tokens_any s w hs).mono fun e w' ⟨v, he, hm⟩ => by
    obtain ⟨l, h1, va, c, rfl, _, h2⟩ := hm.is
    exact ⟨l, va, l.length, c, he, ⟨h1, rfl, h2⟩, ofLN hm.fr⟩

theorem replace8_any (y f t : ByteArray) (w : World) (h1 : (y.size : Int) < 1000000000) (h2 : f.size < 900000) (h3 : y.size + y.size * t.size ≤ 10000000000000) : Calls Tryz.prog 85 #[.string y, .string f, .string t] w fun e w' => e = .returned (.string (repB f t y)) ∧ Fr None' w w' :=
  (Lines.replace_any y f t w h1 (by omega) h3).mono fun _ _ ⟨a, b⟩ => ⟨a, ofLN b⟩

theorem row1_new (w : World) (z : ByteArray) : Lines.Row (w.alloc (.cells #[.string z] 9)) (some ⟨w.heap.size, 0, none⟩) [z] := fun j x hj => by
  have hj0 : j = 0 := by have := (List.getElem?_eq_some_iff.1 hj).1; simpa using this
  subst hj0
  cases hj
  exact ⟨w.heap.size, 0, rfl, by rw [World.cell?, heap_alloc_new]; rfl⟩

theorem row8 {w : World} {va : Option Addr} {n : Nat} {l : List ByteArray} {s : List UInt8} (h : Lines.bs l = Lines.pieces s ∧ l.length = n ∧ Lines.Row w va l) : Lines.bs l = Lines.pieces s ∧ l.length = n ∧ Lines.Row w va l := h

end Go.Proofs.YtcpjneejlfgkeaaGreatDoor

namespace Go.Proofs.YtcpjneejlfgkeaaGreatDoor
open Go.RowKit
set_option maxRecDepth 100000

set_option maxHeartbeats 8000000 in
theorem withToken_any (x : En) (p : Pr) (ua : Option Addr) (um uc : Nat) (vo vn : Value) (w : World) (hx : StrsAt w (.slice ua um uc) x.lines) (ho : StrsAt w vo p.old) (hn : StrsAt w vn p.new) (hk : p.kind = 8) (l1 : x.lines.length ≤ 900000) (l2 : ∀ y ∈ x.lines, (y.size : Int) < 1000000000 ∧ y.size + y.size * p.dst.size ≤ 10000000000000) (l3 : p.src.size < 900000) :
    Calls Tryz.prog 62 #[.agg #[.string x.path, .int .i64 x.kind, .slice ua um uc, .string x.data], .agg #[.int .i64 p.kind, .string p.path, .string p.dst, .string p.src, .int .i64 p.pos, vo, vn]] w fun e w' => WithPost (withE x p) w e w' := by
  have HW := toHid8 (show withE x p = (tokensL x.lines p.src p.dst).map (fun l => { x with lines := l }) from by unfold withE; rw [if_neg (by omega), if_pos hk])
  rw [HW.out]
  clear HW hk
  have HX := toHid8 hx
  obtain ⟨P, K, l, D⟩ := x
  obtain ⟨K2, P2, T2, F2, A2, lO, lN⟩ := p
  simp only at hx ho hn HX l1 l2 l3 ⊢
  obtain ⟨pa, ca, rfl, _⟩ := ho
  obtain ⟨pb, cb, rfl, _⟩ := hn
  obtain ⟨va0, c0, e0, _, _, hrow⟩ := hx
  cases e0
  have HR := toHid8 hrow
  have HL2 := toHid8 l2
  have i1 : (l.length : Int) ≤ 900000 := by omega
  have HB3 := toHid8 l3
  clear hrow l2 l3
  generalize lO.length = no
  generalize lN.length = nn
  obtain ⟨w1, hw1⟩ : ∃ w1, w.alloc (.cells #[.string P, .int .i64 K, .slice ua l.length uc, .string D] 41) = w1 := ⟨_, rfl⟩
  obtain ⟨w2, hw2⟩ : ∃ w2, w1.alloc (.cells #[.int .i64 K2, .string P2, .string T2, .string F2, .int .i64 A2, .slice pa no ca, .slice pb nn cb] 25) = w2 := ⟨_, rfl⟩
  obtain ⟨w3, hw3⟩ : ∃ w3, w2.alloc (.cells #[.string ⟨#[]⟩, .int .i64 0, .slice none 0 0, .string ⟨#[]⟩] 41) = w3 := ⟨_, rfl⟩
  have F1 : Fr None' w w1 := hw1 ▸ Fr.alloc None' w _
  have F2' : Fr None' w1 w2 := hw2 ▸ Fr.alloc None' w1 _
  have F3 : Fr None' w2 w3 := hw3 ▸ Fr.alloc None' w2 _
  have s1 : w1.heap.size = w.heap.size + 1 := by rw [← hw1]; simp
  have s2 : w2.heap.size = w1.heap.size + 1 := by rw [← hw2]; simp
  have s3 : w3.heap.size = w2.heap.size + 1 := by rw [← hw3]; simp
  have BX : EBox w3 w.heap.size (.string P) (.int .i64 K) (.slice ua l.length uc) (.string D) := ((hw1 ▸ EBox.new w _ _ _ _ : EBox w1 _ _ _ _ _).kept F2').kept F3
  have BP : Box w3 w1.heap.size (.int .i64 K2) (.string P2) (.string T2) (.string F2) (.int .i64 A2) (.slice pa no ca) (.slice pb nn cb) := (hw2 ▸ Box.new w1 _ _ _ _ _ _ _ : Box w2 _ _ _ _ _ _ _ _).kept F3
  have BR : EBox w3 w2.heap.size (.string ⟨#[]⟩) (.int .i64 0) (.slice none 0 0) (.string ⟨#[]⟩) := hw3 ▸ EBox.new w2 _ _ _ _
  have HF := toHid8 ((F1.then7 F2').then7 F3)
  have HS := toHid8 (And.intro s1 (And.intro s2 s3))
  have HBX := toHid8 BX
  have HBP := toHid8 BP
  have HBR := toHid8 BR
  obtain ⟨x0, x1, x2, x3⟩ := BX.cells
  clear BX BP BR F1 F2' F3 s1 s2 s3
  go_enter Tryz.func62, Tryz.ntmps62
  go_wp2_with fail
  clear x0 x1 x2 x3
  go_loopw [6, 12] (fun v vi wr => ∃ (k : Nat), k ≤ l.length ∧ vi = .int .i64 k ∧ Hid (Lines.OwnS w3 wr v ((l.take k).map (repB F2 T2))) ∧ Hid (Fr None' w3 wr) ∧ Hid (∀ j (hj : j < l.length), j < k → bl T2 ∉ Lines.pieces (bl l[j]))) (fun _ vi _ => l.length - (intOf vi).toNat)
  case atStart => exact ⟨0, Nat.zero_le _, rfl, Lines.OwnS.nil _ _, Fr.refl _ _, fun j _ h => by omega⟩
  case round =>
    obtain ⟨k, hk, rfl, HO, HFr, HT⟩ := hrel
    obtain ⟨va, vc, hv, _⟩ := HO.out.slice
    subst hv
    by_cases hlt : k < l.length
    · obtain ⟨g, o, rfl, d0⟩ := HR.out k l[k] (List.getElem?_eq_getElem hlt)
      replace d0 := (HF.out.then7 HFr.out).keepCell d0 (fun e => e)
      have hm := List.getElem_mem hlt
      obtain ⟨z1, z2⟩ := HL2.out _ hm
      have HY := toHid8 (show bl T2 ∈ Lines.pieces (bl l[k]) → tokensL l F2 T2 = none from fun e => tokens_none hm e)
      have HN := toHid8 (show bl T2 ∉ Lines.pieces (bl l[k]) → ∀ j (hj : j < l.length), j < k + 1 → bl T2 ∉ Lines.pieces (bl l[j]) from fun h j hj hlt => by
        by_cases e : j = k
        · subst e; exact h
        · exact HT.out j hj (by omega))
      have HK := toHid8 (show (l.take (k + 1)).map (repB F2 T2) = (l.take k).map (repB F2 T2) ++ [repB F2 T2 l[k]] from by
        rw [List.take_succ_eq_append_getElem hlt, List.map_append]
        rfl)
      have HR3 := toHid8 (fun w' => replace8_any l[k] F2 T2 w' z1 HB3.out z2)
      generalize l[k] = y at d0 z1 HY HN HK HR3
      clear z2 hm
      have i2 : (k : Int) < (l.length : Int) := by omega
      have i3 : (0 : Int) ≤ (k : Int) := by omega
      have hmk : ((l.take k).map (repB F2 T2)).length = k := by rw [List.length_map, List.length_take]; omega
      rw [hmk] at HO
      rw [hmk]
      have HQ := toHid8 (fun w' => tokens8_any y w' z1)
      have HC := toHid8 (fun w' l' va n c (h : Lines.bs l' = Lines.pieces (bl y) ∧ l'.length = n ∧ Lines.Row w' va l') => containsS_any va n c l' T2 w' h.2.1 h.2.2 (by
        have h1 := Lines.pieces_count (bl y)
        have h2 := congrArg List.length h.1
        have h3 : (bl y).length = y.size := Array.length_toList
        unfold Lines.bs at h2
        rw [List.length_map] at h2
        have := h.2.1
        omega))
      have HS5 := toHid8 (show ∀ w', Fr None' wr w' → Fr None' wr w' ∧ w'.cell? ⟨w1.heap.size, 2, none⟩ = some (.string T2) from fun w' f => ⟨f, (HBP.out.kept (HFr.out.then7 f)).cells.2.2.1⟩)
      clear z1 hmk HT
      go_wp2_with fail
      have frr := Fr.refl None' wr
      go_region_held3 (fun w' => Fr None' wr w' ∧ w'.cell? ⟨w1.heap.size, 2, none⟩ = some (.string T2))
        (exact HS5.out _ (by (repeat (first | with_reducible assumption | with_reducible refine drew8 ?_))))
        (first
          | (go_at_call 84; with_reducible (refine (HQ.out _).mono ?_); rintro e w4 ⟨l', va4, n4, c4, rfl, HM, f4⟩; have g4 := Fr.then7 (show Fr None' wr _ by (repeat (first | with_reducible assumption | with_reducible refine drew8 ?_))) f4)
          | (go_at_call 83; with_reducible (refine (HC.out _ l' va4 n4 c4 (row8 (Hid.out HM))).mono ?_); rintro e w5 ⟨b5, rfl, hb5, rfl⟩)
          | fail)
      all_goals
        have HF4 := toHid8 (HFr.out.then7 g4)
        have HM2 := toHid8 (hb5.trans (tok_in (Hid.out HM).1 T2))
        have HO4 := toHid8 (HO.out.fr (toLN g4))
        clear hb5 HM f4 g4 frr HS5 HQ HC HO d0
        cases b5 with
        | true =>
          have HE := toHid8 (HY.out (HM2.out.1 rfl))
          clear HY HN HK HR3 HM2 HO4
          obtain ⟨x0, x1, x2, x3⟩ := (HBX.out.kept HF4.out).cells
          have BR4 := HBR.out.kept HF4.out
          obtain ⟨r0, r1, r2, r3⟩ := BR4.cells
          have rz := BR4.frozen
          have HBR4 := toHid8 BR4
          clear BR4
          go_wp2_with fail
          obtain ⟨hld, hfs, hfr⟩ := fin_entry (HF.out.then7 HF4.out) HBR4.out (by have := HS.out; omega) (.string P) (.int .i64 K) (.slice (some ⟨g, o, none⟩) l.length uc) (.string D)
          refine bodyPost_ret (v := .tuple #[.agg #[.string P, .int .i64 K, .slice (some ⟨g, o, none⟩) l.length uc, .string D], .bool false]) (by rw [results_cell_tmp rfl]; simp [asAddr, Result.andThen, hld]) rfl ?_
          rw [HE.out]
          exact ⟨P, K, some ⟨g, o, none⟩, l.length, uc, D, false, rfl, rfl, fun y hy => (by cases hy), hfr⟩
        | false =>
          have HN2 := toHid8 (HN.out (fun e => by have := HM2.out.2 e; cases this))
          obtain ⟨q0, q1, q2, q3, q4, q5, q6⟩ := (HBP.out.kept HF4.out).cells
          have cR := HR3.out w4
          clear HY HN HR3 HM2
          go_wp2_with fail
          with_reducible refine cR.mono ?_
          rintro e w5 ⟨rfl, f5⟩
          have HF5 := toHid8 (HF4.out.then7 f5)
          have HO5 := toHid8 (HO4.out.fr (toLN f5))
          clear cR q0 q1 q2 q3 q4 q5 q6 f5 HO4 HF4
          have HRW := toHid8 (row1_new w5 (repB F2 T2 y))
          generalize repB F2 T2 y = z at *
          go_wp2_with (first
            | (at_builtin; refine Lines.append_str rfl _ _ rfl rfl (HO5.out.alloc _) (toLN (HF5.out.then7 (Fr.alloc None' _ _))) (m := [z]) rfl HRW.out (fun e => by cases e) (by simp; omega) ?_; intro v6 w6 O6 F6 f6)
            | go_in)
          refine ⟨⟨k + 1, by omega, by go_num, ?_, ofLN F6, HN2.out⟩, by simp [intOf]; omega⟩
          show Lines.OwnS _ _ _ _
          rw [HK.out]
          exact O6
    · have e : k = l.length := by omega
      subst e
      have HE := toHid8 (tokens_all (f := F2) (t := T2) (l := l) (fun j hj => HT.out j hj hj))
      have HO2 := toHid8 (show Lines.OwnS w3 wr (.slice va (l.map (repB F2 T2)).length vc) (l.map (repB F2 T2)) from by
        have h := HO.out
        rw [List.take_length] at h
        exact h)
      rw [List.take_length]
      obtain ⟨x0, x1, x2, x3⟩ := (HBX.out.kept HFr.out).cells
      have xz := (HBX.out.kept HFr.out).frozen
      obtain ⟨w5, hw5⟩ : ∃ w5, wr.setCell ⟨w.heap.size, 2, none⟩ (.slice va (l.map (repB F2 T2)).length vc) = w5 := ⟨_, rfl⟩
      have F5 : Fr (fun k => k = w.heap.size) wr w5 := hw5 ▸ Fr.setCell (M := fun k => k = w.heap.size) (a := ⟨w.heap.size, 2, none⟩) wr rfl _
      have BX5 : EBox w5 w.heap.size (.string P) (.int .i64 K) (.slice va (l.map (repB F2 T2)).length vc) (.string D) := hw5 ▸ (HBX.out.kept HFr.out).set2 _
      have BR5 : EBox w5 w2.heap.size (.string ⟨#[]⟩) (.int .i64 0) (.slice none 0 0) (.string ⟨#[]⟩) := (HBR.out.kept HFr.out).fr F5 (fun e => by have e : w2.heap.size = w.heap.size := e; have := HS.out; omega)
      obtain ⟨e0, e1, e2, e3⟩ := BX5.cells
      obtain ⟨r0, r1, r2, r3⟩ := BR5.cells
      have rz := BR5.frozen
      have HBR5 := toHid8 BR5
      have HF5 := toHid8 ((HF.out.then7 HFr.out).trans F5 (fun i e => Or.inr (by have e : i = w.heap.size := e; omega)))
      have HN := toHid8 (show ∀ W, Fr (fun k => k = w2.heap.size) w5 W → StrsAt W (.slice va (l.map (repB F2 T2)).length vc) (l.map (repB F2 T2)) from fun W f => by
        have hO : wr.ownsRow w3.heap.size 9 1 (.slice va (l.map (repB F2 T2)).length vc) (l.map (repB F2 T2)).length ((l.map (repB F2 T2)).map Value.string) := HO2.out
        have h4 := own_strs hO
        have hz := fun k (e : (Value.slice va (l.map (repB F2 T2)).length vc).ownBlock = some k) => own_ge hO e
        refine (h4.far F5 (fun hl k ek ek' => ?_)).far f (fun hl k ek ek' => ?_)
        · have := hz k ek; have e' : k = w.heap.size := ek'; have := HS.out; omega
        · have := hz k ek; have e' : k = w2.heap.size := ek'; have := HS.out; omega)
      clear BX5 BR5 F5 HBX HBR HO HO2 HT HR HX HBP
      generalize hmm : l.map (repB F2 T2) = M at *
      go_wp2_with fail
      obtain ⟨hld, hfs, hfr⟩ := fin_entry HF5.out HBR5.out (by have := HS.out; omega) (.string P) (.int .i64 K) (.slice va M.length vc) (.string D)
      refine bodyPost_ret (v := .tuple #[.agg #[.string P, .int .i64 K, .slice va M.length vc, .string D], .bool true]) (by rw [results_cell_tmp rfl]; simp [asAddr, Result.andThen, hld]) rfl ?_
      rw [HE.out]
      exact ⟨P, K, va, M.length, vc, D, true, rfl, rfl, fun y hy => (by cases hy; exact ⟨rfl, rfl, rfl, HN.out _ hfs⟩), hfr⟩

end Go.Proofs.YtcpjneejlfgkeaaGreatDoor
