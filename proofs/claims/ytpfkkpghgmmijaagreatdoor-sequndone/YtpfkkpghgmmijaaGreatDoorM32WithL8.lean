/-
  What is proved here: the contracts that the statement stands on: WithL8, Tok8, WithT8, Chg8, Do8, All8, Great7, Rules10, Table10. Conditions: as each theorem names them.
-/
import Derived.Test.YtpfkkpghgmmijaaGreatDoorM31With8
import Derived.Test.YtpfkkpghgmmijaaGreatDoorM6FConcat
import Derived.Test.YtpfkkpghgmmijaaGreatDoorM23LIter
import Derived.Deep.RegionHeld3
import Derived.Test.YtpfkkpghgmmijaaGreatDoorM10Box9
import Derived.Test.YtpfkkpghgmmijaaGreatDoorMRule8
import Derived.Test.YtpfkkpghgmmijaaGreatDoorM30Empty8
import Derived.Test.YtpfkkpghgmmijaaGreatDoorM24RightT
import Derived.Test.YtpfkkpghgmmijaaGreatDoorM25RFindE
import Derived.Test.YtpfkkpghgmmijaaGreatDoorM20Small10
namespace Go.Proofs.YtpfkkpghgmmijaaGreatDoor
open Go.RowKit
set_option maxRecDepth 100000

theorem ofD {w w' : World} (h : Diff.Fr Diff.None' w w') : Fr None' w w' := ⟨h.os, h.tape, h.output, h.size, fun k hk hm => h.block k hk (fun e => hm e)⟩

theorem hunk_apply (l o n : List ByteArray) (x : Int) : Diff.applyI l x o n = hunkL l x o n := by
  unfold Diff.applyI Diff.apply1 hunkL
  by_cases h : 0 ≤ x
  · rw [if_pos h]
    simp only [h, true_and]
  · rw [if_neg h, if_neg (fun e => h e.1)]

theorem dapply_any (l o n : List ByteArray) (x : Int) (ua : Option Addr) (um uc : Nat) (po pn : Option Addr) (no nn co cn : Nat) (w : World) (hl : StrsAt w (.slice ua um uc) l) (ho : StrsAt w (.slice po no co) o) (hn : StrsAt w (.slice pn nn cn) n) (l1 : l.length ≤ 40000000) (l2 : o.length ≤ 40000000) (l3 : n.length ≤ 40000000) (hx : -9223372036854775808 ≤ x ∧ x < 9223372036854775808) :
    Calls Tryz.prog 121 #[.slice ua um uc, .agg #[.int .i64 x, .slice po no co, .slice pn nn cn]] w fun e w' => ∃ (va : Option Addr) (m c : Nat) (b : Bool), e = .returned (.tuple #[.slice va m c, .bool b]) ∧ Hid (b = (hunkL l x o n).isSome) ∧ Hid (∀ l', hunkL l x o n = some l' → StrsAt w' (.slice va m c) l') ∧ Hid (∀ l', hunkL l x o n = some l' → ∀ k, (Value.slice va m c).ownBlock = some k → w.heap.size ≤ k) ∧ Fr None' w w' := by
  obtain ⟨va, c, e1, a1, a2, a3⟩ := hl
  obtain ⟨vb, c', e2, b1, b2, b3⟩ := ho
  obtain ⟨vc, c'', e3, d1, d2, d3⟩ := hn
  cases e1; cases e2; cases e3
  refine (Diff.apply_any ua po pn l.length uc o.length co n.length cn l o n x w rfl rfl rfl a3 b3 d3 a2 a1 b2 b1 d2 d1 l1 l2 l3 hx).mono ?_
  rintro e w' ⟨f, h⟩
  rw [hunk_apply] at h
  cases hr : hunkL l x o n with
  | none =>
    rw [hr] at h
    exact ⟨none, 0, 0, false, h, rfl, (fun l' e => by cases e), (fun l' e => by cases e), ofD f⟩
  | some l' =>
    rw [hr] at h
    obtain ⟨v, he, hO⟩ := h
    have hO : w'.ownsRow w.heap.size 9 1 v l'.length (l'.map Value.string) := by
      have := hO
      unfold Diff.OwnV at this
      rw [List.length_map] at this
      exact this
    have hs := own_strs hO
    have hge := fun k (e : v.ownBlock = some k) => own_ge hO e
    obtain ⟨va', c', rfl, q⟩ := hs
    exact ⟨va', l'.length, c', true, he, rfl, (fun l'' e => by cases e; exact ⟨va', c', rfl, q⟩), (fun l'' _ => hge), ofD f⟩

set_option maxHeartbeats 4000000 in
theorem withLines_any (x : En) (p : Pr) (ua : Option Addr) (um uc : Nat) (vo vn : Value) (w : World) (hx : StrsAt w (.slice ua um uc) x.lines) (ho : StrsAt w vo p.old) (hn : StrsAt w vn p.new) (hk : p.kind = 7) (l1 : x.lines.length ≤ 40000000) (l2 : p.old.length ≤ 40000000) (l3 : p.new.length ≤ 40000000) (hp : -9223372036854775808 ≤ p.pos ∧ p.pos < 9223372036854775808) :
    Calls Tryz.prog 87 #[.agg #[.string x.path, .int .i64 x.kind, .slice ua um uc, .string x.data], .agg #[.int .i64 p.kind, .string p.path, .string p.dst, .string p.src, .int .i64 p.pos, vo, vn]] w fun e w' => WithPost (withE x p) w e w' := by
  have HW := toHid8 (show withE x p = (hunkL x.lines p.pos p.old p.new).map (fun l => { x with lines := l }) from by unfold withE; rw [if_pos hk])
  rw [HW.out]
  obtain ⟨pa, ca, rfl, ho'⟩ := ho
  obtain ⟨pb, cb, rfl, hn'⟩ := hn
  have HA := toHid8 (fun w' (f : Fr None' w w') => dapply_any x.lines p.old p.new p.pos ua um uc pa pb p.old.length p.new.length ca cb w' (hx.kept f) (StrsAt.kept ⟨pa, ca, rfl, ho'⟩ f) (StrsAt.kept ⟨pb, cb, rfl, hn'⟩ f) l1 l2 l3 hp)
  clear HW hk hx ho' hn' l1 l2 l3 hp
  obtain ⟨P, K, l, D⟩ := x
  obtain ⟨K2, P2, T2, F2, A2, lO, lN⟩ := p
  simp only at HA ⊢
  generalize hunkL l A2 lO lN = R at HA ⊢
  generalize lO.length = no at HA ⊢
  generalize lN.length = nn at HA ⊢
  obtain ⟨w1, hw1⟩ : ∃ w1, w.alloc (.cells #[.string P, .int .i64 K, .slice ua um uc, .string D] 57) = w1 := ⟨_, rfl⟩
  obtain ⟨w2, hw2⟩ : ∃ w2, w1.alloc (.cells #[.int .i64 K2, .string P2, .string T2, .string F2, .int .i64 A2, .slice pa no ca, .slice pb nn cb] 45) = w2 := ⟨_, rfl⟩
  obtain ⟨w3, hw3⟩ : ∃ w3, w2.alloc (.cells #[.string ⟨#[]⟩, .int .i64 0, .slice none 0 0, .string ⟨#[]⟩] 57) = w3 := ⟨_, rfl⟩
  have F1 : Fr None' w w1 := hw1 ▸ Fr.alloc None' w _
  have F2' : Fr None' w1 w2 := hw2 ▸ Fr.alloc None' w1 _
  have F3 : Fr None' w2 w3 := hw3 ▸ Fr.alloc None' w2 _
  have s1 : w1.heap.size = w.heap.size + 1 := by rw [← hw1]; simp
  have s2 : w2.heap.size = w1.heap.size + 1 := by rw [← hw2]; simp
  have s3 : w3.heap.size = w2.heap.size + 1 := by rw [← hw3]; simp
  have BX : EBox w3 w.heap.size (.string P) (.int .i64 K) (.slice ua um uc) (.string D) := ((hw1 ▸ EBox.new w _ _ _ _ : EBox w1 _ _ _ _ _).kept F2').kept F3
  have BP : Box w3 w1.heap.size (.int .i64 K2) (.string P2) (.string T2) (.string F2) (.int .i64 A2) (.slice pa no ca) (.slice pb nn cb) := (hw2 ▸ Box.new w1 _ _ _ _ _ _ _ : Box w2 _ _ _ _ _ _ _ _).kept F3
  have BR : EBox w3 w2.heap.size (.string ⟨#[]⟩) (.int .i64 0) (.slice none 0 0) (.string ⟨#[]⟩) := hw3 ▸ EBox.new w2 _ _ _ _
  have HF := toHid8 ((F1.then7 F2').then7 F3)
  have HS := toHid8 (And.intro s1 (And.intro s2 s3))
  obtain ⟨x0, x1, x2, x3⟩ := BX.cells
  obtain ⟨p0, p1, p2, p3, p4, p5, p6⟩ := BP.cells
  have HBX := toHid8 BX
  have HBR := toHid8 BR
  have cA := HA.out w3 HF.out
  clear BX BP BR F1 F2' F3 s1 s2 s3 HA
  go_enter Tryz.func87, Tryz.ntmps87
  go_wp2_with fail
  with_reducible refine cA.mono ?_
  rintro e w4 ⟨va, m, c, b, rfl, Hb, HL, HZ, f4⟩
  clear cA x0 x1 x2 x3 p0 p1 p2 p3 p4 p5 p6
  have BX4 := HBX.out.kept f4
  have BR4 := HBR.out.kept f4
  obtain ⟨x0, x1, x2, x3⟩ := BX4.cells
  have xz := BX4.frozen
  obtain ⟨w5, hw5⟩ : ∃ w5, w4.setCell ⟨w.heap.size, 2, none⟩ (.slice va m c) = w5 := ⟨_, rfl⟩
  have F5 : Fr (fun k => k = w.heap.size) w4 w5 := hw5 ▸ Fr.setCell (M := fun k => k = w.heap.size) (a := ⟨w.heap.size, 2, none⟩) w4 rfl _
  have BX5 : EBox w5 w.heap.size (.string P) (.int .i64 K) (.slice va m c) (.string D) := hw5 ▸ BX4.set2 _
  have BR5 : EBox w5 w2.heap.size (.string ⟨#[]⟩) (.int .i64 0) (.slice none 0 0) (.string ⟨#[]⟩) := BR4.fr F5 (fun e => by have e : w2.heap.size = w.heap.size := e; have := HS.out; omega)
  obtain ⟨e0, e1, e2, e3⟩ := BX5.cells
  obtain ⟨r0, r1, r2, r3⟩ := BR5.cells
  have rz := BR5.frozen
  have HBR5 := toHid8 BR5
  have HF5 := toHid8 ((HF.out.then7 f4).trans F5 (fun i e => Or.inr (by have e : i = w.heap.size := e; omega)))
  have HN := toHid8 (show ∀ l', R = some l' → ∀ W, Fr (fun k => k = w2.heap.size) w5 W → StrsAt W (.slice va m c) l' from fun l' e W f => by
    have h4 := HL.out l' e
    have hz := HZ.out l' e
    refine (h4.far F5 (fun hl k ek ek' => ?_)).far f (fun hl k ek ek' => ?_)
    · have := hz k ek; have e' : k = w.heap.size := ek'; have := HS.out; omega
    · have := hz k ek; have e' : k = w2.heap.size := ek'; have := HS.out; omega)
  clear BX4 BR4 BX5 BR5 F5 HL f4 HBX HBR
  go_wp2_with fail
  obtain ⟨hld, hfs, hfr⟩ := fin_entry HF5.out HBR5.out (by have := HS.out; omega) (.string P) (.int .i64 K) (.slice va m c) (.string D)
  refine bodyPost_ret (v := .tuple #[.agg #[.string P, .int .i64 K, .slice va m c, .string D], .bool b]) (by rw [results_cell_tmp rfl]; simp [asAddr, Result.andThen, hld]) rfl ?_
  refine ⟨P, K, va, m, c, D, b, rfl, ?_, fun y hy => ?_, hfr⟩
  · show b = _
    rw [Hb.out]
    cases R <;> rfl
  · obtain ⟨l', e, rfl⟩ := Option.map_eq_some_iff.1 hy
    exact ⟨rfl, rfl, rfl, HN.out l' e _ hfs⟩

end Go.Proofs.YtpfkkpghgmmijaaGreatDoor

namespace Go.Proofs.YtpfkkpghgmmijaaGreatDoor
open Go.RowKit
set_option maxRecDepth 100000

set_option maxHeartbeats 1000000 in
theorem indexS_any (va : Option Addr) (n c : Nat) (l : List ByteArray) (t : ByteArray) (w : World) (hl : l.length = n) (h : Lines.Row w va l) (hn : n ≤ 1000000000) :
    Calls Tryz.prog 158 #[.slice va n c, .string t] w fun e w' => ∃ z : Int, e = .returned (.int .i64 z) ∧ (0 ≤ z ↔ t ∈ l) ∧ w = w' := by
  have HL := toHid8 hl
  have HR := toHid8 h
  have i1 : (n : Int) ≤ 1000000000 := by omega
  clear hl h
  go_enter Tryz.func158, Tryz.ntmps158
  go_wp2_with fail
  go_loopw [8] (fun vi wr => ∃ k : Nat, k ≤ n ∧ vi = .int .i64 k ∧ wr = w ∧ Hid (∀ j (hj : j < l.length), j < k → ¬ l[j] = t)) (fun vi _ => n - (intOf vi).toNat)
  case atStart => exact ⟨0, Nat.zero_le _, rfl, rfl, fun j _ h => by omega⟩
  case round =>
    obtain ⟨k, hk, rfl, hw, HT⟩ := hrel
    subst hw
    by_cases hlt : k < n
    · have hkL : k < l.length := by rw [HL.out]; exact hlt
      obtain ⟨g, o, rfl, d0⟩ := HR.out k l[k] (List.getElem?_eq_getElem hkL)
      have HY := toHid8 (show l[k] = t → t ∈ l from fun e => e ▸ List.getElem_mem hkL)
      have HN := toHid8 (show ¬ l[k] = t → ∀ j (hj : j < l.length), j < k + 1 → ¬ l[j] = t from fun h j hj hlt => by
        by_cases e : j = k
        · subst e; exact h
        · exact HT.out j hj (by omega))
      generalize l[k] = y at d0 HY HN
      have i2 : (k : Int) < (n : Int) := by omega
      have i3 : (0 : Int) ≤ (k : Int) := by omega
      by_cases e : t = y
      · subst e
        have HM := toHid8 (HY.out rfl)
        clear HY HN HT
        go_wp2_with fail
        go_ret
        exact ⟨k, rfl, ⟨fun _ => HM.out, fun _ => i3⟩, rfl⟩
      · obtain ⟨s1, s2⟩ := str_no7 e
        have HN2 := toHid8 (HN.out (fun h => e h.symm))
        clear HY HN HT e
        go_wp2_with fail
        exact ⟨⟨k + 1, by omega, by go_num, trivial, HN2.out⟩, by simp [intOf]; omega⟩
    · have e : k = n := by omega
      subst e
      have HM := toHid8 (show ¬ t ∈ l from fun hm => by
        obtain ⟨j, hj, e⟩ := List.getElem_of_mem hm
        exact HT.out j hj (by rw [← HL.out]; exact hj) e)
      clear HT
      go_wp2_with fail
      go_ret
      exact ⟨-1, rfl, ⟨fun h => absurd h (by decide), fun h => absurd h HM.out⟩, rfl⟩

set_option maxHeartbeats 1000000 in
theorem containsS_any (va : Option Addr) (n c : Nat) (l : List ByteArray) (t : ByteArray) (w : World) (hl : l.length = n) (h : Lines.Row w va l) (hn : n ≤ 1000000000) :
    Calls Tryz.prog 123 #[.slice va n c, .string t] w fun e w' => ∃ b : Bool, e = .returned (.bool b) ∧ (b = true ↔ t ∈ l) ∧ w = w' := by
  have cI := indexS_any va n c l t w hl h hn
  clear hl h hn
  go_enter Tryz.func123, Tryz.ntmps123
  go_wp2_with fail
  refine cI.mono ?_
  rintro e w2 ⟨z, rfl, hz, rfl⟩
  clear cI
  go_wp2_with fail
  go_ret
  refine ⟨decide (0 ≤ z), ?_, ?_, rfl⟩
  · rfl
  · rw [decide_eq_true_eq]; exact hz

theorem tok_in {l : List ByteArray} {s : List UInt8} (h : Lines.bs l = Lines.pieces s) (t : ByteArray) : (t ∈ l) ↔ bl t ∈ Lines.pieces s := by
  rw [← h]
  unfold Lines.bs
  constructor
  · intro e; exact List.mem_map.2 ⟨t, e, rfl⟩
  · intro e
    obtain ⟨y, hy, e⟩ := List.mem_map.1 e
    rw [← bl_inj (a := y) (b := t) e]
    exact hy

theorem Lines.pieces_count (s : Lines.Bs) : (Lines.pieces s).length ≤ s.length := by
  have h1 := (Lines.pieces_all s).1
  have h2 := (Lines.pieces_all s).2
  have h3 := Lines.good_some h1
  generalize Lines.pieces s = L at *
  rw [← h2]
  clear h1 h2
  induction L with
  | nil => exact Nat.zero_le _
  | cons p L ih =>
    have := ih (fun q hq => h3 q (List.mem_cons_of_mem _ hq))
    have hp := h3 p (List.mem_cons_self ..)
    have : 0 < p.length := List.length_pos_iff.2 hp
    simp only [List.length_cons, List.flatten_cons, List.length_append]
    omega

theorem drew8 {w W : World} (h : Fr None' w W) : Fr None' w W.drew := h.then7 (Fr.drew None' _)

def repB (f t y : ByteArray) : ByteArray := ⟨(Lines.replace (bl y) (bl f) (bl t)).toArray⟩

theorem tokens_none {l : List ByteArray} {f t y : ByteArray} (hy : y ∈ l) (h : bl t ∈ Lines.pieces (bl y)) : tokensL l f t = none := by
  unfold tokensL
  rw [if_pos]
  exact List.any_eq_true.2 ⟨y, hy, by simpa using h⟩

theorem tokens_all {l : List ByteArray} {f t : ByteArray} (h : ∀ j (hj : j < l.length), bl t ∉ Lines.pieces (bl l[j])) : tokensL l f t = some (l.map (repB f t)) := by
  unfold tokensL
  rw [if_neg]
  · rfl
  · intro e
    obtain ⟨y, hy, e⟩ := List.any_eq_true.1 e
    obtain ⟨j, hj, rfl⟩ := List.getElem_of_mem hy
    exact h j hj (by simpa using e)

theorem tokens8_any (s : ByteArray) (w : World) (hs : (s.size : Int) < 1000000000) : Calls Tryz.prog 124 #[.string s] w fun e w' => ∃ (l : List ByteArray) (va : Option Addr) (n c : Nat), e = .returned (.slice va n c) ∧ Hid (Lines.bs l = Lines.pieces (bl s) ∧ l.length = n ∧ Lines.Row w' va l) ∧ Fr None' w w' :=
  (Lines.tokens_any s w hs).mono fun e w' ⟨v, he, hm⟩ => by
    obtain ⟨l, h1, va, c, rfl, _, h2⟩ := hm.is
    exact ⟨l, va, l.length, c, he, ⟨h1, rfl, h2⟩, ofLN hm.fr⟩

theorem replace8_any (y f t : ByteArray) (w : World) (h1 : (y.size : Int) < 1000000000) (h2 : f.size < 900000) (h3 : y.size + y.size * t.size ≤ 10000000000000) : Calls Tryz.prog 125 #[.string y, .string f, .string t] w fun e w' => e = .returned (.string (repB f t y)) ∧ Fr None' w w' :=
  (Lines.replace_any y f t w h1 (by omega) h3).mono fun _ _ ⟨a, b⟩ => ⟨a, ofLN b⟩

theorem row1_new (w : World) (z : ByteArray) : Lines.Row (w.alloc (.cells #[.string z] 9)) (some ⟨w.heap.size, 0, none⟩) [z] := fun j x hj => by
  have hj0 : j = 0 := by have := (List.getElem?_eq_some_iff.1 hj).1; simpa using this
  subst hj0
  cases hj
  exact ⟨w.heap.size, 0, rfl, by rw [World.cell?, heap_alloc_new]; rfl⟩

theorem row8 {w : World} {va : Option Addr} {n : Nat} {l : List ByteArray} {s : List UInt8} (h : Lines.bs l = Lines.pieces s ∧ l.length = n ∧ Lines.Row w va l) : Lines.bs l = Lines.pieces s ∧ l.length = n ∧ Lines.Row w va l := h

end Go.Proofs.YtpfkkpghgmmijaaGreatDoor

namespace Go.Proofs.YtpfkkpghgmmijaaGreatDoor
open Go.RowKit
set_option maxRecDepth 100000

set_option maxHeartbeats 8000000 in
theorem withToken_any (x : En) (p : Pr) (ua : Option Addr) (um uc : Nat) (vo vn : Value) (w : World) (hx : StrsAt w (.slice ua um uc) x.lines) (ho : StrsAt w vo p.old) (hn : StrsAt w vn p.new) (hk : p.kind = 8) (l1 : x.lines.length ≤ 900000) (l2 : ∀ y ∈ x.lines, (y.size : Int) < 1000000000 ∧ y.size + y.size * p.dst.size ≤ 10000000000000) (l3 : p.src.size < 900000) :
    Calls Tryz.prog 89 #[.agg #[.string x.path, .int .i64 x.kind, .slice ua um uc, .string x.data], .agg #[.int .i64 p.kind, .string p.path, .string p.dst, .string p.src, .int .i64 p.pos, vo, vn]] w fun e w' => WithPost (withE x p) w e w' := by
  have HW := toHid8 (show withE x p = (tokensL x.lines p.src p.dst).map (fun l => { x with lines := l }) from by unfold withE; rw [if_neg (by omega), if_pos hk])
  rw [HW.out]
  clear HW hk
  have HX := toHid8 hx
  obtain ⟨P, K, l, D⟩ := x
  obtain ⟨K2, P2, T2, F2, A2, lO, lN⟩ := p
  simp only at hx ho hn HX l1 l2 l3 ⊢
  obtain ⟨pa, ca, rfl, _⟩ := ho
  obtain ⟨pb, cb, rfl, _⟩ := hn
  obtain ⟨va0, c0, e0, _, _, hrow⟩ := hx
  cases e0
  have HR := toHid8 hrow
  have HL2 := toHid8 l2
  have i1 : (l.length : Int) ≤ 900000 := by omega
  have HB3 := toHid8 l3
  clear hrow l2 l3
  generalize lO.length = no
  generalize lN.length = nn
  obtain ⟨w1, hw1⟩ : ∃ w1, w.alloc (.cells #[.string P, .int .i64 K, .slice ua l.length uc, .string D] 57) = w1 := ⟨_, rfl⟩
  obtain ⟨w2, hw2⟩ : ∃ w2, w1.alloc (.cells #[.int .i64 K2, .string P2, .string T2, .string F2, .int .i64 A2, .slice pa no ca, .slice pb nn cb] 45) = w2 := ⟨_, rfl⟩
  obtain ⟨w3, hw3⟩ : ∃ w3, w2.alloc (.cells #[.string ⟨#[]⟩, .int .i64 0, .slice none 0 0, .string ⟨#[]⟩] 57) = w3 := ⟨_, rfl⟩
  have F1 : Fr None' w w1 := hw1 ▸ Fr.alloc None' w _
  have F2' : Fr None' w1 w2 := hw2 ▸ Fr.alloc None' w1 _
  have F3 : Fr None' w2 w3 := hw3 ▸ Fr.alloc None' w2 _
  have s1 : w1.heap.size = w.heap.size + 1 := by rw [← hw1]; simp
  have s2 : w2.heap.size = w1.heap.size + 1 := by rw [← hw2]; simp
  have s3 : w3.heap.size = w2.heap.size + 1 := by rw [← hw3]; simp
  have BX : EBox w3 w.heap.size (.string P) (.int .i64 K) (.slice ua l.length uc) (.string D) := ((hw1 ▸ EBox.new w _ _ _ _ : EBox w1 _ _ _ _ _).kept F2').kept F3
  have BP : Box w3 w1.heap.size (.int .i64 K2) (.string P2) (.string T2) (.string F2) (.int .i64 A2) (.slice pa no ca) (.slice pb nn cb) := (hw2 ▸ Box.new w1 _ _ _ _ _ _ _ : Box w2 _ _ _ _ _ _ _ _).kept F3
  have BR : EBox w3 w2.heap.size (.string ⟨#[]⟩) (.int .i64 0) (.slice none 0 0) (.string ⟨#[]⟩) := hw3 ▸ EBox.new w2 _ _ _ _
  have HF := toHid8 ((F1.then7 F2').then7 F3)
  have HS := toHid8 (And.intro s1 (And.intro s2 s3))
  have HBX := toHid8 BX
  have HBP := toHid8 BP
  have HBR := toHid8 BR
  obtain ⟨x0, x1, x2, x3⟩ := BX.cells
  clear BX BP BR F1 F2' F3 s1 s2 s3
  go_enter Tryz.func89, Tryz.ntmps89
  go_wp2_with fail
  clear x0 x1 x2 x3
  go_loopw [6, 12] (fun v vi wr => ∃ (k : Nat), k ≤ l.length ∧ vi = .int .i64 k ∧ Hid (Lines.OwnS w3 wr v ((l.take k).map (repB F2 T2))) ∧ Hid (Fr None' w3 wr) ∧ Hid (∀ j (hj : j < l.length), j < k → bl T2 ∉ Lines.pieces (bl l[j]))) (fun _ vi _ => l.length - (intOf vi).toNat)
  case atStart => exact ⟨0, Nat.zero_le _, rfl, Lines.OwnS.nil _ _, Fr.refl _ _, fun j _ h => by omega⟩
  case round =>
    obtain ⟨k, hk, rfl, HO, HFr, HT⟩ := hrel
    obtain ⟨va, vc, hv, _⟩ := HO.out.slice
    subst hv
    by_cases hlt : k < l.length
    · obtain ⟨g, o, rfl, d0⟩ := HR.out k l[k] (List.getElem?_eq_getElem hlt)
      replace d0 := (HF.out.then7 HFr.out).keepCell d0 (fun e => e)
      have hm := List.getElem_mem hlt
      obtain ⟨z1, z2⟩ := HL2.out _ hm
      have HY := toHid8 (show bl T2 ∈ Lines.pieces (bl l[k]) → tokensL l F2 T2 = none from fun e => tokens_none hm e)
      have HN := toHid8 (show bl T2 ∉ Lines.pieces (bl l[k]) → ∀ j (hj : j < l.length), j < k + 1 → bl T2 ∉ Lines.pieces (bl l[j]) from fun h j hj hlt => by
        by_cases e : j = k
        · subst e; exact h
        · exact HT.out j hj (by omega))
      have HK := toHid8 (show (l.take (k + 1)).map (repB F2 T2) = (l.take k).map (repB F2 T2) ++ [repB F2 T2 l[k]] from by
        rw [List.take_succ_eq_append_getElem hlt, List.map_append]
        rfl)
      have HR3 := toHid8 (fun w' => replace8_any l[k] F2 T2 w' z1 HB3.out z2)
      generalize l[k] = y at d0 z1 HY HN HK HR3
      clear z2 hm
      have i2 : (k : Int) < (l.length : Int) := by omega
      have i3 : (0 : Int) ≤ (k : Int) := by omega
      have hmk : ((l.take k).map (repB F2 T2)).length = k := by rw [List.length_map, List.length_take]; omega
      rw [hmk] at HO
      rw [hmk]
      have HQ := toHid8 (fun w' => tokens8_any y w' z1)
      have HC := toHid8 (fun w' l' va n c (h : Lines.bs l' = Lines.pieces (bl y) ∧ l'.length = n ∧ Lines.Row w' va l') => containsS_any va n c l' T2 w' h.2.1 h.2.2 (by
        have h1 := Lines.pieces_count (bl y)
        have h2 := congrArg List.length h.1
        have h3 : (bl y).length = y.size := Array.length_toList
        unfold Lines.bs at h2
        rw [List.length_map] at h2
        have := h.2.1
        omega))
      have HS5 := toHid8 (show ∀ w', Fr None' wr w' → Fr None' wr w' ∧ w'.cell? ⟨w1.heap.size, 2, none⟩ = some (.string T2) from fun w' f => ⟨f, (HBP.out.kept (HFr.out.then7 f)).cells.2.2.1⟩)
      clear z1 hmk HT
      go_wp2_with fail
      have frr := Fr.refl None' wr
      go_region_held3 (fun w' => Fr None' wr w' ∧ w'.cell? ⟨w1.heap.size, 2, none⟩ = some (.string T2))
        (exact HS5.out _ (by (repeat (first | with_reducible assumption | with_reducible refine drew8 ?_))))
        (first
          | (go_at_call 124; with_reducible (refine (HQ.out _).mono ?_); rintro e w4 ⟨l', va4, n4, c4, rfl, HM, f4⟩; have g4 := Fr.then7 (show Fr None' wr _ by (repeat (first | with_reducible assumption | with_reducible refine drew8 ?_))) f4)
          | (go_at_call 123; with_reducible (refine (HC.out _ l' va4 n4 c4 (row8 (Hid.out HM))).mono ?_); rintro e w5 ⟨b5, rfl, hb5, rfl⟩)
          | fail)
      all_goals
        have HF4 := toHid8 (HFr.out.then7 g4)
        have HM2 := toHid8 (hb5.trans (tok_in (Hid.out HM).1 T2))
        have HO4 := toHid8 (HO.out.fr (toLN g4))
        clear hb5 HM f4 g4 frr HS5 HQ HC HO d0
        cases b5 with
        | true =>
          have HE := toHid8 (HY.out (HM2.out.1 rfl))
          clear HY HN HK HR3 HM2 HO4
          obtain ⟨x0, x1, x2, x3⟩ := (HBX.out.kept HF4.out).cells
          have BR4 := HBR.out.kept HF4.out
          obtain ⟨r0, r1, r2, r3⟩ := BR4.cells
          have rz := BR4.frozen
          have HBR4 := toHid8 BR4
          clear BR4
          go_wp2_with fail
          obtain ⟨hld, hfs, hfr⟩ := fin_entry (HF.out.then7 HF4.out) HBR4.out (by have := HS.out; omega) (.string P) (.int .i64 K) (.slice (some ⟨g, o, none⟩) l.length uc) (.string D)
          refine bodyPost_ret (v := .tuple #[.agg #[.string P, .int .i64 K, .slice (some ⟨g, o, none⟩) l.length uc, .string D], .bool false]) (by rw [results_cell_tmp rfl]; simp [asAddr, Result.andThen, hld]) rfl ?_
          rw [HE.out]
          exact ⟨P, K, some ⟨g, o, none⟩, l.length, uc, D, false, rfl, rfl, fun y hy => (by cases hy), hfr⟩
        | false =>
          have HN2 := toHid8 (HN.out (fun e => by have := HM2.out.2 e; cases this))
          obtain ⟨q0, q1, q2, q3, q4, q5, q6⟩ := (HBP.out.kept HF4.out).cells
          have cR := HR3.out w4
          clear HY HN HR3 HM2
          go_wp2_with fail
          with_reducible refine cR.mono ?_
          rintro e w5 ⟨rfl, f5⟩
          have HF5 := toHid8 (HF4.out.then7 f5)
          have HO5 := toHid8 (HO4.out.fr (toLN f5))
          clear cR q0 q1 q2 q3 q4 q5 q6 f5 HO4 HF4
          have HRW := toHid8 (row1_new w5 (repB F2 T2 y))
          generalize repB F2 T2 y = z at *
          go_wp2_with (first
            | (at_builtin; refine Lines.append_str rfl _ _ rfl rfl (HO5.out.alloc _) (toLN (HF5.out.then7 (Fr.alloc None' _ _))) (m := [z]) rfl HRW.out (fun e => by cases e) (by simp; omega) ?_; intro v6 w6 O6 F6 f6)
            | go_in)
          refine ⟨⟨k + 1, by omega, by go_num, ?_, ofLN F6, HN2.out⟩, by simp [intOf]; omega⟩
          show Lines.OwnS _ _ _ _
          rw [HK.out]
          exact O6
    · have e : k = l.length := by omega
      subst e
      have HE := toHid8 (tokens_all (f := F2) (t := T2) (l := l) (fun j hj => HT.out j hj hj))
      have HO2 := toHid8 (show Lines.OwnS w3 wr (.slice va (l.map (repB F2 T2)).length vc) (l.map (repB F2 T2)) from by
        have h := HO.out
        rw [List.take_length] at h
        exact h)
      rw [List.take_length]
      obtain ⟨x0, x1, x2, x3⟩ := (HBX.out.kept HFr.out).cells
      have xz := (HBX.out.kept HFr.out).frozen
      obtain ⟨w5, hw5⟩ : ∃ w5, wr.setCell ⟨w.heap.size, 2, none⟩ (.slice va (l.map (repB F2 T2)).length vc) = w5 := ⟨_, rfl⟩
      have F5 : Fr (fun k => k = w.heap.size) wr w5 := hw5 ▸ Fr.setCell (M := fun k => k = w.heap.size) (a := ⟨w.heap.size, 2, none⟩) wr rfl _
      have BX5 : EBox w5 w.heap.size (.string P) (.int .i64 K) (.slice va (l.map (repB F2 T2)).length vc) (.string D) := hw5 ▸ (HBX.out.kept HFr.out).set2 _
      have BR5 : EBox w5 w2.heap.size (.string ⟨#[]⟩) (.int .i64 0) (.slice none 0 0) (.string ⟨#[]⟩) := (HBR.out.kept HFr.out).fr F5 (fun e => by have e : w2.heap.size = w.heap.size := e; have := HS.out; omega)
      obtain ⟨e0, e1, e2, e3⟩ := BX5.cells
      obtain ⟨r0, r1, r2, r3⟩ := BR5.cells
      have rz := BR5.frozen
      have HBR5 := toHid8 BR5
      have HF5 := toHid8 ((HF.out.then7 HFr.out).trans F5 (fun i e => Or.inr (by have e : i = w.heap.size := e; omega)))
      have HN := toHid8 (show ∀ W, Fr (fun k => k = w2.heap.size) w5 W → StrsAt W (.slice va (l.map (repB F2 T2)).length vc) (l.map (repB F2 T2)) from fun W f => by
        have hO : wr.ownsRow w3.heap.size 9 1 (.slice va (l.map (repB F2 T2)).length vc) (l.map (repB F2 T2)).length ((l.map (repB F2 T2)).map Value.string) := HO2.out
        have h4 := own_strs hO
        have hz := fun k (e : (Value.slice va (l.map (repB F2 T2)).length vc).ownBlock = some k) => own_ge hO e
        refine (h4.far F5 (fun hl k ek ek' => ?_)).far f (fun hl k ek ek' => ?_)
        · have := hz k ek; have e' : k = w.heap.size := ek'; have := HS.out; omega
        · have := hz k ek; have e' : k = w2.heap.size := ek'; have := HS.out; omega)
      clear BX5 BR5 F5 HBX HBR HO HO2 HT HR HX HBP
      generalize hmm : l.map (repB F2 T2) = M at *
      go_wp2_with fail
      obtain ⟨hld, hfs, hfr⟩ := fin_entry HF5.out HBR5.out (by have := HS.out; omega) (.string P) (.int .i64 K) (.slice va M.length vc) (.string D)
      refine bodyPost_ret (v := .tuple #[.agg #[.string P, .int .i64 K, .slice va M.length vc, .string D], .bool true]) (by rw [results_cell_tmp rfl]; simp [asAddr, Result.andThen, hld]) rfl ?_
      rw [HE.out]
      exact ⟨P, K, va, M.length, vc, D, true, rfl, rfl, fun y hy => (by cases hy; exact ⟨rfl, rfl, rfl, HN.out _ hfs⟩), hfr⟩

end Go.Proofs.YtpfkkpghgmmijaaGreatDoor

namespace Go.Proofs.YtpfkkpghgmmijaaGreatDoor
open Go.RowKit Go.Maps Go.WideMaps
set_option maxRecDepth 100000

def chgE (L : List En) (p : Pr) (k : Int) : List En × Int := if hasE L (bl p.path) k ≠ 0 then (L, hasE L (bl p.path) k) else match findE L (bl p.path) with
  | none => (L, 72)
  | some x => match withE x p with
    | none => (L, 81)
    | some y => (putE L y, 0)

theorem chgE_no {L : List En} {p : Pr} {k : Int} (h : hasE L (bl p.path) k ≠ 0) : chgE L p k = (L, hasE L (bl p.path) k) := by
  unfold chgE; rw [if_pos h]

theorem chgE_none {L : List En} {p : Pr} {k : Int} (h : hasE L (bl p.path) k = 0) {x : En} (hx : findE L (bl p.path) = some x) (hw : withE x p = none) : chgE L p k = (L, 81) := by
  unfold chgE; rw [if_neg (by simpa using h), hx]; simp only [hw]

theorem chgE_some {L : List En} {p : Pr} {k : Int} (h : hasE L (bl p.path) k = 0) {x y : En} (hx : findE L (bl p.path) = some x) (hw : withE x p = some y) : chgE L p k = (putE L y, 0) := by
  unfold chgE; rw [if_neg (by simpa using h), hx]; simp only [hw]

set_option maxHeartbeats 8000000 in
theorem change7_any (b : Nat) (T : List Th) (p : Pr) (vo vn : Value) (k : Int) (g c : Nat) (w : World) (h : ThAt w b T.length T) (hn : T.length ≤ 90000) (ho : StrsAt w vo p.old) (hw : StrsAt w vn p.new) (hp : p.path.size ≤ 1000000) (hg : w.cell? ⟨g, 0, none⟩ = some (.int .i64 k)) (hc : w.cell? ⟨c, 0, none⟩ = some (.func (.func 87) #[] #[]))
    (hf : ∀ t ∈ T, ∀ w', Fr None' w w' → Calls Tryz.prog 87 #[.agg #[.string t.x.path, .int .i64 t.x.kind, .slice t.u.1 t.u.2.1 t.u.2.2, .string t.x.data], .agg #[.int .i64 p.kind, .string p.path, .string p.dst, .string p.src, .int .i64 p.pos, vo, vn]] w' fun e w'' => WithPost (withE t.x p) w' e w'') :
    Calls Tryz.prog 120 #[.map (some b), .agg #[.int .i64 p.kind, .string p.path, .string p.dst, .string p.src, .int .i64 p.pos, vo, vn], .pointer (some ⟨g, 0, none⟩), .pointer (some ⟨c, 0, none⟩)] w fun e w' => DoPost (chgE (ens T) p k) b w e w' := by
  obtain ⟨pa, ca, rfl, _⟩ := ho
  obtain ⟨pb, cb, rfl, _⟩ := hw
  have HG := toHid8 hg
  have HC := toHid8 hc
  have HT := toHid8 h
  have HFn := toHid8 hf
  obtain ⟨w1, hw1⟩ : ∃ w1, w.alloc (.cells #[.int .i64 p.kind, .string p.path, .string p.dst, .string p.src, .int .i64 p.pos, .slice pa p.old.length ca, .slice pb p.new.length cb] 45) = w1 := ⟨_, rfl⟩
  have F1 : Fr None' w w1 := hw1 ▸ Fr.alloc None' w _
  have BP : Box w1 w.heap.size (.int .i64 p.kind) (.string p.path) (.string p.dst) (.string p.src) (.int .i64 p.pos) (.slice pa p.old.length ca) (.slice pb p.new.length cb) := hw1 ▸ Box.new w _ _ _ _ _ _ _
  obtain ⟨p0, p1, p2, p3, p4, p5, p6⟩ := BP.cells
  have g1 := F1.keepCell hg (fun e => e)
  have cF := has8_any b T.length T p.path k w1 (h.kept F1) hp
  have HB := toHid8 BP
  have HF1 := toHid8 F1
  have hkS := keyS p.path (by unfold maxLen; omega)
  clear F1 BP hg hc h hf
  by_cases hr : hasE (ens T) (bl p.path) k = 0
  · obtain ⟨x, hx, hxk⟩ := hasE_zero.1 hr
    clear hxk
    have hx' := hx
    rw [← ens_get] at hx'
    obtain ⟨t, ht, rfl⟩ := Option.map_eq_some_iff.1 hx'
    obtain ⟨htm, htk⟩ := get8_mem ht
    have HNo := toHid8 (fun (hz : withE t.x p = none) => chgE_none hr hx hz)
    have HYes := toHid8 (fun y (hz : withE t.x p = some y) => chgE_some hr hx hz)
    have HKey := toHid8 (show ∀ y, withE t.x p = some y → bl y.path = bl p.path from fun y hy => by rw [(with_facts hy).1]; exact htk)
    rw [hr] at cF
    have HW := toHid8 (HFn.out t htm)
    have HLk := toHid8 (fun w' (f : Fr None' w w') => show (Instr.lookup 59 (.map (some b)) (.string p.path) false).run Tryz.prog w' = .ok (.agg #[.string t.x.path, .int .i64 t.x.kind, .slice t.u.1 t.u.2.1 t.u.2.2, .string t.x.data]) w' from by
      have := (HT.out.kept f).look p.path (by unfold maxLen; omega)
      rw [ht] at this
      exact this)
    clear hr hx hx' ht htm htk HFn
    generalize hR : withE t.x p = R at HNo HYes HKey HW
    clear hR
    obtain ⟨⟨P, K, l, D⟩, a, m, u⟩ := t
    simp only at HW HLk
    go_enter Tryz.func120, Tryz.ntmps120
    go_wp2_with fail
    with_reducible refine cF.mono ?_
    rintro e w2 ⟨rfl, f2⟩
    clear cF p0 p1 p2 p3 p4 p5 p6 g1
    have HF2 := toHid8 (HF1.out.then7 f2)
    have HB2 := toHid8 (HB.out.kept f2)
    obtain ⟨p0, p1, p2, p3, p4, p5, p6⟩ := HB2.out.cells
    have g2 := HF2.out.keepCell HC.out (fun e => e)
    have hlk := HLk.out w2 HF2.out
    have cW := HW.out w2 HF2.out
    clear f2 HB
    go_wp2_with fail
    with_reducible refine cW.mono ?_
    rintro e w3 ⟨P', K', ua, um, uc, D', b', rfl, Hb, HN, f3⟩
    clear cW hlk p0 p1 p2 p3 p4 p5 p6 g2
    obtain ⟨p0, p1, p2, p3, p4, p5, p6⟩ := (HB2.out.kept f3).cells
    have HF3 := toHid8 (HF2.out.then7 f3)
    clear f3
    cases b' with
    | false =>
      have HR := toHid8 (show R = none from by
        have := Hb.out
        cases R with
        | none => rfl
        | some y => cases this)
      have HM := toHid8 (HT.out.kept (HF3.out.then7 (Fr.alloc None' w3 (.cells #[.string P', .int .i64 K', .slice ua um uc, .string D'] 57))))
      clear p0 p1 p2 p3 p4 p5 p6
      go_wp2_with fail
      go_ret
      rw [HNo.out HR.out]
      exact ⟨T, rfl, HM.out, rfl, (HF3.out.then7 (Fr.alloc None' _ _)).any⟩
    | true =>
      obtain ⟨y, hy⟩ : ∃ y, R = some y := by
        have := Hb.out
        cases R with
        | none => cases this
        | some y => exact ⟨y, rfl⟩
      obtain ⟨rfl, rfl, rfl, hst⟩ := HN.out y hy
      have HY := toHid8 hy
      obtain ⟨w4, hw4⟩ : ∃ w4, w3.alloc (.cells #[.string y.path, .int .i64 y.kind, .slice ua um uc, .string y.data] 57) = w4 := ⟨_, rfl⟩
      have F4 : Fr None' w3 w4 := hw4 ▸ Fr.alloc None' w3 _
      obtain ⟨e0, e1, e2, e3⟩ := (hw4 ▸ EBox.new w3 _ _ _ _ : EBox w4 w3.heap.size (.string y.path) (.int .i64 y.kind) (.slice ua um uc) (.string y.data)).cells
      replace p1 := F4.keepCell p1 (fun e => e)
      have T4 := HT.out.kept (HF3.out.then7 F4)
      have HM := toHid8 T4
      have hown := T4.map
      have HS4 := toHid8 (hst.kept F4)
      have HF4 := toHid8 (HF3.out.then7 F4)
      clear hst F4 T4 hy p0 p2 p3 p4 p5 p6 HN Hb
      go_wp2_with (first
        | (at_mapUpdate; refine wpList_mapUpdate_in _ rfl _ _ _ 59 rfl 9 57 lawS Tryz.underlying59 heldE b T.length _ rfl hown (by unfold maxLen; omega) _ _ _ rfl rfl hkS _ [] (heldE_th ⟨y, ua, um, uc⟩) ?_; intro w5 hown5 hturn5)
        | go_in)
      go_ret
      rw [HYes.out y HY.out]
      rw [← HKey.out y HY.out] at hown5
      have hP := HM.out.put (t := ⟨y, ua, um, uc⟩) HS4.out hown5 hturn5
      exact ⟨_, rfl, hP.tight, ens_put _ _, (HF4.out.any).then (Fr.turned hturn5 rfl)⟩
  · have HA := toHid8 (chgE_no (p := p) hr)
    rw [HA.out]
    generalize hasE (ens T) (bl p.path) k = r at cF hr
    have hr2 : (r == 0) = false := by simpa using hr
    clear HFn HA
    go_enter Tryz.func120, Tryz.ntmps120
    go_wp2_with fail
    with_reducible refine cF.mono ?_
    rintro e w2 ⟨rfl, f2⟩
    clear cF p0 p1 p2 p3 p4 p5 p6 g1
    have HF2 := toHid8 (HF1.out.then7 f2)
    have HM := toHid8 (HT.out.kept HF2.out)
    clear f2
    go_wp2_with fail
    go_ret
    exact ⟨T, rfl, HM.out, rfl, HF2.out.any⟩

set_option maxHeartbeats 8000000 in
theorem change8_any (b : Nat) (T : List Th) (p : Pr) (vo vn : Value) (k : Int) (g c : Nat) (w : World) (h : ThAt w b T.length T) (hn : T.length ≤ 90000) (ho : StrsAt w vo p.old) (hw : StrsAt w vn p.new) (hp : p.path.size ≤ 1000000) (hg : w.cell? ⟨g, 0, none⟩ = some (.int .i64 k)) (hc : w.cell? ⟨c, 0, none⟩ = some (.func (.func 89) #[] #[]))
    (hf : ∀ t ∈ T, ∀ w', Fr None' w w' → Calls Tryz.prog 89 #[.agg #[.string t.x.path, .int .i64 t.x.kind, .slice t.u.1 t.u.2.1 t.u.2.2, .string t.x.data], .agg #[.int .i64 p.kind, .string p.path, .string p.dst, .string p.src, .int .i64 p.pos, vo, vn]] w' fun e w'' => WithPost (withE t.x p) w' e w'') :
    Calls Tryz.prog 120 #[.map (some b), .agg #[.int .i64 p.kind, .string p.path, .string p.dst, .string p.src, .int .i64 p.pos, vo, vn], .pointer (some ⟨g, 0, none⟩), .pointer (some ⟨c, 0, none⟩)] w fun e w' => DoPost (chgE (ens T) p k) b w e w' := by
  obtain ⟨pa, ca, rfl, _⟩ := ho
  obtain ⟨pb, cb, rfl, _⟩ := hw
  have HG := toHid8 hg
  have HC := toHid8 hc
  have HT := toHid8 h
  have HFn := toHid8 hf
  obtain ⟨w1, hw1⟩ : ∃ w1, w.alloc (.cells #[.int .i64 p.kind, .string p.path, .string p.dst, .string p.src, .int .i64 p.pos, .slice pa p.old.length ca, .slice pb p.new.length cb] 45) = w1 := ⟨_, rfl⟩
  have F1 : Fr None' w w1 := hw1 ▸ Fr.alloc None' w _
  have BP : Box w1 w.heap.size (.int .i64 p.kind) (.string p.path) (.string p.dst) (.string p.src) (.int .i64 p.pos) (.slice pa p.old.length ca) (.slice pb p.new.length cb) := hw1 ▸ Box.new w _ _ _ _ _ _ _
  obtain ⟨p0, p1, p2, p3, p4, p5, p6⟩ := BP.cells
  have g1 := F1.keepCell hg (fun e => e)
  have cF := has8_any b T.length T p.path k w1 (h.kept F1) hp
  have HB := toHid8 BP
  have HF1 := toHid8 F1
  have hkS := keyS p.path (by unfold maxLen; omega)
  clear F1 BP hg hc h hf
  by_cases hr : hasE (ens T) (bl p.path) k = 0
  · obtain ⟨x, hx, hxk⟩ := hasE_zero.1 hr
    clear hxk
    have hx' := hx
    rw [← ens_get] at hx'
    obtain ⟨t, ht, rfl⟩ := Option.map_eq_some_iff.1 hx'
    obtain ⟨htm, htk⟩ := get8_mem ht
    have HNo := toHid8 (fun (hz : withE t.x p = none) => chgE_none hr hx hz)
    have HYes := toHid8 (fun y (hz : withE t.x p = some y) => chgE_some hr hx hz)
    have HKey := toHid8 (show ∀ y, withE t.x p = some y → bl y.path = bl p.path from fun y hy => by rw [(with_facts hy).1]; exact htk)
    rw [hr] at cF
    have HW := toHid8 (HFn.out t htm)
    have HLk := toHid8 (fun w' (f : Fr None' w w') => show (Instr.lookup 59 (.map (some b)) (.string p.path) false).run Tryz.prog w' = .ok (.agg #[.string t.x.path, .int .i64 t.x.kind, .slice t.u.1 t.u.2.1 t.u.2.2, .string t.x.data]) w' from by
      have := (HT.out.kept f).look p.path (by unfold maxLen; omega)
      rw [ht] at this
      exact this)
    clear hr hx hx' ht htm htk HFn
    generalize hR : withE t.x p = R at HNo HYes HKey HW
    clear hR
    obtain ⟨⟨P, K, l, D⟩, a, m, u⟩ := t
    simp only at HW HLk
    go_enter Tryz.func120, Tryz.ntmps120
    go_wp2_with fail
    with_reducible refine cF.mono ?_
    rintro e w2 ⟨rfl, f2⟩
    clear cF p0 p1 p2 p3 p4 p5 p6 g1
    have HF2 := toHid8 (HF1.out.then7 f2)
    have HB2 := toHid8 (HB.out.kept f2)
    obtain ⟨p0, p1, p2, p3, p4, p5, p6⟩ := HB2.out.cells
    have g2 := HF2.out.keepCell HC.out (fun e => e)
    have hlk := HLk.out w2 HF2.out
    have cW := HW.out w2 HF2.out
    clear f2 HB
    go_wp2_with fail
    with_reducible refine cW.mono ?_
    rintro e w3 ⟨P', K', ua, um, uc, D', b', rfl, Hb, HN, f3⟩
    clear cW hlk p0 p1 p2 p3 p4 p5 p6 g2
    obtain ⟨p0, p1, p2, p3, p4, p5, p6⟩ := (HB2.out.kept f3).cells
    have HF3 := toHid8 (HF2.out.then7 f3)
    clear f3
    cases b' with
    | false =>
      have HR := toHid8 (show R = none from by
        have := Hb.out
        cases R with
        | none => rfl
        | some y => cases this)
      have HM := toHid8 (HT.out.kept (HF3.out.then7 (Fr.alloc None' w3 (.cells #[.string P', .int .i64 K', .slice ua um uc, .string D'] 57))))
      clear p0 p1 p2 p3 p4 p5 p6
      go_wp2_with fail
      go_ret
      rw [HNo.out HR.out]
      exact ⟨T, rfl, HM.out, rfl, (HF3.out.then7 (Fr.alloc None' _ _)).any⟩
    | true =>
      obtain ⟨y, hy⟩ : ∃ y, R = some y := by
        have := Hb.out
        cases R with
        | none => cases this
        | some y => exact ⟨y, rfl⟩
      obtain ⟨rfl, rfl, rfl, hst⟩ := HN.out y hy
      have HY := toHid8 hy
      obtain ⟨w4, hw4⟩ : ∃ w4, w3.alloc (.cells #[.string y.path, .int .i64 y.kind, .slice ua um uc, .string y.data] 57) = w4 := ⟨_, rfl⟩
      have F4 : Fr None' w3 w4 := hw4 ▸ Fr.alloc None' w3 _
      obtain ⟨e0, e1, e2, e3⟩ := (hw4 ▸ EBox.new w3 _ _ _ _ : EBox w4 w3.heap.size (.string y.path) (.int .i64 y.kind) (.slice ua um uc) (.string y.data)).cells
      replace p1 := F4.keepCell p1 (fun e => e)
      have T4 := HT.out.kept (HF3.out.then7 F4)
      have HM := toHid8 T4
      have hown := T4.map
      have HS4 := toHid8 (hst.kept F4)
      have HF4 := toHid8 (HF3.out.then7 F4)
      clear hst F4 T4 hy p0 p2 p3 p4 p5 p6 HN Hb
      go_wp2_with (first
        | (at_mapUpdate; refine wpList_mapUpdate_in _ rfl _ _ _ 59 rfl 9 57 lawS Tryz.underlying59 heldE b T.length _ rfl hown (by unfold maxLen; omega) _ _ _ rfl rfl hkS _ [] (heldE_th ⟨y, ua, um, uc⟩) ?_; intro w5 hown5 hturn5)
        | go_in)
      go_ret
      rw [HYes.out y HY.out]
      rw [← HKey.out y HY.out] at hown5
      have hP := HM.out.put (t := ⟨y, ua, um, uc⟩) HS4.out hown5 hturn5
      exact ⟨_, rfl, hP.tight, ens_put _ _, (HF4.out.any).then (Fr.turned hturn5 rfl)⟩
  · have HA := toHid8 (chgE_no (p := p) hr)
    rw [HA.out]
    generalize hasE (ens T) (bl p.path) k = r at cF hr
    have hr2 : (r == 0) = false := by simpa using hr
    clear HFn HA
    go_enter Tryz.func120, Tryz.ntmps120
    go_wp2_with fail
    with_reducible refine cF.mono ?_
    rintro e w2 ⟨rfl, f2⟩
    clear cF p0 p1 p2 p3 p4 p5 p6 g1
    have HF2 := toHid8 (HF1.out.then7 f2)
    have HM := toHid8 (HT.out.kept HF2.out)
    clear f2
    go_wp2_with fail
    go_ret
    exact ⟨T, rfl, HM.out, rfl, HF2.out.any⟩

set_option maxHeartbeats 8000000 in
theorem change9_any (b : Nat) (T : List Th) (p : Pr) (vo vn : Value) (k : Int) (g c : Nat) (w : World) (h : ThAt w b T.length T) (hn : T.length ≤ 90000) (ho : StrsAt w vo p.old) (hw : StrsAt w vn p.new) (hp : p.path.size ≤ 1000000) (hg : w.cell? ⟨g, 0, none⟩ = some (.int .i64 k)) (hc : w.cell? ⟨c, 0, none⟩ = some (.func (.func 91) #[] #[]))
    (hf : ∀ t ∈ T, ∀ w', Fr None' w w' → Calls Tryz.prog 91 #[.agg #[.string t.x.path, .int .i64 t.x.kind, .slice t.u.1 t.u.2.1 t.u.2.2, .string t.x.data], .agg #[.int .i64 p.kind, .string p.path, .string p.dst, .string p.src, .int .i64 p.pos, vo, vn]] w' fun e w'' => WithPost (withE t.x p) w' e w'') :
    Calls Tryz.prog 120 #[.map (some b), .agg #[.int .i64 p.kind, .string p.path, .string p.dst, .string p.src, .int .i64 p.pos, vo, vn], .pointer (some ⟨g, 0, none⟩), .pointer (some ⟨c, 0, none⟩)] w fun e w' => DoPost (chgE (ens T) p k) b w e w' := by
  obtain ⟨pa, ca, rfl, _⟩ := ho
  obtain ⟨pb, cb, rfl, _⟩ := hw
  have HG := toHid8 hg
  have HC := toHid8 hc
  have HT := toHid8 h
  have HFn := toHid8 hf
  obtain ⟨w1, hw1⟩ : ∃ w1, w.alloc (.cells #[.int .i64 p.kind, .string p.path, .string p.dst, .string p.src, .int .i64 p.pos, .slice pa p.old.length ca, .slice pb p.new.length cb] 45) = w1 := ⟨_, rfl⟩
  have F1 : Fr None' w w1 := hw1 ▸ Fr.alloc None' w _
  have BP : Box w1 w.heap.size (.int .i64 p.kind) (.string p.path) (.string p.dst) (.string p.src) (.int .i64 p.pos) (.slice pa p.old.length ca) (.slice pb p.new.length cb) := hw1 ▸ Box.new w _ _ _ _ _ _ _
  obtain ⟨p0, p1, p2, p3, p4, p5, p6⟩ := BP.cells
  have g1 := F1.keepCell hg (fun e => e)
  have cF := has8_any b T.length T p.path k w1 (h.kept F1) hp
  have HB := toHid8 BP
  have HF1 := toHid8 F1
  have hkS := keyS p.path (by unfold maxLen; omega)
  clear F1 BP hg hc h hf
  by_cases hr : hasE (ens T) (bl p.path) k = 0
  · obtain ⟨x, hx, hxk⟩ := hasE_zero.1 hr
    clear hxk
    have hx' := hx
    rw [← ens_get] at hx'
    obtain ⟨t, ht, rfl⟩ := Option.map_eq_some_iff.1 hx'
    obtain ⟨htm, htk⟩ := get8_mem ht
    have HNo := toHid8 (fun (hz : withE t.x p = none) => chgE_none hr hx hz)
    have HYes := toHid8 (fun y (hz : withE t.x p = some y) => chgE_some hr hx hz)
    have HKey := toHid8 (show ∀ y, withE t.x p = some y → bl y.path = bl p.path from fun y hy => by rw [(with_facts hy).1]; exact htk)
    rw [hr] at cF
    have HW := toHid8 (HFn.out t htm)
    have HLk := toHid8 (fun w' (f : Fr None' w w') => show (Instr.lookup 59 (.map (some b)) (.string p.path) false).run Tryz.prog w' = .ok (.agg #[.string t.x.path, .int .i64 t.x.kind, .slice t.u.1 t.u.2.1 t.u.2.2, .string t.x.data]) w' from by
      have := (HT.out.kept f).look p.path (by unfold maxLen; omega)
      rw [ht] at this
      exact this)
    clear hr hx hx' ht htm htk HFn
    generalize hR : withE t.x p = R at HNo HYes HKey HW
    clear hR
    obtain ⟨⟨P, K, l, D⟩, a, m, u⟩ := t
    simp only at HW HLk
    go_enter Tryz.func120, Tryz.ntmps120
    go_wp2_with fail
    with_reducible refine cF.mono ?_
    rintro e w2 ⟨rfl, f2⟩
    clear cF p0 p1 p2 p3 p4 p5 p6 g1
    have HF2 := toHid8 (HF1.out.then7 f2)
    have HB2 := toHid8 (HB.out.kept f2)
    obtain ⟨p0, p1, p2, p3, p4, p5, p6⟩ := HB2.out.cells
    have g2 := HF2.out.keepCell HC.out (fun e => e)
    have hlk := HLk.out w2 HF2.out
    have cW := HW.out w2 HF2.out
    clear f2 HB
    go_wp2_with fail
    with_reducible refine cW.mono ?_
    rintro e w3 ⟨P', K', ua, um, uc, D', b', rfl, Hb, HN, f3⟩
    clear cW hlk p0 p1 p2 p3 p4 p5 p6 g2
    obtain ⟨p0, p1, p2, p3, p4, p5, p6⟩ := (HB2.out.kept f3).cells
    have HF3 := toHid8 (HF2.out.then7 f3)
    clear f3
    cases b' with
    | false =>
      have HR := toHid8 (show R = none from by
        have := Hb.out
        cases R with
        | none => rfl
        | some y => cases this)
      have HM := toHid8 (HT.out.kept (HF3.out.then7 (Fr.alloc None' w3 (.cells #[.string P', .int .i64 K', .slice ua um uc, .string D'] 57))))
      clear p0 p1 p2 p3 p4 p5 p6
      go_wp2_with fail
      go_ret
      rw [HNo.out HR.out]
      exact ⟨T, rfl, HM.out, rfl, (HF3.out.then7 (Fr.alloc None' _ _)).any⟩
    | true =>
      obtain ⟨y, hy⟩ : ∃ y, R = some y := by
        have := Hb.out
        cases R with
        | none => cases this
        | some y => exact ⟨y, rfl⟩
      obtain ⟨rfl, rfl, rfl, hst⟩ := HN.out y hy
      have HY := toHid8 hy
      obtain ⟨w4, hw4⟩ : ∃ w4, w3.alloc (.cells #[.string y.path, .int .i64 y.kind, .slice ua um uc, .string y.data] 57) = w4 := ⟨_, rfl⟩
      have F4 : Fr None' w3 w4 := hw4 ▸ Fr.alloc None' w3 _
      obtain ⟨e0, e1, e2, e3⟩ := (hw4 ▸ EBox.new w3 _ _ _ _ : EBox w4 w3.heap.size (.string y.path) (.int .i64 y.kind) (.slice ua um uc) (.string y.data)).cells
      replace p1 := F4.keepCell p1 (fun e => e)
      have T4 := HT.out.kept (HF3.out.then7 F4)
      have HM := toHid8 T4
      have hown := T4.map
      have HS4 := toHid8 (hst.kept F4)
      have HF4 := toHid8 (HF3.out.then7 F4)
      clear hst F4 T4 hy p0 p2 p3 p4 p5 p6 HN Hb
      go_wp2_with (first
        | (at_mapUpdate; refine wpList_mapUpdate_in _ rfl _ _ _ 59 rfl 9 57 lawS Tryz.underlying59 heldE b T.length _ rfl hown (by unfold maxLen; omega) _ _ _ rfl rfl hkS _ [] (heldE_th ⟨y, ua, um, uc⟩) ?_; intro w5 hown5 hturn5)
        | go_in)
      go_ret
      rw [HYes.out y HY.out]
      rw [← HKey.out y HY.out] at hown5
      have hP := HM.out.put (t := ⟨y, ua, um, uc⟩) HS4.out hown5 hturn5
      exact ⟨_, rfl, hP.tight, ens_put _ _, (HF4.out.any).then (Fr.turned hturn5 rfl)⟩
  · have HA := toHid8 (chgE_no (p := p) hr)
    rw [HA.out]
    generalize hasE (ens T) (bl p.path) k = r at cF hr
    have hr2 : (r == 0) = false := by simpa using hr
    clear HFn HA
    go_enter Tryz.func120, Tryz.ntmps120
    go_wp2_with fail
    with_reducible refine cF.mono ?_
    rintro e w2 ⟨rfl, f2⟩
    clear cF p0 p1 p2 p3 p4 p5 p6 g1
    have HF2 := toHid8 (HF1.out.then7 f2)
    have HM := toHid8 (HT.out.kept HF2.out)
    clear f2
    go_wp2_with fail
    go_ret
    exact ⟨T, rfl, HM.out, rfl, HF2.out.any⟩

end Go.Proofs.YtpfkkpghgmmijaaGreatDoor

namespace Go.Proofs.YtpfkkpghgmmijaaGreatDoor
open Go.RowKit Go.Maps Go.WideMaps
set_option maxRecDepth 100000

theorem act_addE {L : List En} {p : Pr} (hk : p.kind = 1 ∨ p.kind = 3 ∨ p.kind = 5) : actE L p = addE L p.path ((p.kind + 1) / 2) := by
  unfold actE; rw [if_pos hk]; rfl
theorem act_rmE {L : List En} {p : Pr} (hk : p.kind = 2 ∨ p.kind = 4 ∨ p.kind = 6) : actE L p = rmE L (bl p.path) (p.kind / 2) := by
  unfold actE; rw [if_neg (by omega), if_pos hk]; rfl
theorem act_moveE {L : List En} {p : Pr} (hk : p.kind = 10) : actE L p = moveE L (bl p.path) (bl p.dst) := by
  unfold actE; rw [if_neg (by omega), if_neg (by omega), if_pos hk]
theorem act_chgE {L : List En} {p : Pr} (hk : p.kind = 7 ∨ p.kind = 8 ∨ p.kind = 9) : actE L p = chgE L p (if p.kind = 9 then 3 else 2) := by
  unfold actE; rw [if_neg (by omega), if_neg (by omega), if_neg (by omega)]; rfl

theorem SmPr.small {p : Pr} (h : SmPr p) : SmallP p := ⟨by have := h.path; omega, by have := h.dst; omega, by have := h.src; omega, by have := h.old; omega, by have := h.new; omega⟩

theorem lines_pos {p : Pr} (hr : rightP p = true) (hk : p.kind = 7) : -9223372036854775808 ≤ p.pos ∧ p.pos < 9223372036854775808 := by
  have hrule := (rule_of hr).2.2
  unfold ruleP linesP at hrule
  rw [if_neg (by omega), if_pos hk] at hrule
  simp only [Bool.and_eq_true, decide_eq_true_eq] at hrule
  have h1 := hrule.1.1.1.1.2
  have h2 := hrule.1.1.1.2
  omega

set_option maxHeartbeats 8000000 in
theorem do8_any (b : Nat) (T : List Th) (p : Pr) (vo vn : Value) (B : Nat) (w : World) (h : ThAt w b T.length T) (hn : T.length ≤ 40000) (hT : ∀ t ∈ T, t.x.path.size ≤ 1000000) (hB : SmLn B (ens T)) (hB2 : B ≤ 900000) (hs : SmPr p) (ho : StrsAt w vo p.old) (hw : StrsAt w vn p.new) :
    Calls Tryz.prog 35 #[.map (some b), .agg #[.int .i64 p.kind, .string p.path, .string p.dst, .string p.src, .int .i64 p.pos, vo, vn]] w fun e w' => DoPost (doE (ens T) p) b w e w' := by
  obtain ⟨pa, ca, rfl, ho'⟩ := ho
  obtain ⟨pb, cb, rfl, hw'⟩ := hw
  have HO := toHid8 (show ∀ w', Fr None' w w' → StrsAt w' (.slice pa p.old.length ca) p.old from fun w' f => StrsAt.kept ⟨pa, ca, rfl, ho'⟩ f)
  have HN := toHid8 (show ∀ w', Fr None' w w' → StrsAt w' (.slice pb p.new.length cb) p.new from fun w' f => StrsAt.kept ⟨pb, cb, rfl, hw'⟩ f)
  obtain ⟨w1, hw1⟩ : ∃ w1, w.alloc (.cells #[.int .i64 p.kind, .string p.path, .string p.dst, .string p.src, .int .i64 p.pos, .slice pa p.old.length ca, .slice pb p.new.length cb] 45) = w1 := ⟨_, rfl⟩
  have F1 : Fr None' w w1 := hw1 ▸ Fr.alloc None' w _
  have BP : Box w1 w.heap.size (.int .i64 p.kind) (.string p.path) (.string p.dst) (.string p.src) (.int .i64 p.pos) (.slice pa p.old.length ca) (.slice pb p.new.length cb) := hw1 ▸ Box.new w _ _ _ _ _ _ _
  obtain ⟨p0, p1, p2, p3, p4, p5, p6⟩ := BP.cells
  have cR := ruleOf_any p (.slice pa p.old.length ca) (.slice pb p.new.length cb) w1 (HO.out w1 F1) (HN.out w1 F1) hs.small
  have HB := toHid8 BP
  have HF1 := toHid8 F1
  have HT := toHid8 h
  have HLn := toHid8 (show ∀ t ∈ T, t.x.lines.length ≤ 900000 ∧ ∀ y ∈ t.x.lines, SmLine y from fun t ht => by
    have := hB t.x (List.mem_map.2 ⟨t, ht, rfl⟩)
    exact ⟨by have := this.1.1; omega, this.2⟩)
  have HTs := toHid8 hT
  have HSp := toHid8 hs
  have hbw := h.map.lt
  clear ho' hw' F1 BP h hT hB
  cases hr : rightP p with
  | false =>
    have HE := toHid8 (show doE (ens T) p = (ens T, 1) from by unfold doE; rw [hr]; rfl)
    rw [HE.out]
    rw [hr] at cR
    clear hr HE
    go_enter Tryz.func35, Tryz.ntmps35
    go_wp2_with fail
    with_reducible refine cR.mono ?_
    rintro e w2 ⟨r0, r1, rfl, ⟨h0, h1⟩, _, f2⟩
    have HF2 := toHid8 (HF1.out.then7 f2)
    have H01 := toHid8 (And.intro h0 h1)
    clear cR f2 h0 h1 p0 p1 p2 p3 p4 p5 p6
    go_wp2_with (refine wpList_store_row rfl _ _ _ rfl w2.heap.size _ rfl rfl 65 _ (heap_alloc_new w2 _) infoRule (by simp) (by simp [H01.out.1, H01.out.2]) ?_)
    go_ret
    have key : ∀ c, Fr None' w ((w2.alloc (.cells #[.nilFunc, .nilFunc] 65)).setRow w2.heap.size c) := fun c => HF2.out.then7 ((Fr.alloc None' w2 _).trans (Fr.setRow (M := fun i => i = w2.heap.size) _ rfl _) (fun i e => Or.inr (by omega)))
    exact ⟨T, rfl, HT.out.kept (key _), rfl, (key _).any⟩
  | true =>
    have HE := toHid8 (show doE (ens T) p = actE (ens T) p from by unfold doE; rw [hr]; rfl)
    rw [HE.out]
    rw [hr] at cR
    have HRt := toHid8 hr
    clear hr HE
    go_enter Tryz.func35, Tryz.ntmps35
    go_wp2_with fail
    with_reducible refine cR.mono ?_
    rintro e w2 ⟨r0, r1, rfl, ⟨h0, h1⟩, HI, f2⟩
    have hI := HI.out rfl
    have HF2 := toHid8 (HF1.out.then7 f2)
    have HB2 := toHid8 (HB.out.kept f2)
    have H01 := toHid8 (And.intro h0 h1)
    clear cR f2 h0 h1 p0 p1 p2 p3 p4 p5 p6 HI HB
    obtain ⟨w3, hw3⟩ : ∃ w3, (w2.alloc (.cells #[.nilFunc, .nilFunc] 65)).setRow w2.heap.size #[r0, r1] = w3 := ⟨_, rfl⟩
    have F3 : Fr None' w2 w3 := hw3 ▸ (Fr.alloc None' w2 _).trans (Fr.setRow (M := fun i => i = w2.heap.size) _ rfl _) (fun i e => Or.inr (by omega))
    have B3 : w3.heap[w2.heap.size]? = some (.cells #[r0, r1] 65 (0, 0)) := hw3 ▸ setRow_at (heap_alloc_new w2 _)
    have k1 : w3.cell? ⟨w2.heap.size, 1, none⟩ = some r1 := by rw [World.cell?, B3]; rfl
    obtain ⟨p0, p1, p2, p3, p4, p5, p6⟩ := (HB2.out.kept F3).cells
    have HF3 := toHid8 (HF2.out.then7 F3)
    have HT3 := toHid8 (HT.out.kept HF3.out)
    have HO3 := toHid8 (HO.out w3 HF3.out)
    have HN3 := toHid8 (HN.out w3 HF3.out)
    have HEnd := toHid8 (show ∀ r e W, DoPost r b w3 e W → DoPost r b w e W from fun r e W ⟨T', h1, h2, h3, h4⟩ => ⟨T', h1, h2, h3, (HF3.out.any).then h4⟩)
    have hpz : p.path.size ≤ 1000000 := by have := hs.path; omega
    rcases hI with ⟨hk, g, rfl, hg⟩ | ⟨hk, g, rfl, hg⟩ | ⟨hk, g, c, fn, rfl, hg, hc, hfn⟩ | ⟨hk, rfl⟩
    · have HA := toHid8 (act_addE (L := ens T) hk)
      have cA := add1_any b T p _ _ ((p.kind + 1) / 2) g w3 HT3.out (by omega) HO3.out HN3.out hpz (F3.keepCell hg (fun e => e))
      clear F3 B3 hg hk
      go_wp2_with (refine wpList_store_row rfl _ _ _ rfl w2.heap.size _ rfl rfl 65 _ (heap_alloc_new w2 _) infoRule (by simp) (by simp [H01.out.1, H01.out.2]) ?_)
      with_reducible refine cA.mono ?_
      rintro e w4 ⟨T', rfl, hT', hE', f4⟩
      clear cA
      have HP := toHid8 (HEnd.out _ _ _ ⟨T', rfl, hT', hE', f4⟩)
      clear hT' hE' f4
      go_wp2_with fail
      go_ret
      rw [HA.out]
      exact HP.out
    · have HA := toHid8 (act_rmE (L := ens T) hk)
      have cA := remove1_any b T p _ _ (p.kind / 2) g w3 HT3.out (by omega) HO3.out HN3.out hpz (F3.keepCell hg (fun e => e))
      clear F3 B3 hg hk
      go_wp2_with (refine wpList_store_row rfl _ _ _ rfl w2.heap.size _ rfl rfl 65 _ (heap_alloc_new w2 _) infoRule (by simp) (by simp [H01.out.1, H01.out.2]) ?_)
      with_reducible refine cA.mono ?_
      rintro e w4 ⟨T', rfl, hT', hE', f4⟩
      clear cA
      have HP := toHid8 (HEnd.out _ _ _ ⟨T', rfl, hT', hE', f4⟩)
      clear hT' hE' f4
      go_wp2_with fail
      go_ret
      rw [HA.out]
      exact HP.out
    · have HA := toHid8 (act_chgE (L := ens T) hk)
      have hg3 := F3.keepCell hg (fun e => e)
      have hc3 := F3.keepCell hc (fun e => e)
      have cA : Calls Tryz.prog 120 #[.map (some b), .agg #[.int .i64 p.kind, .string p.path, .string p.dst, .string p.src, .int .i64 p.pos, .slice pa p.old.length ca, .slice pb p.new.length cb], .pointer (some ⟨g, 0, none⟩), .pointer (some ⟨c, 0, none⟩)] w3 fun e w' => DoPost (chgE (ens T) p (if p.kind = 9 then 3 else 2)) b w3 e w' := by
        rcases hk with hk | hk | hk
        · rw [if_pos hk] at hfn
          subst hfn
          exact change7_any b T p _ _ _ g c w3 HT3.out (by omega) HO3.out HN3.out hpz hg3 hc3 (fun t ht w' f => withLines_any t.x p t.u.1 t.u.2.1 t.u.2.2 _ _ w' ((HT3.out.str t ht).kept f) (HO3.out.kept f) (HN3.out.kept f) hk (by have := (HLn.out t ht).1; omega) (by have := hs.old; omega) (by have := hs.new; omega) (lines_pos HRt.out hk))
        · rw [if_neg (by omega), if_pos hk] at hfn
          subst hfn
          exact change8_any b T p _ _ _ g c w3 HT3.out (by omega) HO3.out HN3.out hpz hg3 hc3 (fun t ht w' f => withToken_any t.x p t.u.1 t.u.2.1 t.u.2.2 _ _ w' ((HT3.out.str t ht).kept f) (HO3.out.kept f) (HN3.out.kept f) hk (by have := (HLn.out t ht).1; omega) (fun y hy => ((HLn.out t ht).2 y hy).fits hs.dst) (by have := hs.src; omega))
        · rw [if_neg (by omega), if_neg (by omega)] at hfn
          subst hfn
          exact change9_any b T p _ _ _ g c w3 HT3.out (by omega) HO3.out HN3.out hpz hg3 hc3 (fun t ht w' f => withBytes_any t.x p t.u.1 t.u.2.1 t.u.2.2 _ _ w' ((HT3.out.str t ht).kept f) (HO3.out.kept f) (HN3.out.kept f) hk)
      clear F3 B3 hg hk hc hg3 hc3 hfn
      generalize (if p.kind = 9 then (3 : Int) else 2) = kk at cA HA
      go_wp2_with (refine wpList_store_row rfl _ _ _ rfl w2.heap.size _ rfl rfl 65 _ (heap_alloc_new w2 _) infoRule (by simp) (by simp [H01.out.1, H01.out.2]) ?_)
      with_reducible refine cA.mono ?_
      rintro e w4 ⟨T', rfl, hT', hE', f4⟩
      clear cA
      have HP := toHid8 (HEnd.out _ _ _ ⟨T', rfl, hT', hE', f4⟩)
      clear hT' hE' f4
      go_wp2_with fail
      go_ret
      rw [HA.out]
      exact HP.out
    · have HA := toHid8 (act_moveE (L := ens T) hk)
      have cA := move8_any b T p _ _ w3 HT3.out hn HO3.out HN3.out hpz (by have := hs.dst; omega) HTs.out
      clear F3 B3 hk
      go_wp2_with (refine wpList_store_row rfl _ _ _ rfl w2.heap.size _ rfl rfl 65 _ (heap_alloc_new w2 _) infoRule (by simp) (by simp [H01.out.1, H01.out.2]) ?_)
      with_reducible refine cA.mono ?_
      rintro e w4 ⟨T', rfl, hT', hE', f4⟩
      clear cA
      have HP := toHid8 (HEnd.out _ _ _ ⟨T', rfl, hT', hE', f4⟩)
      clear hT' hE' f4
      go_wp2_with fail
      go_ret
      rw [HA.out]
      exact HP.out

end Go.Proofs.YtpfkkpghgmmijaaGreatDoor

namespace Go.Proofs.YtpfkkpghgmmijaaGreatDoor
open Go.RowKit Go.Maps Go.WideMaps
set_option maxRecDepth 100000

def AllPost (r : List En × Int × Nat) (w : World) (e : Ending) (w' : World) : Prop := ∃ (va : Option Addr) (c : Nat), e = .returned (.tuple #[.slice va r.1.length c, .int .i64 r.2.1, .int .i64 r.2.2]) ∧ Hid (EntsAt w' va r.1) ∧ Hid (va = none → c = 0) ∧ Fr None' w w'

theorem path_size {x : En} (h : Path.right (bl x.path) = true) : x.path.size ≤ 135 := by
  have := right_len h
  have h3 : (bl x.path).length = x.path.size := Array.length_toList
  omega

theorem runE_bad {L : List En} {ps : List Pr} (h : treeRight L = false) : allE L ps = ([], 1, 0) := by unfold allE; rw [h]; rfl
theorem runE_good {L : List En} {ps : List Pr} (h : treeRight L = true) : allE L ps = runE L ps 0 := by unfold allE; rw [h]; rfl

set_option maxHeartbeats 16000000 in
theorem all8_any (va : Option Addr) (n c : Nat) (L : List En) (vb : Option Addr) (m d : Nat) (ps : List Pr) (B : Nat) (w : World) (hl : L.length = n) (h : EntsAt w va L) (hn : n ≤ 90000) (hs : SmallE L) (hm : ps.length = m) (hb : PrsAt w vb ps) (hm2 : m ≤ 90000) (hB : SmLn B L) (hB2 : B + newTo ps ps.length ≤ 900000) (hp : ∀ p ∈ ps, SmPr p) :
    Calls Tryz.prog 19 #[.slice va n c, .slice vb m d] w fun e w' => AllPost (allE L ps) w e w' := by
  have cT := tright_any va n c L w hl h (by omega) hs
  have cO := fun w' (f : Fr None' w w') => of8_any va n c L w' hl (h.kept f) hn hs
  have HM := toHid8 hm
  have HB := toHid8 hb
  have HSB := toHid8 hB
  have HB2 := toHid8 hB2
  have HPs := toHid8 hp
  have i1 : (m : Int) ≤ 90000 := by omega
  cases ht : treeRight L with
  | false =>
    rw [ht] at cT
    rw [runE_bad ht]
    clear cO ht hl h hs hb hB hB2 hp hm
    go_enter Tryz.func19, Tryz.ntmps19
    go_wp2_with fail
    with_reducible refine cT.mono ?_
    rintro e w2 ⟨rfl, f2⟩
    clear cT
    go_wp2_with fail
    go_ret3
    exact ⟨none, 0, rfl, (fun k x hk => by simp at hk), (fun _ => rfl), f2⟩
  | true =>
    rw [ht] at cT
    rw [runE_good ht]
    have HTr := toHid8 ((treeR L).1 ht)
    have HPT := toHid8 (show putsE L = L from by
      have := puts_self [] L (by simpa using ((treeR L).1 ht).strict)
      simpa [putsE] using this)
    have HLn := toHid8 hl
    clear ht hl h hs hb hB hB2 hp hm
    go_enter Tryz.func19, Tryz.ntmps19
    go_wp2_with fail
    with_reducible refine cT.mono ?_
    rintro e w2 ⟨rfl, f2⟩
    clear cT
    have cO2 := cO w2 f2
    have HF2 := toHid8 f2
    clear cO f2
    go_wp2_with fail
    with_reducible refine cO2.mono ?_
    rintro e w3 ⟨b, T, rfl, hT, hE, f3, hbw⟩
    clear cO2
    have HF3 := toHid8 (HF2.out.then7 f3)
    have HT0 := toHid8 hT.tight
    have HE0 := toHid8 (show ens T = L from hE.trans HPT.out)
    have HBw := toHid8 (show w.heap.size ≤ b from by have := HF2.out.size; omega)
    clear hT hE f3 hbw
    go_wp2_with fail
    go_loopw [18] (fun vi wr => ∃ (k : Nat) (T' : List Th), k ≤ m ∧ vi = .int .i64 k ∧ Hid (ThAt wr b T'.length T') ∧ Hid (ens T' = stE L ps k) ∧ Hid (OkTo L ps k) ∧ Hid (Fr None' w wr)) (fun vi _ => m - (intOf vi).toNat)
    case atStart => exact ⟨0, T, Nat.zero_le _, rfl, HT0.out, HE0.out, OkTo.zero _ _, HF3.out⟩
    case round =>
      obtain ⟨k, T', hk, rfl, HT, HE, HOk, HF⟩ := hrel
      clear HT0 HE0
      by_cases hlt : k < m
      · have hkL : k < ps.length := by rw [HM.out]; exact hlt
        obtain ⟨g, o, rfl, uo, un, d0, d1, d2, d3, d4, d5, d6, t1, t2⟩ := (HB.out.kept HF.out).get hkL
        obtain ⟨st1, st2⟩ := st_ok HTr.out HSB.out HPs.out k (by omega) HOk.out
        have HStop := toHid8 (fun he => run_stop hkL HOk.out he)
        have HNext := toHid8 (fun he => HOk.out.succ hkL he)
        have HSt := toHid8 (stE_succ (L := L) hkL)
        have hsp := HPs.out _ (List.getElem_mem hkL)
        have hnt := newTo_le ps k
        have hB9 := HB2.out
        obtain ⟨pa, ca, rfl, q1⟩ := t1
        obtain ⟨pb, cb, rfl, q2⟩ := t2
        have HD := toHid8 (fun w' (f : Fr None' wr w') => do8_any b T' ps[k] (.slice pa ps[k].old.length ca) (.slice pb ps[k].new.length cb) (B + newTo ps k) w' (HT.out.kept f) (by
            have h1 := st1.len
            rw [← HE.out, ens_len] at h1
            omega) (fun t ht => by
            have h1 := st1.own t.x (by rw [← HE.out]; exact List.mem_map.2 ⟨t, ht, rfl⟩)
            have := path_size h1.1
            omega) (by rw [HE.out]; exact st2) (by omega) hsp (StrsAt.kept ⟨pa, ca, rfl, q1⟩ f) (StrsAt.kept ⟨pb, cb, rfl, q2⟩ f))
        rw [HE.out] at HD
        clear q1 q2 st1 st2 hsp hnt hB9
        generalize ps[k] = p at d0 d1 d2 d3 d4 d5 d6 HStop HNext HSt HD
        generalize doE (stE L ps k) p = r at HStop HNext HSt HD
        obtain ⟨R, er⟩ := r
        simp only at HStop HNext HSt
        obtain ⟨w4, hw4⟩ : ∃ w4, wr.alloc (.cells #[.int .i64 p.kind, .string p.path, .string p.dst, .string p.src, .int .i64 p.pos, .slice pa p.old.length ca, .slice pb p.new.length cb] 45) = w4 := ⟨_, rfl⟩
        have F4 : Fr None' wr w4 := hw4 ▸ Fr.alloc None' wr _
        obtain ⟨a0, a1, a2, a3, a4, a5, a6⟩ := (hw4 ▸ Box.new wr _ _ _ _ _ _ _ : Box w4 wr.heap.size (.int .i64 p.kind) (.string p.path) (.string p.dst) (.string p.src) (.int .i64 p.pos) (.slice pa p.old.length ca) (.slice pb p.new.length cb)).cells
        have cD := HD.out w4 F4
        have HF4 := toHid8 (HF.out.then7 F4)
        have i2 : (k : Int) < (m : Int) := by omega
        have i3 : (0 : Int) ≤ (k : Int) := by omega
        clear HD F4
        go_wp2_with fail
        with_reducible refine cD.mono ?_
        rintro e w5 ⟨T5, rfl, hT5, hE5, f5⟩
        clear cD d0 d1 d2 d3 d4 d5 d6 a0 a1 a2 a3 a4 a5 a6
        simp only at hE5
        have HT5 := toHid8 hT5
        have HE5 := toHid8 hE5
        have HF5 := toHid8 (HF4.out.trans f5 (fun i e => Or.inr (by have e : i = b := e; have := HBw.out; omega)))
        clear hT5 hE5 f5
        by_cases he : er = 0
        · subst he
          have HOk2 := toHid8 (HNext.out rfl)
          clear HStop HNext
          go_wp2_with fail
          exact ⟨⟨k + 1, T5, by omega, by go_num, HT5.out, HE5.out.trans HSt.out.symm, HOk2.out, HF5.out⟩, by simp [intOf]; omega⟩
        · have HR := toHid8 (HStop.out he)
          have he2 : (er == 0) = false := by simpa using he
          clear HStop HNext HSt
          go_wp2_with fail
          go_ret3
          rw [HR.out]
          exact ⟨none, 0, rfl, (fun k x hk => by simp at hk), (fun _ => rfl), HF5.out⟩
      · have e : k = m := by omega
        subst e
        have HR := toHid8 (show runE L ps 0 = (stE L ps k, 0, 0) from by
          have h := HOk.out
          rw [← HM.out] at h
          rw [run_end h, HM.out])
        obtain ⟨st1, st2⟩ := st_ok HTr.out HSB.out HPs.out k (by rw [HM.out]; exact Nat.le_refl _) HOk.out
        have h1 := st1.len
        rw [← HE.out, ens_len] at h1
        have cL := list8_any b T'.length T' wr HT.out (by omega) (fun t ht => by
            have h1 := st1.own t.x (by rw [← HE.out]; exact List.mem_map.2 ⟨t, ht, rfl⟩)
            have := path_size h1.1
            omega)
        clear st1 st2 h1 HOk
        go_wp2_with fail
        with_reducible refine cL.mono ?_
        rintro e w5 ⟨v, rfl, hO, f5⟩
        clear cL
        obtain ⟨va5, c5, rfl, _, hc5, hE5, _⟩ := hO.slice f5
        have HP := toHid8 (show EntsAt w5 va5 (ens T') from hE5)
        have HF5 := toHid8 (HF.out.then7 f5)
        have HC5 := toHid8 hc5
        clear hO hE5 f5 hc5
        go_wp2_with fail
        go_ret3
        rw [HR.out, ← HE.out]
        exact ⟨va5, c5, rfl, HP.out, HC5.out, HF5.out⟩

end Go.Proofs.YtpfkkpghgmmijaaGreatDoor

namespace Go.Proofs.YtpfkkpghgmmijaaGreatDoor
open Go.RowKit
set_option maxRecDepth 100000

def body (L : List En) (k : Nat) : Nat := ((L.take k).map (fun x => x.lines.length + x.data.size + x.path.size + (x.lines.map (·.size)).sum)).sum

theorem body_step {L : List En} {k : Nat} (hk : k < L.length) : body L (k + 1) = body L k + (L[k].lines.length + L[k].data.size + L[k].path.size + (L[k].lines.map (·.size)).sum) := by
  unfold body
  rw [List.take_succ_eq_append_getElem hk, List.map_append, List.sum_append]
  simp

theorem body_weight (L : List En) : 5 * L.length + body L L.length = weight L := by
  unfold body weight
  rw [List.take_length]
  induction L with
  | nil => rfl
  | cons x L ih =>
    simp only [List.map_cons, List.sum_cons, List.length_cons] at ih ⊢
    simp only [En.weight] at ih ⊢
    omega

def GreatPost (L : List En) (w : World) (e : Ending) (w' : World) : Prop := ∃ g, e = .returned (.bool g) ∧ (g = false → weight L < 4000) ∧ Fr None' w w'

set_option maxHeartbeats 4000000 in
theorem great_any (va : Option Addr) (n c : Nat) (L : List En) (w : World) (hl : L.length = n) (h : EntsAt w va L) (hn : n ≤ 140737488355328) (hx : ∀ x ∈ L, x.lines.length ≤ 140737488355328) :
    Calls Tryz.prog 18 #[.slice va n c] w fun e w' => GreatPost L w e w' := by
  have HL : Hid (L.length = n) := hl
  have HX : Hid (∀ x ∈ L, x.lines.length ≤ 140737488355328) := hx
  have i1 : (n : Int) ≤ 140737488355328 := by omega
  have HE : Hid (EntsAt w va L) := h
  clear hl hn h hx
  go_enter Tryz.func18, Tryz.ntmps18
  go_wp2_with fail
  go_loopw [3, 4] (fun vn vi wr => ∃ k N : Nat, k ≤ n ∧ vi = .int .i64 k ∧ vn = .int .i64 N ∧ (N : Int) ≤ 1125899906842624 ∧ Hid (N < 4000 → N = 5 * n + body L k) ∧ Hid (Fr None' w wr)) (fun _ vi _ => n - (intOf vi).toNat)
  case atStart => exact ⟨0, 5 * n, Nat.zero_le _, rfl, by go_num, by omega, fun _ => rfl, Fr.refl _ _⟩
  case round =>
    obtain ⟨k, N, hk, rfl, rfl, hN, HN, HF⟩ := hrel
    by_cases hlt : k < n
    · by_cases hs : N < 4000
      · have hkL : k < L.length := by rw [HL.out]; exact hlt
        obtain ⟨g, o, rfl, vl, d0, d1, d2, d3, hs1⟩ := (HE.out.kept HF.out).get hkL
        obtain ⟨pl, cl, rfl, _, _, hr⟩ := hs1
        have HB : Hid (body L (k + 1) = body L k + (L[k].lines.length + L[k].data.size + L[k].path.size + (L[k].lines.map (·.size)).sum)) := body_step hkL
        have hxl := HX.out _ (List.getElem_mem hkL)
        obtain ⟨x, hxe⟩ : ∃ x, L[k] = x := ⟨_, rfl⟩
        rw [hxe] at d0 d2 d3 hr HB hxl
        obtain ⟨P, K, l, D⟩ := x
        simp only at d0 d2 d3 hr HB hxl
        obtain ⟨nl, hnl⟩ : ∃ m, l.length = m := ⟨_, rfl⟩
        rw [hnl] at d2 HB hxl
        have HNL : Hid (l.length = nl) := hnl
        obtain ⟨sD, hsD⟩ : ∃ m, D.size = m := ⟨_, rfl⟩
        obtain ⟨sP, hsP⟩ : ∃ m, P.size = m := ⟨_, rfl⟩
        have i2 : (nl : Int) ≤ 140737488355328 := by omega
        have i3 : (0 : Int) ≤ (k : Int) := by omega
        have i4 : (k : Int) < (n : Int) := by omega
        have i5 : (N : Int) < 4000 := by omega
        obtain ⟨mD, hmD⟩ : ∃ m : Nat, min D.size 4000 = m := ⟨_, rfl⟩
        obtain ⟨mP, hmP⟩ : ∃ m : Nat, min P.size 4000 = m := ⟨_, rfl⟩
        have eD : (if (4000 : Int) < (D.size : Int) then (4000 : Int) else (D.size : Int)) = (mD : Int) := by split <;> omega
        have eD2 : min (D.size : Int) 4000 = (mD : Int) := by omega
        have eP : (if (4000 : Int) < (P.size : Int) then (4000 : Int) else (P.size : Int)) = (mP : Int) := by split <;> omega
        have eP2 : min (P.size : Int) 4000 = (mP : Int) := by omega
        have HM : Hid ((mD < 4000 → mD = D.size) ∧ (mP < 4000 → mP = P.size)) := ⟨by omega, by omega⟩
        have i6 : (mD : Int) ≤ 4000 := by omega
        have i7 : (mP : Int) ≤ 4000 := by omega
        have HRW : Hid (Lines.Row wr pl l) := hr
        have r1 : IntKind.i64.wrap ((N : Int) + (nl : Int)) = (N : Int) + (nl : Int) := by rw [IntKind.wrap_i64]; omega
        have r2 : IntKind.i64.wrap ((N : Int) + (nl : Int) + (mD : Int)) = (N : Int) + (nl : Int) + (mD : Int) := by rw [IntKind.wrap_i64]; omega
        have r3 : IntKind.i64.wrap ((N : Int) + (nl : Int) + (mD : Int) + (mP : Int)) = ((N + nl + mD + mP : Nat) : Int) := by rw [IntKind.wrap_i64]; omega
        obtain ⟨N1, hN1⟩ : ∃ N1, N + nl + mD + mP = N1 := ⟨_, rfl⟩
        rw [hN1] at r3
        have HN1 : Hid (N1 < 4000 → N1 = 5 * n + (body L k + (nl + D.size + P.size))) := fun hh => by
          have h1 := HN.out (by omega)
          have h2 := HM.out.1 (by omega)
          have h3 := HM.out.2 (by omega)
          omega
        have i8 : (N1 : Int) ≤ 281474976710656 := by omega
        clear hxe hnl hsD hsP hmD hmP hr hN1 HN hN hs
        go_wp2_with fail
        go_quiet (fail)
        go_wp2_with fail
        clear r1 r2 r3 eD eD2 eP eP2 i6 i7
        obtain ⟨wd, hwd⟩ : ∃ x, wr.drewN nq = x := ⟨_, rfl⟩
        have HW : Hid (Fr None' w wd) := by rw [← hwd]; exact HF.out.trans (Fr.drewN None' wr nq) (fun _ e => Or.inl e)
        have fd : Fr None' wr wd := by rw [← hwd]; exact Fr.drewN None' wr nq
        have HC : Hid (∀ w2, Fr None' wd w2 → w2.cell? ⟨g, o + k * 4 + 2, none⟩ = some (.slice pl nl cl) ∧ Lines.Row w2 pl l) := fun w2 f => ⟨(fd.trans f (fun _ e => Or.inl e)).keepCell d2 (fun e => e), HRW.out.fr (toLN (fd.trans f (fun _ e => Or.inl e)))⟩
        rw [hwd]
        clear hwd d0 d1 d2 d3 HF HRW fd
        go_loopw [3, 5] (fun vn vi w2 => ∃ q M : Nat, q ≤ nl ∧ vi = .int .i64 q ∧ vn = .int .i64 M ∧ (M : Int) ≤ 562949953421312 ∧ Hid (M < 4000 → M = 5 * n + (body L k + (nl + D.size + P.size)) + ((l.take q).map (·.size)).sum) ∧ Hid (Fr None' wd w2)) (fun _ vi _ => nl - (intOf vi).toNat)
        case atStart => exact ⟨0, N1, Nat.zero_le _, rfl, rfl, by omega, fun h => by have := HN1.out h; simpa using this, Fr.refl _ _⟩
        case round =>
          clear HN1
          obtain ⟨q, M, hq, rfl, rfl, hM, HMM, HF2⟩ := hrel
          obtain ⟨d2, hr⟩ := HC.out wr HF2.out
          by_cases hqt : q < nl
          · by_cases hs : M < 4000
            · have hql : q < l.length := by rw [HNL.out]; exact hqt
              obtain ⟨gl, ol, rfl, e1⟩ := hr.get hql
              have HZ : Hid (((l.take (q + 1)).map (·.size)).sum = ((l.take q).map (·.size)).sum + l[q].size) := sizes_step hql
              obtain ⟨s, hse⟩ : ∃ s, l[q] = s := ⟨_, rfl⟩
              rw [hse] at e1 HZ
              obtain ⟨mS, hmS⟩ : ∃ m : Nat, min s.size 4000 = m := ⟨_, rfl⟩
              have eS : (if (4000 : Int) < (s.size : Int) then (4000 : Int) else (s.size : Int)) = (mS : Int) := by split <;> omega
              have eS2 : min (s.size : Int) 4000 = (mS : Int) := by omega
              have HM2 : Hid (mS < 4000 → mS = s.size) := by show _ → _; omega
              have u1 : (mS : Int) ≤ 4000 := by omega
              have u2 : (M : Int) < 4000 := by omega
              have u3 : (q : Int) < (nl : Int) := by omega
              have u4 : (0 : Int) ≤ (q : Int) := by omega
              clear hse hmS hr hs hM
              go_wp2_with fail
              refine ⟨⟨q + 1, M + mS, by omega, by go_num, by go_num, by omega, fun hh => ?_, HF2.out⟩, by simp [intOf]; omega⟩
              have h1 := HMM.out (by omega)
              have h2 := HM2.out (by omega)
              rw [HZ.out]
              omega
            · have u2 : ¬ (M : Int) < 4000 := by omega
              have u3 : (q : Int) < (nl : Int) := by omega
              have HM4 : Hid (¬ M < 4000) := hs
              have HFW : Hid (Fr None' w wr) := HW.out.trans HF2.out (fun _ e => Or.inl e)
              clear hr hs
              go_wp2_with fail
              exact ⟨⟨k + 1, M, by omega, by go_num, rfl, by omega, fun h => absurd h HM4.out, HFW.out⟩, by simp [intOf]; omega⟩
          · have e : q = nl := by omega
            subst e
            have HFW : Hid (Fr None' w wr) := HW.out.trans HF2.out (fun _ e => Or.inl e)
            have HQ : Hid (M < 4000 → M = 5 * n + body L (k + 1)) := fun h => by
              have h1 := HMM.out h
              rw [List.take_of_length_le (by rw [HNL.out]; exact Nat.le_refl _)] at h1
              rw [HB.out]
              omega
            clear hr hqt
            go_wp2_with fail
            exact ⟨⟨k + 1, M, by omega, by go_num, rfl, by omega, HQ.out, HFW.out⟩, by simp [intOf]; omega⟩
      · have u2 : ¬ (N : Int) < 4000 := by omega
        have u3 : (4000 : Int) ≤ (N : Int) := by omega
        clear hs
        go_wp2_with fail
        go_ret
        exact ⟨true, rfl, fun h => (by cases h), HF.out⟩
    · have e : k = n := by omega
      subst e
      by_cases hs : N < 4000
      · have HQ : Hid (weight L < 4000) := by
          have h1 := HN.out hs
          have h2 := body_weight L
          rw [HL.out] at h2
          show _ < _
          omega
        have u3 : (N : Int) < 4000 := by omega
        clear hs hN
        go_wp2_with fail
        go_ret
        exact ⟨false, by first | rfl | exact ret_bool7 (by simp; omega), fun _ => HQ.out, HF.out⟩
      · have u3 : (4000 : Int) ≤ (N : Int) := by omega
        clear hs hN
        go_wp2_with fail
        go_ret
        exact ⟨true, by first | rfl | exact ret_bool7 (by simp; omega), fun h => (by cases h), HF.out⟩

end Go.Proofs.YtpfkkpghgmmijaaGreatDoor

namespace Go.Proofs.YtpfkkpghgmmijaaGreatDoor
open Go.RowKit
set_option maxRecDepth 100000

theorem toHid10 {p : Prop} (h : p) : Hid p := h

set_option maxHeartbeats 8000000 in
theorem they_apart (x y : Pr) (pa pb qa qb : Option Addr) (no nn ca cb mo mn da db : Nat) (w : World) (b : Nat) (hb : w.cell? ⟨b, 0, none⟩ = some (.func (.func 129) #[] #[])) :
    Calls Tryz.prog 162 #[.agg #[.int .i64 x.kind, .string x.path, .string x.dst, .string x.src, .int .i64 x.pos, .slice pa no ca, .slice pb nn cb], .agg #[.int .i64 y.kind, .string y.path, .string y.dst, .string y.src, .int .i64 y.pos, .slice qa mo da, .slice qb mn db], .pointer (some ⟨b, 0, none⟩)] w fun e w' => e = .returned (.tuple #[.agg #[.int .i64 (y, x, apartP x y).1.kind, .string (y, x, apartP x y).1.path, .string (y, x, apartP x y).1.dst, .string (y, x, apartP x y).1.src, .int .i64 (y, x, apartP x y).1.pos, .slice qa mo da, .slice qb mn db], .agg #[.int .i64 (y, x, apartP x y).2.1.kind, .string (y, x, apartP x y).2.1.path, .string (y, x, apartP x y).2.1.dst, .string (y, x, apartP x y).2.1.src, .int .i64 (y, x, apartP x y).2.1.pos, .slice pa no ca, .slice pb nn cb], .bool (y, x, apartP x y).2.2]) ∧ Fr None' w w' := by
  have HQ : Hid (∀ w', Calls Tryz.prog 129 #[.agg #[.int .i64 x.kind, .string x.path, .string x.dst, .string x.src, .int .i64 x.pos, .slice pa no ca, .slice pb nn cb], .agg #[.int .i64 y.kind, .string y.path, .string y.dst, .string y.src, .int .i64 y.pos, .slice qa mo da, .slice qb mn db]] w' fun e w'' => e = .returned (.bool (apartP x y)) ∧ Fr None' w' w'') := fun w' => apart10_any x y pa pb qa qb no nn ca cb mo mn da db w'
  generalize apartP x y = R at HQ ⊢
  obtain ⟨K, P, T, F, A, lO, lN⟩ := x
  obtain ⟨K', P', T', F', A', lO', lN'⟩ := y
  simp only at HQ ⊢
  obtain ⟨w1, hw1⟩ : ∃ w1, w.alloc (.cells #[.int .i64 K, .string P, .string T, .string F, .int .i64 A, .slice pa no ca, .slice pb nn cb] 45) = w1 := ⟨_, rfl⟩
  obtain ⟨w2, hw2⟩ : ∃ w2, w1.alloc (.cells #[.int .i64 K', .string P', .string T', .string F', .int .i64 A', .slice qa mo da, .slice qb mn db] 45) = w2 := ⟨_, rfl⟩
  obtain ⟨w3, hw3⟩ : ∃ w3, w2.alloc (.cells #[.int .i64 0, .string ⟨#[]⟩, .string ⟨#[]⟩, .string ⟨#[]⟩, .int .i64 0, .slice none 0 0, .slice none 0 0] 45) = w3 := ⟨_, rfl⟩
  obtain ⟨w4, hw4⟩ : ∃ w4, w3.alloc (.cells #[.int .i64 0, .string ⟨#[]⟩, .string ⟨#[]⟩, .string ⟨#[]⟩, .int .i64 0, .slice none 0 0, .slice none 0 0] 45) = w4 := ⟨_, rfl⟩
  have F1 : Fr None' w w1 := hw1 ▸ Fr.alloc None' w _
  have F2 : Fr None' w1 w2 := hw2 ▸ Fr.alloc None' w1 _
  have F3 : Fr None' w2 w3 := hw3 ▸ Fr.alloc None' w2 _
  have F4 : Fr None' w3 w4 := hw4 ▸ Fr.alloc None' w3 _
  have BX : Box w4 w.heap.size (.int .i64 K) (.string P) (.string T) (.string F) (.int .i64 A) (.slice pa no ca) (.slice pb nn cb) := (hw1 ▸ Box.new w _ _ _ _ _ _ _ : Box w1 _ _ _ _ _ _ _ _).kept ((F2.then7 F3).then7 F4)
  have BY : Box w4 w1.heap.size (.int .i64 K') (.string P') (.string T') (.string F') (.int .i64 A') (.slice qa mo da) (.slice qb mn db) := (hw2 ▸ Box.new w1 _ _ _ _ _ _ _ : Box w2 _ _ _ _ _ _ _ _).kept (F3.then7 F4)
  have BC : Box w4 w2.heap.size (.int .i64 0) (.string ⟨#[]⟩) (.string ⟨#[]⟩) (.string ⟨#[]⟩) (.int .i64 0) (.slice none 0 0) (.slice none 0 0) := (hw3 ▸ Box.new w2 _ _ _ _ _ _ _ : Box w3 _ _ _ _ _ _ _ _).kept F4
  have BD : Box w4 w3.heap.size (.int .i64 0) (.string ⟨#[]⟩) (.string ⟨#[]⟩) (.string ⟨#[]⟩) (.int .i64 0) (.slice none 0 0) (.slice none 0 0) := hw4 ▸ Box.new w3 _ _ _ _ _ _ _
  have s1 : w1.heap.size = w.heap.size + 1 := by rw [← hw1]; simp
  have s2 : w2.heap.size = w1.heap.size + 1 := by rw [← hw2]; simp
  have s3 : w3.heap.size = w2.heap.size + 1 := by rw [← hw3]; simp
  have HF : Hid (Fr None' w w4) := ((F1.then7 F2).then7 F3).then7 F4
  have HN : Hid (w.heap.size < w1.heap.size ∧ w1.heap.size < w2.heap.size ∧ w2.heap.size < w3.heap.size) := ⟨by omega, by omega, by omega⟩
  have n1 : ¬ w.heap.size = w1.heap.size := by omega
  have n2 : ¬ w.heap.size = w2.heap.size := by omega
  have n3 : ¬ w.heap.size = w3.heap.size := by omega
  have n4 : ¬ w1.heap.size = w2.heap.size := by omega
  have n5 : ¬ w1.heap.size = w3.heap.size := by omega
  have n6 : ¬ w2.heap.size = w3.heap.size := by omega
  have HBs : Hid (∀ w', Fr None' w4 w' → Box w' w.heap.size (.int .i64 K) (.string P) (.string T) (.string F) (.int .i64 A) (.slice pa no ca) (.slice pb nn cb) ∧ Box w' w1.heap.size (.int .i64 K') (.string P') (.string T') (.string F') (.int .i64 A') (.slice qa mo da) (.slice qb mn db) ∧ Box w' w2.heap.size (.int .i64 0) (.string ⟨#[]⟩) (.string ⟨#[]⟩) (.string ⟨#[]⟩) (.int .i64 0) (.slice none 0 0) (.slice none 0 0) ∧ Box w' w3.heap.size (.int .i64 0) (.string ⟨#[]⟩) (.string ⟨#[]⟩) (.string ⟨#[]⟩) (.int .i64 0) (.slice none 0 0) (.slice none 0 0)) := fun w' f => ⟨BX.kept f, BY.kept f, BC.kept f, BD.kept f⟩
  have hlt : b < w.heap.size := cell_lt hb
  have HC : Hid (∀ w', Fr (fun k => k = w2.heap.size ∨ k = w3.heap.size) w4 w' → w'.cell? ⟨b, 0, none⟩ = some (.func (.func 129) #[] #[]) ∧ Box w' w.heap.size (.int .i64 K) (.string P) (.string T) (.string F) (.int .i64 A) (.slice pa no ca) (.slice pb nn cb) ∧ Box w' w1.heap.size (.int .i64 K') (.string P') (.string T') (.string F') (.int .i64 A') (.slice qa mo da) (.slice qb mn db)) := fun w' f => ⟨f.keepCell (HF.out.keepCell hb (fun e => e)) (by simp only; omega), BX.fr f (by omega), BY.fr f (by omega)⟩
  have HS : Hid (∀ w', Fr (fun k => k = w2.heap.size ∨ k = w3.heap.size) w4 w' → Fr (fun k => k = w2.heap.size ∨ k = w3.heap.size) w4 w' ∧ w'.cell? ⟨b, 0, none⟩ = some (.func (.func 129) #[] #[]) ∧ w'.cell? ⟨w.heap.size, 0, none⟩ = some (.int .i64 K) ∧ w'.cell? ⟨w.heap.size, 1, none⟩ = some (.string P) ∧ w'.cell? ⟨w.heap.size, 2, none⟩ = some (.string T) ∧ w'.cell? ⟨w.heap.size, 3, none⟩ = some (.string F) ∧ w'.cell? ⟨w.heap.size, 4, none⟩ = some (.int .i64 A) ∧ w'.cell? ⟨w.heap.size, 5, none⟩ = some (.slice pa no ca) ∧ w'.cell? ⟨w.heap.size, 6, none⟩ = some (.slice pb nn cb) ∧ w'.cell? ⟨w1.heap.size, 0, none⟩ = some (.int .i64 K') ∧ w'.cell? ⟨w1.heap.size, 1, none⟩ = some (.string P') ∧ w'.cell? ⟨w1.heap.size, 2, none⟩ = some (.string T') ∧ w'.cell? ⟨w1.heap.size, 3, none⟩ = some (.string F') ∧ w'.cell? ⟨w1.heap.size, 4, none⟩ = some (.int .i64 A') ∧ w'.cell? ⟨w1.heap.size, 5, none⟩ = some (.slice qa mo da) ∧ w'.cell? ⟨w1.heap.size, 6, none⟩ = some (.slice qb mn db)) := fun w' f => by
    obtain ⟨h, hx, hy⟩ := HC.out w' f
    obtain ⟨x0, x1, x2, x3, x4, x5, x6⟩ := hx.cells
    obtain ⟨y0, y1, y2, y3, y4, y5, y6⟩ := hy.cells
    exact ⟨f, h, x0, x1, x2, x3, x4, x5, x6, y0, y1, y2, y3, y4, y5, y6⟩
  have HZ : Hid (∀ w', Fr None' w4 w' → (∀ o, w'.frozen? ⟨w2.heap.size, o, none⟩ = false) ∧ (∀ o, w'.frozen? ⟨w3.heap.size, o, none⟩ = false) ∧ w'.cell? ⟨w2.heap.size, 0, none⟩ = some (.int .i64 0) ∧ w'.cell? ⟨w2.heap.size, 1, none⟩ = some (.string ⟨#[]⟩) ∧ w'.cell? ⟨w2.heap.size, 2, none⟩ = some (.string ⟨#[]⟩) ∧ w'.cell? ⟨w2.heap.size, 3, none⟩ = some (.string ⟨#[]⟩) ∧ w'.cell? ⟨w2.heap.size, 4, none⟩ = some (.int .i64 0) ∧ w'.cell? ⟨w2.heap.size, 5, none⟩ = some (.slice none 0 0) ∧ w'.cell? ⟨w2.heap.size, 6, none⟩ = some (.slice none 0 0) ∧ w'.cell? ⟨w3.heap.size, 0, none⟩ = some (.int .i64 0) ∧ w'.cell? ⟨w3.heap.size, 1, none⟩ = some (.string ⟨#[]⟩) ∧ w'.cell? ⟨w3.heap.size, 2, none⟩ = some (.string ⟨#[]⟩) ∧ w'.cell? ⟨w3.heap.size, 3, none⟩ = some (.string ⟨#[]⟩) ∧ w'.cell? ⟨w3.heap.size, 4, none⟩ = some (.int .i64 0) ∧ w'.cell? ⟨w3.heap.size, 5, none⟩ = some (.slice none 0 0) ∧ w'.cell? ⟨w3.heap.size, 6, none⟩ = some (.slice none 0 0)) := fun w' f => by
    obtain ⟨c0, c1, c2, c3, c4, c5, c6⟩ := (BC.kept f).cells
    obtain ⟨d0, d1, d2, d3, d4, d5, d6⟩ := (BD.kept f).cells
    exact ⟨(BC.kept f).frozen, (BD.kept f).frozen, c0, c1, c2, c3, c4, c5, c6, d0, d1, d2, d3, d4, d5, d6⟩
  have hS0 := HS.out w4.drew (Fr.drew _ w4)
  clear hb hlt n1 n2 n3 n4 n5
  clear F1 F2 F3 F4 BX BY BC BD s1 s2 s3
  go_enter Tryz.func162, Tryz.ntmps162
  go_wp2_with fail
  go_region_held3 (fun w' => Fr (fun k => k = w2.heap.size ∨ k = w3.heap.size) w4 w' ∧ w'.cell? ⟨b, 0, none⟩ = some (.func (.func 129) #[] #[]) ∧ w'.cell? ⟨w.heap.size, 0, none⟩ = some (.int .i64 K) ∧ w'.cell? ⟨w.heap.size, 1, none⟩ = some (.string P) ∧ w'.cell? ⟨w.heap.size, 2, none⟩ = some (.string T) ∧ w'.cell? ⟨w.heap.size, 3, none⟩ = some (.string F) ∧ w'.cell? ⟨w.heap.size, 4, none⟩ = some (.int .i64 A) ∧ w'.cell? ⟨w.heap.size, 5, none⟩ = some (.slice pa no ca) ∧ w'.cell? ⟨w.heap.size, 6, none⟩ = some (.slice pb nn cb) ∧ w'.cell? ⟨w1.heap.size, 0, none⟩ = some (.int .i64 K') ∧ w'.cell? ⟨w1.heap.size, 1, none⟩ = some (.string P') ∧ w'.cell? ⟨w1.heap.size, 2, none⟩ = some (.string T') ∧ w'.cell? ⟨w1.heap.size, 3, none⟩ = some (.string F') ∧ w'.cell? ⟨w1.heap.size, 4, none⟩ = some (.int .i64 A') ∧ w'.cell? ⟨w1.heap.size, 5, none⟩ = some (.slice qa mo da) ∧ w'.cell? ⟨w1.heap.size, 6, none⟩ = some (.slice qb mn db))
    (first | with_reducible exact hS0 | with_reducible exact hS5 | with_reducible exact hS6 | with_reducible exact hS7)
    ((go_at_call 129; with_reducible (refine (HQ.out _).mono ?_); rintro e w5 ⟨rfl, f5⟩; have H5 := toHid10 (Fr.then7 (Fr.drew None' w4) f5); have hS5 := HS.out w5 (Fr.any (Hid.out H5)); have hS6 := HS.out (setP w5 w2.heap.size (.int .i64 K') (.string P') (.string T') (.string F') (.int .i64 A') (.slice qa mo da) (.slice qb mn db)) (Fr.then (Fr.any (Hid.out H5)) (Fr.setP _ (Or.inl rfl) _ _ _ _ _ _ _)); have hS7 := HS.out (setP (setP w5 w2.heap.size (.int .i64 K') (.string P') (.string T') (.string F') (.int .i64 A') (.slice qa mo da) (.slice qb mn db)) w3.heap.size (.int .i64 K) (.string P) (.string T) (.string F) (.int .i64 A) (.slice pa no ca) (.slice pb nn cb)) (Fr.then (Fr.then (Fr.any (Hid.out H5)) (Fr.setP _ (Or.inl rfl) _ _ _ _ _ _ _)) (Fr.setP _ (Or.inr rfl) _ _ _ _ _ _ _)); obtain ⟨cz, dz, c0, c1, c2, c3, c4, c5, c6, d0, d1, d2, d3, d4, d5, d6⟩ := HZ.out w5 (Hid.out H5); clear f5))
  have HW5 : Hid (Fr None' w w5) := HF.out.then7 H5.out
  have HB5 := toHid10 (HBs.out w5 H5.out)
  clear hS0 hS5 hS6 hS7 cz dz c0 c1 c2 c3 c4 c5 c6 d0 d1 d2 d3 d4 d5 d6
  go_wp2_with fail
  have hfin := two_set0 HW5.out HB5.out.2.2.1 HB5.out.2.2.2 n6 (by have := HN.out; omega) (by have := HN.out; omega) (.int .i64 K') (.string P') (.string T') (.string F') (.int .i64 A') (.slice qa mo da) (.slice qb mn db) (.int .i64 K) (.string P) (.string T) (.string F) (.int .i64 A) (.slice pa no ca) (.slice pb nn cb)
  exact ret_two rfl rfl rfl rfl rfl hfin.1 hfin.2.1 ⟨rfl, hfin.2.2.1⟩

set_option maxHeartbeats 8000000 in
theorem they_unlike (x y : Pr) (pa pb qa qb : Option Addr) (no nn ca cb mo mn da db : Nat) (w : World) (b : Nat) (hb : w.cell? ⟨b, 0, none⟩ = some (.func (.func 130) #[] #[])) :
    Calls Tryz.prog 162 #[.agg #[.int .i64 x.kind, .string x.path, .string x.dst, .string x.src, .int .i64 x.pos, .slice pa no ca, .slice pb nn cb], .agg #[.int .i64 y.kind, .string y.path, .string y.dst, .string y.src, .int .i64 y.pos, .slice qa mo da, .slice qb mn db], .pointer (some ⟨b, 0, none⟩)] w fun e w' => e = .returned (.tuple #[.agg #[.int .i64 (y, x, decide (¬ x.path = y.path)).1.kind, .string (y, x, decide (¬ x.path = y.path)).1.path, .string (y, x, decide (¬ x.path = y.path)).1.dst, .string (y, x, decide (¬ x.path = y.path)).1.src, .int .i64 (y, x, decide (¬ x.path = y.path)).1.pos, .slice qa mo da, .slice qb mn db], .agg #[.int .i64 (y, x, decide (¬ x.path = y.path)).2.1.kind, .string (y, x, decide (¬ x.path = y.path)).2.1.path, .string (y, x, decide (¬ x.path = y.path)).2.1.dst, .string (y, x, decide (¬ x.path = y.path)).2.1.src, .int .i64 (y, x, decide (¬ x.path = y.path)).2.1.pos, .slice pa no ca, .slice pb nn cb], .bool (y, x, decide (¬ x.path = y.path)).2.2]) ∧ Fr None' w w' := by
  have HQ : Hid (∀ w', Calls Tryz.prog 130 #[.agg #[.int .i64 x.kind, .string x.path, .string x.dst, .string x.src, .int .i64 x.pos, .slice pa no ca, .slice pb nn cb], .agg #[.int .i64 y.kind, .string y.path, .string y.dst, .string y.src, .int .i64 y.pos, .slice qa mo da, .slice qb mn db]] w' fun e w'' => e = .returned (.bool (decide (¬ x.path = y.path))) ∧ Fr None' w' w'') := fun w' => unlike_any x y pa pb qa qb no nn ca cb mo mn da db w'
  generalize decide (¬ x.path = y.path) = R at HQ ⊢
  obtain ⟨K, P, T, F, A, lO, lN⟩ := x
  obtain ⟨K', P', T', F', A', lO', lN'⟩ := y
  simp only at HQ ⊢
  obtain ⟨w1, hw1⟩ : ∃ w1, w.alloc (.cells #[.int .i64 K, .string P, .string T, .string F, .int .i64 A, .slice pa no ca, .slice pb nn cb] 45) = w1 := ⟨_, rfl⟩
  obtain ⟨w2, hw2⟩ : ∃ w2, w1.alloc (.cells #[.int .i64 K', .string P', .string T', .string F', .int .i64 A', .slice qa mo da, .slice qb mn db] 45) = w2 := ⟨_, rfl⟩
  obtain ⟨w3, hw3⟩ : ∃ w3, w2.alloc (.cells #[.int .i64 0, .string ⟨#[]⟩, .string ⟨#[]⟩, .string ⟨#[]⟩, .int .i64 0, .slice none 0 0, .slice none 0 0] 45) = w3 := ⟨_, rfl⟩
  obtain ⟨w4, hw4⟩ : ∃ w4, w3.alloc (.cells #[.int .i64 0, .string ⟨#[]⟩, .string ⟨#[]⟩, .string ⟨#[]⟩, .int .i64 0, .slice none 0 0, .slice none 0 0] 45) = w4 := ⟨_, rfl⟩
  have F1 : Fr None' w w1 := hw1 ▸ Fr.alloc None' w _
  have F2 : Fr None' w1 w2 := hw2 ▸ Fr.alloc None' w1 _
  have F3 : Fr None' w2 w3 := hw3 ▸ Fr.alloc None' w2 _
  have F4 : Fr None' w3 w4 := hw4 ▸ Fr.alloc None' w3 _
  have BX : Box w4 w.heap.size (.int .i64 K) (.string P) (.string T) (.string F) (.int .i64 A) (.slice pa no ca) (.slice pb nn cb) := (hw1 ▸ Box.new w _ _ _ _ _ _ _ : Box w1 _ _ _ _ _ _ _ _).kept ((F2.then7 F3).then7 F4)
  have BY : Box w4 w1.heap.size (.int .i64 K') (.string P') (.string T') (.string F') (.int .i64 A') (.slice qa mo da) (.slice qb mn db) := (hw2 ▸ Box.new w1 _ _ _ _ _ _ _ : Box w2 _ _ _ _ _ _ _ _).kept (F3.then7 F4)
  have BC : Box w4 w2.heap.size (.int .i64 0) (.string ⟨#[]⟩) (.string ⟨#[]⟩) (.string ⟨#[]⟩) (.int .i64 0) (.slice none 0 0) (.slice none 0 0) := (hw3 ▸ Box.new w2 _ _ _ _ _ _ _ : Box w3 _ _ _ _ _ _ _ _).kept F4
  have BD : Box w4 w3.heap.size (.int .i64 0) (.string ⟨#[]⟩) (.string ⟨#[]⟩) (.string ⟨#[]⟩) (.int .i64 0) (.slice none 0 0) (.slice none 0 0) := hw4 ▸ Box.new w3 _ _ _ _ _ _ _
  have s1 : w1.heap.size = w.heap.size + 1 := by rw [← hw1]; simp
  have s2 : w2.heap.size = w1.heap.size + 1 := by rw [← hw2]; simp
  have s3 : w3.heap.size = w2.heap.size + 1 := by rw [← hw3]; simp
  have HF : Hid (Fr None' w w4) := ((F1.then7 F2).then7 F3).then7 F4
  have HN : Hid (w.heap.size < w1.heap.size ∧ w1.heap.size < w2.heap.size ∧ w2.heap.size < w3.heap.size) := ⟨by omega, by omega, by omega⟩
  have n1 : ¬ w.heap.size = w1.heap.size := by omega
  have n2 : ¬ w.heap.size = w2.heap.size := by omega
  have n3 : ¬ w.heap.size = w3.heap.size := by omega
  have n4 : ¬ w1.heap.size = w2.heap.size := by omega
  have n5 : ¬ w1.heap.size = w3.heap.size := by omega
  have n6 : ¬ w2.heap.size = w3.heap.size := by omega
  have HBs : Hid (∀ w', Fr None' w4 w' → Box w' w.heap.size (.int .i64 K) (.string P) (.string T) (.string F) (.int .i64 A) (.slice pa no ca) (.slice pb nn cb) ∧ Box w' w1.heap.size (.int .i64 K') (.string P') (.string T') (.string F') (.int .i64 A') (.slice qa mo da) (.slice qb mn db) ∧ Box w' w2.heap.size (.int .i64 0) (.string ⟨#[]⟩) (.string ⟨#[]⟩) (.string ⟨#[]⟩) (.int .i64 0) (.slice none 0 0) (.slice none 0 0) ∧ Box w' w3.heap.size (.int .i64 0) (.string ⟨#[]⟩) (.string ⟨#[]⟩) (.string ⟨#[]⟩) (.int .i64 0) (.slice none 0 0) (.slice none 0 0)) := fun w' f => ⟨BX.kept f, BY.kept f, BC.kept f, BD.kept f⟩
  have hlt : b < w.heap.size := cell_lt hb
  have HC : Hid (∀ w', Fr (fun k => k = w2.heap.size ∨ k = w3.heap.size) w4 w' → w'.cell? ⟨b, 0, none⟩ = some (.func (.func 130) #[] #[]) ∧ Box w' w.heap.size (.int .i64 K) (.string P) (.string T) (.string F) (.int .i64 A) (.slice pa no ca) (.slice pb nn cb) ∧ Box w' w1.heap.size (.int .i64 K') (.string P') (.string T') (.string F') (.int .i64 A') (.slice qa mo da) (.slice qb mn db)) := fun w' f => ⟨f.keepCell (HF.out.keepCell hb (fun e => e)) (by simp only; omega), BX.fr f (by omega), BY.fr f (by omega)⟩
  have HS : Hid (∀ w', Fr (fun k => k = w2.heap.size ∨ k = w3.heap.size) w4 w' → Fr (fun k => k = w2.heap.size ∨ k = w3.heap.size) w4 w' ∧ w'.cell? ⟨b, 0, none⟩ = some (.func (.func 130) #[] #[]) ∧ w'.cell? ⟨w.heap.size, 0, none⟩ = some (.int .i64 K) ∧ w'.cell? ⟨w.heap.size, 1, none⟩ = some (.string P) ∧ w'.cell? ⟨w.heap.size, 2, none⟩ = some (.string T) ∧ w'.cell? ⟨w.heap.size, 3, none⟩ = some (.string F) ∧ w'.cell? ⟨w.heap.size, 4, none⟩ = some (.int .i64 A) ∧ w'.cell? ⟨w.heap.size, 5, none⟩ = some (.slice pa no ca) ∧ w'.cell? ⟨w.heap.size, 6, none⟩ = some (.slice pb nn cb) ∧ w'.cell? ⟨w1.heap.size, 0, none⟩ = some (.int .i64 K') ∧ w'.cell? ⟨w1.heap.size, 1, none⟩ = some (.string P') ∧ w'.cell? ⟨w1.heap.size, 2, none⟩ = some (.string T') ∧ w'.cell? ⟨w1.heap.size, 3, none⟩ = some (.string F') ∧ w'.cell? ⟨w1.heap.size, 4, none⟩ = some (.int .i64 A') ∧ w'.cell? ⟨w1.heap.size, 5, none⟩ = some (.slice qa mo da) ∧ w'.cell? ⟨w1.heap.size, 6, none⟩ = some (.slice qb mn db)) := fun w' f => by
    obtain ⟨h, hx, hy⟩ := HC.out w' f
    obtain ⟨x0, x1, x2, x3, x4, x5, x6⟩ := hx.cells
    obtain ⟨y0, y1, y2, y3, y4, y5, y6⟩ := hy.cells
    exact ⟨f, h, x0, x1, x2, x3, x4, x5, x6, y0, y1, y2, y3, y4, y5, y6⟩
  have HZ : Hid (∀ w', Fr None' w4 w' → (∀ o, w'.frozen? ⟨w2.heap.size, o, none⟩ = false) ∧ (∀ o, w'.frozen? ⟨w3.heap.size, o, none⟩ = false) ∧ w'.cell? ⟨w2.heap.size, 0, none⟩ = some (.int .i64 0) ∧ w'.cell? ⟨w2.heap.size, 1, none⟩ = some (.string ⟨#[]⟩) ∧ w'.cell? ⟨w2.heap.size, 2, none⟩ = some (.string ⟨#[]⟩) ∧ w'.cell? ⟨w2.heap.size, 3, none⟩ = some (.string ⟨#[]⟩) ∧ w'.cell? ⟨w2.heap.size, 4, none⟩ = some (.int .i64 0) ∧ w'.cell? ⟨w2.heap.size, 5, none⟩ = some (.slice none 0 0) ∧ w'.cell? ⟨w2.heap.size, 6, none⟩ = some (.slice none 0 0) ∧ w'.cell? ⟨w3.heap.size, 0, none⟩ = some (.int .i64 0) ∧ w'.cell? ⟨w3.heap.size, 1, none⟩ = some (.string ⟨#[]⟩) ∧ w'.cell? ⟨w3.heap.size, 2, none⟩ = some (.string ⟨#[]⟩) ∧ w'.cell? ⟨w3.heap.size, 3, none⟩ = some (.string ⟨#[]⟩) ∧ w'.cell? ⟨w3.heap.size, 4, none⟩ = some (.int .i64 0) ∧ w'.cell? ⟨w3.heap.size, 5, none⟩ = some (.slice none 0 0) ∧ w'.cell? ⟨w3.heap.size, 6, none⟩ = some (.slice none 0 0)) := fun w' f => by
    obtain ⟨c0, c1, c2, c3, c4, c5, c6⟩ := (BC.kept f).cells
    obtain ⟨d0, d1, d2, d3, d4, d5, d6⟩ := (BD.kept f).cells
    exact ⟨(BC.kept f).frozen, (BD.kept f).frozen, c0, c1, c2, c3, c4, c5, c6, d0, d1, d2, d3, d4, d5, d6⟩
  have hS0 := HS.out w4.drew (Fr.drew _ w4)
  clear hb hlt n1 n2 n3 n4 n5
  clear F1 F2 F3 F4 BX BY BC BD s1 s2 s3
  go_enter Tryz.func162, Tryz.ntmps162
  go_wp2_with fail
  go_region_held3 (fun w' => Fr (fun k => k = w2.heap.size ∨ k = w3.heap.size) w4 w' ∧ w'.cell? ⟨b, 0, none⟩ = some (.func (.func 130) #[] #[]) ∧ w'.cell? ⟨w.heap.size, 0, none⟩ = some (.int .i64 K) ∧ w'.cell? ⟨w.heap.size, 1, none⟩ = some (.string P) ∧ w'.cell? ⟨w.heap.size, 2, none⟩ = some (.string T) ∧ w'.cell? ⟨w.heap.size, 3, none⟩ = some (.string F) ∧ w'.cell? ⟨w.heap.size, 4, none⟩ = some (.int .i64 A) ∧ w'.cell? ⟨w.heap.size, 5, none⟩ = some (.slice pa no ca) ∧ w'.cell? ⟨w.heap.size, 6, none⟩ = some (.slice pb nn cb) ∧ w'.cell? ⟨w1.heap.size, 0, none⟩ = some (.int .i64 K') ∧ w'.cell? ⟨w1.heap.size, 1, none⟩ = some (.string P') ∧ w'.cell? ⟨w1.heap.size, 2, none⟩ = some (.string T') ∧ w'.cell? ⟨w1.heap.size, 3, none⟩ = some (.string F') ∧ w'.cell? ⟨w1.heap.size, 4, none⟩ = some (.int .i64 A') ∧ w'.cell? ⟨w1.heap.size, 5, none⟩ = some (.slice qa mo da) ∧ w'.cell? ⟨w1.heap.size, 6, none⟩ = some (.slice qb mn db))
    (first | with_reducible exact hS0 | with_reducible exact hS5 | with_reducible exact hS6 | with_reducible exact hS7)
    ((go_at_call 130; with_reducible (refine (HQ.out _).mono ?_); rintro e w5 ⟨rfl, f5⟩; have H5 := toHid10 (Fr.then7 (Fr.drew None' w4) f5); have hS5 := HS.out w5 (Fr.any (Hid.out H5)); have hS6 := HS.out (setP w5 w2.heap.size (.int .i64 K') (.string P') (.string T') (.string F') (.int .i64 A') (.slice qa mo da) (.slice qb mn db)) (Fr.then (Fr.any (Hid.out H5)) (Fr.setP _ (Or.inl rfl) _ _ _ _ _ _ _)); have hS7 := HS.out (setP (setP w5 w2.heap.size (.int .i64 K') (.string P') (.string T') (.string F') (.int .i64 A') (.slice qa mo da) (.slice qb mn db)) w3.heap.size (.int .i64 K) (.string P) (.string T) (.string F) (.int .i64 A) (.slice pa no ca) (.slice pb nn cb)) (Fr.then (Fr.then (Fr.any (Hid.out H5)) (Fr.setP _ (Or.inl rfl) _ _ _ _ _ _ _)) (Fr.setP _ (Or.inr rfl) _ _ _ _ _ _ _)); obtain ⟨cz, dz, c0, c1, c2, c3, c4, c5, c6, d0, d1, d2, d3, d4, d5, d6⟩ := HZ.out w5 (Hid.out H5); clear f5))
  have HW5 : Hid (Fr None' w w5) := HF.out.then7 H5.out
  have HB5 := toHid10 (HBs.out w5 H5.out)
  clear hS0 hS5 hS6 hS7 cz dz c0 c1 c2 c3 c4 c5 c6 d0 d1 d2 d3 d4 d5 d6
  go_wp2_with fail
  have hfin := two_set0 HW5.out HB5.out.2.2.1 HB5.out.2.2.2 n6 (by have := HN.out; omega) (by have := HN.out; omega) (.int .i64 K') (.string P') (.string T') (.string F') (.int .i64 A') (.slice qa mo da) (.slice qb mn db) (.int .i64 K) (.string P) (.string T) (.string F) (.int .i64 A) (.slice pa no ca) (.slice pb nn cb)
  exact ret_two rfl rfl rfl rfl rfl hfin.1 hfin.2.1 ⟨rfl, hfin.2.2.1⟩

set_option maxHeartbeats 8000000 in
theorem changeMove_any (x y : Pr) (pa pb qa qb : Option Addr) (no nn ca cb mo mn da db : Nat) (w : World) (zx : x.path.size < 900000 ∧ x.dst.size < 900000) (zy : y.path.size < 900000 ∧ y.dst.size < 900000) :
    Calls Tryz.prog 132 #[.agg #[.int .i64 x.kind, .string x.path, .string x.dst, .string x.src, .int .i64 x.pos, .slice pa no ca, .slice pb nn cb], .agg #[.int .i64 y.kind, .string y.path, .string y.dst, .string y.src, .int .i64 y.pos, .slice qa mo da, .slice qb mn db]] w fun e w' => e = .returned (.tuple #[.agg #[.int .i64 (changeMoveC x y).1.kind, .string (changeMoveC x y).1.path, .string (changeMoveC x y).1.dst, .string (changeMoveC x y).1.src, .int .i64 (changeMoveC x y).1.pos, .slice qa mo da, .slice qb mn db], .agg #[.int .i64 (changeMoveC x y).2.1.kind, .string (changeMoveC x y).2.1.path, .string (changeMoveC x y).2.1.dst, .string (changeMoveC x y).2.1.src, .int .i64 (changeMoveC x y).2.1.pos, .slice pa no ca, .slice pb nn cb], .bool (changeMoveC x y).2.2]) ∧ Fr None' w w' := by
  have HQ := toHid10 (fun w' => carried_any x.path y.path y.dst w' (by omega) (by omega))
  unfold changeMoveC
  generalize (carryP x.path y.path y.dst).1 = M at HQ ⊢
  generalize (carryP x.path y.path y.dst).2 = R at HQ ⊢
  clear zx zy
  obtain ⟨K, P, T, F, A, lO, lN⟩ := x
  obtain ⟨K', P', T', F', A', lO', lN'⟩ := y
  simp only at HQ ⊢
  obtain ⟨w1, hw1⟩ : ∃ w1, w.alloc (.cells #[.int .i64 K, .string P, .string T, .string F, .int .i64 A, .slice pa no ca, .slice pb nn cb] 45) = w1 := ⟨_, rfl⟩
  obtain ⟨w2, hw2⟩ : ∃ w2, w1.alloc (.cells #[.int .i64 K', .string P', .string T', .string F', .int .i64 A', .slice qa mo da, .slice qb mn db] 45) = w2 := ⟨_, rfl⟩
  obtain ⟨w3, hw3⟩ : ∃ w3, w2.alloc (.cells #[.int .i64 0, .string ⟨#[]⟩, .string ⟨#[]⟩, .string ⟨#[]⟩, .int .i64 0, .slice none 0 0, .slice none 0 0] 45) = w3 := ⟨_, rfl⟩
  obtain ⟨w4, hw4⟩ : ∃ w4, w3.alloc (.cells #[.int .i64 0, .string ⟨#[]⟩, .string ⟨#[]⟩, .string ⟨#[]⟩, .int .i64 0, .slice none 0 0, .slice none 0 0] 45) = w4 := ⟨_, rfl⟩
  have F1 : Fr None' w w1 := hw1 ▸ Fr.alloc None' w _
  have F2 : Fr None' w1 w2 := hw2 ▸ Fr.alloc None' w1 _
  have F3 : Fr None' w2 w3 := hw3 ▸ Fr.alloc None' w2 _
  have F4 : Fr None' w3 w4 := hw4 ▸ Fr.alloc None' w3 _
  have BX : Box w4 w.heap.size (.int .i64 K) (.string P) (.string T) (.string F) (.int .i64 A) (.slice pa no ca) (.slice pb nn cb) := (hw1 ▸ Box.new w _ _ _ _ _ _ _ : Box w1 _ _ _ _ _ _ _ _).kept ((F2.then7 F3).then7 F4)
  have BY : Box w4 w1.heap.size (.int .i64 K') (.string P') (.string T') (.string F') (.int .i64 A') (.slice qa mo da) (.slice qb mn db) := (hw2 ▸ Box.new w1 _ _ _ _ _ _ _ : Box w2 _ _ _ _ _ _ _ _).kept (F3.then7 F4)
  have BC : Box w4 w2.heap.size (.int .i64 0) (.string ⟨#[]⟩) (.string ⟨#[]⟩) (.string ⟨#[]⟩) (.int .i64 0) (.slice none 0 0) (.slice none 0 0) := (hw3 ▸ Box.new w2 _ _ _ _ _ _ _ : Box w3 _ _ _ _ _ _ _ _).kept F4
  have BD : Box w4 w3.heap.size (.int .i64 0) (.string ⟨#[]⟩) (.string ⟨#[]⟩) (.string ⟨#[]⟩) (.int .i64 0) (.slice none 0 0) (.slice none 0 0) := hw4 ▸ Box.new w3 _ _ _ _ _ _ _
  have s1 : w1.heap.size = w.heap.size + 1 := by rw [← hw1]; simp
  have s2 : w2.heap.size = w1.heap.size + 1 := by rw [← hw2]; simp
  have s3 : w3.heap.size = w2.heap.size + 1 := by rw [← hw3]; simp
  have HF : Hid (Fr None' w w4) := ((F1.then7 F2).then7 F3).then7 F4
  have HN : Hid (w.heap.size < w1.heap.size ∧ w1.heap.size < w2.heap.size ∧ w2.heap.size < w3.heap.size) := ⟨by omega, by omega, by omega⟩
  have n1 : ¬ w.heap.size = w1.heap.size := by omega
  have n2 : ¬ w.heap.size = w2.heap.size := by omega
  have n3 : ¬ w.heap.size = w3.heap.size := by omega
  have n4 : ¬ w1.heap.size = w2.heap.size := by omega
  have n5 : ¬ w1.heap.size = w3.heap.size := by omega
  have n6 : ¬ w2.heap.size = w3.heap.size := by omega
  have HBs : Hid (∀ w', Fr None' w4 w' → Box w' w.heap.size (.int .i64 K) (.string P) (.string T) (.string F) (.int .i64 A) (.slice pa no ca) (.slice pb nn cb) ∧ Box w' w1.heap.size (.int .i64 K') (.string P') (.string T') (.string F') (.int .i64 A') (.slice qa mo da) (.slice qb mn db) ∧ Box w' w2.heap.size (.int .i64 0) (.string ⟨#[]⟩) (.string ⟨#[]⟩) (.string ⟨#[]⟩) (.int .i64 0) (.slice none 0 0) (.slice none 0 0) ∧ Box w' w3.heap.size (.int .i64 0) (.string ⟨#[]⟩) (.string ⟨#[]⟩) (.string ⟨#[]⟩) (.int .i64 0) (.slice none 0 0) (.slice none 0 0)) := fun w' f => ⟨BX.kept f, BY.kept f, BC.kept f, BD.kept f⟩
  obtain ⟨x0, x1, x2, x3, x4, x5, x6⟩ := BX.cells
  obtain ⟨y0, y1, y2, y3, y4, y5, y6⟩ := BY.cells
  obtain ⟨c0, c1, c2, c3, c4, c5, c6⟩ := BC.cells
  obtain ⟨d0, d1, d2, d3, d4, d5, d6⟩ := BD.cells
  have xz := BX.frozen
  have yz := BY.frozen
  have cz := BC.frozen
  have dz := BD.frozen
  clear F1 F2 F3 F4 BX BY BC BD s1 s2 s3
  have q1 := HQ.out w4
  clear n1 n2 n3 n4 n5
  go_enter Tryz.func132, Tryz.ntmps132
  go_wp2_with fail
  with_reducible refine q1.mono ?_
  rintro e w5 ⟨rfl, rfl⟩
  clear q1
  go_wp2_with fail
  obtain ⟨w6, hw6⟩ : ∃ y, w4.setCell ⟨w.heap.size, 1, none⟩ (.string M) = y := ⟨_, rfl⟩
  have F6 : Fr (fun k => k = w.heap.size) w4 w6 := hw6 ▸ Fr.setQ _ _ _ _
  have HB := toHid10 (show Box w6 w.heap.size (.int .i64 K) (.string M) (.string T) (.string F) (.int .i64 A) (.slice pa no ca) (.slice pb nn cb) ∧ Box w6 w1.heap.size (.int .i64 K') (.string P') (.string T') (.string F') (.int .i64 A') (.slice qa mo da) (.slice qb mn db) ∧ Box w6 w2.heap.size (.int .i64 0) (.string ⟨#[]⟩) (.string ⟨#[]⟩) (.string ⟨#[]⟩) (.int .i64 0) (.slice none 0 0) (.slice none 0 0) ∧ Box w6 w3.heap.size (.int .i64 0) (.string ⟨#[]⟩) (.string ⟨#[]⟩) (.string ⟨#[]⟩) (.int .i64 0) (.slice none 0 0) (.slice none 0 0) from by
    obtain ⟨b1, b2, b3, b4⟩ := HBs.out w4 (Fr.refl _ _)
    have := HN.out
    exact ⟨hw6 ▸ b1.set1 _, b2.fr F6 (by omega), b3.fr F6 (by omega), b4.fr F6 (by omega)⟩)
  have HW := toHid10 (show Fr None' w w6 from HF.out.trans F6 (fun _ e => Or.inr (by have := HN.out; omega)))
  rw [hw6]
  clear F6 hw6 x0 x1 x2 x3 x4 x5 x6 y0 y1 y2 y3 y4 y5 y6 c0 c1 c2 c3 c4 c5 c6 d0 d1 d2 d3 d4 d5 d6 xz yz cz dz
  have HS := toHid10 (show (∀ w', Fr (fun k => k = w2.heap.size ∨ k = w3.heap.size) w6 w' → Fr (fun k => k = w2.heap.size ∨ k = w3.heap.size) w6 w' ∧ w'.cell? ⟨w.heap.size, 0, none⟩ = some (.int .i64 K) ∧ w'.cell? ⟨w.heap.size, 1, none⟩ = some (.string M) ∧ w'.cell? ⟨w.heap.size, 2, none⟩ = some (.string T) ∧ w'.cell? ⟨w.heap.size, 3, none⟩ = some (.string F) ∧ w'.cell? ⟨w.heap.size, 4, none⟩ = some (.int .i64 A) ∧ w'.cell? ⟨w.heap.size, 5, none⟩ = some (.slice pa no ca) ∧ w'.cell? ⟨w.heap.size, 6, none⟩ = some (.slice pb nn cb) ∧ w'.cell? ⟨w1.heap.size, 0, none⟩ = some (.int .i64 K') ∧ w'.cell? ⟨w1.heap.size, 1, none⟩ = some (.string P') ∧ w'.cell? ⟨w1.heap.size, 2, none⟩ = some (.string T') ∧ w'.cell? ⟨w1.heap.size, 3, none⟩ = some (.string F') ∧ w'.cell? ⟨w1.heap.size, 4, none⟩ = some (.int .i64 A') ∧ w'.cell? ⟨w1.heap.size, 5, none⟩ = some (.slice qa mo da) ∧ w'.cell? ⟨w1.heap.size, 6, none⟩ = some (.slice qb mn db)) from fun w' f => by
    obtain ⟨x0, x1, x2, x3, x4, x5, x6⟩ := (HB.out.1.fr f (by have := HN.out; omega)).cells
    obtain ⟨y0, y1, y2, y3, y4, y5, y6⟩ := (HB.out.2.1.fr f (by have := HN.out; omega)).cells
    exact ⟨f, x0, x1, x2, x3, x4, x5, x6, y0, y1, y2, y3, y4, y5, y6⟩)
  have hS0 := HS.out w6.drew (Fr.drew _ w6)
  have hS6 := HS.out (setP w6 w2.heap.size (.int .i64 K') (.string P') (.string T') (.string F') (.int .i64 A') (.slice qa mo da) (.slice qb mn db)).drew (Fr.then (Fr.setP _ (Or.inl rfl) _ _ _ _ _ _ _) (Fr.drew _ _))
  have hS7 := HS.out (setP (setP w6 w2.heap.size (.int .i64 K') (.string P') (.string T') (.string F') (.int .i64 A') (.slice qa mo da) (.slice qb mn db)) w3.heap.size (.int .i64 K) (.string M) (.string T) (.string F) (.int .i64 A) (.slice pa no ca) (.slice pb nn cb)).drew (Fr.then (Fr.then (Fr.setP _ (Or.inl rfl) _ _ _ _ _ _ _) (Fr.setP _ (Or.inr rfl) _ _ _ _ _ _ _)) (Fr.drew _ _))
  obtain ⟨c0, c1, c2, c3, c4, c5, c6⟩ := HB.out.2.2.1.cells
  obtain ⟨d0, d1, d2, d3, d4, d5, d6⟩ := HB.out.2.2.2.cells
  have cz := HB.out.2.2.1.frozen
  have dz := HB.out.2.2.2.frozen
  go_region_held3 (fun w' => Fr (fun k => k = w2.heap.size ∨ k = w3.heap.size) w6 w' ∧ w'.cell? ⟨w.heap.size, 0, none⟩ = some (.int .i64 K) ∧ w'.cell? ⟨w.heap.size, 1, none⟩ = some (.string M) ∧ w'.cell? ⟨w.heap.size, 2, none⟩ = some (.string T) ∧ w'.cell? ⟨w.heap.size, 3, none⟩ = some (.string F) ∧ w'.cell? ⟨w.heap.size, 4, none⟩ = some (.int .i64 A) ∧ w'.cell? ⟨w.heap.size, 5, none⟩ = some (.slice pa no ca) ∧ w'.cell? ⟨w.heap.size, 6, none⟩ = some (.slice pb nn cb) ∧ w'.cell? ⟨w1.heap.size, 0, none⟩ = some (.int .i64 K') ∧ w'.cell? ⟨w1.heap.size, 1, none⟩ = some (.string P') ∧ w'.cell? ⟨w1.heap.size, 2, none⟩ = some (.string T') ∧ w'.cell? ⟨w1.heap.size, 3, none⟩ = some (.string F') ∧ w'.cell? ⟨w1.heap.size, 4, none⟩ = some (.int .i64 A') ∧ w'.cell? ⟨w1.heap.size, 5, none⟩ = some (.slice qa mo da) ∧ w'.cell? ⟨w1.heap.size, 6, none⟩ = some (.slice qb mn db))
    (first | with_reducible exact hS0 | with_reducible exact hS6 | with_reducible exact hS7)
    (fail)
  clear hS0 hS6 hS7 cz dz c0 c1 c2 c3 c4 c5 c6 d0 d1 d2 d3 d4 d5 d6
  go_wp2_with fail
  have hfin := two_set0 HW.out HB.out.2.2.1 HB.out.2.2.2 n6 (by have := HN.out; omega) (by have := HN.out; omega) (.int .i64 K') (.string P') (.string T') (.string F') (.int .i64 A') (.slice qa mo da) (.slice qb mn db) (.int .i64 K) (.string M) (.string T) (.string F) (.int .i64 A) (.slice pa no ca) (.slice pb nn cb)
  exact ret_two rfl rfl rfl rfl rfl hfin.1.drew hfin.2.1.drew ⟨rfl, hfin.2.2.1.then7 (Fr.drew _ _)⟩

set_option maxHeartbeats 8000000 in
theorem moveChange_any (x y : Pr) (pa pb qa qb : Option Addr) (no nn ca cb mo mn da db : Nat) (w : World) (zx : x.path.size < 900000 ∧ x.dst.size < 900000) (zy : y.path.size < 900000 ∧ y.dst.size < 900000) :
    Calls Tryz.prog 133 #[.agg #[.int .i64 x.kind, .string x.path, .string x.dst, .string x.src, .int .i64 x.pos, .slice pa no ca, .slice pb nn cb], .agg #[.int .i64 y.kind, .string y.path, .string y.dst, .string y.src, .int .i64 y.pos, .slice qa mo da, .slice qb mn db]] w fun e w' => e = .returned (.tuple #[.agg #[.int .i64 (moveChangeC x y).1.kind, .string (moveChangeC x y).1.path, .string (moveChangeC x y).1.dst, .string (moveChangeC x y).1.src, .int .i64 (moveChangeC x y).1.pos, .slice qa mo da, .slice qb mn db], .agg #[.int .i64 (moveChangeC x y).2.1.kind, .string (moveChangeC x y).2.1.path, .string (moveChangeC x y).2.1.dst, .string (moveChangeC x y).2.1.src, .int .i64 (moveChangeC x y).2.1.pos, .slice pa no ca, .slice pb nn cb], .bool (moveChangeC x y).2.2]) ∧ Fr None' w w' := by
  have HQ := toHid10 (fun w' => carried_any y.path x.dst x.path w' (by omega) (by omega))
  unfold moveChangeC
  generalize (carryP y.path x.dst x.path).1 = M at HQ ⊢
  generalize (carryP y.path x.dst x.path).2 = R at HQ ⊢
  clear zx zy
  obtain ⟨K, P, T, F, A, lO, lN⟩ := x
  obtain ⟨K', P', T', F', A', lO', lN'⟩ := y
  simp only at HQ ⊢
  obtain ⟨w1, hw1⟩ : ∃ w1, w.alloc (.cells #[.int .i64 K, .string P, .string T, .string F, .int .i64 A, .slice pa no ca, .slice pb nn cb] 45) = w1 := ⟨_, rfl⟩
  obtain ⟨w2, hw2⟩ : ∃ w2, w1.alloc (.cells #[.int .i64 K', .string P', .string T', .string F', .int .i64 A', .slice qa mo da, .slice qb mn db] 45) = w2 := ⟨_, rfl⟩
  obtain ⟨w3, hw3⟩ : ∃ w3, w2.alloc (.cells #[.int .i64 0, .string ⟨#[]⟩, .string ⟨#[]⟩, .string ⟨#[]⟩, .int .i64 0, .slice none 0 0, .slice none 0 0] 45) = w3 := ⟨_, rfl⟩
  obtain ⟨w4, hw4⟩ : ∃ w4, w3.alloc (.cells #[.int .i64 0, .string ⟨#[]⟩, .string ⟨#[]⟩, .string ⟨#[]⟩, .int .i64 0, .slice none 0 0, .slice none 0 0] 45) = w4 := ⟨_, rfl⟩
  have F1 : Fr None' w w1 := hw1 ▸ Fr.alloc None' w _
  have F2 : Fr None' w1 w2 := hw2 ▸ Fr.alloc None' w1 _
  have F3 : Fr None' w2 w3 := hw3 ▸ Fr.alloc None' w2 _
  have F4 : Fr None' w3 w4 := hw4 ▸ Fr.alloc None' w3 _
  have BX : Box w4 w.heap.size (.int .i64 K) (.string P) (.string T) (.string F) (.int .i64 A) (.slice pa no ca) (.slice pb nn cb) := (hw1 ▸ Box.new w _ _ _ _ _ _ _ : Box w1 _ _ _ _ _ _ _ _).kept ((F2.then7 F3).then7 F4)
  have BY : Box w4 w1.heap.size (.int .i64 K') (.string P') (.string T') (.string F') (.int .i64 A') (.slice qa mo da) (.slice qb mn db) := (hw2 ▸ Box.new w1 _ _ _ _ _ _ _ : Box w2 _ _ _ _ _ _ _ _).kept (F3.then7 F4)
  have BC : Box w4 w2.heap.size (.int .i64 0) (.string ⟨#[]⟩) (.string ⟨#[]⟩) (.string ⟨#[]⟩) (.int .i64 0) (.slice none 0 0) (.slice none 0 0) := (hw3 ▸ Box.new w2 _ _ _ _ _ _ _ : Box w3 _ _ _ _ _ _ _ _).kept F4
  have BD : Box w4 w3.heap.size (.int .i64 0) (.string ⟨#[]⟩) (.string ⟨#[]⟩) (.string ⟨#[]⟩) (.int .i64 0) (.slice none 0 0) (.slice none 0 0) := hw4 ▸ Box.new w3 _ _ _ _ _ _ _
  have s1 : w1.heap.size = w.heap.size + 1 := by rw [← hw1]; simp
  have s2 : w2.heap.size = w1.heap.size + 1 := by rw [← hw2]; simp
  have s3 : w3.heap.size = w2.heap.size + 1 := by rw [← hw3]; simp
  have HF : Hid (Fr None' w w4) := ((F1.then7 F2).then7 F3).then7 F4
  have HN : Hid (w.heap.size < w1.heap.size ∧ w1.heap.size < w2.heap.size ∧ w2.heap.size < w3.heap.size) := ⟨by omega, by omega, by omega⟩
  have n1 : ¬ w.heap.size = w1.heap.size := by omega
  have n2 : ¬ w.heap.size = w2.heap.size := by omega
  have n3 : ¬ w.heap.size = w3.heap.size := by omega
  have n4 : ¬ w1.heap.size = w2.heap.size := by omega
  have n5 : ¬ w1.heap.size = w3.heap.size := by omega
  have n6 : ¬ w2.heap.size = w3.heap.size := by omega
  have HBs : Hid (∀ w', Fr None' w4 w' → Box w' w.heap.size (.int .i64 K) (.string P) (.string T) (.string F) (.int .i64 A) (.slice pa no ca) (.slice pb nn cb) ∧ Box w' w1.heap.size (.int .i64 K') (.string P') (.string T') (.string F') (.int .i64 A') (.slice qa mo da) (.slice qb mn db) ∧ Box w' w2.heap.size (.int .i64 0) (.string ⟨#[]⟩) (.string ⟨#[]⟩) (.string ⟨#[]⟩) (.int .i64 0) (.slice none 0 0) (.slice none 0 0) ∧ Box w' w3.heap.size (.int .i64 0) (.string ⟨#[]⟩) (.string ⟨#[]⟩) (.string ⟨#[]⟩) (.int .i64 0) (.slice none 0 0) (.slice none 0 0)) := fun w' f => ⟨BX.kept f, BY.kept f, BC.kept f, BD.kept f⟩
  obtain ⟨x0, x1, x2, x3, x4, x5, x6⟩ := BX.cells
  obtain ⟨y0, y1, y2, y3, y4, y5, y6⟩ := BY.cells
  obtain ⟨c0, c1, c2, c3, c4, c5, c6⟩ := BC.cells
  obtain ⟨d0, d1, d2, d3, d4, d5, d6⟩ := BD.cells
  have xz := BX.frozen
  have yz := BY.frozen
  have cz := BC.frozen
  have dz := BD.frozen
  clear F1 F2 F3 F4 BX BY BC BD s1 s2 s3
  have q1 := HQ.out w4
  clear n1 n2 n3 n4 n5
  go_enter Tryz.func133, Tryz.ntmps133
  go_wp2_with fail
  with_reducible refine q1.mono ?_
  rintro e w5 ⟨rfl, rfl⟩
  clear q1
  go_wp2_with fail
  obtain ⟨w6, hw6⟩ : ∃ y, w4.setCell ⟨w1.heap.size, 1, none⟩ (.string M) = y := ⟨_, rfl⟩
  have F6 : Fr (fun k => k = w1.heap.size) w4 w6 := hw6 ▸ Fr.setQ _ _ _ _
  have HB := toHid10 (show Box w6 w.heap.size (.int .i64 K) (.string P) (.string T) (.string F) (.int .i64 A) (.slice pa no ca) (.slice pb nn cb) ∧ Box w6 w1.heap.size (.int .i64 K') (.string M) (.string T') (.string F') (.int .i64 A') (.slice qa mo da) (.slice qb mn db) ∧ Box w6 w2.heap.size (.int .i64 0) (.string ⟨#[]⟩) (.string ⟨#[]⟩) (.string ⟨#[]⟩) (.int .i64 0) (.slice none 0 0) (.slice none 0 0) ∧ Box w6 w3.heap.size (.int .i64 0) (.string ⟨#[]⟩) (.string ⟨#[]⟩) (.string ⟨#[]⟩) (.int .i64 0) (.slice none 0 0) (.slice none 0 0) from by
    obtain ⟨b1, b2, b3, b4⟩ := HBs.out w4 (Fr.refl _ _)
    have := HN.out
    exact ⟨b1.fr F6 (by omega), hw6 ▸ b2.set1 _, b3.fr F6 (by omega), b4.fr F6 (by omega)⟩)
  have HW := toHid10 (show Fr None' w w6 from HF.out.trans F6 (fun _ e => Or.inr (by have := HN.out; omega)))
  rw [hw6]
  clear F6 hw6 x0 x1 x2 x3 x4 x5 x6 y0 y1 y2 y3 y4 y5 y6 c0 c1 c2 c3 c4 c5 c6 d0 d1 d2 d3 d4 d5 d6 xz yz cz dz
  have HS := toHid10 (show (∀ w', Fr (fun k => k = w2.heap.size ∨ k = w3.heap.size) w6 w' → Fr (fun k => k = w2.heap.size ∨ k = w3.heap.size) w6 w' ∧ w'.cell? ⟨w.heap.size, 0, none⟩ = some (.int .i64 K) ∧ w'.cell? ⟨w.heap.size, 1, none⟩ = some (.string P) ∧ w'.cell? ⟨w.heap.size, 2, none⟩ = some (.string T) ∧ w'.cell? ⟨w.heap.size, 3, none⟩ = some (.string F) ∧ w'.cell? ⟨w.heap.size, 4, none⟩ = some (.int .i64 A) ∧ w'.cell? ⟨w.heap.size, 5, none⟩ = some (.slice pa no ca) ∧ w'.cell? ⟨w.heap.size, 6, none⟩ = some (.slice pb nn cb) ∧ w'.cell? ⟨w1.heap.size, 0, none⟩ = some (.int .i64 K') ∧ w'.cell? ⟨w1.heap.size, 1, none⟩ = some (.string M) ∧ w'.cell? ⟨w1.heap.size, 2, none⟩ = some (.string T') ∧ w'.cell? ⟨w1.heap.size, 3, none⟩ = some (.string F') ∧ w'.cell? ⟨w1.heap.size, 4, none⟩ = some (.int .i64 A') ∧ w'.cell? ⟨w1.heap.size, 5, none⟩ = some (.slice qa mo da) ∧ w'.cell? ⟨w1.heap.size, 6, none⟩ = some (.slice qb mn db)) from fun w' f => by
    obtain ⟨x0, x1, x2, x3, x4, x5, x6⟩ := (HB.out.1.fr f (by have := HN.out; omega)).cells
    obtain ⟨y0, y1, y2, y3, y4, y5, y6⟩ := (HB.out.2.1.fr f (by have := HN.out; omega)).cells
    exact ⟨f, x0, x1, x2, x3, x4, x5, x6, y0, y1, y2, y3, y4, y5, y6⟩)
  have hS0 := HS.out w6.drew (Fr.drew _ w6)
  have hS6 := HS.out (setP w6 w2.heap.size (.int .i64 K') (.string M) (.string T') (.string F') (.int .i64 A') (.slice qa mo da) (.slice qb mn db)).drew (Fr.then (Fr.setP _ (Or.inl rfl) _ _ _ _ _ _ _) (Fr.drew _ _))
  have hS7 := HS.out (setP (setP w6 w2.heap.size (.int .i64 K') (.string M) (.string T') (.string F') (.int .i64 A') (.slice qa mo da) (.slice qb mn db)) w3.heap.size (.int .i64 K) (.string P) (.string T) (.string F) (.int .i64 A) (.slice pa no ca) (.slice pb nn cb)).drew (Fr.then (Fr.then (Fr.setP _ (Or.inl rfl) _ _ _ _ _ _ _) (Fr.setP _ (Or.inr rfl) _ _ _ _ _ _ _)) (Fr.drew _ _))
  obtain ⟨c0, c1, c2, c3, c4, c5, c6⟩ := HB.out.2.2.1.cells
  obtain ⟨d0, d1, d2, d3, d4, d5, d6⟩ := HB.out.2.2.2.cells
  have cz := HB.out.2.2.1.frozen
  have dz := HB.out.2.2.2.frozen
  go_region_held3 (fun w' => Fr (fun k => k = w2.heap.size ∨ k = w3.heap.size) w6 w' ∧ w'.cell? ⟨w.heap.size, 0, none⟩ = some (.int .i64 K) ∧ w'.cell? ⟨w.heap.size, 1, none⟩ = some (.string P) ∧ w'.cell? ⟨w.heap.size, 2, none⟩ = some (.string T) ∧ w'.cell? ⟨w.heap.size, 3, none⟩ = some (.string F) ∧ w'.cell? ⟨w.heap.size, 4, none⟩ = some (.int .i64 A) ∧ w'.cell? ⟨w.heap.size, 5, none⟩ = some (.slice pa no ca) ∧ w'.cell? ⟨w.heap.size, 6, none⟩ = some (.slice pb nn cb) ∧ w'.cell? ⟨w1.heap.size, 0, none⟩ = some (.int .i64 K') ∧ w'.cell? ⟨w1.heap.size, 1, none⟩ = some (.string M) ∧ w'.cell? ⟨w1.heap.size, 2, none⟩ = some (.string T') ∧ w'.cell? ⟨w1.heap.size, 3, none⟩ = some (.string F') ∧ w'.cell? ⟨w1.heap.size, 4, none⟩ = some (.int .i64 A') ∧ w'.cell? ⟨w1.heap.size, 5, none⟩ = some (.slice qa mo da) ∧ w'.cell? ⟨w1.heap.size, 6, none⟩ = some (.slice qb mn db))
    (first | with_reducible exact hS0 | with_reducible exact hS6 | with_reducible exact hS7)
    (fail)
  clear hS0 hS6 hS7 cz dz c0 c1 c2 c3 c4 c5 c6 d0 d1 d2 d3 d4 d5 d6
  go_wp2_with fail
  have hfin := two_set0 HW.out HB.out.2.2.1 HB.out.2.2.2 n6 (by have := HN.out; omega) (by have := HN.out; omega) (.int .i64 K') (.string M) (.string T') (.string F') (.int .i64 A') (.slice qa mo da) (.slice qb mn db) (.int .i64 K) (.string P) (.string T) (.string F) (.int .i64 A) (.slice pa no ca) (.slice pb nn cb)
  exact ret_two rfl rfl rfl rfl rfl hfin.1.drew hfin.2.1.drew ⟨rfl, hfin.2.2.1.then7 (Fr.drew _ _)⟩

set_option maxHeartbeats 16000000 in
theorem twoChanges_any (x y : Pr) (pa pb qa qb : Option Addr) (no nn ca cb mo mn da db : Nat) (w : World) (ho : x.old.length = no) (hn : x.new.length = nn) (go : y.old.length = mo) (gn : y.new.length = mn) (zo : no < 900000) (zn : nn < 900000) (yo : mo < 900000) (yn : mn < 900000) (hx : x.kind = 7 → 0 ≤ x.pos ∧ x.pos ≤ 1073741824) (hy : y.kind = 7 → 0 ≤ y.pos ∧ y.pos ≤ 1073741824) :
    Calls Tryz.prog 131 #[.agg #[.int .i64 x.kind, .string x.path, .string x.dst, .string x.src, .int .i64 x.pos, .slice pa no ca, .slice pb nn cb], .agg #[.int .i64 y.kind, .string y.path, .string y.dst, .string y.src, .int .i64 y.pos, .slice qa mo da, .slice qb mn db]] w fun e w' => e = .returned (.tuple #[.agg #[.int .i64 (changesC x y).1.kind, .string (changesC x y).1.path, .string (changesC x y).1.dst, .string (changesC x y).1.src, .int .i64 (changesC x y).1.pos, .slice qa mo da, .slice qb mn db], .agg #[.int .i64 (changesC x y).2.1.kind, .string (changesC x y).2.1.path, .string (changesC x y).2.1.dst, .string (changesC x y).2.1.src, .int .i64 (changesC x y).2.1.pos, .slice pa no ca, .slice pb nn cb], .bool (changesC x y).2.2]) ∧ Fr None' w w' := by
  have HQ := toHid10 (fun w' => unlike_any x y pa pb qa qb no nn ca cb mo mn da db w')
  have HR := toHid10 (show changesC x y = if x.path = y.path then (if x.kind = 7 ∧ y.kind = 7 then (if x.pos + nn < y.pos then ({ y with pos := y.pos + (no - nn) }, x, true) else if y.pos + mo < x.pos then (y, { x with pos := x.pos + (mn - mo) }, true) else (y, x, false)) else (y, x, false)) else (y, x, true) from by unfold changesC linesC; rw [ho, hn, go, gn])
  generalize changesC x y = R at HR ⊢
  obtain ⟨K, P, T, F, A, lO, lN⟩ := x
  obtain ⟨K', P', T', F', A', lO', lN'⟩ := y
  simp only at HQ HR hx hy ⊢
  clear ho hn go gn
  obtain ⟨w1, hw1⟩ : ∃ w1, w.alloc (.cells #[.int .i64 K, .string P, .string T, .string F, .int .i64 A, .slice pa no ca, .slice pb nn cb] 45) = w1 := ⟨_, rfl⟩
  obtain ⟨w2, hw2⟩ : ∃ w2, w1.alloc (.cells #[.int .i64 K', .string P', .string T', .string F', .int .i64 A', .slice qa mo da, .slice qb mn db] 45) = w2 := ⟨_, rfl⟩
  obtain ⟨w3, hw3⟩ : ∃ w3, w2.alloc (.cells #[.int .i64 0, .string ⟨#[]⟩, .string ⟨#[]⟩, .string ⟨#[]⟩, .int .i64 0, .slice none 0 0, .slice none 0 0] 45) = w3 := ⟨_, rfl⟩
  obtain ⟨w4, hw4⟩ : ∃ w4, w3.alloc (.cells #[.int .i64 0, .string ⟨#[]⟩, .string ⟨#[]⟩, .string ⟨#[]⟩, .int .i64 0, .slice none 0 0, .slice none 0 0] 45) = w4 := ⟨_, rfl⟩
  have F1 : Fr None' w w1 := hw1 ▸ Fr.alloc None' w _
  have F2 : Fr None' w1 w2 := hw2 ▸ Fr.alloc None' w1 _
  have F3 : Fr None' w2 w3 := hw3 ▸ Fr.alloc None' w2 _
  have F4 : Fr None' w3 w4 := hw4 ▸ Fr.alloc None' w3 _
  have BX : Box w4 w.heap.size (.int .i64 K) (.string P) (.string T) (.string F) (.int .i64 A) (.slice pa no ca) (.slice pb nn cb) := (hw1 ▸ Box.new w _ _ _ _ _ _ _ : Box w1 _ _ _ _ _ _ _ _).kept ((F2.then7 F3).then7 F4)
  have BY : Box w4 w1.heap.size (.int .i64 K') (.string P') (.string T') (.string F') (.int .i64 A') (.slice qa mo da) (.slice qb mn db) := (hw2 ▸ Box.new w1 _ _ _ _ _ _ _ : Box w2 _ _ _ _ _ _ _ _).kept (F3.then7 F4)
  have BC : Box w4 w2.heap.size (.int .i64 0) (.string ⟨#[]⟩) (.string ⟨#[]⟩) (.string ⟨#[]⟩) (.int .i64 0) (.slice none 0 0) (.slice none 0 0) := (hw3 ▸ Box.new w2 _ _ _ _ _ _ _ : Box w3 _ _ _ _ _ _ _ _).kept F4
  have BD : Box w4 w3.heap.size (.int .i64 0) (.string ⟨#[]⟩) (.string ⟨#[]⟩) (.string ⟨#[]⟩) (.int .i64 0) (.slice none 0 0) (.slice none 0 0) := hw4 ▸ Box.new w3 _ _ _ _ _ _ _
  have s1 : w1.heap.size = w.heap.size + 1 := by rw [← hw1]; simp
  have s2 : w2.heap.size = w1.heap.size + 1 := by rw [← hw2]; simp
  have s3 : w3.heap.size = w2.heap.size + 1 := by rw [← hw3]; simp
  have HF : Hid (Fr None' w w4) := ((F1.then7 F2).then7 F3).then7 F4
  have HN : Hid (w.heap.size < w1.heap.size ∧ w1.heap.size < w2.heap.size ∧ w2.heap.size < w3.heap.size) := ⟨by omega, by omega, by omega⟩
  have n1 : ¬ w.heap.size = w1.heap.size := by omega
  have n2 : ¬ w.heap.size = w2.heap.size := by omega
  have n3 : ¬ w.heap.size = w3.heap.size := by omega
  have n4 : ¬ w1.heap.size = w2.heap.size := by omega
  have n5 : ¬ w1.heap.size = w3.heap.size := by omega
  have n6 : ¬ w2.heap.size = w3.heap.size := by omega
  have HBs : Hid (∀ w', Fr None' w4 w' → Box w' w.heap.size (.int .i64 K) (.string P) (.string T) (.string F) (.int .i64 A) (.slice pa no ca) (.slice pb nn cb) ∧ Box w' w1.heap.size (.int .i64 K') (.string P') (.string T') (.string F') (.int .i64 A') (.slice qa mo da) (.slice qb mn db) ∧ Box w' w2.heap.size (.int .i64 0) (.string ⟨#[]⟩) (.string ⟨#[]⟩) (.string ⟨#[]⟩) (.int .i64 0) (.slice none 0 0) (.slice none 0 0) ∧ Box w' w3.heap.size (.int .i64 0) (.string ⟨#[]⟩) (.string ⟨#[]⟩) (.string ⟨#[]⟩) (.int .i64 0) (.slice none 0 0) (.slice none 0 0)) := fun w' f => ⟨BX.kept f, BY.kept f, BC.kept f, BD.kept f⟩
  obtain ⟨x0, x1, x2, x3, x4, x5, x6⟩ := BX.cells
  obtain ⟨y0, y1, y2, y3, y4, y5, y6⟩ := BY.cells
  obtain ⟨c0, c1, c2, c3, c4, c5, c6⟩ := BC.cells
  obtain ⟨d0, d1, d2, d3, d4, d5, d6⟩ := BD.cells
  have xz := BX.frozen
  have yz := BY.frozen
  have cz := BC.frozen
  have dz := BD.frozen
  clear F1 F2 F3 F4 BX BY BC BD s1 s2 s3
  have q1 := HQ.out w4
  clear n1 n2 n3 n4 n5 HQ
  by_cases hP : P = P'
  case neg =>
    rw [decide_eq_true hP] at q1
    have HR1 := toHid10 (show R = _ from (HR.out.trans (if_neg hP)))
    clear HR hx hy zo zn yo yn
    have hR := HR1.out
    subst hR
    simp only
    clear HR1
    go_enter Tryz.func131, Tryz.ntmps131
    go_wp2_with fail
    with_reducible refine q1.mono ?_
    rintro e w5 ⟨rfl, f5⟩
    have HB := toHid10 (HBs.out w5 f5)
    have HW := toHid10 (HF.out.then7 f5)
    clear q1 f5 x0 x1 x2 x3 x4 x5 x6 y0 y1 y2 y3 y4 y5 y6 c0 c1 c2 c3 c4 c5 c6 d0 d1 d2 d3 d4 d5 d6 xz yz cz dz
    go_wp2_with fail
    have HS := toHid10 (show (∀ w', Fr (fun k => k = w2.heap.size ∨ k = w3.heap.size) w5 w' → Fr (fun k => k = w2.heap.size ∨ k = w3.heap.size) w5 w' ∧ w'.cell? ⟨w.heap.size, 0, none⟩ = some (.int .i64 K) ∧ w'.cell? ⟨w.heap.size, 1, none⟩ = some (.string P) ∧ w'.cell? ⟨w.heap.size, 2, none⟩ = some (.string T) ∧ w'.cell? ⟨w.heap.size, 3, none⟩ = some (.string F) ∧ w'.cell? ⟨w.heap.size, 4, none⟩ = some (.int .i64 A) ∧ w'.cell? ⟨w.heap.size, 5, none⟩ = some (.slice pa no ca) ∧ w'.cell? ⟨w.heap.size, 6, none⟩ = some (.slice pb nn cb) ∧ w'.cell? ⟨w1.heap.size, 0, none⟩ = some (.int .i64 K') ∧ w'.cell? ⟨w1.heap.size, 1, none⟩ = some (.string P') ∧ w'.cell? ⟨w1.heap.size, 2, none⟩ = some (.string T') ∧ w'.cell? ⟨w1.heap.size, 3, none⟩ = some (.string F') ∧ w'.cell? ⟨w1.heap.size, 4, none⟩ = some (.int .i64 A') ∧ w'.cell? ⟨w1.heap.size, 5, none⟩ = some (.slice qa mo da) ∧ w'.cell? ⟨w1.heap.size, 6, none⟩ = some (.slice qb mn db)) from fun w' f => by
      obtain ⟨x0, x1, x2, x3, x4, x5, x6⟩ := (HB.out.1.fr f (by have := HN.out; omega)).cells
      obtain ⟨y0, y1, y2, y3, y4, y5, y6⟩ := (HB.out.2.1.fr f (by have := HN.out; omega)).cells
      exact ⟨f, x0, x1, x2, x3, x4, x5, x6, y0, y1, y2, y3, y4, y5, y6⟩)
    have hS0 := HS.out w5.drew (Fr.drew _ w5)
    have hS6 := HS.out (setP w5 w2.heap.size (.int .i64 K') (.string P') (.string T') (.string F') (.int .i64 A') (.slice qa mo da) (.slice qb mn db)).drew (Fr.then (Fr.setP _ (Or.inl rfl) _ _ _ _ _ _ _) (Fr.drew _ _))
    have hS7 := HS.out (setP (setP w5 w2.heap.size (.int .i64 K') (.string P') (.string T') (.string F') (.int .i64 A') (.slice qa mo da) (.slice qb mn db)) w3.heap.size (.int .i64 K) (.string P) (.string T) (.string F) (.int .i64 A) (.slice pa no ca) (.slice pb nn cb)).drew (Fr.then (Fr.then (Fr.setP _ (Or.inl rfl) _ _ _ _ _ _ _) (Fr.setP _ (Or.inr rfl) _ _ _ _ _ _ _)) (Fr.drew _ _))
    obtain ⟨c0, c1, c2, c3, c4, c5, c6⟩ := HB.out.2.2.1.cells
    obtain ⟨d0, d1, d2, d3, d4, d5, d6⟩ := HB.out.2.2.2.cells
    have cz := HB.out.2.2.1.frozen
    have dz := HB.out.2.2.2.frozen
    go_region_held3 (fun w' => Fr (fun k => k = w2.heap.size ∨ k = w3.heap.size) w5 w' ∧ w'.cell? ⟨w.heap.size, 0, none⟩ = some (.int .i64 K) ∧ w'.cell? ⟨w.heap.size, 1, none⟩ = some (.string P) ∧ w'.cell? ⟨w.heap.size, 2, none⟩ = some (.string T) ∧ w'.cell? ⟨w.heap.size, 3, none⟩ = some (.string F) ∧ w'.cell? ⟨w.heap.size, 4, none⟩ = some (.int .i64 A) ∧ w'.cell? ⟨w.heap.size, 5, none⟩ = some (.slice pa no ca) ∧ w'.cell? ⟨w.heap.size, 6, none⟩ = some (.slice pb nn cb) ∧ w'.cell? ⟨w1.heap.size, 0, none⟩ = some (.int .i64 K') ∧ w'.cell? ⟨w1.heap.size, 1, none⟩ = some (.string P') ∧ w'.cell? ⟨w1.heap.size, 2, none⟩ = some (.string T') ∧ w'.cell? ⟨w1.heap.size, 3, none⟩ = some (.string F') ∧ w'.cell? ⟨w1.heap.size, 4, none⟩ = some (.int .i64 A') ∧ w'.cell? ⟨w1.heap.size, 5, none⟩ = some (.slice qa mo da) ∧ w'.cell? ⟨w1.heap.size, 6, none⟩ = some (.slice qb mn db))
      (first | with_reducible exact hS0 | with_reducible exact hS6 | with_reducible exact hS7)
      (fail)
    clear hS0 hS6 hS7 cz dz c0 c1 c2 c3 c4 c5 c6 d0 d1 d2 d3 d4 d5 d6
    go_wp2_with fail
    have hfin := two_set0 HW.out HB.out.2.2.1 HB.out.2.2.2 n6 (by have := HN.out; omega) (by have := HN.out; omega) (.int .i64 K') (.string P') (.string T') (.string F') (.int .i64 A') (.slice qa mo da) (.slice qb mn db) (.int .i64 K) (.string P) (.string T) (.string F) (.int .i64 A) (.slice pa no ca) (.slice pb nn cb)
    exact ret_two rfl rfl rfl rfl rfl hfin.1.drew hfin.2.1.drew ⟨rfl, hfin.2.2.1.then7 (Fr.drew _ _)⟩

  case pos =>
    subst hP
    rw [decide_eq_false (by simp)] at q1
    have HR1 := toHid10 (HR.out.trans (if_pos rfl))
    clear HR
    by_cases hK : K = 7
    case neg =>
      have hR := HR1.out.trans (if_neg (fun h => hK h.1))
      subst hR
      simp only
      clear HR1 hx hy zo zn yo yn
      go_enter Tryz.func131, Tryz.ntmps131
      go_wp2_with fail
      with_reducible refine q1.mono ?_
      rintro e w5 ⟨rfl, f5⟩
      have HB := toHid10 (HBs.out w5 f5)
      have HW := toHid10 (HF.out.then7 f5)
      clear q1 f5 x0 x1 x2 x3 x4 x5 x6 y0 y1 y2 y3 y4 y5 y6 c0 c1 c2 c3 c4 c5 c6 d0 d1 d2 d3 d4 d5 d6 xz yz cz dz
      have x0 := HB.out.1.cells.1
      go_wp2_with fail
      have HS := toHid10 (show (∀ w', Fr (fun k => k = w2.heap.size ∨ k = w3.heap.size) w5 w' → Fr (fun k => k = w2.heap.size ∨ k = w3.heap.size) w5 w' ∧ w'.cell? ⟨w.heap.size, 0, none⟩ = some (.int .i64 K) ∧ w'.cell? ⟨w.heap.size, 1, none⟩ = some (.string P) ∧ w'.cell? ⟨w.heap.size, 2, none⟩ = some (.string T) ∧ w'.cell? ⟨w.heap.size, 3, none⟩ = some (.string F) ∧ w'.cell? ⟨w.heap.size, 4, none⟩ = some (.int .i64 A) ∧ w'.cell? ⟨w.heap.size, 5, none⟩ = some (.slice pa no ca) ∧ w'.cell? ⟨w.heap.size, 6, none⟩ = some (.slice pb nn cb) ∧ w'.cell? ⟨w1.heap.size, 0, none⟩ = some (.int .i64 K') ∧ w'.cell? ⟨w1.heap.size, 1, none⟩ = some (.string P) ∧ w'.cell? ⟨w1.heap.size, 2, none⟩ = some (.string T') ∧ w'.cell? ⟨w1.heap.size, 3, none⟩ = some (.string F') ∧ w'.cell? ⟨w1.heap.size, 4, none⟩ = some (.int .i64 A') ∧ w'.cell? ⟨w1.heap.size, 5, none⟩ = some (.slice qa mo da) ∧ w'.cell? ⟨w1.heap.size, 6, none⟩ = some (.slice qb mn db)) from fun w' f => by
        obtain ⟨x0, x1, x2, x3, x4, x5, x6⟩ := (HB.out.1.fr f (by have := HN.out; omega)).cells
        obtain ⟨y0, y1, y2, y3, y4, y5, y6⟩ := (HB.out.2.1.fr f (by have := HN.out; omega)).cells
        exact ⟨f, x0, x1, x2, x3, x4, x5, x6, y0, y1, y2, y3, y4, y5, y6⟩)
      have hS0 := HS.out w5.drew (Fr.drew _ w5)
      have hS6 := HS.out (setP w5 w2.heap.size (.int .i64 K') (.string P) (.string T') (.string F') (.int .i64 A') (.slice qa mo da) (.slice qb mn db)).drew (Fr.then (Fr.setP _ (Or.inl rfl) _ _ _ _ _ _ _) (Fr.drew _ _))
      have hS7 := HS.out (setP (setP w5 w2.heap.size (.int .i64 K') (.string P) (.string T') (.string F') (.int .i64 A') (.slice qa mo da) (.slice qb mn db)) w3.heap.size (.int .i64 K) (.string P) (.string T) (.string F) (.int .i64 A) (.slice pa no ca) (.slice pb nn cb)).drew (Fr.then (Fr.then (Fr.setP _ (Or.inl rfl) _ _ _ _ _ _ _) (Fr.setP _ (Or.inr rfl) _ _ _ _ _ _ _)) (Fr.drew _ _))
      obtain ⟨c0, c1, c2, c3, c4, c5, c6⟩ := HB.out.2.2.1.cells
      obtain ⟨d0, d1, d2, d3, d4, d5, d6⟩ := HB.out.2.2.2.cells
      have cz := HB.out.2.2.1.frozen
      have dz := HB.out.2.2.2.frozen
      clear x0
      go_region_held3 (fun w' => Fr (fun k => k = w2.heap.size ∨ k = w3.heap.size) w5 w' ∧ w'.cell? ⟨w.heap.size, 0, none⟩ = some (.int .i64 K) ∧ w'.cell? ⟨w.heap.size, 1, none⟩ = some (.string P) ∧ w'.cell? ⟨w.heap.size, 2, none⟩ = some (.string T) ∧ w'.cell? ⟨w.heap.size, 3, none⟩ = some (.string F) ∧ w'.cell? ⟨w.heap.size, 4, none⟩ = some (.int .i64 A) ∧ w'.cell? ⟨w.heap.size, 5, none⟩ = some (.slice pa no ca) ∧ w'.cell? ⟨w.heap.size, 6, none⟩ = some (.slice pb nn cb) ∧ w'.cell? ⟨w1.heap.size, 0, none⟩ = some (.int .i64 K') ∧ w'.cell? ⟨w1.heap.size, 1, none⟩ = some (.string P) ∧ w'.cell? ⟨w1.heap.size, 2, none⟩ = some (.string T') ∧ w'.cell? ⟨w1.heap.size, 3, none⟩ = some (.string F') ∧ w'.cell? ⟨w1.heap.size, 4, none⟩ = some (.int .i64 A') ∧ w'.cell? ⟨w1.heap.size, 5, none⟩ = some (.slice qa mo da) ∧ w'.cell? ⟨w1.heap.size, 6, none⟩ = some (.slice qb mn db))
        (first | with_reducible exact hS0 | with_reducible exact hS6 | with_reducible exact hS7)
        (fail)
      clear hS0 hS6 hS7 cz dz c0 c1 c2 c3 c4 c5 c6 d0 d1 d2 d3 d4 d5 d6
      go_wp2_with fail
      have hfin := two_set0 HW.out HB.out.2.2.1 HB.out.2.2.2 n6 (by have := HN.out; omega) (by have := HN.out; omega) (.int .i64 K') (.string P) (.string T') (.string F') (.int .i64 A') (.slice qa mo da) (.slice qb mn db) (.int .i64 K) (.string P) (.string T) (.string F) (.int .i64 A) (.slice pa no ca) (.slice pb nn cb)
      exact ret_two rfl rfl rfl rfl rfl hfin.1.drew hfin.2.1.drew ⟨rfl, hfin.2.2.1.then7 (Fr.drew _ _)⟩

    case pos =>
      subst hK
      by_cases hK' : K' = 7
      case neg =>
        have hR := HR1.out.trans (if_neg (fun h => hK' h.2))
        subst hR
        simp only
        clear HR1 hx hy zo zn yo yn
        go_enter Tryz.func131, Tryz.ntmps131
        go_wp2_with fail
        with_reducible refine q1.mono ?_
        rintro e w5 ⟨rfl, f5⟩
        have HB := toHid10 (HBs.out w5 f5)
        have HW := toHid10 (HF.out.then7 f5)
        clear q1 f5 x0 x1 x2 x3 x4 x5 x6 y0 y1 y2 y3 y4 y5 y6 c0 c1 c2 c3 c4 c5 c6 d0 d1 d2 d3 d4 d5 d6 xz yz cz dz
        have x0 := HB.out.1.cells.1
        have y0 := HB.out.2.1.cells.1
        go_wp2_with fail
        have HS := toHid10 (show (∀ w', Fr (fun k => k = w2.heap.size ∨ k = w3.heap.size) w5 w' → Fr (fun k => k = w2.heap.size ∨ k = w3.heap.size) w5 w' ∧ w'.cell? ⟨w.heap.size, 0, none⟩ = some (.int .i64 7) ∧ w'.cell? ⟨w.heap.size, 1, none⟩ = some (.string P) ∧ w'.cell? ⟨w.heap.size, 2, none⟩ = some (.string T) ∧ w'.cell? ⟨w.heap.size, 3, none⟩ = some (.string F) ∧ w'.cell? ⟨w.heap.size, 4, none⟩ = some (.int .i64 A) ∧ w'.cell? ⟨w.heap.size, 5, none⟩ = some (.slice pa no ca) ∧ w'.cell? ⟨w.heap.size, 6, none⟩ = some (.slice pb nn cb) ∧ w'.cell? ⟨w1.heap.size, 0, none⟩ = some (.int .i64 K') ∧ w'.cell? ⟨w1.heap.size, 1, none⟩ = some (.string P) ∧ w'.cell? ⟨w1.heap.size, 2, none⟩ = some (.string T') ∧ w'.cell? ⟨w1.heap.size, 3, none⟩ = some (.string F') ∧ w'.cell? ⟨w1.heap.size, 4, none⟩ = some (.int .i64 A') ∧ w'.cell? ⟨w1.heap.size, 5, none⟩ = some (.slice qa mo da) ∧ w'.cell? ⟨w1.heap.size, 6, none⟩ = some (.slice qb mn db)) from fun w' f => by
          obtain ⟨x0, x1, x2, x3, x4, x5, x6⟩ := (HB.out.1.fr f (by have := HN.out; omega)).cells
          obtain ⟨y0, y1, y2, y3, y4, y5, y6⟩ := (HB.out.2.1.fr f (by have := HN.out; omega)).cells
          exact ⟨f, x0, x1, x2, x3, x4, x5, x6, y0, y1, y2, y3, y4, y5, y6⟩)
        have hS0 := HS.out w5.drew (Fr.drew _ w5)
        have hS6 := HS.out (setP w5 w2.heap.size (.int .i64 K') (.string P) (.string T') (.string F') (.int .i64 A') (.slice qa mo da) (.slice qb mn db)).drew (Fr.then (Fr.setP _ (Or.inl rfl) _ _ _ _ _ _ _) (Fr.drew _ _))
        have hS7 := HS.out (setP (setP w5 w2.heap.size (.int .i64 K') (.string P) (.string T') (.string F') (.int .i64 A') (.slice qa mo da) (.slice qb mn db)) w3.heap.size (.int .i64 7) (.string P) (.string T) (.string F) (.int .i64 A) (.slice pa no ca) (.slice pb nn cb)).drew (Fr.then (Fr.then (Fr.setP _ (Or.inl rfl) _ _ _ _ _ _ _) (Fr.setP _ (Or.inr rfl) _ _ _ _ _ _ _)) (Fr.drew _ _))
        obtain ⟨c0, c1, c2, c3, c4, c5, c6⟩ := HB.out.2.2.1.cells
        obtain ⟨d0, d1, d2, d3, d4, d5, d6⟩ := HB.out.2.2.2.cells
        have cz := HB.out.2.2.1.frozen
        have dz := HB.out.2.2.2.frozen
        clear x0 y0
        go_region_held3 (fun w' => Fr (fun k => k = w2.heap.size ∨ k = w3.heap.size) w5 w' ∧ w'.cell? ⟨w.heap.size, 0, none⟩ = some (.int .i64 7) ∧ w'.cell? ⟨w.heap.size, 1, none⟩ = some (.string P) ∧ w'.cell? ⟨w.heap.size, 2, none⟩ = some (.string T) ∧ w'.cell? ⟨w.heap.size, 3, none⟩ = some (.string F) ∧ w'.cell? ⟨w.heap.size, 4, none⟩ = some (.int .i64 A) ∧ w'.cell? ⟨w.heap.size, 5, none⟩ = some (.slice pa no ca) ∧ w'.cell? ⟨w.heap.size, 6, none⟩ = some (.slice pb nn cb) ∧ w'.cell? ⟨w1.heap.size, 0, none⟩ = some (.int .i64 K') ∧ w'.cell? ⟨w1.heap.size, 1, none⟩ = some (.string P) ∧ w'.cell? ⟨w1.heap.size, 2, none⟩ = some (.string T') ∧ w'.cell? ⟨w1.heap.size, 3, none⟩ = some (.string F') ∧ w'.cell? ⟨w1.heap.size, 4, none⟩ = some (.int .i64 A') ∧ w'.cell? ⟨w1.heap.size, 5, none⟩ = some (.slice qa mo da) ∧ w'.cell? ⟨w1.heap.size, 6, none⟩ = some (.slice qb mn db))
          (first | with_reducible exact hS0 | with_reducible exact hS6 | with_reducible exact hS7)
          (fail)
        clear hS0 hS6 hS7 cz dz c0 c1 c2 c3 c4 c5 c6 d0 d1 d2 d3 d4 d5 d6
        go_wp2_with fail
        have hfin := two_set0 HW.out HB.out.2.2.1 HB.out.2.2.2 n6 (by have := HN.out; omega) (by have := HN.out; omega) (.int .i64 K') (.string P) (.string T') (.string F') (.int .i64 A') (.slice qa mo da) (.slice qb mn db) (.int .i64 7) (.string P) (.string T) (.string F) (.int .i64 A) (.slice pa no ca) (.slice pb nn cb)
        exact ret_two rfl rfl rfl rfl rfl hfin.1.drew hfin.2.1.drew ⟨rfl, hfin.2.2.1.then7 (Fr.drew _ _)⟩

      case pos =>
        subst hK'
        have HR2 := toHid10 (HR1.out.trans (if_pos ⟨rfl, rfl⟩))
        obtain ⟨u1, u2⟩ := hx rfl
        obtain ⟨u3, u4⟩ := hy rfl
        have i1 : (no : Int) < 900000 := by omega
        have i2 : (nn : Int) < 900000 := by omega
        have i3 : (mo : Int) < 900000 := by omega
        have i4 : (mn : Int) < 900000 := by omega
        clear HR1 hx hy zo zn yo yn
        go_enter Tryz.func131, Tryz.ntmps131
        go_wp2_with fail
        with_reducible refine q1.mono ?_
        rintro e w5 ⟨rfl, f5⟩
        have HB5 := toHid10 (HBs.out w5 f5)
        have HW5 := toHid10 (HF.out.then7 f5)
        clear q1 f5 x0 x1 x2 x3 x4 x5 x6 y0 y1 y2 y3 y4 y5 y6 c0 c1 c2 c3 c4 c5 c6 d0 d1 d2 d3 d4 d5 d6 xz yz cz dz
        obtain ⟨x0, x1, x2, x3, x4, x5, x6⟩ := HB5.out.1.cells
        obtain ⟨y0, y1, y2, y3, y4, y5, y6⟩ := HB5.out.2.1.cells
        have xz := HB5.out.1.frozen
        have yz := HB5.out.2.1.frozen
        by_cases h1 : A + (nn : Int) < A'
        case pos =>
          have hR := HR2.out.trans (if_pos h1)
          subst hR
          simp only
          clear HR2
          go_wp2_with fail
          obtain ⟨w6, hw6⟩ : ∃ y, w5.setCell ⟨w1.heap.size, 4, none⟩ (.int .i64 (A' + ((no : Int) - (nn : Int)))) = y := ⟨_, rfl⟩
          have F6 : Fr (fun k => k = w1.heap.size) w5 w6 := hw6 ▸ Fr.setQ _ _ _ _
          have HB := toHid10 (show Box w6 w.heap.size (.int .i64 7) (.string P) (.string T) (.string F) (.int .i64 A) (.slice pa no ca) (.slice pb nn cb) ∧ Box w6 w1.heap.size (.int .i64 7) (.string P) (.string T') (.string F') (.int .i64 (A' + ((no : Int) - (nn : Int)))) (.slice qa mo da) (.slice qb mn db) ∧ Box w6 w2.heap.size (.int .i64 0) (.string ⟨#[]⟩) (.string ⟨#[]⟩) (.string ⟨#[]⟩) (.int .i64 0) (.slice none 0 0) (.slice none 0 0) ∧ Box w6 w3.heap.size (.int .i64 0) (.string ⟨#[]⟩) (.string ⟨#[]⟩) (.string ⟨#[]⟩) (.int .i64 0) (.slice none 0 0) (.slice none 0 0) from by
            obtain ⟨b1, b2, b3, b4⟩ := HB5.out
            have := HN.out
            exact ⟨b1.fr F6 (by omega), hw6 ▸ b2.set4 _, b3.fr F6 (by omega), b4.fr F6 (by omega)⟩)
          have HW := toHid10 (show Fr None' w w6 from HW5.out.trans F6 (fun _ e => Or.inr (by have := HN.out; omega)))
          rw [hw6]
          clear F6 hw6 HB5 HW5
          clear x0 x1 x2 x3 x4 x5 x6 y0 y1 y2 y3 y4 y5 y6 xz yz u1 u2 u3 u4 i1 i2 i3 i4
          have HS := toHid10 (show (∀ w', Fr (fun k => k = w2.heap.size ∨ k = w3.heap.size) w6 w' → Fr (fun k => k = w2.heap.size ∨ k = w3.heap.size) w6 w' ∧ w'.cell? ⟨w.heap.size, 0, none⟩ = some (.int .i64 7) ∧ w'.cell? ⟨w.heap.size, 1, none⟩ = some (.string P) ∧ w'.cell? ⟨w.heap.size, 2, none⟩ = some (.string T) ∧ w'.cell? ⟨w.heap.size, 3, none⟩ = some (.string F) ∧ w'.cell? ⟨w.heap.size, 4, none⟩ = some (.int .i64 A) ∧ w'.cell? ⟨w.heap.size, 5, none⟩ = some (.slice pa no ca) ∧ w'.cell? ⟨w.heap.size, 6, none⟩ = some (.slice pb nn cb) ∧ w'.cell? ⟨w1.heap.size, 0, none⟩ = some (.int .i64 7) ∧ w'.cell? ⟨w1.heap.size, 1, none⟩ = some (.string P) ∧ w'.cell? ⟨w1.heap.size, 2, none⟩ = some (.string T') ∧ w'.cell? ⟨w1.heap.size, 3, none⟩ = some (.string F') ∧ w'.cell? ⟨w1.heap.size, 4, none⟩ = some (.int .i64 (A' + ((no : Int) - (nn : Int)))) ∧ w'.cell? ⟨w1.heap.size, 5, none⟩ = some (.slice qa mo da) ∧ w'.cell? ⟨w1.heap.size, 6, none⟩ = some (.slice qb mn db)) from fun w' f => by
            obtain ⟨x0, x1, x2, x3, x4, x5, x6⟩ := (HB.out.1.fr f (by have := HN.out; omega)).cells
            obtain ⟨y0, y1, y2, y3, y4, y5, y6⟩ := (HB.out.2.1.fr f (by have := HN.out; omega)).cells
            exact ⟨f, x0, x1, x2, x3, x4, x5, x6, y0, y1, y2, y3, y4, y5, y6⟩)
          have hS0 := HS.out w6.drew (Fr.drew _ w6)
          have hS6 := HS.out (setP w6 w2.heap.size (.int .i64 7) (.string P) (.string T') (.string F') (.int .i64 (A' + ((no : Int) - (nn : Int)))) (.slice qa mo da) (.slice qb mn db)).drew (Fr.then (Fr.setP _ (Or.inl rfl) _ _ _ _ _ _ _) (Fr.drew _ _))
          have hS7 := HS.out (setP (setP w6 w2.heap.size (.int .i64 7) (.string P) (.string T') (.string F') (.int .i64 (A' + ((no : Int) - (nn : Int)))) (.slice qa mo da) (.slice qb mn db)) w3.heap.size (.int .i64 7) (.string P) (.string T) (.string F) (.int .i64 A) (.slice pa no ca) (.slice pb nn cb)).drew (Fr.then (Fr.then (Fr.setP _ (Or.inl rfl) _ _ _ _ _ _ _) (Fr.setP _ (Or.inr rfl) _ _ _ _ _ _ _)) (Fr.drew _ _))
          obtain ⟨c0, c1, c2, c3, c4, c5, c6⟩ := HB.out.2.2.1.cells
          obtain ⟨d0, d1, d2, d3, d4, d5, d6⟩ := HB.out.2.2.2.cells
          have cz := HB.out.2.2.1.frozen
          have dz := HB.out.2.2.2.frozen
          go_region_held3 (fun w' => Fr (fun k => k = w2.heap.size ∨ k = w3.heap.size) w6 w' ∧ w'.cell? ⟨w.heap.size, 0, none⟩ = some (.int .i64 7) ∧ w'.cell? ⟨w.heap.size, 1, none⟩ = some (.string P) ∧ w'.cell? ⟨w.heap.size, 2, none⟩ = some (.string T) ∧ w'.cell? ⟨w.heap.size, 3, none⟩ = some (.string F) ∧ w'.cell? ⟨w.heap.size, 4, none⟩ = some (.int .i64 A) ∧ w'.cell? ⟨w.heap.size, 5, none⟩ = some (.slice pa no ca) ∧ w'.cell? ⟨w.heap.size, 6, none⟩ = some (.slice pb nn cb) ∧ w'.cell? ⟨w1.heap.size, 0, none⟩ = some (.int .i64 7) ∧ w'.cell? ⟨w1.heap.size, 1, none⟩ = some (.string P) ∧ w'.cell? ⟨w1.heap.size, 2, none⟩ = some (.string T') ∧ w'.cell? ⟨w1.heap.size, 3, none⟩ = some (.string F') ∧ w'.cell? ⟨w1.heap.size, 4, none⟩ = some (.int .i64 (A' + ((no : Int) - (nn : Int)))) ∧ w'.cell? ⟨w1.heap.size, 5, none⟩ = some (.slice qa mo da) ∧ w'.cell? ⟨w1.heap.size, 6, none⟩ = some (.slice qb mn db))
            (first | with_reducible exact hS0 | with_reducible exact hS6 | with_reducible exact hS7)
            (fail)
          clear hS0 hS6 hS7 cz dz c0 c1 c2 c3 c4 c5 c6 d0 d1 d2 d3 d4 d5 d6
          go_wp2_with fail
          have hfin := two_set0 HW.out HB.out.2.2.1 HB.out.2.2.2 n6 (by have := HN.out; omega) (by have := HN.out; omega) (.int .i64 7) (.string P) (.string T') (.string F') (.int .i64 (A' + ((no : Int) - (nn : Int)))) (.slice qa mo da) (.slice qb mn db) (.int .i64 7) (.string P) (.string T) (.string F) (.int .i64 A) (.slice pa no ca) (.slice pb nn cb)
          exact ret_two rfl rfl rfl rfl rfl hfin.1.drew hfin.2.1.drew ⟨rfl, hfin.2.2.1.then7 (Fr.drew _ _)⟩
        case neg =>
          by_cases h2 : A' + (mo : Int) < A
          case pos =>
            have hR := HR2.out.trans ((if_neg h1).trans (if_pos h2))
            subst hR
            simp only
            clear HR2
            go_wp2_with fail
            obtain ⟨w6, hw6⟩ : ∃ y, w5.setCell ⟨w.heap.size, 4, none⟩ (.int .i64 (A + ((mn : Int) - (mo : Int)))) = y := ⟨_, rfl⟩
            have F6 : Fr (fun k => k = w.heap.size) w5 w6 := hw6 ▸ Fr.setQ _ _ _ _
            have HB := toHid10 (show Box w6 w.heap.size (.int .i64 7) (.string P) (.string T) (.string F) (.int .i64 (A + ((mn : Int) - (mo : Int)))) (.slice pa no ca) (.slice pb nn cb) ∧ Box w6 w1.heap.size (.int .i64 7) (.string P) (.string T') (.string F') (.int .i64 A') (.slice qa mo da) (.slice qb mn db) ∧ Box w6 w2.heap.size (.int .i64 0) (.string ⟨#[]⟩) (.string ⟨#[]⟩) (.string ⟨#[]⟩) (.int .i64 0) (.slice none 0 0) (.slice none 0 0) ∧ Box w6 w3.heap.size (.int .i64 0) (.string ⟨#[]⟩) (.string ⟨#[]⟩) (.string ⟨#[]⟩) (.int .i64 0) (.slice none 0 0) (.slice none 0 0) from by
              obtain ⟨b1, b2, b3, b4⟩ := HB5.out
              have := HN.out
              exact ⟨hw6 ▸ b1.set4 _, b2.fr F6 (by omega), b3.fr F6 (by omega), b4.fr F6 (by omega)⟩)
            have HW := toHid10 (show Fr None' w w6 from HW5.out.trans F6 (fun _ e => Or.inr (by have := HN.out; omega)))
            rw [hw6]
            clear F6 hw6 HB5 HW5
            clear x0 x1 x2 x3 x4 x5 x6 y0 y1 y2 y3 y4 y5 y6 xz yz u1 u2 u3 u4 i1 i2 i3 i4
            have HS := toHid10 (show (∀ w', Fr (fun k => k = w2.heap.size ∨ k = w3.heap.size) w6 w' → Fr (fun k => k = w2.heap.size ∨ k = w3.heap.size) w6 w' ∧ w'.cell? ⟨w.heap.size, 0, none⟩ = some (.int .i64 7) ∧ w'.cell? ⟨w.heap.size, 1, none⟩ = some (.string P) ∧ w'.cell? ⟨w.heap.size, 2, none⟩ = some (.string T) ∧ w'.cell? ⟨w.heap.size, 3, none⟩ = some (.string F) ∧ w'.cell? ⟨w.heap.size, 4, none⟩ = some (.int .i64 (A + ((mn : Int) - (mo : Int)))) ∧ w'.cell? ⟨w.heap.size, 5, none⟩ = some (.slice pa no ca) ∧ w'.cell? ⟨w.heap.size, 6, none⟩ = some (.slice pb nn cb) ∧ w'.cell? ⟨w1.heap.size, 0, none⟩ = some (.int .i64 7) ∧ w'.cell? ⟨w1.heap.size, 1, none⟩ = some (.string P) ∧ w'.cell? ⟨w1.heap.size, 2, none⟩ = some (.string T') ∧ w'.cell? ⟨w1.heap.size, 3, none⟩ = some (.string F') ∧ w'.cell? ⟨w1.heap.size, 4, none⟩ = some (.int .i64 A') ∧ w'.cell? ⟨w1.heap.size, 5, none⟩ = some (.slice qa mo da) ∧ w'.cell? ⟨w1.heap.size, 6, none⟩ = some (.slice qb mn db)) from fun w' f => by
              obtain ⟨x0, x1, x2, x3, x4, x5, x6⟩ := (HB.out.1.fr f (by have := HN.out; omega)).cells
              obtain ⟨y0, y1, y2, y3, y4, y5, y6⟩ := (HB.out.2.1.fr f (by have := HN.out; omega)).cells
              exact ⟨f, x0, x1, x2, x3, x4, x5, x6, y0, y1, y2, y3, y4, y5, y6⟩)
            have hS0 := HS.out w6.drew (Fr.drew _ w6)
            have hS6 := HS.out (setP w6 w2.heap.size (.int .i64 7) (.string P) (.string T') (.string F') (.int .i64 A') (.slice qa mo da) (.slice qb mn db)).drew (Fr.then (Fr.setP _ (Or.inl rfl) _ _ _ _ _ _ _) (Fr.drew _ _))
            have hS7 := HS.out (setP (setP w6 w2.heap.size (.int .i64 7) (.string P) (.string T') (.string F') (.int .i64 A') (.slice qa mo da) (.slice qb mn db)) w3.heap.size (.int .i64 7) (.string P) (.string T) (.string F) (.int .i64 (A + ((mn : Int) - (mo : Int)))) (.slice pa no ca) (.slice pb nn cb)).drew (Fr.then (Fr.then (Fr.setP _ (Or.inl rfl) _ _ _ _ _ _ _) (Fr.setP _ (Or.inr rfl) _ _ _ _ _ _ _)) (Fr.drew _ _))
            obtain ⟨c0, c1, c2, c3, c4, c5, c6⟩ := HB.out.2.2.1.cells
            obtain ⟨d0, d1, d2, d3, d4, d5, d6⟩ := HB.out.2.2.2.cells
            have cz := HB.out.2.2.1.frozen
            have dz := HB.out.2.2.2.frozen
            go_region_held3 (fun w' => Fr (fun k => k = w2.heap.size ∨ k = w3.heap.size) w6 w' ∧ w'.cell? ⟨w.heap.size, 0, none⟩ = some (.int .i64 7) ∧ w'.cell? ⟨w.heap.size, 1, none⟩ = some (.string P) ∧ w'.cell? ⟨w.heap.size, 2, none⟩ = some (.string T) ∧ w'.cell? ⟨w.heap.size, 3, none⟩ = some (.string F) ∧ w'.cell? ⟨w.heap.size, 4, none⟩ = some (.int .i64 (A + ((mn : Int) - (mo : Int)))) ∧ w'.cell? ⟨w.heap.size, 5, none⟩ = some (.slice pa no ca) ∧ w'.cell? ⟨w.heap.size, 6, none⟩ = some (.slice pb nn cb) ∧ w'.cell? ⟨w1.heap.size, 0, none⟩ = some (.int .i64 7) ∧ w'.cell? ⟨w1.heap.size, 1, none⟩ = some (.string P) ∧ w'.cell? ⟨w1.heap.size, 2, none⟩ = some (.string T') ∧ w'.cell? ⟨w1.heap.size, 3, none⟩ = some (.string F') ∧ w'.cell? ⟨w1.heap.size, 4, none⟩ = some (.int .i64 A') ∧ w'.cell? ⟨w1.heap.size, 5, none⟩ = some (.slice qa mo da) ∧ w'.cell? ⟨w1.heap.size, 6, none⟩ = some (.slice qb mn db))
              (first | with_reducible exact hS0 | with_reducible exact hS6 | with_reducible exact hS7)
              (fail)
            clear hS0 hS6 hS7 cz dz c0 c1 c2 c3 c4 c5 c6 d0 d1 d2 d3 d4 d5 d6
            go_wp2_with fail
            have hfin := two_set0 HW.out HB.out.2.2.1 HB.out.2.2.2 n6 (by have := HN.out; omega) (by have := HN.out; omega) (.int .i64 7) (.string P) (.string T') (.string F') (.int .i64 A') (.slice qa mo da) (.slice qb mn db) (.int .i64 7) (.string P) (.string T) (.string F) (.int .i64 (A + ((mn : Int) - (mo : Int)))) (.slice pa no ca) (.slice pb nn cb)
            exact ret_two rfl rfl rfl rfl rfl hfin.1.drew hfin.2.1.drew ⟨rfl, hfin.2.2.1.then7 (Fr.drew _ _)⟩
          case neg =>
            have hR := HR2.out.trans ((if_neg h1).trans (if_neg h2))
            subst hR
            simp only
            clear HR2
            go_wp2_with fail
            have HB := HB5
            have HW := HW5
            clear x0 x1 x2 x3 x4 x5 x6 y0 y1 y2 y3 y4 y5 y6 xz yz u1 u2 u3 u4 i1 i2 i3 i4
            have HS := toHid10 (show (∀ w', Fr (fun k => k = w2.heap.size ∨ k = w3.heap.size) w5 w' → Fr (fun k => k = w2.heap.size ∨ k = w3.heap.size) w5 w' ∧ w'.cell? ⟨w.heap.size, 0, none⟩ = some (.int .i64 7) ∧ w'.cell? ⟨w.heap.size, 1, none⟩ = some (.string P) ∧ w'.cell? ⟨w.heap.size, 2, none⟩ = some (.string T) ∧ w'.cell? ⟨w.heap.size, 3, none⟩ = some (.string F) ∧ w'.cell? ⟨w.heap.size, 4, none⟩ = some (.int .i64 A) ∧ w'.cell? ⟨w.heap.size, 5, none⟩ = some (.slice pa no ca) ∧ w'.cell? ⟨w.heap.size, 6, none⟩ = some (.slice pb nn cb) ∧ w'.cell? ⟨w1.heap.size, 0, none⟩ = some (.int .i64 7) ∧ w'.cell? ⟨w1.heap.size, 1, none⟩ = some (.string P) ∧ w'.cell? ⟨w1.heap.size, 2, none⟩ = some (.string T') ∧ w'.cell? ⟨w1.heap.size, 3, none⟩ = some (.string F') ∧ w'.cell? ⟨w1.heap.size, 4, none⟩ = some (.int .i64 A') ∧ w'.cell? ⟨w1.heap.size, 5, none⟩ = some (.slice qa mo da) ∧ w'.cell? ⟨w1.heap.size, 6, none⟩ = some (.slice qb mn db)) from fun w' f => by
              obtain ⟨x0, x1, x2, x3, x4, x5, x6⟩ := (HB.out.1.fr f (by have := HN.out; omega)).cells
              obtain ⟨y0, y1, y2, y3, y4, y5, y6⟩ := (HB.out.2.1.fr f (by have := HN.out; omega)).cells
              exact ⟨f, x0, x1, x2, x3, x4, x5, x6, y0, y1, y2, y3, y4, y5, y6⟩)
            have hS0 := HS.out w5.drew (Fr.drew _ w5)
            have hS6 := HS.out (setP w5 w2.heap.size (.int .i64 7) (.string P) (.string T') (.string F') (.int .i64 A') (.slice qa mo da) (.slice qb mn db)).drew (Fr.then (Fr.setP _ (Or.inl rfl) _ _ _ _ _ _ _) (Fr.drew _ _))
            have hS7 := HS.out (setP (setP w5 w2.heap.size (.int .i64 7) (.string P) (.string T') (.string F') (.int .i64 A') (.slice qa mo da) (.slice qb mn db)) w3.heap.size (.int .i64 7) (.string P) (.string T) (.string F) (.int .i64 A) (.slice pa no ca) (.slice pb nn cb)).drew (Fr.then (Fr.then (Fr.setP _ (Or.inl rfl) _ _ _ _ _ _ _) (Fr.setP _ (Or.inr rfl) _ _ _ _ _ _ _)) (Fr.drew _ _))
            obtain ⟨c0, c1, c2, c3, c4, c5, c6⟩ := HB.out.2.2.1.cells
            obtain ⟨d0, d1, d2, d3, d4, d5, d6⟩ := HB.out.2.2.2.cells
            have cz := HB.out.2.2.1.frozen
            have dz := HB.out.2.2.2.frozen
            go_region_held3 (fun w' => Fr (fun k => k = w2.heap.size ∨ k = w3.heap.size) w5 w' ∧ w'.cell? ⟨w.heap.size, 0, none⟩ = some (.int .i64 7) ∧ w'.cell? ⟨w.heap.size, 1, none⟩ = some (.string P) ∧ w'.cell? ⟨w.heap.size, 2, none⟩ = some (.string T) ∧ w'.cell? ⟨w.heap.size, 3, none⟩ = some (.string F) ∧ w'.cell? ⟨w.heap.size, 4, none⟩ = some (.int .i64 A) ∧ w'.cell? ⟨w.heap.size, 5, none⟩ = some (.slice pa no ca) ∧ w'.cell? ⟨w.heap.size, 6, none⟩ = some (.slice pb nn cb) ∧ w'.cell? ⟨w1.heap.size, 0, none⟩ = some (.int .i64 7) ∧ w'.cell? ⟨w1.heap.size, 1, none⟩ = some (.string P) ∧ w'.cell? ⟨w1.heap.size, 2, none⟩ = some (.string T') ∧ w'.cell? ⟨w1.heap.size, 3, none⟩ = some (.string F') ∧ w'.cell? ⟨w1.heap.size, 4, none⟩ = some (.int .i64 A') ∧ w'.cell? ⟨w1.heap.size, 5, none⟩ = some (.slice qa mo da) ∧ w'.cell? ⟨w1.heap.size, 6, none⟩ = some (.slice qb mn db))
              (first | with_reducible exact hS0 | with_reducible exact hS6 | with_reducible exact hS7)
              (fail)
            clear hS0 hS6 hS7 cz dz c0 c1 c2 c3 c4 c5 c6 d0 d1 d2 d3 d4 d5 d6
            go_wp2_with fail
            have hfin := two_set0 HW.out HB.out.2.2.1 HB.out.2.2.2 n6 (by have := HN.out; omega) (by have := HN.out; omega) (.int .i64 7) (.string P) (.string T') (.string F') (.int .i64 A') (.slice qa mo da) (.slice qb mn db) (.int .i64 7) (.string P) (.string T) (.string F) (.int .i64 A) (.slice pa no ca) (.slice pb nn cb)
            exact ret_two rfl rfl rfl rfl rfl hfin.1.drew hfin.2.1.drew ⟨rfl, hfin.2.2.1.then7 (Fr.drew _ _)⟩

end Go.Proofs.YtpfkkpghgmmijaaGreatDoor

namespace Go.Proofs.YtpfkkpghgmmijaaGreatDoor
open Go.RowKit
set_option maxRecDepth 100000

attribute [local go_sem] run_store_func9 run_store_nil9

def tab33 (b1 b2 b3 b4 b5 b6 : Nat) : Array Value := #[.func (.func 162) #[] #[.pointer (some ⟨b1, 0, none⟩)], .func (.func 162) #[] #[.pointer (some ⟨b2, 0, none⟩)], .func (.func 162) #[] #[.pointer (some ⟨b3, 0, none⟩)], .func (.func 162) #[] #[.pointer (some ⟨b4, 0, none⟩)], .func (.func 131) #[] #[], .func (.func 132) #[] #[], .func (.func 162) #[] #[.pointer (some ⟨b5, 0, none⟩)], .func (.func 133) #[] #[], .func (.func 162) #[] #[.pointer (some ⟨b6, 0, none⟩)]]

theorem info33 : (Tryz.prog.info? 106).map (·.size) = some 9 := by kernel_rfl

def Tabs (w : World) (b1 b2 b3 b4 b5 b6 : Nat) : Prop := (w.cell? ⟨b1, 0, none⟩ = some (.func (.func 129) #[] #[]) ∧ w.cell? ⟨b2, 0, none⟩ = some (.func (.func 130) #[] #[]) ∧ w.cell? ⟨b3, 0, none⟩ = some (.func (.func 129) #[] #[])) ∧ w.cell? ⟨b4, 0, none⟩ = some (.func (.func 130) #[] #[]) ∧ w.cell? ⟨b5, 0, none⟩ = some (.func (.func 129) #[] #[]) ∧ w.cell? ⟨b6, 0, none⟩ = some (.func (.func 129) #[] #[])

theorem asThey_f (f : FuncId) (w0 w : World) (h : Fr None' w0 w) : Calls Tryz.prog 128 #[.func (.func f) #[] #[]] w fun e w' => ∃ b, e = .returned (.func (.func 162) #[] #[.pointer (some ⟨b, 0, none⟩)]) ∧ Hid (w'.cell? ⟨b, 0, none⟩ = some (.func (.func f) #[] #[]) ∧ w0.heap.size ≤ b) ∧ Hid (Fr None' w w') :=
  (asThey_any f w).mono fun _ _ ⟨h1, h2, h3⟩ => ⟨_, h1, ⟨h2, h.size⟩, h3⟩

set_option maxHeartbeats 8000000 in
theorem rules10_any (w : World) : Calls Tryz.prog 94 #[] w fun e w' => ∃ b1 b2 b3 b4 b5 b6, e = .returned (.agg (tab33 b1 b2 b3 b4 b5 b6)) ∧ Tabs w' b1 b2 b3 b4 b5 b6 ∧ Fr None' w w' := by
  obtain ⟨w0, hw0⟩ : ∃ w0, w.alloc (.cells #[.nilFunc, .nilFunc, .nilFunc, .nilFunc, .nilFunc, .nilFunc, .nilFunc, .nilFunc, .nilFunc] 106) = w0 := ⟨_, rfl⟩
  have HB0 := toHid10 (show w0.heap[w.heap.size]? = some (.cells #[.nilFunc, .nilFunc, .nilFunc, .nilFunc, .nilFunc, .nilFunc, .nilFunc, .nilFunc, .nilFunc] 106 (0, 0)) from by rw [← hw0]; exact heap_alloc_new w _)
  have HF0 : Hid (Fr None' w w0) := hw0 ▸ Fr.alloc None' w _
  have HN0 : Hid (w0.heap.size = w.heap.size + 1) := by show _ = _; rw [← hw0]; simp
  have q1 := asThey_f 129 w0 w0 (Fr.refl _ _)
  go_enter Tryz.func94, Tryz.ntmps94
  go_wp2_with fail
  with_reducible refine q1.mono ?_
  rintro e w1 ⟨b1, rfl, C1, G1⟩
  have f1 : Hid (Fr None' w0 w1) := G1
  have q2 := asThey_f 130 w0 w1 f1.out
  clear q1
  go_wp2_with fail
  with_reducible refine q2.mono ?_
  rintro e w2 ⟨b2, rfl, C2, G2⟩
  have f2 : Hid (Fr None' w0 w2) := f1.out.then7 G2.out
  have q3 := asThey_f 129 w0 w2 f2.out
  clear q2
  go_wp2_with fail
  with_reducible refine q3.mono ?_
  rintro e w3 ⟨b3, rfl, C3, G3⟩
  have f3 : Hid (Fr None' w0 w3) := f2.out.then7 G3.out
  have q4 := asThey_f 130 w0 w3 f3.out
  clear q3
  go_wp2_with fail
  with_reducible refine q4.mono ?_
  rintro e w4 ⟨b4, rfl, C4, G4⟩
  have f4 : Hid (Fr None' w0 w4) := f3.out.then7 G4.out
  have q5 := asThey_f 129 w0 w4 f4.out
  clear q4
  go_wp2_with fail
  with_reducible refine q5.mono ?_
  rintro e w5 ⟨b5, rfl, C5, G5⟩
  have f5 : Hid (Fr None' w0 w5) := f4.out.then7 G5.out
  have q6 := asThey_f 129 w0 w5 f5.out
  clear q5
  go_wp2_with fail
  with_reducible refine q6.mono ?_
  rintro e w6 ⟨b6, rfl, C6, G6⟩
  have f6 : Hid (Fr None' w0 w6) := f5.out.then7 G6.out
  clear q6
  go_wp2_with (refine wpList_store_row rfl _ _ _ rfl w.heap.size _ rfl rfl 106 _ (f6.out.at HB0.out (fun e => e)) info33 (by simp) (by simp [Value.oneCell']) ?_)
  have hset := setRow_at (c' := tab33 b1 b2 b3 b4 b5 b6) (f6.out.at HB0.out (fun e => e))
  have hfr : Fr (fun i => i = w.heap.size) w6 (w6.setRow w.heap.size (tab33 b1 b2 b3 b4 b5 b6)) := Fr.setRow (M := fun i => i = w.heap.size) _ rfl _
  have g56 := G6.out
  have g46 := G5.out.then7 g56
  have g36 := G4.out.then7 g46
  have g26 := G3.out.then7 g36
  have g16 := G2.out.then7 g26
  have hn := HN0.out
  refine bodyPost_ret (results_cell_row rfl _ _ w.heap.size 106 _ (0, 0) _ rfl hset Tryz.underlying106 rfl info33) rfl ⟨b1, b2, b3, b4, b5, b6, rfl, ⟨⟨?_, ?_, ?_⟩, ?_, ?_, ?_⟩, (HF0.out.then7 f6.out).trans hfr (fun i e => Or.inr (by omega))⟩
  · exact hfr.keepCell (g16.keepCell C1.out.1 (fun e => e)) (by have := C1.out.2; show ¬ b1 = _; omega)
  · exact hfr.keepCell (g26.keepCell C2.out.1 (fun e => e)) (by have := C2.out.2; show ¬ b2 = _; omega)
  · exact hfr.keepCell (g36.keepCell C3.out.1 (fun e => e)) (by have := C3.out.2; show ¬ b3 = _; omega)
  · exact hfr.keepCell (g46.keepCell C4.out.1 (fun e => e)) (by have := C4.out.2; show ¬ b4 = _; omega)
  · exact hfr.keepCell (g56.keepCell C5.out.1 (fun e => e)) (by have := C5.out.2; show ¬ b5 = _; omega)
  · exact hfr.keepCell C6.out.1 (by have := C6.out.2; show ¬ b6 = _; omega)

end Go.Proofs.YtpfkkpghgmmijaaGreatDoor
