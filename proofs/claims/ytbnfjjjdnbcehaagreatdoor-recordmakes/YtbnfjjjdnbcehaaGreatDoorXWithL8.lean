/- What is proved here: contracts for RecordMakes. Conditions: as named. -/
import Derived.Test.YtbnfjjjdnbcehaaGreatDoorX28RecM12
import Derived.Test.YtbnfjjjdnbcehaaGreatDoorXFApply
set_option maxHeartbeats 16000000
namespace Go.Proofs.YtbnfjjjdnbcehaaGreatDoor
open Go.RowKit
set_option maxRecDepth 100000
theorem ofD {w w' : World} (h : Diff.Fr Diff.None' w w') : Fr None' w w' := ⟨h.os, h.tape, h.output, h.size, fun k hk hm => h.block k hk (fun e => hm e)⟩
theorem hunk_apply (l o n : List ByteArray) (x : Int) : Diff.applyI l x o n = hunkL l x o n := by
 unfold Diff.applyI Diff.apply1 hunkL
 by_cases h : 0 ≤ x
 ·rw [if_pos h]
  simp only [h, true_and]
 ·rw [if_neg h, if_neg (fun e => h e.1)]
theorem dapply_any (l o n : List ByteArray) (x : Int) (ua : Option Addr) (um uc : Nat) (po pn : Option Addr) (no nn co cn : Nat) (w : World) (hl : Zy w (.slice ua um uc) l) (ho : Zy w (.slice po no co) o) (hn : Zy w (.slice pn nn cn) n) (l1 : l.length ≤ 40000000) (l2 : o.length ≤ 40000000) (l3 : n.length ≤ 40000000) (hx : -9223372036854775808 ≤ x ∧ x < 9223372036854775808) :
  Calls Tryz.prog 142 #[.slice ua um uc, .agg #[.int .i64 x, .slice po no co, .slice pn nn cn]] w fun e w' => ∃ (va : Option Addr) (m c : Nat) (b : Bool), e = .returned (.tuple #[.slice va m c, .bool b]) ∧ Hid (b = (hunkL l x o n).isSome) ∧ Hid (∀ l', hunkL l x o n = some l' → Zy w' (.slice va m c) l') ∧ Hid (∀ l', hunkL l x o n = some l' → ∀ k, (Value.slice va m c).ownBlock = some k → w.heap.size ≤ k) ∧ Fr None' w w' := by
 obtain ⟨va, c, e1, a1, a2, a3⟩ := hl
 obtain ⟨vb, c', e2, b1, b2, b3⟩ := ho
 obtain ⟨vc, c'', e3, d1, d2, d3⟩ := hn
 cases e1; cases e2; cases e3
 refine (Diff.apply_any ua po pn l.length uc o.length co n.length cn l o n x w rfl rfl rfl a3 b3 d3 a2 a1 b2 b1 d2 d1 l1 l2 l3 hx).mono ?_
 rintro e w' ⟨f, h⟩
 rw [hunk_apply] at h
 cases hr : hunkL l x o n with
 | none =>
  rw [hr] at h
  exact ⟨none, 0, 0, false, h, rfl, (fun l' e => by cases e), (fun l' e => by cases e), ofD f⟩
 | some l' =>
  rw [hr] at h
  obtain ⟨v, he, hO⟩ := h
  have hO : w'.ownsRow w.heap.size 9 1 v l'.length (l'.map Value.string) := by
   have := hO
   unfold Diff.OwnV at this
   rw [List.length_map] at this
   exact this
  have hs := own_strs hO
  have hge := fun k (e : v.ownBlock = some k) => own_ge hO e
  obtain ⟨va', c', rfl, q⟩ := hs
  exact ⟨va', l'.length, c', true, he, rfl, (fun l'' e => by cases e; exact ⟨va', c', rfl, q⟩), (fun l'' _ => hge), ofD f⟩
theorem withLines_any (x : En) (p : Pr) (ua : Option Addr) (um uc : Nat) (vo vn : Value) (w : World) (hx : Zy w (.slice ua um uc) x.lines) (ho : Zy w vo p.old) (hn : Zy w vn p.new) (hk : p.kind = 7) (l1 : x.lines.length ≤ 40000000) (l2 : p.old.length ≤ 40000000) (l3 : p.new.length ≤ 40000000) (hp : -9223372036854775808 ≤ p.pos ∧ p.pos < 9223372036854775808) :
  Calls Tryz.prog 109 #[.agg #[.string x.path, .int .i64 x.kind, .slice ua um uc, .string x.data], .agg #[.int .i64 p.kind, .string p.path, .string p.dst, .string p.src, .int .i64 p.pos, vo, vn]] w fun e w' => WithPost (Zb x p) w e w' := by
 have HW := Zz (show Zb x p = (hunkL x.lines p.pos p.old p.new).map (fun l => { x with lines := l }) from by unfold Zb; rw [if_pos hk])
 rw [HW.out]
 obtain ⟨pa, ca, rfl, ho'⟩ := ho
 obtain ⟨pb, cb, rfl, hn'⟩ := hn
 have HA := Zz (fun w' (f : Fr None' w w') => dapply_any x.lines p.old p.new p.pos ua um uc pa pb p.old.length p.new.length ca cb w' (hx.kept f) (Zy.kept ⟨pa, ca, rfl, ho'⟩ f) (Zy.kept ⟨pb, cb, rfl, hn'⟩ f) l1 l2 l3 hp)
 clear HW hk hx ho' hn' l1 l2 l3 hp
 obtain ⟨P, K, l, D⟩ := x
 obtain ⟨K2, P2, T2, F2, A2, lO, lN⟩ := p
 simp only at HA ⊢
 generalize hunkL l A2 lO lN = R at HA ⊢
 generalize lO.length = no at HA ⊢
 generalize lN.length = nn at HA ⊢
 obtain ⟨w1, hw1⟩ : ∃ w1, w.alloc (.cells #[.string P, .int .i64 K, .slice ua um uc, .string D] 45) = w1 := ⟨_, rfl⟩
 obtain ⟨w2, hw2⟩ : ∃ w2, w1.alloc (.cells #[.int .i64 K2, .string P2, .string T2, .string F2, .int .i64 A2, .slice pa no ca, .slice pb nn cb] 43) = w2 := ⟨_, rfl⟩
 obtain ⟨w3, hw3⟩ : ∃ w3, w2.alloc (.cells #[.string ⟨#[]⟩, .int .i64 0, .slice none 0 0, .string ⟨#[]⟩] 45) = w3 := ⟨_, rfl⟩
 have F1 : Fr None' w w1 := hw1 ▸ Fr.alloc None' w _
 have F2' : Fr None' w1 w2 := hw2 ▸ Fr.alloc None' w1 _
 have F3 : Fr None' w2 w3 := hw3 ▸ Fr.alloc None' w2 _
 have s1 : w1.heap.size = w.heap.size + 1 := by rw [← hw1]; simp
 have s2 : w2.heap.size = w1.heap.size + 1 := by rw [← hw2]; simp
 have s3 : w3.heap.size = w2.heap.size + 1 := by rw [← hw3]; simp
 have BX : Yu w3 w.heap.size (.string P) (.int .i64 K) (.slice ua um uc) (.string D) := ((hw1 ▸ Yu.new w _ _ _ _ : Yu w1 _ _ _ _ _).kept F2').kept F3
 have BP : Box w3 w1.heap.size (.int .i64 K2) (.string P2) (.string T2) (.string F2) (.int .i64 A2) (.slice pa no ca) (.slice pb nn cb) := (hw2 ▸ Box.new w1 _ _ _ _ _ _ _ : Box w2 _ _ _ _ _ _ _ _).kept F3
 have BR : Yu w3 w2.heap.size (.string ⟨#[]⟩) (.int .i64 0) (.slice none 0 0) (.string ⟨#[]⟩) := hw3 ▸ Yu.new w2 _ _ _ _
 have HF := Zz ((F1.then7 F2').then7 F3)
 have HS := Zz (And.intro s1 (And.intro s2 s3))
 obtain ⟨x0, x1, x2, x3⟩ := BX.cells
 obtain ⟨p0, p1, p2, p3, p4, p5, p6⟩ := BP.cells
 have HBX := Zz BX
 have HBR := Zz BR
 have cA := HA.out w3 HF.out
 clear BX BP BR F1 F2' F3 s1 s2 s3 HA
 go_enter Tryz.func109, Tryz.ntmps109
 go_wp2_with fail
 with_reducible refine cA.mono ?_
 rintro e w4 ⟨va, m, c, b, rfl, Hb, HL, HZ, f4⟩
 clear cA x0 x1 x2 x3 p0 p1 p2 p3 p4 p5 p6
 have BX4 := HBX.out.kept f4
 have BR4 := HBR.out.kept f4
 obtain ⟨x0, x1, x2, x3⟩ := BX4.cells
 have xz := BX4.frozen
 obtain ⟨w5, hw5⟩ : ∃ w5, w4.setCell ⟨w.heap.size, 2, none⟩ (.slice va m c) = w5 := ⟨_, rfl⟩
 have F5 : Fr (fun k => k = w.heap.size) w4 w5 := hw5 ▸ Fr.setCell (M := fun k => k = w.heap.size) (a := ⟨w.heap.size, 2, none⟩) w4 rfl _
 have BX5 : Yu w5 w.heap.size (.string P) (.int .i64 K) (.slice va m c) (.string D) := hw5 ▸ BX4.set2 _
 have BR5 : Yu w5 w2.heap.size (.string ⟨#[]⟩) (.int .i64 0) (.slice none 0 0) (.string ⟨#[]⟩) := BR4.fr F5 (fun e => by have e : w2.heap.size = w.heap.size := e; have := HS.out; omega)
 obtain ⟨e0, e1, e2, e3⟩ := BX5.cells
 obtain ⟨r0, r1, r2, r3⟩ := BR5.cells
 have rz := BR5.frozen
 have HBR5 := Zz BR5
 have HF5 := Zz ((HF.out.then7 f4).trans F5 (fun i e => Or.inr (by have e : i = w.heap.size := e; omega)))
 have HN := Zz (show ∀ l', R = some l' → ∀ W, Fr (fun k => k = w2.heap.size) w5 W → Zy W (.slice va m c) l' from fun l' e W f => by
  have h4 := HL.out l' e
  have hz := HZ.out l' e
  refine (h4.far F5 (fun hl k ek ek' => ?_)).far f (fun hl k ek ek' => ?_)
  ·have := hz k ek; have e' : k = w.heap.size := ek'; have := HS.out; omega
  ·have := hz k ek; have e' : k = w2.heap.size := ek'; have := HS.out; omega)
 clear BX4 BR4 BX5 BR5 F5 HL f4 HBX HBR
 go_wp2_with fail
 obtain ⟨hld, hfs, hfr⟩ := fin_entry HF5.out HBR5.out (by have := HS.out; omega) (.string P) (.int .i64 K) (.slice va m c) (.string D)
 refine bodyPost_ret (v := .tuple #[.agg #[.string P, .int .i64 K, .slice va m c, .string D], .bool b]) (by rw [results_cell_tmp rfl]; simp [asAddr, Result.andThen, hld]) rfl ?_
 refine ⟨P, K, va, m, c, D, b, rfl, ?_, fun y hy => ?_, hfr⟩
 ·show b = _
  rw [Hb.out]
  cases R <;> rfl
 ·obtain ⟨l', e, rfl⟩ := Option.map_eq_some_iff.1 hy
  exact ⟨rfl, rfl, rfl, HN.out l' e _ hfs⟩
end Go.Proofs.YtbnfjjjdnbcehaaGreatDoor
