/- What is proved here: contracts that SeqTells stands on. Conditions: as each theorem names them. -/
import Derived.Test.YtbnfjjjdnbcehaaGreatDoorM28CommD10
import Derived.Test.YtbnfjjjdnbcehaaGreatDoorMRComY
import Derived.Test.YtbnfjjjdnbcehaaGreatDoorMDRight10
set_option maxHeartbeats 16000000
namespace Go.Proofs.YtbnfjjjdnbcehaaGreatDoor
open Go.RowKit
set_option maxRecDepth 100000
theorem rcomm_none (x y : Pr) (pa pb qa qb : Option Addr) (no nn ca cb mo mn da db : Nat) (w : World) (w0 : World) (R1 R2 : Bool) (hR : R1 = false ∨ R2 = false) (hno' : Zj x y = Yz)
  (HR1 : Hid (∀ w', Fr None' w w' → Calls Tryz.prog 61 #[.agg #[.int .i64 x.kind, .string x.path, .string x.dst, .string x.src, .int .i64 x.pos, .slice pa no ca, .slice pb nn cb]] w' (fun e w'' => e = .returned (.bool R1) ∧ Fr None' w' w'')))
  (HR2 : Hid (∀ w', Fr None' w w' → Calls Tryz.prog 61 #[.agg #[.int .i64 y.kind, .string y.path, .string y.dst, .string y.src, .int .i64 y.pos, .slice qa mo da, .slice qb mn db]] w' (fun e w'' => e = .returned (.bool R2) ∧ Fr None' w' w''))) :
  Calls Tryz.prog 57 #[.agg #[.int .i64 x.kind, .string x.path, .string x.dst, .string x.src, .int .i64 x.pos, .slice pa no ca, .slice pb nn cb], .agg #[.int .i64 y.kind, .string y.path, .string y.dst, .string y.src, .int .i64 y.pos, .slice qa mo da, .slice qb mn db]] w fun e w' => Z9 x y w0 w e w' := by
 unfold Z9
 generalize Zj x y = cc at hno' ⊢
 obtain ⟨w1, hw1⟩ : ∃ w1, w.alloc (.cells #[.int .i64 x.kind, .string x.path, .string x.dst, .string x.src, .int .i64 x.pos, .slice pa no ca, .slice pb nn cb] 43) = w1 := ⟨_, rfl⟩
 obtain ⟨w2, hw2⟩ : ∃ w2, w1.alloc (.cells #[.int .i64 y.kind, .string y.path, .string y.dst, .string y.src, .int .i64 y.pos, .slice qa mo da, .slice qb mn db] 43) = w2 := ⟨_, rfl⟩
 obtain ⟨w3, hw3⟩ : ∃ w3, w2.alloc (.cells #[.int .i64 0, .string ⟨#[]⟩, .string ⟨#[]⟩, .string ⟨#[]⟩, .int .i64 0, .slice none 0 0, .slice none 0 0] 43) = w3 := ⟨_, rfl⟩
 obtain ⟨w4, hw4⟩ : ∃ w4, w3.alloc (.cells #[.int .i64 0, .string ⟨#[]⟩, .string ⟨#[]⟩, .string ⟨#[]⟩, .int .i64 0, .slice none 0 0, .slice none 0 0] 43) = w4 := ⟨_, rfl⟩
 have F1 : Fr None' w w1 := hw1 ▸ Fr.alloc None' w _
 have F2 : Fr None' w1 w2 := hw2 ▸ Fr.alloc None' w1 _
 have F3 : Fr None' w2 w3 := hw3 ▸ Fr.alloc None' w2 _
 have F4 : Fr None' w3 w4 := hw4 ▸ Fr.alloc None' w3 _
 have BX : Box w4 w.heap.size (.int .i64 x.kind) (.string x.path) (.string x.dst) (.string x.src) (.int .i64 x.pos) (.slice pa no ca) (.slice pb nn cb) := (hw1 ▸ Box.new w _ _ _ _ _ _ _ : Box w1 _ _ _ _ _ _ _ _).kept ((F2.then7 F3).then7 F4)
 have BY : Box w4 w1.heap.size (.int .i64 y.kind) (.string y.path) (.string y.dst) (.string y.src) (.int .i64 y.pos) (.slice qa mo da) (.slice qb mn db) := (hw2 ▸ Box.new w1 _ _ _ _ _ _ _ : Box w2 _ _ _ _ _ _ _ _).kept (F3.then7 F4)
 have BC : Box w4 w2.heap.size (.int .i64 0) (.string ⟨#[]⟩) (.string ⟨#[]⟩) (.string ⟨#[]⟩) (.int .i64 0) (.slice none 0 0) (.slice none 0 0) := (hw3 ▸ Box.new w2 _ _ _ _ _ _ _ : Box w3 _ _ _ _ _ _ _ _).kept F4
 have BD : Box w4 w3.heap.size (.int .i64 0) (.string ⟨#[]⟩) (.string ⟨#[]⟩) (.string ⟨#[]⟩) (.int .i64 0) (.slice none 0 0) (.slice none 0 0) := hw4 ▸ Box.new w3 _ _ _ _ _ _ _
 have s1 : w1.heap.size = w.heap.size + 1 := by rw [← hw1]; simp
 have s2 : w2.heap.size = w1.heap.size + 1 := by rw [← hw2]; simp
 have s3 : w3.heap.size = w2.heap.size + 1 := by rw [← hw3]; simp
 have HF : Hid (Fr None' w w4) := ((F1.then7 F2).then7 F3).then7 F4
 have HN : Hid (w.heap.size < w1.heap.size ∧ w1.heap.size < w2.heap.size ∧ w2.heap.size < w3.heap.size) := ⟨by omega, by omega, by omega⟩
 have n1 : ¬ w.heap.size = w1.heap.size := by omega
 have n2 : ¬ w.heap.size = w2.heap.size := by omega
 have n3 : ¬ w.heap.size = w3.heap.size := by omega
 have n4 : ¬ w1.heap.size = w2.heap.size := by omega
 have n5 : ¬ w1.heap.size = w3.heap.size := by omega
 have n6 : ¬ w2.heap.size = w3.heap.size := by omega
 have HBs : Hid (∀ w', Fr None' w4 w' → Box w' w.heap.size (.int .i64 x.kind) (.string x.path) (.string x.dst) (.string x.src) (.int .i64 x.pos) (.slice pa no ca) (.slice pb nn cb) ∧ Box w' w1.heap.size (.int .i64 y.kind) (.string y.path) (.string y.dst) (.string y.src) (.int .i64 y.pos) (.slice qa mo da) (.slice qb mn db) ∧ Box w' w2.heap.size (.int .i64 0) (.string ⟨#[]⟩) (.string ⟨#[]⟩) (.string ⟨#[]⟩) (.int .i64 0) (.slice none 0 0) (.slice none 0 0) ∧ Box w' w3.heap.size (.int .i64 0) (.string ⟨#[]⟩) (.string ⟨#[]⟩) (.string ⟨#[]⟩) (.int .i64 0) (.slice none 0 0) (.slice none 0 0)) := fun w' f => ⟨BX.kept f, BY.kept f, BC.kept f, BD.kept f⟩
 obtain ⟨x0, x1, x2, x3, x4, x5, x6⟩ := BX.cells
 clear F1 F2 F3 F4 BX BY BC BD s1 s2 s3
 clear n1 n2 n3 n4 n5
 have q1 := HR1.out w4 HF.out
 go_enter Tryz.func57, Tryz.ntmps57
 go_wp2_with fail
 with_reducible refine q1.mono ?_
 rintro e w5 ⟨rfl, f5⟩
 have HF5 := Zz f5
 have q2 := HR2.out w5 (HF.out.then7 f5)
 clear q1 f5 x0 x1 x2 x3 x4 x5 x6
 cases R1 with
 | false =>
  have HBx := Zz (HBs.out w5 HF5.out)
  have HWx := Zz (HF.out.then7 HF5.out)
  clear q2
  obtain ⟨c0, c1, c2, c3, c4, c5, c6⟩ := HBx.out.2.2.1.cells
  obtain ⟨d0, d1, d2, d3, d4, d5, d6⟩ := HBx.out.2.2.2.cells
  have cz := HBx.out.2.2.1.frozen
  have dz := HBx.out.2.2.2.frozen
  go_wp2_with fail
  have hfin := Zt HWx.out HBx.out.2.2.1 HBx.out.2.2.2 n6 (by have := HN.out; omega) (by have := HN.out; omega) (.int .i64 0) (.string ⟨#[]⟩) (.string ⟨#[]⟩) (.string ⟨#[]⟩) (.int .i64 0) (.slice none 0 0) (.slice none 0 0) (.int .i64 0) (.string ⟨#[]⟩) (.string ⟨#[]⟩) (.string ⟨#[]⟩) (.int .i64 0) (.slice none 0 0) (.slice none 0 0)
  exact Zr (u := .bool false) rfl rfl rfl rfl rfl hfin.1 hfin.2.1 (Zq hno' hfin.2.2.1)
 | true =>
  obtain rfl : R2 = false := by simpa using hR
  obtain ⟨y0, y1, y2, y3, y4, y5, y6⟩ := (HBs.out w5 HF5.out).2.1.cells
  go_wp2_with fail
  with_reducible refine q2.mono ?_
  rintro e w6 ⟨rfl, f6⟩
  have HBx := Zz (HBs.out w6 (HF5.out.then7 f6))
  have HWx := Zz (HF.out.then7 (HF5.out.then7 f6))
  clear q2 f6 y0 y1 y2 y3 y4 y5 y6
  obtain ⟨c0, c1, c2, c3, c4, c5, c6⟩ := HBx.out.2.2.1.cells
  obtain ⟨d0, d1, d2, d3, d4, d5, d6⟩ := HBx.out.2.2.2.cells
  have cz := HBx.out.2.2.1.frozen
  have dz := HBx.out.2.2.2.frozen
  go_wp2_with fail
  have hfin := Zt HWx.out HBx.out.2.2.1 HBx.out.2.2.2 n6 (by have := HN.out; omega) (by have := HN.out; omega) (.int .i64 0) (.string ⟨#[]⟩) (.string ⟨#[]⟩) (.string ⟨#[]⟩) (.int .i64 0) (.slice none 0 0) (.slice none 0 0) (.int .i64 0) (.string ⟨#[]⟩) (.string ⟨#[]⟩) (.string ⟨#[]⟩) (.int .i64 0) (.slice none 0 0) (.slice none 0 0)
  exact Zr (u := .bool false) rfl rfl rfl rfl rfl hfin.1 hfin.2.1 (Zq hno' hfin.2.2.1)
theorem rcommute_any (x y : Pr) (vo vn uo un : Value) (w0 w : World) (ho : Zv w0 vo x.old) (hn : Zv w0 vn x.new) (go : Zv w0 uo y.old) (gn : Zv w0 un y.new) (f0 : Fr None' w0 w) (sx : Zs x) (sy : Zs y) (lx : Zo x) (ly : Zo y) :
  Calls Tryz.prog 57 #[.agg #[.int .i64 x.kind, .string x.path, .string x.dst, .string x.src, .int .i64 x.pos, vo, vn], .agg #[.int .i64 y.kind, .string y.path, .string y.dst, .string y.src, .int .i64 y.pos, uo, un]] w fun e w' => Z9 x y w0 w e w' := by
 obtain ⟨pa, ca, rfl⟩ := ho.as2
 obtain ⟨pb, cb, rfl⟩ := hn.as2
 obtain ⟨qa, da, rfl⟩ := go.as2
 obtain ⟨qb, db, rfl⟩ := gn.as2
 have HR1 : ∀ w', Fr None' w w' → Calls Tryz.prog 61 #[.agg #[.int .i64 x.kind, .string x.path, .string x.dst, .string x.src, .int .i64 x.pos, .slice pa x.old.length ca, .slice pb x.new.length cb]] w' (fun e w'' => e = .returned (.bool (Zw x)) ∧ Fr None' w' w'') := fun w' f => Y3 x _ _ w' (ho.kept (f0.then7 f)) (hn.kept (f0.then7 f)) sx lx
 have HR2 : ∀ w', Fr None' w w' → Calls Tryz.prog 61 #[.agg #[.int .i64 y.kind, .string y.path, .string y.dst, .string y.src, .int .i64 y.pos, .slice qa y.old.length da, .slice qb y.new.length db]] w' (fun e w'' => e = .returned (.bool (Zw y)) ∧ Fr None' w' w'') := fun w' f => Y3 y _ _ w' (go.kept (f0.then7 f)) (gn.kept (f0.then7 f)) sy ly
 by_cases hxy : Zw x = true ∧ Zw y = true
 ·obtain ⟨fx, fy⟩ := hxy
  rw [fx] at HR1
  rw [fy] at HR2
  obtain ⟨r1, r2, r3, r4⟩ := Yj x y
  obtain ⟨s1, s2⟩ := rule_small fx fy sx sy
  have HQ1 : ∀ w', Fr None' w w' → Calls Tryz.prog 61 #[.agg #[.int .i64 (Zx x y).1.kind, .string (Zx x y).1.path, .string (Zx x y).1.dst, .string (Zx x y).1.src, .int .i64 (Zx x y).1.pos, .slice qa y.old.length da, .slice qb y.new.length db]] w' (fun e w'' => e = .returned (.bool (Zw (Zx x y).1)) ∧ Fr None' w' w'') := fun w' f => Y3 (Zx x y).1 _ _ w' (by rw [r1]; exact go.kept (f0.then7 f)) (by rw [r2]; exact gn.kept (f0.then7 f)) s1 ⟨by rw [r1]; exact ly.1, by rw [r2]; exact ly.2⟩
  have HQ2 : ∀ w', Fr None' w w' → Calls Tryz.prog 61 #[.agg #[.int .i64 (Zx x y).2.1.kind, .string (Zx x y).2.1.path, .string (Zx x y).2.1.dst, .string (Zx x y).2.1.src, .int .i64 (Zx x y).2.1.pos, .slice pa x.old.length ca, .slice pb x.new.length cb]] w' (fun e w'' => e = .returned (.bool (Zw (Zx x y).2.1)) ∧ Fr None' w' w'') := fun w' f => Y3 (Zx x y).2.1 _ _ w' (by rw [r3]; exact ho.kept (f0.then7 f)) (by rw [r4]; exact hn.kept (f0.then7 f)) s2 ⟨by rw [r3]; exact lx.1, by rw [r4]; exact lx.2⟩
  have HV : Yf w0 (.agg #[.int .i64 (Zx x y).1.kind, .string (Zx x y).1.path, .string (Zx x y).1.dst, .string (Zx x y).1.src, .int .i64 (Zx x y).1.pos, .slice qa y.old.length da, .slice qb y.new.length db]) (Zx x y).1 ∧ Yf w0 (.agg #[.int .i64 (Zx x y).2.1.kind, .string (Zx x y).2.1.path, .string (Zx x y).2.1.dst, .string (Zx x y).2.1.src, .int .i64 (Zx x y).2.1.pos, .slice pa x.old.length ca, .slice pb x.new.length cb]) (Zx x y).2.1 := ⟨⟨_, _, rfl, by rw [r1]; exact go, by rw [r2]; exact gn⟩, ⟨_, _, rfl, by rw [r3]; exact ho, by rw [r4]; exact hn⟩⟩
  rcases cls_cases fx with kx | kx | kx <;> rcases cls_cases fy with ky | ky | ky
  ·exact rcomm_00 x y pa pb qa qb _ _ ca cb _ _ da db w kx ky rfl rfl rfl rfl sx sy fx fy HR1 HR2 HQ1 HQ2 w0 HV
  ·exact rcomm_01 x y pa pb qa qb _ _ ca cb _ _ da db w kx ky rfl rfl rfl rfl sx sy fx fy HR1 HR2 HQ1 HQ2 w0 HV
  ·exact rcomm_02 x y pa pb qa qb _ _ ca cb _ _ da db w kx ky rfl rfl rfl rfl sx sy fx fy HR1 HR2 HQ1 HQ2 w0 HV
  ·exact rcomm_10 x y pa pb qa qb _ _ ca cb _ _ da db w kx ky rfl rfl rfl rfl sx sy fx fy HR1 HR2 HQ1 HQ2 w0 HV
  ·by_cases hL : x.kind = 7 ∧ y.kind = 7 ∧ x.path = y.path
   ·exact rcomm_LL x y pa pb qa qb _ _ ca cb _ _ da db w kx ky hL rfl rfl rfl rfl sx sy fx fy HR1 HR2 HQ1 HQ2 w0 HV
   ·exact rcomm_11 x y pa pb qa qb _ _ ca cb _ _ da db w kx ky hL rfl rfl rfl rfl sx sy fx fy HR1 HR2 HQ1 HQ2 w0 HV
  ·exact rcomm_12 x y pa pb qa qb _ _ ca cb _ _ da db w kx ky rfl rfl rfl rfl sx sy fx fy HR1 HR2 HQ1 HQ2 w0 HV
  ·exact rcomm_20 x y pa pb qa qb _ _ ca cb _ _ da db w kx ky rfl rfl rfl rfl sx sy fx fy HR1 HR2 HQ1 HQ2 w0 HV
  ·exact rcomm_21 x y pa pb qa qb _ _ ca cb _ _ da db w kx ky rfl rfl rfl rfl sx sy fx fy HR1 HR2 HQ1 HQ2 w0 HV
  ·exact rcomm_22 x y pa pb qa qb _ _ ca cb _ _ da db w kx ky rfl rfl rfl rfl sx sy fx fy HR1 HR2 HQ1 HQ2 w0 HV
 ·refine rcomm_none x y pa pb qa qb _ _ ca cb _ _ da db w w0 (Zw x) (Zw y) ?_ ?_ HR1 HR2
  ·cases h1 : Zw x with
   | false => exact Or.inl rfl
   | true =>
    cases h2 : Zw y with
    | false => exact Or.inr rfl
    | true => exact absurd ⟨h1, h2⟩ hxy
  ·unfold Zj
   rw [if_neg (by simpa using hxy)]
end Go.Proofs.YtbnfjjjdnbcehaaGreatDoor
