/- What is proved here: contracts that SeqTells stands on. Conditions: as each theorem names them. -/
import Derived.Test.YtbnfjjjdnbcehaaGreatDoorM28CommD10
set_option maxHeartbeats 16000000
namespace Go.Proofs.YtbnfjjjdnbcehaaGreatDoor
open Go.RowKit
set_option maxRecDepth 100000
theorem commute_any (x y : Pr) (vo vn uo un : Value) (w : World) (ho : Zv w vo x.old) (hn : Zv w vn x.new) (go : Zv w uo y.old) (gn : Zv w un y.new) (sx : Zs x) (sy : Zs y) :
  Calls Tryz.prog 56 #[.agg #[.int .i64 x.kind, .string x.path, .string x.dst, .string x.src, .int .i64 x.pos, vo, vn], .agg #[.int .i64 y.kind, .string y.path, .string y.dst, .string y.src, .int .i64 y.pos, uo, un]] w fun e w' => CommPost x y w e w' := by
 have HR1 := Zz (show ∀ w', Fr None' w w' → Calls Tryz.prog 24 #[.agg #[.int .i64 x.kind, .string x.path, .string x.dst, .string x.src, .int .i64 x.pos, vo, vn]] w' (fun e w'' => e = .returned (.bool (Zw x)) ∧ Fr None' w' w'') from fun w' f => qright_any x vo vn w' (ho.kept f) (hn.kept f) sx)
 have HR2 := Zz (show ∀ w', Fr None' w w' → Calls Tryz.prog 24 #[.agg #[.int .i64 y.kind, .string y.path, .string y.dst, .string y.src, .int .i64 y.pos, uo, un]] w' (fun e w'' => e = .returned (.bool (Zw y)) ∧ Fr None' w' w'') from fun w' f => qright_any y uo un w' (go.kept f) (gn.kept f) sy)
 obtain ⟨pa, ca, rfl⟩ := ho.as2
 obtain ⟨pb, cb, rfl⟩ := hn.as2
 obtain ⟨qa, da, rfl⟩ := go.as2
 obtain ⟨qb, db, rfl⟩ := gn.as2
 obtain ⟨no, hno⟩ : ∃ n, x.old.length = n := ⟨_, rfl⟩
 obtain ⟨nn, hnn⟩ : ∃ n, x.new.length = n := ⟨_, rfl⟩
 obtain ⟨mo, hmo⟩ : ∃ n, y.old.length = n := ⟨_, rfl⟩
 obtain ⟨mn, hmn⟩ : ∃ n, y.new.length = n := ⟨_, rfl⟩
 rw [hno] at HR1 ho ⊢
 rw [hnn] at HR1 hn ⊢
 rw [hmo] at HR2 go ⊢
 rw [hmn] at HR2 gn ⊢
 have HRu := Zz (fun (fx : Zw x = true) (fy : Zw y = true) w' => ruleOf10_any x y pa pb qa qb no nn ca cb mo mn da db w' ⟨hno, hnn, sx, fx⟩ ⟨hmo, hmn, sy, fy⟩)
 have HQ1 := Zz (show Zw x = true → Zw y = true → ∀ w', Fr None' w w' → Calls Tryz.prog 24 #[.agg #[.int .i64 (Zx x y).1.kind, .string (Zx x y).1.path, .string (Zx x y).1.dst, .string (Zx x y).1.src, .int .i64 (Zx x y).1.pos, .slice qa mo da, .slice qb mn db]] w' (fun e w'' => e = .returned (.bool (Zw (Zx x y).1)) ∧ Fr None' w' w'') from fun fx fy w' f => qright_any (Zx x y).1 _ _ w' (by rw [(Yj x y).1]; exact go.kept f) (by rw [(Yj x y).2.1]; exact gn.kept f) (rule_small fx fy sx sy).1)
 have HQ2 := Zz (show Zw x = true → Zw y = true → ∀ w', Fr None' w w' → Calls Tryz.prog 24 #[.agg #[.int .i64 (Zx x y).2.1.kind, .string (Zx x y).2.1.path, .string (Zx x y).2.1.dst, .string (Zx x y).2.1.src, .int .i64 (Zx x y).2.1.pos, .slice pa no ca, .slice pb nn cb]] w' (fun e w'' => e = .returned (.bool (Zw (Zx x y).2.1)) ∧ Fr None' w' w'') from fun fx fy w' f => qright_any (Zx x y).2.1 _ _ w' (by rw [(Yj x y).2.2.1]; exact ho.kept f) (by rw [(Yj x y).2.2.2]; exact hn.kept f) (rule_small fx fy sx sy).2)
 have HP1 := Zz (show ∀ w', Fr None' w w' → Calls Tryz.prog 55 #[.agg #[.int .i64 (Zx x y).1.kind, .string (Zx x y).1.path, .string (Zx x y).1.dst, .string (Zx x y).1.src, .int .i64 (Zx x y).1.pos, .slice qa mo da, .slice qb mn db]] w' (fun e w'' => ∃ (po : Option Addr) (co : Nat) (pn : Option Addr) (cn : Nat), e = .returned (.agg #[.int .i64 (Zx x y).1.kind, .string (Zx x y).1.path, .string (Zx x y).1.dst, .string (Zx x y).1.src, .int .i64 (Zx x y).1.pos, .slice po (Zx x y).1.old.length co, .slice pn (Zx x y).1.new.length cn]) ∧ Hid ((Zv w'' (.slice po (Zx x y).1.old.length co) (Zx x y).1.old ∧ Zv w'' (.slice pn (Zx x y).1.new.length cn) (Zx x y).1.new) ∧ (∀ k, (Value.slice po (Zx x y).1.old.length co).ownBlock = some k → w'.heap.size ≤ k) ∧ ∀ k, (Value.slice pn (Zx x y).1.new.length cn).ownBlock = some k → w'.heap.size ≤ k) ∧ Fr None' w' w'') from fun w' f => copied_c (Zx x y).1 _ _ w' (by rw [(Yj x y).1]; exact go.kept f) (by rw [(Yj x y).2.1]; exact gn.kept f) (by rw [(Yj x y).1]; have := sy.old; omega) (by rw [(Yj x y).2.1]; have := sy.new; omega))
 have HP2 := Zz (show ∀ w', Fr None' w w' → Calls Tryz.prog 55 #[.agg #[.int .i64 (Zx x y).2.1.kind, .string (Zx x y).2.1.path, .string (Zx x y).2.1.dst, .string (Zx x y).2.1.src, .int .i64 (Zx x y).2.1.pos, .slice pa no ca, .slice pb nn cb]] w' (fun e w'' => ∃ (po : Option Addr) (co : Nat) (pn : Option Addr) (cn : Nat), e = .returned (.agg #[.int .i64 (Zx x y).2.1.kind, .string (Zx x y).2.1.path, .string (Zx x y).2.1.dst, .string (Zx x y).2.1.src, .int .i64 (Zx x y).2.1.pos, .slice po (Zx x y).2.1.old.length co, .slice pn (Zx x y).2.1.new.length cn]) ∧ Hid ((Zv w'' (.slice po (Zx x y).2.1.old.length co) (Zx x y).2.1.old ∧ Zv w'' (.slice pn (Zx x y).2.1.new.length cn) (Zx x y).2.1.new) ∧ (∀ k, (Value.slice po (Zx x y).2.1.old.length co).ownBlock = some k → w'.heap.size ≤ k) ∧ ∀ k, (Value.slice pn (Zx x y).2.1.new.length cn).ownBlock = some k → w'.heap.size ≤ k) ∧ Fr None' w' w'') from fun w' f => copied_c (Zx x y).2.1 _ _ w' (by rw [(Yj x y).2.2.1]; exact ho.kept f) (by rw [(Yj x y).2.2.2]; exact hn.kept f) (by rw [(Yj x y).2.2.1]; have := sx.old; omega) (by rw [(Yj x y).2.2.2]; have := sx.new; omega))
 have HK1 := Zz (show Zw x = false ∨ Zw y = false → Zj x y = Yz from fun h => by unfold Zj; rw [if_neg (by rcases h with h | h <;> simp [h])])
 have HK2 := Zz (show Zw x = true → Zw y = true → Zj x y = Zu (Zx x y) from fun h k => by unfold Zj; rw [if_pos (by simp [h, k])])
 clear ho hn go gn sx sy hno hnn hmo hmn
 obtain ⟨w1, hw1⟩ : ∃ w1, w.alloc (.cells #[.int .i64 x.kind, .string x.path, .string x.dst, .string x.src, .int .i64 x.pos, .slice pa no ca, .slice pb nn cb] 43) = w1 := ⟨_, rfl⟩
 obtain ⟨w2, hw2⟩ : ∃ w2, w1.alloc (.cells #[.int .i64 y.kind, .string y.path, .string y.dst, .string y.src, .int .i64 y.pos, .slice qa mo da, .slice qb mn db] 43) = w2 := ⟨_, rfl⟩
 obtain ⟨w3, hw3⟩ : ∃ w3, w2.alloc (.cells #[.int .i64 0, .string ⟨#[]⟩, .string ⟨#[]⟩, .string ⟨#[]⟩, .int .i64 0, .slice none 0 0, .slice none 0 0] 43) = w3 := ⟨_, rfl⟩
 obtain ⟨w4, hw4⟩ : ∃ w4, w3.alloc (.cells #[.int .i64 0, .string ⟨#[]⟩, .string ⟨#[]⟩, .string ⟨#[]⟩, .int .i64 0, .slice none 0 0, .slice none 0 0] 43) = w4 := ⟨_, rfl⟩
 have F1 : Fr None' w w1 := hw1 ▸ Fr.alloc None' w _
 have F2 : Fr None' w1 w2 := hw2 ▸ Fr.alloc None' w1 _
 have F3 : Fr None' w2 w3 := hw3 ▸ Fr.alloc None' w2 _
 have F4 : Fr None' w3 w4 := hw4 ▸ Fr.alloc None' w3 _
 have BX : Box w4 w.heap.size (.int .i64 x.kind) (.string x.path) (.string x.dst) (.string x.src) (.int .i64 x.pos) (.slice pa no ca) (.slice pb nn cb) := (hw1 ▸ Box.new w _ _ _ _ _ _ _ : Box w1 _ _ _ _ _ _ _ _).kept ((F2.then7 F3).then7 F4)
 have BY : Box w4 w1.heap.size (.int .i64 y.kind) (.string y.path) (.string y.dst) (.string y.src) (.int .i64 y.pos) (.slice qa mo da) (.slice qb mn db) := (hw2 ▸ Box.new w1 _ _ _ _ _ _ _ : Box w2 _ _ _ _ _ _ _ _).kept (F3.then7 F4)
 have BC : Box w4 w2.heap.size (.int .i64 0) (.string ⟨#[]⟩) (.string ⟨#[]⟩) (.string ⟨#[]⟩) (.int .i64 0) (.slice none 0 0) (.slice none 0 0) := (hw3 ▸ Box.new w2 _ _ _ _ _ _ _ : Box w3 _ _ _ _ _ _ _ _).kept F4
 have BD : Box w4 w3.heap.size (.int .i64 0) (.string ⟨#[]⟩) (.string ⟨#[]⟩) (.string ⟨#[]⟩) (.int .i64 0) (.slice none 0 0) (.slice none 0 0) := hw4 ▸ Box.new w3 _ _ _ _ _ _ _
 have s1 : w1.heap.size = w.heap.size + 1 := by rw [← hw1]; simp
 have s2 : w2.heap.size = w1.heap.size + 1 := by rw [← hw2]; simp
 have s3 : w3.heap.size = w2.heap.size + 1 := by rw [← hw3]; simp
 have HF : Hid (Fr None' w w4) := ((F1.then7 F2).then7 F3).then7 F4
 have HN : Hid (w.heap.size < w1.heap.size ∧ w1.heap.size < w2.heap.size ∧ w2.heap.size < w3.heap.size) := ⟨by omega, by omega, by omega⟩
 have n1 : ¬ w.heap.size = w1.heap.size := by omega
 have n2 : ¬ w.heap.size = w2.heap.size := by omega
 have n3 : ¬ w.heap.size = w3.heap.size := by omega
 have n4 : ¬ w1.heap.size = w2.heap.size := by omega
 have n5 : ¬ w1.heap.size = w3.heap.size := by omega
 have n6 : ¬ w2.heap.size = w3.heap.size := by omega
 have HBs : Hid (∀ w', Fr None' w4 w' → Box w' w.heap.size (.int .i64 x.kind) (.string x.path) (.string x.dst) (.string x.src) (.int .i64 x.pos) (.slice pa no ca) (.slice pb nn cb) ∧ Box w' w1.heap.size (.int .i64 y.kind) (.string y.path) (.string y.dst) (.string y.src) (.int .i64 y.pos) (.slice qa mo da) (.slice qb mn db) ∧ Box w' w2.heap.size (.int .i64 0) (.string ⟨#[]⟩) (.string ⟨#[]⟩) (.string ⟨#[]⟩) (.int .i64 0) (.slice none 0 0) (.slice none 0 0) ∧ Box w' w3.heap.size (.int .i64 0) (.string ⟨#[]⟩) (.string ⟨#[]⟩) (.string ⟨#[]⟩) (.int .i64 0) (.slice none 0 0) (.slice none 0 0)) := fun w' f => ⟨BX.kept f, BY.kept f, BC.kept f, BD.kept f⟩
 obtain ⟨x0, x1, x2, x3, x4, x5, x6⟩ := BX.cells
 clear F1 F2 F3 F4 BX BY BC BD s1 s2 s3
 clear n1 n2 n3 n4 n5
 have q1 := HR1.out w4 HF.out
 obtain ⟨R1, hR1⟩ : ∃ R, Zw x = R := ⟨_, rfl⟩
 obtain ⟨R2, hR2⟩ : ∃ R, Zw y = R := ⟨_, rfl⟩
 rw [hR1] at q1
 rw [hR2] at HR2
 have HE1 := Zz hR1
 have HE2 := Zz hR2
 clear hR1 hR2 HR1
 go_enter Tryz.func56, Tryz.ntmps56
 go_wp2_with fail
 with_reducible refine q1.mono ?_
 rintro e w5 ⟨rfl, f5⟩
 have HB5 := Zz (HBs.out w5 f5)
 have HF5 := Zz f5
 have HW5 := Zz (HF.out.then7 f5)
 clear q1 f5 x0 x1 x2 x3 x4 x5 x6
 cases R1 with
 | false =>
  have HC := Zz (HK1.out (Or.inl HE1.out))
  have HBf := HB5
  have HWf := HW5
  clear HR2 HRu HQ1 HQ2 HP1 HP2 HK1 HK2
  have HW := Zz (show Fr None' w w5 from HWf.out)
  obtain ⟨c0, c1, c2, c3, c4, c5, c6⟩ := HBf.out.2.2.1.cells
  obtain ⟨d0, d1, d2, d3, d4, d5, d6⟩ := HBf.out.2.2.2.cells
  have cz := HBf.out.2.2.1.frozen
  have dz := HBf.out.2.2.2.frozen
  go_wp2_with fail
  have hfin := Zt HW.out HBf.out.2.2.1 HBf.out.2.2.2 n6 (by have := HN.out; omega) (by have := HN.out; omega) (.int .i64 0) (.string ⟨#[]⟩) (.string ⟨#[]⟩) (.string ⟨#[]⟩) (.int .i64 0) (.slice none 0 0) (.slice none 0 0) (.int .i64 0) (.string ⟨#[]⟩) (.string ⟨#[]⟩) (.string ⟨#[]⟩) (.int .i64 0) (.slice none 0 0) (.slice none 0 0)
  exact Zr (u := .bool false) rfl rfl rfl rfl rfl hfin.1 hfin.2.1 (post_none HC.out hfin.2.2.1)
 | true =>
  have q2 := HR2.out w5 HW5.out
  obtain ⟨y0, y1, y2, y3, y4, y5, y6⟩ := HB5.out.2.1.cells
  go_wp2_with fail
  with_reducible refine q2.mono ?_
  rintro e w6 ⟨rfl, f6⟩
  have HB6 := Zz (HBs.out w6 (HF5.out.then7 f6))
  have HW6 := Zz (HW5.out.then7 f6)
  clear q2 f6 y0 y1 y2 y3 y4 y5 y6 HB5 HF5 HW5 HR2
  cases R2 with
  | false =>
   have HC := Zz (HK1.out (Or.inr HE2.out))
   have HBf := HB6
   have HWf := HW6
   clear HRu HQ1 HQ2 HP1 HP2 HK1 HK2
   have HW := Zz (show Fr None' w w6 from HWf.out)
   obtain ⟨c0, c1, c2, c3, c4, c5, c6⟩ := HBf.out.2.2.1.cells
   obtain ⟨d0, d1, d2, d3, d4, d5, d6⟩ := HBf.out.2.2.2.cells
   have cz := HBf.out.2.2.1.frozen
   have dz := HBf.out.2.2.2.frozen
   go_wp2_with fail
   have hfin := Zt HW.out HBf.out.2.2.1 HBf.out.2.2.2 n6 (by have := HN.out; omega) (by have := HN.out; omega) (.int .i64 0) (.string ⟨#[]⟩) (.string ⟨#[]⟩) (.string ⟨#[]⟩) (.int .i64 0) (.slice none 0 0) (.slice none 0 0) (.int .i64 0) (.string ⟨#[]⟩) (.string ⟨#[]⟩) (.string ⟨#[]⟩) (.int .i64 0) (.slice none 0 0) (.slice none 0 0)
   exact Zr (u := .bool false) rfl rfl rfl rfl rfl hfin.1 hfin.2.1 (post_none HC.out hfin.2.2.1)
  | true =>
   replace HRu := Zz (HRu.out HE1.out HE2.out)
   replace HQ1 := Zz (HQ1.out HE1.out HE2.out)
   replace HQ2 := Zz (HQ2.out HE1.out HE2.out)
   replace HK2 := Zz (HK2.out HE1.out HE2.out)
   clear HK1
   have HRw := Zz (show ∀ w', Calls Tryz.prog 76 #[.agg #[.int .i64 x.kind, .string x.path, .string x.dst, .string x.src, .int .i64 x.pos, .slice pa no ca, .slice pb nn cb], .agg #[.int .i64 y.kind, .string y.path, .string y.dst, .string y.src, .int .i64 y.pos, .slice qa mo da, .slice qb mn db]] w' (fun e w'' => ∃ fn cap, e = .returned (.func (.func fn) #[] cap) ∧ (∀ args w, (callFunc fn args).run Tryz.prog w = .ok (.enter fn args) w) ∧ Hid (∀ w3, Fr None' w'' w3 → Calls Tryz.prog fn (#[.agg #[.int .i64 x.kind, .string x.path, .string x.dst, .string x.src, .int .i64 x.pos, .slice pa no ca, .slice pb nn cb], .agg #[.int .i64 y.kind, .string y.path, .string y.dst, .string y.src, .int .i64 y.pos, .slice qa mo da, .slice qb mn db]] ++ cap) w3 (fun e w4 => e = .returned (.tuple #[.agg #[.int .i64 (Zx x y).1.kind, .string (Zx x y).1.path, .string (Zx x y).1.dst, .string (Zx x y).1.src, .int .i64 (Zx x y).1.pos, .slice qa mo da, .slice qb mn db], .agg #[.int .i64 (Zx x y).2.1.kind, .string (Zx x y).2.1.path, .string (Zx x y).2.1.dst, .string (Zx x y).2.1.src, .int .i64 (Zx x y).2.1.pos, .slice pa no ca, .slice pb nn cb], .bool (Zx x y).2.2]) ∧ Fr None' w3 w4)) ∧ Fr None' w' w'') from fun w' => HRu.out w')
   clear HRu
   obtain ⟨r, hr⟩ : ∃ r, Zx x y = r := ⟨_, rfl⟩
   rw [hr] at HRw HQ1 HQ2 HP1 HP2 HK2
   obtain ⟨⟨k1, p1, t1, f1, a1, o1, m1⟩, ⟨k2, p2, t2, f2, a2, o2, m2⟩, rb⟩ := r
   simp only at HRw HQ1 HQ2 HP1 HP2 HK2
   clear hr HE1 HE2
   have HS := Zz (show ∀ w', Fr None' w6 w' → Fr None' w6 w' ∧ w'.cell? ⟨w.heap.size, 0, none⟩ = some (.int .i64 x.kind) ∧ w'.cell? ⟨w.heap.size, 1, none⟩ = some (.string x.path) ∧ w'.cell? ⟨w.heap.size, 2, none⟩ = some (.string x.dst) ∧ w'.cell? ⟨w.heap.size, 3, none⟩ = some (.string x.src) ∧ w'.cell? ⟨w.heap.size, 4, none⟩ = some (.int .i64 x.pos) ∧ w'.cell? ⟨w.heap.size, 5, none⟩ = some (.slice pa no ca) ∧ w'.cell? ⟨w.heap.size, 6, none⟩ = some (.slice pb nn cb) ∧ w'.cell? ⟨w1.heap.size, 0, none⟩ = some (.int .i64 y.kind) ∧ w'.cell? ⟨w1.heap.size, 1, none⟩ = some (.string y.path) ∧ w'.cell? ⟨w1.heap.size, 2, none⟩ = some (.string y.dst) ∧ w'.cell? ⟨w1.heap.size, 3, none⟩ = some (.string y.src) ∧ w'.cell? ⟨w1.heap.size, 4, none⟩ = some (.int .i64 y.pos) ∧ w'.cell? ⟨w1.heap.size, 5, none⟩ = some (.slice qa mo da) ∧ w'.cell? ⟨w1.heap.size, 6, none⟩ = some (.slice qb mn db) from fun w' f => by
    obtain ⟨x0, x1, x2, x3, x4, x5, x6⟩ := (HB6.out.1.kept f).cells
    obtain ⟨y0, y1, y2, y3, y4, y5, y6⟩ := (HB6.out.2.1.kept f).cells
    exact ⟨f, x0, x1, x2, x3, x4, x5, x6, y0, y1, y2, y3, y4, y5, y6⟩)
   have fr6 := Fr.refl None' w6
   go_wp2_with fail
   refine region_told (fun a' w' => ∃ b7 b8 u10 u11 u12 u13 u14 u15 u16 u17 u18 u19 u20 u21 u22 u23 u24 u25 u26 u27 u28 u29 u30 u31 u32 u33 u34 u35 u36 u37 u38 u39 u40 u41 u42 u43 u44 u45 u46 u47, a' = { tmps := #[.agg #[.int .i64 x.kind, .string x.path, .string x.dst, .string x.src, .int .i64 x.pos, .slice pa no ca, .slice pb nn cb], .agg #[.int .i64 y.kind, .string y.path, .string y.dst, .string y.src, .int .i64 y.pos, .slice qa mo da, .slice qb mn db], .pointer (some ⟨w.heap.size, 0, none⟩), .pointer (some ⟨w1.heap.size, 0, none⟩), .pointer (some ⟨w2.heap.size, 0, none⟩), .pointer (some ⟨w3.heap.size, 0, none⟩), .bool false, .pointer (some ⟨b7, 0, none⟩), .pointer (some ⟨b8, 0, none⟩), .bool rb, u10, u11, u12, u13, u14, u15, u16, u17, u18, u19, u20, u21, u22, u23, u24, u25, u26, u27, u28, u29, u30, u31, u32, u33, u34, u35, u36, u37, u38, u39, u40, u41, u42, u43, u44, u45, u46, u47], defers := [] } ∧ (Box w' b7 (.int .i64 k1) (.string p1) (.string t1) (.string f1) (.int .i64 a1) (.slice qa mo da) (.slice qb mn db) ∧ Box w' b8 (.int .i64 k2) (.string p2) (.string t2) (.string f2) (.int .i64 a2) (.slice pa no ca) (.slice pb nn cb) ∧ Fr None' w6 w' ∧ w6.heap.size ≤ b7 ∧ w6.heap.size ≤ b8)) ?reg ?rest
   case reg =>
    go_region_held3 (fun w' => Fr None' w6 w' ∧ w'.cell? ⟨w.heap.size, 0, none⟩ = some (.int .i64 x.kind) ∧ w'.cell? ⟨w.heap.size, 1, none⟩ = some (.string x.path) ∧ w'.cell? ⟨w.heap.size, 2, none⟩ = some (.string x.dst) ∧ w'.cell? ⟨w.heap.size, 3, none⟩ = some (.string x.src) ∧ w'.cell? ⟨w.heap.size, 4, none⟩ = some (.int .i64 x.pos) ∧ w'.cell? ⟨w.heap.size, 5, none⟩ = some (.slice pa no ca) ∧ w'.cell? ⟨w.heap.size, 6, none⟩ = some (.slice pb nn cb) ∧ w'.cell? ⟨w1.heap.size, 0, none⟩ = some (.int .i64 y.kind) ∧ w'.cell? ⟨w1.heap.size, 1, none⟩ = some (.string y.path) ∧ w'.cell? ⟨w1.heap.size, 2, none⟩ = some (.string y.dst) ∧ w'.cell? ⟨w1.heap.size, 3, none⟩ = some (.string y.src) ∧ w'.cell? ⟨w1.heap.size, 4, none⟩ = some (.int .i64 y.pos) ∧ w'.cell? ⟨w1.heap.size, 5, none⟩ = some (.slice qa mo da) ∧ w'.cell? ⟨w1.heap.size, 6, none⟩ = some (.slice qb mn db))
     (exact HS.out _ (by (repeat (first | with_reducible assumption | with_reducible refine alloc10 ?_ _ | with_reducible refine Ye ?_ | (with_reducible refine set10 ?_ ?_ _ _ _ _ _ _ _; rotate_left; focus (first | exact Nat.le_refl _ | (simp; done) | (have h1 := Fr.size g7; simp; omega) | (have h1 := Fr.size g8; simp; omega)))))))
     (first
      | (go_at_call 76; with_reducible (refine (HRw.out _).mono ?_); rintro e w7 ⟨fn, cap, rfl, hcf, HFn, f7⟩; have g7 := Fr.then7 (show Fr None' w6 _ by (repeat (first | with_reducible assumption | with_reducible refine alloc10 ?_ _ | with_reducible refine Ye ?_ | (with_reducible refine set10 ?_ ?_ _ _ _ _ _ _ _; rotate_left; focus (first | exact Nat.le_refl _ | (simp; done) | (have h1 := Fr.size g7; simp; omega) | (have h1 := Fr.size g8; simp; omega)))))) f7; have fr7 := Fr.refl None' w7; (try (refine (fun (na : Box w7 w6.heap.size (.int .i64 0) (.string ⟨#[]⟩) (.string ⟨#[]⟩) (.string ⟨#[]⟩) (.int .i64 0) (.slice none 0 0) (.slice none 0 0)) => ?_) (Box.kept ?_ f7); rotate_left; (focus ((repeat (first | with_reducible assumption | (with_reducible refine Box.new10 ?_ _ _ _ _ _ _ _; focus (simp; done)) | with_reducible refine Box.alloc10 ?_ _ | with_reducible refine Box.drew ?_)); done)); obtain ⟨na0, na1, na2, na3, na4, na5, na6⟩ := Box.cells na; have naz := Box.frozen na; have naA := fun o => Box.cells (Box.alloc10 na o); have naA0 := fun o => (naA o).1; have naA1 := fun o => (naA o).2.1; have naA2 := fun o => (naA o).2.2.1; have naA3 := fun o => (naA o).2.2.2.1; have naA4 := fun o => (naA o).2.2.2.2.1; have naA5 := fun o => (naA o).2.2.2.2.2.1; have naA6 := fun o => (naA o).2.2.2.2.2.2; have naAz := fun o => Box.frozen (Box.alloc10 na o); clear naA; have nav : ¬ w6.heap.size = w7.heap.size := Nat.ne_of_lt (Box.lt na); have nau : ¬ w7.heap.size = w6.heap.size := Nat.ne_of_gt (Box.lt na))); (try (refine (fun (nb : Box w7 (w6.heap.size + 1) (.int .i64 0) (.string ⟨#[]⟩) (.string ⟨#[]⟩) (.string ⟨#[]⟩) (.int .i64 0) (.slice none 0 0) (.slice none 0 0)) => ?_) (Box.kept ?_ f7); rotate_left; (focus ((repeat (first | with_reducible assumption | (with_reducible refine Box.new10 ?_ _ _ _ _ _ _ _; focus (simp; done)) | with_reducible refine Box.alloc10 ?_ _ | with_reducible refine Box.drew ?_)); done)); obtain ⟨nb0, nb1, nb2, nb3, nb4, nb5, nb6⟩ := Box.cells nb; have nbz := Box.frozen nb; have nbA := fun o => Box.cells (Box.alloc10 nb o); have nbA0 := fun o => (nbA o).1; have nbA1 := fun o => (nbA o).2.1; have nbA2 := fun o => (nbA o).2.2.1; have nbA3 := fun o => (nbA o).2.2.2.1; have nbA4 := fun o => (nbA o).2.2.2.2.1; have nbA5 := fun o => (nbA o).2.2.2.2.2.1; have nbA6 := fun o => (nbA o).2.2.2.2.2.2; have nbAz := fun o => Box.frozen (Box.alloc10 nb o); clear nbA; have nbv : ¬ (w6.heap.size + 1) = w7.heap.size := Nat.ne_of_lt (Box.lt nb); have nbu : ¬ w7.heap.size = (w6.heap.size + 1) := Nat.ne_of_gt (Box.lt nb))))
      | (with_reducible (refine ((Hid.out HFn) _ (by (repeat (first | with_reducible assumption | with_reducible refine alloc10 ?_ _ | with_reducible refine Ye ?_ | (with_reducible refine set10 ?_ ?_ _ _ _ _ _ _ _; rotate_left; focus (first | exact Nat.le_refl _ | (simp; done) | (have h1 := Fr.size g7; simp; omega) | (have h1 := Fr.size g8; simp; omega))))))).mono ?_); rintro e w8 ⟨rfl, f8⟩; have g8 := Fr.then7 (show Fr None' w6 _ by (repeat (first | with_reducible assumption | with_reducible refine alloc10 ?_ _ | with_reducible refine Ye ?_ | (with_reducible refine set10 ?_ ?_ _ _ _ _ _ _ _; rotate_left; focus (first | exact Nat.le_refl _ | (simp; done) | (have h1 := Fr.size g7; simp; omega) | (have h1 := Fr.size g8; simp; omega)))))) f8; (try (refine (fun (nc : Box w8 w6.heap.size (.int .i64 0) (.string ⟨#[]⟩) (.string ⟨#[]⟩) (.string ⟨#[]⟩) (.int .i64 0) (.slice none 0 0) (.slice none 0 0)) => ?_) (Box.kept ?_ f8); rotate_left; (focus ((repeat (first | with_reducible assumption | (with_reducible refine Box.new10 ?_ _ _ _ _ _ _ _; focus (simp; done)) | with_reducible refine Box.alloc10 ?_ _ | with_reducible refine Box.drew ?_)); done)); obtain ⟨nc0, nc1, nc2, nc3, nc4, nc5, nc6⟩ := Box.cells nc; have ncz := Box.frozen nc; have ncA := fun o => Box.cells (Box.alloc10 nc o); have ncA0 := fun o => (ncA o).1; have ncA1 := fun o => (ncA o).2.1; have ncA2 := fun o => (ncA o).2.2.1; have ncA3 := fun o => (ncA o).2.2.2.1; have ncA4 := fun o => (ncA o).2.2.2.2.1; have ncA5 := fun o => (ncA o).2.2.2.2.2.1; have ncA6 := fun o => (ncA o).2.2.2.2.2.2; have ncAz := fun o => Box.frozen (Box.alloc10 nc o); clear ncA; have ncv : ¬ w6.heap.size = w8.heap.size := Nat.ne_of_lt (Box.lt nc); have ncu : ¬ w8.heap.size = w6.heap.size := Nat.ne_of_gt (Box.lt nc))); (try (refine (fun (nd : Box w8 (w6.heap.size + 1) (.int .i64 0) (.string ⟨#[]⟩) (.string ⟨#[]⟩) (.string ⟨#[]⟩) (.int .i64 0) (.slice none 0 0) (.slice none 0 0)) => ?_) (Box.kept ?_ f8); rotate_left; (focus ((repeat (first | with_reducible assumption | (with_reducible refine Box.new10 ?_ _ _ _ _ _ _ _; focus (simp; done)) | with_reducible refine Box.alloc10 ?_ _ | with_reducible refine Box.drew ?_)); done)); obtain ⟨nd0, nd1, nd2, nd3, nd4, nd5, nd6⟩ := Box.cells nd; have ndz := Box.frozen nd; have ndA := fun o => Box.cells (Box.alloc10 nd o); have ndA0 := fun o => (ndA o).1; have ndA1 := fun o => (ndA o).2.1; have ndA2 := fun o => (ndA o).2.2.1; have ndA3 := fun o => (ndA o).2.2.2.1; have ndA4 := fun o => (ndA o).2.2.2.2.1; have ndA5 := fun o => (ndA o).2.2.2.2.2.1; have ndA6 := fun o => (ndA o).2.2.2.2.2.2; have ndAz := fun o => Box.frozen (Box.alloc10 nd o); clear ndA; have ndv : ¬ (w6.heap.size + 1) = w8.heap.size := Nat.ne_of_lt (Box.lt nd); have ndu : ¬ w8.heap.size = (w6.heap.size + 1) := Nat.ne_of_gt (Box.lt nd))); (try (refine (fun (ne : Box w8 w7.heap.size (.int .i64 0) (.string ⟨#[]⟩) (.string ⟨#[]⟩) (.string ⟨#[]⟩) (.int .i64 0) (.slice none 0 0) (.slice none 0 0)) => ?_) (Box.kept ?_ f8); rotate_left; (focus ((repeat (first | with_reducible assumption | (with_reducible refine Box.new10 ?_ _ _ _ _ _ _ _; focus (simp; done)) | with_reducible refine Box.alloc10 ?_ _ | with_reducible refine Box.drew ?_)); done)); obtain ⟨ne0, ne1, ne2, ne3, ne4, ne5, ne6⟩ := Box.cells ne; have nez := Box.frozen ne; have neA := fun o => Box.cells (Box.alloc10 ne o); have neA0 := fun o => (neA o).1; have neA1 := fun o => (neA o).2.1; have neA2 := fun o => (neA o).2.2.1; have neA3 := fun o => (neA o).2.2.2.1; have neA4 := fun o => (neA o).2.2.2.2.1; have neA5 := fun o => (neA o).2.2.2.2.2.1; have neA6 := fun o => (neA o).2.2.2.2.2.2; have neAz := fun o => Box.frozen (Box.alloc10 ne o); clear neA; have nev : ¬ w7.heap.size = w8.heap.size := Nat.ne_of_lt (Box.lt ne); have neu : ¬ w8.heap.size = w7.heap.size := Nat.ne_of_gt (Box.lt ne))); (try (refine (fun (nf : Box w8 (w7.heap.size + 1) (.int .i64 0) (.string ⟨#[]⟩) (.string ⟨#[]⟩) (.string ⟨#[]⟩) (.int .i64 0) (.slice none 0 0) (.slice none 0 0)) => ?_) (Box.kept ?_ f8); rotate_left; (focus ((repeat (first | with_reducible assumption | (with_reducible refine Box.new10 ?_ _ _ _ _ _ _ _; focus (simp; done)) | with_reducible refine Box.alloc10 ?_ _ | with_reducible refine Box.drew ?_)); done)); obtain ⟨nf0, nf1, nf2, nf3, nf4, nf5, nf6⟩ := Box.cells nf; have nfz := Box.frozen nf; have nfA := fun o => Box.cells (Box.alloc10 nf o); have nfA0 := fun o => (nfA o).1; have nfA1 := fun o => (nfA o).2.1; have nfA2 := fun o => (nfA o).2.2.1; have nfA3 := fun o => (nfA o).2.2.2.1; have nfA4 := fun o => (nfA o).2.2.2.2.1; have nfA5 := fun o => (nfA o).2.2.2.2.2.1; have nfA6 := fun o => (nfA o).2.2.2.2.2.2; have nfAz := fun o => Box.frozen (Box.alloc10 nf o); clear nfA; have nfv : ¬ (w7.heap.size + 1) = w8.heap.size := Nat.ne_of_lt (Box.lt nf); have nfu : ¬ w8.heap.size = (w7.heap.size + 1) := Nat.ne_of_gt (Box.lt nf)))))
    all_goals
     refine ⟨_, _, _, _, _, _, _, _, _, _, _, _, _, _, _, _, _, _, _, _, _, _, _, _, _, _, _, _, _, _, _, _, _, _, _, _, _, _, _, _, rfl, ?_⟩
     refine ⟨?_, ?_, ?_, ?_, ?_⟩
     ·(repeat (first | with_reducible assumption | (with_reducible (refine Box.new10 ?_ _ _ _ _ _ _ _); (focus (simp; done))) | with_reducible refine Box.alloc10 ?_ _ | with_reducible refine all10 ?_ _ _ _ _ _ _ _ | (with_reducible (refine far10 ?_ ?_ _ _ _ _ _ _ _); rotate_left; (focus (first | assumption | omega | (simp; done))))))
     ·(repeat (first | with_reducible assumption | (with_reducible (refine Box.new10 ?_ _ _ _ _ _ _ _); (focus (simp; done))) | with_reducible refine Box.alloc10 ?_ _ | with_reducible refine all10 ?_ _ _ _ _ _ _ _ | (with_reducible (refine far10 ?_ ?_ _ _ _ _ _ _ _); rotate_left; (focus (first | assumption | omega | (simp; done))))))
     ·(repeat (first | with_reducible assumption | with_reducible refine alloc10 ?_ _ | with_reducible refine Ye ?_ | (with_reducible refine set10 ?_ ?_ _ _ _ _ _ _ _; rotate_left; focus (first | exact Nat.le_refl _ | (simp; done) | (have h1 := Fr.size g7; simp; omega) | (have h1 := Fr.size g8; simp; omega)))))
     ·(first | exact Nat.le_refl _ | omega | (have h1 := Fr.size g7; omega) | (have h1 := Fr.size g8; omega))
     ·(first | exact Nat.le_refl _ | omega | (have h1 := Fr.size g7; omega) | (have h1 := Fr.size g8; omega))
   case rest =>
    rintro a' w9 ⟨b7, b8, u10, u11, u12, u13, u14, u15, u16, u17, u18, u19, u20, u21, u22, u23, u24, u25, u26, u27, u28, u29, u30, u31, u32, u33, u34, u35, u36, u37, u38, u39, u40, u41, u42, u43, u44, u45, u46, u47, rfl, B7, B8, F9, l7, l8⟩
    have HW := Zz (HW6.out.then7 F9)
    have HB9 := Zz (show (Box w9 b7 (.int .i64 k1) (.string p1) (.string t1) (.string f1) (.int .i64 a1) (.slice qa mo da) (.slice qb mn db) ∧ Box w9 b8 (.int .i64 k2) (.string p2) (.string t2) (.string f2) (.int .i64 a2) (.slice pa no ca) (.slice pb nn cb)) ∧ Box w9 w2.heap.size (.int .i64 0) (.string ⟨#[]⟩) (.string ⟨#[]⟩) (.string ⟨#[]⟩) (.int .i64 0) (.slice none 0 0) (.slice none 0 0) ∧ Box w9 w3.heap.size (.int .i64 0) (.string ⟨#[]⟩) (.string ⟨#[]⟩) (.string ⟨#[]⟩) (.int .i64 0) (.slice none 0 0) (.slice none 0 0) from ⟨⟨B7, B8⟩, HB6.out.2.2.1.kept F9, HB6.out.2.2.2.kept F9⟩)
    have HL := Zz (show w3.heap.size < b7 ∧ w3.heap.size < b8 from by have := HB6.out.2.2.2.lt; omega)
    clear B7 B8 F9 l7 l8 HS fr6 HRw HB6 HW6
    cases rb with
    | false =>
     have HC := Zz (HK2.out.trans (show Zu _ = Yz from by unfold Zu; rw [if_neg (by simp)]))
     have HBf := Zz (show (True ∧ True ∧ Box w9 w2.heap.size (.int .i64 0) (.string ⟨#[]⟩) (.string ⟨#[]⟩) (.string ⟨#[]⟩) (.int .i64 0) (.slice none 0 0) (.slice none 0 0) ∧ Box w9 w3.heap.size (.int .i64 0) (.string ⟨#[]⟩) (.string ⟨#[]⟩) (.string ⟨#[]⟩) (.int .i64 0) (.slice none 0 0) (.slice none 0 0)) from ⟨trivial, trivial, HB9.out.2⟩)
     have HWf := HW
     clear HW HQ1 HQ2 HP1 HP2 HK2
     have HW := Zz (show Fr None' w w9 from HWf.out)
     obtain ⟨c0, c1, c2, c3, c4, c5, c6⟩ := HBf.out.2.2.1.cells
     obtain ⟨d0, d1, d2, d3, d4, d5, d6⟩ := HBf.out.2.2.2.cells
     have cz := HBf.out.2.2.1.frozen
     have dz := HBf.out.2.2.2.frozen
     go_wp2_with fail
     have hfin := Zt HW.out HBf.out.2.2.1 HBf.out.2.2.2 n6 (by have := HN.out; omega) (by have := HN.out; omega) (.int .i64 0) (.string ⟨#[]⟩) (.string ⟨#[]⟩) (.string ⟨#[]⟩) (.int .i64 0) (.slice none 0 0) (.slice none 0 0) (.int .i64 0) (.string ⟨#[]⟩) (.string ⟨#[]⟩) (.string ⟨#[]⟩) (.int .i64 0) (.slice none 0 0) (.slice none 0 0)
     exact Zr (u := .bool false) rfl rfl rfl rfl rfl hfin.1 hfin.2.1 (post_none HC.out hfin.2.2.1)
    | true =>
     have q7 := HQ1.out w9 HW.out
     obtain ⟨e0, e1, e2, e3, e4, e5, e6⟩ := HB9.out.1.1.cells
     obtain ⟨R7, hR7⟩ : ∃ R, Zw ⟨k1, p1, t1, f1, a1, o1, m1⟩ = R := ⟨_, rfl⟩
     obtain ⟨R8, hR8⟩ : ∃ R, Zw ⟨k2, p2, t2, f2, a2, o2, m2⟩ = R := ⟨_, rfl⟩
     rw [hR7] at q7
     rw [hR8] at HQ2
     have HE7 := Zz hR7
     have HE8 := Zz hR8
     clear hR7 hR8 HQ1
     go_wp2_with fail
     with_reducible refine q7.mono ?_
     rintro e w10 ⟨rfl, f10⟩
     have HW10 := Zz (HW.out.then7 f10)
     have HB10 := Zz (show (Box w10 b7 (.int .i64 k1) (.string p1) (.string t1) (.string f1) (.int .i64 a1) (.slice qa mo da) (.slice qb mn db) ∧ Box w10 b8 (.int .i64 k2) (.string p2) (.string t2) (.string f2) (.int .i64 a2) (.slice pa no ca) (.slice pb nn cb)) ∧ Box w10 w2.heap.size (.int .i64 0) (.string ⟨#[]⟩) (.string ⟨#[]⟩) (.string ⟨#[]⟩) (.int .i64 0) (.slice none 0 0) (.slice none 0 0) ∧ Box w10 w3.heap.size (.int .i64 0) (.string ⟨#[]⟩) (.string ⟨#[]⟩) (.string ⟨#[]⟩) (.int .i64 0) (.slice none 0 0) (.slice none 0 0) from ⟨⟨HB9.out.1.1.kept f10, HB9.out.1.2.kept f10⟩, HB9.out.2.1.kept f10, HB9.out.2.2.kept f10⟩)
     clear q7 f10 e0 e1 e2 e3 e4 e5 e6 HB9 HW
     cases R7 with
     | false =>
      have HC := Zz (HK2.out.trans (show Zu _ = Yz from by unfold Zu; rw [if_neg (by simp [HE7.out])]))
      have HBf := Zz (show (True ∧ True ∧ Box w10 w2.heap.size (.int .i64 0) (.string ⟨#[]⟩) (.string ⟨#[]⟩) (.string ⟨#[]⟩) (.int .i64 0) (.slice none 0 0) (.slice none 0 0) ∧ Box w10 w3.heap.size (.int .i64 0) (.string ⟨#[]⟩) (.string ⟨#[]⟩) (.string ⟨#[]⟩) (.int .i64 0) (.slice none 0 0) (.slice none 0 0)) from ⟨trivial, trivial, HB10.out.2⟩)
      have HWf := HW10
      clear HQ2 HP1 HP2 HK2
      have HW := Zz (show Fr None' w w10 from HWf.out)
      obtain ⟨c0, c1, c2, c3, c4, c5, c6⟩ := HBf.out.2.2.1.cells
      obtain ⟨d0, d1, d2, d3, d4, d5, d6⟩ := HBf.out.2.2.2.cells
      have cz := HBf.out.2.2.1.frozen
      have dz := HBf.out.2.2.2.frozen
      go_wp2_with fail
      have hfin := Zt HW.out HBf.out.2.2.1 HBf.out.2.2.2 n6 (by have := HN.out; omega) (by have := HN.out; omega) (.int .i64 0) (.string ⟨#[]⟩) (.string ⟨#[]⟩) (.string ⟨#[]⟩) (.int .i64 0) (.slice none 0 0) (.slice none 0 0) (.int .i64 0) (.string ⟨#[]⟩) (.string ⟨#[]⟩) (.string ⟨#[]⟩) (.int .i64 0) (.slice none 0 0) (.slice none 0 0)
      exact Zr (u := .bool false) rfl rfl rfl rfl rfl hfin.1 hfin.2.1 (post_none HC.out hfin.2.2.1)
     | true =>
      have q8 := HQ2.out w10 HW10.out
      obtain ⟨e0, e1, e2, e3, e4, e5, e6⟩ := HB10.out.1.2.cells
      clear HQ2
      go_wp2_with fail
      with_reducible refine q8.mono ?_
      rintro e w11 ⟨rfl, f11⟩
      have HW11 := Zz (HW10.out.then7 f11)
      have HB11 := Zz (show (Box w11 b7 (.int .i64 k1) (.string p1) (.string t1) (.string f1) (.int .i64 a1) (.slice qa mo da) (.slice qb mn db) ∧ Box w11 b8 (.int .i64 k2) (.string p2) (.string t2) (.string f2) (.int .i64 a2) (.slice pa no ca) (.slice pb nn cb)) ∧ Box w11 w2.heap.size (.int .i64 0) (.string ⟨#[]⟩) (.string ⟨#[]⟩) (.string ⟨#[]⟩) (.int .i64 0) (.slice none 0 0) (.slice none 0 0) ∧ Box w11 w3.heap.size (.int .i64 0) (.string ⟨#[]⟩) (.string ⟨#[]⟩) (.string ⟨#[]⟩) (.int .i64 0) (.slice none 0 0) (.slice none 0 0) from ⟨⟨HB10.out.1.1.kept f11, HB10.out.1.2.kept f11⟩, HB10.out.2.1.kept f11, HB10.out.2.2.kept f11⟩)
      clear q8 f11 e0 e1 e2 e3 e4 e5 e6 HB10 HW10
      cases R8 with
      | false =>
       have HC := Zz (HK2.out.trans (show Zu _ = Yz from by unfold Zu; rw [if_neg (by simp [HE8.out])]))
       have HBf := Zz (show (True ∧ True ∧ Box w11 w2.heap.size (.int .i64 0) (.string ⟨#[]⟩) (.string ⟨#[]⟩) (.string ⟨#[]⟩) (.int .i64 0) (.slice none 0 0) (.slice none 0 0) ∧ Box w11 w3.heap.size (.int .i64 0) (.string ⟨#[]⟩) (.string ⟨#[]⟩) (.string ⟨#[]⟩) (.int .i64 0) (.slice none 0 0) (.slice none 0 0)) from ⟨trivial, trivial, HB11.out.2⟩)
       have HWf := HW11
       clear HP1 HP2 HK2
       have HW := Zz (show Fr None' w w11 from HWf.out)
       obtain ⟨c0, c1, c2, c3, c4, c5, c6⟩ := HBf.out.2.2.1.cells
       obtain ⟨d0, d1, d2, d3, d4, d5, d6⟩ := HBf.out.2.2.2.cells
       have cz := HBf.out.2.2.1.frozen
       have dz := HBf.out.2.2.2.frozen
       go_wp2_with fail
       have hfin := Zt HW.out HBf.out.2.2.1 HBf.out.2.2.2 n6 (by have := HN.out; omega) (by have := HN.out; omega) (.int .i64 0) (.string ⟨#[]⟩) (.string ⟨#[]⟩) (.string ⟨#[]⟩) (.int .i64 0) (.slice none 0 0) (.slice none 0 0) (.int .i64 0) (.string ⟨#[]⟩) (.string ⟨#[]⟩) (.string ⟨#[]⟩) (.int .i64 0) (.slice none 0 0) (.slice none 0 0)
       exact Zr (u := .bool false) rfl rfl rfl rfl rfl hfin.1 hfin.2.1 (post_none HC.out hfin.2.2.1)
      | true =>
       have HC := Zz (HK2.out.trans (show Zu (⟨k1, p1, t1, f1, a1, o1, m1⟩, ⟨k2, p2, t2, f2, a2, o2, m2⟩, true) = (⟨k1, p1, t1, f1, a1, o1, m1⟩, ⟨k2, p2, t2, f2, a2, o2, m2⟩, true) from by unfold Zu; rw [if_pos (by simp [HE7.out, HE8.out])]))
       clear HK2 HE7 HE8
       have HS := Zz (show ∀ w', Fr (fun k => k = w2.heap.size ∨ k = w3.heap.size) w11 w' → Fr (fun k => k = w2.heap.size ∨ k = w3.heap.size) w11 w' ∧ w'.cell? ⟨b7, 0, none⟩ = some (.int .i64 k1) ∧ w'.cell? ⟨b7, 1, none⟩ = some (.string p1) ∧ w'.cell? ⟨b7, 2, none⟩ = some (.string t1) ∧ w'.cell? ⟨b7, 3, none⟩ = some (.string f1) ∧ w'.cell? ⟨b7, 4, none⟩ = some (.int .i64 a1) ∧ w'.cell? ⟨b7, 5, none⟩ = some (.slice qa mo da) ∧ w'.cell? ⟨b7, 6, none⟩ = some (.slice qb mn db) ∧ w'.cell? ⟨b8, 0, none⟩ = some (.int .i64 k2) ∧ w'.cell? ⟨b8, 1, none⟩ = some (.string p2) ∧ w'.cell? ⟨b8, 2, none⟩ = some (.string t2) ∧ w'.cell? ⟨b8, 3, none⟩ = some (.string f2) ∧ w'.cell? ⟨b8, 4, none⟩ = some (.int .i64 a2) ∧ w'.cell? ⟨b8, 5, none⟩ = some (.slice pa no ca) ∧ w'.cell? ⟨b8, 6, none⟩ = some (.slice pb nn cb) from fun w' f => by
        have := HL.out
        have := HN.out
        obtain ⟨x0, x1, x2, x3, x4, x5, x6⟩ := (HB11.out.1.1.fr f (by omega)).cells
        obtain ⟨y0, y1, y2, y3, y4, y5, y6⟩ := (HB11.out.1.2.fr f (by omega)).cells
        exact ⟨f, x0, x1, x2, x3, x4, x5, x6, y0, y1, y2, y3, y4, y5, y6⟩)
       have HZ := Zz (show ∀ w', Fr None' w11 w' → Box w' w2.heap.size (.int .i64 0) (.string ⟨#[]⟩) (.string ⟨#[]⟩) (.string ⟨#[]⟩) (.int .i64 0) (.slice none 0 0) (.slice none 0 0) ∧ Box w' w3.heap.size (.int .i64 0) (.string ⟨#[]⟩) (.string ⟨#[]⟩) (.string ⟨#[]⟩) (.int .i64 0) (.slice none 0 0) (.slice none 0 0) from fun w' f => ⟨HB11.out.2.1.kept f, HB11.out.2.2.kept f⟩)
       have hS0 := HS.out w11.drew (Fr.drew _ w11)
       go_wp2_with fail
       go_region_held3 (fun w' => Fr (fun k => k = w2.heap.size ∨ k = w3.heap.size) w11 w' ∧ w'.cell? ⟨b7, 0, none⟩ = some (.int .i64 k1) ∧ w'.cell? ⟨b7, 1, none⟩ = some (.string p1) ∧ w'.cell? ⟨b7, 2, none⟩ = some (.string t1) ∧ w'.cell? ⟨b7, 3, none⟩ = some (.string f1) ∧ w'.cell? ⟨b7, 4, none⟩ = some (.int .i64 a1) ∧ w'.cell? ⟨b7, 5, none⟩ = some (.slice qa mo da) ∧ w'.cell? ⟨b7, 6, none⟩ = some (.slice qb mn db) ∧ w'.cell? ⟨b8, 0, none⟩ = some (.int .i64 k2) ∧ w'.cell? ⟨b8, 1, none⟩ = some (.string p2) ∧ w'.cell? ⟨b8, 2, none⟩ = some (.string t2) ∧ w'.cell? ⟨b8, 3, none⟩ = some (.string f2) ∧ w'.cell? ⟨b8, 4, none⟩ = some (.int .i64 a2) ∧ w'.cell? ⟨b8, 5, none⟩ = some (.slice pa no ca) ∧ w'.cell? ⟨b8, 6, none⟩ = some (.slice pb nn cb))
        (first | with_reducible exact hS0 | with_reducible exact hS12 | with_reducible exact hS13 | with_reducible exact hS14 | with_reducible exact hS15)
        (first
         | (go_at_call 55; with_reducible (refine (HP1.out _ (Fr.then7 (Hid.out HW11) (Fr.drew None' _))).mono ?_); rintro e w12 ⟨po1, co1, pn1, cn1, rfl, HR12, f12⟩; have G12 := Zz (Fr.then7 (Fr.drew None' w11) f12); have hS12 := HS.out w12 (Fr.any (Hid.out G12)); clear f12)
         | (go_at_call 55; with_reducible (refine (HP2.out w12 (Fr.then7 (Hid.out HW11) (Hid.out G12))).mono ?_); rintro e w13 ⟨po2, co2, pn2, cn2, rfl, HR13, f13⟩; have G13 := Zz f13; have F13 := Zz (Fr.then7 (Hid.out G12) f13); have hS13 := HS.out w13 (Fr.any (Hid.out F13)); have hS14 := HS.out (setP w13 w2.heap.size (.int .i64 k1) (.string p1) (.string t1) (.string f1) (.int .i64 a1) (.slice po1 o1.length co1) (.slice pn1 m1.length cn1)) (Fr.then (Fr.any (Hid.out F13)) (Fr.setP _ (Or.inl rfl) _ _ _ _ _ _ _)); have hS15 := HS.out (setP (setP w13 w2.heap.size (.int .i64 k1) (.string p1) (.string t1) (.string f1) (.int .i64 a1) (.slice po1 o1.length co1) (.slice pn1 m1.length cn1)) w3.heap.size (.int .i64 k2) (.string p2) (.string t2) (.string f2) (.int .i64 a2) (.slice po2 o2.length co2) (.slice pn2 m2.length cn2)) (Fr.then (Fr.then (Fr.any (Hid.out F13)) (Fr.setP _ (Or.inl rfl) _ _ _ _ _ _ _)) (Fr.setP _ (Or.inr rfl) _ _ _ _ _ _ _)); obtain ⟨c0, c1, c2, c3, c4, c5, c6⟩ := Box.cells ((Hid.out HZ) w13 (Hid.out F13)).1; obtain ⟨d0, d1, d2, d3, d4, d5, d6⟩ := Box.cells ((Hid.out HZ) w13 (Hid.out F13)).2; have cz := Box.frozen ((Hid.out HZ) w13 (Hid.out F13)).1; have dz := Box.frozen ((Hid.out HZ) w13 (Hid.out F13)).2; clear f13)
         | fail)
       clear hS0 hS12 hS13 hS14 hS15 c0 c1 c2 c3 c4 c5 c6 d0 d1 d2 d3 d4 d5 d6 cz dz
       go_wp2_with fail
       have hfin := Zt (HW11.out.then7 F13.out) (HZ.out w13 F13.out).1 (HZ.out w13 F13.out).2 n6 (by have := HN.out; omega) (by have := HN.out; omega) (.int .i64 k1) (.string p1) (.string t1) (.string f1) (.int .i64 a1) (.slice po1 o1.length co1) (.slice pn1 m1.length cn1) (.int .i64 k2) (.string p2) (.string t2) (.string f2) (.int .i64 a2) (.slice po2 o2.length co2) (.slice pn2 m2.length cn2)
       have hbig := HB11.out.2.2.lt
       have hsz := G12.out.size
       have hw := HW11.out.size
       have := HN.out
       obtain ⟨⟨r1, r2⟩, g1, g2⟩ := HR12.out
       obtain ⟨⟨r3, r4⟩, g3, g4⟩ := HR13.out
       have z1 := (r1.kept G13.out).far hfin.2.2.2 (fun _ k e => by have h1 : w11.heap.size ≤ k := g1 k e; omega)
       have z2 := (r2.kept G13.out).far hfin.2.2.2 (fun _ k e => by have h1 : w11.heap.size ≤ k := g2 k e; omega)
       have z3 := r3.far hfin.2.2.2 (fun _ k e => by have h1 : w12.heap.size ≤ k := g3 k e; omega)
       have z4 := r4.far hfin.2.2.2 (fun _ k e => by have h1 : w12.heap.size ≤ k := g4 k e; omega)
       refine Zr (u := .bool true) rfl rfl rfl rfl rfl hfin.1 hfin.2.1 ?_
       unfold CommPost
       rw [HC.out]
       exact ⟨_, _, rfl, ⟨_, _, rfl, z1, z2, (fun k e => by have h1 : w11.heap.size ≤ k := g1 k e; omega), (fun k e => by have h1 : w11.heap.size ≤ k := g2 k e; omega)⟩, ⟨_, _, rfl, z3, z4, (fun k e => by have h1 : w12.heap.size ≤ k := g3 k e; omega), (fun k e => by have h1 : w12.heap.size ≤ k := g4 k e; omega)⟩, hfin.2.2.1⟩
theorem commute_all : CommuteAll := commute_any
end Go.Proofs.YtbnfjjjdnbcehaaGreatDoor
