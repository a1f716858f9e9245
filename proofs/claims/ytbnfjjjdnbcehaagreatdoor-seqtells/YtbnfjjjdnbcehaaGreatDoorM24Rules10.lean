/- What is proved here: contracts that SeqTells stands on. Conditions: as each theorem names them. -/
import Derived.Test.YtbnfjjjdnbcehaaGreatDoorM23PR9
import Derived.Test.YtbnfjjjdnbcehaaGreatDoorM7Box10
import Derived.Deep.RegionHeld3
import Derived.Test.YtbnfjjjdnbcehaaGreatDoorM14Plain10
import Derived.Test.YtbnfjjjdnbcehaaGreatDoorMAlike11
import Derived.Test.YtbnfjjjdnbcehaaGreatDoorM8RInv9
import Derived.Test.YtbnfjjjdnbcehaaGreatDoorM6Strs9
import Derived.Test.YtbnfjjjdnbcehaaGreatDoorM13PRRest
set_option maxHeartbeats 16000000
namespace Go.Proofs.YtbnfjjjdnbcehaaGreatDoor
open Go.RowKit
set_option maxRecDepth 100000
theorem Zz {p : Prop} (h : p) : Hid p := h
theorem they_apart (x y : Pr) (pa pb qa qb : Option Addr) (no nn ca cb mo mn da db : Nat) (w : World) (b : Nat) (hb : w.cell? ⟨b, 0, none⟩ = some (.func (.func 150) #[] #[])) :
  Calls Tryz.prog 188 #[.agg #[.int .i64 x.kind, .string x.path, .string x.dst, .string x.src, .int .i64 x.pos, .slice pa no ca, .slice pb nn cb], .agg #[.int .i64 y.kind, .string y.path, .string y.dst, .string y.src, .int .i64 y.pos, .slice qa mo da, .slice qb mn db], .pointer (some ⟨b, 0, none⟩)] w fun e w' => e = .returned (.tuple #[.agg #[.int .i64 (y, x, Yg x y).1.kind, .string (y, x, Yg x y).1.path, .string (y, x, Yg x y).1.dst, .string (y, x, Yg x y).1.src, .int .i64 (y, x, Yg x y).1.pos, .slice qa mo da, .slice qb mn db], .agg #[.int .i64 (y, x, Yg x y).2.1.kind, .string (y, x, Yg x y).2.1.path, .string (y, x, Yg x y).2.1.dst, .string (y, x, Yg x y).2.1.src, .int .i64 (y, x, Yg x y).2.1.pos, .slice pa no ca, .slice pb nn cb], .bool (y, x, Yg x y).2.2]) ∧ Fr None' w w' := by
 have HQ : Hid (∀ w', Calls Tryz.prog 150 #[.agg #[.int .i64 x.kind, .string x.path, .string x.dst, .string x.src, .int .i64 x.pos, .slice pa no ca, .slice pb nn cb], .agg #[.int .i64 y.kind, .string y.path, .string y.dst, .string y.src, .int .i64 y.pos, .slice qa mo da, .slice qb mn db]] w' fun e w'' => e = .returned (.bool (Yg x y)) ∧ Fr None' w' w'') := fun w' => apart10_any x y pa pb qa qb no nn ca cb mo mn da db w'
 generalize Yg x y = R at HQ ⊢
 obtain ⟨K, P, T, F, A, lO, lN⟩ := x
 obtain ⟨K', P', T', F', A', lO', lN'⟩ := y
 simp only at HQ ⊢
 obtain ⟨w1, hw1⟩ : ∃ w1, w.alloc (.cells #[.int .i64 K, .string P, .string T, .string F, .int .i64 A, .slice pa no ca, .slice pb nn cb] 43) = w1 := ⟨_, rfl⟩
 obtain ⟨w2, hw2⟩ : ∃ w2, w1.alloc (.cells #[.int .i64 K', .string P', .string T', .string F', .int .i64 A', .slice qa mo da, .slice qb mn db] 43) = w2 := ⟨_, rfl⟩
 obtain ⟨w3, hw3⟩ : ∃ w3, w2.alloc (.cells #[.int .i64 0, .string ⟨#[]⟩, .string ⟨#[]⟩, .string ⟨#[]⟩, .int .i64 0, .slice none 0 0, .slice none 0 0] 43) = w3 := ⟨_, rfl⟩
 obtain ⟨w4, hw4⟩ : ∃ w4, w3.alloc (.cells #[.int .i64 0, .string ⟨#[]⟩, .string ⟨#[]⟩, .string ⟨#[]⟩, .int .i64 0, .slice none 0 0, .slice none 0 0] 43) = w4 := ⟨_, rfl⟩
 have F1 : Fr None' w w1 := hw1 ▸ Fr.alloc None' w _
 have F2 : Fr None' w1 w2 := hw2 ▸ Fr.alloc None' w1 _
 have F3 : Fr None' w2 w3 := hw3 ▸ Fr.alloc None' w2 _
 have F4 : Fr None' w3 w4 := hw4 ▸ Fr.alloc None' w3 _
 have BX : Box w4 w.heap.size (.int .i64 K) (.string P) (.string T) (.string F) (.int .i64 A) (.slice pa no ca) (.slice pb nn cb) := (hw1 ▸ Box.new w _ _ _ _ _ _ _ : Box w1 _ _ _ _ _ _ _ _).kept ((F2.then7 F3).then7 F4)
 have BY : Box w4 w1.heap.size (.int .i64 K') (.string P') (.string T') (.string F') (.int .i64 A') (.slice qa mo da) (.slice qb mn db) := (hw2 ▸ Box.new w1 _ _ _ _ _ _ _ : Box w2 _ _ _ _ _ _ _ _).kept (F3.then7 F4)
 have BC : Box w4 w2.heap.size (.int .i64 0) (.string ⟨#[]⟩) (.string ⟨#[]⟩) (.string ⟨#[]⟩) (.int .i64 0) (.slice none 0 0) (.slice none 0 0) := (hw3 ▸ Box.new w2 _ _ _ _ _ _ _ : Box w3 _ _ _ _ _ _ _ _).kept F4
 have BD : Box w4 w3.heap.size (.int .i64 0) (.string ⟨#[]⟩) (.string ⟨#[]⟩) (.string ⟨#[]⟩) (.int .i64 0) (.slice none 0 0) (.slice none 0 0) := hw4 ▸ Box.new w3 _ _ _ _ _ _ _
 have s1 : w1.heap.size = w.heap.size + 1 := by rw [← hw1]; simp
 have s2 : w2.heap.size = w1.heap.size + 1 := by rw [← hw2]; simp
 have s3 : w3.heap.size = w2.heap.size + 1 := by rw [← hw3]; simp
 have HF : Hid (Fr None' w w4) := ((F1.then7 F2).then7 F3).then7 F4
 have HN : Hid (w.heap.size < w1.heap.size ∧ w1.heap.size < w2.heap.size ∧ w2.heap.size < w3.heap.size) := ⟨by omega, by omega, by omega⟩
 have n1 : ¬ w.heap.size = w1.heap.size := by omega
 have n2 : ¬ w.heap.size = w2.heap.size := by omega
 have n3 : ¬ w.heap.size = w3.heap.size := by omega
 have n4 : ¬ w1.heap.size = w2.heap.size := by omega
 have n5 : ¬ w1.heap.size = w3.heap.size := by omega
 have n6 : ¬ w2.heap.size = w3.heap.size := by omega
 have HBs : Hid (∀ w', Fr None' w4 w' → Box w' w.heap.size (.int .i64 K) (.string P) (.string T) (.string F) (.int .i64 A) (.slice pa no ca) (.slice pb nn cb) ∧ Box w' w1.heap.size (.int .i64 K') (.string P') (.string T') (.string F') (.int .i64 A') (.slice qa mo da) (.slice qb mn db) ∧ Box w' w2.heap.size (.int .i64 0) (.string ⟨#[]⟩) (.string ⟨#[]⟩) (.string ⟨#[]⟩) (.int .i64 0) (.slice none 0 0) (.slice none 0 0) ∧ Box w' w3.heap.size (.int .i64 0) (.string ⟨#[]⟩) (.string ⟨#[]⟩) (.string ⟨#[]⟩) (.int .i64 0) (.slice none 0 0) (.slice none 0 0)) := fun w' f => ⟨BX.kept f, BY.kept f, BC.kept f, BD.kept f⟩
 have hlt : b < w.heap.size := cell_lt hb
 have HC : Hid (∀ w', Fr (fun k => k = w2.heap.size ∨ k = w3.heap.size) w4 w' → w'.cell? ⟨b, 0, none⟩ = some (.func (.func 150) #[] #[]) ∧ Box w' w.heap.size (.int .i64 K) (.string P) (.string T) (.string F) (.int .i64 A) (.slice pa no ca) (.slice pb nn cb) ∧ Box w' w1.heap.size (.int .i64 K') (.string P') (.string T') (.string F') (.int .i64 A') (.slice qa mo da) (.slice qb mn db)) := fun w' f => ⟨f.keepCell (HF.out.keepCell hb (fun e => e)) (by simp only; omega), BX.fr f (by omega), BY.fr f (by omega)⟩
 have HS : Hid (∀ w', Fr (fun k => k = w2.heap.size ∨ k = w3.heap.size) w4 w' → Fr (fun k => k = w2.heap.size ∨ k = w3.heap.size) w4 w' ∧ w'.cell? ⟨b, 0, none⟩ = some (.func (.func 150) #[] #[]) ∧ w'.cell? ⟨w.heap.size, 0, none⟩ = some (.int .i64 K) ∧ w'.cell? ⟨w.heap.size, 1, none⟩ = some (.string P) ∧ w'.cell? ⟨w.heap.size, 2, none⟩ = some (.string T) ∧ w'.cell? ⟨w.heap.size, 3, none⟩ = some (.string F) ∧ w'.cell? ⟨w.heap.size, 4, none⟩ = some (.int .i64 A) ∧ w'.cell? ⟨w.heap.size, 5, none⟩ = some (.slice pa no ca) ∧ w'.cell? ⟨w.heap.size, 6, none⟩ = some (.slice pb nn cb) ∧ w'.cell? ⟨w1.heap.size, 0, none⟩ = some (.int .i64 K') ∧ w'.cell? ⟨w1.heap.size, 1, none⟩ = some (.string P') ∧ w'.cell? ⟨w1.heap.size, 2, none⟩ = some (.string T') ∧ w'.cell? ⟨w1.heap.size, 3, none⟩ = some (.string F') ∧ w'.cell? ⟨w1.heap.size, 4, none⟩ = some (.int .i64 A') ∧ w'.cell? ⟨w1.heap.size, 5, none⟩ = some (.slice qa mo da) ∧ w'.cell? ⟨w1.heap.size, 6, none⟩ = some (.slice qb mn db)) := fun w' f => by
  obtain ⟨h, hx, hy⟩ := HC.out w' f
  obtain ⟨x0, x1, x2, x3, x4, x5, x6⟩ := hx.cells
  obtain ⟨y0, y1, y2, y3, y4, y5, y6⟩ := hy.cells
  exact ⟨f, h, x0, x1, x2, x3, x4, x5, x6, y0, y1, y2, y3, y4, y5, y6⟩
 have HZ : Hid (∀ w', Fr None' w4 w' → (∀ o, w'.frozen? ⟨w2.heap.size, o, none⟩ = false) ∧ (∀ o, w'.frozen? ⟨w3.heap.size, o, none⟩ = false) ∧ w'.cell? ⟨w2.heap.size, 0, none⟩ = some (.int .i64 0) ∧ w'.cell? ⟨w2.heap.size, 1, none⟩ = some (.string ⟨#[]⟩) ∧ w'.cell? ⟨w2.heap.size, 2, none⟩ = some (.string ⟨#[]⟩) ∧ w'.cell? ⟨w2.heap.size, 3, none⟩ = some (.string ⟨#[]⟩) ∧ w'.cell? ⟨w2.heap.size, 4, none⟩ = some (.int .i64 0) ∧ w'.cell? ⟨w2.heap.size, 5, none⟩ = some (.slice none 0 0) ∧ w'.cell? ⟨w2.heap.size, 6, none⟩ = some (.slice none 0 0) ∧ w'.cell? ⟨w3.heap.size, 0, none⟩ = some (.int .i64 0) ∧ w'.cell? ⟨w3.heap.size, 1, none⟩ = some (.string ⟨#[]⟩) ∧ w'.cell? ⟨w3.heap.size, 2, none⟩ = some (.string ⟨#[]⟩) ∧ w'.cell? ⟨w3.heap.size, 3, none⟩ = some (.string ⟨#[]⟩) ∧ w'.cell? ⟨w3.heap.size, 4, none⟩ = some (.int .i64 0) ∧ w'.cell? ⟨w3.heap.size, 5, none⟩ = some (.slice none 0 0) ∧ w'.cell? ⟨w3.heap.size, 6, none⟩ = some (.slice none 0 0)) := fun w' f => by
  obtain ⟨c0, c1, c2, c3, c4, c5, c6⟩ := (BC.kept f).cells
  obtain ⟨d0, d1, d2, d3, d4, d5, d6⟩ := (BD.kept f).cells
  exact ⟨(BC.kept f).frozen, (BD.kept f).frozen, c0, c1, c2, c3, c4, c5, c6, d0, d1, d2, d3, d4, d5, d6⟩
 have hS0 := HS.out w4.drew (Fr.drew _ w4)
 clear hb hlt n1 n2 n3 n4 n5
 clear F1 F2 F3 F4 BX BY BC BD s1 s2 s3
 go_enter Tryz.func188, Tryz.ntmps188
 go_wp2_with fail
 go_region_held3 (fun w' => Fr (fun k => k = w2.heap.size ∨ k = w3.heap.size) w4 w' ∧ w'.cell? ⟨b, 0, none⟩ = some (.func (.func 150) #[] #[]) ∧ w'.cell? ⟨w.heap.size, 0, none⟩ = some (.int .i64 K) ∧ w'.cell? ⟨w.heap.size, 1, none⟩ = some (.string P) ∧ w'.cell? ⟨w.heap.size, 2, none⟩ = some (.string T) ∧ w'.cell? ⟨w.heap.size, 3, none⟩ = some (.string F) ∧ w'.cell? ⟨w.heap.size, 4, none⟩ = some (.int .i64 A) ∧ w'.cell? ⟨w.heap.size, 5, none⟩ = some (.slice pa no ca) ∧ w'.cell? ⟨w.heap.size, 6, none⟩ = some (.slice pb nn cb) ∧ w'.cell? ⟨w1.heap.size, 0, none⟩ = some (.int .i64 K') ∧ w'.cell? ⟨w1.heap.size, 1, none⟩ = some (.string P') ∧ w'.cell? ⟨w1.heap.size, 2, none⟩ = some (.string T') ∧ w'.cell? ⟨w1.heap.size, 3, none⟩ = some (.string F') ∧ w'.cell? ⟨w1.heap.size, 4, none⟩ = some (.int .i64 A') ∧ w'.cell? ⟨w1.heap.size, 5, none⟩ = some (.slice qa mo da) ∧ w'.cell? ⟨w1.heap.size, 6, none⟩ = some (.slice qb mn db))
  (first | with_reducible exact hS0 | with_reducible exact hS5 | with_reducible exact hS6 | with_reducible exact hS7)
  ((go_at_call 150; with_reducible (refine (HQ.out _).mono ?_); rintro e w5 ⟨rfl, f5⟩; have H5 := Zz (Fr.then7 (Fr.drew None' w4) f5); have hS5 := HS.out w5 (Fr.any (Hid.out H5)); have hS6 := HS.out (setP w5 w2.heap.size (.int .i64 K') (.string P') (.string T') (.string F') (.int .i64 A') (.slice qa mo da) (.slice qb mn db)) (Fr.then (Fr.any (Hid.out H5)) (Fr.setP _ (Or.inl rfl) _ _ _ _ _ _ _)); have hS7 := HS.out (setP (setP w5 w2.heap.size (.int .i64 K') (.string P') (.string T') (.string F') (.int .i64 A') (.slice qa mo da) (.slice qb mn db)) w3.heap.size (.int .i64 K) (.string P) (.string T) (.string F) (.int .i64 A) (.slice pa no ca) (.slice pb nn cb)) (Fr.then (Fr.then (Fr.any (Hid.out H5)) (Fr.setP _ (Or.inl rfl) _ _ _ _ _ _ _)) (Fr.setP _ (Or.inr rfl) _ _ _ _ _ _ _)); obtain ⟨cz, dz, c0, c1, c2, c3, c4, c5, c6, d0, d1, d2, d3, d4, d5, d6⟩ := HZ.out w5 (Hid.out H5); clear f5))
 have HW5 : Hid (Fr None' w w5) := HF.out.then7 H5.out
 have HB5 := Zz (HBs.out w5 H5.out)
 clear hS0 hS5 hS6 hS7 cz dz c0 c1 c2 c3 c4 c5 c6 d0 d1 d2 d3 d4 d5 d6
 go_wp2_with fail
 have hfin := Zt HW5.out HB5.out.2.2.1 HB5.out.2.2.2 n6 (by have := HN.out; omega) (by have := HN.out; omega) (.int .i64 K') (.string P') (.string T') (.string F') (.int .i64 A') (.slice qa mo da) (.slice qb mn db) (.int .i64 K) (.string P) (.string T) (.string F) (.int .i64 A) (.slice pa no ca) (.slice pb nn cb)
 exact Zr rfl rfl rfl rfl rfl hfin.1 hfin.2.1 ⟨rfl, hfin.2.2.1⟩
theorem they_unlike (x y : Pr) (pa pb qa qb : Option Addr) (no nn ca cb mo mn da db : Nat) (w : World) (b : Nat) (hb : w.cell? ⟨b, 0, none⟩ = some (.func (.func 151) #[] #[])) :
  Calls Tryz.prog 188 #[.agg #[.int .i64 x.kind, .string x.path, .string x.dst, .string x.src, .int .i64 x.pos, .slice pa no ca, .slice pb nn cb], .agg #[.int .i64 y.kind, .string y.path, .string y.dst, .string y.src, .int .i64 y.pos, .slice qa mo da, .slice qb mn db], .pointer (some ⟨b, 0, none⟩)] w fun e w' => e = .returned (.tuple #[.agg #[.int .i64 (y, x, decide (¬ x.path = y.path)).1.kind, .string (y, x, decide (¬ x.path = y.path)).1.path, .string (y, x, decide (¬ x.path = y.path)).1.dst, .string (y, x, decide (¬ x.path = y.path)).1.src, .int .i64 (y, x, decide (¬ x.path = y.path)).1.pos, .slice qa mo da, .slice qb mn db], .agg #[.int .i64 (y, x, decide (¬ x.path = y.path)).2.1.kind, .string (y, x, decide (¬ x.path = y.path)).2.1.path, .string (y, x, decide (¬ x.path = y.path)).2.1.dst, .string (y, x, decide (¬ x.path = y.path)).2.1.src, .int .i64 (y, x, decide (¬ x.path = y.path)).2.1.pos, .slice pa no ca, .slice pb nn cb], .bool (y, x, decide (¬ x.path = y.path)).2.2]) ∧ Fr None' w w' := by
 have HQ : Hid (∀ w', Calls Tryz.prog 151 #[.agg #[.int .i64 x.kind, .string x.path, .string x.dst, .string x.src, .int .i64 x.pos, .slice pa no ca, .slice pb nn cb], .agg #[.int .i64 y.kind, .string y.path, .string y.dst, .string y.src, .int .i64 y.pos, .slice qa mo da, .slice qb mn db]] w' fun e w'' => e = .returned (.bool (decide (¬ x.path = y.path))) ∧ Fr None' w' w'') := fun w' => unlike_any x y pa pb qa qb no nn ca cb mo mn da db w'
 generalize decide (¬ x.path = y.path) = R at HQ ⊢
 obtain ⟨K, P, T, F, A, lO, lN⟩ := x
 obtain ⟨K', P', T', F', A', lO', lN'⟩ := y
 simp only at HQ ⊢
 obtain ⟨w1, hw1⟩ : ∃ w1, w.alloc (.cells #[.int .i64 K, .string P, .string T, .string F, .int .i64 A, .slice pa no ca, .slice pb nn cb] 43) = w1 := ⟨_, rfl⟩
 obtain ⟨w2, hw2⟩ : ∃ w2, w1.alloc (.cells #[.int .i64 K', .string P', .string T', .string F', .int .i64 A', .slice qa mo da, .slice qb mn db] 43) = w2 := ⟨_, rfl⟩
 obtain ⟨w3, hw3⟩ : ∃ w3, w2.alloc (.cells #[.int .i64 0, .string ⟨#[]⟩, .string ⟨#[]⟩, .string ⟨#[]⟩, .int .i64 0, .slice none 0 0, .slice none 0 0] 43) = w3 := ⟨_, rfl⟩
 obtain ⟨w4, hw4⟩ : ∃ w4, w3.alloc (.cells #[.int .i64 0, .string ⟨#[]⟩, .string ⟨#[]⟩, .string ⟨#[]⟩, .int .i64 0, .slice none 0 0, .slice none 0 0] 43) = w4 := ⟨_, rfl⟩
 have F1 : Fr None' w w1 := hw1 ▸ Fr.alloc None' w _
 have F2 : Fr None' w1 w2 := hw2 ▸ Fr.alloc None' w1 _
 have F3 : Fr None' w2 w3 := hw3 ▸ Fr.alloc None' w2 _
 have F4 : Fr None' w3 w4 := hw4 ▸ Fr.alloc None' w3 _
 have BX : Box w4 w.heap.size (.int .i64 K) (.string P) (.string T) (.string F) (.int .i64 A) (.slice pa no ca) (.slice pb nn cb) := (hw1 ▸ Box.new w _ _ _ _ _ _ _ : Box w1 _ _ _ _ _ _ _ _).kept ((F2.then7 F3).then7 F4)
 have BY : Box w4 w1.heap.size (.int .i64 K') (.string P') (.string T') (.string F') (.int .i64 A') (.slice qa mo da) (.slice qb mn db) := (hw2 ▸ Box.new w1 _ _ _ _ _ _ _ : Box w2 _ _ _ _ _ _ _ _).kept (F3.then7 F4)
 have BC : Box w4 w2.heap.size (.int .i64 0) (.string ⟨#[]⟩) (.string ⟨#[]⟩) (.string ⟨#[]⟩) (.int .i64 0) (.slice none 0 0) (.slice none 0 0) := (hw3 ▸ Box.new w2 _ _ _ _ _ _ _ : Box w3 _ _ _ _ _ _ _ _).kept F4
 have BD : Box w4 w3.heap.size (.int .i64 0) (.string ⟨#[]⟩) (.string ⟨#[]⟩) (.string ⟨#[]⟩) (.int .i64 0) (.slice none 0 0) (.slice none 0 0) := hw4 ▸ Box.new w3 _ _ _ _ _ _ _
 have s1 : w1.heap.size = w.heap.size + 1 := by rw [← hw1]; simp
 have s2 : w2.heap.size = w1.heap.size + 1 := by rw [← hw2]; simp
 have s3 : w3.heap.size = w2.heap.size + 1 := by rw [← hw3]; simp
 have HF : Hid (Fr None' w w4) := ((F1.then7 F2).then7 F3).then7 F4
 have HN : Hid (w.heap.size < w1.heap.size ∧ w1.heap.size < w2.heap.size ∧ w2.heap.size < w3.heap.size) := ⟨by omega, by omega, by omega⟩
 have n1 : ¬ w.heap.size = w1.heap.size := by omega
 have n2 : ¬ w.heap.size = w2.heap.size := by omega
 have n3 : ¬ w.heap.size = w3.heap.size := by omega
 have n4 : ¬ w1.heap.size = w2.heap.size := by omega
 have n5 : ¬ w1.heap.size = w3.heap.size := by omega
 have n6 : ¬ w2.heap.size = w3.heap.size := by omega
 have HBs : Hid (∀ w', Fr None' w4 w' → Box w' w.heap.size (.int .i64 K) (.string P) (.string T) (.string F) (.int .i64 A) (.slice pa no ca) (.slice pb nn cb) ∧ Box w' w1.heap.size (.int .i64 K') (.string P') (.string T') (.string F') (.int .i64 A') (.slice qa mo da) (.slice qb mn db) ∧ Box w' w2.heap.size (.int .i64 0) (.string ⟨#[]⟩) (.string ⟨#[]⟩) (.string ⟨#[]⟩) (.int .i64 0) (.slice none 0 0) (.slice none 0 0) ∧ Box w' w3.heap.size (.int .i64 0) (.string ⟨#[]⟩) (.string ⟨#[]⟩) (.string ⟨#[]⟩) (.int .i64 0) (.slice none 0 0) (.slice none 0 0)) := fun w' f => ⟨BX.kept f, BY.kept f, BC.kept f, BD.kept f⟩
 have hlt : b < w.heap.size := cell_lt hb
 have HC : Hid (∀ w', Fr (fun k => k = w2.heap.size ∨ k = w3.heap.size) w4 w' → w'.cell? ⟨b, 0, none⟩ = some (.func (.func 151) #[] #[]) ∧ Box w' w.heap.size (.int .i64 K) (.string P) (.string T) (.string F) (.int .i64 A) (.slice pa no ca) (.slice pb nn cb) ∧ Box w' w1.heap.size (.int .i64 K') (.string P') (.string T') (.string F') (.int .i64 A') (.slice qa mo da) (.slice qb mn db)) := fun w' f => ⟨f.keepCell (HF.out.keepCell hb (fun e => e)) (by simp only; omega), BX.fr f (by omega), BY.fr f (by omega)⟩
 have HS : Hid (∀ w', Fr (fun k => k = w2.heap.size ∨ k = w3.heap.size) w4 w' → Fr (fun k => k = w2.heap.size ∨ k = w3.heap.size) w4 w' ∧ w'.cell? ⟨b, 0, none⟩ = some (.func (.func 151) #[] #[]) ∧ w'.cell? ⟨w.heap.size, 0, none⟩ = some (.int .i64 K) ∧ w'.cell? ⟨w.heap.size, 1, none⟩ = some (.string P) ∧ w'.cell? ⟨w.heap.size, 2, none⟩ = some (.string T) ∧ w'.cell? ⟨w.heap.size, 3, none⟩ = some (.string F) ∧ w'.cell? ⟨w.heap.size, 4, none⟩ = some (.int .i64 A) ∧ w'.cell? ⟨w.heap.size, 5, none⟩ = some (.slice pa no ca) ∧ w'.cell? ⟨w.heap.size, 6, none⟩ = some (.slice pb nn cb) ∧ w'.cell? ⟨w1.heap.size, 0, none⟩ = some (.int .i64 K') ∧ w'.cell? ⟨w1.heap.size, 1, none⟩ = some (.string P') ∧ w'.cell? ⟨w1.heap.size, 2, none⟩ = some (.string T') ∧ w'.cell? ⟨w1.heap.size, 3, none⟩ = some (.string F') ∧ w'.cell? ⟨w1.heap.size, 4, none⟩ = some (.int .i64 A') ∧ w'.cell? ⟨w1.heap.size, 5, none⟩ = some (.slice qa mo da) ∧ w'.cell? ⟨w1.heap.size, 6, none⟩ = some (.slice qb mn db)) := fun w' f => by
  obtain ⟨h, hx, hy⟩ := HC.out w' f
  obtain ⟨x0, x1, x2, x3, x4, x5, x6⟩ := hx.cells
  obtain ⟨y0, y1, y2, y3, y4, y5, y6⟩ := hy.cells
  exact ⟨f, h, x0, x1, x2, x3, x4, x5, x6, y0, y1, y2, y3, y4, y5, y6⟩
 have HZ : Hid (∀ w', Fr None' w4 w' → (∀ o, w'.frozen? ⟨w2.heap.size, o, none⟩ = false) ∧ (∀ o, w'.frozen? ⟨w3.heap.size, o, none⟩ = false) ∧ w'.cell? ⟨w2.heap.size, 0, none⟩ = some (.int .i64 0) ∧ w'.cell? ⟨w2.heap.size, 1, none⟩ = some (.string ⟨#[]⟩) ∧ w'.cell? ⟨w2.heap.size, 2, none⟩ = some (.string ⟨#[]⟩) ∧ w'.cell? ⟨w2.heap.size, 3, none⟩ = some (.string ⟨#[]⟩) ∧ w'.cell? ⟨w2.heap.size, 4, none⟩ = some (.int .i64 0) ∧ w'.cell? ⟨w2.heap.size, 5, none⟩ = some (.slice none 0 0) ∧ w'.cell? ⟨w2.heap.size, 6, none⟩ = some (.slice none 0 0) ∧ w'.cell? ⟨w3.heap.size, 0, none⟩ = some (.int .i64 0) ∧ w'.cell? ⟨w3.heap.size, 1, none⟩ = some (.string ⟨#[]⟩) ∧ w'.cell? ⟨w3.heap.size, 2, none⟩ = some (.string ⟨#[]⟩) ∧ w'.cell? ⟨w3.heap.size, 3, none⟩ = some (.string ⟨#[]⟩) ∧ w'.cell? ⟨w3.heap.size, 4, none⟩ = some (.int .i64 0) ∧ w'.cell? ⟨w3.heap.size, 5, none⟩ = some (.slice none 0 0) ∧ w'.cell? ⟨w3.heap.size, 6, none⟩ = some (.slice none 0 0)) := fun w' f => by
  obtain ⟨c0, c1, c2, c3, c4, c5, c6⟩ := (BC.kept f).cells
  obtain ⟨d0, d1, d2, d3, d4, d5, d6⟩ := (BD.kept f).cells
  exact ⟨(BC.kept f).frozen, (BD.kept f).frozen, c0, c1, c2, c3, c4, c5, c6, d0, d1, d2, d3, d4, d5, d6⟩
 have hS0 := HS.out w4.drew (Fr.drew _ w4)
 clear hb hlt n1 n2 n3 n4 n5
 clear F1 F2 F3 F4 BX BY BC BD s1 s2 s3
 go_enter Tryz.func188, Tryz.ntmps188
 go_wp2_with fail
 go_region_held3 (fun w' => Fr (fun k => k = w2.heap.size ∨ k = w3.heap.size) w4 w' ∧ w'.cell? ⟨b, 0, none⟩ = some (.func (.func 151) #[] #[]) ∧ w'.cell? ⟨w.heap.size, 0, none⟩ = some (.int .i64 K) ∧ w'.cell? ⟨w.heap.size, 1, none⟩ = some (.string P) ∧ w'.cell? ⟨w.heap.size, 2, none⟩ = some (.string T) ∧ w'.cell? ⟨w.heap.size, 3, none⟩ = some (.string F) ∧ w'.cell? ⟨w.heap.size, 4, none⟩ = some (.int .i64 A) ∧ w'.cell? ⟨w.heap.size, 5, none⟩ = some (.slice pa no ca) ∧ w'.cell? ⟨w.heap.size, 6, none⟩ = some (.slice pb nn cb) ∧ w'.cell? ⟨w1.heap.size, 0, none⟩ = some (.int .i64 K') ∧ w'.cell? ⟨w1.heap.size, 1, none⟩ = some (.string P') ∧ w'.cell? ⟨w1.heap.size, 2, none⟩ = some (.string T') ∧ w'.cell? ⟨w1.heap.size, 3, none⟩ = some (.string F') ∧ w'.cell? ⟨w1.heap.size, 4, none⟩ = some (.int .i64 A') ∧ w'.cell? ⟨w1.heap.size, 5, none⟩ = some (.slice qa mo da) ∧ w'.cell? ⟨w1.heap.size, 6, none⟩ = some (.slice qb mn db))
  (first | with_reducible exact hS0 | with_reducible exact hS5 | with_reducible exact hS6 | with_reducible exact hS7)
  ((go_at_call 151; with_reducible (refine (HQ.out _).mono ?_); rintro e w5 ⟨rfl, f5⟩; have H5 := Zz (Fr.then7 (Fr.drew None' w4) f5); have hS5 := HS.out w5 (Fr.any (Hid.out H5)); have hS6 := HS.out (setP w5 w2.heap.size (.int .i64 K') (.string P') (.string T') (.string F') (.int .i64 A') (.slice qa mo da) (.slice qb mn db)) (Fr.then (Fr.any (Hid.out H5)) (Fr.setP _ (Or.inl rfl) _ _ _ _ _ _ _)); have hS7 := HS.out (setP (setP w5 w2.heap.size (.int .i64 K') (.string P') (.string T') (.string F') (.int .i64 A') (.slice qa mo da) (.slice qb mn db)) w3.heap.size (.int .i64 K) (.string P) (.string T) (.string F) (.int .i64 A) (.slice pa no ca) (.slice pb nn cb)) (Fr.then (Fr.then (Fr.any (Hid.out H5)) (Fr.setP _ (Or.inl rfl) _ _ _ _ _ _ _)) (Fr.setP _ (Or.inr rfl) _ _ _ _ _ _ _)); obtain ⟨cz, dz, c0, c1, c2, c3, c4, c5, c6, d0, d1, d2, d3, d4, d5, d6⟩ := HZ.out w5 (Hid.out H5); clear f5))
 have HW5 : Hid (Fr None' w w5) := HF.out.then7 H5.out
 have HB5 := Zz (HBs.out w5 H5.out)
 clear hS0 hS5 hS6 hS7 cz dz c0 c1 c2 c3 c4 c5 c6 d0 d1 d2 d3 d4 d5 d6
 go_wp2_with fail
 have hfin := Zt HW5.out HB5.out.2.2.1 HB5.out.2.2.2 n6 (by have := HN.out; omega) (by have := HN.out; omega) (.int .i64 K') (.string P') (.string T') (.string F') (.int .i64 A') (.slice qa mo da) (.slice qb mn db) (.int .i64 K) (.string P) (.string T) (.string F) (.int .i64 A) (.slice pa no ca) (.slice pb nn cb)
 exact Zr rfl rfl rfl rfl rfl hfin.1 hfin.2.1 ⟨rfl, hfin.2.2.1⟩
theorem changeMove_any (x y : Pr) (pa pb qa qb : Option Addr) (no nn ca cb mo mn da db : Nat) (w : World) (zx : x.path.size < 900000 ∧ x.dst.size < 900000) (zy : y.path.size < 900000 ∧ y.dst.size < 900000) :
  Calls Tryz.prog 153 #[.agg #[.int .i64 x.kind, .string x.path, .string x.dst, .string x.src, .int .i64 x.pos, .slice pa no ca, .slice pb nn cb], .agg #[.int .i64 y.kind, .string y.path, .string y.dst, .string y.src, .int .i64 y.pos, .slice qa mo da, .slice qb mn db]] w fun e w' => e = .returned (.tuple #[.agg #[.int .i64 (Yw x y).1.kind, .string (Yw x y).1.path, .string (Yw x y).1.dst, .string (Yw x y).1.src, .int .i64 (Yw x y).1.pos, .slice qa mo da, .slice qb mn db], .agg #[.int .i64 (Yw x y).2.1.kind, .string (Yw x y).2.1.path, .string (Yw x y).2.1.dst, .string (Yw x y).2.1.src, .int .i64 (Yw x y).2.1.pos, .slice pa no ca, .slice pb nn cb], .bool (Yw x y).2.2]) ∧ Fr None' w w' := by
 have HQ := Zz (fun w' => carried_any x.path y.path y.dst w' (by omega) (by omega))
 unfold Yw
 generalize (carryP x.path y.path y.dst).1 = M at HQ ⊢
 generalize (carryP x.path y.path y.dst).2 = R at HQ ⊢
 clear zx zy
 obtain ⟨K, P, T, F, A, lO, lN⟩ := x
 obtain ⟨K', P', T', F', A', lO', lN'⟩ := y
 simp only at HQ ⊢
 obtain ⟨w1, hw1⟩ : ∃ w1, w.alloc (.cells #[.int .i64 K, .string P, .string T, .string F, .int .i64 A, .slice pa no ca, .slice pb nn cb] 43) = w1 := ⟨_, rfl⟩
 obtain ⟨w2, hw2⟩ : ∃ w2, w1.alloc (.cells #[.int .i64 K', .string P', .string T', .string F', .int .i64 A', .slice qa mo da, .slice qb mn db] 43) = w2 := ⟨_, rfl⟩
 obtain ⟨w3, hw3⟩ : ∃ w3, w2.alloc (.cells #[.int .i64 0, .string ⟨#[]⟩, .string ⟨#[]⟩, .string ⟨#[]⟩, .int .i64 0, .slice none 0 0, .slice none 0 0] 43) = w3 := ⟨_, rfl⟩
 obtain ⟨w4, hw4⟩ : ∃ w4, w3.alloc (.cells #[.int .i64 0, .string ⟨#[]⟩, .string ⟨#[]⟩, .string ⟨#[]⟩, .int .i64 0, .slice none 0 0, .slice none 0 0] 43) = w4 := ⟨_, rfl⟩
 have F1 : Fr None' w w1 := hw1 ▸ Fr.alloc None' w _
 have F2 : Fr None' w1 w2 := hw2 ▸ Fr.alloc None' w1 _
 have F3 : Fr None' w2 w3 := hw3 ▸ Fr.alloc None' w2 _
 have F4 : Fr None' w3 w4 := hw4 ▸ Fr.alloc None' w3 _
 have BX : Box w4 w.heap.size (.int .i64 K) (.string P) (.string T) (.string F) (.int .i64 A) (.slice pa no ca) (.slice pb nn cb) := (hw1 ▸ Box.new w _ _ _ _ _ _ _ : Box w1 _ _ _ _ _ _ _ _).kept ((F2.then7 F3).then7 F4)
 have BY : Box w4 w1.heap.size (.int .i64 K') (.string P') (.string T') (.string F') (.int .i64 A') (.slice qa mo da) (.slice qb mn db) := (hw2 ▸ Box.new w1 _ _ _ _ _ _ _ : Box w2 _ _ _ _ _ _ _ _).kept (F3.then7 F4)
 have BC : Box w4 w2.heap.size (.int .i64 0) (.string ⟨#[]⟩) (.string ⟨#[]⟩) (.string ⟨#[]⟩) (.int .i64 0) (.slice none 0 0) (.slice none 0 0) := (hw3 ▸ Box.new w2 _ _ _ _ _ _ _ : Box w3 _ _ _ _ _ _ _ _).kept F4
 have BD : Box w4 w3.heap.size (.int .i64 0) (.string ⟨#[]⟩) (.string ⟨#[]⟩) (.string ⟨#[]⟩) (.int .i64 0) (.slice none 0 0) (.slice none 0 0) := hw4 ▸ Box.new w3 _ _ _ _ _ _ _
 have s1 : w1.heap.size = w.heap.size + 1 := by rw [← hw1]; simp
 have s2 : w2.heap.size = w1.heap.size + 1 := by rw [← hw2]; simp
 have s3 : w3.heap.size = w2.heap.size + 1 := by rw [← hw3]; simp
 have HF : Hid (Fr None' w w4) := ((F1.then7 F2).then7 F3).then7 F4
 have HN : Hid (w.heap.size < w1.heap.size ∧ w1.heap.size < w2.heap.size ∧ w2.heap.size < w3.heap.size) := ⟨by omega, by omega, by omega⟩
 have n1 : ¬ w.heap.size = w1.heap.size := by omega
 have n2 : ¬ w.heap.size = w2.heap.size := by omega
 have n3 : ¬ w.heap.size = w3.heap.size := by omega
 have n4 : ¬ w1.heap.size = w2.heap.size := by omega
 have n5 : ¬ w1.heap.size = w3.heap.size := by omega
 have n6 : ¬ w2.heap.size = w3.heap.size := by omega
 have HBs : Hid (∀ w', Fr None' w4 w' → Box w' w.heap.size (.int .i64 K) (.string P) (.string T) (.string F) (.int .i64 A) (.slice pa no ca) (.slice pb nn cb) ∧ Box w' w1.heap.size (.int .i64 K') (.string P') (.string T') (.string F') (.int .i64 A') (.slice qa mo da) (.slice qb mn db) ∧ Box w' w2.heap.size (.int .i64 0) (.string ⟨#[]⟩) (.string ⟨#[]⟩) (.string ⟨#[]⟩) (.int .i64 0) (.slice none 0 0) (.slice none 0 0) ∧ Box w' w3.heap.size (.int .i64 0) (.string ⟨#[]⟩) (.string ⟨#[]⟩) (.string ⟨#[]⟩) (.int .i64 0) (.slice none 0 0) (.slice none 0 0)) := fun w' f => ⟨BX.kept f, BY.kept f, BC.kept f, BD.kept f⟩
 obtain ⟨x0, x1, x2, x3, x4, x5, x6⟩ := BX.cells
 obtain ⟨y0, y1, y2, y3, y4, y5, y6⟩ := BY.cells
 obtain ⟨c0, c1, c2, c3, c4, c5, c6⟩ := BC.cells
 obtain ⟨d0, d1, d2, d3, d4, d5, d6⟩ := BD.cells
 have xz := BX.frozen
 have yz := BY.frozen
 have cz := BC.frozen
 have dz := BD.frozen
 clear F1 F2 F3 F4 BX BY BC BD s1 s2 s3
 have q1 := HQ.out w4
 clear n1 n2 n3 n4 n5
 go_enter Tryz.func153, Tryz.ntmps153
 go_wp2_with fail
 with_reducible refine q1.mono ?_
 rintro e w5 ⟨rfl, rfl⟩
 clear q1
 go_wp2_with fail
 obtain ⟨w6, hw6⟩ : ∃ y, w4.setCell ⟨w.heap.size, 1, none⟩ (.string M) = y := ⟨_, rfl⟩
 have F6 : Fr (fun k => k = w.heap.size) w4 w6 := hw6 ▸ Fr.setQ _ _ _ _
 have HB := Zz (show Box w6 w.heap.size (.int .i64 K) (.string M) (.string T) (.string F) (.int .i64 A) (.slice pa no ca) (.slice pb nn cb) ∧ Box w6 w1.heap.size (.int .i64 K') (.string P') (.string T') (.string F') (.int .i64 A') (.slice qa mo da) (.slice qb mn db) ∧ Box w6 w2.heap.size (.int .i64 0) (.string ⟨#[]⟩) (.string ⟨#[]⟩) (.string ⟨#[]⟩) (.int .i64 0) (.slice none 0 0) (.slice none 0 0) ∧ Box w6 w3.heap.size (.int .i64 0) (.string ⟨#[]⟩) (.string ⟨#[]⟩) (.string ⟨#[]⟩) (.int .i64 0) (.slice none 0 0) (.slice none 0 0) from by
  obtain ⟨b1, b2, b3, b4⟩ := HBs.out w4 (Fr.refl _ _)
  have := HN.out
  exact ⟨hw6 ▸ b1.set1 _, b2.fr F6 (by omega), b3.fr F6 (by omega), b4.fr F6 (by omega)⟩)
 have HW := Zz (show Fr None' w w6 from HF.out.trans F6 (fun _ e => Or.inr (by have := HN.out; omega)))
 rw [hw6]
 clear F6 hw6 x0 x1 x2 x3 x4 x5 x6 y0 y1 y2 y3 y4 y5 y6 c0 c1 c2 c3 c4 c5 c6 d0 d1 d2 d3 d4 d5 d6 xz yz cz dz
 have HS := Zz (show (∀ w', Fr (fun k => k = w2.heap.size ∨ k = w3.heap.size) w6 w' → Fr (fun k => k = w2.heap.size ∨ k = w3.heap.size) w6 w' ∧ w'.cell? ⟨w.heap.size, 0, none⟩ = some (.int .i64 K) ∧ w'.cell? ⟨w.heap.size, 1, none⟩ = some (.string M) ∧ w'.cell? ⟨w.heap.size, 2, none⟩ = some (.string T) ∧ w'.cell? ⟨w.heap.size, 3, none⟩ = some (.string F) ∧ w'.cell? ⟨w.heap.size, 4, none⟩ = some (.int .i64 A) ∧ w'.cell? ⟨w.heap.size, 5, none⟩ = some (.slice pa no ca) ∧ w'.cell? ⟨w.heap.size, 6, none⟩ = some (.slice pb nn cb) ∧ w'.cell? ⟨w1.heap.size, 0, none⟩ = some (.int .i64 K') ∧ w'.cell? ⟨w1.heap.size, 1, none⟩ = some (.string P') ∧ w'.cell? ⟨w1.heap.size, 2, none⟩ = some (.string T') ∧ w'.cell? ⟨w1.heap.size, 3, none⟩ = some (.string F') ∧ w'.cell? ⟨w1.heap.size, 4, none⟩ = some (.int .i64 A') ∧ w'.cell? ⟨w1.heap.size, 5, none⟩ = some (.slice qa mo da) ∧ w'.cell? ⟨w1.heap.size, 6, none⟩ = some (.slice qb mn db)) from fun w' f => by
  obtain ⟨x0, x1, x2, x3, x4, x5, x6⟩ := (HB.out.1.fr f (by have := HN.out; omega)).cells
  obtain ⟨y0, y1, y2, y3, y4, y5, y6⟩ := (HB.out.2.1.fr f (by have := HN.out; omega)).cells
  exact ⟨f, x0, x1, x2, x3, x4, x5, x6, y0, y1, y2, y3, y4, y5, y6⟩)
 have hS0 := HS.out w6.drew (Fr.drew _ w6)
 have hS6 := HS.out (setP w6 w2.heap.size (.int .i64 K') (.string P') (.string T') (.string F') (.int .i64 A') (.slice qa mo da) (.slice qb mn db)).drew (Fr.then (Fr.setP _ (Or.inl rfl) _ _ _ _ _ _ _) (Fr.drew _ _))
 have hS7 := HS.out (setP (setP w6 w2.heap.size (.int .i64 K') (.string P') (.string T') (.string F') (.int .i64 A') (.slice qa mo da) (.slice qb mn db)) w3.heap.size (.int .i64 K) (.string M) (.string T) (.string F) (.int .i64 A) (.slice pa no ca) (.slice pb nn cb)).drew (Fr.then (Fr.then (Fr.setP _ (Or.inl rfl) _ _ _ _ _ _ _) (Fr.setP _ (Or.inr rfl) _ _ _ _ _ _ _)) (Fr.drew _ _))
 obtain ⟨c0, c1, c2, c3, c4, c5, c6⟩ := HB.out.2.2.1.cells
 obtain ⟨d0, d1, d2, d3, d4, d5, d6⟩ := HB.out.2.2.2.cells
 have cz := HB.out.2.2.1.frozen
 have dz := HB.out.2.2.2.frozen
 go_region_held3 (fun w' => Fr (fun k => k = w2.heap.size ∨ k = w3.heap.size) w6 w' ∧ w'.cell? ⟨w.heap.size, 0, none⟩ = some (.int .i64 K) ∧ w'.cell? ⟨w.heap.size, 1, none⟩ = some (.string M) ∧ w'.cell? ⟨w.heap.size, 2, none⟩ = some (.string T) ∧ w'.cell? ⟨w.heap.size, 3, none⟩ = some (.string F) ∧ w'.cell? ⟨w.heap.size, 4, none⟩ = some (.int .i64 A) ∧ w'.cell? ⟨w.heap.size, 5, none⟩ = some (.slice pa no ca) ∧ w'.cell? ⟨w.heap.size, 6, none⟩ = some (.slice pb nn cb) ∧ w'.cell? ⟨w1.heap.size, 0, none⟩ = some (.int .i64 K') ∧ w'.cell? ⟨w1.heap.size, 1, none⟩ = some (.string P') ∧ w'.cell? ⟨w1.heap.size, 2, none⟩ = some (.string T') ∧ w'.cell? ⟨w1.heap.size, 3, none⟩ = some (.string F') ∧ w'.cell? ⟨w1.heap.size, 4, none⟩ = some (.int .i64 A') ∧ w'.cell? ⟨w1.heap.size, 5, none⟩ = some (.slice qa mo da) ∧ w'.cell? ⟨w1.heap.size, 6, none⟩ = some (.slice qb mn db))
  (first | with_reducible exact hS0 | with_reducible exact hS6 | with_reducible exact hS7)
  (fail)
 clear hS0 hS6 hS7 cz dz c0 c1 c2 c3 c4 c5 c6 d0 d1 d2 d3 d4 d5 d6
 go_wp2_with fail
 have hfin := Zt HW.out HB.out.2.2.1 HB.out.2.2.2 n6 (by have := HN.out; omega) (by have := HN.out; omega) (.int .i64 K') (.string P') (.string T') (.string F') (.int .i64 A') (.slice qa mo da) (.slice qb mn db) (.int .i64 K) (.string M) (.string T) (.string F) (.int .i64 A) (.slice pa no ca) (.slice pb nn cb)
 exact Zr rfl rfl rfl rfl rfl hfin.1.drew hfin.2.1.drew ⟨rfl, hfin.2.2.1.then7 (Fr.drew _ _)⟩
theorem moveChange_any (x y : Pr) (pa pb qa qb : Option Addr) (no nn ca cb mo mn da db : Nat) (w : World) (zx : x.path.size < 900000 ∧ x.dst.size < 900000) (zy : y.path.size < 900000 ∧ y.dst.size < 900000) :
  Calls Tryz.prog 154 #[.agg #[.int .i64 x.kind, .string x.path, .string x.dst, .string x.src, .int .i64 x.pos, .slice pa no ca, .slice pb nn cb], .agg #[.int .i64 y.kind, .string y.path, .string y.dst, .string y.src, .int .i64 y.pos, .slice qa mo da, .slice qb mn db]] w fun e w' => e = .returned (.tuple #[.agg #[.int .i64 (Yx x y).1.kind, .string (Yx x y).1.path, .string (Yx x y).1.dst, .string (Yx x y).1.src, .int .i64 (Yx x y).1.pos, .slice qa mo da, .slice qb mn db], .agg #[.int .i64 (Yx x y).2.1.kind, .string (Yx x y).2.1.path, .string (Yx x y).2.1.dst, .string (Yx x y).2.1.src, .int .i64 (Yx x y).2.1.pos, .slice pa no ca, .slice pb nn cb], .bool (Yx x y).2.2]) ∧ Fr None' w w' := by
 have HQ := Zz (fun w' => carried_any y.path x.dst x.path w' (by omega) (by omega))
 unfold Yx
 generalize (carryP y.path x.dst x.path).1 = M at HQ ⊢
 generalize (carryP y.path x.dst x.path).2 = R at HQ ⊢
 clear zx zy
 obtain ⟨K, P, T, F, A, lO, lN⟩ := x
 obtain ⟨K', P', T', F', A', lO', lN'⟩ := y
 simp only at HQ ⊢
 obtain ⟨w1, hw1⟩ : ∃ w1, w.alloc (.cells #[.int .i64 K, .string P, .string T, .string F, .int .i64 A, .slice pa no ca, .slice pb nn cb] 43) = w1 := ⟨_, rfl⟩
 obtain ⟨w2, hw2⟩ : ∃ w2, w1.alloc (.cells #[.int .i64 K', .string P', .string T', .string F', .int .i64 A', .slice qa mo da, .slice qb mn db] 43) = w2 := ⟨_, rfl⟩
 obtain ⟨w3, hw3⟩ : ∃ w3, w2.alloc (.cells #[.int .i64 0, .string ⟨#[]⟩, .string ⟨#[]⟩, .string ⟨#[]⟩, .int .i64 0, .slice none 0 0, .slice none 0 0] 43) = w3 := ⟨_, rfl⟩
 obtain ⟨w4, hw4⟩ : ∃ w4, w3.alloc (.cells #[.int .i64 0, .string ⟨#[]⟩, .string ⟨#[]⟩, .string ⟨#[]⟩, .int .i64 0, .slice none 0 0, .slice none 0 0] 43) = w4 := ⟨_, rfl⟩
 have F1 : Fr None' w w1 := hw1 ▸ Fr.alloc None' w _
 have F2 : Fr None' w1 w2 := hw2 ▸ Fr.alloc None' w1 _
 have F3 : Fr None' w2 w3 := hw3 ▸ Fr.alloc None' w2 _
 have F4 : Fr None' w3 w4 := hw4 ▸ Fr.alloc None' w3 _
 have BX : Box w4 w.heap.size (.int .i64 K) (.string P) (.string T) (.string F) (.int .i64 A) (.slice pa no ca) (.slice pb nn cb) := (hw1 ▸ Box.new w _ _ _ _ _ _ _ : Box w1 _ _ _ _ _ _ _ _).kept ((F2.then7 F3).then7 F4)
 have BY : Box w4 w1.heap.size (.int .i64 K') (.string P') (.string T') (.string F') (.int .i64 A') (.slice qa mo da) (.slice qb mn db) := (hw2 ▸ Box.new w1 _ _ _ _ _ _ _ : Box w2 _ _ _ _ _ _ _ _).kept (F3.then7 F4)
 have BC : Box w4 w2.heap.size (.int .i64 0) (.string ⟨#[]⟩) (.string ⟨#[]⟩) (.string ⟨#[]⟩) (.int .i64 0) (.slice none 0 0) (.slice none 0 0) := (hw3 ▸ Box.new w2 _ _ _ _ _ _ _ : Box w3 _ _ _ _ _ _ _ _).kept F4
 have BD : Box w4 w3.heap.size (.int .i64 0) (.string ⟨#[]⟩) (.string ⟨#[]⟩) (.string ⟨#[]⟩) (.int .i64 0) (.slice none 0 0) (.slice none 0 0) := hw4 ▸ Box.new w3 _ _ _ _ _ _ _
 have s1 : w1.heap.size = w.heap.size + 1 := by rw [← hw1]; simp
 have s2 : w2.heap.size = w1.heap.size + 1 := by rw [← hw2]; simp
 have s3 : w3.heap.size = w2.heap.size + 1 := by rw [← hw3]; simp
 have HF : Hid (Fr None' w w4) := ((F1.then7 F2).then7 F3).then7 F4
 have HN : Hid (w.heap.size < w1.heap.size ∧ w1.heap.size < w2.heap.size ∧ w2.heap.size < w3.heap.size) := ⟨by omega, by omega, by omega⟩
 have n1 : ¬ w.heap.size = w1.heap.size := by omega
 have n2 : ¬ w.heap.size = w2.heap.size := by omega
 have n3 : ¬ w.heap.size = w3.heap.size := by omega
 have n4 : ¬ w1.heap.size = w2.heap.size := by omega
 have n5 : ¬ w1.heap.size = w3.heap.size := by omega
 have n6 : ¬ w2.heap.size = w3.heap.size := by omega
 have HBs : Hid (∀ w', Fr None' w4 w' → Box w' w.heap.size (.int .i64 K) (.string P) (.string T) (.string F) (.int .i64 A) (.slice pa no ca) (.slice pb nn cb) ∧ Box w' w1.heap.size (.int .i64 K') (.string P') (.string T') (.string F') (.int .i64 A') (.slice qa mo da) (.slice qb mn db) ∧ Box w' w2.heap.size (.int .i64 0) (.string ⟨#[]⟩) (.string ⟨#[]⟩) (.string ⟨#[]⟩) (.int .i64 0) (.slice none 0 0) (.slice none 0 0) ∧ Box w' w3.heap.size (.int .i64 0) (.string ⟨#[]⟩) (.string ⟨#[]⟩) (.string ⟨#[]⟩) (.int .i64 0) (.slice none 0 0) (.slice none 0 0)) := fun w' f => ⟨BX.kept f, BY.kept f, BC.kept f, BD.kept f⟩
 obtain ⟨x0, x1, x2, x3, x4, x5, x6⟩ := BX.cells
 obtain ⟨y0, y1, y2, y3, y4, y5, y6⟩ := BY.cells
 obtain ⟨c0, c1, c2, c3, c4, c5, c6⟩ := BC.cells
 obtain ⟨d0, d1, d2, d3, d4, d5, d6⟩ := BD.cells
 have xz := BX.frozen
 have yz := BY.frozen
 have cz := BC.frozen
 have dz := BD.frozen
 clear F1 F2 F3 F4 BX BY BC BD s1 s2 s3
 have q1 := HQ.out w4
 clear n1 n2 n3 n4 n5
 go_enter Tryz.func154, Tryz.ntmps154
 go_wp2_with fail
 with_reducible refine q1.mono ?_
 rintro e w5 ⟨rfl, rfl⟩
 clear q1
 go_wp2_with fail
 obtain ⟨w6, hw6⟩ : ∃ y, w4.setCell ⟨w1.heap.size, 1, none⟩ (.string M) = y := ⟨_, rfl⟩
 have F6 : Fr (fun k => k = w1.heap.size) w4 w6 := hw6 ▸ Fr.setQ _ _ _ _
 have HB := Zz (show Box w6 w.heap.size (.int .i64 K) (.string P) (.string T) (.string F) (.int .i64 A) (.slice pa no ca) (.slice pb nn cb) ∧ Box w6 w1.heap.size (.int .i64 K') (.string M) (.string T') (.string F') (.int .i64 A') (.slice qa mo da) (.slice qb mn db) ∧ Box w6 w2.heap.size (.int .i64 0) (.string ⟨#[]⟩) (.string ⟨#[]⟩) (.string ⟨#[]⟩) (.int .i64 0) (.slice none 0 0) (.slice none 0 0) ∧ Box w6 w3.heap.size (.int .i64 0) (.string ⟨#[]⟩) (.string ⟨#[]⟩) (.string ⟨#[]⟩) (.int .i64 0) (.slice none 0 0) (.slice none 0 0) from by
  obtain ⟨b1, b2, b3, b4⟩ := HBs.out w4 (Fr.refl _ _)
  have := HN.out
  exact ⟨b1.fr F6 (by omega), hw6 ▸ b2.set1 _, b3.fr F6 (by omega), b4.fr F6 (by omega)⟩)
 have HW := Zz (show Fr None' w w6 from HF.out.trans F6 (fun _ e => Or.inr (by have := HN.out; omega)))
 rw [hw6]
 clear F6 hw6 x0 x1 x2 x3 x4 x5 x6 y0 y1 y2 y3 y4 y5 y6 c0 c1 c2 c3 c4 c5 c6 d0 d1 d2 d3 d4 d5 d6 xz yz cz dz
 have HS := Zz (show (∀ w', Fr (fun k => k = w2.heap.size ∨ k = w3.heap.size) w6 w' → Fr (fun k => k = w2.heap.size ∨ k = w3.heap.size) w6 w' ∧ w'.cell? ⟨w.heap.size, 0, none⟩ = some (.int .i64 K) ∧ w'.cell? ⟨w.heap.size, 1, none⟩ = some (.string P) ∧ w'.cell? ⟨w.heap.size, 2, none⟩ = some (.string T) ∧ w'.cell? ⟨w.heap.size, 3, none⟩ = some (.string F) ∧ w'.cell? ⟨w.heap.size, 4, none⟩ = some (.int .i64 A) ∧ w'.cell? ⟨w.heap.size, 5, none⟩ = some (.slice pa no ca) ∧ w'.cell? ⟨w.heap.size, 6, none⟩ = some (.slice pb nn cb) ∧ w'.cell? ⟨w1.heap.size, 0, none⟩ = some (.int .i64 K') ∧ w'.cell? ⟨w1.heap.size, 1, none⟩ = some (.string M) ∧ w'.cell? ⟨w1.heap.size, 2, none⟩ = some (.string T') ∧ w'.cell? ⟨w1.heap.size, 3, none⟩ = some (.string F') ∧ w'.cell? ⟨w1.heap.size, 4, none⟩ = some (.int .i64 A') ∧ w'.cell? ⟨w1.heap.size, 5, none⟩ = some (.slice qa mo da) ∧ w'.cell? ⟨w1.heap.size, 6, none⟩ = some (.slice qb mn db)) from fun w' f => by
  obtain ⟨x0, x1, x2, x3, x4, x5, x6⟩ := (HB.out.1.fr f (by have := HN.out; omega)).cells
  obtain ⟨y0, y1, y2, y3, y4, y5, y6⟩ := (HB.out.2.1.fr f (by have := HN.out; omega)).cells
  exact ⟨f, x0, x1, x2, x3, x4, x5, x6, y0, y1, y2, y3, y4, y5, y6⟩)
 have hS0 := HS.out w6.drew (Fr.drew _ w6)
 have hS6 := HS.out (setP w6 w2.heap.size (.int .i64 K') (.string M) (.string T') (.string F') (.int .i64 A') (.slice qa mo da) (.slice qb mn db)).drew (Fr.then (Fr.setP _ (Or.inl rfl) _ _ _ _ _ _ _) (Fr.drew _ _))
 have hS7 := HS.out (setP (setP w6 w2.heap.size (.int .i64 K') (.string M) (.string T') (.string F') (.int .i64 A') (.slice qa mo da) (.slice qb mn db)) w3.heap.size (.int .i64 K) (.string P) (.string T) (.string F) (.int .i64 A) (.slice pa no ca) (.slice pb nn cb)).drew (Fr.then (Fr.then (Fr.setP _ (Or.inl rfl) _ _ _ _ _ _ _) (Fr.setP _ (Or.inr rfl) _ _ _ _ _ _ _)) (Fr.drew _ _))
 obtain ⟨c0, c1, c2, c3, c4, c5, c6⟩ := HB.out.2.2.1.cells
 obtain ⟨d0, d1, d2, d3, d4, d5, d6⟩ := HB.out.2.2.2.cells
 have cz := HB.out.2.2.1.frozen
 have dz := HB.out.2.2.2.frozen
 go_region_held3 (fun w' => Fr (fun k => k = w2.heap.size ∨ k = w3.heap.size) w6 w' ∧ w'.cell? ⟨w.heap.size, 0, none⟩ = some (.int .i64 K) ∧ w'.cell? ⟨w.heap.size, 1, none⟩ = some (.string P) ∧ w'.cell? ⟨w.heap.size, 2, none⟩ = some (.string T) ∧ w'.cell? ⟨w.heap.size, 3, none⟩ = some (.string F) ∧ w'.cell? ⟨w.heap.size, 4, none⟩ = some (.int .i64 A) ∧ w'.cell? ⟨w.heap.size, 5, none⟩ = some (.slice pa no ca) ∧ w'.cell? ⟨w.heap.size, 6, none⟩ = some (.slice pb nn cb) ∧ w'.cell? ⟨w1.heap.size, 0, none⟩ = some (.int .i64 K') ∧ w'.cell? ⟨w1.heap.size, 1, none⟩ = some (.string M) ∧ w'.cell? ⟨w1.heap.size, 2, none⟩ = some (.string T') ∧ w'.cell? ⟨w1.heap.size, 3, none⟩ = some (.string F') ∧ w'.cell? ⟨w1.heap.size, 4, none⟩ = some (.int .i64 A') ∧ w'.cell? ⟨w1.heap.size, 5, none⟩ = some (.slice qa mo da) ∧ w'.cell? ⟨w1.heap.size, 6, none⟩ = some (.slice qb mn db))
  (first | with_reducible exact hS0 | with_reducible exact hS6 | with_reducible exact hS7)
  (fail)
 clear hS0 hS6 hS7 cz dz c0 c1 c2 c3 c4 c5 c6 d0 d1 d2 d3 d4 d5 d6
 go_wp2_with fail
 have hfin := Zt HW.out HB.out.2.2.1 HB.out.2.2.2 n6 (by have := HN.out; omega) (by have := HN.out; omega) (.int .i64 K') (.string M) (.string T') (.string F') (.int .i64 A') (.slice qa mo da) (.slice qb mn db) (.int .i64 K) (.string P) (.string T) (.string F) (.int .i64 A) (.slice pa no ca) (.slice pb nn cb)
 exact Zr rfl rfl rfl rfl rfl hfin.1.drew hfin.2.1.drew ⟨rfl, hfin.2.2.1.then7 (Fr.drew _ _)⟩
theorem twoChanges_any (x y : Pr) (pa pb qa qb : Option Addr) (no nn ca cb mo mn da db : Nat) (w : World) (ho : x.old.length = no) (hn : x.new.length = nn) (go : y.old.length = mo) (gn : y.new.length = mn) (zo : no < 900000) (zn : nn < 900000) (yo : mo < 900000) (yn : mn < 900000) (hx : x.kind = 7 → 0 ≤ x.pos ∧ x.pos ≤ 1073741824) (hy : y.kind = 7 → 0 ≤ y.pos ∧ y.pos ≤ 1073741824) :
  Calls Tryz.prog 152 #[.agg #[.int .i64 x.kind, .string x.path, .string x.dst, .string x.src, .int .i64 x.pos, .slice pa no ca, .slice pb nn cb], .agg #[.int .i64 y.kind, .string y.path, .string y.dst, .string y.src, .int .i64 y.pos, .slice qa mo da, .slice qb mn db]] w fun e w' => e = .returned (.tuple #[.agg #[.int .i64 (Yo x y).1.kind, .string (Yo x y).1.path, .string (Yo x y).1.dst, .string (Yo x y).1.src, .int .i64 (Yo x y).1.pos, .slice qa mo da, .slice qb mn db], .agg #[.int .i64 (Yo x y).2.1.kind, .string (Yo x y).2.1.path, .string (Yo x y).2.1.dst, .string (Yo x y).2.1.src, .int .i64 (Yo x y).2.1.pos, .slice pa no ca, .slice pb nn cb], .bool (Yo x y).2.2]) ∧ Fr None' w w' := by
 have HQ := Zz (fun w' => unlike_any x y pa pb qa qb no nn ca cb mo mn da db w')
 have HR := Zz (show Yo x y = if x.path = y.path then (if x.kind = 7 ∧ y.kind = 7 then (if x.pos + nn < y.pos then ({ y with pos := y.pos + (no - nn) }, x, true) else if y.pos + mo < x.pos then (y, { x with pos := x.pos + (mn - mo) }, true) else (y, x, false)) else (y, x, false)) else (y, x, true) from by unfold Yo linesC; rw [ho, hn, go, gn])
 generalize Yo x y = R at HR ⊢
 obtain ⟨K, P, T, F, A, lO, lN⟩ := x
 obtain ⟨K', P', T', F', A', lO', lN'⟩ := y
 simp only at HQ HR hx hy ⊢
 clear ho hn go gn
 obtain ⟨w1, hw1⟩ : ∃ w1, w.alloc (.cells #[.int .i64 K, .string P, .string T, .string F, .int .i64 A, .slice pa no ca, .slice pb nn cb] 43) = w1 := ⟨_, rfl⟩
 obtain ⟨w2, hw2⟩ : ∃ w2, w1.alloc (.cells #[.int .i64 K', .string P', .string T', .string F', .int .i64 A', .slice qa mo da, .slice qb mn db] 43) = w2 := ⟨_, rfl⟩
 obtain ⟨w3, hw3⟩ : ∃ w3, w2.alloc (.cells #[.int .i64 0, .string ⟨#[]⟩, .string ⟨#[]⟩, .string ⟨#[]⟩, .int .i64 0, .slice none 0 0, .slice none 0 0] 43) = w3 := ⟨_, rfl⟩
 obtain ⟨w4, hw4⟩ : ∃ w4, w3.alloc (.cells #[.int .i64 0, .string ⟨#[]⟩, .string ⟨#[]⟩, .string ⟨#[]⟩, .int .i64 0, .slice none 0 0, .slice none 0 0] 43) = w4 := ⟨_, rfl⟩
 have F1 : Fr None' w w1 := hw1 ▸ Fr.alloc None' w _
 have F2 : Fr None' w1 w2 := hw2 ▸ Fr.alloc None' w1 _
 have F3 : Fr None' w2 w3 := hw3 ▸ Fr.alloc None' w2 _
 have F4 : Fr None' w3 w4 := hw4 ▸ Fr.alloc None' w3 _
 have BX : Box w4 w.heap.size (.int .i64 K) (.string P) (.string T) (.string F) (.int .i64 A) (.slice pa no ca) (.slice pb nn cb) := (hw1 ▸ Box.new w _ _ _ _ _ _ _ : Box w1 _ _ _ _ _ _ _ _).kept ((F2.then7 F3).then7 F4)
 have BY : Box w4 w1.heap.size (.int .i64 K') (.string P') (.string T') (.string F') (.int .i64 A') (.slice qa mo da) (.slice qb mn db) := (hw2 ▸ Box.new w1 _ _ _ _ _ _ _ : Box w2 _ _ _ _ _ _ _ _).kept (F3.then7 F4)
 have BC : Box w4 w2.heap.size (.int .i64 0) (.string ⟨#[]⟩) (.string ⟨#[]⟩) (.string ⟨#[]⟩) (.int .i64 0) (.slice none 0 0) (.slice none 0 0) := (hw3 ▸ Box.new w2 _ _ _ _ _ _ _ : Box w3 _ _ _ _ _ _ _ _).kept F4
 have BD : Box w4 w3.heap.size (.int .i64 0) (.string ⟨#[]⟩) (.string ⟨#[]⟩) (.string ⟨#[]⟩) (.int .i64 0) (.slice none 0 0) (.slice none 0 0) := hw4 ▸ Box.new w3 _ _ _ _ _ _ _
 have s1 : w1.heap.size = w.heap.size + 1 := by rw [← hw1]; simp
 have s2 : w2.heap.size = w1.heap.size + 1 := by rw [← hw2]; simp
 have s3 : w3.heap.size = w2.heap.size + 1 := by rw [← hw3]; simp
 have HF : Hid (Fr None' w w4) := ((F1.then7 F2).then7 F3).then7 F4
 have HN : Hid (w.heap.size < w1.heap.size ∧ w1.heap.size < w2.heap.size ∧ w2.heap.size < w3.heap.size) := ⟨by omega, by omega, by omega⟩
 have n1 : ¬ w.heap.size = w1.heap.size := by omega
 have n2 : ¬ w.heap.size = w2.heap.size := by omega
 have n3 : ¬ w.heap.size = w3.heap.size := by omega
 have n4 : ¬ w1.heap.size = w2.heap.size := by omega
 have n5 : ¬ w1.heap.size = w3.heap.size := by omega
 have n6 : ¬ w2.heap.size = w3.heap.size := by omega
 have HBs : Hid (∀ w', Fr None' w4 w' → Box w' w.heap.size (.int .i64 K) (.string P) (.string T) (.string F) (.int .i64 A) (.slice pa no ca) (.slice pb nn cb) ∧ Box w' w1.heap.size (.int .i64 K') (.string P') (.string T') (.string F') (.int .i64 A') (.slice qa mo da) (.slice qb mn db) ∧ Box w' w2.heap.size (.int .i64 0) (.string ⟨#[]⟩) (.string ⟨#[]⟩) (.string ⟨#[]⟩) (.int .i64 0) (.slice none 0 0) (.slice none 0 0) ∧ Box w' w3.heap.size (.int .i64 0) (.string ⟨#[]⟩) (.string ⟨#[]⟩) (.string ⟨#[]⟩) (.int .i64 0) (.slice none 0 0) (.slice none 0 0)) := fun w' f => ⟨BX.kept f, BY.kept f, BC.kept f, BD.kept f⟩
 obtain ⟨x0, x1, x2, x3, x4, x5, x6⟩ := BX.cells
 obtain ⟨y0, y1, y2, y3, y4, y5, y6⟩ := BY.cells
 obtain ⟨c0, c1, c2, c3, c4, c5, c6⟩ := BC.cells
 obtain ⟨d0, d1, d2, d3, d4, d5, d6⟩ := BD.cells
 have xz := BX.frozen
 have yz := BY.frozen
 have cz := BC.frozen
 have dz := BD.frozen
 clear F1 F2 F3 F4 BX BY BC BD s1 s2 s3
 have q1 := HQ.out w4
 clear n1 n2 n3 n4 n5 HQ
 by_cases hP : P = P'
 case neg =>
  rw [decide_eq_true hP] at q1
  have HR1 := Zz (show R = _ from (HR.out.trans (if_neg hP)))
  clear HR hx hy zo zn yo yn
  have hR := HR1.out
  subst hR
  simp only
  clear HR1
  go_enter Tryz.func152, Tryz.ntmps152
  go_wp2_with fail
  with_reducible refine q1.mono ?_
  rintro e w5 ⟨rfl, f5⟩
  have HB := Zz (HBs.out w5 f5)
  have HW := Zz (HF.out.then7 f5)
  clear q1 f5 x0 x1 x2 x3 x4 x5 x6 y0 y1 y2 y3 y4 y5 y6 c0 c1 c2 c3 c4 c5 c6 d0 d1 d2 d3 d4 d5 d6 xz yz cz dz
  go_wp2_with fail
  have HS := Zz (show (∀ w', Fr (fun k => k = w2.heap.size ∨ k = w3.heap.size) w5 w' → Fr (fun k => k = w2.heap.size ∨ k = w3.heap.size) w5 w' ∧ w'.cell? ⟨w.heap.size, 0, none⟩ = some (.int .i64 K) ∧ w'.cell? ⟨w.heap.size, 1, none⟩ = some (.string P) ∧ w'.cell? ⟨w.heap.size, 2, none⟩ = some (.string T) ∧ w'.cell? ⟨w.heap.size, 3, none⟩ = some (.string F) ∧ w'.cell? ⟨w.heap.size, 4, none⟩ = some (.int .i64 A) ∧ w'.cell? ⟨w.heap.size, 5, none⟩ = some (.slice pa no ca) ∧ w'.cell? ⟨w.heap.size, 6, none⟩ = some (.slice pb nn cb) ∧ w'.cell? ⟨w1.heap.size, 0, none⟩ = some (.int .i64 K') ∧ w'.cell? ⟨w1.heap.size, 1, none⟩ = some (.string P') ∧ w'.cell? ⟨w1.heap.size, 2, none⟩ = some (.string T') ∧ w'.cell? ⟨w1.heap.size, 3, none⟩ = some (.string F') ∧ w'.cell? ⟨w1.heap.size, 4, none⟩ = some (.int .i64 A') ∧ w'.cell? ⟨w1.heap.size, 5, none⟩ = some (.slice qa mo da) ∧ w'.cell? ⟨w1.heap.size, 6, none⟩ = some (.slice qb mn db)) from fun w' f => by
   obtain ⟨x0, x1, x2, x3, x4, x5, x6⟩ := (HB.out.1.fr f (by have := HN.out; omega)).cells
   obtain ⟨y0, y1, y2, y3, y4, y5, y6⟩ := (HB.out.2.1.fr f (by have := HN.out; omega)).cells
   exact ⟨f, x0, x1, x2, x3, x4, x5, x6, y0, y1, y2, y3, y4, y5, y6⟩)
  have hS0 := HS.out w5.drew (Fr.drew _ w5)
  have hS6 := HS.out (setP w5 w2.heap.size (.int .i64 K') (.string P') (.string T') (.string F') (.int .i64 A') (.slice qa mo da) (.slice qb mn db)).drew (Fr.then (Fr.setP _ (Or.inl rfl) _ _ _ _ _ _ _) (Fr.drew _ _))
  have hS7 := HS.out (setP (setP w5 w2.heap.size (.int .i64 K') (.string P') (.string T') (.string F') (.int .i64 A') (.slice qa mo da) (.slice qb mn db)) w3.heap.size (.int .i64 K) (.string P) (.string T) (.string F) (.int .i64 A) (.slice pa no ca) (.slice pb nn cb)).drew (Fr.then (Fr.then (Fr.setP _ (Or.inl rfl) _ _ _ _ _ _ _) (Fr.setP _ (Or.inr rfl) _ _ _ _ _ _ _)) (Fr.drew _ _))
  obtain ⟨c0, c1, c2, c3, c4, c5, c6⟩ := HB.out.2.2.1.cells
  obtain ⟨d0, d1, d2, d3, d4, d5, d6⟩ := HB.out.2.2.2.cells
  have cz := HB.out.2.2.1.frozen
  have dz := HB.out.2.2.2.frozen
  go_region_held3 (fun w' => Fr (fun k => k = w2.heap.size ∨ k = w3.heap.size) w5 w' ∧ w'.cell? ⟨w.heap.size, 0, none⟩ = some (.int .i64 K) ∧ w'.cell? ⟨w.heap.size, 1, none⟩ = some (.string P) ∧ w'.cell? ⟨w.heap.size, 2, none⟩ = some (.string T) ∧ w'.cell? ⟨w.heap.size, 3, none⟩ = some (.string F) ∧ w'.cell? ⟨w.heap.size, 4, none⟩ = some (.int .i64 A) ∧ w'.cell? ⟨w.heap.size, 5, none⟩ = some (.slice pa no ca) ∧ w'.cell? ⟨w.heap.size, 6, none⟩ = some (.slice pb nn cb) ∧ w'.cell? ⟨w1.heap.size, 0, none⟩ = some (.int .i64 K') ∧ w'.cell? ⟨w1.heap.size, 1, none⟩ = some (.string P') ∧ w'.cell? ⟨w1.heap.size, 2, none⟩ = some (.string T') ∧ w'.cell? ⟨w1.heap.size, 3, none⟩ = some (.string F') ∧ w'.cell? ⟨w1.heap.size, 4, none⟩ = some (.int .i64 A') ∧ w'.cell? ⟨w1.heap.size, 5, none⟩ = some (.slice qa mo da) ∧ w'.cell? ⟨w1.heap.size, 6, none⟩ = some (.slice qb mn db))
   (first | with_reducible exact hS0 | with_reducible exact hS6 | with_reducible exact hS7)
   (fail)
  clear hS0 hS6 hS7 cz dz c0 c1 c2 c3 c4 c5 c6 d0 d1 d2 d3 d4 d5 d6
  go_wp2_with fail
  have hfin := Zt HW.out HB.out.2.2.1 HB.out.2.2.2 n6 (by have := HN.out; omega) (by have := HN.out; omega) (.int .i64 K') (.string P') (.string T') (.string F') (.int .i64 A') (.slice qa mo da) (.slice qb mn db) (.int .i64 K) (.string P) (.string T) (.string F) (.int .i64 A) (.slice pa no ca) (.slice pb nn cb)
  exact Zr rfl rfl rfl rfl rfl hfin.1.drew hfin.2.1.drew ⟨rfl, hfin.2.2.1.then7 (Fr.drew _ _)⟩
 case pos =>
  subst hP
  rw [decide_eq_false (by simp)] at q1
  have HR1 := Zz (HR.out.trans (if_pos rfl))
  clear HR
  by_cases hK : K = 7
  case neg =>
   have hR := HR1.out.trans (if_neg (fun h => hK h.1))
   subst hR
   simp only
   clear HR1 hx hy zo zn yo yn
   go_enter Tryz.func152, Tryz.ntmps152
   go_wp2_with fail
   with_reducible refine q1.mono ?_
   rintro e w5 ⟨rfl, f5⟩
   have HB := Zz (HBs.out w5 f5)
   have HW := Zz (HF.out.then7 f5)
   clear q1 f5 x0 x1 x2 x3 x4 x5 x6 y0 y1 y2 y3 y4 y5 y6 c0 c1 c2 c3 c4 c5 c6 d0 d1 d2 d3 d4 d5 d6 xz yz cz dz
   have x0 := HB.out.1.cells.1
   go_wp2_with fail
   have HS := Zz (show (∀ w', Fr (fun k => k = w2.heap.size ∨ k = w3.heap.size) w5 w' → Fr (fun k => k = w2.heap.size ∨ k = w3.heap.size) w5 w' ∧ w'.cell? ⟨w.heap.size, 0, none⟩ = some (.int .i64 K) ∧ w'.cell? ⟨w.heap.size, 1, none⟩ = some (.string P) ∧ w'.cell? ⟨w.heap.size, 2, none⟩ = some (.string T) ∧ w'.cell? ⟨w.heap.size, 3, none⟩ = some (.string F) ∧ w'.cell? ⟨w.heap.size, 4, none⟩ = some (.int .i64 A) ∧ w'.cell? ⟨w.heap.size, 5, none⟩ = some (.slice pa no ca) ∧ w'.cell? ⟨w.heap.size, 6, none⟩ = some (.slice pb nn cb) ∧ w'.cell? ⟨w1.heap.size, 0, none⟩ = some (.int .i64 K') ∧ w'.cell? ⟨w1.heap.size, 1, none⟩ = some (.string P) ∧ w'.cell? ⟨w1.heap.size, 2, none⟩ = some (.string T') ∧ w'.cell? ⟨w1.heap.size, 3, none⟩ = some (.string F') ∧ w'.cell? ⟨w1.heap.size, 4, none⟩ = some (.int .i64 A') ∧ w'.cell? ⟨w1.heap.size, 5, none⟩ = some (.slice qa mo da) ∧ w'.cell? ⟨w1.heap.size, 6, none⟩ = some (.slice qb mn db)) from fun w' f => by
    obtain ⟨x0, x1, x2, x3, x4, x5, x6⟩ := (HB.out.1.fr f (by have := HN.out; omega)).cells
    obtain ⟨y0, y1, y2, y3, y4, y5, y6⟩ := (HB.out.2.1.fr f (by have := HN.out; omega)).cells
    exact ⟨f, x0, x1, x2, x3, x4, x5, x6, y0, y1, y2, y3, y4, y5, y6⟩)
   have hS0 := HS.out w5.drew (Fr.drew _ w5)
   have hS6 := HS.out (setP w5 w2.heap.size (.int .i64 K') (.string P) (.string T') (.string F') (.int .i64 A') (.slice qa mo da) (.slice qb mn db)).drew (Fr.then (Fr.setP _ (Or.inl rfl) _ _ _ _ _ _ _) (Fr.drew _ _))
   have hS7 := HS.out (setP (setP w5 w2.heap.size (.int .i64 K') (.string P) (.string T') (.string F') (.int .i64 A') (.slice qa mo da) (.slice qb mn db)) w3.heap.size (.int .i64 K) (.string P) (.string T) (.string F) (.int .i64 A) (.slice pa no ca) (.slice pb nn cb)).drew (Fr.then (Fr.then (Fr.setP _ (Or.inl rfl) _ _ _ _ _ _ _) (Fr.setP _ (Or.inr rfl) _ _ _ _ _ _ _)) (Fr.drew _ _))
   obtain ⟨c0, c1, c2, c3, c4, c5, c6⟩ := HB.out.2.2.1.cells
   obtain ⟨d0, d1, d2, d3, d4, d5, d6⟩ := HB.out.2.2.2.cells
   have cz := HB.out.2.2.1.frozen
   have dz := HB.out.2.2.2.frozen
   clear x0
   go_region_held3 (fun w' => Fr (fun k => k = w2.heap.size ∨ k = w3.heap.size) w5 w' ∧ w'.cell? ⟨w.heap.size, 0, none⟩ = some (.int .i64 K) ∧ w'.cell? ⟨w.heap.size, 1, none⟩ = some (.string P) ∧ w'.cell? ⟨w.heap.size, 2, none⟩ = some (.string T) ∧ w'.cell? ⟨w.heap.size, 3, none⟩ = some (.string F) ∧ w'.cell? ⟨w.heap.size, 4, none⟩ = some (.int .i64 A) ∧ w'.cell? ⟨w.heap.size, 5, none⟩ = some (.slice pa no ca) ∧ w'.cell? ⟨w.heap.size, 6, none⟩ = some (.slice pb nn cb) ∧ w'.cell? ⟨w1.heap.size, 0, none⟩ = some (.int .i64 K') ∧ w'.cell? ⟨w1.heap.size, 1, none⟩ = some (.string P) ∧ w'.cell? ⟨w1.heap.size, 2, none⟩ = some (.string T') ∧ w'.cell? ⟨w1.heap.size, 3, none⟩ = some (.string F') ∧ w'.cell? ⟨w1.heap.size, 4, none⟩ = some (.int .i64 A') ∧ w'.cell? ⟨w1.heap.size, 5, none⟩ = some (.slice qa mo da) ∧ w'.cell? ⟨w1.heap.size, 6, none⟩ = some (.slice qb mn db))
    (first | with_reducible exact hS0 | with_reducible exact hS6 | with_reducible exact hS7)
    (fail)
   clear hS0 hS6 hS7 cz dz c0 c1 c2 c3 c4 c5 c6 d0 d1 d2 d3 d4 d5 d6
   go_wp2_with fail
   have hfin := Zt HW.out HB.out.2.2.1 HB.out.2.2.2 n6 (by have := HN.out; omega) (by have := HN.out; omega) (.int .i64 K') (.string P) (.string T') (.string F') (.int .i64 A') (.slice qa mo da) (.slice qb mn db) (.int .i64 K) (.string P) (.string T) (.string F) (.int .i64 A) (.slice pa no ca) (.slice pb nn cb)
   exact Zr rfl rfl rfl rfl rfl hfin.1.drew hfin.2.1.drew ⟨rfl, hfin.2.2.1.then7 (Fr.drew _ _)⟩
  case pos =>
   subst hK
   by_cases hK' : K' = 7
   case neg =>
    have hR := HR1.out.trans (if_neg (fun h => hK' h.2))
    subst hR
    simp only
    clear HR1 hx hy zo zn yo yn
    go_enter Tryz.func152, Tryz.ntmps152
    go_wp2_with fail
    with_reducible refine q1.mono ?_
    rintro e w5 ⟨rfl, f5⟩
    have HB := Zz (HBs.out w5 f5)
    have HW := Zz (HF.out.then7 f5)
    clear q1 f5 x0 x1 x2 x3 x4 x5 x6 y0 y1 y2 y3 y4 y5 y6 c0 c1 c2 c3 c4 c5 c6 d0 d1 d2 d3 d4 d5 d6 xz yz cz dz
    have x0 := HB.out.1.cells.1
    have y0 := HB.out.2.1.cells.1
    go_wp2_with fail
    have HS := Zz (show (∀ w', Fr (fun k => k = w2.heap.size ∨ k = w3.heap.size) w5 w' → Fr (fun k => k = w2.heap.size ∨ k = w3.heap.size) w5 w' ∧ w'.cell? ⟨w.heap.size, 0, none⟩ = some (.int .i64 7) ∧ w'.cell? ⟨w.heap.size, 1, none⟩ = some (.string P) ∧ w'.cell? ⟨w.heap.size, 2, none⟩ = some (.string T) ∧ w'.cell? ⟨w.heap.size, 3, none⟩ = some (.string F) ∧ w'.cell? ⟨w.heap.size, 4, none⟩ = some (.int .i64 A) ∧ w'.cell? ⟨w.heap.size, 5, none⟩ = some (.slice pa no ca) ∧ w'.cell? ⟨w.heap.size, 6, none⟩ = some (.slice pb nn cb) ∧ w'.cell? ⟨w1.heap.size, 0, none⟩ = some (.int .i64 K') ∧ w'.cell? ⟨w1.heap.size, 1, none⟩ = some (.string P) ∧ w'.cell? ⟨w1.heap.size, 2, none⟩ = some (.string T') ∧ w'.cell? ⟨w1.heap.size, 3, none⟩ = some (.string F') ∧ w'.cell? ⟨w1.heap.size, 4, none⟩ = some (.int .i64 A') ∧ w'.cell? ⟨w1.heap.size, 5, none⟩ = some (.slice qa mo da) ∧ w'.cell? ⟨w1.heap.size, 6, none⟩ = some (.slice qb mn db)) from fun w' f => by
     obtain ⟨x0, x1, x2, x3, x4, x5, x6⟩ := (HB.out.1.fr f (by have := HN.out; omega)).cells
     obtain ⟨y0, y1, y2, y3, y4, y5, y6⟩ := (HB.out.2.1.fr f (by have := HN.out; omega)).cells
     exact ⟨f, x0, x1, x2, x3, x4, x5, x6, y0, y1, y2, y3, y4, y5, y6⟩)
    have hS0 := HS.out w5.drew (Fr.drew _ w5)
    have hS6 := HS.out (setP w5 w2.heap.size (.int .i64 K') (.string P) (.string T') (.string F') (.int .i64 A') (.slice qa mo da) (.slice qb mn db)).drew (Fr.then (Fr.setP _ (Or.inl rfl) _ _ _ _ _ _ _) (Fr.drew _ _))
    have hS7 := HS.out (setP (setP w5 w2.heap.size (.int .i64 K') (.string P) (.string T') (.string F') (.int .i64 A') (.slice qa mo da) (.slice qb mn db)) w3.heap.size (.int .i64 7) (.string P) (.string T) (.string F) (.int .i64 A) (.slice pa no ca) (.slice pb nn cb)).drew (Fr.then (Fr.then (Fr.setP _ (Or.inl rfl) _ _ _ _ _ _ _) (Fr.setP _ (Or.inr rfl) _ _ _ _ _ _ _)) (Fr.drew _ _))
    obtain ⟨c0, c1, c2, c3, c4, c5, c6⟩ := HB.out.2.2.1.cells
    obtain ⟨d0, d1, d2, d3, d4, d5, d6⟩ := HB.out.2.2.2.cells
    have cz := HB.out.2.2.1.frozen
    have dz := HB.out.2.2.2.frozen
    clear x0 y0
    go_region_held3 (fun w' => Fr (fun k => k = w2.heap.size ∨ k = w3.heap.size) w5 w' ∧ w'.cell? ⟨w.heap.size, 0, none⟩ = some (.int .i64 7) ∧ w'.cell? ⟨w.heap.size, 1, none⟩ = some (.string P) ∧ w'.cell? ⟨w.heap.size, 2, none⟩ = some (.string T) ∧ w'.cell? ⟨w.heap.size, 3, none⟩ = some (.string F) ∧ w'.cell? ⟨w.heap.size, 4, none⟩ = some (.int .i64 A) ∧ w'.cell? ⟨w.heap.size, 5, none⟩ = some (.slice pa no ca) ∧ w'.cell? ⟨w.heap.size, 6, none⟩ = some (.slice pb nn cb) ∧ w'.cell? ⟨w1.heap.size, 0, none⟩ = some (.int .i64 K') ∧ w'.cell? ⟨w1.heap.size, 1, none⟩ = some (.string P) ∧ w'.cell? ⟨w1.heap.size, 2, none⟩ = some (.string T') ∧ w'.cell? ⟨w1.heap.size, 3, none⟩ = some (.string F') ∧ w'.cell? ⟨w1.heap.size, 4, none⟩ = some (.int .i64 A') ∧ w'.cell? ⟨w1.heap.size, 5, none⟩ = some (.slice qa mo da) ∧ w'.cell? ⟨w1.heap.size, 6, none⟩ = some (.slice qb mn db))
     (first | with_reducible exact hS0 | with_reducible exact hS6 | with_reducible exact hS7)
     (fail)
    clear hS0 hS6 hS7 cz dz c0 c1 c2 c3 c4 c5 c6 d0 d1 d2 d3 d4 d5 d6
    go_wp2_with fail
    have hfin := Zt HW.out HB.out.2.2.1 HB.out.2.2.2 n6 (by have := HN.out; omega) (by have := HN.out; omega) (.int .i64 K') (.string P) (.string T') (.string F') (.int .i64 A') (.slice qa mo da) (.slice qb mn db) (.int .i64 7) (.string P) (.string T) (.string F) (.int .i64 A) (.slice pa no ca) (.slice pb nn cb)
    exact Zr rfl rfl rfl rfl rfl hfin.1.drew hfin.2.1.drew ⟨rfl, hfin.2.2.1.then7 (Fr.drew _ _)⟩
   case pos =>
    subst hK'
    have HR2 := Zz (HR1.out.trans (if_pos ⟨rfl, rfl⟩))
    obtain ⟨u1, u2⟩ := hx rfl
    obtain ⟨u3, u4⟩ := hy rfl
    have i1 : (no : Int) < 900000 := by omega
    have i2 : (nn : Int) < 900000 := by omega
    have i3 : (mo : Int) < 900000 := by omega
    have i4 : (mn : Int) < 900000 := by omega
    clear HR1 hx hy zo zn yo yn
    go_enter Tryz.func152, Tryz.ntmps152
    go_wp2_with fail
    with_reducible refine q1.mono ?_
    rintro e w5 ⟨rfl, f5⟩
    have HB5 := Zz (HBs.out w5 f5)
    have HW5 := Zz (HF.out.then7 f5)
    clear q1 f5 x0 x1 x2 x3 x4 x5 x6 y0 y1 y2 y3 y4 y5 y6 c0 c1 c2 c3 c4 c5 c6 d0 d1 d2 d3 d4 d5 d6 xz yz cz dz
    obtain ⟨x0, x1, x2, x3, x4, x5, x6⟩ := HB5.out.1.cells
    obtain ⟨y0, y1, y2, y3, y4, y5, y6⟩ := HB5.out.2.1.cells
    have xz := HB5.out.1.frozen
    have yz := HB5.out.2.1.frozen
    by_cases h1 : A + (nn : Int) < A'
    case pos =>
     have hR := HR2.out.trans (if_pos h1)
     subst hR
     simp only
     clear HR2
     go_wp2_with fail
     obtain ⟨w6, hw6⟩ : ∃ y, w5.setCell ⟨w1.heap.size, 4, none⟩ (.int .i64 (A' + ((no : Int) - (nn : Int)))) = y := ⟨_, rfl⟩
     have F6 : Fr (fun k => k = w1.heap.size) w5 w6 := hw6 ▸ Fr.setQ _ _ _ _
     have HB := Zz (show Box w6 w.heap.size (.int .i64 7) (.string P) (.string T) (.string F) (.int .i64 A) (.slice pa no ca) (.slice pb nn cb) ∧ Box w6 w1.heap.size (.int .i64 7) (.string P) (.string T') (.string F') (.int .i64 (A' + ((no : Int) - (nn : Int)))) (.slice qa mo da) (.slice qb mn db) ∧ Box w6 w2.heap.size (.int .i64 0) (.string ⟨#[]⟩) (.string ⟨#[]⟩) (.string ⟨#[]⟩) (.int .i64 0) (.slice none 0 0) (.slice none 0 0) ∧ Box w6 w3.heap.size (.int .i64 0) (.string ⟨#[]⟩) (.string ⟨#[]⟩) (.string ⟨#[]⟩) (.int .i64 0) (.slice none 0 0) (.slice none 0 0) from by
      obtain ⟨b1, b2, b3, b4⟩ := HB5.out
      have := HN.out
      exact ⟨b1.fr F6 (by omega), hw6 ▸ b2.set4 _, b3.fr F6 (by omega), b4.fr F6 (by omega)⟩)
     have HW := Zz (show Fr None' w w6 from HW5.out.trans F6 (fun _ e => Or.inr (by have := HN.out; omega)))
     rw [hw6]
     clear F6 hw6 HB5 HW5
     clear x0 x1 x2 x3 x4 x5 x6 y0 y1 y2 y3 y4 y5 y6 xz yz u1 u2 u3 u4 i1 i2 i3 i4
     have HS := Zz (show (∀ w', Fr (fun k => k = w2.heap.size ∨ k = w3.heap.size) w6 w' → Fr (fun k => k = w2.heap.size ∨ k = w3.heap.size) w6 w' ∧ w'.cell? ⟨w.heap.size, 0, none⟩ = some (.int .i64 7) ∧ w'.cell? ⟨w.heap.size, 1, none⟩ = some (.string P) ∧ w'.cell? ⟨w.heap.size, 2, none⟩ = some (.string T) ∧ w'.cell? ⟨w.heap.size, 3, none⟩ = some (.string F) ∧ w'.cell? ⟨w.heap.size, 4, none⟩ = some (.int .i64 A) ∧ w'.cell? ⟨w.heap.size, 5, none⟩ = some (.slice pa no ca) ∧ w'.cell? ⟨w.heap.size, 6, none⟩ = some (.slice pb nn cb) ∧ w'.cell? ⟨w1.heap.size, 0, none⟩ = some (.int .i64 7) ∧ w'.cell? ⟨w1.heap.size, 1, none⟩ = some (.string P) ∧ w'.cell? ⟨w1.heap.size, 2, none⟩ = some (.string T') ∧ w'.cell? ⟨w1.heap.size, 3, none⟩ = some (.string F') ∧ w'.cell? ⟨w1.heap.size, 4, none⟩ = some (.int .i64 (A' + ((no : Int) - (nn : Int)))) ∧ w'.cell? ⟨w1.heap.size, 5, none⟩ = some (.slice qa mo da) ∧ w'.cell? ⟨w1.heap.size, 6, none⟩ = some (.slice qb mn db)) from fun w' f => by
      obtain ⟨x0, x1, x2, x3, x4, x5, x6⟩ := (HB.out.1.fr f (by have := HN.out; omega)).cells
      obtain ⟨y0, y1, y2, y3, y4, y5, y6⟩ := (HB.out.2.1.fr f (by have := HN.out; omega)).cells
      exact ⟨f, x0, x1, x2, x3, x4, x5, x6, y0, y1, y2, y3, y4, y5, y6⟩)
     have hS0 := HS.out w6.drew (Fr.drew _ w6)
     have hS6 := HS.out (setP w6 w2.heap.size (.int .i64 7) (.string P) (.string T') (.string F') (.int .i64 (A' + ((no : Int) - (nn : Int)))) (.slice qa mo da) (.slice qb mn db)).drew (Fr.then (Fr.setP _ (Or.inl rfl) _ _ _ _ _ _ _) (Fr.drew _ _))
     have hS7 := HS.out (setP (setP w6 w2.heap.size (.int .i64 7) (.string P) (.string T') (.string F') (.int .i64 (A' + ((no : Int) - (nn : Int)))) (.slice qa mo da) (.slice qb mn db)) w3.heap.size (.int .i64 7) (.string P) (.string T) (.string F) (.int .i64 A) (.slice pa no ca) (.slice pb nn cb)).drew (Fr.then (Fr.then (Fr.setP _ (Or.inl rfl) _ _ _ _ _ _ _) (Fr.setP _ (Or.inr rfl) _ _ _ _ _ _ _)) (Fr.drew _ _))
     obtain ⟨c0, c1, c2, c3, c4, c5, c6⟩ := HB.out.2.2.1.cells
     obtain ⟨d0, d1, d2, d3, d4, d5, d6⟩ := HB.out.2.2.2.cells
     have cz := HB.out.2.2.1.frozen
     have dz := HB.out.2.2.2.frozen
     go_region_held3 (fun w' => Fr (fun k => k = w2.heap.size ∨ k = w3.heap.size) w6 w' ∧ w'.cell? ⟨w.heap.size, 0, none⟩ = some (.int .i64 7) ∧ w'.cell? ⟨w.heap.size, 1, none⟩ = some (.string P) ∧ w'.cell? ⟨w.heap.size, 2, none⟩ = some (.string T) ∧ w'.cell? ⟨w.heap.size, 3, none⟩ = some (.string F) ∧ w'.cell? ⟨w.heap.size, 4, none⟩ = some (.int .i64 A) ∧ w'.cell? ⟨w.heap.size, 5, none⟩ = some (.slice pa no ca) ∧ w'.cell? ⟨w.heap.size, 6, none⟩ = some (.slice pb nn cb) ∧ w'.cell? ⟨w1.heap.size, 0, none⟩ = some (.int .i64 7) ∧ w'.cell? ⟨w1.heap.size, 1, none⟩ = some (.string P) ∧ w'.cell? ⟨w1.heap.size, 2, none⟩ = some (.string T') ∧ w'.cell? ⟨w1.heap.size, 3, none⟩ = some (.string F') ∧ w'.cell? ⟨w1.heap.size, 4, none⟩ = some (.int .i64 (A' + ((no : Int) - (nn : Int)))) ∧ w'.cell? ⟨w1.heap.size, 5, none⟩ = some (.slice qa mo da) ∧ w'.cell? ⟨w1.heap.size, 6, none⟩ = some (.slice qb mn db))
      (first | with_reducible exact hS0 | with_reducible exact hS6 | with_reducible exact hS7)
      (fail)
     clear hS0 hS6 hS7 cz dz c0 c1 c2 c3 c4 c5 c6 d0 d1 d2 d3 d4 d5 d6
     go_wp2_with fail
     have hfin := Zt HW.out HB.out.2.2.1 HB.out.2.2.2 n6 (by have := HN.out; omega) (by have := HN.out; omega) (.int .i64 7) (.string P) (.string T') (.string F') (.int .i64 (A' + ((no : Int) - (nn : Int)))) (.slice qa mo da) (.slice qb mn db) (.int .i64 7) (.string P) (.string T) (.string F) (.int .i64 A) (.slice pa no ca) (.slice pb nn cb)
     exact Zr rfl rfl rfl rfl rfl hfin.1.drew hfin.2.1.drew ⟨rfl, hfin.2.2.1.then7 (Fr.drew _ _)⟩
    case neg =>
     by_cases h2 : A' + (mo : Int) < A
     case pos =>
      have hR := HR2.out.trans ((if_neg h1).trans (if_pos h2))
      subst hR
      simp only
      clear HR2
      go_wp2_with fail
      obtain ⟨w6, hw6⟩ : ∃ y, w5.setCell ⟨w.heap.size, 4, none⟩ (.int .i64 (A + ((mn : Int) - (mo : Int)))) = y := ⟨_, rfl⟩
      have F6 : Fr (fun k => k = w.heap.size) w5 w6 := hw6 ▸ Fr.setQ _ _ _ _
      have HB := Zz (show Box w6 w.heap.size (.int .i64 7) (.string P) (.string T) (.string F) (.int .i64 (A + ((mn : Int) - (mo : Int)))) (.slice pa no ca) (.slice pb nn cb) ∧ Box w6 w1.heap.size (.int .i64 7) (.string P) (.string T') (.string F') (.int .i64 A') (.slice qa mo da) (.slice qb mn db) ∧ Box w6 w2.heap.size (.int .i64 0) (.string ⟨#[]⟩) (.string ⟨#[]⟩) (.string ⟨#[]⟩) (.int .i64 0) (.slice none 0 0) (.slice none 0 0) ∧ Box w6 w3.heap.size (.int .i64 0) (.string ⟨#[]⟩) (.string ⟨#[]⟩) (.string ⟨#[]⟩) (.int .i64 0) (.slice none 0 0) (.slice none 0 0) from by
       obtain ⟨b1, b2, b3, b4⟩ := HB5.out
       have := HN.out
       exact ⟨hw6 ▸ b1.set4 _, b2.fr F6 (by omega), b3.fr F6 (by omega), b4.fr F6 (by omega)⟩)
      have HW := Zz (show Fr None' w w6 from HW5.out.trans F6 (fun _ e => Or.inr (by have := HN.out; omega)))
      rw [hw6]
      clear F6 hw6 HB5 HW5
      clear x0 x1 x2 x3 x4 x5 x6 y0 y1 y2 y3 y4 y5 y6 xz yz u1 u2 u3 u4 i1 i2 i3 i4
      have HS := Zz (show (∀ w', Fr (fun k => k = w2.heap.size ∨ k = w3.heap.size) w6 w' → Fr (fun k => k = w2.heap.size ∨ k = w3.heap.size) w6 w' ∧ w'.cell? ⟨w.heap.size, 0, none⟩ = some (.int .i64 7) ∧ w'.cell? ⟨w.heap.size, 1, none⟩ = some (.string P) ∧ w'.cell? ⟨w.heap.size, 2, none⟩ = some (.string T) ∧ w'.cell? ⟨w.heap.size, 3, none⟩ = some (.string F) ∧ w'.cell? ⟨w.heap.size, 4, none⟩ = some (.int .i64 (A + ((mn : Int) - (mo : Int)))) ∧ w'.cell? ⟨w.heap.size, 5, none⟩ = some (.slice pa no ca) ∧ w'.cell? ⟨w.heap.size, 6, none⟩ = some (.slice pb nn cb) ∧ w'.cell? ⟨w1.heap.size, 0, none⟩ = some (.int .i64 7) ∧ w'.cell? ⟨w1.heap.size, 1, none⟩ = some (.string P) ∧ w'.cell? ⟨w1.heap.size, 2, none⟩ = some (.string T') ∧ w'.cell? ⟨w1.heap.size, 3, none⟩ = some (.string F') ∧ w'.cell? ⟨w1.heap.size, 4, none⟩ = some (.int .i64 A') ∧ w'.cell? ⟨w1.heap.size, 5, none⟩ = some (.slice qa mo da) ∧ w'.cell? ⟨w1.heap.size, 6, none⟩ = some (.slice qb mn db)) from fun w' f => by
       obtain ⟨x0, x1, x2, x3, x4, x5, x6⟩ := (HB.out.1.fr f (by have := HN.out; omega)).cells
       obtain ⟨y0, y1, y2, y3, y4, y5, y6⟩ := (HB.out.2.1.fr f (by have := HN.out; omega)).cells
       exact ⟨f, x0, x1, x2, x3, x4, x5, x6, y0, y1, y2, y3, y4, y5, y6⟩)
      have hS0 := HS.out w6.drew (Fr.drew _ w6)
      have hS6 := HS.out (setP w6 w2.heap.size (.int .i64 7) (.string P) (.string T') (.string F') (.int .i64 A') (.slice qa mo da) (.slice qb mn db)).drew (Fr.then (Fr.setP _ (Or.inl rfl) _ _ _ _ _ _ _) (Fr.drew _ _))
      have hS7 := HS.out (setP (setP w6 w2.heap.size (.int .i64 7) (.string P) (.string T') (.string F') (.int .i64 A') (.slice qa mo da) (.slice qb mn db)) w3.heap.size (.int .i64 7) (.string P) (.string T) (.string F) (.int .i64 (A + ((mn : Int) - (mo : Int)))) (.slice pa no ca) (.slice pb nn cb)).drew (Fr.then (Fr.then (Fr.setP _ (Or.inl rfl) _ _ _ _ _ _ _) (Fr.setP _ (Or.inr rfl) _ _ _ _ _ _ _)) (Fr.drew _ _))
      obtain ⟨c0, c1, c2, c3, c4, c5, c6⟩ := HB.out.2.2.1.cells
      obtain ⟨d0, d1, d2, d3, d4, d5, d6⟩ := HB.out.2.2.2.cells
      have cz := HB.out.2.2.1.frozen
      have dz := HB.out.2.2.2.frozen
      go_region_held3 (fun w' => Fr (fun k => k = w2.heap.size ∨ k = w3.heap.size) w6 w' ∧ w'.cell? ⟨w.heap.size, 0, none⟩ = some (.int .i64 7) ∧ w'.cell? ⟨w.heap.size, 1, none⟩ = some (.string P) ∧ w'.cell? ⟨w.heap.size, 2, none⟩ = some (.string T) ∧ w'.cell? ⟨w.heap.size, 3, none⟩ = some (.string F) ∧ w'.cell? ⟨w.heap.size, 4, none⟩ = some (.int .i64 (A + ((mn : Int) - (mo : Int)))) ∧ w'.cell? ⟨w.heap.size, 5, none⟩ = some (.slice pa no ca) ∧ w'.cell? ⟨w.heap.size, 6, none⟩ = some (.slice pb nn cb) ∧ w'.cell? ⟨w1.heap.size, 0, none⟩ = some (.int .i64 7) ∧ w'.cell? ⟨w1.heap.size, 1, none⟩ = some (.string P) ∧ w'.cell? ⟨w1.heap.size, 2, none⟩ = some (.string T') ∧ w'.cell? ⟨w1.heap.size, 3, none⟩ = some (.string F') ∧ w'.cell? ⟨w1.heap.size, 4, none⟩ = some (.int .i64 A') ∧ w'.cell? ⟨w1.heap.size, 5, none⟩ = some (.slice qa mo da) ∧ w'.cell? ⟨w1.heap.size, 6, none⟩ = some (.slice qb mn db))
       (first | with_reducible exact hS0 | with_reducible exact hS6 | with_reducible exact hS7)
       (fail)
      clear hS0 hS6 hS7 cz dz c0 c1 c2 c3 c4 c5 c6 d0 d1 d2 d3 d4 d5 d6
      go_wp2_with fail
      have hfin := Zt HW.out HB.out.2.2.1 HB.out.2.2.2 n6 (by have := HN.out; omega) (by have := HN.out; omega) (.int .i64 7) (.string P) (.string T') (.string F') (.int .i64 A') (.slice qa mo da) (.slice qb mn db) (.int .i64 7) (.string P) (.string T) (.string F) (.int .i64 (A + ((mn : Int) - (mo : Int)))) (.slice pa no ca) (.slice pb nn cb)
      exact Zr rfl rfl rfl rfl rfl hfin.1.drew hfin.2.1.drew ⟨rfl, hfin.2.2.1.then7 (Fr.drew _ _)⟩
     case neg =>
      have hR := HR2.out.trans ((if_neg h1).trans (if_neg h2))
      subst hR
      simp only
      clear HR2
      go_wp2_with fail
      have HB := HB5
      have HW := HW5
      clear x0 x1 x2 x3 x4 x5 x6 y0 y1 y2 y3 y4 y5 y6 xz yz u1 u2 u3 u4 i1 i2 i3 i4
      have HS := Zz (show (∀ w', Fr (fun k => k = w2.heap.size ∨ k = w3.heap.size) w5 w' → Fr (fun k => k = w2.heap.size ∨ k = w3.heap.size) w5 w' ∧ w'.cell? ⟨w.heap.size, 0, none⟩ = some (.int .i64 7) ∧ w'.cell? ⟨w.heap.size, 1, none⟩ = some (.string P) ∧ w'.cell? ⟨w.heap.size, 2, none⟩ = some (.string T) ∧ w'.cell? ⟨w.heap.size, 3, none⟩ = some (.string F) ∧ w'.cell? ⟨w.heap.size, 4, none⟩ = some (.int .i64 A) ∧ w'.cell? ⟨w.heap.size, 5, none⟩ = some (.slice pa no ca) ∧ w'.cell? ⟨w.heap.size, 6, none⟩ = some (.slice pb nn cb) ∧ w'.cell? ⟨w1.heap.size, 0, none⟩ = some (.int .i64 7) ∧ w'.cell? ⟨w1.heap.size, 1, none⟩ = some (.string P) ∧ w'.cell? ⟨w1.heap.size, 2, none⟩ = some (.string T') ∧ w'.cell? ⟨w1.heap.size, 3, none⟩ = some (.string F') ∧ w'.cell? ⟨w1.heap.size, 4, none⟩ = some (.int .i64 A') ∧ w'.cell? ⟨w1.heap.size, 5, none⟩ = some (.slice qa mo da) ∧ w'.cell? ⟨w1.heap.size, 6, none⟩ = some (.slice qb mn db)) from fun w' f => by
       obtain ⟨x0, x1, x2, x3, x4, x5, x6⟩ := (HB.out.1.fr f (by have := HN.out; omega)).cells
       obtain ⟨y0, y1, y2, y3, y4, y5, y6⟩ := (HB.out.2.1.fr f (by have := HN.out; omega)).cells
       exact ⟨f, x0, x1, x2, x3, x4, x5, x6, y0, y1, y2, y3, y4, y5, y6⟩)
      have hS0 := HS.out w5.drew (Fr.drew _ w5)
      have hS6 := HS.out (setP w5 w2.heap.size (.int .i64 7) (.string P) (.string T') (.string F') (.int .i64 A') (.slice qa mo da) (.slice qb mn db)).drew (Fr.then (Fr.setP _ (Or.inl rfl) _ _ _ _ _ _ _) (Fr.drew _ _))
      have hS7 := HS.out (setP (setP w5 w2.heap.size (.int .i64 7) (.string P) (.string T') (.string F') (.int .i64 A') (.slice qa mo da) (.slice qb mn db)) w3.heap.size (.int .i64 7) (.string P) (.string T) (.string F) (.int .i64 A) (.slice pa no ca) (.slice pb nn cb)).drew (Fr.then (Fr.then (Fr.setP _ (Or.inl rfl) _ _ _ _ _ _ _) (Fr.setP _ (Or.inr rfl) _ _ _ _ _ _ _)) (Fr.drew _ _))
      obtain ⟨c0, c1, c2, c3, c4, c5, c6⟩ := HB.out.2.2.1.cells
      obtain ⟨d0, d1, d2, d3, d4, d5, d6⟩ := HB.out.2.2.2.cells
      have cz := HB.out.2.2.1.frozen
      have dz := HB.out.2.2.2.frozen
      go_region_held3 (fun w' => Fr (fun k => k = w2.heap.size ∨ k = w3.heap.size) w5 w' ∧ w'.cell? ⟨w.heap.size, 0, none⟩ = some (.int .i64 7) ∧ w'.cell? ⟨w.heap.size, 1, none⟩ = some (.string P) ∧ w'.cell? ⟨w.heap.size, 2, none⟩ = some (.string T) ∧ w'.cell? ⟨w.heap.size, 3, none⟩ = some (.string F) ∧ w'.cell? ⟨w.heap.size, 4, none⟩ = some (.int .i64 A) ∧ w'.cell? ⟨w.heap.size, 5, none⟩ = some (.slice pa no ca) ∧ w'.cell? ⟨w.heap.size, 6, none⟩ = some (.slice pb nn cb) ∧ w'.cell? ⟨w1.heap.size, 0, none⟩ = some (.int .i64 7) ∧ w'.cell? ⟨w1.heap.size, 1, none⟩ = some (.string P) ∧ w'.cell? ⟨w1.heap.size, 2, none⟩ = some (.string T') ∧ w'.cell? ⟨w1.heap.size, 3, none⟩ = some (.string F') ∧ w'.cell? ⟨w1.heap.size, 4, none⟩ = some (.int .i64 A') ∧ w'.cell? ⟨w1.heap.size, 5, none⟩ = some (.slice qa mo da) ∧ w'.cell? ⟨w1.heap.size, 6, none⟩ = some (.slice qb mn db))
       (first | with_reducible exact hS0 | with_reducible exact hS6 | with_reducible exact hS7)
       (fail)
      clear hS0 hS6 hS7 cz dz c0 c1 c2 c3 c4 c5 c6 d0 d1 d2 d3 d4 d5 d6
      go_wp2_with fail
      have hfin := Zt HW.out HB.out.2.2.1 HB.out.2.2.2 n6 (by have := HN.out; omega) (by have := HN.out; omega) (.int .i64 7) (.string P) (.string T') (.string F') (.int .i64 A') (.slice qa mo da) (.slice qb mn db) (.int .i64 7) (.string P) (.string T) (.string F) (.int .i64 A) (.slice pa no ca) (.slice pb nn cb)
      exact Zr rfl rfl rfl rfl rfl hfin.1.drew hfin.2.1.drew ⟨rfl, hfin.2.2.1.then7 (Fr.drew _ _)⟩
end Go.Proofs.YtbnfjjjdnbcehaaGreatDoor
namespace Go.Proofs.YtbnfjjjdnbcehaaGreatDoor
open Go.RowKit
set_option maxRecDepth 100000
theorem psame_dec (x y : Pr) (vo vn uo un : Value) (w : World) (ho : Zv w vo x.old) (hn : Zv w vn x.new) (go : Zv w uo y.old) (gn : Zv w un y.new) (lo : x.old.length ≤ 900000) (ln : x.new.length ≤ 900000) :
  Calls Tryz.prog 32 #[.agg #[.int .i64 x.kind, .string x.path, .string x.dst, .string x.src, .int .i64 x.pos, vo, vn], .agg #[.int .i64 y.kind, .string y.path, .string y.dst, .string y.src, .int .i64 y.pos, uo, un]] w fun e w' => e = .returned (.bool (Yb x y)) ∧ Fr None' w w' := by
 obtain ⟨K, P, T, F, A, lO, lN⟩ := x
 obtain ⟨K', P', T', F', A', mO, mN⟩ := y
 simp only at ho hn go gn lo ln ⊢
 obtain ⟨pa, ca, rfl, _, _, r1⟩ := ho
 obtain ⟨pb, cb, rfl, _, _, r2⟩ := hn
 obtain ⟨qa, da, rfl, _, _, r3⟩ := go
 obtain ⟨qb, db, rfl, _, _, r4⟩ := gn
 have cO : ∀ w', Fr None' w w' → Calls Tryz.prog 50 #[.slice pa lO.length ca, .slice qa mO.length da] w' fun e w'' => e = .returned (.bool (decide (lO = mO))) ∧ Fr None' w' w'' := fun w' f => (Lines.same_any pa qa ca da lO mO w' (r1.fr (toLN f)) (r3.fr (toLN f)) (by omega)).mono fun _ _ h => ⟨h.1, ofLN h.2⟩
 have cN : ∀ w', Fr None' w w' → Calls Tryz.prog 50 #[.slice pb lN.length cb, .slice qb mN.length db] w' fun e w'' => e = .returned (.bool (decide (lN = mN))) ∧ Fr None' w' w'' := fun w' f => (Lines.same_any pb qb cb db lN mN w' (r2.fr (toLN f)) (r4.fr (toLN f)) (by omega)).mono fun _ _ h => ⟨h.1, ofLN h.2⟩
 obtain ⟨no, hno⟩ : ∃ n, lO.length = n := ⟨_, rfl⟩
 obtain ⟨nn, hnn⟩ : ∃ n, lN.length = n := ⟨_, rfl⟩
 obtain ⟨mo, hmo⟩ : ∃ n, mO.length = n := ⟨_, rfl⟩
 obtain ⟨mn, hmn⟩ : ∃ n, mN.length = n := ⟨_, rfl⟩
 rw [hno, hmo] at cO
 rw [hnn, hmn] at cN
 rw [hno, hnn, hmo, hmn]
 have HE := Zy (show Yb ⟨K, P, T, F, A, lO, lN⟩ ⟨K', P', T', F', A', mO, mN⟩ = (decide (K = K') && decide (P = P') && decide (T = T') && decide (F = F') && decide (A = A') && decide (lO = mO) && decide (lN = mN)) from rfl)
 rw [HE.out]
 obtain ⟨RO, hRO⟩ : ∃ R, decide (lO = mO) = R := ⟨_, rfl⟩
 obtain ⟨RN, hRN⟩ : ∃ R, decide (lN = mN) = R := ⟨_, rfl⟩
 rw [hRO, hRN]
 rw [hRO] at cO
 rw [hRN] at cN
 have HO := Zy cO
 have HNn := Zy cN
 obtain ⟨w1, hw1⟩ : ∃ w1, w.alloc (.cells #[.int .i64 K, .string P, .string T, .string F, .int .i64 A, .slice pa no ca, .slice pb nn cb] 43) = w1 := ⟨_, rfl⟩
 obtain ⟨w2, hw2⟩ : ∃ w2, w1.alloc (.cells #[.int .i64 K', .string P', .string T', .string F', .int .i64 A', .slice qa mo da, .slice qb mn db] 43) = w2 := ⟨_, rfl⟩
 have F1 : Fr None' w w1 := hw1 ▸ Fr.alloc None' w _
 have F2 : Fr None' w1 w2 := hw2 ▸ Fr.alloc None' w1 _
 have HF := Zy (F1.then7 F2)
 have B1 : Box w2 w.heap.size (.int .i64 K) (.string P) (.string T) (.string F) (.int .i64 A) (.slice pa no ca) (.slice pb nn cb) := (hw1 ▸ Box.new w _ _ _ _ _ _ _ : Box w1 _ _ _ _ _ _ _ _).kept F2
 have B2 : Box w2 w1.heap.size (.int .i64 K') (.string P') (.string T') (.string F') (.int .i64 A') (.slice qa mo da) (.slice qb mn db) := hw2 ▸ Box.new w1 _ _ _ _ _ _ _
 have HK := Zy (show ∀ w', Fr None' w2 w' → w'.cell? ⟨w.heap.size, 6, none⟩ = some (.slice pb nn cb) ∧ w'.cell? ⟨w1.heap.size, 6, none⟩ = some (.slice qb mn db) from fun w' f => ⟨(B1.kept f).cells.2.2.2.2.2.2, (B2.kept f).cells.2.2.2.2.2.2⟩)
 obtain ⟨a0, a1, a2, a3, a4, a5, a6⟩ := B1.cells
 obtain ⟨b0, b1, b2, b3, b4, b5, b6⟩ := B2.cells
 clear hno hnn hmo hmn F1 F2 B1 B2 r1 r2 r3 r4 lo ln cO cN hRO hRN HE
 by_cases hK : K = K'
 case neg =>
  rw [decide_eq_false hK]
  simp only [Bool.false_and]
  have z1 : (K == K') = false := beq_eq_false_iff_ne.2 hK
  clear hK
  go_enter Tryz.func32, Tryz.ntmps32
  go_wp2_with fail
  go_ret
  exact ⟨rfl, HF.out⟩
 case pos =>
 subst hK
 by_cases hP : P = P'
 case neg =>
  rw [decide_eq_false hP]
  simp only [Bool.and_false, Bool.false_and]
  obtain ⟨z1, z2⟩ := Lines.str_no hP
  clear hP
  go_enter Tryz.func32, Tryz.ntmps32
  go_wp2_with fail
  go_ret
  exact ⟨rfl, HF.out⟩
 case pos =>
 subst hP
 by_cases hT : T = T'
 case neg =>
  rw [decide_eq_false hT]
  simp only [Bool.and_false, Bool.false_and]
  obtain ⟨z1, z2⟩ := Lines.str_no hT
  clear hT
  go_enter Tryz.func32, Tryz.ntmps32
  go_wp2_with fail
  go_ret
  exact ⟨rfl, HF.out⟩
 case pos =>
 subst hT
 by_cases hF : F = F'
 case neg =>
  rw [decide_eq_false hF]
  simp only [Bool.and_false, Bool.false_and]
  obtain ⟨z1, z2⟩ := Lines.str_no hF
  clear hF
  go_enter Tryz.func32, Tryz.ntmps32
  go_wp2_with fail
  go_ret
  exact ⟨rfl, HF.out⟩
 case pos =>
 subst hF
 by_cases hA : A = A'
 case neg =>
  rw [decide_eq_false hA]
  simp only [Bool.and_false, Bool.false_and]
  have z1 : (A == A') = false := beq_eq_false_iff_ne.2 hA
  clear hA
  go_enter Tryz.func32, Tryz.ntmps32
  go_wp2_with fail
  go_ret
  exact ⟨rfl, HF.out⟩
 case pos =>
 subst hA
 simp only [decide_true, Bool.true_and]
 have q1 := HO.out w2 HF.out
 go_enter Tryz.func32, Tryz.ntmps32
 go_wp2_with fail
 with_reducible refine q1.mono ?_
 rintro e w3 ⟨rfl, F3⟩
 have q2 := HNn.out w3 (HF.out.then7 F3)
 obtain ⟨k6, j6⟩ := HK.out w3 F3
 have HF3 := Zy (HF.out.then7 F3)
 clear q1 F3 a0 a1 a2 a3 a4 a5 a6 b0 b1 b2 b3 b4 b5 b6
 cases RO with
 | false =>
  go_wp2_with fail
  go_ret
  exact ⟨rfl, HF3.out⟩
 | true =>
  go_wp2_with fail
  with_reducible refine q2.mono ?_
  rintro e w4 ⟨rfl, F4⟩
  have HX := Zy (HF3.out.then7 F4)
  clear q2 F4 k6 j6
  cases RN <;> (go_wp2_with fail; go_ret; exact ⟨rfl, HX.out⟩)
end Go.Proofs.YtbnfjjjdnbcehaaGreatDoor
namespace Go.Proofs.YtbnfjjjdnbcehaaGreatDoor
open Go.RowKit
set_option maxRecDepth 100000
theorem Z8 (x : Pr) (pa pb : Option Addr) (no nn ca cb : Nat) (w : World) :
  Calls Tryz.prog 79 #[.agg #[.int .i64 x.kind, .string x.path, .string x.dst, .string x.src, .int .i64 x.pos, .slice pa no ca, .slice pb nn cb]] w fun e w' => e = .returned (.bool (decide (7 ≤ x.kind ∧ x.kind ≤ 9))) ∧ Fr None' w w' := by
 obtain ⟨K, P, T, F, A, lO, lN⟩ := x
 simp only
 by_cases h1 : 7 ≤ K
 ·by_cases h2 : K ≤ 9
  ·have hR : decide (7 ≤ K ∧ K ≤ 9) = true := by simp; omega
   rw [hR]
   go_enter Tryz.func79, Tryz.ntmps79
   go_wp2_with fail
   go_ret
   exact ⟨rfl, Fr.alloc _ _ _⟩
  ·have hR : decide (7 ≤ K ∧ K ≤ 9) = false := by simp; omega
   rw [hR]
   go_enter Tryz.func79, Tryz.ntmps79
   go_wp2_with fail
   go_ret
   exact ⟨rfl, Fr.alloc _ _ _⟩
 ·have hR : decide (7 ≤ K ∧ K ≤ 9) = false := by simp; omega
  rw [hR]
  go_enter Tryz.func79, Tryz.ntmps79
  go_wp2_with fail
  go_ret
  exact ⟨rfl, Fr.alloc _ _ _⟩
theorem Zf (x : Pr) (pa pb : Option Addr) (no nn ca cb : Nat) (w : World) :
  Calls Tryz.prog 82 #[.agg #[.int .i64 x.kind, .string x.path, .string x.dst, .string x.src, .int .i64 x.pos, .slice pa no ca, .slice pb nn cb]] w fun e w' => e = .returned (.bool (decide (x.kind ≤ 6))) ∧ Fr None' w w' := by
 obtain ⟨K, P, T, F, A, lO, lN⟩ := x
 simp only
 by_cases h1 : K ≤ 6
 ·have hR : decide (K ≤ 6) = true := by simp; omega
  rw [hR]
  go_enter Tryz.func82, Tryz.ntmps82
  go_wp2_with fail
  go_ret
  exact ⟨rfl, Fr.alloc _ _ _⟩
 ·have hR : decide (K ≤ 6) = false := by simp; omega
  rw [hR]
  go_enter Tryz.func82, Tryz.ntmps82
  go_wp2_with fail
  go_ret
  exact ⟨rfl, Fr.alloc _ _ _⟩
theorem Zn (x : Pr) (z : ByteArray) (pa pb : Option Addr) (no nn ca cb : Nat) (w : World) (h1 : x.path.size < 900000) (h2 : x.dst.size < 900000) (h3 : z.size < 900000) :
  Calls Tryz.prog 78 #[.agg #[.int .i64 x.kind, .string x.path, .string x.dst, .string x.src, .int .i64 x.pos, .slice pa no ca, .slice pb nn cb], .string z] w fun e w' => e = .returned (.bool (apP x.path z && apP x.dst z)) ∧ Fr None' w w' := by
 obtain ⟨K, P, T, F, A, lO, lN⟩ := x
 simp only at h1 h2 ⊢
 have c1 : ∀ w', Calls Tryz.prog 63 #[.string P, .string z] w' fun e w'' => e = .returned (.bool (apP P z)) ∧ w' = w'' := fun w' => Path.rapart_any P z w' (by omega) (by omega)
 have c2 : ∀ w', Calls Tryz.prog 63 #[.string T, .string z] w' fun e w'' => e = .returned (.bool (apP T z)) ∧ w' = w'' := fun w' => Path.rapart_any T z w' (by omega) (by omega)
 generalize apP P z = R1 at c1 ⊢
 generalize apP T z = R2 at c2 ⊢
 clear h1 h2 h3
 obtain ⟨w1, hw1⟩ : ∃ w1, w.alloc (.cells #[.int .i64 K, .string P, .string T, .string F, .int .i64 A, .slice pa no ca, .slice pb nn cb] 43) = w1 := ⟨_, rfl⟩
 have HF := Zz (show Fr None' w w1 from hw1 ▸ Fr.alloc None' w _)
 obtain ⟨a0, a1, a2, a3, a4, a5, a6⟩ := (hw1 ▸ Box.new w _ _ _ _ _ _ _ : Box w1 w.heap.size (.int .i64 K) (.string P) (.string T) (.string F) (.int .i64 A) (.slice pa no ca) (.slice pb nn cb)).cells
 have q1 := c1 w1
 have q2 := c2 w1
 clear c1 c2
 cases R1 with
 | false =>
  go_enter Tryz.func78, Tryz.ntmps78
  go_wp2_with fail
  with_reducible refine q1.mono ?_
  rintro e w2 ⟨rfl, rfl⟩
  clear q1 q2
  go_wp2_with fail
  go_ret
  exact ⟨rfl, HF.out⟩
 | true =>
  go_enter Tryz.func78, Tryz.ntmps78
  go_wp2_with fail
  with_reducible refine q1.mono ?_
  rintro e w2 ⟨rfl, rfl⟩
  clear q1
  go_wp2_with fail
  with_reducible refine q2.mono ?_
  rintro e w3 ⟨rfl, rfl⟩
  clear q2
  cases R2 <;> (go_wp2_with fail; go_ret; exact ⟨rfl, HF.out⟩)
theorem Yh (x y : Pr) (pa pb qa qb : Option Addr) (no nn ca cb mo mn da db : Nat) (w : World) (ho : x.old.length = no) (hn : x.new.length = nn) (go : y.old.length = mo) (gn : y.new.length = mn) (zo : no < 900000) (zn : nn < 900000) (yo : mo < 900000) (yn : mn < 900000) (hx : 0 ≤ x.pos ∧ x.pos ≤ 1073741824) (hy : 0 ≤ y.pos ∧ y.pos ≤ 1073741824) :
  Calls Tryz.prog 77 #[.agg #[.int .i64 x.kind, .string x.path, .string x.dst, .string x.src, .int .i64 x.pos, .slice pa no ca, .slice pb nn cb], .agg #[.int .i64 y.kind, .string y.path, .string y.dst, .string y.src, .int .i64 y.pos, .slice qa mo da, .slice qb mn db]] w fun e w' => e = .returned (.tuple #[.agg #[.int .i64 (linesC x y).1.kind, .string (linesC x y).1.path, .string (linesC x y).1.dst, .string (linesC x y).1.src, .int .i64 (linesC x y).1.pos, .slice qa mo da, .slice qb mn db], .agg #[.int .i64 (linesC x y).2.1.kind, .string (linesC x y).2.1.path, .string (linesC x y).2.1.dst, .string (linesC x y).2.1.src, .int .i64 (linesC x y).2.1.pos, .slice pa no ca, .slice pb nn cb], .bool (linesC x y).2.2]) ∧ Fr None' w w' := by
 have HR := Zz (show linesC x y = if x.pos + nn < y.pos then ({ y with pos := y.pos - nn + no }, x, true) else if y.pos + mo < x.pos then (y, { x with pos := x.pos - mo + mn }, true) else (y, x, false) from by
  unfold linesC
  rw [ho, hn, go, gn]
  have e1 : y.pos + ((no : Int) - nn) = y.pos - nn + no := by omega
  have e2 : x.pos + ((mn : Int) - mo) = x.pos - mo + mn := by omega
  rw [e1, e2])
 generalize linesC x y = R at HR ⊢
 obtain ⟨K, P, T, F, A, lO, lN⟩ := x
 obtain ⟨K', P', T', F', A', lO', lN'⟩ := y
 simp only at HR hx hy ⊢
 obtain ⟨u1, u2⟩ := hx
 obtain ⟨u3, u4⟩ := hy
 have i1 : (no : Int) < 900000 := by omega
 have i2 : (nn : Int) < 900000 := by omega
 have i3 : (mo : Int) < 900000 := by omega
 have i4 : (mn : Int) < 900000 := by omega
 clear ho hn go gn zo zn yo yn
 obtain ⟨w1, hw1⟩ : ∃ w1, w.alloc (.cells #[.int .i64 K, .string P, .string T, .string F, .int .i64 A, .slice pa no ca, .slice pb nn cb] 43) = w1 := ⟨_, rfl⟩
 obtain ⟨w2, hw2⟩ : ∃ w2, w1.alloc (.cells #[.int .i64 K', .string P', .string T', .string F', .int .i64 A', .slice qa mo da, .slice qb mn db] 43) = w2 := ⟨_, rfl⟩
 obtain ⟨w3, hw3⟩ : ∃ w3, w2.alloc (.cells #[.int .i64 0, .string ⟨#[]⟩, .string ⟨#[]⟩, .string ⟨#[]⟩, .int .i64 0, .slice none 0 0, .slice none 0 0] 43) = w3 := ⟨_, rfl⟩
 obtain ⟨w4, hw4⟩ : ∃ w4, w3.alloc (.cells #[.int .i64 0, .string ⟨#[]⟩, .string ⟨#[]⟩, .string ⟨#[]⟩, .int .i64 0, .slice none 0 0, .slice none 0 0] 43) = w4 := ⟨_, rfl⟩
 have F1 : Fr None' w w1 := hw1 ▸ Fr.alloc None' w _
 have F2 : Fr None' w1 w2 := hw2 ▸ Fr.alloc None' w1 _
 have F3 : Fr None' w2 w3 := hw3 ▸ Fr.alloc None' w2 _
 have F4 : Fr None' w3 w4 := hw4 ▸ Fr.alloc None' w3 _
 have BX : Box w4 w.heap.size (.int .i64 K) (.string P) (.string T) (.string F) (.int .i64 A) (.slice pa no ca) (.slice pb nn cb) := (hw1 ▸ Box.new w _ _ _ _ _ _ _ : Box w1 _ _ _ _ _ _ _ _).kept ((F2.then7 F3).then7 F4)
 have BY : Box w4 w1.heap.size (.int .i64 K') (.string P') (.string T') (.string F') (.int .i64 A') (.slice qa mo da) (.slice qb mn db) := (hw2 ▸ Box.new w1 _ _ _ _ _ _ _ : Box w2 _ _ _ _ _ _ _ _).kept (F3.then7 F4)
 have BC : Box w4 w2.heap.size (.int .i64 0) (.string ⟨#[]⟩) (.string ⟨#[]⟩) (.string ⟨#[]⟩) (.int .i64 0) (.slice none 0 0) (.slice none 0 0) := (hw3 ▸ Box.new w2 _ _ _ _ _ _ _ : Box w3 _ _ _ _ _ _ _ _).kept F4
 have BD : Box w4 w3.heap.size (.int .i64 0) (.string ⟨#[]⟩) (.string ⟨#[]⟩) (.string ⟨#[]⟩) (.int .i64 0) (.slice none 0 0) (.slice none 0 0) := hw4 ▸ Box.new w3 _ _ _ _ _ _ _
 have s1 : w1.heap.size = w.heap.size + 1 := by rw [← hw1]; simp
 have s2 : w2.heap.size = w1.heap.size + 1 := by rw [← hw2]; simp
 have s3 : w3.heap.size = w2.heap.size + 1 := by rw [← hw3]; simp
 have HF : Hid (Fr None' w w4) := ((F1.then7 F2).then7 F3).then7 F4
 have HN : Hid (w.heap.size < w1.heap.size ∧ w1.heap.size < w2.heap.size ∧ w2.heap.size < w3.heap.size) := ⟨by omega, by omega, by omega⟩
 have n1 : ¬ w.heap.size = w1.heap.size := by omega
 have n2 : ¬ w.heap.size = w2.heap.size := by omega
 have n3 : ¬ w.heap.size = w3.heap.size := by omega
 have n4 : ¬ w1.heap.size = w2.heap.size := by omega
 have n5 : ¬ w1.heap.size = w3.heap.size := by omega
 have n6 : ¬ w2.heap.size = w3.heap.size := by omega
 have HBs : Hid (∀ w', Fr None' w4 w' → Box w' w.heap.size (.int .i64 K) (.string P) (.string T) (.string F) (.int .i64 A) (.slice pa no ca) (.slice pb nn cb) ∧ Box w' w1.heap.size (.int .i64 K') (.string P') (.string T') (.string F') (.int .i64 A') (.slice qa mo da) (.slice qb mn db) ∧ Box w' w2.heap.size (.int .i64 0) (.string ⟨#[]⟩) (.string ⟨#[]⟩) (.string ⟨#[]⟩) (.int .i64 0) (.slice none 0 0) (.slice none 0 0) ∧ Box w' w3.heap.size (.int .i64 0) (.string ⟨#[]⟩) (.string ⟨#[]⟩) (.string ⟨#[]⟩) (.int .i64 0) (.slice none 0 0) (.slice none 0 0)) := fun w' f => ⟨BX.kept f, BY.kept f, BC.kept f, BD.kept f⟩
 obtain ⟨x0, x1, x2, x3, x4, x5, x6⟩ := BX.cells
 obtain ⟨y0, y1, y2, y3, y4, y5, y6⟩ := BY.cells
 obtain ⟨c0, c1, c2, c3, c4, c5, c6⟩ := BC.cells
 obtain ⟨d0, d1, d2, d3, d4, d5, d6⟩ := BD.cells
 have xz := BX.frozen
 have yz := BY.frozen
 have cz := BC.frozen
 have dz := BD.frozen
 clear F1 F2 F3 F4 BX BY BC BD s1 s2 s3
 clear n1 n2 n3 n4 n5
 by_cases h1 : A + (nn : Int) < A'
 case pos =>
  have hR := HR.out.trans (if_pos h1)
  subst hR
  simp only
  have j1 : (nn : Int) < A' := by omega
  have j2 : A < A' - (nn : Int) := by omega
  clear HR h1
  go_enter Tryz.func77, Tryz.ntmps77
  go_wp2_with fail
  obtain ⟨w6, hw6⟩ : ∃ y, w4.setCell ⟨w1.heap.size, 4, none⟩ (.int .i64 (A' - (nn : Int) + (no : Int))) = y := ⟨_, rfl⟩
  have F6 : Fr (fun k => k = w1.heap.size) w4 w6 := hw6 ▸ Fr.setQ _ _ _ _
  have HB := Zz (show Box w6 w.heap.size (.int .i64 K) (.string P) (.string T) (.string F) (.int .i64 A) (.slice pa no ca) (.slice pb nn cb) ∧ Box w6 w1.heap.size (.int .i64 K') (.string P') (.string T') (.string F') (.int .i64 (A' - (nn : Int) + (no : Int))) (.slice qa mo da) (.slice qb mn db) ∧ Box w6 w2.heap.size (.int .i64 0) (.string ⟨#[]⟩) (.string ⟨#[]⟩) (.string ⟨#[]⟩) (.int .i64 0) (.slice none 0 0) (.slice none 0 0) ∧ Box w6 w3.heap.size (.int .i64 0) (.string ⟨#[]⟩) (.string ⟨#[]⟩) (.string ⟨#[]⟩) (.int .i64 0) (.slice none 0 0) (.slice none 0 0) from by
   obtain ⟨b1, b2, b3, b4⟩ := HBs.out w4 (Fr.refl _ _)
   have := HN.out
   exact ⟨b1.fr F6 (by omega), hw6 ▸ b2.set4 _, b3.fr F6 (by omega), b4.fr F6 (by omega)⟩)
  have HW := Zz (show Fr None' w w6 from HF.out.trans F6 (fun _ e => Or.inr (by have := HN.out; omega)))
  rw [hw6]
  clear F6 hw6
  clear x0 x1 x2 x3 x4 x5 x6 y0 y1 y2 y3 y4 y5 y6 c0 c1 c2 c3 c4 c5 c6 d0 d1 d2 d3 d4 d5 d6 xz yz cz dz u1 u2 u3 u4 i1 i2 i3 i4
  have HS := Zz (show (∀ w', Fr (fun k => k = w2.heap.size ∨ k = w3.heap.size) w6 w' → Fr (fun k => k = w2.heap.size ∨ k = w3.heap.size) w6 w' ∧ w'.cell? ⟨w.heap.size, 0, none⟩ = some (.int .i64 K) ∧ w'.cell? ⟨w.heap.size, 1, none⟩ = some (.string P) ∧ w'.cell? ⟨w.heap.size, 2, none⟩ = some (.string T) ∧ w'.cell? ⟨w.heap.size, 3, none⟩ = some (.string F) ∧ w'.cell? ⟨w.heap.size, 4, none⟩ = some (.int .i64 A) ∧ w'.cell? ⟨w.heap.size, 5, none⟩ = some (.slice pa no ca) ∧ w'.cell? ⟨w.heap.size, 6, none⟩ = some (.slice pb nn cb) ∧ w'.cell? ⟨w1.heap.size, 0, none⟩ = some (.int .i64 K') ∧ w'.cell? ⟨w1.heap.size, 1, none⟩ = some (.string P') ∧ w'.cell? ⟨w1.heap.size, 2, none⟩ = some (.string T') ∧ w'.cell? ⟨w1.heap.size, 3, none⟩ = some (.string F') ∧ w'.cell? ⟨w1.heap.size, 4, none⟩ = some (.int .i64 (A' - (nn : Int) + (no : Int))) ∧ w'.cell? ⟨w1.heap.size, 5, none⟩ = some (.slice qa mo da) ∧ w'.cell? ⟨w1.heap.size, 6, none⟩ = some (.slice qb mn db)) from fun w' f => by
   obtain ⟨x0, x1, x2, x3, x4, x5, x6⟩ := (HB.out.1.fr f (by have := HN.out; omega)).cells
   obtain ⟨y0, y1, y2, y3, y4, y5, y6⟩ := (HB.out.2.1.fr f (by have := HN.out; omega)).cells
   exact ⟨f, x0, x1, x2, x3, x4, x5, x6, y0, y1, y2, y3, y4, y5, y6⟩)
  have hS0 := HS.out w6.drew (Fr.drew _ w6)
  have hS6 := HS.out (setP w6 w2.heap.size (.int .i64 K') (.string P') (.string T') (.string F') (.int .i64 (A' - (nn : Int) + (no : Int))) (.slice qa mo da) (.slice qb mn db)).drew (Fr.then (Fr.setP _ (Or.inl rfl) _ _ _ _ _ _ _) (Fr.drew _ _))
  have hS7 := HS.out (setP (setP w6 w2.heap.size (.int .i64 K') (.string P') (.string T') (.string F') (.int .i64 (A' - (nn : Int) + (no : Int))) (.slice qa mo da) (.slice qb mn db)) w3.heap.size (.int .i64 K) (.string P) (.string T) (.string F) (.int .i64 A) (.slice pa no ca) (.slice pb nn cb)).drew (Fr.then (Fr.then (Fr.setP _ (Or.inl rfl) _ _ _ _ _ _ _) (Fr.setP _ (Or.inr rfl) _ _ _ _ _ _ _)) (Fr.drew _ _))
  obtain ⟨c0, c1, c2, c3, c4, c5, c6⟩ := HB.out.2.2.1.cells
  obtain ⟨d0, d1, d2, d3, d4, d5, d6⟩ := HB.out.2.2.2.cells
  have cz := HB.out.2.2.1.frozen
  have dz := HB.out.2.2.2.frozen
  go_region_held3 (fun w' => Fr (fun k => k = w2.heap.size ∨ k = w3.heap.size) w6 w' ∧ w'.cell? ⟨w.heap.size, 0, none⟩ = some (.int .i64 K) ∧ w'.cell? ⟨w.heap.size, 1, none⟩ = some (.string P) ∧ w'.cell? ⟨w.heap.size, 2, none⟩ = some (.string T) ∧ w'.cell? ⟨w.heap.size, 3, none⟩ = some (.string F) ∧ w'.cell? ⟨w.heap.size, 4, none⟩ = some (.int .i64 A) ∧ w'.cell? ⟨w.heap.size, 5, none⟩ = some (.slice pa no ca) ∧ w'.cell? ⟨w.heap.size, 6, none⟩ = some (.slice pb nn cb) ∧ w'.cell? ⟨w1.heap.size, 0, none⟩ = some (.int .i64 K') ∧ w'.cell? ⟨w1.heap.size, 1, none⟩ = some (.string P') ∧ w'.cell? ⟨w1.heap.size, 2, none⟩ = some (.string T') ∧ w'.cell? ⟨w1.heap.size, 3, none⟩ = some (.string F') ∧ w'.cell? ⟨w1.heap.size, 4, none⟩ = some (.int .i64 (A' - (nn : Int) + (no : Int))) ∧ w'.cell? ⟨w1.heap.size, 5, none⟩ = some (.slice qa mo da) ∧ w'.cell? ⟨w1.heap.size, 6, none⟩ = some (.slice qb mn db))
   (first | with_reducible exact hS0 | with_reducible exact hS6 | with_reducible exact hS7)
   (fail)
  clear hS0 hS6 hS7 cz dz c0 c1 c2 c3 c4 c5 c6 d0 d1 d2 d3 d4 d5 d6
  go_wp2_with fail
  have hfin := Zt HW.out HB.out.2.2.1 HB.out.2.2.2 n6 (by have := HN.out; omega) (by have := HN.out; omega) (.int .i64 K') (.string P') (.string T') (.string F') (.int .i64 (A' - (nn : Int) + (no : Int))) (.slice qa mo da) (.slice qb mn db) (.int .i64 K) (.string P) (.string T) (.string F) (.int .i64 A) (.slice pa no ca) (.slice pb nn cb)
  exact Zr rfl rfl rfl rfl rfl hfin.1.drew hfin.2.1.drew ⟨rfl, hfin.2.2.1.then7 (Fr.drew _ _)⟩
 case neg =>
  by_cases h2 : A' + (mo : Int) < A
  case pos =>
   have hR := HR.out.trans ((if_neg h1).trans (if_pos h2))
   subst hR
   simp only
   have j1 : (mo : Int) < A := by omega
   have j2 : A' < A - (mo : Int) := by omega
   have j3 : ¬ A < A' - (nn : Int) := by omega
   clear HR h1 h2
   go_enter Tryz.func77, Tryz.ntmps77
   by_cases j4 : (nn : Int) < A'
   ·go_wp2_with fail
    obtain ⟨w6, hw6⟩ : ∃ y, w4.setCell ⟨w.heap.size, 4, none⟩ (.int .i64 (A - (mo : Int) + (mn : Int))) = y := ⟨_, rfl⟩
    have F6 : Fr (fun k => k = w.heap.size) w4 w6 := hw6 ▸ Fr.setQ _ _ _ _
    have HB := Zz (show Box w6 w.heap.size (.int .i64 K) (.string P) (.string T) (.string F) (.int .i64 (A - (mo : Int) + (mn : Int))) (.slice pa no ca) (.slice pb nn cb) ∧ Box w6 w1.heap.size (.int .i64 K') (.string P') (.string T') (.string F') (.int .i64 A') (.slice qa mo da) (.slice qb mn db) ∧ Box w6 w2.heap.size (.int .i64 0) (.string ⟨#[]⟩) (.string ⟨#[]⟩) (.string ⟨#[]⟩) (.int .i64 0) (.slice none 0 0) (.slice none 0 0) ∧ Box w6 w3.heap.size (.int .i64 0) (.string ⟨#[]⟩) (.string ⟨#[]⟩) (.string ⟨#[]⟩) (.int .i64 0) (.slice none 0 0) (.slice none 0 0) from by
     obtain ⟨b1, b2, b3, b4⟩ := HBs.out w4 (Fr.refl _ _)
     have := HN.out
     exact ⟨hw6 ▸ b1.set4 _, b2.fr F6 (by omega), b3.fr F6 (by omega), b4.fr F6 (by omega)⟩)
    have HW := Zz (show Fr None' w w6 from HF.out.trans F6 (fun _ e => Or.inr (by have := HN.out; omega)))
    rw [hw6]
    clear F6 hw6
    clear x0 x1 x2 x3 x4 x5 x6 y0 y1 y2 y3 y4 y5 y6 c0 c1 c2 c3 c4 c5 c6 d0 d1 d2 d3 d4 d5 d6 xz yz cz dz u1 u2 u3 u4 i1 i2 i3 i4
    have HS := Zz (show (∀ w', Fr (fun k => k = w2.heap.size ∨ k = w3.heap.size) w6 w' → Fr (fun k => k = w2.heap.size ∨ k = w3.heap.size) w6 w' ∧ w'.cell? ⟨w.heap.size, 0, none⟩ = some (.int .i64 K) ∧ w'.cell? ⟨w.heap.size, 1, none⟩ = some (.string P) ∧ w'.cell? ⟨w.heap.size, 2, none⟩ = some (.string T) ∧ w'.cell? ⟨w.heap.size, 3, none⟩ = some (.string F) ∧ w'.cell? ⟨w.heap.size, 4, none⟩ = some (.int .i64 (A - (mo : Int) + (mn : Int))) ∧ w'.cell? ⟨w.heap.size, 5, none⟩ = some (.slice pa no ca) ∧ w'.cell? ⟨w.heap.size, 6, none⟩ = some (.slice pb nn cb) ∧ w'.cell? ⟨w1.heap.size, 0, none⟩ = some (.int .i64 K') ∧ w'.cell? ⟨w1.heap.size, 1, none⟩ = some (.string P') ∧ w'.cell? ⟨w1.heap.size, 2, none⟩ = some (.string T') ∧ w'.cell? ⟨w1.heap.size, 3, none⟩ = some (.string F') ∧ w'.cell? ⟨w1.heap.size, 4, none⟩ = some (.int .i64 A') ∧ w'.cell? ⟨w1.heap.size, 5, none⟩ = some (.slice qa mo da) ∧ w'.cell? ⟨w1.heap.size, 6, none⟩ = some (.slice qb mn db)) from fun w' f => by
     obtain ⟨x0, x1, x2, x3, x4, x5, x6⟩ := (HB.out.1.fr f (by have := HN.out; omega)).cells
     obtain ⟨y0, y1, y2, y3, y4, y5, y6⟩ := (HB.out.2.1.fr f (by have := HN.out; omega)).cells
     exact ⟨f, x0, x1, x2, x3, x4, x5, x6, y0, y1, y2, y3, y4, y5, y6⟩)
    have hS0 := HS.out w6.drew (Fr.drew _ w6)
    have hS6 := HS.out (setP w6 w2.heap.size (.int .i64 K') (.string P') (.string T') (.string F') (.int .i64 A') (.slice qa mo da) (.slice qb mn db)).drew (Fr.then (Fr.setP _ (Or.inl rfl) _ _ _ _ _ _ _) (Fr.drew _ _))
    have hS7 := HS.out (setP (setP w6 w2.heap.size (.int .i64 K') (.string P') (.string T') (.string F') (.int .i64 A') (.slice qa mo da) (.slice qb mn db)) w3.heap.size (.int .i64 K) (.string P) (.string T) (.string F) (.int .i64 (A - (mo : Int) + (mn : Int))) (.slice pa no ca) (.slice pb nn cb)).drew (Fr.then (Fr.then (Fr.setP _ (Or.inl rfl) _ _ _ _ _ _ _) (Fr.setP _ (Or.inr rfl) _ _ _ _ _ _ _)) (Fr.drew _ _))
    obtain ⟨c0, c1, c2, c3, c4, c5, c6⟩ := HB.out.2.2.1.cells
    obtain ⟨d0, d1, d2, d3, d4, d5, d6⟩ := HB.out.2.2.2.cells
    have cz := HB.out.2.2.1.frozen
    have dz := HB.out.2.2.2.frozen
    go_region_held3 (fun w' => Fr (fun k => k = w2.heap.size ∨ k = w3.heap.size) w6 w' ∧ w'.cell? ⟨w.heap.size, 0, none⟩ = some (.int .i64 K) ∧ w'.cell? ⟨w.heap.size, 1, none⟩ = some (.string P) ∧ w'.cell? ⟨w.heap.size, 2, none⟩ = some (.string T) ∧ w'.cell? ⟨w.heap.size, 3, none⟩ = some (.string F) ∧ w'.cell? ⟨w.heap.size, 4, none⟩ = some (.int .i64 (A - (mo : Int) + (mn : Int))) ∧ w'.cell? ⟨w.heap.size, 5, none⟩ = some (.slice pa no ca) ∧ w'.cell? ⟨w.heap.size, 6, none⟩ = some (.slice pb nn cb) ∧ w'.cell? ⟨w1.heap.size, 0, none⟩ = some (.int .i64 K') ∧ w'.cell? ⟨w1.heap.size, 1, none⟩ = some (.string P') ∧ w'.cell? ⟨w1.heap.size, 2, none⟩ = some (.string T') ∧ w'.cell? ⟨w1.heap.size, 3, none⟩ = some (.string F') ∧ w'.cell? ⟨w1.heap.size, 4, none⟩ = some (.int .i64 A') ∧ w'.cell? ⟨w1.heap.size, 5, none⟩ = some (.slice qa mo da) ∧ w'.cell? ⟨w1.heap.size, 6, none⟩ = some (.slice qb mn db))
     (first | with_reducible exact hS0 | with_reducible exact hS6 | with_reducible exact hS7)
     (fail)
    clear hS0 hS6 hS7 cz dz c0 c1 c2 c3 c4 c5 c6 d0 d1 d2 d3 d4 d5 d6
    go_wp2_with fail
    have hfin := Zt HW.out HB.out.2.2.1 HB.out.2.2.2 n6 (by have := HN.out; omega) (by have := HN.out; omega) (.int .i64 K') (.string P') (.string T') (.string F') (.int .i64 A') (.slice qa mo da) (.slice qb mn db) (.int .i64 K) (.string P) (.string T) (.string F) (.int .i64 (A - (mo : Int) + (mn : Int))) (.slice pa no ca) (.slice pb nn cb)
    exact Zr rfl rfl rfl rfl rfl hfin.1.drew hfin.2.1.drew ⟨rfl, hfin.2.2.1.then7 (Fr.drew _ _)⟩
   ·go_wp2_with fail
    obtain ⟨w6, hw6⟩ : ∃ y, w4.setCell ⟨w.heap.size, 4, none⟩ (.int .i64 (A - (mo : Int) + (mn : Int))) = y := ⟨_, rfl⟩
    have F6 : Fr (fun k => k = w.heap.size) w4 w6 := hw6 ▸ Fr.setQ _ _ _ _
    have HB := Zz (show Box w6 w.heap.size (.int .i64 K) (.string P) (.string T) (.string F) (.int .i64 (A - (mo : Int) + (mn : Int))) (.slice pa no ca) (.slice pb nn cb) ∧ Box w6 w1.heap.size (.int .i64 K') (.string P') (.string T') (.string F') (.int .i64 A') (.slice qa mo da) (.slice qb mn db) ∧ Box w6 w2.heap.size (.int .i64 0) (.string ⟨#[]⟩) (.string ⟨#[]⟩) (.string ⟨#[]⟩) (.int .i64 0) (.slice none 0 0) (.slice none 0 0) ∧ Box w6 w3.heap.size (.int .i64 0) (.string ⟨#[]⟩) (.string ⟨#[]⟩) (.string ⟨#[]⟩) (.int .i64 0) (.slice none 0 0) (.slice none 0 0) from by
     obtain ⟨b1, b2, b3, b4⟩ := HBs.out w4 (Fr.refl _ _)
     have := HN.out
     exact ⟨hw6 ▸ b1.set4 _, b2.fr F6 (by omega), b3.fr F6 (by omega), b4.fr F6 (by omega)⟩)
    have HW := Zz (show Fr None' w w6 from HF.out.trans F6 (fun _ e => Or.inr (by have := HN.out; omega)))
    rw [hw6]
    clear F6 hw6
    clear x0 x1 x2 x3 x4 x5 x6 y0 y1 y2 y3 y4 y5 y6 c0 c1 c2 c3 c4 c5 c6 d0 d1 d2 d3 d4 d5 d6 xz yz cz dz u1 u2 u3 u4 i1 i2 i3 i4
    have HS := Zz (show (∀ w', Fr (fun k => k = w2.heap.size ∨ k = w3.heap.size) w6 w' → Fr (fun k => k = w2.heap.size ∨ k = w3.heap.size) w6 w' ∧ w'.cell? ⟨w.heap.size, 0, none⟩ = some (.int .i64 K) ∧ w'.cell? ⟨w.heap.size, 1, none⟩ = some (.string P) ∧ w'.cell? ⟨w.heap.size, 2, none⟩ = some (.string T) ∧ w'.cell? ⟨w.heap.size, 3, none⟩ = some (.string F) ∧ w'.cell? ⟨w.heap.size, 4, none⟩ = some (.int .i64 (A - (mo : Int) + (mn : Int))) ∧ w'.cell? ⟨w.heap.size, 5, none⟩ = some (.slice pa no ca) ∧ w'.cell? ⟨w.heap.size, 6, none⟩ = some (.slice pb nn cb) ∧ w'.cell? ⟨w1.heap.size, 0, none⟩ = some (.int .i64 K') ∧ w'.cell? ⟨w1.heap.size, 1, none⟩ = some (.string P') ∧ w'.cell? ⟨w1.heap.size, 2, none⟩ = some (.string T') ∧ w'.cell? ⟨w1.heap.size, 3, none⟩ = some (.string F') ∧ w'.cell? ⟨w1.heap.size, 4, none⟩ = some (.int .i64 A') ∧ w'.cell? ⟨w1.heap.size, 5, none⟩ = some (.slice qa mo da) ∧ w'.cell? ⟨w1.heap.size, 6, none⟩ = some (.slice qb mn db)) from fun w' f => by
     obtain ⟨x0, x1, x2, x3, x4, x5, x6⟩ := (HB.out.1.fr f (by have := HN.out; omega)).cells
     obtain ⟨y0, y1, y2, y3, y4, y5, y6⟩ := (HB.out.2.1.fr f (by have := HN.out; omega)).cells
     exact ⟨f, x0, x1, x2, x3, x4, x5, x6, y0, y1, y2, y3, y4, y5, y6⟩)
    have hS0 := HS.out w6.drew (Fr.drew _ w6)
    have hS6 := HS.out (setP w6 w2.heap.size (.int .i64 K') (.string P') (.string T') (.string F') (.int .i64 A') (.slice qa mo da) (.slice qb mn db)).drew (Fr.then (Fr.setP _ (Or.inl rfl) _ _ _ _ _ _ _) (Fr.drew _ _))
    have hS7 := HS.out (setP (setP w6 w2.heap.size (.int .i64 K') (.string P') (.string T') (.string F') (.int .i64 A') (.slice qa mo da) (.slice qb mn db)) w3.heap.size (.int .i64 K) (.string P) (.string T) (.string F) (.int .i64 (A - (mo : Int) + (mn : Int))) (.slice pa no ca) (.slice pb nn cb)).drew (Fr.then (Fr.then (Fr.setP _ (Or.inl rfl) _ _ _ _ _ _ _) (Fr.setP _ (Or.inr rfl) _ _ _ _ _ _ _)) (Fr.drew _ _))
    obtain ⟨c0, c1, c2, c3, c4, c5, c6⟩ := HB.out.2.2.1.cells
    obtain ⟨d0, d1, d2, d3, d4, d5, d6⟩ := HB.out.2.2.2.cells
    have cz := HB.out.2.2.1.frozen
    have dz := HB.out.2.2.2.frozen
    go_region_held3 (fun w' => Fr (fun k => k = w2.heap.size ∨ k = w3.heap.size) w6 w' ∧ w'.cell? ⟨w.heap.size, 0, none⟩ = some (.int .i64 K) ∧ w'.cell? ⟨w.heap.size, 1, none⟩ = some (.string P) ∧ w'.cell? ⟨w.heap.size, 2, none⟩ = some (.string T) ∧ w'.cell? ⟨w.heap.size, 3, none⟩ = some (.string F) ∧ w'.cell? ⟨w.heap.size, 4, none⟩ = some (.int .i64 (A - (mo : Int) + (mn : Int))) ∧ w'.cell? ⟨w.heap.size, 5, none⟩ = some (.slice pa no ca) ∧ w'.cell? ⟨w.heap.size, 6, none⟩ = some (.slice pb nn cb) ∧ w'.cell? ⟨w1.heap.size, 0, none⟩ = some (.int .i64 K') ∧ w'.cell? ⟨w1.heap.size, 1, none⟩ = some (.string P') ∧ w'.cell? ⟨w1.heap.size, 2, none⟩ = some (.string T') ∧ w'.cell? ⟨w1.heap.size, 3, none⟩ = some (.string F') ∧ w'.cell? ⟨w1.heap.size, 4, none⟩ = some (.int .i64 A') ∧ w'.cell? ⟨w1.heap.size, 5, none⟩ = some (.slice qa mo da) ∧ w'.cell? ⟨w1.heap.size, 6, none⟩ = some (.slice qb mn db))
     (first | with_reducible exact hS0 | with_reducible exact hS6 | with_reducible exact hS7)
     (fail)
    clear hS0 hS6 hS7 cz dz c0 c1 c2 c3 c4 c5 c6 d0 d1 d2 d3 d4 d5 d6
    go_wp2_with fail
    have hfin := Zt HW.out HB.out.2.2.1 HB.out.2.2.2 n6 (by have := HN.out; omega) (by have := HN.out; omega) (.int .i64 K') (.string P') (.string T') (.string F') (.int .i64 A') (.slice qa mo da) (.slice qb mn db) (.int .i64 K) (.string P) (.string T) (.string F) (.int .i64 (A - (mo : Int) + (mn : Int))) (.slice pa no ca) (.slice pb nn cb)
    exact Zr rfl rfl rfl rfl rfl hfin.1.drew hfin.2.1.drew ⟨rfl, hfin.2.2.1.then7 (Fr.drew _ _)⟩
  case neg =>
   have hR := HR.out.trans ((if_neg h1).trans (if_neg h2))
   subst hR
   simp only
   have j3 : ¬ A < A' - (nn : Int) := by omega
   have j5 : ¬ A' < A - (mo : Int) := by omega
   clear HR h1 h2
   have HB := Zz (HBs.out w4 (Fr.refl _ _))
   have HW := HF
   go_enter Tryz.func77, Tryz.ntmps77
   by_cases j4 : (nn : Int) < A' <;> by_cases j6 : (mo : Int) < A
   ·go_wp2_with fail
    clear x0 x1 x2 x3 x4 x5 x6 y0 y1 y2 y3 y4 y5 y6 c0 c1 c2 c3 c4 c5 c6 d0 d1 d2 d3 d4 d5 d6 xz yz cz dz u1 u2 u3 u4 i1 i2 i3 i4
    have HS := Zz (show (∀ w', Fr (fun k => k = w2.heap.size ∨ k = w3.heap.size) w4 w' → Fr (fun k => k = w2.heap.size ∨ k = w3.heap.size) w4 w' ∧ w'.cell? ⟨w.heap.size, 0, none⟩ = some (.int .i64 K) ∧ w'.cell? ⟨w.heap.size, 1, none⟩ = some (.string P) ∧ w'.cell? ⟨w.heap.size, 2, none⟩ = some (.string T) ∧ w'.cell? ⟨w.heap.size, 3, none⟩ = some (.string F) ∧ w'.cell? ⟨w.heap.size, 4, none⟩ = some (.int .i64 A) ∧ w'.cell? ⟨w.heap.size, 5, none⟩ = some (.slice pa no ca) ∧ w'.cell? ⟨w.heap.size, 6, none⟩ = some (.slice pb nn cb) ∧ w'.cell? ⟨w1.heap.size, 0, none⟩ = some (.int .i64 K') ∧ w'.cell? ⟨w1.heap.size, 1, none⟩ = some (.string P') ∧ w'.cell? ⟨w1.heap.size, 2, none⟩ = some (.string T') ∧ w'.cell? ⟨w1.heap.size, 3, none⟩ = some (.string F') ∧ w'.cell? ⟨w1.heap.size, 4, none⟩ = some (.int .i64 A') ∧ w'.cell? ⟨w1.heap.size, 5, none⟩ = some (.slice qa mo da) ∧ w'.cell? ⟨w1.heap.size, 6, none⟩ = some (.slice qb mn db)) from fun w' f => by
     obtain ⟨x0, x1, x2, x3, x4, x5, x6⟩ := (HB.out.1.fr f (by have := HN.out; omega)).cells
     obtain ⟨y0, y1, y2, y3, y4, y5, y6⟩ := (HB.out.2.1.fr f (by have := HN.out; omega)).cells
     exact ⟨f, x0, x1, x2, x3, x4, x5, x6, y0, y1, y2, y3, y4, y5, y6⟩)
    have hS0 := HS.out w4.drew (Fr.drew _ w4)
    have hS6 := HS.out (setP w4 w2.heap.size (.int .i64 K') (.string P') (.string T') (.string F') (.int .i64 A') (.slice qa mo da) (.slice qb mn db)).drew (Fr.then (Fr.setP _ (Or.inl rfl) _ _ _ _ _ _ _) (Fr.drew _ _))
    have hS7 := HS.out (setP (setP w4 w2.heap.size (.int .i64 K') (.string P') (.string T') (.string F') (.int .i64 A') (.slice qa mo da) (.slice qb mn db)) w3.heap.size (.int .i64 K) (.string P) (.string T) (.string F) (.int .i64 A) (.slice pa no ca) (.slice pb nn cb)).drew (Fr.then (Fr.then (Fr.setP _ (Or.inl rfl) _ _ _ _ _ _ _) (Fr.setP _ (Or.inr rfl) _ _ _ _ _ _ _)) (Fr.drew _ _))
    obtain ⟨c0, c1, c2, c3, c4, c5, c6⟩ := HB.out.2.2.1.cells
    obtain ⟨d0, d1, d2, d3, d4, d5, d6⟩ := HB.out.2.2.2.cells
    have cz := HB.out.2.2.1.frozen
    have dz := HB.out.2.2.2.frozen
    go_region_held3 (fun w' => Fr (fun k => k = w2.heap.size ∨ k = w3.heap.size) w4 w' ∧ w'.cell? ⟨w.heap.size, 0, none⟩ = some (.int .i64 K) ∧ w'.cell? ⟨w.heap.size, 1, none⟩ = some (.string P) ∧ w'.cell? ⟨w.heap.size, 2, none⟩ = some (.string T) ∧ w'.cell? ⟨w.heap.size, 3, none⟩ = some (.string F) ∧ w'.cell? ⟨w.heap.size, 4, none⟩ = some (.int .i64 A) ∧ w'.cell? ⟨w.heap.size, 5, none⟩ = some (.slice pa no ca) ∧ w'.cell? ⟨w.heap.size, 6, none⟩ = some (.slice pb nn cb) ∧ w'.cell? ⟨w1.heap.size, 0, none⟩ = some (.int .i64 K') ∧ w'.cell? ⟨w1.heap.size, 1, none⟩ = some (.string P') ∧ w'.cell? ⟨w1.heap.size, 2, none⟩ = some (.string T') ∧ w'.cell? ⟨w1.heap.size, 3, none⟩ = some (.string F') ∧ w'.cell? ⟨w1.heap.size, 4, none⟩ = some (.int .i64 A') ∧ w'.cell? ⟨w1.heap.size, 5, none⟩ = some (.slice qa mo da) ∧ w'.cell? ⟨w1.heap.size, 6, none⟩ = some (.slice qb mn db))
     (first | with_reducible exact hS0 | with_reducible exact hS6 | with_reducible exact hS7)
     (fail)
    clear hS0 hS6 hS7 cz dz c0 c1 c2 c3 c4 c5 c6 d0 d1 d2 d3 d4 d5 d6
    go_wp2_with fail
    have hfin := Zt HW.out HB.out.2.2.1 HB.out.2.2.2 n6 (by have := HN.out; omega) (by have := HN.out; omega) (.int .i64 K') (.string P') (.string T') (.string F') (.int .i64 A') (.slice qa mo da) (.slice qb mn db) (.int .i64 K) (.string P) (.string T) (.string F) (.int .i64 A) (.slice pa no ca) (.slice pb nn cb)
    exact Zr rfl rfl rfl rfl rfl hfin.1.drew hfin.2.1.drew ⟨rfl, hfin.2.2.1.then7 (Fr.drew _ _)⟩
   ·go_wp2_with fail
    clear x0 x1 x2 x3 x4 x5 x6 y0 y1 y2 y3 y4 y5 y6 c0 c1 c2 c3 c4 c5 c6 d0 d1 d2 d3 d4 d5 d6 xz yz cz dz u1 u2 u3 u4 i1 i2 i3 i4
    have HS := Zz (show (∀ w', Fr (fun k => k = w2.heap.size ∨ k = w3.heap.size) w4 w' → Fr (fun k => k = w2.heap.size ∨ k = w3.heap.size) w4 w' ∧ w'.cell? ⟨w.heap.size, 0, none⟩ = some (.int .i64 K) ∧ w'.cell? ⟨w.heap.size, 1, none⟩ = some (.string P) ∧ w'.cell? ⟨w.heap.size, 2, none⟩ = some (.string T) ∧ w'.cell? ⟨w.heap.size, 3, none⟩ = some (.string F) ∧ w'.cell? ⟨w.heap.size, 4, none⟩ = some (.int .i64 A) ∧ w'.cell? ⟨w.heap.size, 5, none⟩ = some (.slice pa no ca) ∧ w'.cell? ⟨w.heap.size, 6, none⟩ = some (.slice pb nn cb) ∧ w'.cell? ⟨w1.heap.size, 0, none⟩ = some (.int .i64 K') ∧ w'.cell? ⟨w1.heap.size, 1, none⟩ = some (.string P') ∧ w'.cell? ⟨w1.heap.size, 2, none⟩ = some (.string T') ∧ w'.cell? ⟨w1.heap.size, 3, none⟩ = some (.string F') ∧ w'.cell? ⟨w1.heap.size, 4, none⟩ = some (.int .i64 A') ∧ w'.cell? ⟨w1.heap.size, 5, none⟩ = some (.slice qa mo da) ∧ w'.cell? ⟨w1.heap.size, 6, none⟩ = some (.slice qb mn db)) from fun w' f => by
     obtain ⟨x0, x1, x2, x3, x4, x5, x6⟩ := (HB.out.1.fr f (by have := HN.out; omega)).cells
     obtain ⟨y0, y1, y2, y3, y4, y5, y6⟩ := (HB.out.2.1.fr f (by have := HN.out; omega)).cells
     exact ⟨f, x0, x1, x2, x3, x4, x5, x6, y0, y1, y2, y3, y4, y5, y6⟩)
    have hS0 := HS.out w4.drew (Fr.drew _ w4)
    have hS6 := HS.out (setP w4 w2.heap.size (.int .i64 K') (.string P') (.string T') (.string F') (.int .i64 A') (.slice qa mo da) (.slice qb mn db)).drew (Fr.then (Fr.setP _ (Or.inl rfl) _ _ _ _ _ _ _) (Fr.drew _ _))
    have hS7 := HS.out (setP (setP w4 w2.heap.size (.int .i64 K') (.string P') (.string T') (.string F') (.int .i64 A') (.slice qa mo da) (.slice qb mn db)) w3.heap.size (.int .i64 K) (.string P) (.string T) (.string F) (.int .i64 A) (.slice pa no ca) (.slice pb nn cb)).drew (Fr.then (Fr.then (Fr.setP _ (Or.inl rfl) _ _ _ _ _ _ _) (Fr.setP _ (Or.inr rfl) _ _ _ _ _ _ _)) (Fr.drew _ _))
    obtain ⟨c0, c1, c2, c3, c4, c5, c6⟩ := HB.out.2.2.1.cells
    obtain ⟨d0, d1, d2, d3, d4, d5, d6⟩ := HB.out.2.2.2.cells
    have cz := HB.out.2.2.1.frozen
    have dz := HB.out.2.2.2.frozen
    go_region_held3 (fun w' => Fr (fun k => k = w2.heap.size ∨ k = w3.heap.size) w4 w' ∧ w'.cell? ⟨w.heap.size, 0, none⟩ = some (.int .i64 K) ∧ w'.cell? ⟨w.heap.size, 1, none⟩ = some (.string P) ∧ w'.cell? ⟨w.heap.size, 2, none⟩ = some (.string T) ∧ w'.cell? ⟨w.heap.size, 3, none⟩ = some (.string F) ∧ w'.cell? ⟨w.heap.size, 4, none⟩ = some (.int .i64 A) ∧ w'.cell? ⟨w.heap.size, 5, none⟩ = some (.slice pa no ca) ∧ w'.cell? ⟨w.heap.size, 6, none⟩ = some (.slice pb nn cb) ∧ w'.cell? ⟨w1.heap.size, 0, none⟩ = some (.int .i64 K') ∧ w'.cell? ⟨w1.heap.size, 1, none⟩ = some (.string P') ∧ w'.cell? ⟨w1.heap.size, 2, none⟩ = some (.string T') ∧ w'.cell? ⟨w1.heap.size, 3, none⟩ = some (.string F') ∧ w'.cell? ⟨w1.heap.size, 4, none⟩ = some (.int .i64 A') ∧ w'.cell? ⟨w1.heap.size, 5, none⟩ = some (.slice qa mo da) ∧ w'.cell? ⟨w1.heap.size, 6, none⟩ = some (.slice qb mn db))
     (first | with_reducible exact hS0 | with_reducible exact hS6 | with_reducible exact hS7)
     (fail)
    clear hS0 hS6 hS7 cz dz c0 c1 c2 c3 c4 c5 c6 d0 d1 d2 d3 d4 d5 d6
    go_wp2_with fail
    have hfin := Zt HW.out HB.out.2.2.1 HB.out.2.2.2 n6 (by have := HN.out; omega) (by have := HN.out; omega) (.int .i64 K') (.string P') (.string T') (.string F') (.int .i64 A') (.slice qa mo da) (.slice qb mn db) (.int .i64 K) (.string P) (.string T) (.string F) (.int .i64 A) (.slice pa no ca) (.slice pb nn cb)
    exact Zr rfl rfl rfl rfl rfl hfin.1.drew hfin.2.1.drew ⟨rfl, hfin.2.2.1.then7 (Fr.drew _ _)⟩
   ·go_wp2_with fail
    clear x0 x1 x2 x3 x4 x5 x6 y0 y1 y2 y3 y4 y5 y6 c0 c1 c2 c3 c4 c5 c6 d0 d1 d2 d3 d4 d5 d6 xz yz cz dz u1 u2 u3 u4 i1 i2 i3 i4
    have HS := Zz (show (∀ w', Fr (fun k => k = w2.heap.size ∨ k = w3.heap.size) w4 w' → Fr (fun k => k = w2.heap.size ∨ k = w3.heap.size) w4 w' ∧ w'.cell? ⟨w.heap.size, 0, none⟩ = some (.int .i64 K) ∧ w'.cell? ⟨w.heap.size, 1, none⟩ = some (.string P) ∧ w'.cell? ⟨w.heap.size, 2, none⟩ = some (.string T) ∧ w'.cell? ⟨w.heap.size, 3, none⟩ = some (.string F) ∧ w'.cell? ⟨w.heap.size, 4, none⟩ = some (.int .i64 A) ∧ w'.cell? ⟨w.heap.size, 5, none⟩ = some (.slice pa no ca) ∧ w'.cell? ⟨w.heap.size, 6, none⟩ = some (.slice pb nn cb) ∧ w'.cell? ⟨w1.heap.size, 0, none⟩ = some (.int .i64 K') ∧ w'.cell? ⟨w1.heap.size, 1, none⟩ = some (.string P') ∧ w'.cell? ⟨w1.heap.size, 2, none⟩ = some (.string T') ∧ w'.cell? ⟨w1.heap.size, 3, none⟩ = some (.string F') ∧ w'.cell? ⟨w1.heap.size, 4, none⟩ = some (.int .i64 A') ∧ w'.cell? ⟨w1.heap.size, 5, none⟩ = some (.slice qa mo da) ∧ w'.cell? ⟨w1.heap.size, 6, none⟩ = some (.slice qb mn db)) from fun w' f => by
     obtain ⟨x0, x1, x2, x3, x4, x5, x6⟩ := (HB.out.1.fr f (by have := HN.out; omega)).cells
     obtain ⟨y0, y1, y2, y3, y4, y5, y6⟩ := (HB.out.2.1.fr f (by have := HN.out; omega)).cells
     exact ⟨f, x0, x1, x2, x3, x4, x5, x6, y0, y1, y2, y3, y4, y5, y6⟩)
    have hS0 := HS.out w4.drew (Fr.drew _ w4)
    have hS6 := HS.out (setP w4 w2.heap.size (.int .i64 K') (.string P') (.string T') (.string F') (.int .i64 A') (.slice qa mo da) (.slice qb mn db)).drew (Fr.then (Fr.setP _ (Or.inl rfl) _ _ _ _ _ _ _) (Fr.drew _ _))
    have hS7 := HS.out (setP (setP w4 w2.heap.size (.int .i64 K') (.string P') (.string T') (.string F') (.int .i64 A') (.slice qa mo da) (.slice qb mn db)) w3.heap.size (.int .i64 K) (.string P) (.string T) (.string F) (.int .i64 A) (.slice pa no ca) (.slice pb nn cb)).drew (Fr.then (Fr.then (Fr.setP _ (Or.inl rfl) _ _ _ _ _ _ _) (Fr.setP _ (Or.inr rfl) _ _ _ _ _ _ _)) (Fr.drew _ _))
    obtain ⟨c0, c1, c2, c3, c4, c5, c6⟩ := HB.out.2.2.1.cells
    obtain ⟨d0, d1, d2, d3, d4, d5, d6⟩ := HB.out.2.2.2.cells
    have cz := HB.out.2.2.1.frozen
    have dz := HB.out.2.2.2.frozen
    go_region_held3 (fun w' => Fr (fun k => k = w2.heap.size ∨ k = w3.heap.size) w4 w' ∧ w'.cell? ⟨w.heap.size, 0, none⟩ = some (.int .i64 K) ∧ w'.cell? ⟨w.heap.size, 1, none⟩ = some (.string P) ∧ w'.cell? ⟨w.heap.size, 2, none⟩ = some (.string T) ∧ w'.cell? ⟨w.heap.size, 3, none⟩ = some (.string F) ∧ w'.cell? ⟨w.heap.size, 4, none⟩ = some (.int .i64 A) ∧ w'.cell? ⟨w.heap.size, 5, none⟩ = some (.slice pa no ca) ∧ w'.cell? ⟨w.heap.size, 6, none⟩ = some (.slice pb nn cb) ∧ w'.cell? ⟨w1.heap.size, 0, none⟩ = some (.int .i64 K') ∧ w'.cell? ⟨w1.heap.size, 1, none⟩ = some (.string P') ∧ w'.cell? ⟨w1.heap.size, 2, none⟩ = some (.string T') ∧ w'.cell? ⟨w1.heap.size, 3, none⟩ = some (.string F') ∧ w'.cell? ⟨w1.heap.size, 4, none⟩ = some (.int .i64 A') ∧ w'.cell? ⟨w1.heap.size, 5, none⟩ = some (.slice qa mo da) ∧ w'.cell? ⟨w1.heap.size, 6, none⟩ = some (.slice qb mn db))
     (first | with_reducible exact hS0 | with_reducible exact hS6 | with_reducible exact hS7)
     (fail)
    clear hS0 hS6 hS7 cz dz c0 c1 c2 c3 c4 c5 c6 d0 d1 d2 d3 d4 d5 d6
    go_wp2_with fail
    have hfin := Zt HW.out HB.out.2.2.1 HB.out.2.2.2 n6 (by have := HN.out; omega) (by have := HN.out; omega) (.int .i64 K') (.string P') (.string T') (.string F') (.int .i64 A') (.slice qa mo da) (.slice qb mn db) (.int .i64 K) (.string P) (.string T) (.string F) (.int .i64 A) (.slice pa no ca) (.slice pb nn cb)
    exact Zr rfl rfl rfl rfl rfl hfin.1.drew hfin.2.1.drew ⟨rfl, hfin.2.2.1.then7 (Fr.drew _ _)⟩
   ·go_wp2_with fail
    clear x0 x1 x2 x3 x4 x5 x6 y0 y1 y2 y3 y4 y5 y6 c0 c1 c2 c3 c4 c5 c6 d0 d1 d2 d3 d4 d5 d6 xz yz cz dz u1 u2 u3 u4 i1 i2 i3 i4
    have HS := Zz (show (∀ w', Fr (fun k => k = w2.heap.size ∨ k = w3.heap.size) w4 w' → Fr (fun k => k = w2.heap.size ∨ k = w3.heap.size) w4 w' ∧ w'.cell? ⟨w.heap.size, 0, none⟩ = some (.int .i64 K) ∧ w'.cell? ⟨w.heap.size, 1, none⟩ = some (.string P) ∧ w'.cell? ⟨w.heap.size, 2, none⟩ = some (.string T) ∧ w'.cell? ⟨w.heap.size, 3, none⟩ = some (.string F) ∧ w'.cell? ⟨w.heap.size, 4, none⟩ = some (.int .i64 A) ∧ w'.cell? ⟨w.heap.size, 5, none⟩ = some (.slice pa no ca) ∧ w'.cell? ⟨w.heap.size, 6, none⟩ = some (.slice pb nn cb) ∧ w'.cell? ⟨w1.heap.size, 0, none⟩ = some (.int .i64 K') ∧ w'.cell? ⟨w1.heap.size, 1, none⟩ = some (.string P') ∧ w'.cell? ⟨w1.heap.size, 2, none⟩ = some (.string T') ∧ w'.cell? ⟨w1.heap.size, 3, none⟩ = some (.string F') ∧ w'.cell? ⟨w1.heap.size, 4, none⟩ = some (.int .i64 A') ∧ w'.cell? ⟨w1.heap.size, 5, none⟩ = some (.slice qa mo da) ∧ w'.cell? ⟨w1.heap.size, 6, none⟩ = some (.slice qb mn db)) from fun w' f => by
     obtain ⟨x0, x1, x2, x3, x4, x5, x6⟩ := (HB.out.1.fr f (by have := HN.out; omega)).cells
     obtain ⟨y0, y1, y2, y3, y4, y5, y6⟩ := (HB.out.2.1.fr f (by have := HN.out; omega)).cells
     exact ⟨f, x0, x1, x2, x3, x4, x5, x6, y0, y1, y2, y3, y4, y5, y6⟩)
    have hS0 := HS.out w4.drew (Fr.drew _ w4)
    have hS6 := HS.out (setP w4 w2.heap.size (.int .i64 K') (.string P') (.string T') (.string F') (.int .i64 A') (.slice qa mo da) (.slice qb mn db)).drew (Fr.then (Fr.setP _ (Or.inl rfl) _ _ _ _ _ _ _) (Fr.drew _ _))
    have hS7 := HS.out (setP (setP w4 w2.heap.size (.int .i64 K') (.string P') (.string T') (.string F') (.int .i64 A') (.slice qa mo da) (.slice qb mn db)) w3.heap.size (.int .i64 K) (.string P) (.string T) (.string F) (.int .i64 A) (.slice pa no ca) (.slice pb nn cb)).drew (Fr.then (Fr.then (Fr.setP _ (Or.inl rfl) _ _ _ _ _ _ _) (Fr.setP _ (Or.inr rfl) _ _ _ _ _ _ _)) (Fr.drew _ _))
    obtain ⟨c0, c1, c2, c3, c4, c5, c6⟩ := HB.out.2.2.1.cells
    obtain ⟨d0, d1, d2, d3, d4, d5, d6⟩ := HB.out.2.2.2.cells
    have cz := HB.out.2.2.1.frozen
    have dz := HB.out.2.2.2.frozen
    go_region_held3 (fun w' => Fr (fun k => k = w2.heap.size ∨ k = w3.heap.size) w4 w' ∧ w'.cell? ⟨w.heap.size, 0, none⟩ = some (.int .i64 K) ∧ w'.cell? ⟨w.heap.size, 1, none⟩ = some (.string P) ∧ w'.cell? ⟨w.heap.size, 2, none⟩ = some (.string T) ∧ w'.cell? ⟨w.heap.size, 3, none⟩ = some (.string F) ∧ w'.cell? ⟨w.heap.size, 4, none⟩ = some (.int .i64 A) ∧ w'.cell? ⟨w.heap.size, 5, none⟩ = some (.slice pa no ca) ∧ w'.cell? ⟨w.heap.size, 6, none⟩ = some (.slice pb nn cb) ∧ w'.cell? ⟨w1.heap.size, 0, none⟩ = some (.int .i64 K') ∧ w'.cell? ⟨w1.heap.size, 1, none⟩ = some (.string P') ∧ w'.cell? ⟨w1.heap.size, 2, none⟩ = some (.string T') ∧ w'.cell? ⟨w1.heap.size, 3, none⟩ = some (.string F') ∧ w'.cell? ⟨w1.heap.size, 4, none⟩ = some (.int .i64 A') ∧ w'.cell? ⟨w1.heap.size, 5, none⟩ = some (.slice qa mo da) ∧ w'.cell? ⟨w1.heap.size, 6, none⟩ = some (.slice qb mn db))
     (first | with_reducible exact hS0 | with_reducible exact hS6 | with_reducible exact hS7)
     (fail)
    clear hS0 hS6 hS7 cz dz c0 c1 c2 c3 c4 c5 c6 d0 d1 d2 d3 d4 d5 d6
    go_wp2_with fail
    have hfin := Zt HW.out HB.out.2.2.1 HB.out.2.2.2 n6 (by have := HN.out; omega) (by have := HN.out; omega) (.int .i64 K') (.string P') (.string T') (.string F') (.int .i64 A') (.slice qa mo da) (.slice qb mn db) (.int .i64 K) (.string P) (.string T) (.string F) (.int .i64 A) (.slice pa no ca) (.slice pb nn cb)
    exact Zr rfl rfl rfl rfl rfl hfin.1.drew hfin.2.1.drew ⟨rfl, hfin.2.2.1.then7 (Fr.drew _ _)⟩
end Go.Proofs.YtbnfjjjdnbcehaaGreatDoor
