/- What is proved here: contracts that SeqTells stands on. Conditions: as each theorem names them. -/
import Derived.Test.YtbnfjjjdnbcehaaGreatDoorMTable10
import Derived.Conc.MuLone
set_option maxHeartbeats 16000000
namespace Go.Proofs.YtbnfjjjdnbcehaaGreatDoor
open Go.RowKit
set_option maxRecDepth 100000
theorem idx33_0 (v0 v1 v2 v3 v4 v5 v6 v7 v8 : Value) (w : World) : (Instr.index 133 (.agg #[v0, v1, v2, v3, v4, v5, v6, v7, v8]) (.int .i64 0)).run Tryz.prog w = .ok (.agg #[v0, v1, v2]) w := by kernel_rfl
theorem idx33_1 (v0 v1 v2 v3 v4 v5 v6 v7 v8 : Value) (w : World) : (Instr.index 133 (.agg #[v0, v1, v2, v3, v4, v5, v6, v7, v8]) (.int .i64 1)).run Tryz.prog w = .ok (.agg #[v3, v4, v5]) w := by kernel_rfl
theorem idx33_2 (v0 v1 v2 v3 v4 v5 v6 v7 v8 : Value) (w : World) : (Instr.index 133 (.agg #[v0, v1, v2, v3, v4, v5, v6, v7, v8]) (.int .i64 2)).run Tryz.prog w = .ok (.agg #[v6, v7, v8]) w := by kernel_rfl
theorem idx3_0 (v0 v1 v2 : Value) (w : World) : (Instr.index 132 (.agg #[v0, v1, v2]) (.int .i64 0)).run Tryz.prog w = .ok v0 w := by kernel_rfl
theorem idx3_1 (v0 v1 v2 : Value) (w : World) : (Instr.index 132 (.agg #[v0, v1, v2]) (.int .i64 1)).run Tryz.prog w = .ok v1 w := by kernel_rfl
theorem idx3_2 (v0 v1 v2 : Value) (w : World) : (Instr.index 132 (.agg #[v0, v1, v2]) (.int .i64 2)).run Tryz.prog w = .ok v2 w := by kernel_rfl
attribute [local go_sem] idx33_0 idx33_1 idx33_2 idx3_0 idx3_1 idx3_2
def RuleAns (r : Pr × Pr × Bool) (pa pb qa qb : Option Addr) (no nn ca cb mo mn da db : Nat) (w : World) (e : Ending) (w' : World) : Prop := e = .returned (.tuple #[.agg #[.int .i64 r.1.kind, .string r.1.path, .string r.1.dst, .string r.1.src, .int .i64 r.1.pos, .slice qa mo da, .slice qb mn db], .agg #[.int .i64 r.2.1.kind, .string r.2.1.path, .string r.2.1.dst, .string r.2.1.src, .int .i64 r.2.1.pos, .slice pa no ca, .slice pb nn cb], .bool r.2.2]) ∧ Fr None' w w'
def Yv (x y : Pr) (pa pb qa qb : Option Addr) (no nn ca cb mo mn da db : Nat) (w : World) (e : Ending) (w' : World) : Prop := ∃ fn cap, e = .returned (.func (.func fn) #[] cap) ∧ (∀ args w, (callFunc fn args).run Tryz.prog w = .ok (.enter fn args) w) ∧ Hid (∀ w'', Fr None' w' w'' → Calls Tryz.prog fn (#[.agg #[.int .i64 x.kind, .string x.path, .string x.dst, .string x.src, .int .i64 x.pos, .slice pa no ca, .slice pb nn cb], .agg #[.int .i64 y.kind, .string y.path, .string y.dst, .string y.src, .int .i64 y.pos, .slice qa mo da, .slice qb mn db]] ++ cap) w'' (RuleAns (Zx x y) pa pb qa qb no nn ca cb mo mn da db w'')) ∧ Fr None' w w'
structure Fits (x : Pr) (no nn : Nat) : Prop where
 o : x.old.length = no
 n : x.new.length = nn
 s : Zs x
 r : Zw x = true
theorem Fits.pos {x : Pr} {no nn : Nat} (h : Fits x no nn) : x.kind = 7 → 0 ≤ x.pos ∧ x.pos ≤ 1073741824 := fun e => by
 have hr := h.r
 unfold Zw Ze Zm at hr
 rw [e] at hr
 simp only [Bool.and_eq_true, decide_eq_true_eq] at hr
 simp at hr
 omega
theorem ruleOf_00 (x y : Pr) (pa pb qa qb : Option Addr) (no nn ca cb mo mn da db : Nat) (w : World) (_fx : Fits x no nn) (_fy : Fits y mo mn) (hi : Ys x = 0) (hj : Ys y = 0) :
  Calls Tryz.prog 76 #[.agg #[.int .i64 x.kind, .string x.path, .string x.dst, .string x.src, .int .i64 x.pos, .slice pa no ca, .slice pb nn cb], .agg #[.int .i64 y.kind, .string y.path, .string y.dst, .string y.src, .int .i64 y.pos, .slice qa mo da, .slice qb mn db]] w fun e w' => Yv x y pa pb qa qb no nn ca cb mo mn da db w e w' := by
 have HX := Zz (show ∀ w', Calls Tryz.prog 117 #[.agg #[.int .i64 x.kind, .string x.path, .string x.dst, .string x.src, .int .i64 x.pos, .slice pa no ca, .slice pb nn cb]] w' (fun e w'' => e = .returned (.int .i64 0) ∧ Fr None' w' w'') from fun w' => by have h := Yp x pa pb no nn ca cb w'; rw [hi] at h; exact h)
 have HY := Zz (show ∀ w', Calls Tryz.prog 117 #[.agg #[.int .i64 y.kind, .string y.path, .string y.dst, .string y.src, .int .i64 y.pos, .slice qa mo da, .slice qb mn db]] w' (fun e w'' => e = .returned (.int .i64 0) ∧ Fr None' w' w'') from fun w' => by have h := Yp y qa qb mo mn da db w'; rw [hj] at h; exact h)
 have HFn := Zz (show ∀ (b : Nat) w', w'.cell? ⟨b, 0, none⟩ = some (.func (.func 150) #[] #[]) → Calls Tryz.prog 188 #[.agg #[.int .i64 x.kind, .string x.path, .string x.dst, .string x.src, .int .i64 x.pos, .slice pa no ca, .slice pb nn cb], .agg #[.int .i64 y.kind, .string y.path, .string y.dst, .string y.src, .int .i64 y.pos, .slice qa mo da, .slice qb mn db], .pointer (some ⟨b, 0, none⟩)] w' (RuleAns (Zx x y) pa pb qa qb no nn ca cb mo mn da db w') from fun b w' hb => by have e : Zx x y = (y, x, Yg x y) := (by unfold Zx; simp [hi, hj]); rw [e]; exact they_apart x y pa pb qa qb no nn ca cb mo mn da db w' b hb)
 unfold Yv
 generalize Zx x y = R at HFn ⊢
 clear _fx _fy hi hj
 obtain ⟨K, P, T, F, A, lO, lN⟩ := x
 obtain ⟨K', P', T', F', A', lO', lN'⟩ := y
 simp only at HX HY HFn ⊢
 obtain ⟨w1, hw1⟩ : ∃ w1, w.alloc (.cells #[.int .i64 K, .string P, .string T, .string F, .int .i64 A, .slice pa no ca, .slice pb nn cb] 43) = w1 := ⟨_, rfl⟩
 obtain ⟨w2, hw2⟩ : ∃ w2, w1.alloc (.cells #[.int .i64 K', .string P', .string T', .string F', .int .i64 A', .slice qa mo da, .slice qb mn db] 43) = w2 := ⟨_, rfl⟩
 have F1 : Fr None' w w1 := hw1 ▸ Fr.alloc None' w _
 have F2 : Fr None' w1 w2 := hw2 ▸ Fr.alloc None' w1 _
 have BX : Box w2 w.heap.size (.int .i64 K) (.string P) (.string T) (.string F) (.int .i64 A) (.slice pa no ca) (.slice pb nn cb) := (hw1 ▸ Box.new w _ _ _ _ _ _ _ : Box w1 _ _ _ _ _ _ _ _).kept F2
 have BY : Box w2 w1.heap.size (.int .i64 K') (.string P') (.string T') (.string F') (.int .i64 A') (.slice qa mo da) (.slice qb mn db) := hw2 ▸ Box.new w1 _ _ _ _ _ _ _
 have HF := Zz (F1.then7 F2)
 have HS := Zz (show ∀ w', Fr None' w2 w' → Fr None' w2 w' ∧ w'.cell? ⟨w.heap.size, 0, none⟩ = some (.int .i64 K) ∧ w'.cell? ⟨w.heap.size, 1, none⟩ = some (.string P) ∧ w'.cell? ⟨w.heap.size, 2, none⟩ = some (.string T) ∧ w'.cell? ⟨w.heap.size, 3, none⟩ = some (.string F) ∧ w'.cell? ⟨w.heap.size, 4, none⟩ = some (.int .i64 A) ∧ w'.cell? ⟨w.heap.size, 5, none⟩ = some (.slice pa no ca) ∧ w'.cell? ⟨w.heap.size, 6, none⟩ = some (.slice pb nn cb) ∧ w'.cell? ⟨w1.heap.size, 0, none⟩ = some (.int .i64 K') ∧ w'.cell? ⟨w1.heap.size, 1, none⟩ = some (.string P') ∧ w'.cell? ⟨w1.heap.size, 2, none⟩ = some (.string T') ∧ w'.cell? ⟨w1.heap.size, 3, none⟩ = some (.string F') ∧ w'.cell? ⟨w1.heap.size, 4, none⟩ = some (.int .i64 A') ∧ w'.cell? ⟨w1.heap.size, 5, none⟩ = some (.slice qa mo da) ∧ w'.cell? ⟨w1.heap.size, 6, none⟩ = some (.slice qb mn db) from fun w' f => by
  obtain ⟨x0, x1, x2, x3, x4, x5, x6⟩ := (BX.kept f).cells
  obtain ⟨y0, y1, y2, y3, y4, y5, y6⟩ := (BY.kept f).cells
  exact ⟨f, x0, x1, x2, x3, x4, x5, x6, y0, y1, y2, y3, y4, y5, y6⟩)
 have hS0 := HS.out w2.drew (Fr.drew _ w2)
 clear F1 F2 BX BY
 go_enter Tryz.func76, Tryz.ntmps76
 go_wp2_with fail
 go_region_held3 (fun w' => Fr None' w2 w' ∧ w'.cell? ⟨w.heap.size, 0, none⟩ = some (.int .i64 K) ∧ w'.cell? ⟨w.heap.size, 1, none⟩ = some (.string P) ∧ w'.cell? ⟨w.heap.size, 2, none⟩ = some (.string T) ∧ w'.cell? ⟨w.heap.size, 3, none⟩ = some (.string F) ∧ w'.cell? ⟨w.heap.size, 4, none⟩ = some (.int .i64 A) ∧ w'.cell? ⟨w.heap.size, 5, none⟩ = some (.slice pa no ca) ∧ w'.cell? ⟨w.heap.size, 6, none⟩ = some (.slice pb nn cb) ∧ w'.cell? ⟨w1.heap.size, 0, none⟩ = some (.int .i64 K') ∧ w'.cell? ⟨w1.heap.size, 1, none⟩ = some (.string P') ∧ w'.cell? ⟨w1.heap.size, 2, none⟩ = some (.string T') ∧ w'.cell? ⟨w1.heap.size, 3, none⟩ = some (.string F') ∧ w'.cell? ⟨w1.heap.size, 4, none⟩ = some (.int .i64 A') ∧ w'.cell? ⟨w1.heap.size, 5, none⟩ = some (.slice qa mo da) ∧ w'.cell? ⟨w1.heap.size, 6, none⟩ = some (.slice qb mn db))
  (first | with_reducible exact hS0 | with_reducible exact hS3 | with_reducible exact hS4 | with_reducible exact hS5)
  (first
   | (go_at_call 116; with_reducible (refine (Y2 _).mono ?_); rintro e w3 ⟨b1, b2, b3, b4, b5, b6, rfl, T3, f3⟩; have G3 := Zz (Fr.then7 (Fr.drew None' w2) f3); have HT := Zz T3; have hS3 := HS.out w3 (Hid.out G3); clear f3 T3; unfold tab33)
   | (go_at_call 117; with_reducible (refine (HX.out w3).mono ?_); rintro e w4 ⟨rfl, f4⟩; have G4 := Zz f4; have hS4 := HS.out w4 (Fr.then7 (Hid.out G3) f4); clear f4)
   | (go_at_call 117; with_reducible (refine (HY.out w4).mono ?_); rintro e w5 ⟨rfl, f5⟩; have G5 := Zz (Fr.then7 (Hid.out G4) f5); have hS5 := HS.out w5 (Fr.then7 (Hid.out G3) (Hid.out G5)); clear f5))
 all_goals clear hS0 hS3 hS4 hS5
 all_goals go_wp2_with fail
 all_goals go_ret
 all_goals exact ⟨_, _, rfl, (fun args w => Go.MuLone.run_callFunc_enter Tryz.func188 (by kernel_rfl) rfl args w), (fun w'' f => HFn.out b1 w'' (f.keepCell (G5.out.keepCell HT.out.1.1 (fun e => e)) (fun e => e))), (HF.out.then7 G3.out).then7 G5.out⟩
theorem ruleOf_01 (x y : Pr) (pa pb qa qb : Option Addr) (no nn ca cb mo mn da db : Nat) (w : World) (_fx : Fits x no nn) (_fy : Fits y mo mn) (hi : Ys x = 0) (hj : Ys y = 1) :
  Calls Tryz.prog 76 #[.agg #[.int .i64 x.kind, .string x.path, .string x.dst, .string x.src, .int .i64 x.pos, .slice pa no ca, .slice pb nn cb], .agg #[.int .i64 y.kind, .string y.path, .string y.dst, .string y.src, .int .i64 y.pos, .slice qa mo da, .slice qb mn db]] w fun e w' => Yv x y pa pb qa qb no nn ca cb mo mn da db w e w' := by
 have HX := Zz (show ∀ w', Calls Tryz.prog 117 #[.agg #[.int .i64 x.kind, .string x.path, .string x.dst, .string x.src, .int .i64 x.pos, .slice pa no ca, .slice pb nn cb]] w' (fun e w'' => e = .returned (.int .i64 0) ∧ Fr None' w' w'') from fun w' => by have h := Yp x pa pb no nn ca cb w'; rw [hi] at h; exact h)
 have HY := Zz (show ∀ w', Calls Tryz.prog 117 #[.agg #[.int .i64 y.kind, .string y.path, .string y.dst, .string y.src, .int .i64 y.pos, .slice qa mo da, .slice qb mn db]] w' (fun e w'' => e = .returned (.int .i64 1) ∧ Fr None' w' w'') from fun w' => by have h := Yp y qa qb mo mn da db w'; rw [hj] at h; exact h)
 have HFn := Zz (show ∀ (b : Nat) w', w'.cell? ⟨b, 0, none⟩ = some (.func (.func 151) #[] #[]) → Calls Tryz.prog 188 #[.agg #[.int .i64 x.kind, .string x.path, .string x.dst, .string x.src, .int .i64 x.pos, .slice pa no ca, .slice pb nn cb], .agg #[.int .i64 y.kind, .string y.path, .string y.dst, .string y.src, .int .i64 y.pos, .slice qa mo da, .slice qb mn db], .pointer (some ⟨b, 0, none⟩)] w' (RuleAns (Zx x y) pa pb qa qb no nn ca cb mo mn da db w') from fun b w' hb => by have e : Zx x y = (y, x, decide (¬ x.path = y.path)) := (by unfold Zx; simp [hi, hj]); rw [e]; exact they_unlike x y pa pb qa qb no nn ca cb mo mn da db w' b hb)
 unfold Yv
 generalize Zx x y = R at HFn ⊢
 clear _fx _fy hi hj
 obtain ⟨K, P, T, F, A, lO, lN⟩ := x
 obtain ⟨K', P', T', F', A', lO', lN'⟩ := y
 simp only at HX HY HFn ⊢
 obtain ⟨w1, hw1⟩ : ∃ w1, w.alloc (.cells #[.int .i64 K, .string P, .string T, .string F, .int .i64 A, .slice pa no ca, .slice pb nn cb] 43) = w1 := ⟨_, rfl⟩
 obtain ⟨w2, hw2⟩ : ∃ w2, w1.alloc (.cells #[.int .i64 K', .string P', .string T', .string F', .int .i64 A', .slice qa mo da, .slice qb mn db] 43) = w2 := ⟨_, rfl⟩
 have F1 : Fr None' w w1 := hw1 ▸ Fr.alloc None' w _
 have F2 : Fr None' w1 w2 := hw2 ▸ Fr.alloc None' w1 _
 have BX : Box w2 w.heap.size (.int .i64 K) (.string P) (.string T) (.string F) (.int .i64 A) (.slice pa no ca) (.slice pb nn cb) := (hw1 ▸ Box.new w _ _ _ _ _ _ _ : Box w1 _ _ _ _ _ _ _ _).kept F2
 have BY : Box w2 w1.heap.size (.int .i64 K') (.string P') (.string T') (.string F') (.int .i64 A') (.slice qa mo da) (.slice qb mn db) := hw2 ▸ Box.new w1 _ _ _ _ _ _ _
 have HF := Zz (F1.then7 F2)
 have HS := Zz (show ∀ w', Fr None' w2 w' → Fr None' w2 w' ∧ w'.cell? ⟨w.heap.size, 0, none⟩ = some (.int .i64 K) ∧ w'.cell? ⟨w.heap.size, 1, none⟩ = some (.string P) ∧ w'.cell? ⟨w.heap.size, 2, none⟩ = some (.string T) ∧ w'.cell? ⟨w.heap.size, 3, none⟩ = some (.string F) ∧ w'.cell? ⟨w.heap.size, 4, none⟩ = some (.int .i64 A) ∧ w'.cell? ⟨w.heap.size, 5, none⟩ = some (.slice pa no ca) ∧ w'.cell? ⟨w.heap.size, 6, none⟩ = some (.slice pb nn cb) ∧ w'.cell? ⟨w1.heap.size, 0, none⟩ = some (.int .i64 K') ∧ w'.cell? ⟨w1.heap.size, 1, none⟩ = some (.string P') ∧ w'.cell? ⟨w1.heap.size, 2, none⟩ = some (.string T') ∧ w'.cell? ⟨w1.heap.size, 3, none⟩ = some (.string F') ∧ w'.cell? ⟨w1.heap.size, 4, none⟩ = some (.int .i64 A') ∧ w'.cell? ⟨w1.heap.size, 5, none⟩ = some (.slice qa mo da) ∧ w'.cell? ⟨w1.heap.size, 6, none⟩ = some (.slice qb mn db) from fun w' f => by
  obtain ⟨x0, x1, x2, x3, x4, x5, x6⟩ := (BX.kept f).cells
  obtain ⟨y0, y1, y2, y3, y4, y5, y6⟩ := (BY.kept f).cells
  exact ⟨f, x0, x1, x2, x3, x4, x5, x6, y0, y1, y2, y3, y4, y5, y6⟩)
 have hS0 := HS.out w2.drew (Fr.drew _ w2)
 clear F1 F2 BX BY
 go_enter Tryz.func76, Tryz.ntmps76
 go_wp2_with fail
 go_region_held3 (fun w' => Fr None' w2 w' ∧ w'.cell? ⟨w.heap.size, 0, none⟩ = some (.int .i64 K) ∧ w'.cell? ⟨w.heap.size, 1, none⟩ = some (.string P) ∧ w'.cell? ⟨w.heap.size, 2, none⟩ = some (.string T) ∧ w'.cell? ⟨w.heap.size, 3, none⟩ = some (.string F) ∧ w'.cell? ⟨w.heap.size, 4, none⟩ = some (.int .i64 A) ∧ w'.cell? ⟨w.heap.size, 5, none⟩ = some (.slice pa no ca) ∧ w'.cell? ⟨w.heap.size, 6, none⟩ = some (.slice pb nn cb) ∧ w'.cell? ⟨w1.heap.size, 0, none⟩ = some (.int .i64 K') ∧ w'.cell? ⟨w1.heap.size, 1, none⟩ = some (.string P') ∧ w'.cell? ⟨w1.heap.size, 2, none⟩ = some (.string T') ∧ w'.cell? ⟨w1.heap.size, 3, none⟩ = some (.string F') ∧ w'.cell? ⟨w1.heap.size, 4, none⟩ = some (.int .i64 A') ∧ w'.cell? ⟨w1.heap.size, 5, none⟩ = some (.slice qa mo da) ∧ w'.cell? ⟨w1.heap.size, 6, none⟩ = some (.slice qb mn db))
  (first | with_reducible exact hS0 | with_reducible exact hS3 | with_reducible exact hS4 | with_reducible exact hS5)
  (first
   | (go_at_call 116; with_reducible (refine (Y2 _).mono ?_); rintro e w3 ⟨b1, b2, b3, b4, b5, b6, rfl, T3, f3⟩; have G3 := Zz (Fr.then7 (Fr.drew None' w2) f3); have HT := Zz T3; have hS3 := HS.out w3 (Hid.out G3); clear f3 T3; unfold tab33)
   | (go_at_call 117; with_reducible (refine (HX.out w3).mono ?_); rintro e w4 ⟨rfl, f4⟩; have G4 := Zz f4; have hS4 := HS.out w4 (Fr.then7 (Hid.out G3) f4); clear f4)
   | (go_at_call 117; with_reducible (refine (HY.out w4).mono ?_); rintro e w5 ⟨rfl, f5⟩; have G5 := Zz (Fr.then7 (Hid.out G4) f5); have hS5 := HS.out w5 (Fr.then7 (Hid.out G3) (Hid.out G5)); clear f5))
 all_goals clear hS0 hS3 hS4 hS5
 all_goals go_wp2_with fail
 all_goals go_ret
 all_goals exact ⟨_, _, rfl, (fun args w => Go.MuLone.run_callFunc_enter Tryz.func188 (by kernel_rfl) rfl args w), (fun w'' f => HFn.out b2 w'' (f.keepCell (G5.out.keepCell HT.out.1.2.1 (fun e => e)) (fun e => e))), (HF.out.then7 G3.out).then7 G5.out⟩
theorem ruleOf_02 (x y : Pr) (pa pb qa qb : Option Addr) (no nn ca cb mo mn da db : Nat) (w : World) (_fx : Fits x no nn) (_fy : Fits y mo mn) (hi : Ys x = 0) (hj : Ys y = 2) :
  Calls Tryz.prog 76 #[.agg #[.int .i64 x.kind, .string x.path, .string x.dst, .string x.src, .int .i64 x.pos, .slice pa no ca, .slice pb nn cb], .agg #[.int .i64 y.kind, .string y.path, .string y.dst, .string y.src, .int .i64 y.pos, .slice qa mo da, .slice qb mn db]] w fun e w' => Yv x y pa pb qa qb no nn ca cb mo mn da db w e w' := by
 have HX := Zz (show ∀ w', Calls Tryz.prog 117 #[.agg #[.int .i64 x.kind, .string x.path, .string x.dst, .string x.src, .int .i64 x.pos, .slice pa no ca, .slice pb nn cb]] w' (fun e w'' => e = .returned (.int .i64 0) ∧ Fr None' w' w'') from fun w' => by have h := Yp x pa pb no nn ca cb w'; rw [hi] at h; exact h)
 have HY := Zz (show ∀ w', Calls Tryz.prog 117 #[.agg #[.int .i64 y.kind, .string y.path, .string y.dst, .string y.src, .int .i64 y.pos, .slice qa mo da, .slice qb mn db]] w' (fun e w'' => e = .returned (.int .i64 2) ∧ Fr None' w' w'') from fun w' => by have h := Yp y qa qb mo mn da db w'; rw [hj] at h; exact h)
 have HFn := Zz (show ∀ (b : Nat) w', w'.cell? ⟨b, 0, none⟩ = some (.func (.func 150) #[] #[]) → Calls Tryz.prog 188 #[.agg #[.int .i64 x.kind, .string x.path, .string x.dst, .string x.src, .int .i64 x.pos, .slice pa no ca, .slice pb nn cb], .agg #[.int .i64 y.kind, .string y.path, .string y.dst, .string y.src, .int .i64 y.pos, .slice qa mo da, .slice qb mn db], .pointer (some ⟨b, 0, none⟩)] w' (RuleAns (Zx x y) pa pb qa qb no nn ca cb mo mn da db w') from fun b w' hb => by have e : Zx x y = (y, x, Yg x y) := (by unfold Zx; simp [hi, hj]); rw [e]; exact they_apart x y pa pb qa qb no nn ca cb mo mn da db w' b hb)
 unfold Yv
 generalize Zx x y = R at HFn ⊢
 clear _fx _fy hi hj
 obtain ⟨K, P, T, F, A, lO, lN⟩ := x
 obtain ⟨K', P', T', F', A', lO', lN'⟩ := y
 simp only at HX HY HFn ⊢
 obtain ⟨w1, hw1⟩ : ∃ w1, w.alloc (.cells #[.int .i64 K, .string P, .string T, .string F, .int .i64 A, .slice pa no ca, .slice pb nn cb] 43) = w1 := ⟨_, rfl⟩
 obtain ⟨w2, hw2⟩ : ∃ w2, w1.alloc (.cells #[.int .i64 K', .string P', .string T', .string F', .int .i64 A', .slice qa mo da, .slice qb mn db] 43) = w2 := ⟨_, rfl⟩
 have F1 : Fr None' w w1 := hw1 ▸ Fr.alloc None' w _
 have F2 : Fr None' w1 w2 := hw2 ▸ Fr.alloc None' w1 _
 have BX : Box w2 w.heap.size (.int .i64 K) (.string P) (.string T) (.string F) (.int .i64 A) (.slice pa no ca) (.slice pb nn cb) := (hw1 ▸ Box.new w _ _ _ _ _ _ _ : Box w1 _ _ _ _ _ _ _ _).kept F2
 have BY : Box w2 w1.heap.size (.int .i64 K') (.string P') (.string T') (.string F') (.int .i64 A') (.slice qa mo da) (.slice qb mn db) := hw2 ▸ Box.new w1 _ _ _ _ _ _ _
 have HF := Zz (F1.then7 F2)
 have HS := Zz (show ∀ w', Fr None' w2 w' → Fr None' w2 w' ∧ w'.cell? ⟨w.heap.size, 0, none⟩ = some (.int .i64 K) ∧ w'.cell? ⟨w.heap.size, 1, none⟩ = some (.string P) ∧ w'.cell? ⟨w.heap.size, 2, none⟩ = some (.string T) ∧ w'.cell? ⟨w.heap.size, 3, none⟩ = some (.string F) ∧ w'.cell? ⟨w.heap.size, 4, none⟩ = some (.int .i64 A) ∧ w'.cell? ⟨w.heap.size, 5, none⟩ = some (.slice pa no ca) ∧ w'.cell? ⟨w.heap.size, 6, none⟩ = some (.slice pb nn cb) ∧ w'.cell? ⟨w1.heap.size, 0, none⟩ = some (.int .i64 K') ∧ w'.cell? ⟨w1.heap.size, 1, none⟩ = some (.string P') ∧ w'.cell? ⟨w1.heap.size, 2, none⟩ = some (.string T') ∧ w'.cell? ⟨w1.heap.size, 3, none⟩ = some (.string F') ∧ w'.cell? ⟨w1.heap.size, 4, none⟩ = some (.int .i64 A') ∧ w'.cell? ⟨w1.heap.size, 5, none⟩ = some (.slice qa mo da) ∧ w'.cell? ⟨w1.heap.size, 6, none⟩ = some (.slice qb mn db) from fun w' f => by
  obtain ⟨x0, x1, x2, x3, x4, x5, x6⟩ := (BX.kept f).cells
  obtain ⟨y0, y1, y2, y3, y4, y5, y6⟩ := (BY.kept f).cells
  exact ⟨f, x0, x1, x2, x3, x4, x5, x6, y0, y1, y2, y3, y4, y5, y6⟩)
 have hS0 := HS.out w2.drew (Fr.drew _ w2)
 clear F1 F2 BX BY
 go_enter Tryz.func76, Tryz.ntmps76
 go_wp2_with fail
 go_region_held3 (fun w' => Fr None' w2 w' ∧ w'.cell? ⟨w.heap.size, 0, none⟩ = some (.int .i64 K) ∧ w'.cell? ⟨w.heap.size, 1, none⟩ = some (.string P) ∧ w'.cell? ⟨w.heap.size, 2, none⟩ = some (.string T) ∧ w'.cell? ⟨w.heap.size, 3, none⟩ = some (.string F) ∧ w'.cell? ⟨w.heap.size, 4, none⟩ = some (.int .i64 A) ∧ w'.cell? ⟨w.heap.size, 5, none⟩ = some (.slice pa no ca) ∧ w'.cell? ⟨w.heap.size, 6, none⟩ = some (.slice pb nn cb) ∧ w'.cell? ⟨w1.heap.size, 0, none⟩ = some (.int .i64 K') ∧ w'.cell? ⟨w1.heap.size, 1, none⟩ = some (.string P') ∧ w'.cell? ⟨w1.heap.size, 2, none⟩ = some (.string T') ∧ w'.cell? ⟨w1.heap.size, 3, none⟩ = some (.string F') ∧ w'.cell? ⟨w1.heap.size, 4, none⟩ = some (.int .i64 A') ∧ w'.cell? ⟨w1.heap.size, 5, none⟩ = some (.slice qa mo da) ∧ w'.cell? ⟨w1.heap.size, 6, none⟩ = some (.slice qb mn db))
  (first | with_reducible exact hS0 | with_reducible exact hS3 | with_reducible exact hS4 | with_reducible exact hS5)
  (first
   | (go_at_call 116; with_reducible (refine (Y2 _).mono ?_); rintro e w3 ⟨b1, b2, b3, b4, b5, b6, rfl, T3, f3⟩; have G3 := Zz (Fr.then7 (Fr.drew None' w2) f3); have HT := Zz T3; have hS3 := HS.out w3 (Hid.out G3); clear f3 T3; unfold tab33)
   | (go_at_call 117; with_reducible (refine (HX.out w3).mono ?_); rintro e w4 ⟨rfl, f4⟩; have G4 := Zz f4; have hS4 := HS.out w4 (Fr.then7 (Hid.out G3) f4); clear f4)
   | (go_at_call 117; with_reducible (refine (HY.out w4).mono ?_); rintro e w5 ⟨rfl, f5⟩; have G5 := Zz (Fr.then7 (Hid.out G4) f5); have hS5 := HS.out w5 (Fr.then7 (Hid.out G3) (Hid.out G5)); clear f5))
 all_goals clear hS0 hS3 hS4 hS5
 all_goals go_wp2_with fail
 all_goals go_ret
 all_goals exact ⟨_, _, rfl, (fun args w => Go.MuLone.run_callFunc_enter Tryz.func188 (by kernel_rfl) rfl args w), (fun w'' f => HFn.out b3 w'' (f.keepCell (G5.out.keepCell HT.out.1.2.2 (fun e => e)) (fun e => e))), (HF.out.then7 G3.out).then7 G5.out⟩
theorem ruleOf_10 (x y : Pr) (pa pb qa qb : Option Addr) (no nn ca cb mo mn da db : Nat) (w : World) (_fx : Fits x no nn) (_fy : Fits y mo mn) (hi : Ys x = 1) (hj : Ys y = 0) :
  Calls Tryz.prog 76 #[.agg #[.int .i64 x.kind, .string x.path, .string x.dst, .string x.src, .int .i64 x.pos, .slice pa no ca, .slice pb nn cb], .agg #[.int .i64 y.kind, .string y.path, .string y.dst, .string y.src, .int .i64 y.pos, .slice qa mo da, .slice qb mn db]] w fun e w' => Yv x y pa pb qa qb no nn ca cb mo mn da db w e w' := by
 have HX := Zz (show ∀ w', Calls Tryz.prog 117 #[.agg #[.int .i64 x.kind, .string x.path, .string x.dst, .string x.src, .int .i64 x.pos, .slice pa no ca, .slice pb nn cb]] w' (fun e w'' => e = .returned (.int .i64 1) ∧ Fr None' w' w'') from fun w' => by have h := Yp x pa pb no nn ca cb w'; rw [hi] at h; exact h)
 have HY := Zz (show ∀ w', Calls Tryz.prog 117 #[.agg #[.int .i64 y.kind, .string y.path, .string y.dst, .string y.src, .int .i64 y.pos, .slice qa mo da, .slice qb mn db]] w' (fun e w'' => e = .returned (.int .i64 0) ∧ Fr None' w' w'') from fun w' => by have h := Yp y qa qb mo mn da db w'; rw [hj] at h; exact h)
 have HFn := Zz (show ∀ (b : Nat) w', w'.cell? ⟨b, 0, none⟩ = some (.func (.func 151) #[] #[]) → Calls Tryz.prog 188 #[.agg #[.int .i64 x.kind, .string x.path, .string x.dst, .string x.src, .int .i64 x.pos, .slice pa no ca, .slice pb nn cb], .agg #[.int .i64 y.kind, .string y.path, .string y.dst, .string y.src, .int .i64 y.pos, .slice qa mo da, .slice qb mn db], .pointer (some ⟨b, 0, none⟩)] w' (RuleAns (Zx x y) pa pb qa qb no nn ca cb mo mn da db w') from fun b w' hb => by have e : Zx x y = (y, x, decide (¬ x.path = y.path)) := (by unfold Zx; simp [hi, hj]); rw [e]; exact they_unlike x y pa pb qa qb no nn ca cb mo mn da db w' b hb)
 unfold Yv
 generalize Zx x y = R at HFn ⊢
 clear _fx _fy hi hj
 obtain ⟨K, P, T, F, A, lO, lN⟩ := x
 obtain ⟨K', P', T', F', A', lO', lN'⟩ := y
 simp only at HX HY HFn ⊢
 obtain ⟨w1, hw1⟩ : ∃ w1, w.alloc (.cells #[.int .i64 K, .string P, .string T, .string F, .int .i64 A, .slice pa no ca, .slice pb nn cb] 43) = w1 := ⟨_, rfl⟩
 obtain ⟨w2, hw2⟩ : ∃ w2, w1.alloc (.cells #[.int .i64 K', .string P', .string T', .string F', .int .i64 A', .slice qa mo da, .slice qb mn db] 43) = w2 := ⟨_, rfl⟩
 have F1 : Fr None' w w1 := hw1 ▸ Fr.alloc None' w _
 have F2 : Fr None' w1 w2 := hw2 ▸ Fr.alloc None' w1 _
 have BX : Box w2 w.heap.size (.int .i64 K) (.string P) (.string T) (.string F) (.int .i64 A) (.slice pa no ca) (.slice pb nn cb) := (hw1 ▸ Box.new w _ _ _ _ _ _ _ : Box w1 _ _ _ _ _ _ _ _).kept F2
 have BY : Box w2 w1.heap.size (.int .i64 K') (.string P') (.string T') (.string F') (.int .i64 A') (.slice qa mo da) (.slice qb mn db) := hw2 ▸ Box.new w1 _ _ _ _ _ _ _
 have HF := Zz (F1.then7 F2)
 have HS := Zz (show ∀ w', Fr None' w2 w' → Fr None' w2 w' ∧ w'.cell? ⟨w.heap.size, 0, none⟩ = some (.int .i64 K) ∧ w'.cell? ⟨w.heap.size, 1, none⟩ = some (.string P) ∧ w'.cell? ⟨w.heap.size, 2, none⟩ = some (.string T) ∧ w'.cell? ⟨w.heap.size, 3, none⟩ = some (.string F) ∧ w'.cell? ⟨w.heap.size, 4, none⟩ = some (.int .i64 A) ∧ w'.cell? ⟨w.heap.size, 5, none⟩ = some (.slice pa no ca) ∧ w'.cell? ⟨w.heap.size, 6, none⟩ = some (.slice pb nn cb) ∧ w'.cell? ⟨w1.heap.size, 0, none⟩ = some (.int .i64 K') ∧ w'.cell? ⟨w1.heap.size, 1, none⟩ = some (.string P') ∧ w'.cell? ⟨w1.heap.size, 2, none⟩ = some (.string T') ∧ w'.cell? ⟨w1.heap.size, 3, none⟩ = some (.string F') ∧ w'.cell? ⟨w1.heap.size, 4, none⟩ = some (.int .i64 A') ∧ w'.cell? ⟨w1.heap.size, 5, none⟩ = some (.slice qa mo da) ∧ w'.cell? ⟨w1.heap.size, 6, none⟩ = some (.slice qb mn db) from fun w' f => by
  obtain ⟨x0, x1, x2, x3, x4, x5, x6⟩ := (BX.kept f).cells
  obtain ⟨y0, y1, y2, y3, y4, y5, y6⟩ := (BY.kept f).cells
  exact ⟨f, x0, x1, x2, x3, x4, x5, x6, y0, y1, y2, y3, y4, y5, y6⟩)
 have hS0 := HS.out w2.drew (Fr.drew _ w2)
 clear F1 F2 BX BY
 go_enter Tryz.func76, Tryz.ntmps76
 go_wp2_with fail
 go_region_held3 (fun w' => Fr None' w2 w' ∧ w'.cell? ⟨w.heap.size, 0, none⟩ = some (.int .i64 K) ∧ w'.cell? ⟨w.heap.size, 1, none⟩ = some (.string P) ∧ w'.cell? ⟨w.heap.size, 2, none⟩ = some (.string T) ∧ w'.cell? ⟨w.heap.size, 3, none⟩ = some (.string F) ∧ w'.cell? ⟨w.heap.size, 4, none⟩ = some (.int .i64 A) ∧ w'.cell? ⟨w.heap.size, 5, none⟩ = some (.slice pa no ca) ∧ w'.cell? ⟨w.heap.size, 6, none⟩ = some (.slice pb nn cb) ∧ w'.cell? ⟨w1.heap.size, 0, none⟩ = some (.int .i64 K') ∧ w'.cell? ⟨w1.heap.size, 1, none⟩ = some (.string P') ∧ w'.cell? ⟨w1.heap.size, 2, none⟩ = some (.string T') ∧ w'.cell? ⟨w1.heap.size, 3, none⟩ = some (.string F') ∧ w'.cell? ⟨w1.heap.size, 4, none⟩ = some (.int .i64 A') ∧ w'.cell? ⟨w1.heap.size, 5, none⟩ = some (.slice qa mo da) ∧ w'.cell? ⟨w1.heap.size, 6, none⟩ = some (.slice qb mn db))
  (first | with_reducible exact hS0 | with_reducible exact hS3 | with_reducible exact hS4 | with_reducible exact hS5)
  (first
   | (go_at_call 116; with_reducible (refine (Y2 _).mono ?_); rintro e w3 ⟨b1, b2, b3, b4, b5, b6, rfl, T3, f3⟩; have G3 := Zz (Fr.then7 (Fr.drew None' w2) f3); have HT := Zz T3; have hS3 := HS.out w3 (Hid.out G3); clear f3 T3; unfold tab33)
   | (go_at_call 117; with_reducible (refine (HX.out w3).mono ?_); rintro e w4 ⟨rfl, f4⟩; have G4 := Zz f4; have hS4 := HS.out w4 (Fr.then7 (Hid.out G3) f4); clear f4)
   | (go_at_call 117; with_reducible (refine (HY.out w4).mono ?_); rintro e w5 ⟨rfl, f5⟩; have G5 := Zz (Fr.then7 (Hid.out G4) f5); have hS5 := HS.out w5 (Fr.then7 (Hid.out G3) (Hid.out G5)); clear f5))
 all_goals clear hS0 hS3 hS4 hS5
 all_goals go_wp2_with fail
 all_goals go_ret
 all_goals exact ⟨_, _, rfl, (fun args w => Go.MuLone.run_callFunc_enter Tryz.func188 (by kernel_rfl) rfl args w), (fun w'' f => HFn.out b4 w'' (f.keepCell (G5.out.keepCell HT.out.2.1 (fun e => e)) (fun e => e))), (HF.out.then7 G3.out).then7 G5.out⟩
theorem ruleOf_11 (x y : Pr) (pa pb qa qb : Option Addr) (no nn ca cb mo mn da db : Nat) (w : World) (fx : Fits x no nn) (fy : Fits y mo mn) (hi : Ys x = 1) (hj : Ys y = 1) :
  Calls Tryz.prog 76 #[.agg #[.int .i64 x.kind, .string x.path, .string x.dst, .string x.src, .int .i64 x.pos, .slice pa no ca, .slice pb nn cb], .agg #[.int .i64 y.kind, .string y.path, .string y.dst, .string y.src, .int .i64 y.pos, .slice qa mo da, .slice qb mn db]] w fun e w' => Yv x y pa pb qa qb no nn ca cb mo mn da db w e w' := by
 have HX := Zz (show ∀ w', Calls Tryz.prog 117 #[.agg #[.int .i64 x.kind, .string x.path, .string x.dst, .string x.src, .int .i64 x.pos, .slice pa no ca, .slice pb nn cb]] w' (fun e w'' => e = .returned (.int .i64 1) ∧ Fr None' w' w'') from fun w' => by have h := Yp x pa pb no nn ca cb w'; rw [hi] at h; exact h)
 have HY := Zz (show ∀ w', Calls Tryz.prog 117 #[.agg #[.int .i64 y.kind, .string y.path, .string y.dst, .string y.src, .int .i64 y.pos, .slice qa mo da, .slice qb mn db]] w' (fun e w'' => e = .returned (.int .i64 1) ∧ Fr None' w' w'') from fun w' => by have h := Yp y qa qb mo mn da db w'; rw [hj] at h; exact h)
 have HFn := Zz (show ∀ w', Calls Tryz.prog 152 #[.agg #[.int .i64 x.kind, .string x.path, .string x.dst, .string x.src, .int .i64 x.pos, .slice pa no ca, .slice pb nn cb], .agg #[.int .i64 y.kind, .string y.path, .string y.dst, .string y.src, .int .i64 y.pos, .slice qa mo da, .slice qb mn db]] w' (RuleAns (Zx x y) pa pb qa qb no nn ca cb mo mn da db w') from fun w' => by have e : Zx x y = Yo x y := (by unfold Zx; simp [hi, hj]); rw [e]; exact twoChanges_any x y pa pb qa qb no nn ca cb mo mn da db w' fx.o fx.n fy.o fy.n (by have := fx.s.old; have := fx.o; omega) (by have := fx.s.new; have := fx.n; omega) (by have := fy.s.old; have := fy.o; omega) (by have := fy.s.new; have := fy.n; omega) fx.pos fy.pos)
 unfold Yv
 generalize Zx x y = R at HFn ⊢
 clear fx fy hi hj
 obtain ⟨K, P, T, F, A, lO, lN⟩ := x
 obtain ⟨K', P', T', F', A', lO', lN'⟩ := y
 simp only at HX HY HFn ⊢
 obtain ⟨w1, hw1⟩ : ∃ w1, w.alloc (.cells #[.int .i64 K, .string P, .string T, .string F, .int .i64 A, .slice pa no ca, .slice pb nn cb] 43) = w1 := ⟨_, rfl⟩
 obtain ⟨w2, hw2⟩ : ∃ w2, w1.alloc (.cells #[.int .i64 K', .string P', .string T', .string F', .int .i64 A', .slice qa mo da, .slice qb mn db] 43) = w2 := ⟨_, rfl⟩
 have F1 : Fr None' w w1 := hw1 ▸ Fr.alloc None' w _
 have F2 : Fr None' w1 w2 := hw2 ▸ Fr.alloc None' w1 _
 have BX : Box w2 w.heap.size (.int .i64 K) (.string P) (.string T) (.string F) (.int .i64 A) (.slice pa no ca) (.slice pb nn cb) := (hw1 ▸ Box.new w _ _ _ _ _ _ _ : Box w1 _ _ _ _ _ _ _ _).kept F2
 have BY : Box w2 w1.heap.size (.int .i64 K') (.string P') (.string T') (.string F') (.int .i64 A') (.slice qa mo da) (.slice qb mn db) := hw2 ▸ Box.new w1 _ _ _ _ _ _ _
 have HF := Zz (F1.then7 F2)
 have HS := Zz (show ∀ w', Fr None' w2 w' → Fr None' w2 w' ∧ w'.cell? ⟨w.heap.size, 0, none⟩ = some (.int .i64 K) ∧ w'.cell? ⟨w.heap.size, 1, none⟩ = some (.string P) ∧ w'.cell? ⟨w.heap.size, 2, none⟩ = some (.string T) ∧ w'.cell? ⟨w.heap.size, 3, none⟩ = some (.string F) ∧ w'.cell? ⟨w.heap.size, 4, none⟩ = some (.int .i64 A) ∧ w'.cell? ⟨w.heap.size, 5, none⟩ = some (.slice pa no ca) ∧ w'.cell? ⟨w.heap.size, 6, none⟩ = some (.slice pb nn cb) ∧ w'.cell? ⟨w1.heap.size, 0, none⟩ = some (.int .i64 K') ∧ w'.cell? ⟨w1.heap.size, 1, none⟩ = some (.string P') ∧ w'.cell? ⟨w1.heap.size, 2, none⟩ = some (.string T') ∧ w'.cell? ⟨w1.heap.size, 3, none⟩ = some (.string F') ∧ w'.cell? ⟨w1.heap.size, 4, none⟩ = some (.int .i64 A') ∧ w'.cell? ⟨w1.heap.size, 5, none⟩ = some (.slice qa mo da) ∧ w'.cell? ⟨w1.heap.size, 6, none⟩ = some (.slice qb mn db) from fun w' f => by
  obtain ⟨x0, x1, x2, x3, x4, x5, x6⟩ := (BX.kept f).cells
  obtain ⟨y0, y1, y2, y3, y4, y5, y6⟩ := (BY.kept f).cells
  exact ⟨f, x0, x1, x2, x3, x4, x5, x6, y0, y1, y2, y3, y4, y5, y6⟩)
 have hS0 := HS.out w2.drew (Fr.drew _ w2)
 clear F1 F2 BX BY
 go_enter Tryz.func76, Tryz.ntmps76
 go_wp2_with fail
 go_region_held3 (fun w' => Fr None' w2 w' ∧ w'.cell? ⟨w.heap.size, 0, none⟩ = some (.int .i64 K) ∧ w'.cell? ⟨w.heap.size, 1, none⟩ = some (.string P) ∧ w'.cell? ⟨w.heap.size, 2, none⟩ = some (.string T) ∧ w'.cell? ⟨w.heap.size, 3, none⟩ = some (.string F) ∧ w'.cell? ⟨w.heap.size, 4, none⟩ = some (.int .i64 A) ∧ w'.cell? ⟨w.heap.size, 5, none⟩ = some (.slice pa no ca) ∧ w'.cell? ⟨w.heap.size, 6, none⟩ = some (.slice pb nn cb) ∧ w'.cell? ⟨w1.heap.size, 0, none⟩ = some (.int .i64 K') ∧ w'.cell? ⟨w1.heap.size, 1, none⟩ = some (.string P') ∧ w'.cell? ⟨w1.heap.size, 2, none⟩ = some (.string T') ∧ w'.cell? ⟨w1.heap.size, 3, none⟩ = some (.string F') ∧ w'.cell? ⟨w1.heap.size, 4, none⟩ = some (.int .i64 A') ∧ w'.cell? ⟨w1.heap.size, 5, none⟩ = some (.slice qa mo da) ∧ w'.cell? ⟨w1.heap.size, 6, none⟩ = some (.slice qb mn db))
  (first | with_reducible exact hS0 | with_reducible exact hS3 | with_reducible exact hS4 | with_reducible exact hS5)
  (first
   | (go_at_call 116; with_reducible (refine (Y2 _).mono ?_); rintro e w3 ⟨b1, b2, b3, b4, b5, b6, rfl, T3, f3⟩; have G3 := Zz (Fr.then7 (Fr.drew None' w2) f3); have HT := Zz T3; have hS3 := HS.out w3 (Hid.out G3); clear f3 T3; unfold tab33)
   | (go_at_call 117; with_reducible (refine (HX.out w3).mono ?_); rintro e w4 ⟨rfl, f4⟩; have G4 := Zz f4; have hS4 := HS.out w4 (Fr.then7 (Hid.out G3) f4); clear f4)
   | (go_at_call 117; with_reducible (refine (HY.out w4).mono ?_); rintro e w5 ⟨rfl, f5⟩; have G5 := Zz (Fr.then7 (Hid.out G4) f5); have hS5 := HS.out w5 (Fr.then7 (Hid.out G3) (Hid.out G5)); clear f5))
 all_goals clear hS0 hS3 hS4 hS5
 all_goals go_wp2_with fail
 all_goals go_ret
 all_goals exact ⟨_, _, rfl, (fun args w => Go.MuLone.run_callFunc_enter Tryz.func152 (by kernel_rfl) rfl args w), (fun w'' _ => HFn.out w''), (HF.out.then7 G3.out).then7 G5.out⟩
theorem ruleOf_12 (x y : Pr) (pa pb qa qb : Option Addr) (no nn ca cb mo mn da db : Nat) (w : World) (fx : Fits x no nn) (fy : Fits y mo mn) (hi : Ys x = 1) (hj : Ys y = 2) :
  Calls Tryz.prog 76 #[.agg #[.int .i64 x.kind, .string x.path, .string x.dst, .string x.src, .int .i64 x.pos, .slice pa no ca, .slice pb nn cb], .agg #[.int .i64 y.kind, .string y.path, .string y.dst, .string y.src, .int .i64 y.pos, .slice qa mo da, .slice qb mn db]] w fun e w' => Yv x y pa pb qa qb no nn ca cb mo mn da db w e w' := by
 have HX := Zz (show ∀ w', Calls Tryz.prog 117 #[.agg #[.int .i64 x.kind, .string x.path, .string x.dst, .string x.src, .int .i64 x.pos, .slice pa no ca, .slice pb nn cb]] w' (fun e w'' => e = .returned (.int .i64 1) ∧ Fr None' w' w'') from fun w' => by have h := Yp x pa pb no nn ca cb w'; rw [hi] at h; exact h)
 have HY := Zz (show ∀ w', Calls Tryz.prog 117 #[.agg #[.int .i64 y.kind, .string y.path, .string y.dst, .string y.src, .int .i64 y.pos, .slice qa mo da, .slice qb mn db]] w' (fun e w'' => e = .returned (.int .i64 2) ∧ Fr None' w' w'') from fun w' => by have h := Yp y qa qb mo mn da db w'; rw [hj] at h; exact h)
 have HFn := Zz (show ∀ w', Calls Tryz.prog 153 #[.agg #[.int .i64 x.kind, .string x.path, .string x.dst, .string x.src, .int .i64 x.pos, .slice pa no ca, .slice pb nn cb], .agg #[.int .i64 y.kind, .string y.path, .string y.dst, .string y.src, .int .i64 y.pos, .slice qa mo da, .slice qb mn db]] w' (RuleAns (Zx x y) pa pb qa qb no nn ca cb mo mn da db w') from fun w' => by have e : Zx x y = Yw x y := (by unfold Zx; simp [hi, hj]); rw [e]; exact changeMove_any x y pa pb qa qb no nn ca cb mo mn da db w' ⟨fx.s.path, fx.s.dst⟩ ⟨fy.s.path, fy.s.dst⟩)
 unfold Yv
 generalize Zx x y = R at HFn ⊢
 clear fx fy hi hj
 obtain ⟨K, P, T, F, A, lO, lN⟩ := x
 obtain ⟨K', P', T', F', A', lO', lN'⟩ := y
 simp only at HX HY HFn ⊢
 obtain ⟨w1, hw1⟩ : ∃ w1, w.alloc (.cells #[.int .i64 K, .string P, .string T, .string F, .int .i64 A, .slice pa no ca, .slice pb nn cb] 43) = w1 := ⟨_, rfl⟩
 obtain ⟨w2, hw2⟩ : ∃ w2, w1.alloc (.cells #[.int .i64 K', .string P', .string T', .string F', .int .i64 A', .slice qa mo da, .slice qb mn db] 43) = w2 := ⟨_, rfl⟩
 have F1 : Fr None' w w1 := hw1 ▸ Fr.alloc None' w _
 have F2 : Fr None' w1 w2 := hw2 ▸ Fr.alloc None' w1 _
 have BX : Box w2 w.heap.size (.int .i64 K) (.string P) (.string T) (.string F) (.int .i64 A) (.slice pa no ca) (.slice pb nn cb) := (hw1 ▸ Box.new w _ _ _ _ _ _ _ : Box w1 _ _ _ _ _ _ _ _).kept F2
 have BY : Box w2 w1.heap.size (.int .i64 K') (.string P') (.string T') (.string F') (.int .i64 A') (.slice qa mo da) (.slice qb mn db) := hw2 ▸ Box.new w1 _ _ _ _ _ _ _
 have HF := Zz (F1.then7 F2)
 have HS := Zz (show ∀ w', Fr None' w2 w' → Fr None' w2 w' ∧ w'.cell? ⟨w.heap.size, 0, none⟩ = some (.int .i64 K) ∧ w'.cell? ⟨w.heap.size, 1, none⟩ = some (.string P) ∧ w'.cell? ⟨w.heap.size, 2, none⟩ = some (.string T) ∧ w'.cell? ⟨w.heap.size, 3, none⟩ = some (.string F) ∧ w'.cell? ⟨w.heap.size, 4, none⟩ = some (.int .i64 A) ∧ w'.cell? ⟨w.heap.size, 5, none⟩ = some (.slice pa no ca) ∧ w'.cell? ⟨w.heap.size, 6, none⟩ = some (.slice pb nn cb) ∧ w'.cell? ⟨w1.heap.size, 0, none⟩ = some (.int .i64 K') ∧ w'.cell? ⟨w1.heap.size, 1, none⟩ = some (.string P') ∧ w'.cell? ⟨w1.heap.size, 2, none⟩ = some (.string T') ∧ w'.cell? ⟨w1.heap.size, 3, none⟩ = some (.string F') ∧ w'.cell? ⟨w1.heap.size, 4, none⟩ = some (.int .i64 A') ∧ w'.cell? ⟨w1.heap.size, 5, none⟩ = some (.slice qa mo da) ∧ w'.cell? ⟨w1.heap.size, 6, none⟩ = some (.slice qb mn db) from fun w' f => by
  obtain ⟨x0, x1, x2, x3, x4, x5, x6⟩ := (BX.kept f).cells
  obtain ⟨y0, y1, y2, y3, y4, y5, y6⟩ := (BY.kept f).cells
  exact ⟨f, x0, x1, x2, x3, x4, x5, x6, y0, y1, y2, y3, y4, y5, y6⟩)
 have hS0 := HS.out w2.drew (Fr.drew _ w2)
 clear F1 F2 BX BY
 go_enter Tryz.func76, Tryz.ntmps76
 go_wp2_with fail
 go_region_held3 (fun w' => Fr None' w2 w' ∧ w'.cell? ⟨w.heap.size, 0, none⟩ = some (.int .i64 K) ∧ w'.cell? ⟨w.heap.size, 1, none⟩ = some (.string P) ∧ w'.cell? ⟨w.heap.size, 2, none⟩ = some (.string T) ∧ w'.cell? ⟨w.heap.size, 3, none⟩ = some (.string F) ∧ w'.cell? ⟨w.heap.size, 4, none⟩ = some (.int .i64 A) ∧ w'.cell? ⟨w.heap.size, 5, none⟩ = some (.slice pa no ca) ∧ w'.cell? ⟨w.heap.size, 6, none⟩ = some (.slice pb nn cb) ∧ w'.cell? ⟨w1.heap.size, 0, none⟩ = some (.int .i64 K') ∧ w'.cell? ⟨w1.heap.size, 1, none⟩ = some (.string P') ∧ w'.cell? ⟨w1.heap.size, 2, none⟩ = some (.string T') ∧ w'.cell? ⟨w1.heap.size, 3, none⟩ = some (.string F') ∧ w'.cell? ⟨w1.heap.size, 4, none⟩ = some (.int .i64 A') ∧ w'.cell? ⟨w1.heap.size, 5, none⟩ = some (.slice qa mo da) ∧ w'.cell? ⟨w1.heap.size, 6, none⟩ = some (.slice qb mn db))
  (first | with_reducible exact hS0 | with_reducible exact hS3 | with_reducible exact hS4 | with_reducible exact hS5)
  (first
   | (go_at_call 116; with_reducible (refine (Y2 _).mono ?_); rintro e w3 ⟨b1, b2, b3, b4, b5, b6, rfl, T3, f3⟩; have G3 := Zz (Fr.then7 (Fr.drew None' w2) f3); have HT := Zz T3; have hS3 := HS.out w3 (Hid.out G3); clear f3 T3; unfold tab33)
   | (go_at_call 117; with_reducible (refine (HX.out w3).mono ?_); rintro e w4 ⟨rfl, f4⟩; have G4 := Zz f4; have hS4 := HS.out w4 (Fr.then7 (Hid.out G3) f4); clear f4)
   | (go_at_call 117; with_reducible (refine (HY.out w4).mono ?_); rintro e w5 ⟨rfl, f5⟩; have G5 := Zz (Fr.then7 (Hid.out G4) f5); have hS5 := HS.out w5 (Fr.then7 (Hid.out G3) (Hid.out G5)); clear f5))
 all_goals clear hS0 hS3 hS4 hS5
 all_goals go_wp2_with fail
 all_goals go_ret
 all_goals exact ⟨_, _, rfl, (fun args w => Go.MuLone.run_callFunc_enter Tryz.func153 (by kernel_rfl) rfl args w), (fun w'' _ => HFn.out w''), (HF.out.then7 G3.out).then7 G5.out⟩
theorem ruleOf_20 (x y : Pr) (pa pb qa qb : Option Addr) (no nn ca cb mo mn da db : Nat) (w : World) (_fx : Fits x no nn) (_fy : Fits y mo mn) (hi : Ys x = 2) (hj : Ys y = 0) :
  Calls Tryz.prog 76 #[.agg #[.int .i64 x.kind, .string x.path, .string x.dst, .string x.src, .int .i64 x.pos, .slice pa no ca, .slice pb nn cb], .agg #[.int .i64 y.kind, .string y.path, .string y.dst, .string y.src, .int .i64 y.pos, .slice qa mo da, .slice qb mn db]] w fun e w' => Yv x y pa pb qa qb no nn ca cb mo mn da db w e w' := by
 have HX := Zz (show ∀ w', Calls Tryz.prog 117 #[.agg #[.int .i64 x.kind, .string x.path, .string x.dst, .string x.src, .int .i64 x.pos, .slice pa no ca, .slice pb nn cb]] w' (fun e w'' => e = .returned (.int .i64 2) ∧ Fr None' w' w'') from fun w' => by have h := Yp x pa pb no nn ca cb w'; rw [hi] at h; exact h)
 have HY := Zz (show ∀ w', Calls Tryz.prog 117 #[.agg #[.int .i64 y.kind, .string y.path, .string y.dst, .string y.src, .int .i64 y.pos, .slice qa mo da, .slice qb mn db]] w' (fun e w'' => e = .returned (.int .i64 0) ∧ Fr None' w' w'') from fun w' => by have h := Yp y qa qb mo mn da db w'; rw [hj] at h; exact h)
 have HFn := Zz (show ∀ (b : Nat) w', w'.cell? ⟨b, 0, none⟩ = some (.func (.func 150) #[] #[]) → Calls Tryz.prog 188 #[.agg #[.int .i64 x.kind, .string x.path, .string x.dst, .string x.src, .int .i64 x.pos, .slice pa no ca, .slice pb nn cb], .agg #[.int .i64 y.kind, .string y.path, .string y.dst, .string y.src, .int .i64 y.pos, .slice qa mo da, .slice qb mn db], .pointer (some ⟨b, 0, none⟩)] w' (RuleAns (Zx x y) pa pb qa qb no nn ca cb mo mn da db w') from fun b w' hb => by have e : Zx x y = (y, x, Yg x y) := (by unfold Zx; simp [hi, hj]); rw [e]; exact they_apart x y pa pb qa qb no nn ca cb mo mn da db w' b hb)
 unfold Yv
 generalize Zx x y = R at HFn ⊢
 clear _fx _fy hi hj
 obtain ⟨K, P, T, F, A, lO, lN⟩ := x
 obtain ⟨K', P', T', F', A', lO', lN'⟩ := y
 simp only at HX HY HFn ⊢
 obtain ⟨w1, hw1⟩ : ∃ w1, w.alloc (.cells #[.int .i64 K, .string P, .string T, .string F, .int .i64 A, .slice pa no ca, .slice pb nn cb] 43) = w1 := ⟨_, rfl⟩
 obtain ⟨w2, hw2⟩ : ∃ w2, w1.alloc (.cells #[.int .i64 K', .string P', .string T', .string F', .int .i64 A', .slice qa mo da, .slice qb mn db] 43) = w2 := ⟨_, rfl⟩
 have F1 : Fr None' w w1 := hw1 ▸ Fr.alloc None' w _
 have F2 : Fr None' w1 w2 := hw2 ▸ Fr.alloc None' w1 _
 have BX : Box w2 w.heap.size (.int .i64 K) (.string P) (.string T) (.string F) (.int .i64 A) (.slice pa no ca) (.slice pb nn cb) := (hw1 ▸ Box.new w _ _ _ _ _ _ _ : Box w1 _ _ _ _ _ _ _ _).kept F2
 have BY : Box w2 w1.heap.size (.int .i64 K') (.string P') (.string T') (.string F') (.int .i64 A') (.slice qa mo da) (.slice qb mn db) := hw2 ▸ Box.new w1 _ _ _ _ _ _ _
 have HF := Zz (F1.then7 F2)
 have HS := Zz (show ∀ w', Fr None' w2 w' → Fr None' w2 w' ∧ w'.cell? ⟨w.heap.size, 0, none⟩ = some (.int .i64 K) ∧ w'.cell? ⟨w.heap.size, 1, none⟩ = some (.string P) ∧ w'.cell? ⟨w.heap.size, 2, none⟩ = some (.string T) ∧ w'.cell? ⟨w.heap.size, 3, none⟩ = some (.string F) ∧ w'.cell? ⟨w.heap.size, 4, none⟩ = some (.int .i64 A) ∧ w'.cell? ⟨w.heap.size, 5, none⟩ = some (.slice pa no ca) ∧ w'.cell? ⟨w.heap.size, 6, none⟩ = some (.slice pb nn cb) ∧ w'.cell? ⟨w1.heap.size, 0, none⟩ = some (.int .i64 K') ∧ w'.cell? ⟨w1.heap.size, 1, none⟩ = some (.string P') ∧ w'.cell? ⟨w1.heap.size, 2, none⟩ = some (.string T') ∧ w'.cell? ⟨w1.heap.size, 3, none⟩ = some (.string F') ∧ w'.cell? ⟨w1.heap.size, 4, none⟩ = some (.int .i64 A') ∧ w'.cell? ⟨w1.heap.size, 5, none⟩ = some (.slice qa mo da) ∧ w'.cell? ⟨w1.heap.size, 6, none⟩ = some (.slice qb mn db) from fun w' f => by
  obtain ⟨x0, x1, x2, x3, x4, x5, x6⟩ := (BX.kept f).cells
  obtain ⟨y0, y1, y2, y3, y4, y5, y6⟩ := (BY.kept f).cells
  exact ⟨f, x0, x1, x2, x3, x4, x5, x6, y0, y1, y2, y3, y4, y5, y6⟩)
 have hS0 := HS.out w2.drew (Fr.drew _ w2)
 clear F1 F2 BX BY
 go_enter Tryz.func76, Tryz.ntmps76
 go_wp2_with fail
 go_region_held3 (fun w' => Fr None' w2 w' ∧ w'.cell? ⟨w.heap.size, 0, none⟩ = some (.int .i64 K) ∧ w'.cell? ⟨w.heap.size, 1, none⟩ = some (.string P) ∧ w'.cell? ⟨w.heap.size, 2, none⟩ = some (.string T) ∧ w'.cell? ⟨w.heap.size, 3, none⟩ = some (.string F) ∧ w'.cell? ⟨w.heap.size, 4, none⟩ = some (.int .i64 A) ∧ w'.cell? ⟨w.heap.size, 5, none⟩ = some (.slice pa no ca) ∧ w'.cell? ⟨w.heap.size, 6, none⟩ = some (.slice pb nn cb) ∧ w'.cell? ⟨w1.heap.size, 0, none⟩ = some (.int .i64 K') ∧ w'.cell? ⟨w1.heap.size, 1, none⟩ = some (.string P') ∧ w'.cell? ⟨w1.heap.size, 2, none⟩ = some (.string T') ∧ w'.cell? ⟨w1.heap.size, 3, none⟩ = some (.string F') ∧ w'.cell? ⟨w1.heap.size, 4, none⟩ = some (.int .i64 A') ∧ w'.cell? ⟨w1.heap.size, 5, none⟩ = some (.slice qa mo da) ∧ w'.cell? ⟨w1.heap.size, 6, none⟩ = some (.slice qb mn db))
  (first | with_reducible exact hS0 | with_reducible exact hS3 | with_reducible exact hS4 | with_reducible exact hS5)
  (first
   | (go_at_call 116; with_reducible (refine (Y2 _).mono ?_); rintro e w3 ⟨b1, b2, b3, b4, b5, b6, rfl, T3, f3⟩; have G3 := Zz (Fr.then7 (Fr.drew None' w2) f3); have HT := Zz T3; have hS3 := HS.out w3 (Hid.out G3); clear f3 T3; unfold tab33)
   | (go_at_call 117; with_reducible (refine (HX.out w3).mono ?_); rintro e w4 ⟨rfl, f4⟩; have G4 := Zz f4; have hS4 := HS.out w4 (Fr.then7 (Hid.out G3) f4); clear f4)
   | (go_at_call 117; with_reducible (refine (HY.out w4).mono ?_); rintro e w5 ⟨rfl, f5⟩; have G5 := Zz (Fr.then7 (Hid.out G4) f5); have hS5 := HS.out w5 (Fr.then7 (Hid.out G3) (Hid.out G5)); clear f5))
 all_goals clear hS0 hS3 hS4 hS5
 all_goals go_wp2_with fail
 all_goals go_ret
 all_goals exact ⟨_, _, rfl, (fun args w => Go.MuLone.run_callFunc_enter Tryz.func188 (by kernel_rfl) rfl args w), (fun w'' f => HFn.out b5 w'' (f.keepCell (G5.out.keepCell HT.out.2.2.1 (fun e => e)) (fun e => e))), (HF.out.then7 G3.out).then7 G5.out⟩
theorem ruleOf_21 (x y : Pr) (pa pb qa qb : Option Addr) (no nn ca cb mo mn da db : Nat) (w : World) (fx : Fits x no nn) (fy : Fits y mo mn) (hi : Ys x = 2) (hj : Ys y = 1) :
  Calls Tryz.prog 76 #[.agg #[.int .i64 x.kind, .string x.path, .string x.dst, .string x.src, .int .i64 x.pos, .slice pa no ca, .slice pb nn cb], .agg #[.int .i64 y.kind, .string y.path, .string y.dst, .string y.src, .int .i64 y.pos, .slice qa mo da, .slice qb mn db]] w fun e w' => Yv x y pa pb qa qb no nn ca cb mo mn da db w e w' := by
 have HX := Zz (show ∀ w', Calls Tryz.prog 117 #[.agg #[.int .i64 x.kind, .string x.path, .string x.dst, .string x.src, .int .i64 x.pos, .slice pa no ca, .slice pb nn cb]] w' (fun e w'' => e = .returned (.int .i64 2) ∧ Fr None' w' w'') from fun w' => by have h := Yp x pa pb no nn ca cb w'; rw [hi] at h; exact h)
 have HY := Zz (show ∀ w', Calls Tryz.prog 117 #[.agg #[.int .i64 y.kind, .string y.path, .string y.dst, .string y.src, .int .i64 y.pos, .slice qa mo da, .slice qb mn db]] w' (fun e w'' => e = .returned (.int .i64 1) ∧ Fr None' w' w'') from fun w' => by have h := Yp y qa qb mo mn da db w'; rw [hj] at h; exact h)
 have HFn := Zz (show ∀ w', Calls Tryz.prog 154 #[.agg #[.int .i64 x.kind, .string x.path, .string x.dst, .string x.src, .int .i64 x.pos, .slice pa no ca, .slice pb nn cb], .agg #[.int .i64 y.kind, .string y.path, .string y.dst, .string y.src, .int .i64 y.pos, .slice qa mo da, .slice qb mn db]] w' (RuleAns (Zx x y) pa pb qa qb no nn ca cb mo mn da db w') from fun w' => by have e : Zx x y = Yx x y := (by unfold Zx; simp [hi, hj]); rw [e]; exact moveChange_any x y pa pb qa qb no nn ca cb mo mn da db w' ⟨fx.s.path, fx.s.dst⟩ ⟨fy.s.path, fy.s.dst⟩)
 unfold Yv
 generalize Zx x y = R at HFn ⊢
 clear fx fy hi hj
 obtain ⟨K, P, T, F, A, lO, lN⟩ := x
 obtain ⟨K', P', T', F', A', lO', lN'⟩ := y
 simp only at HX HY HFn ⊢
 obtain ⟨w1, hw1⟩ : ∃ w1, w.alloc (.cells #[.int .i64 K, .string P, .string T, .string F, .int .i64 A, .slice pa no ca, .slice pb nn cb] 43) = w1 := ⟨_, rfl⟩
 obtain ⟨w2, hw2⟩ : ∃ w2, w1.alloc (.cells #[.int .i64 K', .string P', .string T', .string F', .int .i64 A', .slice qa mo da, .slice qb mn db] 43) = w2 := ⟨_, rfl⟩
 have F1 : Fr None' w w1 := hw1 ▸ Fr.alloc None' w _
 have F2 : Fr None' w1 w2 := hw2 ▸ Fr.alloc None' w1 _
 have BX : Box w2 w.heap.size (.int .i64 K) (.string P) (.string T) (.string F) (.int .i64 A) (.slice pa no ca) (.slice pb nn cb) := (hw1 ▸ Box.new w _ _ _ _ _ _ _ : Box w1 _ _ _ _ _ _ _ _).kept F2
 have BY : Box w2 w1.heap.size (.int .i64 K') (.string P') (.string T') (.string F') (.int .i64 A') (.slice qa mo da) (.slice qb mn db) := hw2 ▸ Box.new w1 _ _ _ _ _ _ _
 have HF := Zz (F1.then7 F2)
 have HS := Zz (show ∀ w', Fr None' w2 w' → Fr None' w2 w' ∧ w'.cell? ⟨w.heap.size, 0, none⟩ = some (.int .i64 K) ∧ w'.cell? ⟨w.heap.size, 1, none⟩ = some (.string P) ∧ w'.cell? ⟨w.heap.size, 2, none⟩ = some (.string T) ∧ w'.cell? ⟨w.heap.size, 3, none⟩ = some (.string F) ∧ w'.cell? ⟨w.heap.size, 4, none⟩ = some (.int .i64 A) ∧ w'.cell? ⟨w.heap.size, 5, none⟩ = some (.slice pa no ca) ∧ w'.cell? ⟨w.heap.size, 6, none⟩ = some (.slice pb nn cb) ∧ w'.cell? ⟨w1.heap.size, 0, none⟩ = some (.int .i64 K') ∧ w'.cell? ⟨w1.heap.size, 1, none⟩ = some (.string P') ∧ w'.cell? ⟨w1.heap.size, 2, none⟩ = some (.string T') ∧ w'.cell? ⟨w1.heap.size, 3, none⟩ = some (.string F') ∧ w'.cell? ⟨w1.heap.size, 4, none⟩ = some (.int .i64 A') ∧ w'.cell? ⟨w1.heap.size, 5, none⟩ = some (.slice qa mo da) ∧ w'.cell? ⟨w1.heap.size, 6, none⟩ = some (.slice qb mn db) from fun w' f => by
  obtain ⟨x0, x1, x2, x3, x4, x5, x6⟩ := (BX.kept f).cells
  obtain ⟨y0, y1, y2, y3, y4, y5, y6⟩ := (BY.kept f).cells
  exact ⟨f, x0, x1, x2, x3, x4, x5, x6, y0, y1, y2, y3, y4, y5, y6⟩)
 have hS0 := HS.out w2.drew (Fr.drew _ w2)
 clear F1 F2 BX BY
 go_enter Tryz.func76, Tryz.ntmps76
 go_wp2_with fail
 go_region_held3 (fun w' => Fr None' w2 w' ∧ w'.cell? ⟨w.heap.size, 0, none⟩ = some (.int .i64 K) ∧ w'.cell? ⟨w.heap.size, 1, none⟩ = some (.string P) ∧ w'.cell? ⟨w.heap.size, 2, none⟩ = some (.string T) ∧ w'.cell? ⟨w.heap.size, 3, none⟩ = some (.string F) ∧ w'.cell? ⟨w.heap.size, 4, none⟩ = some (.int .i64 A) ∧ w'.cell? ⟨w.heap.size, 5, none⟩ = some (.slice pa no ca) ∧ w'.cell? ⟨w.heap.size, 6, none⟩ = some (.slice pb nn cb) ∧ w'.cell? ⟨w1.heap.size, 0, none⟩ = some (.int .i64 K') ∧ w'.cell? ⟨w1.heap.size, 1, none⟩ = some (.string P') ∧ w'.cell? ⟨w1.heap.size, 2, none⟩ = some (.string T') ∧ w'.cell? ⟨w1.heap.size, 3, none⟩ = some (.string F') ∧ w'.cell? ⟨w1.heap.size, 4, none⟩ = some (.int .i64 A') ∧ w'.cell? ⟨w1.heap.size, 5, none⟩ = some (.slice qa mo da) ∧ w'.cell? ⟨w1.heap.size, 6, none⟩ = some (.slice qb mn db))
  (first | with_reducible exact hS0 | with_reducible exact hS3 | with_reducible exact hS4 | with_reducible exact hS5)
  (first
   | (go_at_call 116; with_reducible (refine (Y2 _).mono ?_); rintro e w3 ⟨b1, b2, b3, b4, b5, b6, rfl, T3, f3⟩; have G3 := Zz (Fr.then7 (Fr.drew None' w2) f3); have HT := Zz T3; have hS3 := HS.out w3 (Hid.out G3); clear f3 T3; unfold tab33)
   | (go_at_call 117; with_reducible (refine (HX.out w3).mono ?_); rintro e w4 ⟨rfl, f4⟩; have G4 := Zz f4; have hS4 := HS.out w4 (Fr.then7 (Hid.out G3) f4); clear f4)
   | (go_at_call 117; with_reducible (refine (HY.out w4).mono ?_); rintro e w5 ⟨rfl, f5⟩; have G5 := Zz (Fr.then7 (Hid.out G4) f5); have hS5 := HS.out w5 (Fr.then7 (Hid.out G3) (Hid.out G5)); clear f5))
 all_goals clear hS0 hS3 hS4 hS5
 all_goals go_wp2_with fail
 all_goals go_ret
 all_goals exact ⟨_, _, rfl, (fun args w => Go.MuLone.run_callFunc_enter Tryz.func154 (by kernel_rfl) rfl args w), (fun w'' _ => HFn.out w''), (HF.out.then7 G3.out).then7 G5.out⟩
theorem ruleOf_22 (x y : Pr) (pa pb qa qb : Option Addr) (no nn ca cb mo mn da db : Nat) (w : World) (_fx : Fits x no nn) (_fy : Fits y mo mn) (hi : Ys x = 2) (hj : Ys y = 2) :
  Calls Tryz.prog 76 #[.agg #[.int .i64 x.kind, .string x.path, .string x.dst, .string x.src, .int .i64 x.pos, .slice pa no ca, .slice pb nn cb], .agg #[.int .i64 y.kind, .string y.path, .string y.dst, .string y.src, .int .i64 y.pos, .slice qa mo da, .slice qb mn db]] w fun e w' => Yv x y pa pb qa qb no nn ca cb mo mn da db w e w' := by
 have HX := Zz (show ∀ w', Calls Tryz.prog 117 #[.agg #[.int .i64 x.kind, .string x.path, .string x.dst, .string x.src, .int .i64 x.pos, .slice pa no ca, .slice pb nn cb]] w' (fun e w'' => e = .returned (.int .i64 2) ∧ Fr None' w' w'') from fun w' => by have h := Yp x pa pb no nn ca cb w'; rw [hi] at h; exact h)
 have HY := Zz (show ∀ w', Calls Tryz.prog 117 #[.agg #[.int .i64 y.kind, .string y.path, .string y.dst, .string y.src, .int .i64 y.pos, .slice qa mo da, .slice qb mn db]] w' (fun e w'' => e = .returned (.int .i64 2) ∧ Fr None' w' w'') from fun w' => by have h := Yp y qa qb mo mn da db w'; rw [hj] at h; exact h)
 have HFn := Zz (show ∀ (b : Nat) w', w'.cell? ⟨b, 0, none⟩ = some (.func (.func 150) #[] #[]) → Calls Tryz.prog 188 #[.agg #[.int .i64 x.kind, .string x.path, .string x.dst, .string x.src, .int .i64 x.pos, .slice pa no ca, .slice pb nn cb], .agg #[.int .i64 y.kind, .string y.path, .string y.dst, .string y.src, .int .i64 y.pos, .slice qa mo da, .slice qb mn db], .pointer (some ⟨b, 0, none⟩)] w' (RuleAns (Zx x y) pa pb qa qb no nn ca cb mo mn da db w') from fun b w' hb => by have e : Zx x y = (y, x, Yg x y) := (by unfold Zx; simp [hi, hj]); rw [e]; exact they_apart x y pa pb qa qb no nn ca cb mo mn da db w' b hb)
 unfold Yv
 generalize Zx x y = R at HFn ⊢
 clear _fx _fy hi hj
 obtain ⟨K, P, T, F, A, lO, lN⟩ := x
 obtain ⟨K', P', T', F', A', lO', lN'⟩ := y
 simp only at HX HY HFn ⊢
 obtain ⟨w1, hw1⟩ : ∃ w1, w.alloc (.cells #[.int .i64 K, .string P, .string T, .string F, .int .i64 A, .slice pa no ca, .slice pb nn cb] 43) = w1 := ⟨_, rfl⟩
 obtain ⟨w2, hw2⟩ : ∃ w2, w1.alloc (.cells #[.int .i64 K', .string P', .string T', .string F', .int .i64 A', .slice qa mo da, .slice qb mn db] 43) = w2 := ⟨_, rfl⟩
 have F1 : Fr None' w w1 := hw1 ▸ Fr.alloc None' w _
 have F2 : Fr None' w1 w2 := hw2 ▸ Fr.alloc None' w1 _
 have BX : Box w2 w.heap.size (.int .i64 K) (.string P) (.string T) (.string F) (.int .i64 A) (.slice pa no ca) (.slice pb nn cb) := (hw1 ▸ Box.new w _ _ _ _ _ _ _ : Box w1 _ _ _ _ _ _ _ _).kept F2
 have BY : Box w2 w1.heap.size (.int .i64 K') (.string P') (.string T') (.string F') (.int .i64 A') (.slice qa mo da) (.slice qb mn db) := hw2 ▸ Box.new w1 _ _ _ _ _ _ _
 have HF := Zz (F1.then7 F2)
 have HS := Zz (show ∀ w', Fr None' w2 w' → Fr None' w2 w' ∧ w'.cell? ⟨w.heap.size, 0, none⟩ = some (.int .i64 K) ∧ w'.cell? ⟨w.heap.size, 1, none⟩ = some (.string P) ∧ w'.cell? ⟨w.heap.size, 2, none⟩ = some (.string T) ∧ w'.cell? ⟨w.heap.size, 3, none⟩ = some (.string F) ∧ w'.cell? ⟨w.heap.size, 4, none⟩ = some (.int .i64 A) ∧ w'.cell? ⟨w.heap.size, 5, none⟩ = some (.slice pa no ca) ∧ w'.cell? ⟨w.heap.size, 6, none⟩ = some (.slice pb nn cb) ∧ w'.cell? ⟨w1.heap.size, 0, none⟩ = some (.int .i64 K') ∧ w'.cell? ⟨w1.heap.size, 1, none⟩ = some (.string P') ∧ w'.cell? ⟨w1.heap.size, 2, none⟩ = some (.string T') ∧ w'.cell? ⟨w1.heap.size, 3, none⟩ = some (.string F') ∧ w'.cell? ⟨w1.heap.size, 4, none⟩ = some (.int .i64 A') ∧ w'.cell? ⟨w1.heap.size, 5, none⟩ = some (.slice qa mo da) ∧ w'.cell? ⟨w1.heap.size, 6, none⟩ = some (.slice qb mn db) from fun w' f => by
  obtain ⟨x0, x1, x2, x3, x4, x5, x6⟩ := (BX.kept f).cells
  obtain ⟨y0, y1, y2, y3, y4, y5, y6⟩ := (BY.kept f).cells
  exact ⟨f, x0, x1, x2, x3, x4, x5, x6, y0, y1, y2, y3, y4, y5, y6⟩)
 have hS0 := HS.out w2.drew (Fr.drew _ w2)
 clear F1 F2 BX BY
 go_enter Tryz.func76, Tryz.ntmps76
 go_wp2_with fail
 go_region_held3 (fun w' => Fr None' w2 w' ∧ w'.cell? ⟨w.heap.size, 0, none⟩ = some (.int .i64 K) ∧ w'.cell? ⟨w.heap.size, 1, none⟩ = some (.string P) ∧ w'.cell? ⟨w.heap.size, 2, none⟩ = some (.string T) ∧ w'.cell? ⟨w.heap.size, 3, none⟩ = some (.string F) ∧ w'.cell? ⟨w.heap.size, 4, none⟩ = some (.int .i64 A) ∧ w'.cell? ⟨w.heap.size, 5, none⟩ = some (.slice pa no ca) ∧ w'.cell? ⟨w.heap.size, 6, none⟩ = some (.slice pb nn cb) ∧ w'.cell? ⟨w1.heap.size, 0, none⟩ = some (.int .i64 K') ∧ w'.cell? ⟨w1.heap.size, 1, none⟩ = some (.string P') ∧ w'.cell? ⟨w1.heap.size, 2, none⟩ = some (.string T') ∧ w'.cell? ⟨w1.heap.size, 3, none⟩ = some (.string F') ∧ w'.cell? ⟨w1.heap.size, 4, none⟩ = some (.int .i64 A') ∧ w'.cell? ⟨w1.heap.size, 5, none⟩ = some (.slice qa mo da) ∧ w'.cell? ⟨w1.heap.size, 6, none⟩ = some (.slice qb mn db))
  (first | with_reducible exact hS0 | with_reducible exact hS3 | with_reducible exact hS4 | with_reducible exact hS5)
  (first
   | (go_at_call 116; with_reducible (refine (Y2 _).mono ?_); rintro e w3 ⟨b1, b2, b3, b4, b5, b6, rfl, T3, f3⟩; have G3 := Zz (Fr.then7 (Fr.drew None' w2) f3); have HT := Zz T3; have hS3 := HS.out w3 (Hid.out G3); clear f3 T3; unfold tab33)
   | (go_at_call 117; with_reducible (refine (HX.out w3).mono ?_); rintro e w4 ⟨rfl, f4⟩; have G4 := Zz f4; have hS4 := HS.out w4 (Fr.then7 (Hid.out G3) f4); clear f4)
   | (go_at_call 117; with_reducible (refine (HY.out w4).mono ?_); rintro e w5 ⟨rfl, f5⟩; have G5 := Zz (Fr.then7 (Hid.out G4) f5); have hS5 := HS.out w5 (Fr.then7 (Hid.out G3) (Hid.out G5)); clear f5))
 all_goals clear hS0 hS3 hS4 hS5
 all_goals go_wp2_with fail
 all_goals go_ret
 all_goals exact ⟨_, _, rfl, (fun args w => Go.MuLone.run_callFunc_enter Tryz.func188 (by kernel_rfl) rfl args w), (fun w'' f => HFn.out b6 w'' (f.keepCell (G5.out.keepCell HT.out.2.2.2 (fun e => e)) (fun e => e))), (HF.out.then7 G3.out).then7 G5.out⟩
theorem ruleOf10_any (x y : Pr) (pa pb qa qb : Option Addr) (no nn ca cb mo mn da db : Nat) (w : World) (fx : Fits x no nn) (fy : Fits y mo mn) :
  Calls Tryz.prog 76 #[.agg #[.int .i64 x.kind, .string x.path, .string x.dst, .string x.src, .int .i64 x.pos, .slice pa no ca, .slice pb nn cb], .agg #[.int .i64 y.kind, .string y.path, .string y.dst, .string y.src, .int .i64 y.pos, .slice qa mo da, .slice qb mn db]] w fun e w' => Yv x y pa pb qa qb no nn ca cb mo mn da db w e w' := by
 rcases cls_cases fx.r with ⟨h, _⟩ | ⟨h, _⟩ | ⟨h, _⟩ <;> rcases cls_cases fy.r with ⟨k, _⟩ | ⟨k, _⟩ | ⟨k, _⟩
 ·exact ruleOf_00 x y pa pb qa qb no nn ca cb mo mn da db w fx fy h k
 ·exact ruleOf_01 x y pa pb qa qb no nn ca cb mo mn da db w fx fy h k
 ·exact ruleOf_02 x y pa pb qa qb no nn ca cb mo mn da db w fx fy h k
 ·exact ruleOf_10 x y pa pb qa qb no nn ca cb mo mn da db w fx fy h k
 ·exact ruleOf_11 x y pa pb qa qb no nn ca cb mo mn da db w fx fy h k
 ·exact ruleOf_12 x y pa pb qa qb no nn ca cb mo mn da db w fx fy h k
 ·exact ruleOf_20 x y pa pb qa qb no nn ca cb mo mn da db w fx fy h k
 ·exact ruleOf_21 x y pa pb qa qb no nn ca cb mo mn da db w fx fy h k
 ·exact ruleOf_22 x y pa pb qa qb no nn ca cb mo mn da db w fx fy h k
end Go.Proofs.YtbnfjjjdnbcehaaGreatDoor
