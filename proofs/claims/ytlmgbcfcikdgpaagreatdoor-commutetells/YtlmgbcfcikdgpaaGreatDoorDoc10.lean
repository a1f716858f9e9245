/-
  What is proved here: what the document's small functions on two patches answer: change, addition, apart, lines. Conditions: the patches lie in memory, and are of bounded size.
-/
import Derived.Test.YtlmgbcfcikdgpaaGreatDoorRules10
import Derived.Test.YtlmgbcfcikdgpaaGreatDoorPRRest
namespace Go.Proofs.YtlmgbcfcikdgpaaGreatDoor
open Go.RowKit
set_option maxRecDepth 100000

set_option maxHeartbeats 2000000 in
theorem rchange_any (x : Pr) (pa pb : Option Addr) (no nn ca cb : Nat) (w : World) :
    Calls Tryz.prog 32 #[.agg #[.int .i64 x.kind, .string x.path, .string x.dst, .string x.src, .int .i64 x.pos, .slice pa no ca, .slice pb nn cb]] w fun e w' => e = .returned (.bool (decide (7 ≤ x.kind ∧ x.kind ≤ 9))) ∧ Fr None' w w' := by
  obtain ⟨K, P, T, F, A, lO, lN⟩ := x
  simp only
  by_cases h1 : 7 ≤ K
  · by_cases h2 : K ≤ 9
    · have hR : decide (7 ≤ K ∧ K ≤ 9) = true := by simp; omega
      rw [hR]
      go_enter Tryz.func32, Tryz.ntmps32
      go_wp2_with fail
      go_ret
      exact ⟨rfl, Fr.alloc _ _ _⟩
    · have hR : decide (7 ≤ K ∧ K ≤ 9) = false := by simp; omega
      rw [hR]
      go_enter Tryz.func32, Tryz.ntmps32
      go_wp2_with fail
      go_ret
      exact ⟨rfl, Fr.alloc _ _ _⟩
  · have hR : decide (7 ≤ K ∧ K ≤ 9) = false := by simp; omega
    rw [hR]
    go_enter Tryz.func32, Tryz.ntmps32
    go_wp2_with fail
    go_ret
    exact ⟨rfl, Fr.alloc _ _ _⟩

set_option maxHeartbeats 2000000 in
theorem raddition_any (x : Pr) (pa pb : Option Addr) (no nn ca cb : Nat) (w : World) :
    Calls Tryz.prog 35 #[.agg #[.int .i64 x.kind, .string x.path, .string x.dst, .string x.src, .int .i64 x.pos, .slice pa no ca, .slice pb nn cb]] w fun e w' => e = .returned (.bool (decide (x.kind ≤ 6))) ∧ Fr None' w w' := by
  obtain ⟨K, P, T, F, A, lO, lN⟩ := x
  simp only
  by_cases h1 : K ≤ 6
  · have hR : decide (K ≤ 6) = true := by simp; omega
    rw [hR]
    go_enter Tryz.func35, Tryz.ntmps35
    go_wp2_with fail
    go_ret
    exact ⟨rfl, Fr.alloc _ _ _⟩
  · have hR : decide (K ≤ 6) = false := by simp; omega
    rw [hR]
    go_enter Tryz.func35, Tryz.ntmps35
    go_wp2_with fail
    go_ret
    exact ⟨rfl, Fr.alloc _ _ _⟩

set_option maxHeartbeats 2000000 in
theorem rapart10_any (x : Pr) (z : ByteArray) (pa pb : Option Addr) (no nn ca cb : Nat) (w : World) (h1 : x.path.size < 900000) (h2 : x.dst.size < 900000) (h3 : z.size < 900000) :
    Calls Tryz.prog 31 #[.agg #[.int .i64 x.kind, .string x.path, .string x.dst, .string x.src, .int .i64 x.pos, .slice pa no ca, .slice pb nn cb], .string z] w fun e w' => e = .returned (.bool (apP x.path z && apP x.dst z)) ∧ Fr None' w w' := by
  obtain ⟨K, P, T, F, A, lO, lN⟩ := x
  simp only at h1 h2 ⊢
  have c1 : ∀ w', Calls Tryz.prog 36 #[.string P, .string z] w' fun e w'' => e = .returned (.bool (apP P z)) ∧ w' = w'' := fun w' => Path.rapart_any P z w' (by omega) (by omega)
  have c2 : ∀ w', Calls Tryz.prog 36 #[.string T, .string z] w' fun e w'' => e = .returned (.bool (apP T z)) ∧ w' = w'' := fun w' => Path.rapart_any T z w' (by omega) (by omega)
  generalize apP P z = R1 at c1 ⊢
  generalize apP T z = R2 at c2 ⊢
  clear h1 h2 h3
  obtain ⟨w1, hw1⟩ : ∃ w1, w.alloc (.cells #[.int .i64 K, .string P, .string T, .string F, .int .i64 A, .slice pa no ca, .slice pb nn cb] 24) = w1 := ⟨_, rfl⟩
  have HF := toHid10 (show Fr None' w w1 from hw1 ▸ Fr.alloc None' w _)
  obtain ⟨a0, a1, a2, a3, a4, a5, a6⟩ := (hw1 ▸ Box.new w _ _ _ _ _ _ _ : Box w1 w.heap.size (.int .i64 K) (.string P) (.string T) (.string F) (.int .i64 A) (.slice pa no ca) (.slice pb nn cb)).cells
  have q1 := c1 w1
  have q2 := c2 w1
  clear c1 c2
  cases R1 with
  | false =>
    go_enter Tryz.func31, Tryz.ntmps31
    go_wp2_with fail
    with_reducible refine q1.mono ?_
    rintro e w2 ⟨rfl, rfl⟩
    clear q1 q2
    go_wp2_with fail
    go_ret
    exact ⟨rfl, HF.out⟩
  | true =>
    go_enter Tryz.func31, Tryz.ntmps31
    go_wp2_with fail
    with_reducible refine q1.mono ?_
    rintro e w2 ⟨rfl, rfl⟩
    clear q1
    go_wp2_with fail
    with_reducible refine q2.mono ?_
    rintro e w3 ⟨rfl, rfl⟩
    clear q2
    cases R2 <;> (go_wp2_with fail; go_ret; exact ⟨rfl, HF.out⟩)

set_option maxHeartbeats 8000000 in
theorem rlines10_any (x y : Pr) (pa pb qa qb : Option Addr) (no nn ca cb mo mn da db : Nat) (w : World) (ho : x.old.length = no) (hn : x.new.length = nn) (go : y.old.length = mo) (gn : y.new.length = mn) (zo : no < 900000) (zn : nn < 900000) (yo : mo < 900000) (yn : mn < 900000) (hx : 0 ≤ x.pos ∧ x.pos ≤ 1073741824) (hy : 0 ≤ y.pos ∧ y.pos ≤ 1073741824) :
    Calls Tryz.prog 30 #[.agg #[.int .i64 x.kind, .string x.path, .string x.dst, .string x.src, .int .i64 x.pos, .slice pa no ca, .slice pb nn cb], .agg #[.int .i64 y.kind, .string y.path, .string y.dst, .string y.src, .int .i64 y.pos, .slice qa mo da, .slice qb mn db]] w fun e w' => e = .returned (.tuple #[.agg #[.int .i64 (linesC x y).1.kind, .string (linesC x y).1.path, .string (linesC x y).1.dst, .string (linesC x y).1.src, .int .i64 (linesC x y).1.pos, .slice qa mo da, .slice qb mn db], .agg #[.int .i64 (linesC x y).2.1.kind, .string (linesC x y).2.1.path, .string (linesC x y).2.1.dst, .string (linesC x y).2.1.src, .int .i64 (linesC x y).2.1.pos, .slice pa no ca, .slice pb nn cb], .bool (linesC x y).2.2]) ∧ Fr None' w w' := by
  have HR := toHid10 (show linesC x y = if x.pos + nn < y.pos then ({ y with pos := y.pos - nn + no }, x, true) else if y.pos + mo < x.pos then (y, { x with pos := x.pos - mo + mn }, true) else (y, x, false) from by
    unfold linesC
    rw [ho, hn, go, gn]
    have e1 : y.pos + ((no : Int) - nn) = y.pos - nn + no := by omega
    have e2 : x.pos + ((mn : Int) - mo) = x.pos - mo + mn := by omega
    rw [e1, e2])
  generalize linesC x y = R at HR ⊢
  obtain ⟨K, P, T, F, A, lO, lN⟩ := x
  obtain ⟨K', P', T', F', A', lO', lN'⟩ := y
  simp only at HR hx hy ⊢
  obtain ⟨u1, u2⟩ := hx
  obtain ⟨u3, u4⟩ := hy
  have i1 : (no : Int) < 900000 := by omega
  have i2 : (nn : Int) < 900000 := by omega
  have i3 : (mo : Int) < 900000 := by omega
  have i4 : (mn : Int) < 900000 := by omega
  clear ho hn go gn zo zn yo yn
  obtain ⟨w1, hw1⟩ : ∃ w1, w.alloc (.cells #[.int .i64 K, .string P, .string T, .string F, .int .i64 A, .slice pa no ca, .slice pb nn cb] 24) = w1 := ⟨_, rfl⟩
  obtain ⟨w2, hw2⟩ : ∃ w2, w1.alloc (.cells #[.int .i64 K', .string P', .string T', .string F', .int .i64 A', .slice qa mo da, .slice qb mn db] 24) = w2 := ⟨_, rfl⟩
  obtain ⟨w3, hw3⟩ : ∃ w3, w2.alloc (.cells #[.int .i64 0, .string ⟨#[]⟩, .string ⟨#[]⟩, .string ⟨#[]⟩, .int .i64 0, .slice none 0 0, .slice none 0 0] 24) = w3 := ⟨_, rfl⟩
  obtain ⟨w4, hw4⟩ : ∃ w4, w3.alloc (.cells #[.int .i64 0, .string ⟨#[]⟩, .string ⟨#[]⟩, .string ⟨#[]⟩, .int .i64 0, .slice none 0 0, .slice none 0 0] 24) = w4 := ⟨_, rfl⟩
  have F1 : Fr None' w w1 := hw1 ▸ Fr.alloc None' w _
  have F2 : Fr None' w1 w2 := hw2 ▸ Fr.alloc None' w1 _
  have F3 : Fr None' w2 w3 := hw3 ▸ Fr.alloc None' w2 _
  have F4 : Fr None' w3 w4 := hw4 ▸ Fr.alloc None' w3 _
  have BX : Box w4 w.heap.size (.int .i64 K) (.string P) (.string T) (.string F) (.int .i64 A) (.slice pa no ca) (.slice pb nn cb) := (hw1 ▸ Box.new w _ _ _ _ _ _ _ : Box w1 _ _ _ _ _ _ _ _).kept ((F2.then7 F3).then7 F4)
  have BY : Box w4 w1.heap.size (.int .i64 K') (.string P') (.string T') (.string F') (.int .i64 A') (.slice qa mo da) (.slice qb mn db) := (hw2 ▸ Box.new w1 _ _ _ _ _ _ _ : Box w2 _ _ _ _ _ _ _ _).kept (F3.then7 F4)
  have BC : Box w4 w2.heap.size (.int .i64 0) (.string ⟨#[]⟩) (.string ⟨#[]⟩) (.string ⟨#[]⟩) (.int .i64 0) (.slice none 0 0) (.slice none 0 0) := (hw3 ▸ Box.new w2 _ _ _ _ _ _ _ : Box w3 _ _ _ _ _ _ _ _).kept F4
  have BD : Box w4 w3.heap.size (.int .i64 0) (.string ⟨#[]⟩) (.string ⟨#[]⟩) (.string ⟨#[]⟩) (.int .i64 0) (.slice none 0 0) (.slice none 0 0) := hw4 ▸ Box.new w3 _ _ _ _ _ _ _
  have s1 : w1.heap.size = w.heap.size + 1 := by rw [← hw1]; simp
  have s2 : w2.heap.size = w1.heap.size + 1 := by rw [← hw2]; simp
  have s3 : w3.heap.size = w2.heap.size + 1 := by rw [← hw3]; simp
  have HF : Hid (Fr None' w w4) := ((F1.then7 F2).then7 F3).then7 F4
  have HN : Hid (w.heap.size < w1.heap.size ∧ w1.heap.size < w2.heap.size ∧ w2.heap.size < w3.heap.size) := ⟨by omega, by omega, by omega⟩
  have n1 : ¬ w.heap.size = w1.heap.size := by omega
  have n2 : ¬ w.heap.size = w2.heap.size := by omega
  have n3 : ¬ w.heap.size = w3.heap.size := by omega
  have n4 : ¬ w1.heap.size = w2.heap.size := by omega
  have n5 : ¬ w1.heap.size = w3.heap.size := by omega
  have n6 : ¬ w2.heap.size = w3.heap.size := by omega
  have HBs : Hid (∀ w', Fr None' w4 w' → Box w' w.heap.size (.int .i64 K) (.string P) (.string T) (.string F) (.int .i64 A) (.slice pa no ca) (.slice pb nn cb) ∧ Box w' w1.heap.size (.int .i64 K') (.string P') (.string T') (.string F') (.int .i64 A') (.slice qa mo da) (.slice qb mn db) ∧ Box w' w2.heap.size (.int .i64 0) (.string ⟨#[]⟩) (.string ⟨#[]⟩) (.string ⟨#[]⟩) (.int .i64 0) (.slice none 0 0) (.slice none 0 0) ∧ Box w' w3.heap.size (.int .i64 0) (.string ⟨#[]⟩) (.string ⟨#[]⟩) (.string ⟨#[]⟩) (.int .i64 0) (.slice none 0 0) (.slice none 0 0)) := fun w' f => ⟨BX.kept f, BY.kept f, BC.kept f, BD.kept f⟩
  obtain ⟨x0, x1, x2, x3, x4, x5, x6⟩ := BX.cells
  obtain ⟨y0, y1, y2, y3, y4, y5, y6⟩ := BY.cells
  obtain ⟨c0, c1, c2, c3, c4, c5, c6⟩ := BC.cells
  obtain ⟨d0, d1, d2, d3, d4, d5, d6⟩ := BD.cells
  have xz := BX.frozen
  have yz := BY.frozen
  have cz := BC.frozen
  have dz := BD.frozen
  clear F1 F2 F3 F4 BX BY BC BD s1 s2 s3
  clear n1 n2 n3 n4 n5
  by_cases h1 : A + (nn : Int) < A'
  case pos =>
    have hR := HR.out.trans (if_pos h1)
    subst hR
    simp only
    have j1 : (nn : Int) < A' := by omega
    have j2 : A < A' - (nn : Int) := by omega
    clear HR h1
    go_enter Tryz.func30, Tryz.ntmps30
    go_wp2_with fail
    obtain ⟨w6, hw6⟩ : ∃ y, w4.setCell ⟨w1.heap.size, 4, none⟩ (.int .i64 (A' - (nn : Int) + (no : Int))) = y := ⟨_, rfl⟩
    have F6 : Fr (fun k => k = w1.heap.size) w4 w6 := hw6 ▸ Fr.setQ _ _ _ _
    have HB := toHid10 (show Box w6 w.heap.size (.int .i64 K) (.string P) (.string T) (.string F) (.int .i64 A) (.slice pa no ca) (.slice pb nn cb) ∧ Box w6 w1.heap.size (.int .i64 K') (.string P') (.string T') (.string F') (.int .i64 (A' - (nn : Int) + (no : Int))) (.slice qa mo da) (.slice qb mn db) ∧ Box w6 w2.heap.size (.int .i64 0) (.string ⟨#[]⟩) (.string ⟨#[]⟩) (.string ⟨#[]⟩) (.int .i64 0) (.slice none 0 0) (.slice none 0 0) ∧ Box w6 w3.heap.size (.int .i64 0) (.string ⟨#[]⟩) (.string ⟨#[]⟩) (.string ⟨#[]⟩) (.int .i64 0) (.slice none 0 0) (.slice none 0 0) from by
      obtain ⟨b1, b2, b3, b4⟩ := HBs.out w4 (Fr.refl _ _)
      have := HN.out
      exact ⟨b1.fr F6 (by omega), hw6 ▸ b2.set4 _, b3.fr F6 (by omega), b4.fr F6 (by omega)⟩)
    have HW := toHid10 (show Fr None' w w6 from HF.out.trans F6 (fun _ e => Or.inr (by have := HN.out; omega)))
    rw [hw6]
    clear F6 hw6
    clear x0 x1 x2 x3 x4 x5 x6 y0 y1 y2 y3 y4 y5 y6 c0 c1 c2 c3 c4 c5 c6 d0 d1 d2 d3 d4 d5 d6 xz yz cz dz u1 u2 u3 u4 i1 i2 i3 i4
    have HS := toHid10 (show (∀ w', Fr (fun k => k = w2.heap.size ∨ k = w3.heap.size) w6 w' → Fr (fun k => k = w2.heap.size ∨ k = w3.heap.size) w6 w' ∧ w'.cell? ⟨w.heap.size, 0, none⟩ = some (.int .i64 K) ∧ w'.cell? ⟨w.heap.size, 1, none⟩ = some (.string P) ∧ w'.cell? ⟨w.heap.size, 2, none⟩ = some (.string T) ∧ w'.cell? ⟨w.heap.size, 3, none⟩ = some (.string F) ∧ w'.cell? ⟨w.heap.size, 4, none⟩ = some (.int .i64 A) ∧ w'.cell? ⟨w.heap.size, 5, none⟩ = some (.slice pa no ca) ∧ w'.cell? ⟨w.heap.size, 6, none⟩ = some (.slice pb nn cb) ∧ w'.cell? ⟨w1.heap.size, 0, none⟩ = some (.int .i64 K') ∧ w'.cell? ⟨w1.heap.size, 1, none⟩ = some (.string P') ∧ w'.cell? ⟨w1.heap.size, 2, none⟩ = some (.string T') ∧ w'.cell? ⟨w1.heap.size, 3, none⟩ = some (.string F') ∧ w'.cell? ⟨w1.heap.size, 4, none⟩ = some (.int .i64 (A' - (nn : Int) + (no : Int))) ∧ w'.cell? ⟨w1.heap.size, 5, none⟩ = some (.slice qa mo da) ∧ w'.cell? ⟨w1.heap.size, 6, none⟩ = some (.slice qb mn db)) from fun w' f => by
      obtain ⟨x0, x1, x2, x3, x4, x5, x6⟩ := (HB.out.1.fr f (by have := HN.out; omega)).cells
      obtain ⟨y0, y1, y2, y3, y4, y5, y6⟩ := (HB.out.2.1.fr f (by have := HN.out; omega)).cells
      exact ⟨f, x0, x1, x2, x3, x4, x5, x6, y0, y1, y2, y3, y4, y5, y6⟩)
    have hS0 := HS.out w6.drew (Fr.drew _ w6)
    have hS6 := HS.out (setP w6 w2.heap.size (.int .i64 K') (.string P') (.string T') (.string F') (.int .i64 (A' - (nn : Int) + (no : Int))) (.slice qa mo da) (.slice qb mn db)).drew (Fr.then (Fr.setP _ (Or.inl rfl) _ _ _ _ _ _ _) (Fr.drew _ _))
    have hS7 := HS.out (setP (setP w6 w2.heap.size (.int .i64 K') (.string P') (.string T') (.string F') (.int .i64 (A' - (nn : Int) + (no : Int))) (.slice qa mo da) (.slice qb mn db)) w3.heap.size (.int .i64 K) (.string P) (.string T) (.string F) (.int .i64 A) (.slice pa no ca) (.slice pb nn cb)).drew (Fr.then (Fr.then (Fr.setP _ (Or.inl rfl) _ _ _ _ _ _ _) (Fr.setP _ (Or.inr rfl) _ _ _ _ _ _ _)) (Fr.drew _ _))
    obtain ⟨c0, c1, c2, c3, c4, c5, c6⟩ := HB.out.2.2.1.cells
    obtain ⟨d0, d1, d2, d3, d4, d5, d6⟩ := HB.out.2.2.2.cells
    have cz := HB.out.2.2.1.frozen
    have dz := HB.out.2.2.2.frozen
    go_region_held3 (fun w' => Fr (fun k => k = w2.heap.size ∨ k = w3.heap.size) w6 w' ∧ w'.cell? ⟨w.heap.size, 0, none⟩ = some (.int .i64 K) ∧ w'.cell? ⟨w.heap.size, 1, none⟩ = some (.string P) ∧ w'.cell? ⟨w.heap.size, 2, none⟩ = some (.string T) ∧ w'.cell? ⟨w.heap.size, 3, none⟩ = some (.string F) ∧ w'.cell? ⟨w.heap.size, 4, none⟩ = some (.int .i64 A) ∧ w'.cell? ⟨w.heap.size, 5, none⟩ = some (.slice pa no ca) ∧ w'.cell? ⟨w.heap.size, 6, none⟩ = some (.slice pb nn cb) ∧ w'.cell? ⟨w1.heap.size, 0, none⟩ = some (.int .i64 K') ∧ w'.cell? ⟨w1.heap.size, 1, none⟩ = some (.string P') ∧ w'.cell? ⟨w1.heap.size, 2, none⟩ = some (.string T') ∧ w'.cell? ⟨w1.heap.size, 3, none⟩ = some (.string F') ∧ w'.cell? ⟨w1.heap.size, 4, none⟩ = some (.int .i64 (A' - (nn : Int) + (no : Int))) ∧ w'.cell? ⟨w1.heap.size, 5, none⟩ = some (.slice qa mo da) ∧ w'.cell? ⟨w1.heap.size, 6, none⟩ = some (.slice qb mn db))
      (first | with_reducible exact hS0 | with_reducible exact hS6 | with_reducible exact hS7)
      (fail)
    clear hS0 hS6 hS7 cz dz c0 c1 c2 c3 c4 c5 c6 d0 d1 d2 d3 d4 d5 d6
    go_wp2_with fail
    have hfin := two_set0 HW.out HB.out.2.2.1 HB.out.2.2.2 n6 (by have := HN.out; omega) (by have := HN.out; omega) (.int .i64 K') (.string P') (.string T') (.string F') (.int .i64 (A' - (nn : Int) + (no : Int))) (.slice qa mo da) (.slice qb mn db) (.int .i64 K) (.string P) (.string T) (.string F) (.int .i64 A) (.slice pa no ca) (.slice pb nn cb)
    exact ret_two rfl rfl rfl rfl rfl hfin.1.drew hfin.2.1.drew ⟨rfl, hfin.2.2.1.then7 (Fr.drew _ _)⟩

  case neg =>
    by_cases h2 : A' + (mo : Int) < A
    case pos =>
      have hR := HR.out.trans ((if_neg h1).trans (if_pos h2))
      subst hR
      simp only
      have j1 : (mo : Int) < A := by omega
      have j2 : A' < A - (mo : Int) := by omega
      have j3 : ¬ A < A' - (nn : Int) := by omega
      clear HR h1 h2
      go_enter Tryz.func30, Tryz.ntmps30
      by_cases j4 : (nn : Int) < A'
      · go_wp2_with fail
        obtain ⟨w6, hw6⟩ : ∃ y, w4.setCell ⟨w.heap.size, 4, none⟩ (.int .i64 (A - (mo : Int) + (mn : Int))) = y := ⟨_, rfl⟩
        have F6 : Fr (fun k => k = w.heap.size) w4 w6 := hw6 ▸ Fr.setQ _ _ _ _
        have HB := toHid10 (show Box w6 w.heap.size (.int .i64 K) (.string P) (.string T) (.string F) (.int .i64 (A - (mo : Int) + (mn : Int))) (.slice pa no ca) (.slice pb nn cb) ∧ Box w6 w1.heap.size (.int .i64 K') (.string P') (.string T') (.string F') (.int .i64 A') (.slice qa mo da) (.slice qb mn db) ∧ Box w6 w2.heap.size (.int .i64 0) (.string ⟨#[]⟩) (.string ⟨#[]⟩) (.string ⟨#[]⟩) (.int .i64 0) (.slice none 0 0) (.slice none 0 0) ∧ Box w6 w3.heap.size (.int .i64 0) (.string ⟨#[]⟩) (.string ⟨#[]⟩) (.string ⟨#[]⟩) (.int .i64 0) (.slice none 0 0) (.slice none 0 0) from by
          obtain ⟨b1, b2, b3, b4⟩ := HBs.out w4 (Fr.refl _ _)
          have := HN.out
          exact ⟨hw6 ▸ b1.set4 _, b2.fr F6 (by omega), b3.fr F6 (by omega), b4.fr F6 (by omega)⟩)
        have HW := toHid10 (show Fr None' w w6 from HF.out.trans F6 (fun _ e => Or.inr (by have := HN.out; omega)))
        rw [hw6]
        clear F6 hw6
        clear x0 x1 x2 x3 x4 x5 x6 y0 y1 y2 y3 y4 y5 y6 c0 c1 c2 c3 c4 c5 c6 d0 d1 d2 d3 d4 d5 d6 xz yz cz dz u1 u2 u3 u4 i1 i2 i3 i4
        have HS := toHid10 (show (∀ w', Fr (fun k => k = w2.heap.size ∨ k = w3.heap.size) w6 w' → Fr (fun k => k = w2.heap.size ∨ k = w3.heap.size) w6 w' ∧ w'.cell? ⟨w.heap.size, 0, none⟩ = some (.int .i64 K) ∧ w'.cell? ⟨w.heap.size, 1, none⟩ = some (.string P) ∧ w'.cell? ⟨w.heap.size, 2, none⟩ = some (.string T) ∧ w'.cell? ⟨w.heap.size, 3, none⟩ = some (.string F) ∧ w'.cell? ⟨w.heap.size, 4, none⟩ = some (.int .i64 (A - (mo : Int) + (mn : Int))) ∧ w'.cell? ⟨w.heap.size, 5, none⟩ = some (.slice pa no ca) ∧ w'.cell? ⟨w.heap.size, 6, none⟩ = some (.slice pb nn cb) ∧ w'.cell? ⟨w1.heap.size, 0, none⟩ = some (.int .i64 K') ∧ w'.cell? ⟨w1.heap.size, 1, none⟩ = some (.string P') ∧ w'.cell? ⟨w1.heap.size, 2, none⟩ = some (.string T') ∧ w'.cell? ⟨w1.heap.size, 3, none⟩ = some (.string F') ∧ w'.cell? ⟨w1.heap.size, 4, none⟩ = some (.int .i64 A') ∧ w'.cell? ⟨w1.heap.size, 5, none⟩ = some (.slice qa mo da) ∧ w'.cell? ⟨w1.heap.size, 6, none⟩ = some (.slice qb mn db)) from fun w' f => by
          obtain ⟨x0, x1, x2, x3, x4, x5, x6⟩ := (HB.out.1.fr f (by have := HN.out; omega)).cells
          obtain ⟨y0, y1, y2, y3, y4, y5, y6⟩ := (HB.out.2.1.fr f (by have := HN.out; omega)).cells
          exact ⟨f, x0, x1, x2, x3, x4, x5, x6, y0, y1, y2, y3, y4, y5, y6⟩)
        have hS0 := HS.out w6.drew (Fr.drew _ w6)
        have hS6 := HS.out (setP w6 w2.heap.size (.int .i64 K') (.string P') (.string T') (.string F') (.int .i64 A') (.slice qa mo da) (.slice qb mn db)).drew (Fr.then (Fr.setP _ (Or.inl rfl) _ _ _ _ _ _ _) (Fr.drew _ _))
        have hS7 := HS.out (setP (setP w6 w2.heap.size (.int .i64 K') (.string P') (.string T') (.string F') (.int .i64 A') (.slice qa mo da) (.slice qb mn db)) w3.heap.size (.int .i64 K) (.string P) (.string T) (.string F) (.int .i64 (A - (mo : Int) + (mn : Int))) (.slice pa no ca) (.slice pb nn cb)).drew (Fr.then (Fr.then (Fr.setP _ (Or.inl rfl) _ _ _ _ _ _ _) (Fr.setP _ (Or.inr rfl) _ _ _ _ _ _ _)) (Fr.drew _ _))
        obtain ⟨c0, c1, c2, c3, c4, c5, c6⟩ := HB.out.2.2.1.cells
        obtain ⟨d0, d1, d2, d3, d4, d5, d6⟩ := HB.out.2.2.2.cells
        have cz := HB.out.2.2.1.frozen
        have dz := HB.out.2.2.2.frozen
        go_region_held3 (fun w' => Fr (fun k => k = w2.heap.size ∨ k = w3.heap.size) w6 w' ∧ w'.cell? ⟨w.heap.size, 0, none⟩ = some (.int .i64 K) ∧ w'.cell? ⟨w.heap.size, 1, none⟩ = some (.string P) ∧ w'.cell? ⟨w.heap.size, 2, none⟩ = some (.string T) ∧ w'.cell? ⟨w.heap.size, 3, none⟩ = some (.string F) ∧ w'.cell? ⟨w.heap.size, 4, none⟩ = some (.int .i64 (A - (mo : Int) + (mn : Int))) ∧ w'.cell? ⟨w.heap.size, 5, none⟩ = some (.slice pa no ca) ∧ w'.cell? ⟨w.heap.size, 6, none⟩ = some (.slice pb nn cb) ∧ w'.cell? ⟨w1.heap.size, 0, none⟩ = some (.int .i64 K') ∧ w'.cell? ⟨w1.heap.size, 1, none⟩ = some (.string P') ∧ w'.cell? ⟨w1.heap.size, 2, none⟩ = some (.string T') ∧ w'.cell? ⟨w1.heap.size, 3, none⟩ = some (.string F') ∧ w'.cell? ⟨w1.heap.size, 4, none⟩ = some (.int .i64 A') ∧ w'.cell? ⟨w1.heap.size, 5, none⟩ = some (.slice qa mo da) ∧ w'.cell? ⟨w1.heap.size, 6, none⟩ = some (.slice qb mn db))
          (first | with_reducible exact hS0 | with_reducible exact hS6 | with_reducible exact hS7)
          (fail)
        clear hS0 hS6 hS7 cz dz c0 c1 c2 c3 c4 c5 c6 d0 d1 d2 d3 d4 d5 d6
        go_wp2_with fail
        have hfin := two_set0 HW.out HB.out.2.2.1 HB.out.2.2.2 n6 (by have := HN.out; omega) (by have := HN.out; omega) (.int .i64 K') (.string P') (.string T') (.string F') (.int .i64 A') (.slice qa mo da) (.slice qb mn db) (.int .i64 K) (.string P) (.string T) (.string F) (.int .i64 (A - (mo : Int) + (mn : Int))) (.slice pa no ca) (.slice pb nn cb)
        exact ret_two rfl rfl rfl rfl rfl hfin.1.drew hfin.2.1.drew ⟨rfl, hfin.2.2.1.then7 (Fr.drew _ _)⟩

      · go_wp2_with fail
        obtain ⟨w6, hw6⟩ : ∃ y, w4.setCell ⟨w.heap.size, 4, none⟩ (.int .i64 (A - (mo : Int) + (mn : Int))) = y := ⟨_, rfl⟩
        have F6 : Fr (fun k => k = w.heap.size) w4 w6 := hw6 ▸ Fr.setQ _ _ _ _
        have HB := toHid10 (show Box w6 w.heap.size (.int .i64 K) (.string P) (.string T) (.string F) (.int .i64 (A - (mo : Int) + (mn : Int))) (.slice pa no ca) (.slice pb nn cb) ∧ Box w6 w1.heap.size (.int .i64 K') (.string P') (.string T') (.string F') (.int .i64 A') (.slice qa mo da) (.slice qb mn db) ∧ Box w6 w2.heap.size (.int .i64 0) (.string ⟨#[]⟩) (.string ⟨#[]⟩) (.string ⟨#[]⟩) (.int .i64 0) (.slice none 0 0) (.slice none 0 0) ∧ Box w6 w3.heap.size (.int .i64 0) (.string ⟨#[]⟩) (.string ⟨#[]⟩) (.string ⟨#[]⟩) (.int .i64 0) (.slice none 0 0) (.slice none 0 0) from by
          obtain ⟨b1, b2, b3, b4⟩ := HBs.out w4 (Fr.refl _ _)
          have := HN.out
          exact ⟨hw6 ▸ b1.set4 _, b2.fr F6 (by omega), b3.fr F6 (by omega), b4.fr F6 (by omega)⟩)
        have HW := toHid10 (show Fr None' w w6 from HF.out.trans F6 (fun _ e => Or.inr (by have := HN.out; omega)))
        rw [hw6]
        clear F6 hw6
        clear x0 x1 x2 x3 x4 x5 x6 y0 y1 y2 y3 y4 y5 y6 c0 c1 c2 c3 c4 c5 c6 d0 d1 d2 d3 d4 d5 d6 xz yz cz dz u1 u2 u3 u4 i1 i2 i3 i4
        have HS := toHid10 (show (∀ w', Fr (fun k => k = w2.heap.size ∨ k = w3.heap.size) w6 w' → Fr (fun k => k = w2.heap.size ∨ k = w3.heap.size) w6 w' ∧ w'.cell? ⟨w.heap.size, 0, none⟩ = some (.int .i64 K) ∧ w'.cell? ⟨w.heap.size, 1, none⟩ = some (.string P) ∧ w'.cell? ⟨w.heap.size, 2, none⟩ = some (.string T) ∧ w'.cell? ⟨w.heap.size, 3, none⟩ = some (.string F) ∧ w'.cell? ⟨w.heap.size, 4, none⟩ = some (.int .i64 (A - (mo : Int) + (mn : Int))) ∧ w'.cell? ⟨w.heap.size, 5, none⟩ = some (.slice pa no ca) ∧ w'.cell? ⟨w.heap.size, 6, none⟩ = some (.slice pb nn cb) ∧ w'.cell? ⟨w1.heap.size, 0, none⟩ = some (.int .i64 K') ∧ w'.cell? ⟨w1.heap.size, 1, none⟩ = some (.string P') ∧ w'.cell? ⟨w1.heap.size, 2, none⟩ = some (.string T') ∧ w'.cell? ⟨w1.heap.size, 3, none⟩ = some (.string F') ∧ w'.cell? ⟨w1.heap.size, 4, none⟩ = some (.int .i64 A') ∧ w'.cell? ⟨w1.heap.size, 5, none⟩ = some (.slice qa mo da) ∧ w'.cell? ⟨w1.heap.size, 6, none⟩ = some (.slice qb mn db)) from fun w' f => by
          obtain ⟨x0, x1, x2, x3, x4, x5, x6⟩ := (HB.out.1.fr f (by have := HN.out; omega)).cells
          obtain ⟨y0, y1, y2, y3, y4, y5, y6⟩ := (HB.out.2.1.fr f (by have := HN.out; omega)).cells
          exact ⟨f, x0, x1, x2, x3, x4, x5, x6, y0, y1, y2, y3, y4, y5, y6⟩)
        have hS0 := HS.out w6.drew (Fr.drew _ w6)
        have hS6 := HS.out (setP w6 w2.heap.size (.int .i64 K') (.string P') (.string T') (.string F') (.int .i64 A') (.slice qa mo da) (.slice qb mn db)).drew (Fr.then (Fr.setP _ (Or.inl rfl) _ _ _ _ _ _ _) (Fr.drew _ _))
        have hS7 := HS.out (setP (setP w6 w2.heap.size (.int .i64 K') (.string P') (.string T') (.string F') (.int .i64 A') (.slice qa mo da) (.slice qb mn db)) w3.heap.size (.int .i64 K) (.string P) (.string T) (.string F) (.int .i64 (A - (mo : Int) + (mn : Int))) (.slice pa no ca) (.slice pb nn cb)).drew (Fr.then (Fr.then (Fr.setP _ (Or.inl rfl) _ _ _ _ _ _ _) (Fr.setP _ (Or.inr rfl) _ _ _ _ _ _ _)) (Fr.drew _ _))
        obtain ⟨c0, c1, c2, c3, c4, c5, c6⟩ := HB.out.2.2.1.cells
        obtain ⟨d0, d1, d2, d3, d4, d5, d6⟩ := HB.out.2.2.2.cells
        have cz := HB.out.2.2.1.frozen
        have dz := HB.out.2.2.2.frozen
        go_region_held3 (fun w' => Fr (fun k => k = w2.heap.size ∨ k = w3.heap.size) w6 w' ∧ w'.cell? ⟨w.heap.size, 0, none⟩ = some (.int .i64 K) ∧ w'.cell? ⟨w.heap.size, 1, none⟩ = some (.string P) ∧ w'.cell? ⟨w.heap.size, 2, none⟩ = some (.string T) ∧ w'.cell? ⟨w.heap.size, 3, none⟩ = some (.string F) ∧ w'.cell? ⟨w.heap.size, 4, none⟩ = some (.int .i64 (A - (mo : Int) + (mn : Int))) ∧ w'.cell? ⟨w.heap.size, 5, none⟩ = some (.slice pa no ca) ∧ w'.cell? ⟨w.heap.size, 6, none⟩ = some (.slice pb nn cb) ∧ w'.cell? ⟨w1.heap.size, 0, none⟩ = some (.int .i64 K') ∧ w'.cell? ⟨w1.heap.size, 1, none⟩ = some (.string P') ∧ w'.cell? ⟨w1.heap.size, 2, none⟩ = some (.string T') ∧ w'.cell? ⟨w1.heap.size, 3, none⟩ = some (.string F') ∧ w'.cell? ⟨w1.heap.size, 4, none⟩ = some (.int .i64 A') ∧ w'.cell? ⟨w1.heap.size, 5, none⟩ = some (.slice qa mo da) ∧ w'.cell? ⟨w1.heap.size, 6, none⟩ = some (.slice qb mn db))
          (first | with_reducible exact hS0 | with_reducible exact hS6 | with_reducible exact hS7)
          (fail)
        clear hS0 hS6 hS7 cz dz c0 c1 c2 c3 c4 c5 c6 d0 d1 d2 d3 d4 d5 d6
        go_wp2_with fail
        have hfin := two_set0 HW.out HB.out.2.2.1 HB.out.2.2.2 n6 (by have := HN.out; omega) (by have := HN.out; omega) (.int .i64 K') (.string P') (.string T') (.string F') (.int .i64 A') (.slice qa mo da) (.slice qb mn db) (.int .i64 K) (.string P) (.string T) (.string F) (.int .i64 (A - (mo : Int) + (mn : Int))) (.slice pa no ca) (.slice pb nn cb)
        exact ret_two rfl rfl rfl rfl rfl hfin.1.drew hfin.2.1.drew ⟨rfl, hfin.2.2.1.then7 (Fr.drew _ _)⟩

    case neg =>
      have hR := HR.out.trans ((if_neg h1).trans (if_neg h2))
      subst hR
      simp only
      have j3 : ¬ A < A' - (nn : Int) := by omega
      have j5 : ¬ A' < A - (mo : Int) := by omega
      clear HR h1 h2
      have HB := toHid10 (HBs.out w4 (Fr.refl _ _))
      have HW := HF
      go_enter Tryz.func30, Tryz.ntmps30
      by_cases j4 : (nn : Int) < A' <;> by_cases j6 : (mo : Int) < A
      · go_wp2_with fail
        clear x0 x1 x2 x3 x4 x5 x6 y0 y1 y2 y3 y4 y5 y6 c0 c1 c2 c3 c4 c5 c6 d0 d1 d2 d3 d4 d5 d6 xz yz cz dz u1 u2 u3 u4 i1 i2 i3 i4
        have HS := toHid10 (show (∀ w', Fr (fun k => k = w2.heap.size ∨ k = w3.heap.size) w4 w' → Fr (fun k => k = w2.heap.size ∨ k = w3.heap.size) w4 w' ∧ w'.cell? ⟨w.heap.size, 0, none⟩ = some (.int .i64 K) ∧ w'.cell? ⟨w.heap.size, 1, none⟩ = some (.string P) ∧ w'.cell? ⟨w.heap.size, 2, none⟩ = some (.string T) ∧ w'.cell? ⟨w.heap.size, 3, none⟩ = some (.string F) ∧ w'.cell? ⟨w.heap.size, 4, none⟩ = some (.int .i64 A) ∧ w'.cell? ⟨w.heap.size, 5, none⟩ = some (.slice pa no ca) ∧ w'.cell? ⟨w.heap.size, 6, none⟩ = some (.slice pb nn cb) ∧ w'.cell? ⟨w1.heap.size, 0, none⟩ = some (.int .i64 K') ∧ w'.cell? ⟨w1.heap.size, 1, none⟩ = some (.string P') ∧ w'.cell? ⟨w1.heap.size, 2, none⟩ = some (.string T') ∧ w'.cell? ⟨w1.heap.size, 3, none⟩ = some (.string F') ∧ w'.cell? ⟨w1.heap.size, 4, none⟩ = some (.int .i64 A') ∧ w'.cell? ⟨w1.heap.size, 5, none⟩ = some (.slice qa mo da) ∧ w'.cell? ⟨w1.heap.size, 6, none⟩ = some (.slice qb mn db)) from fun w' f => by
          obtain ⟨x0, x1, x2, x3, x4, x5, x6⟩ := (HB.out.1.fr f (by have := HN.out; omega)).cells
          obtain ⟨y0, y1, y2, y3, y4, y5, y6⟩ := (HB.out.2.1.fr f (by have := HN.out; omega)).cells
          exact ⟨f, x0, x1, x2, x3, x4, x5, x6, y0, y1, y2, y3, y4, y5, y6⟩)
        have hS0 := HS.out w4.drew (Fr.drew _ w4)
        have hS6 := HS.out (setP w4 w2.heap.size (.int .i64 K') (.string P') (.string T') (.string F') (.int .i64 A') (.slice qa mo da) (.slice qb mn db)).drew (Fr.then (Fr.setP _ (Or.inl rfl) _ _ _ _ _ _ _) (Fr.drew _ _))
        have hS7 := HS.out (setP (setP w4 w2.heap.size (.int .i64 K') (.string P') (.string T') (.string F') (.int .i64 A') (.slice qa mo da) (.slice qb mn db)) w3.heap.size (.int .i64 K) (.string P) (.string T) (.string F) (.int .i64 A) (.slice pa no ca) (.slice pb nn cb)).drew (Fr.then (Fr.then (Fr.setP _ (Or.inl rfl) _ _ _ _ _ _ _) (Fr.setP _ (Or.inr rfl) _ _ _ _ _ _ _)) (Fr.drew _ _))
        obtain ⟨c0, c1, c2, c3, c4, c5, c6⟩ := HB.out.2.2.1.cells
        obtain ⟨d0, d1, d2, d3, d4, d5, d6⟩ := HB.out.2.2.2.cells
        have cz := HB.out.2.2.1.frozen
        have dz := HB.out.2.2.2.frozen
        go_region_held3 (fun w' => Fr (fun k => k = w2.heap.size ∨ k = w3.heap.size) w4 w' ∧ w'.cell? ⟨w.heap.size, 0, none⟩ = some (.int .i64 K) ∧ w'.cell? ⟨w.heap.size, 1, none⟩ = some (.string P) ∧ w'.cell? ⟨w.heap.size, 2, none⟩ = some (.string T) ∧ w'.cell? ⟨w.heap.size, 3, none⟩ = some (.string F) ∧ w'.cell? ⟨w.heap.size, 4, none⟩ = some (.int .i64 A) ∧ w'.cell? ⟨w.heap.size, 5, none⟩ = some (.slice pa no ca) ∧ w'.cell? ⟨w.heap.size, 6, none⟩ = some (.slice pb nn cb) ∧ w'.cell? ⟨w1.heap.size, 0, none⟩ = some (.int .i64 K') ∧ w'.cell? ⟨w1.heap.size, 1, none⟩ = some (.string P') ∧ w'.cell? ⟨w1.heap.size, 2, none⟩ = some (.string T') ∧ w'.cell? ⟨w1.heap.size, 3, none⟩ = some (.string F') ∧ w'.cell? ⟨w1.heap.size, 4, none⟩ = some (.int .i64 A') ∧ w'.cell? ⟨w1.heap.size, 5, none⟩ = some (.slice qa mo da) ∧ w'.cell? ⟨w1.heap.size, 6, none⟩ = some (.slice qb mn db))
          (first | with_reducible exact hS0 | with_reducible exact hS6 | with_reducible exact hS7)
          (fail)
        clear hS0 hS6 hS7 cz dz c0 c1 c2 c3 c4 c5 c6 d0 d1 d2 d3 d4 d5 d6
        go_wp2_with fail
        have hfin := two_set0 HW.out HB.out.2.2.1 HB.out.2.2.2 n6 (by have := HN.out; omega) (by have := HN.out; omega) (.int .i64 K') (.string P') (.string T') (.string F') (.int .i64 A') (.slice qa mo da) (.slice qb mn db) (.int .i64 K) (.string P) (.string T) (.string F) (.int .i64 A) (.slice pa no ca) (.slice pb nn cb)
        exact ret_two rfl rfl rfl rfl rfl hfin.1.drew hfin.2.1.drew ⟨rfl, hfin.2.2.1.then7 (Fr.drew _ _)⟩
      · go_wp2_with fail
        clear x0 x1 x2 x3 x4 x5 x6 y0 y1 y2 y3 y4 y5 y6 c0 c1 c2 c3 c4 c5 c6 d0 d1 d2 d3 d4 d5 d6 xz yz cz dz u1 u2 u3 u4 i1 i2 i3 i4
        have HS := toHid10 (show (∀ w', Fr (fun k => k = w2.heap.size ∨ k = w3.heap.size) w4 w' → Fr (fun k => k = w2.heap.size ∨ k = w3.heap.size) w4 w' ∧ w'.cell? ⟨w.heap.size, 0, none⟩ = some (.int .i64 K) ∧ w'.cell? ⟨w.heap.size, 1, none⟩ = some (.string P) ∧ w'.cell? ⟨w.heap.size, 2, none⟩ = some (.string T) ∧ w'.cell? ⟨w.heap.size, 3, none⟩ = some (.string F) ∧ w'.cell? ⟨w.heap.size, 4, none⟩ = some (.int .i64 A) ∧ w'.cell? ⟨w.heap.size, 5, none⟩ = some (.slice pa no ca) ∧ w'.cell? ⟨w.heap.size, 6, none⟩ = some (.slice pb nn cb) ∧ w'.cell? ⟨w1.heap.size, 0, none⟩ = some (.int .i64 K') ∧ w'.cell? ⟨w1.heap.size, 1, none⟩ = some (.string P') ∧ w'.cell? ⟨w1.heap.size, 2, none⟩ = some (.string T') ∧ w'.cell? ⟨w1.heap.size, 3, none⟩ = some (.string F') ∧ w'.cell? ⟨w1.heap.size, 4, none⟩ = some (.int .i64 A') ∧ w'.cell? ⟨w1.heap.size, 5, none⟩ = some (.slice qa mo da) ∧ w'.cell? ⟨w1.heap.size, 6, none⟩ = some (.slice qb mn db)) from fun w' f => by
          obtain ⟨x0, x1, x2, x3, x4, x5, x6⟩ := (HB.out.1.fr f (by have := HN.out; omega)).cells
          obtain ⟨y0, y1, y2, y3, y4, y5, y6⟩ := (HB.out.2.1.fr f (by have := HN.out; omega)).cells
          exact ⟨f, x0, x1, x2, x3, x4, x5, x6, y0, y1, y2, y3, y4, y5, y6⟩)
        have hS0 := HS.out w4.drew (Fr.drew _ w4)
        have hS6 := HS.out (setP w4 w2.heap.size (.int .i64 K') (.string P') (.string T') (.string F') (.int .i64 A') (.slice qa mo da) (.slice qb mn db)).drew (Fr.then (Fr.setP _ (Or.inl rfl) _ _ _ _ _ _ _) (Fr.drew _ _))
        have hS7 := HS.out (setP (setP w4 w2.heap.size (.int .i64 K') (.string P') (.string T') (.string F') (.int .i64 A') (.slice qa mo da) (.slice qb mn db)) w3.heap.size (.int .i64 K) (.string P) (.string T) (.string F) (.int .i64 A) (.slice pa no ca) (.slice pb nn cb)).drew (Fr.then (Fr.then (Fr.setP _ (Or.inl rfl) _ _ _ _ _ _ _) (Fr.setP _ (Or.inr rfl) _ _ _ _ _ _ _)) (Fr.drew _ _))
        obtain ⟨c0, c1, c2, c3, c4, c5, c6⟩ := HB.out.2.2.1.cells
        obtain ⟨d0, d1, d2, d3, d4, d5, d6⟩ := HB.out.2.2.2.cells
        have cz := HB.out.2.2.1.frozen
        have dz := HB.out.2.2.2.frozen
        go_region_held3 (fun w' => Fr (fun k => k = w2.heap.size ∨ k = w3.heap.size) w4 w' ∧ w'.cell? ⟨w.heap.size, 0, none⟩ = some (.int .i64 K) ∧ w'.cell? ⟨w.heap.size, 1, none⟩ = some (.string P) ∧ w'.cell? ⟨w.heap.size, 2, none⟩ = some (.string T) ∧ w'.cell? ⟨w.heap.size, 3, none⟩ = some (.string F) ∧ w'.cell? ⟨w.heap.size, 4, none⟩ = some (.int .i64 A) ∧ w'.cell? ⟨w.heap.size, 5, none⟩ = some (.slice pa no ca) ∧ w'.cell? ⟨w.heap.size, 6, none⟩ = some (.slice pb nn cb) ∧ w'.cell? ⟨w1.heap.size, 0, none⟩ = some (.int .i64 K') ∧ w'.cell? ⟨w1.heap.size, 1, none⟩ = some (.string P') ∧ w'.cell? ⟨w1.heap.size, 2, none⟩ = some (.string T') ∧ w'.cell? ⟨w1.heap.size, 3, none⟩ = some (.string F') ∧ w'.cell? ⟨w1.heap.size, 4, none⟩ = some (.int .i64 A') ∧ w'.cell? ⟨w1.heap.size, 5, none⟩ = some (.slice qa mo da) ∧ w'.cell? ⟨w1.heap.size, 6, none⟩ = some (.slice qb mn db))
          (first | with_reducible exact hS0 | with_reducible exact hS6 | with_reducible exact hS7)
          (fail)
        clear hS0 hS6 hS7 cz dz c0 c1 c2 c3 c4 c5 c6 d0 d1 d2 d3 d4 d5 d6
        go_wp2_with fail
        have hfin := two_set0 HW.out HB.out.2.2.1 HB.out.2.2.2 n6 (by have := HN.out; omega) (by have := HN.out; omega) (.int .i64 K') (.string P') (.string T') (.string F') (.int .i64 A') (.slice qa mo da) (.slice qb mn db) (.int .i64 K) (.string P) (.string T) (.string F) (.int .i64 A) (.slice pa no ca) (.slice pb nn cb)
        exact ret_two rfl rfl rfl rfl rfl hfin.1.drew hfin.2.1.drew ⟨rfl, hfin.2.2.1.then7 (Fr.drew _ _)⟩
      · go_wp2_with fail
        clear x0 x1 x2 x3 x4 x5 x6 y0 y1 y2 y3 y4 y5 y6 c0 c1 c2 c3 c4 c5 c6 d0 d1 d2 d3 d4 d5 d6 xz yz cz dz u1 u2 u3 u4 i1 i2 i3 i4
        have HS := toHid10 (show (∀ w', Fr (fun k => k = w2.heap.size ∨ k = w3.heap.size) w4 w' → Fr (fun k => k = w2.heap.size ∨ k = w3.heap.size) w4 w' ∧ w'.cell? ⟨w.heap.size, 0, none⟩ = some (.int .i64 K) ∧ w'.cell? ⟨w.heap.size, 1, none⟩ = some (.string P) ∧ w'.cell? ⟨w.heap.size, 2, none⟩ = some (.string T) ∧ w'.cell? ⟨w.heap.size, 3, none⟩ = some (.string F) ∧ w'.cell? ⟨w.heap.size, 4, none⟩ = some (.int .i64 A) ∧ w'.cell? ⟨w.heap.size, 5, none⟩ = some (.slice pa no ca) ∧ w'.cell? ⟨w.heap.size, 6, none⟩ = some (.slice pb nn cb) ∧ w'.cell? ⟨w1.heap.size, 0, none⟩ = some (.int .i64 K') ∧ w'.cell? ⟨w1.heap.size, 1, none⟩ = some (.string P') ∧ w'.cell? ⟨w1.heap.size, 2, none⟩ = some (.string T') ∧ w'.cell? ⟨w1.heap.size, 3, none⟩ = some (.string F') ∧ w'.cell? ⟨w1.heap.size, 4, none⟩ = some (.int .i64 A') ∧ w'.cell? ⟨w1.heap.size, 5, none⟩ = some (.slice qa mo da) ∧ w'.cell? ⟨w1.heap.size, 6, none⟩ = some (.slice qb mn db)) from fun w' f => by
          obtain ⟨x0, x1, x2, x3, x4, x5, x6⟩ := (HB.out.1.fr f (by have := HN.out; omega)).cells
          obtain ⟨y0, y1, y2, y3, y4, y5, y6⟩ := (HB.out.2.1.fr f (by have := HN.out; omega)).cells
          exact ⟨f, x0, x1, x2, x3, x4, x5, x6, y0, y1, y2, y3, y4, y5, y6⟩)
        have hS0 := HS.out w4.drew (Fr.drew _ w4)
        have hS6 := HS.out (setP w4 w2.heap.size (.int .i64 K') (.string P') (.string T') (.string F') (.int .i64 A') (.slice qa mo da) (.slice qb mn db)).drew (Fr.then (Fr.setP _ (Or.inl rfl) _ _ _ _ _ _ _) (Fr.drew _ _))
        have hS7 := HS.out (setP (setP w4 w2.heap.size (.int .i64 K') (.string P') (.string T') (.string F') (.int .i64 A') (.slice qa mo da) (.slice qb mn db)) w3.heap.size (.int .i64 K) (.string P) (.string T) (.string F) (.int .i64 A) (.slice pa no ca) (.slice pb nn cb)).drew (Fr.then (Fr.then (Fr.setP _ (Or.inl rfl) _ _ _ _ _ _ _) (Fr.setP _ (Or.inr rfl) _ _ _ _ _ _ _)) (Fr.drew _ _))
        obtain ⟨c0, c1, c2, c3, c4, c5, c6⟩ := HB.out.2.2.1.cells
        obtain ⟨d0, d1, d2, d3, d4, d5, d6⟩ := HB.out.2.2.2.cells
        have cz := HB.out.2.2.1.frozen
        have dz := HB.out.2.2.2.frozen
        go_region_held3 (fun w' => Fr (fun k => k = w2.heap.size ∨ k = w3.heap.size) w4 w' ∧ w'.cell? ⟨w.heap.size, 0, none⟩ = some (.int .i64 K) ∧ w'.cell? ⟨w.heap.size, 1, none⟩ = some (.string P) ∧ w'.cell? ⟨w.heap.size, 2, none⟩ = some (.string T) ∧ w'.cell? ⟨w.heap.size, 3, none⟩ = some (.string F) ∧ w'.cell? ⟨w.heap.size, 4, none⟩ = some (.int .i64 A) ∧ w'.cell? ⟨w.heap.size, 5, none⟩ = some (.slice pa no ca) ∧ w'.cell? ⟨w.heap.size, 6, none⟩ = some (.slice pb nn cb) ∧ w'.cell? ⟨w1.heap.size, 0, none⟩ = some (.int .i64 K') ∧ w'.cell? ⟨w1.heap.size, 1, none⟩ = some (.string P') ∧ w'.cell? ⟨w1.heap.size, 2, none⟩ = some (.string T') ∧ w'.cell? ⟨w1.heap.size, 3, none⟩ = some (.string F') ∧ w'.cell? ⟨w1.heap.size, 4, none⟩ = some (.int .i64 A') ∧ w'.cell? ⟨w1.heap.size, 5, none⟩ = some (.slice qa mo da) ∧ w'.cell? ⟨w1.heap.size, 6, none⟩ = some (.slice qb mn db))
          (first | with_reducible exact hS0 | with_reducible exact hS6 | with_reducible exact hS7)
          (fail)
        clear hS0 hS6 hS7 cz dz c0 c1 c2 c3 c4 c5 c6 d0 d1 d2 d3 d4 d5 d6
        go_wp2_with fail
        have hfin := two_set0 HW.out HB.out.2.2.1 HB.out.2.2.2 n6 (by have := HN.out; omega) (by have := HN.out; omega) (.int .i64 K') (.string P') (.string T') (.string F') (.int .i64 A') (.slice qa mo da) (.slice qb mn db) (.int .i64 K) (.string P) (.string T) (.string F) (.int .i64 A) (.slice pa no ca) (.slice pb nn cb)
        exact ret_two rfl rfl rfl rfl rfl hfin.1.drew hfin.2.1.drew ⟨rfl, hfin.2.2.1.then7 (Fr.drew _ _)⟩
      · go_wp2_with fail
        clear x0 x1 x2 x3 x4 x5 x6 y0 y1 y2 y3 y4 y5 y6 c0 c1 c2 c3 c4 c5 c6 d0 d1 d2 d3 d4 d5 d6 xz yz cz dz u1 u2 u3 u4 i1 i2 i3 i4
        have HS := toHid10 (show (∀ w', Fr (fun k => k = w2.heap.size ∨ k = w3.heap.size) w4 w' → Fr (fun k => k = w2.heap.size ∨ k = w3.heap.size) w4 w' ∧ w'.cell? ⟨w.heap.size, 0, none⟩ = some (.int .i64 K) ∧ w'.cell? ⟨w.heap.size, 1, none⟩ = some (.string P) ∧ w'.cell? ⟨w.heap.size, 2, none⟩ = some (.string T) ∧ w'.cell? ⟨w.heap.size, 3, none⟩ = some (.string F) ∧ w'.cell? ⟨w.heap.size, 4, none⟩ = some (.int .i64 A) ∧ w'.cell? ⟨w.heap.size, 5, none⟩ = some (.slice pa no ca) ∧ w'.cell? ⟨w.heap.size, 6, none⟩ = some (.slice pb nn cb) ∧ w'.cell? ⟨w1.heap.size, 0, none⟩ = some (.int .i64 K') ∧ w'.cell? ⟨w1.heap.size, 1, none⟩ = some (.string P') ∧ w'.cell? ⟨w1.heap.size, 2, none⟩ = some (.string T') ∧ w'.cell? ⟨w1.heap.size, 3, none⟩ = some (.string F') ∧ w'.cell? ⟨w1.heap.size, 4, none⟩ = some (.int .i64 A') ∧ w'.cell? ⟨w1.heap.size, 5, none⟩ = some (.slice qa mo da) ∧ w'.cell? ⟨w1.heap.size, 6, none⟩ = some (.slice qb mn db)) from fun w' f => by
          obtain ⟨x0, x1, x2, x3, x4, x5, x6⟩ := (HB.out.1.fr f (by have := HN.out; omega)).cells
          obtain ⟨y0, y1, y2, y3, y4, y5, y6⟩ := (HB.out.2.1.fr f (by have := HN.out; omega)).cells
          exact ⟨f, x0, x1, x2, x3, x4, x5, x6, y0, y1, y2, y3, y4, y5, y6⟩)
        have hS0 := HS.out w4.drew (Fr.drew _ w4)
        have hS6 := HS.out (setP w4 w2.heap.size (.int .i64 K') (.string P') (.string T') (.string F') (.int .i64 A') (.slice qa mo da) (.slice qb mn db)).drew (Fr.then (Fr.setP _ (Or.inl rfl) _ _ _ _ _ _ _) (Fr.drew _ _))
        have hS7 := HS.out (setP (setP w4 w2.heap.size (.int .i64 K') (.string P') (.string T') (.string F') (.int .i64 A') (.slice qa mo da) (.slice qb mn db)) w3.heap.size (.int .i64 K) (.string P) (.string T) (.string F) (.int .i64 A) (.slice pa no ca) (.slice pb nn cb)).drew (Fr.then (Fr.then (Fr.setP _ (Or.inl rfl) _ _ _ _ _ _ _) (Fr.setP _ (Or.inr rfl) _ _ _ _ _ _ _)) (Fr.drew _ _))
        obtain ⟨c0, c1, c2, c3, c4, c5, c6⟩ := HB.out.2.2.1.cells
        obtain ⟨d0, d1, d2, d3, d4, d5, d6⟩ := HB.out.2.2.2.cells
        have cz := HB.out.2.2.1.frozen
        have dz := HB.out.2.2.2.frozen
        go_region_held3 (fun w' => Fr (fun k => k = w2.heap.size ∨ k = w3.heap.size) w4 w' ∧ w'.cell? ⟨w.heap.size, 0, none⟩ = some (.int .i64 K) ∧ w'.cell? ⟨w.heap.size, 1, none⟩ = some (.string P) ∧ w'.cell? ⟨w.heap.size, 2, none⟩ = some (.string T) ∧ w'.cell? ⟨w.heap.size, 3, none⟩ = some (.string F) ∧ w'.cell? ⟨w.heap.size, 4, none⟩ = some (.int .i64 A) ∧ w'.cell? ⟨w.heap.size, 5, none⟩ = some (.slice pa no ca) ∧ w'.cell? ⟨w.heap.size, 6, none⟩ = some (.slice pb nn cb) ∧ w'.cell? ⟨w1.heap.size, 0, none⟩ = some (.int .i64 K') ∧ w'.cell? ⟨w1.heap.size, 1, none⟩ = some (.string P') ∧ w'.cell? ⟨w1.heap.size, 2, none⟩ = some (.string T') ∧ w'.cell? ⟨w1.heap.size, 3, none⟩ = some (.string F') ∧ w'.cell? ⟨w1.heap.size, 4, none⟩ = some (.int .i64 A') ∧ w'.cell? ⟨w1.heap.size, 5, none⟩ = some (.slice qa mo da) ∧ w'.cell? ⟨w1.heap.size, 6, none⟩ = some (.slice qb mn db))
          (first | with_reducible exact hS0 | with_reducible exact hS6 | with_reducible exact hS7)
          (fail)
        clear hS0 hS6 hS7 cz dz c0 c1 c2 c3 c4 c5 c6 d0 d1 d2 d3 d4 d5 d6
        go_wp2_with fail
        have hfin := two_set0 HW.out HB.out.2.2.1 HB.out.2.2.2 n6 (by have := HN.out; omega) (by have := HN.out; omega) (.int .i64 K') (.string P') (.string T') (.string F') (.int .i64 A') (.slice qa mo da) (.slice qb mn db) (.int .i64 K) (.string P) (.string T) (.string F) (.int .i64 A) (.slice pa no ca) (.slice pb nn cb)
        exact ret_two rfl rfl rfl rfl rfl hfin.1.drew hfin.2.1.drew ⟨rfl, hfin.2.2.1.then7 (Fr.drew _ _)⟩

end Go.Proofs.YtlmgbcfcikdgpaaGreatDoor
