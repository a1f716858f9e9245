/-
  What is proved here: the contracts that the statement stands on: DApply8, DApplyA8, TellsW8. Conditions: as each theorem names them.
-/
import Derived.Test.YtcpjneejlfgkeaaGreatDoorM40LinesP8
import Derived.Test.YtcpjneejlfgkeaaGreatDoorM43LinesW8
import Derived.Test.YtcpjneejlfgkeaaGreatDoorM38Laws8
namespace Go.Proofs.YtcpjneejlfgkeaaGreatDoor
open Go.RowKit
set_option maxRecDepth 100000

theorem smallP_of {p : Pr} (h : SmPr p) : SmallP p := ⟨by have := h.path; omega, by have := h.dst; omega, by have := h.src; omega, by have := h.old; omega, by have := h.new; omega⟩

theorem linesSmall_of {p : Pr} (h : SmPr p) : LinesSmall p := ⟨fun z hz => by have := h.oline z hz; omega, fun z hz => by have := h.line z hz; omega⟩

theorem path_ne {p : Pr} (h : rightP p = true) : bl p.path ≠ [] := fun e => by
  have h1 := (rule_of h).2.1
  rw [e] at h1
  have h2 : Path.right [] = false := by kernel_rfl
  rw [h2] at h1
  cases h1

/-- Lines that are small enough for the document's change. -/
def LnDoc (L : List En) : Prop := ∀ x ∈ L, x.lines.length ≤ 40000 ∧ ∀ y ∈ x.lines, y.size < 100000

set_option maxHeartbeats 8000000 in
theorem vapply_1 (va : Option Addr) (n c : Nat) (L : List En) (p : Pr) (vo vn : Value) (w : World) (hl : L.length = n) (h : EntsAt w va L) (hT : treeRight L = true) (hR : rightP p = true) (hk : p.kind = 1) (hs : SmallE L) (hp : SmPr p) (ho : StrsAt w vo p.old) (hn : StrsAt w vn p.new) :
    Calls Tryz.prog 13 #[.slice va n c, .agg #[.int .i64 1, .string p.path, .string p.dst, .string p.src, .int .i64 p.pos, vo, vn]] w fun e w' => ApplyPost8 (allE L [p]) w e w' := by
  obtain ⟨pa, ca, rfl, ho'⟩ := ho
  obtain ⟨pb, cb, rfl, hn'⟩ := hn
  have hTR := (treeR L).1 hT
  have hn9 : n ≤ 1024 := by have := hTR.len; omega
  have hA0 : ∀ er, freeE L (bl p.path) = er → er ≠ 0 → allE L [p] = ([], er, 0) := fun er e1 e2 => by
    rw [all_act hT hR (show actE L p = (L, er) from by unfold actE; rw [if_pos (by omega), e1, if_pos e2]), if_neg e2]
  have hA1 : freeE L (bl p.path) = 0 → 1024 ≤ n → allE L [p] = ([], 2, 0) := fun e1 e2 => by
    rw [all_act hT hR (show actE L p = (L, 2) from by unfold actE; rw [if_pos (by omega), e1, if_neg (by decide), if_pos (by omega)])]; rfl
  have hA2 : freeE L (bl p.path) = 0 → n < 1024 → allE L [p] = (putE L ⟨p.path, 1, [], ⟨#[]⟩⟩, 0, 0) := fun e1 e2 => by
    rw [all_act hT hR (show actE L p = (putE L ⟨p.path, 1, [], ⟨#[]⟩⟩, 0) from by unfold actE; rw [if_pos (by omega), e1, if_neg (by decide), if_neg (by omega), hk]; rfl)]; rfl
  have HA0 := toHid8 hA0
  have HA1 := toHid8 hA1
  have HA2 := toHid8 hA2
  clear hA0 hA1 hA2
  have HE := toHid8 (show ∀ w', Fr None' w w' → EntsAt w' va L from fun w' f => h.kept f)
  have HO := toHid8 (show ∀ w', Fr None' w w' → StrsAt w' (.slice pa p.old.length ca) p.old from fun w' f => StrsAt.kept ⟨pa, ca, rfl, ho'⟩ f)
  have HN := toHid8 (show ∀ w', Fr None' w w' → StrsAt w' (.slice pb p.new.length cb) p.new from fun w' f => StrsAt.kept ⟨pb, cb, rfl, hn'⟩ f)
  have HLen := toHid8 hl
  have HSp := toHid8 hp
  have HSt := toHid8 hTR.strict
  obtain ⟨w1, hw1⟩ : ∃ w1, w.alloc (.cells #[.int .i64 1, .string p.path, .string p.dst, .string p.src, .int .i64 p.pos, .slice pa p.old.length ca, .slice pb p.new.length cb] 25) = w1 := ⟨_, rfl⟩
  have HF1 := toHid8 (show Fr None' w w1 from hw1 ▸ Fr.alloc None' w _)
  have HB1 := toHid8 (show Box w1 w.heap.size (.int .i64 1) (.string p.path) (.string p.dst) (.string p.src) (.int .i64 p.pos) (.slice pa p.old.length ca) (.slice pb p.new.length cb) from hw1 ▸ Box.new w _ _ _ _ _ _ _)
  have q1 := eright_any va n c L w1 hl (HE.out w1 HF1.out) (by omega) hs
  rw [hT] at q1
  have HQ2 := toHid8 (fun w' (f : Fr None' w w') => dright_any p _ _ w' (HO.out w' f) (HN.out w' f) (smallP_of hp) (linesSmall_of hp))
  rw [hR, hk] at HQ2
  have HSE := toHid8 hs
  have i1 : (n : Int) ≤ 1024 := by omega
  clear h hl hT hk hp hTR ho' hn' hs hR
  go_enter Tryz.func13, Tryz.ntmps13
  go_wp2_with fail
  with_reducible refine q1.mono ?_
  rintro e w2 ⟨rfl, f2⟩
  have HF2 := toHid8 (HF1.out.then7 f2)
  have HB2 := toHid8 (HB1.out.kept f2)
  obtain ⟨p0, p1, p2, p3, p4, p5, p6⟩ := HB2.out.cells
  have q2 := HQ2.out w2 HF2.out
  clear q1 f2
  go_wp2_with fail
  with_reducible refine q2.mono ?_
  rintro e w3 ⟨rfl, f3⟩
  have HF3 := toHid8 (HF2.out.then7 f3)
  have HB3 := toHid8 (HB2.out.kept f3)
  clear q2 f3 p0 p1 p2 p3 p4 p5 p6
  obtain ⟨p0, p1, p2, p3, p4, p5, p6⟩ := HB3.out.cells
  have q3 := vkind_any 1 w3 (by decide)
  rw [show (if (1 : Int) = 1 ∨ (1 : Int) = 2 then (1 : Int) else if (1 : Int) = 5 ∨ (1 : Int) = 6 ∨ (1 : Int) = 9 then 3 else 2) = 1 from by decide] at q3
  go_wp2_with fail
  with_reducible refine q3.mono ?_
  rintro e w4 ⟨rfl, hw4⟩
  rw [hw4]
  clear q3 hw4
  have q4 := vroom_any va n c L p.path w3 HLen.out (HE.out w3 HF3.out) (by omega) HSp.out.path
  obtain ⟨er, her⟩ : ∃ x, freeE L (bl p.path) = x := ⟨_, rfl⟩
  rw [her] at q4
  have HEr := toHid8 her
  clear her
  go_wp2_with fail
  with_reducible refine q4.mono ?_
  rintro e w5 ⟨rfl, f5⟩
  have HF5 := toHid8 (HF3.out.then7 f5)
  have HB5 := toHid8 (HB3.out.kept f5)
  clear q4 f5 p0 p1 p2 p3 p4 p5 p6
  obtain ⟨p0, p1, p2, p3, p4, p5, p6⟩ := HB5.out.cells
  by_cases he : er = 0
  · subst he
    by_cases h24 : 1024 ≤ n
    · have j1 : (1024 : Int) ≤ (n : Int) := by omega
      have HEq := toHid8 (HA1.out HEr.out h24)
      go_wp2_with fail
      go_ret2
      rw [HEq.out]
      exact ⟨none, 0, rfl, (fun j x hj => by simp at hj), fun _ => rfl, HF5.out⟩
    · have j1 : ¬ (1024 : Int) ≤ (n : Int) := by omega
      have HEq := toHid8 (HA2.out HEr.out (by omega))
      have q5 := vput_any va n c L ⟨p.path, 1, [], ⟨#[]⟩⟩ (.slice none 0 0) w5 HLen.out (HE.out w5 HF5.out) (by omega) (nilS8 w5) HSt.out
      unfold RowPost at q5
      go_wp2_with fail
      with_reducible refine q5.mono ?_
      rintro e w6 ⟨v6, c6, rfl, HE6, HC6, f6⟩
      have HF6 := toHid8 (HF5.out.then7 f6)
      clear q5 f6
      go_wp2_with fail
      go_ret2
      rw [HEq.out]
      exact ⟨v6, c6, rfl, HE6, HC6, HF6.out⟩
  · have he2 : (er == 0) = false := by simpa using he
    have HEq := toHid8 (HA0.out er HEr.out he)
    go_wp2_with fail
    go_ret2
    rw [HEq.out]
    exact ⟨none, 0, rfl, (fun j x hj => by simp at hj), fun _ => rfl, HF5.out⟩

set_option maxHeartbeats 8000000 in
theorem vapply_3 (va : Option Addr) (n c : Nat) (L : List En) (p : Pr) (vo vn : Value) (w : World) (hl : L.length = n) (h : EntsAt w va L) (hT : treeRight L = true) (hR : rightP p = true) (hk : p.kind = 3) (hs : SmallE L) (hp : SmPr p) (ho : StrsAt w vo p.old) (hn : StrsAt w vn p.new) :
    Calls Tryz.prog 13 #[.slice va n c, .agg #[.int .i64 3, .string p.path, .string p.dst, .string p.src, .int .i64 p.pos, vo, vn]] w fun e w' => ApplyPost8 (allE L [p]) w e w' := by
  obtain ⟨pa, ca, rfl, ho'⟩ := ho
  obtain ⟨pb, cb, rfl, hn'⟩ := hn
  have hTR := (treeR L).1 hT
  have hn9 : n ≤ 1024 := by have := hTR.len; omega
  have hA0 : ∀ er, freeE L (bl p.path) = er → er ≠ 0 → allE L [p] = ([], er, 0) := fun er e1 e2 => by
    rw [all_act hT hR (show actE L p = (L, er) from by unfold actE; rw [if_pos (by omega), e1, if_pos e2]), if_neg e2]
  have hA1 : freeE L (bl p.path) = 0 → 1024 ≤ n → allE L [p] = ([], 2, 0) := fun e1 e2 => by
    rw [all_act hT hR (show actE L p = (L, 2) from by unfold actE; rw [if_pos (by omega), e1, if_neg (by decide), if_pos (by omega)])]; rfl
  have hA2 : freeE L (bl p.path) = 0 → n < 1024 → allE L [p] = (putE L ⟨p.path, 2, [], ⟨#[]⟩⟩, 0, 0) := fun e1 e2 => by
    rw [all_act hT hR (show actE L p = (putE L ⟨p.path, 2, [], ⟨#[]⟩⟩, 0) from by unfold actE; rw [if_pos (by omega), e1, if_neg (by decide), if_neg (by omega), hk]; rfl)]; rfl
  have HA0 := toHid8 hA0
  have HA1 := toHid8 hA1
  have HA2 := toHid8 hA2
  clear hA0 hA1 hA2
  have HE := toHid8 (show ∀ w', Fr None' w w' → EntsAt w' va L from fun w' f => h.kept f)
  have HO := toHid8 (show ∀ w', Fr None' w w' → StrsAt w' (.slice pa p.old.length ca) p.old from fun w' f => StrsAt.kept ⟨pa, ca, rfl, ho'⟩ f)
  have HN := toHid8 (show ∀ w', Fr None' w w' → StrsAt w' (.slice pb p.new.length cb) p.new from fun w' f => StrsAt.kept ⟨pb, cb, rfl, hn'⟩ f)
  have HLen := toHid8 hl
  have HSp := toHid8 hp
  have HSt := toHid8 hTR.strict
  obtain ⟨w1, hw1⟩ : ∃ w1, w.alloc (.cells #[.int .i64 3, .string p.path, .string p.dst, .string p.src, .int .i64 p.pos, .slice pa p.old.length ca, .slice pb p.new.length cb] 25) = w1 := ⟨_, rfl⟩
  have HF1 := toHid8 (show Fr None' w w1 from hw1 ▸ Fr.alloc None' w _)
  have HB1 := toHid8 (show Box w1 w.heap.size (.int .i64 3) (.string p.path) (.string p.dst) (.string p.src) (.int .i64 p.pos) (.slice pa p.old.length ca) (.slice pb p.new.length cb) from hw1 ▸ Box.new w _ _ _ _ _ _ _)
  have q1 := eright_any va n c L w1 hl (HE.out w1 HF1.out) (by omega) hs
  rw [hT] at q1
  have HQ2 := toHid8 (fun w' (f : Fr None' w w') => dright_any p _ _ w' (HO.out w' f) (HN.out w' f) (smallP_of hp) (linesSmall_of hp))
  rw [hR, hk] at HQ2
  have HSE := toHid8 hs
  have i1 : (n : Int) ≤ 1024 := by omega
  clear h hl hT hk hp hTR ho' hn' hs hR
  go_enter Tryz.func13, Tryz.ntmps13
  go_wp2_with fail
  with_reducible refine q1.mono ?_
  rintro e w2 ⟨rfl, f2⟩
  have HF2 := toHid8 (HF1.out.then7 f2)
  have HB2 := toHid8 (HB1.out.kept f2)
  obtain ⟨p0, p1, p2, p3, p4, p5, p6⟩ := HB2.out.cells
  have q2 := HQ2.out w2 HF2.out
  clear q1 f2
  go_wp2_with fail
  with_reducible refine q2.mono ?_
  rintro e w3 ⟨rfl, f3⟩
  have HF3 := toHid8 (HF2.out.then7 f3)
  have HB3 := toHid8 (HB2.out.kept f3)
  clear q2 f3 p0 p1 p2 p3 p4 p5 p6
  obtain ⟨p0, p1, p2, p3, p4, p5, p6⟩ := HB3.out.cells
  have q3 := vkind_any 3 w3 (by decide)
  rw [show (if (3 : Int) = 1 ∨ (3 : Int) = 2 then (1 : Int) else if (3 : Int) = 5 ∨ (3 : Int) = 6 ∨ (3 : Int) = 9 then 3 else 2) = 2 from by decide] at q3
  go_wp2_with fail
  with_reducible refine q3.mono ?_
  rintro e w4 ⟨rfl, hw4⟩
  rw [hw4]
  clear q3 hw4
  have q4 := vroom_any va n c L p.path w3 HLen.out (HE.out w3 HF3.out) (by omega) HSp.out.path
  obtain ⟨er, her⟩ : ∃ x, freeE L (bl p.path) = x := ⟨_, rfl⟩
  rw [her] at q4
  have HEr := toHid8 her
  clear her
  go_wp2_with fail
  with_reducible refine q4.mono ?_
  rintro e w5 ⟨rfl, f5⟩
  have HF5 := toHid8 (HF3.out.then7 f5)
  have HB5 := toHid8 (HB3.out.kept f5)
  clear q4 f5 p0 p1 p2 p3 p4 p5 p6
  obtain ⟨p0, p1, p2, p3, p4, p5, p6⟩ := HB5.out.cells
  by_cases he : er = 0
  · subst he
    by_cases h24 : 1024 ≤ n
    · have j1 : (1024 : Int) ≤ (n : Int) := by omega
      have HEq := toHid8 (HA1.out HEr.out h24)
      go_wp2_with fail
      go_ret2
      rw [HEq.out]
      exact ⟨none, 0, rfl, (fun j x hj => by simp at hj), fun _ => rfl, HF5.out⟩
    · have j1 : ¬ (1024 : Int) ≤ (n : Int) := by omega
      have HEq := toHid8 (HA2.out HEr.out (by omega))
      have q5 := vput_any va n c L ⟨p.path, 2, [], ⟨#[]⟩⟩ (.slice none 0 0) w5 HLen.out (HE.out w5 HF5.out) (by omega) (nilS8 w5) HSt.out
      unfold RowPost at q5
      go_wp2_with fail
      with_reducible refine q5.mono ?_
      rintro e w6 ⟨v6, c6, rfl, HE6, HC6, f6⟩
      have HF6 := toHid8 (HF5.out.then7 f6)
      clear q5 f6
      go_wp2_with fail
      go_ret2
      rw [HEq.out]
      exact ⟨v6, c6, rfl, HE6, HC6, HF6.out⟩
  · have he2 : (er == 0) = false := by simpa using he
    have HEq := toHid8 (HA0.out er HEr.out he)
    go_wp2_with fail
    go_ret2
    rw [HEq.out]
    exact ⟨none, 0, rfl, (fun j x hj => by simp at hj), fun _ => rfl, HF5.out⟩

set_option maxHeartbeats 8000000 in
theorem vapply_5 (va : Option Addr) (n c : Nat) (L : List En) (p : Pr) (vo vn : Value) (w : World) (hl : L.length = n) (h : EntsAt w va L) (hT : treeRight L = true) (hR : rightP p = true) (hk : p.kind = 5) (hs : SmallE L) (hp : SmPr p) (ho : StrsAt w vo p.old) (hn : StrsAt w vn p.new) :
    Calls Tryz.prog 13 #[.slice va n c, .agg #[.int .i64 5, .string p.path, .string p.dst, .string p.src, .int .i64 p.pos, vo, vn]] w fun e w' => ApplyPost8 (allE L [p]) w e w' := by
  obtain ⟨pa, ca, rfl, ho'⟩ := ho
  obtain ⟨pb, cb, rfl, hn'⟩ := hn
  have hTR := (treeR L).1 hT
  have hn9 : n ≤ 1024 := by have := hTR.len; omega
  have hA0 : ∀ er, freeE L (bl p.path) = er → er ≠ 0 → allE L [p] = ([], er, 0) := fun er e1 e2 => by
    rw [all_act hT hR (show actE L p = (L, er) from by unfold actE; rw [if_pos (by omega), e1, if_pos e2]), if_neg e2]
  have hA1 : freeE L (bl p.path) = 0 → 1024 ≤ n → allE L [p] = ([], 2, 0) := fun e1 e2 => by
    rw [all_act hT hR (show actE L p = (L, 2) from by unfold actE; rw [if_pos (by omega), e1, if_neg (by decide), if_pos (by omega)])]; rfl
  have hA2 : freeE L (bl p.path) = 0 → n < 1024 → allE L [p] = (putE L ⟨p.path, 3, [], ⟨#[]⟩⟩, 0, 0) := fun e1 e2 => by
    rw [all_act hT hR (show actE L p = (putE L ⟨p.path, 3, [], ⟨#[]⟩⟩, 0) from by unfold actE; rw [if_pos (by omega), e1, if_neg (by decide), if_neg (by omega), hk]; rfl)]; rfl
  have HA0 := toHid8 hA0
  have HA1 := toHid8 hA1
  have HA2 := toHid8 hA2
  clear hA0 hA1 hA2
  have HE := toHid8 (show ∀ w', Fr None' w w' → EntsAt w' va L from fun w' f => h.kept f)
  have HO := toHid8 (show ∀ w', Fr None' w w' → StrsAt w' (.slice pa p.old.length ca) p.old from fun w' f => StrsAt.kept ⟨pa, ca, rfl, ho'⟩ f)
  have HN := toHid8 (show ∀ w', Fr None' w w' → StrsAt w' (.slice pb p.new.length cb) p.new from fun w' f => StrsAt.kept ⟨pb, cb, rfl, hn'⟩ f)
  have HLen := toHid8 hl
  have HSp := toHid8 hp
  have HSt := toHid8 hTR.strict
  obtain ⟨w1, hw1⟩ : ∃ w1, w.alloc (.cells #[.int .i64 5, .string p.path, .string p.dst, .string p.src, .int .i64 p.pos, .slice pa p.old.length ca, .slice pb p.new.length cb] 25) = w1 := ⟨_, rfl⟩
  have HF1 := toHid8 (show Fr None' w w1 from hw1 ▸ Fr.alloc None' w _)
  have HB1 := toHid8 (show Box w1 w.heap.size (.int .i64 5) (.string p.path) (.string p.dst) (.string p.src) (.int .i64 p.pos) (.slice pa p.old.length ca) (.slice pb p.new.length cb) from hw1 ▸ Box.new w _ _ _ _ _ _ _)
  have q1 := eright_any va n c L w1 hl (HE.out w1 HF1.out) (by omega) hs
  rw [hT] at q1
  have HQ2 := toHid8 (fun w' (f : Fr None' w w') => dright_any p _ _ w' (HO.out w' f) (HN.out w' f) (smallP_of hp) (linesSmall_of hp))
  rw [hR, hk] at HQ2
  have HSE := toHid8 hs
  have i1 : (n : Int) ≤ 1024 := by omega
  clear h hl hT hk hp hTR ho' hn' hs hR
  go_enter Tryz.func13, Tryz.ntmps13
  go_wp2_with fail
  with_reducible refine q1.mono ?_
  rintro e w2 ⟨rfl, f2⟩
  have HF2 := toHid8 (HF1.out.then7 f2)
  have HB2 := toHid8 (HB1.out.kept f2)
  obtain ⟨p0, p1, p2, p3, p4, p5, p6⟩ := HB2.out.cells
  have q2 := HQ2.out w2 HF2.out
  clear q1 f2
  go_wp2_with fail
  with_reducible refine q2.mono ?_
  rintro e w3 ⟨rfl, f3⟩
  have HF3 := toHid8 (HF2.out.then7 f3)
  have HB3 := toHid8 (HB2.out.kept f3)
  clear q2 f3 p0 p1 p2 p3 p4 p5 p6
  obtain ⟨p0, p1, p2, p3, p4, p5, p6⟩ := HB3.out.cells
  have q3 := vkind_any 5 w3 (by decide)
  rw [show (if (5 : Int) = 1 ∨ (5 : Int) = 2 then (1 : Int) else if (5 : Int) = 5 ∨ (5 : Int) = 6 ∨ (5 : Int) = 9 then 3 else 2) = 3 from by decide] at q3
  go_wp2_with fail
  with_reducible refine q3.mono ?_
  rintro e w4 ⟨rfl, hw4⟩
  rw [hw4]
  clear q3 hw4
  have q4 := vroom_any va n c L p.path w3 HLen.out (HE.out w3 HF3.out) (by omega) HSp.out.path
  obtain ⟨er, her⟩ : ∃ x, freeE L (bl p.path) = x := ⟨_, rfl⟩
  rw [her] at q4
  have HEr := toHid8 her
  clear her
  go_wp2_with fail
  with_reducible refine q4.mono ?_
  rintro e w5 ⟨rfl, f5⟩
  have HF5 := toHid8 (HF3.out.then7 f5)
  have HB5 := toHid8 (HB3.out.kept f5)
  clear q4 f5 p0 p1 p2 p3 p4 p5 p6
  obtain ⟨p0, p1, p2, p3, p4, p5, p6⟩ := HB5.out.cells
  by_cases he : er = 0
  · subst he
    by_cases h24 : 1024 ≤ n
    · have j1 : (1024 : Int) ≤ (n : Int) := by omega
      have HEq := toHid8 (HA1.out HEr.out h24)
      go_wp2_with fail
      go_ret2
      rw [HEq.out]
      exact ⟨none, 0, rfl, (fun j x hj => by simp at hj), fun _ => rfl, HF5.out⟩
    · have j1 : ¬ (1024 : Int) ≤ (n : Int) := by omega
      have HEq := toHid8 (HA2.out HEr.out (by omega))
      have q5 := vput_any va n c L ⟨p.path, 3, [], ⟨#[]⟩⟩ (.slice none 0 0) w5 HLen.out (HE.out w5 HF5.out) (by omega) (nilS8 w5) HSt.out
      unfold RowPost at q5
      go_wp2_with fail
      with_reducible refine q5.mono ?_
      rintro e w6 ⟨v6, c6, rfl, HE6, HC6, f6⟩
      have HF6 := toHid8 (HF5.out.then7 f6)
      clear q5 f6
      go_wp2_with fail
      go_ret2
      rw [HEq.out]
      exact ⟨v6, c6, rfl, HE6, HC6, HF6.out⟩
  · have he2 : (er == 0) = false := by simpa using he
    have HEq := toHid8 (HA0.out er HEr.out he)
    go_wp2_with fail
    go_ret2
    rw [HEq.out]
    exact ⟨none, 0, rfl, (fun j x hj => by simp at hj), fun _ => rfl, HF5.out⟩

set_option maxHeartbeats 8000000 in
theorem vapply_2 (va : Option Addr) (n c : Nat) (L : List En) (p : Pr) (vo vn : Value) (w : World) (hl : L.length = n) (h : EntsAt w va L) (hT : treeRight L = true) (hR : rightP p = true) (hk : p.kind = 2) (hs : SmallE L) (hp : SmPr p) (ho : StrsAt w vo p.old) (hn : StrsAt w vn p.new) :
    Calls Tryz.prog 13 #[.slice va n c, .agg #[.int .i64 2, .string p.path, .string p.dst, .string p.src, .int .i64 p.pos, vo, vn]] w fun e w' => ApplyPost8 (allE L [p]) w e w' := by
  obtain ⟨pa, ca, rfl, ho'⟩ := ho
  obtain ⟨pb, cb, rfl, hn'⟩ := hn
  have hTR := (treeR L).1 hT
  have hn9 : n ≤ 1024 := by have := hTR.len; omega
  have HA0 := toHid8 (show findE L (bl p.path) = none → allE L [p] = ([], 72, 0) from fun e => by
    rw [all_act hT hR (show actE L p = (L, 72) from by unfold actE hasE; rw [if_neg (by omega), if_pos (by omega), e]; rfl)]; rfl)
  have HA1 := toHid8 (show ∀ x, findE L (bl p.path) = some x → x.kind ≠ 1 → allE L [p] = ([], 73, 0) from fun x e e2 => by
    rw [all_act hT hR (show actE L p = (L, 73) from by unfold actE hasE; rw [if_neg (by omega), if_pos (by omega), e, hk]; simp only [show (2 : Int) / 2 = 1 from rfl, if_neg e2]; rfl)]; rfl)
  have HA2 := toHid8 (show ∀ x, findE L (bl p.path) = some x → x.kind = 1 → ¬ (x.lines.length = 0 ∧ x.data = ⟨#[]⟩ ∧ (children L (bl p.path)).length = 0) → allE L [p] = ([], 81, 0) from fun x e e2 e3 => by
    rw [all_act hT hR (show actE L p = (L, 81) from by
      unfold actE hasE
      rw [if_neg (by omega), if_pos (by omega), e, hk]
      simp only [show (2 : Int) / 2 = 1 from rfl, if_pos e2]
      rw [if_neg (by decide), if_neg (by
        unfold emptyE
        rw [e]
        intro h4
        simp only [Bool.and_eq_true, decide_eq_true_eq] at h4
        have h5 := (find_some e).2
        refine e3 ⟨h4.1.1, h4.1.2, ?_⟩
        rw [← h5]
        refine (child_none hTR (find_some e).1 (by rw [h5]; exact path_ne hR)).1 ?_
        rw [h5]
        exact h4.2)])]; rfl)
  have HA3 := toHid8 (show ∀ x, findE L (bl p.path) = some x → x.kind = 1 → (x.lines.length = 0 ∧ x.data = ⟨#[]⟩ ∧ (children L (bl p.path)).length = 0) → allE L [p] = (delE L (bl p.path), 0, 0) from fun x e e2 e3 => by
    rw [all_act hT hR (show actE L p = (delE L (bl p.path), 0) from by
      unfold actE hasE
      rw [if_neg (by omega), if_pos (by omega), e, hk]
      simp only [show (2 : Int) / 2 = 1 from rfl, if_pos e2]
      rw [if_neg (by decide), if_pos (by
        unfold emptyE
        rw [e]
        simp only [Bool.and_eq_true, decide_eq_true_eq]
        have h5 := (find_some e).2
        refine ⟨⟨e3.1, e3.2.1⟩, ?_⟩
        have := (child_none hTR (find_some e).1 (by rw [h5]; exact path_ne hR)).2 (by rw [h5]; exact e3.2.2)
        rw [h5] at this
        exact this)])]; rfl)
  have HE := toHid8 (show ∀ w', Fr None' w w' → EntsAt w' va L from fun w' f => h.kept f)
  have HO := toHid8 (show ∀ w', Fr None' w w' → StrsAt w' (.slice pa p.old.length ca) p.old from fun w' f => StrsAt.kept ⟨pa, ca, rfl, ho'⟩ f)
  have HN := toHid8 (show ∀ w', Fr None' w w' → StrsAt w' (.slice pb p.new.length cb) p.new from fun w' f => StrsAt.kept ⟨pb, cb, rfl, hn'⟩ f)
  have HLen := toHid8 hl
  have HSp := toHid8 hp
  have HSt := toHid8 hTR.strict
  obtain ⟨w1, hw1⟩ : ∃ w1, w.alloc (.cells #[.int .i64 2, .string p.path, .string p.dst, .string p.src, .int .i64 p.pos, .slice pa p.old.length ca, .slice pb p.new.length cb] 25) = w1 := ⟨_, rfl⟩
  have HF1 := toHid8 (show Fr None' w w1 from hw1 ▸ Fr.alloc None' w _)
  have HB1 := toHid8 (show Box w1 w.heap.size (.int .i64 2) (.string p.path) (.string p.dst) (.string p.src) (.int .i64 p.pos) (.slice pa p.old.length ca) (.slice pb p.new.length cb) from hw1 ▸ Box.new w _ _ _ _ _ _ _)
  have q1 := eright_any va n c L w1 hl (HE.out w1 HF1.out) (by omega) hs
  rw [hT] at q1
  have HQ2 := toHid8 (fun w' (f : Fr None' w w') => dright_any p _ _ w' (HO.out w' f) (HN.out w' f) (smallP_of hp) (linesSmall_of hp))
  rw [hR, hk] at HQ2
  have HSE := toHid8 hs
  have i1 : (n : Int) ≤ 1024 := by omega
  clear h hl hT hk hp hTR ho' hn' hs hR
  go_enter Tryz.func13, Tryz.ntmps13
  go_wp2_with fail
  with_reducible refine q1.mono ?_
  rintro e w2 ⟨rfl, f2⟩
  have HF2 := toHid8 (HF1.out.then7 f2)
  have HB2 := toHid8 (HB1.out.kept f2)
  obtain ⟨p0, p1, p2, p3, p4, p5, p6⟩ := HB2.out.cells
  have q2 := HQ2.out w2 HF2.out
  clear q1 f2
  go_wp2_with fail
  with_reducible refine q2.mono ?_
  rintro e w3 ⟨rfl, f3⟩
  have HF3 := toHid8 (HF2.out.then7 f3)
  have HB3 := toHid8 (HB2.out.kept f3)
  clear q2 f3 p0 p1 p2 p3 p4 p5 p6
  obtain ⟨p0, p1, p2, p3, p4, p5, p6⟩ := HB3.out.cells
  have q3 := vkind_any 2 w3 (by decide)
  rw [show (if (2 : Int) = 1 ∨ (2 : Int) = 2 then (1 : Int) else if (2 : Int) = 5 ∨ (2 : Int) = 6 ∨ (2 : Int) = 9 then 3 else 2) = 1 from by decide] at q3
  go_wp2_with fail
  with_reducible refine q3.mono ?_
  rintro e w4 ⟨rfl, hw4⟩
  rw [hw4]
  clear q3 hw4
  have q4 := efind_any va n c L p.path w3 HLen.out (HE.out w3 HF3.out) (by omega)
  obtain ⟨r, hr⟩ : ∃ r, findE L (bl p.path) = r := ⟨_, rfl⟩
  rw [hr] at q4
  have HFr := toHid8 hr
  clear hr
  cases r with
  | none =>
    have HEq := toHid8 (HA0.out HFr.out)
    unfold FindPost at q4
    simp only at q4
    go_wp2_with fail
    with_reducible refine q4.mono ?_
    rintro e w5 ⟨f5, rfl⟩
    have HF5 := toHid8 (HF3.out.then7 (f5.then7 (Fr.alloc None' w5 (.cells #[.string ⟨#[]⟩, .int .i64 0, .slice none 0 0, .string ⟨#[]⟩] 41))))
    clear q4 f5
    go_wp2_with fail
    go_ret2
    rw [HEq.out]
    exact ⟨none, 0, rfl, (fun j x hj => by simp at hj), fun _ => rfl, HF5.out⟩
  | some x =>
    unfold FindPost at q4
    simp only at q4
    have HXs := toHid8 (HSE.out x (find_some HFr.out).1)
    obtain ⟨P, K, l, Da⟩ := x
    simp only at q4 HXs
    go_wp2_with fail
    with_reducible refine q4.mono ?_
    rintro e w5 ⟨f5, vl, rfl, hs5⟩
    have HS5 := toHid8 hs5
    obtain ⟨pl, cl, rfl, _⟩ := hs5
    obtain ⟨nl, hnl⟩ : ∃ m, l.length = m := ⟨_, rfl⟩
    have HNl := toHid8 hnl
    rw [hnl] at HS5 ⊢
    obtain ⟨w6, hw6⟩ : ∃ x, w5.alloc (.cells #[.string P, .int .i64 K, .slice pl nl cl, .string Da] 41) = x := ⟨_, rfl⟩
    have F6 : Fr None' w5 w6 := hw6 ▸ Fr.alloc None' w5 _
    have HBX := toHid8 (show EBox w6 w5.heap.size (.string P) (.int .i64 K) (.slice pl nl cl) (.string Da) from hw6 ▸ EBox.new w5 _ _ _ _)
    have HF6 := toHid8 (HF3.out.then7 (f5.then7 F6))
    have HB6 := toHid8 (HB3.out.kept (f5.then7 F6))
    have HS6 := toHid8 (HS5.out.kept F6)
    obtain ⟨x0, x1, x2, x3⟩ := HBX.out.cells
    clear q4 f5 F6 p0 p1 p2 p3 p4 p5 p6 HS5 hnl
    obtain ⟨p0, p1, p2, p3, p4, p5, p6⟩ := HB6.out.cells
    by_cases hK : K = 1
    · subst hK
      have q5 := echildren_any va n c L p.path w6 HLen.out (HE.out w6 HF6.out) (by omega) HSE.out
      obtain ⟨N, hN⟩ : ∃ N, (children L (bl p.path)).length = N := ⟨_, rfl⟩
      have HNc := toHid8 hN
      clear hN
      go_wp2_with fail
      with_reducible refine q5.mono ?_
      rintro e w7 ⟨v7, V7, rfl, O7, f7⟩
      obtain ⟨v8, c8, rfl, _⟩ := O7.slice f7
      have HF7 := toHid8 (HF6.out.then7 f7)
      obtain ⟨x0', x1', x2', x3'⟩ := (HBX.out.kept f7).cells
      have HB7 := toHid8 (HB6.out.kept f7)
      rw [HNc.out]
      clear q5 f7 O7 x0 x1 x2 x3 p0 p1 p2 p3 p4 p5 p6
      obtain ⟨p0, p1, p2, p3, p4, p5, p6⟩ := HB7.out.cells
      by_cases hN0 : N = 0
      · subst hN0
        by_cases hl0 : nl = 0
        · subst hl0
          by_cases hd0 : Da.size = 0
          · have hde := empty_of hd0
            have HEq := toHid8 (HA3.out _ HFr.out rfl ⟨HNl.out, hde, HNc.out⟩)
            rw [hde] at x3'
            have q6 := vwithout_any va n c L p.path w7 w7 HLen.out (HE.out w7 HF7.out) (Fr.refl _ _) (by omega)
            clear hde hd0
            go_wp2_with fail
            with_reducible refine q6.mono ?_
            rintro e w8 ⟨v9, V9, rfl, O9, f9⟩
            obtain ⟨va9, c9, rfl, _, hc9, E9, _⟩ := O9.slice f9
            have HF8 := toHid8 (HF7.out.then7 f9)
            have HE9 := toHid8 E9
            have HC9 := toHid8 hc9
            clear q6 O9 f9 E9 hc9
            go_wp2_with fail
            go_ret2
            rw [HEq.out]
            exact ⟨va9, c9, rfl, HE9, HC9, HF8.out⟩
          · have yd := isEmpty_no hd0
            have HEq := toHid8 (HA2.out _ HFr.out rfl (fun e => hd0 (congrArg ByteArray.size (show Da = ⟨#[]⟩ from e.2.1))))
            go_wp2_with fail
            go_ret2
            rw [HEq.out]
            exact ⟨none, 0, rfl, (fun j x hj => by simp at hj), fun _ => rfl, HF7.out⟩
        · have j2 : (0 : Int) < (nl : Int) := by omega
          have HEq := toHid8 (HA2.out _ HFr.out rfl (fun e => hl0 (by rw [← HNl.out]; exact e.1)))
          go_wp2_with fail
          go_ret2
          rw [HEq.out]
          exact ⟨none, 0, rfl, (fun j x hj => by simp at hj), fun _ => rfl, HF7.out⟩
      · have j2 : (0 : Int) < (N : Int) := by omega
        have HEq := toHid8 (HA2.out _ HFr.out rfl (fun e => hN0 (by rw [← HNc.out]; exact e.2.2)))
        go_wp2_with fail
        go_ret2
        rw [HEq.out]
        exact ⟨none, 0, rfl, (fun j x hj => by simp at hj), fun _ => rfl, HF7.out⟩
    · have hK2 : (K == 1) = false := by simpa using hK
      have HEq := toHid8 (HA1.out _ HFr.out hK)
      go_wp2_with fail
      go_ret2
      rw [HEq.out]
      exact ⟨none, 0, rfl, (fun j x hj => by simp at hj), fun _ => rfl, HF6.out⟩

set_option maxHeartbeats 8000000 in
theorem vapply_4 (va : Option Addr) (n c : Nat) (L : List En) (p : Pr) (vo vn : Value) (w : World) (hl : L.length = n) (h : EntsAt w va L) (hT : treeRight L = true) (hR : rightP p = true) (hk : p.kind = 4) (hs : SmallE L) (hp : SmPr p) (ho : StrsAt w vo p.old) (hn : StrsAt w vn p.new) :
    Calls Tryz.prog 13 #[.slice va n c, .agg #[.int .i64 4, .string p.path, .string p.dst, .string p.src, .int .i64 p.pos, vo, vn]] w fun e w' => ApplyPost8 (allE L [p]) w e w' := by
  obtain ⟨pa, ca, rfl, ho'⟩ := ho
  obtain ⟨pb, cb, rfl, hn'⟩ := hn
  have hTR := (treeR L).1 hT
  have hn9 : n ≤ 1024 := by have := hTR.len; omega
  have HA0 := toHid8 (show findE L (bl p.path) = none → allE L [p] = ([], 72, 0) from fun e => by
    rw [all_act hT hR (show actE L p = (L, 72) from by unfold actE hasE; rw [if_neg (by omega), if_pos (by omega), e]; rfl)]; rfl)
  have HA1 := toHid8 (show ∀ x, findE L (bl p.path) = some x → x.kind ≠ 2 → allE L [p] = ([], 73, 0) from fun x e e2 => by
    rw [all_act hT hR (show actE L p = (L, 73) from by unfold actE hasE; rw [if_neg (by omega), if_pos (by omega), e, hk]; simp only [show (4 : Int) / 2 = 2 from rfl, if_neg e2]; rfl)]; rfl)
  have HA2 := toHid8 (show ∀ x, findE L (bl p.path) = some x → x.kind = 2 → ¬ (x.lines.length = 0 ∧ x.data = ⟨#[]⟩ ∧ (children L (bl p.path)).length = 0) → allE L [p] = ([], 81, 0) from fun x e e2 e3 => by
    rw [all_act hT hR (show actE L p = (L, 81) from by
      unfold actE hasE
      rw [if_neg (by omega), if_pos (by omega), e, hk]
      simp only [show (4 : Int) / 2 = 2 from rfl, if_pos e2]
      rw [if_neg (by decide), if_neg (by
        unfold emptyE
        rw [e]
        intro h4
        simp only [Bool.and_eq_true, decide_eq_true_eq] at h4
        have h5 := (find_some e).2
        refine e3 ⟨h4.1.1, h4.1.2, ?_⟩
        rw [← h5]
        refine (child_none hTR (find_some e).1 (by rw [h5]; exact path_ne hR)).1 ?_
        rw [h5]
        exact h4.2)])]; rfl)
  have HA3 := toHid8 (show ∀ x, findE L (bl p.path) = some x → x.kind = 2 → (x.lines.length = 0 ∧ x.data = ⟨#[]⟩ ∧ (children L (bl p.path)).length = 0) → allE L [p] = (delE L (bl p.path), 0, 0) from fun x e e2 e3 => by
    rw [all_act hT hR (show actE L p = (delE L (bl p.path), 0) from by
      unfold actE hasE
      rw [if_neg (by omega), if_pos (by omega), e, hk]
      simp only [show (4 : Int) / 2 = 2 from rfl, if_pos e2]
      rw [if_neg (by decide), if_pos (by
        unfold emptyE
        rw [e]
        simp only [Bool.and_eq_true, decide_eq_true_eq]
        have h5 := (find_some e).2
        refine ⟨⟨e3.1, e3.2.1⟩, ?_⟩
        have := (child_none hTR (find_some e).1 (by rw [h5]; exact path_ne hR)).2 (by rw [h5]; exact e3.2.2)
        rw [h5] at this
        exact this)])]; rfl)
  have HE := toHid8 (show ∀ w', Fr None' w w' → EntsAt w' va L from fun w' f => h.kept f)
  have HO := toHid8 (show ∀ w', Fr None' w w' → StrsAt w' (.slice pa p.old.length ca) p.old from fun w' f => StrsAt.kept ⟨pa, ca, rfl, ho'⟩ f)
  have HN := toHid8 (show ∀ w', Fr None' w w' → StrsAt w' (.slice pb p.new.length cb) p.new from fun w' f => StrsAt.kept ⟨pb, cb, rfl, hn'⟩ f)
  have HLen := toHid8 hl
  have HSp := toHid8 hp
  have HSt := toHid8 hTR.strict
  obtain ⟨w1, hw1⟩ : ∃ w1, w.alloc (.cells #[.int .i64 4, .string p.path, .string p.dst, .string p.src, .int .i64 p.pos, .slice pa p.old.length ca, .slice pb p.new.length cb] 25) = w1 := ⟨_, rfl⟩
  have HF1 := toHid8 (show Fr None' w w1 from hw1 ▸ Fr.alloc None' w _)
  have HB1 := toHid8 (show Box w1 w.heap.size (.int .i64 4) (.string p.path) (.string p.dst) (.string p.src) (.int .i64 p.pos) (.slice pa p.old.length ca) (.slice pb p.new.length cb) from hw1 ▸ Box.new w _ _ _ _ _ _ _)
  have q1 := eright_any va n c L w1 hl (HE.out w1 HF1.out) (by omega) hs
  rw [hT] at q1
  have HQ2 := toHid8 (fun w' (f : Fr None' w w') => dright_any p _ _ w' (HO.out w' f) (HN.out w' f) (smallP_of hp) (linesSmall_of hp))
  rw [hR, hk] at HQ2
  have HSE := toHid8 hs
  have i1 : (n : Int) ≤ 1024 := by omega
  clear h hl hT hk hp hTR ho' hn' hs hR
  go_enter Tryz.func13, Tryz.ntmps13
  go_wp2_with fail
  with_reducible refine q1.mono ?_
  rintro e w2 ⟨rfl, f2⟩
  have HF2 := toHid8 (HF1.out.then7 f2)
  have HB2 := toHid8 (HB1.out.kept f2)
  obtain ⟨p0, p1, p2, p3, p4, p5, p6⟩ := HB2.out.cells
  have q2 := HQ2.out w2 HF2.out
  clear q1 f2
  go_wp2_with fail
  with_reducible refine q2.mono ?_
  rintro e w3 ⟨rfl, f3⟩
  have HF3 := toHid8 (HF2.out.then7 f3)
  have HB3 := toHid8 (HB2.out.kept f3)
  clear q2 f3 p0 p1 p2 p3 p4 p5 p6
  obtain ⟨p0, p1, p2, p3, p4, p5, p6⟩ := HB3.out.cells
  have q3 := vkind_any 4 w3 (by decide)
  rw [show (if (4 : Int) = 1 ∨ (4 : Int) = 2 then (1 : Int) else if (4 : Int) = 5 ∨ (4 : Int) = 6 ∨ (4 : Int) = 9 then 3 else 2) = 2 from by decide] at q3
  go_wp2_with fail
  with_reducible refine q3.mono ?_
  rintro e w4 ⟨rfl, hw4⟩
  rw [hw4]
  clear q3 hw4
  have q4 := efind_any va n c L p.path w3 HLen.out (HE.out w3 HF3.out) (by omega)
  obtain ⟨r, hr⟩ : ∃ r, findE L (bl p.path) = r := ⟨_, rfl⟩
  rw [hr] at q4
  have HFr := toHid8 hr
  clear hr
  cases r with
  | none =>
    have HEq := toHid8 (HA0.out HFr.out)
    unfold FindPost at q4
    simp only at q4
    go_wp2_with fail
    with_reducible refine q4.mono ?_
    rintro e w5 ⟨f5, rfl⟩
    have HF5 := toHid8 (HF3.out.then7 (f5.then7 (Fr.alloc None' w5 (.cells #[.string ⟨#[]⟩, .int .i64 0, .slice none 0 0, .string ⟨#[]⟩] 41))))
    clear q4 f5
    go_wp2_with fail
    go_ret2
    rw [HEq.out]
    exact ⟨none, 0, rfl, (fun j x hj => by simp at hj), fun _ => rfl, HF5.out⟩
  | some x =>
    unfold FindPost at q4
    simp only at q4
    have HXs := toHid8 (HSE.out x (find_some HFr.out).1)
    obtain ⟨P, K, l, Da⟩ := x
    simp only at q4 HXs
    go_wp2_with fail
    with_reducible refine q4.mono ?_
    rintro e w5 ⟨f5, vl, rfl, hs5⟩
    have HS5 := toHid8 hs5
    obtain ⟨pl, cl, rfl, _⟩ := hs5
    obtain ⟨nl, hnl⟩ : ∃ m, l.length = m := ⟨_, rfl⟩
    have HNl := toHid8 hnl
    rw [hnl] at HS5 ⊢
    obtain ⟨w6, hw6⟩ : ∃ x, w5.alloc (.cells #[.string P, .int .i64 K, .slice pl nl cl, .string Da] 41) = x := ⟨_, rfl⟩
    have F6 : Fr None' w5 w6 := hw6 ▸ Fr.alloc None' w5 _
    have HBX := toHid8 (show EBox w6 w5.heap.size (.string P) (.int .i64 K) (.slice pl nl cl) (.string Da) from hw6 ▸ EBox.new w5 _ _ _ _)
    have HF6 := toHid8 (HF3.out.then7 (f5.then7 F6))
    have HB6 := toHid8 (HB3.out.kept (f5.then7 F6))
    have HS6 := toHid8 (HS5.out.kept F6)
    obtain ⟨x0, x1, x2, x3⟩ := HBX.out.cells
    clear q4 f5 F6 p0 p1 p2 p3 p4 p5 p6 HS5 hnl
    obtain ⟨p0, p1, p2, p3, p4, p5, p6⟩ := HB6.out.cells
    by_cases hK : K = 2
    · subst hK
      have q5 := echildren_any va n c L p.path w6 HLen.out (HE.out w6 HF6.out) (by omega) HSE.out
      obtain ⟨N, hN⟩ : ∃ N, (children L (bl p.path)).length = N := ⟨_, rfl⟩
      have HNc := toHid8 hN
      clear hN
      go_wp2_with fail
      with_reducible refine q5.mono ?_
      rintro e w7 ⟨v7, V7, rfl, O7, f7⟩
      obtain ⟨v8, c8, rfl, _⟩ := O7.slice f7
      have HF7 := toHid8 (HF6.out.then7 f7)
      obtain ⟨x0', x1', x2', x3'⟩ := (HBX.out.kept f7).cells
      have HB7 := toHid8 (HB6.out.kept f7)
      rw [HNc.out]
      clear q5 f7 O7 x0 x1 x2 x3 p0 p1 p2 p3 p4 p5 p6
      obtain ⟨p0, p1, p2, p3, p4, p5, p6⟩ := HB7.out.cells
      by_cases hN0 : N = 0
      · subst hN0
        by_cases hl0 : nl = 0
        · subst hl0
          by_cases hd0 : Da.size = 0
          · have hde := empty_of hd0
            have HEq := toHid8 (HA3.out _ HFr.out rfl ⟨HNl.out, hde, HNc.out⟩)
            rw [hde] at x3'
            have q6 := vwithout_any va n c L p.path w7 w7 HLen.out (HE.out w7 HF7.out) (Fr.refl _ _) (by omega)
            clear hde hd0
            go_wp2_with fail
            with_reducible refine q6.mono ?_
            rintro e w8 ⟨v9, V9, rfl, O9, f9⟩
            obtain ⟨va9, c9, rfl, _, hc9, E9, _⟩ := O9.slice f9
            have HF8 := toHid8 (HF7.out.then7 f9)
            have HE9 := toHid8 E9
            have HC9 := toHid8 hc9
            clear q6 O9 f9 E9 hc9
            go_wp2_with fail
            go_ret2
            rw [HEq.out]
            exact ⟨va9, c9, rfl, HE9, HC9, HF8.out⟩
          · have yd := isEmpty_no hd0
            have HEq := toHid8 (HA2.out _ HFr.out rfl (fun e => hd0 (congrArg ByteArray.size (show Da = ⟨#[]⟩ from e.2.1))))
            go_wp2_with fail
            go_ret2
            rw [HEq.out]
            exact ⟨none, 0, rfl, (fun j x hj => by simp at hj), fun _ => rfl, HF7.out⟩
        · have j2 : (0 : Int) < (nl : Int) := by omega
          have HEq := toHid8 (HA2.out _ HFr.out rfl (fun e => hl0 (by rw [← HNl.out]; exact e.1)))
          go_wp2_with fail
          go_ret2
          rw [HEq.out]
          exact ⟨none, 0, rfl, (fun j x hj => by simp at hj), fun _ => rfl, HF7.out⟩
      · have j2 : (0 : Int) < (N : Int) := by omega
        have HEq := toHid8 (HA2.out _ HFr.out rfl (fun e => hN0 (by rw [← HNc.out]; exact e.2.2)))
        go_wp2_with fail
        go_ret2
        rw [HEq.out]
        exact ⟨none, 0, rfl, (fun j x hj => by simp at hj), fun _ => rfl, HF7.out⟩
    · have hK2 : (K == 2) = false := by simpa using hK
      have HEq := toHid8 (HA1.out _ HFr.out hK)
      go_wp2_with fail
      go_ret2
      rw [HEq.out]
      exact ⟨none, 0, rfl, (fun j x hj => by simp at hj), fun _ => rfl, HF6.out⟩

set_option maxHeartbeats 8000000 in
theorem vapply_6 (va : Option Addr) (n c : Nat) (L : List En) (p : Pr) (vo vn : Value) (w : World) (hl : L.length = n) (h : EntsAt w va L) (hT : treeRight L = true) (hR : rightP p = true) (hk : p.kind = 6) (hs : SmallE L) (hp : SmPr p) (ho : StrsAt w vo p.old) (hn : StrsAt w vn p.new) :
    Calls Tryz.prog 13 #[.slice va n c, .agg #[.int .i64 6, .string p.path, .string p.dst, .string p.src, .int .i64 p.pos, vo, vn]] w fun e w' => ApplyPost8 (allE L [p]) w e w' := by
  obtain ⟨pa, ca, rfl, ho'⟩ := ho
  obtain ⟨pb, cb, rfl, hn'⟩ := hn
  have hTR := (treeR L).1 hT
  have hn9 : n ≤ 1024 := by have := hTR.len; omega
  have HA0 := toHid8 (show findE L (bl p.path) = none → allE L [p] = ([], 72, 0) from fun e => by
    rw [all_act hT hR (show actE L p = (L, 72) from by unfold actE hasE; rw [if_neg (by omega), if_pos (by omega), e]; rfl)]; rfl)
  have HA1 := toHid8 (show ∀ x, findE L (bl p.path) = some x → x.kind ≠ 3 → allE L [p] = ([], 73, 0) from fun x e e2 => by
    rw [all_act hT hR (show actE L p = (L, 73) from by unfold actE hasE; rw [if_neg (by omega), if_pos (by omega), e, hk]; simp only [show (6 : Int) / 2 = 3 from rfl, if_neg e2]; rfl)]; rfl)
  have HA2 := toHid8 (show ∀ x, findE L (bl p.path) = some x → x.kind = 3 → ¬ (x.lines.length = 0 ∧ x.data = ⟨#[]⟩ ∧ (children L (bl p.path)).length = 0) → allE L [p] = ([], 81, 0) from fun x e e2 e3 => by
    rw [all_act hT hR (show actE L p = (L, 81) from by
      unfold actE hasE
      rw [if_neg (by omega), if_pos (by omega), e, hk]
      simp only [show (6 : Int) / 2 = 3 from rfl, if_pos e2]
      rw [if_neg (by decide), if_neg (by
        unfold emptyE
        rw [e]
        intro h4
        simp only [Bool.and_eq_true, decide_eq_true_eq] at h4
        have h5 := (find_some e).2
        refine e3 ⟨h4.1.1, h4.1.2, ?_⟩
        rw [← h5]
        refine (child_none hTR (find_some e).1 (by rw [h5]; exact path_ne hR)).1 ?_
        rw [h5]
        exact h4.2)])]; rfl)
  have HA3 := toHid8 (show ∀ x, findE L (bl p.path) = some x → x.kind = 3 → (x.lines.length = 0 ∧ x.data = ⟨#[]⟩ ∧ (children L (bl p.path)).length = 0) → allE L [p] = (delE L (bl p.path), 0, 0) from fun x e e2 e3 => by
    rw [all_act hT hR (show actE L p = (delE L (bl p.path), 0) from by
      unfold actE hasE
      rw [if_neg (by omega), if_pos (by omega), e, hk]
      simp only [show (6 : Int) / 2 = 3 from rfl, if_pos e2]
      rw [if_neg (by decide), if_pos (by
        unfold emptyE
        rw [e]
        simp only [Bool.and_eq_true, decide_eq_true_eq]
        have h5 := (find_some e).2
        refine ⟨⟨e3.1, e3.2.1⟩, ?_⟩
        have := (child_none hTR (find_some e).1 (by rw [h5]; exact path_ne hR)).2 (by rw [h5]; exact e3.2.2)
        rw [h5] at this
        exact this)])]; rfl)
  have HE := toHid8 (show ∀ w', Fr None' w w' → EntsAt w' va L from fun w' f => h.kept f)
  have HO := toHid8 (show ∀ w', Fr None' w w' → StrsAt w' (.slice pa p.old.length ca) p.old from fun w' f => StrsAt.kept ⟨pa, ca, rfl, ho'⟩ f)
  have HN := toHid8 (show ∀ w', Fr None' w w' → StrsAt w' (.slice pb p.new.length cb) p.new from fun w' f => StrsAt.kept ⟨pb, cb, rfl, hn'⟩ f)
  have HLen := toHid8 hl
  have HSp := toHid8 hp
  have HSt := toHid8 hTR.strict
  obtain ⟨w1, hw1⟩ : ∃ w1, w.alloc (.cells #[.int .i64 6, .string p.path, .string p.dst, .string p.src, .int .i64 p.pos, .slice pa p.old.length ca, .slice pb p.new.length cb] 25) = w1 := ⟨_, rfl⟩
  have HF1 := toHid8 (show Fr None' w w1 from hw1 ▸ Fr.alloc None' w _)
  have HB1 := toHid8 (show Box w1 w.heap.size (.int .i64 6) (.string p.path) (.string p.dst) (.string p.src) (.int .i64 p.pos) (.slice pa p.old.length ca) (.slice pb p.new.length cb) from hw1 ▸ Box.new w _ _ _ _ _ _ _)
  have q1 := eright_any va n c L w1 hl (HE.out w1 HF1.out) (by omega) hs
  rw [hT] at q1
  have HQ2 := toHid8 (fun w' (f : Fr None' w w') => dright_any p _ _ w' (HO.out w' f) (HN.out w' f) (smallP_of hp) (linesSmall_of hp))
  rw [hR, hk] at HQ2
  have HSE := toHid8 hs
  have i1 : (n : Int) ≤ 1024 := by omega
  clear h hl hT hk hp hTR ho' hn' hs hR
  go_enter Tryz.func13, Tryz.ntmps13
  go_wp2_with fail
  with_reducible refine q1.mono ?_
  rintro e w2 ⟨rfl, f2⟩
  have HF2 := toHid8 (HF1.out.then7 f2)
  have HB2 := toHid8 (HB1.out.kept f2)
  obtain ⟨p0, p1, p2, p3, p4, p5, p6⟩ := HB2.out.cells
  have q2 := HQ2.out w2 HF2.out
  clear q1 f2
  go_wp2_with fail
  with_reducible refine q2.mono ?_
  rintro e w3 ⟨rfl, f3⟩
  have HF3 := toHid8 (HF2.out.then7 f3)
  have HB3 := toHid8 (HB2.out.kept f3)
  clear q2 f3 p0 p1 p2 p3 p4 p5 p6
  obtain ⟨p0, p1, p2, p3, p4, p5, p6⟩ := HB3.out.cells
  have q3 := vkind_any 6 w3 (by decide)
  rw [show (if (6 : Int) = 1 ∨ (6 : Int) = 2 then (1 : Int) else if (6 : Int) = 5 ∨ (6 : Int) = 6 ∨ (6 : Int) = 9 then 3 else 2) = 3 from by decide] at q3
  go_wp2_with fail
  with_reducible refine q3.mono ?_
  rintro e w4 ⟨rfl, hw4⟩
  rw [hw4]
  clear q3 hw4
  have q4 := efind_any va n c L p.path w3 HLen.out (HE.out w3 HF3.out) (by omega)
  obtain ⟨r, hr⟩ : ∃ r, findE L (bl p.path) = r := ⟨_, rfl⟩
  rw [hr] at q4
  have HFr := toHid8 hr
  clear hr
  cases r with
  | none =>
    have HEq := toHid8 (HA0.out HFr.out)
    unfold FindPost at q4
    simp only at q4
    go_wp2_with fail
    with_reducible refine q4.mono ?_
    rintro e w5 ⟨f5, rfl⟩
    have HF5 := toHid8 (HF3.out.then7 (f5.then7 (Fr.alloc None' w5 (.cells #[.string ⟨#[]⟩, .int .i64 0, .slice none 0 0, .string ⟨#[]⟩] 41))))
    clear q4 f5
    go_wp2_with fail
    go_ret2
    rw [HEq.out]
    exact ⟨none, 0, rfl, (fun j x hj => by simp at hj), fun _ => rfl, HF5.out⟩
  | some x =>
    unfold FindPost at q4
    simp only at q4
    have HXs := toHid8 (HSE.out x (find_some HFr.out).1)
    obtain ⟨P, K, l, Da⟩ := x
    simp only at q4 HXs
    go_wp2_with fail
    with_reducible refine q4.mono ?_
    rintro e w5 ⟨f5, vl, rfl, hs5⟩
    have HS5 := toHid8 hs5
    obtain ⟨pl, cl, rfl, _⟩ := hs5
    obtain ⟨nl, hnl⟩ : ∃ m, l.length = m := ⟨_, rfl⟩
    have HNl := toHid8 hnl
    rw [hnl] at HS5 ⊢
    obtain ⟨w6, hw6⟩ : ∃ x, w5.alloc (.cells #[.string P, .int .i64 K, .slice pl nl cl, .string Da] 41) = x := ⟨_, rfl⟩
    have F6 : Fr None' w5 w6 := hw6 ▸ Fr.alloc None' w5 _
    have HBX := toHid8 (show EBox w6 w5.heap.size (.string P) (.int .i64 K) (.slice pl nl cl) (.string Da) from hw6 ▸ EBox.new w5 _ _ _ _)
    have HF6 := toHid8 (HF3.out.then7 (f5.then7 F6))
    have HB6 := toHid8 (HB3.out.kept (f5.then7 F6))
    have HS6 := toHid8 (HS5.out.kept F6)
    obtain ⟨x0, x1, x2, x3⟩ := HBX.out.cells
    clear q4 f5 F6 p0 p1 p2 p3 p4 p5 p6 HS5 hnl
    obtain ⟨p0, p1, p2, p3, p4, p5, p6⟩ := HB6.out.cells
    by_cases hK : K = 3
    · subst hK
      have q5 := echildren_any va n c L p.path w6 HLen.out (HE.out w6 HF6.out) (by omega) HSE.out
      obtain ⟨N, hN⟩ : ∃ N, (children L (bl p.path)).length = N := ⟨_, rfl⟩
      have HNc := toHid8 hN
      clear hN
      go_wp2_with fail
      with_reducible refine q5.mono ?_
      rintro e w7 ⟨v7, V7, rfl, O7, f7⟩
      obtain ⟨v8, c8, rfl, _⟩ := O7.slice f7
      have HF7 := toHid8 (HF6.out.then7 f7)
      obtain ⟨x0', x1', x2', x3'⟩ := (HBX.out.kept f7).cells
      have HB7 := toHid8 (HB6.out.kept f7)
      rw [HNc.out]
      clear q5 f7 O7 x0 x1 x2 x3 p0 p1 p2 p3 p4 p5 p6
      obtain ⟨p0, p1, p2, p3, p4, p5, p6⟩ := HB7.out.cells
      by_cases hN0 : N = 0
      · subst hN0
        by_cases hl0 : nl = 0
        · subst hl0
          by_cases hd0 : Da.size = 0
          · have hde := empty_of hd0
            have HEq := toHid8 (HA3.out _ HFr.out rfl ⟨HNl.out, hde, HNc.out⟩)
            rw [hde] at x3'
            have q6 := vwithout_any va n c L p.path w7 w7 HLen.out (HE.out w7 HF7.out) (Fr.refl _ _) (by omega)
            clear hde hd0
            go_wp2_with fail
            with_reducible refine q6.mono ?_
            rintro e w8 ⟨v9, V9, rfl, O9, f9⟩
            obtain ⟨va9, c9, rfl, _, hc9, E9, _⟩ := O9.slice f9
            have HF8 := toHid8 (HF7.out.then7 f9)
            have HE9 := toHid8 E9
            have HC9 := toHid8 hc9
            clear q6 O9 f9 E9 hc9
            go_wp2_with fail
            go_ret2
            rw [HEq.out]
            exact ⟨va9, c9, rfl, HE9, HC9, HF8.out⟩
          · have yd := isEmpty_no hd0
            have HEq := toHid8 (HA2.out _ HFr.out rfl (fun e => hd0 (congrArg ByteArray.size (show Da = ⟨#[]⟩ from e.2.1))))
            go_wp2_with fail
            go_ret2
            rw [HEq.out]
            exact ⟨none, 0, rfl, (fun j x hj => by simp at hj), fun _ => rfl, HF7.out⟩
        · have j2 : (0 : Int) < (nl : Int) := by omega
          have HEq := toHid8 (HA2.out _ HFr.out rfl (fun e => hl0 (by rw [← HNl.out]; exact e.1)))
          go_wp2_with fail
          go_ret2
          rw [HEq.out]
          exact ⟨none, 0, rfl, (fun j x hj => by simp at hj), fun _ => rfl, HF7.out⟩
      · have j2 : (0 : Int) < (N : Int) := by omega
        have HEq := toHid8 (HA2.out _ HFr.out rfl (fun e => hN0 (by rw [← HNc.out]; exact e.2.2)))
        go_wp2_with fail
        go_ret2
        rw [HEq.out]
        exact ⟨none, 0, rfl, (fun j x hj => by simp at hj), fun _ => rfl, HF7.out⟩
    · have hK2 : (K == 3) = false := by simpa using hK
      have HEq := toHid8 (HA1.out _ HFr.out hK)
      go_wp2_with fail
      go_ret2
      rw [HEq.out]
      exact ⟨none, 0, rfl, (fun j x hj => by simp at hj), fun _ => rfl, HF6.out⟩

set_option maxHeartbeats 8000000 in
theorem vapply_7 (va : Option Addr) (n c : Nat) (L : List En) (p : Pr) (vo vn : Value) (w : World) (hl : L.length = n) (h : EntsAt w va L) (hT : treeRight L = true) (hR : rightP p = true) (hk : p.kind = 7) (hs : SmallE L) (hB : LnDoc L) (hp : SmPr p) (ho : StrsAt w vo p.old) (hn : StrsAt w vn p.new) :
    Calls Tryz.prog 13 #[.slice va n c, .agg #[.int .i64 7, .string p.path, .string p.dst, .string p.src, .int .i64 p.pos, vo, vn]] w fun e w' => ApplyPost8 (allE L [p]) w e w' := by
  obtain ⟨pa, ca, rfl, ho'⟩ := ho
  obtain ⟨pb, cb, rfl, hn'⟩ := hn
  have hTR := (treeR L).1 hT
  have hn9 : n ≤ 1024 := by have := hTR.len; omega
  have HA0 := toHid8 (show findE L (bl p.path) = none → allE L [p] = ([], 72, 0) from fun e => by
    rw [all_act hT hR (show actE L p = (L, 72) from by unfold actE hasE; rw [if_neg (by omega), if_neg (by omega), if_neg (by omega), e]; rfl)]; rfl)
  have HA1 := toHid8 (show ∀ x, findE L (bl p.path) = some x → x.kind ≠ 2 → allE L [p] = ([], 73, 0) from fun x e e2 => by
    rw [all_act hT hR (show actE L p = (L, 73) from by unfold actE; rw [if_neg (by omega), if_neg (by omega), if_neg (by omega), show (if p.kind = 9 then (3 : Int) else 2) = 2 from by rw [hk]; rfl]; unfold hasE; rw [e]; simp only [if_neg e2]; rfl)]; rfl)
  have HA2 := toHid8 (show ∀ x, findE L (bl p.path) = some x → x.kind = 2 → withE x p = none → allE L [p] = ([], 81, 0) from fun x e e2 e3 => by
    rw [all_act hT hR (show actE L p = (L, 81) from by
      unfold actE
      rw [if_neg (by omega), if_neg (by omega), if_neg (by omega), show (if p.kind = 9 then (3 : Int) else 2) = 2 from by rw [hk]; rfl]
      unfold hasE
      rw [e]
      simp only [if_pos e2, e3]
      rfl)]; rfl)
  have HA3 := toHid8 (show ∀ x y, findE L (bl p.path) = some x → x.kind = 2 → withE x p = some y → allE L [p] = (putE L y, 0, 0) from fun x y e e2 e3 => by
    rw [all_act hT hR (show actE L p = (putE L y, 0) from by
      unfold actE
      rw [if_neg (by omega), if_neg (by omega), if_neg (by omega), show (if p.kind = 9 then (3 : Int) else 2) = 2 from by rw [hk]; rfl]
      unfold hasE
      rw [e]
      simp only [if_pos e2, e3]
      rfl)]; rfl)
  have HE := toHid8 (show ∀ w', Fr None' w w' → EntsAt w' va L from fun w' f => h.kept f)
  have HO := toHid8 (show ∀ w', Fr None' w w' → StrsAt w' (.slice pa p.old.length ca) p.old from fun w' f => StrsAt.kept ⟨pa, ca, rfl, ho'⟩ f)
  have HN := toHid8 (show ∀ w', Fr None' w w' → StrsAt w' (.slice pb p.new.length cb) p.new from fun w' f => StrsAt.kept ⟨pb, cb, rfl, hn'⟩ f)
  have HLen := toHid8 hl
  have HSp := toHid8 hp
  have HSt := toHid8 hTR.strict
  obtain ⟨w1, hw1⟩ : ∃ w1, w.alloc (.cells #[.int .i64 7, .string p.path, .string p.dst, .string p.src, .int .i64 p.pos, .slice pa p.old.length ca, .slice pb p.new.length cb] 25) = w1 := ⟨_, rfl⟩
  have HF1 := toHid8 (show Fr None' w w1 from hw1 ▸ Fr.alloc None' w _)
  have HB1 := toHid8 (show Box w1 w.heap.size (.int .i64 7) (.string p.path) (.string p.dst) (.string p.src) (.int .i64 p.pos) (.slice pa p.old.length ca) (.slice pb p.new.length cb) from hw1 ▸ Box.new w _ _ _ _ _ _ _)
  have q1 := eright_any va n c L w1 hl (HE.out w1 HF1.out) (by omega) hs
  rw [hT] at q1
  have HQ2 := toHid8 (fun w' (f : Fr None' w w') => dright_any p _ _ w' (HO.out w' f) (HN.out w' f) (smallP_of hp) (linesSmall_of hp))
  rw [hR, hk] at HQ2
  have HSE := toHid8 hs
  have HKd := toHid8 hk
  have HBx := toHid8 hB
  have HPos := toHid8 (lines_pos hR hk)
  have i1 : (n : Int) ≤ 1024 := by omega
  clear h hl hT hk hp hTR ho' hn' hs hR hB
  go_enter Tryz.func13, Tryz.ntmps13
  go_wp2_with fail
  with_reducible refine q1.mono ?_
  rintro e w2 ⟨rfl, f2⟩
  have HF2 := toHid8 (HF1.out.then7 f2)
  have HB2 := toHid8 (HB1.out.kept f2)
  obtain ⟨p0, p1, p2, p3, p4, p5, p6⟩ := HB2.out.cells
  have q2 := HQ2.out w2 HF2.out
  clear q1 f2
  go_wp2_with fail
  with_reducible refine q2.mono ?_
  rintro e w3 ⟨rfl, f3⟩
  have HF3 := toHid8 (HF2.out.then7 f3)
  have HB3 := toHid8 (HB2.out.kept f3)
  clear q2 f3 p0 p1 p2 p3 p4 p5 p6
  obtain ⟨p0, p1, p2, p3, p4, p5, p6⟩ := HB3.out.cells
  have q3 := vkind_any 7 w3 (by decide)
  rw [show (if (7 : Int) = 1 ∨ (7 : Int) = 2 then (1 : Int) else if (7 : Int) = 5 ∨ (7 : Int) = 6 ∨ (7 : Int) = 9 then 3 else 2) = 2 from by decide] at q3
  go_wp2_with fail
  with_reducible refine q3.mono ?_
  rintro e w4 ⟨rfl, hw4⟩
  rw [hw4]
  clear q3 hw4
  have q4 := efind_any va n c L p.path w3 HLen.out (HE.out w3 HF3.out) (by omega)
  obtain ⟨r, hr⟩ : ∃ r, findE L (bl p.path) = r := ⟨_, rfl⟩
  rw [hr] at q4
  have HFr := toHid8 hr
  clear hr
  cases r with
  | none =>
    have HEq := toHid8 (HA0.out HFr.out)
    unfold FindPost at q4
    simp only at q4
    go_wp2_with fail
    with_reducible refine q4.mono ?_
    rintro e w5 ⟨f5, rfl⟩
    have HF5 := toHid8 (HF3.out.then7 (f5.then7 (Fr.alloc None' w5 (.cells #[.string ⟨#[]⟩, .int .i64 0, .slice none 0 0, .string ⟨#[]⟩] 41))))
    clear q4 f5
    go_wp2_with fail
    go_ret2
    rw [HEq.out]
    exact ⟨none, 0, rfl, (fun j x hj => by simp at hj), fun _ => rfl, HF5.out⟩
  | some x =>
    unfold FindPost at q4
    simp only at q4
    have HXs := toHid8 (HSE.out x (find_some HFr.out).1)
    have HXl := toHid8 (HBx.out x (find_some HFr.out).1)
    obtain ⟨P, K, l, Da⟩ := x
    simp only at q4 HXs HXl
    go_wp2_with fail
    with_reducible refine q4.mono ?_
    rintro e w5 ⟨f5, vl, rfl, hs5⟩
    have HS5 := toHid8 hs5
    obtain ⟨pl, cl, rfl, _⟩ := hs5
    obtain ⟨nl, hnl⟩ : ∃ m, l.length = m := ⟨_, rfl⟩
    have HNl := toHid8 hnl
    rw [hnl] at HS5 ⊢
    obtain ⟨w6, hw6⟩ : ∃ x, w5.alloc (.cells #[.string P, .int .i64 K, .slice pl nl cl, .string Da] 41) = x := ⟨_, rfl⟩
    have F6 : Fr None' w5 w6 := hw6 ▸ Fr.alloc None' w5 _
    have HBX := toHid8 (show EBox w6 w5.heap.size (.string P) (.int .i64 K) (.slice pl nl cl) (.string Da) from hw6 ▸ EBox.new w5 _ _ _ _)
    have HF6 := toHid8 (HF3.out.then7 (f5.then7 F6))
    have HB6 := toHid8 (HB3.out.kept (f5.then7 F6))
    have HS6 := toHid8 (HS5.out.kept F6)
    obtain ⟨x0, x1, x2, x3⟩ := HBX.out.cells
    clear q4 f5 F6 p0 p1 p2 p3 p4 p5 p6 HS5 hnl
    obtain ⟨p0, p1, p2, p3, p4, p5, p6⟩ := HB6.out.cells
    by_cases hK : K = 2
    · subst hK
      have q5 := vchange_7 ⟨P, 2, l, Da⟩ p pl nl cl _ _ w6 HS6.out (HO.out w6 HF6.out) (HN.out w6 HF6.out) HKd.out (by have := HXl.out.1; simpa using this) (by have := HSp.out.old; omega) (by have := HSp.out.new; omega) HPos.out
      rw [HKd.out] at q5
      obtain ⟨r, hr⟩ : ∃ r, withE ⟨P, 2, l, Da⟩ p = r := ⟨_, rfl⟩
      rw [hr] at q5
      have HWr := toHid8 hr
      clear hr
      unfold WithPost at q5
      go_wp2_with fail
      with_reducible refine q5.mono ?_
      rintro e w7 ⟨P7, K7, ua7, um7, uc7, D7, b7, rfl, Hb7, HY7, f7⟩
      obtain ⟨w8, hw8⟩ : ∃ x, w7.alloc (.cells #[.string P7, .int .i64 K7, .slice ua7 um7 uc7, .string D7] 41) = x := ⟨_, rfl⟩
      have F8 : Fr None' w7 w8 := hw8 ▸ Fr.alloc None' w7 _
      have HF8 := toHid8 (HF6.out.then7 (f7.then7 F8))
      have F8' := toHid8 F8
      obtain ⟨y0, y1, y2, y3⟩ := (hw8 ▸ EBox.new w7 _ _ _ _ : EBox w8 w7.heap.size (.string P7) (.int .i64 K7) (.slice ua7 um7 uc7) (.string D7)).cells
      clear q5 f7 F8 x0 x1 x2 x3 p0 p1 p2 p3 p4 p5 p6
      cases b7 with
      | false =>
        have HEq := toHid8 (HA2.out _ HFr.out rfl (by
          cases r with
          | none => exact HWr.out
          | some y => have := Hb7.out; cases this))
        go_wp2_with fail
        go_ret2
        rw [HEq.out]
        exact ⟨none, 0, rfl, (fun j x hj => by simp at hj), fun _ => rfl, HF8.out⟩
      | true =>
        cases r with
        | none => have := Hb7.out; cases this
        | some y =>
          obtain ⟨rfl, rfl, rfl, hy4⟩ := HY7.out y rfl
          have HEq := toHid8 (HA3.out _ y HFr.out rfl HWr.out)
          have q6 := vput_any va n c L y (.slice ua7 um7 uc7) w8 HLen.out (HE.out w8 HF8.out) (by omega) (hy4.kept F8'.out) HSt.out
          unfold RowPost at q6
          go_wp2_with fail
          with_reducible refine q6.mono ?_
          rintro e w9 ⟨v9, c9, rfl, HE9, HC9, f9⟩
          have HF9 := toHid8 (HF8.out.then7 f9)
          clear q6 f9
          go_wp2_with fail
          go_ret2
          rw [HEq.out]
          exact ⟨v9, c9, rfl, HE9, HC9, HF9.out⟩
    · have hK2 : (K == 2) = false := by simpa using hK
      have HEq := toHid8 (HA1.out _ HFr.out hK)
      go_wp2_with fail
      go_ret2
      rw [HEq.out]
      exact ⟨none, 0, rfl, (fun j x hj => by simp at hj), fun _ => rfl, HF6.out⟩

set_option maxHeartbeats 8000000 in
theorem vapply_8 (va : Option Addr) (n c : Nat) (L : List En) (p : Pr) (vo vn : Value) (w : World) (hl : L.length = n) (h : EntsAt w va L) (hT : treeRight L = true) (hR : rightP p = true) (hk : p.kind = 8) (hs : SmallE L) (hB : LnDoc L) (hp : SmPr p) (ho : StrsAt w vo p.old) (hn : StrsAt w vn p.new) :
    Calls Tryz.prog 13 #[.slice va n c, .agg #[.int .i64 8, .string p.path, .string p.dst, .string p.src, .int .i64 p.pos, vo, vn]] w fun e w' => ApplyPost8 (allE L [p]) w e w' := by
  obtain ⟨pa, ca, rfl, ho'⟩ := ho
  obtain ⟨pb, cb, rfl, hn'⟩ := hn
  have hTR := (treeR L).1 hT
  have hn9 : n ≤ 1024 := by have := hTR.len; omega
  have HA0 := toHid8 (show findE L (bl p.path) = none → allE L [p] = ([], 72, 0) from fun e => by
    rw [all_act hT hR (show actE L p = (L, 72) from by unfold actE hasE; rw [if_neg (by omega), if_neg (by omega), if_neg (by omega), e]; rfl)]; rfl)
  have HA1 := toHid8 (show ∀ x, findE L (bl p.path) = some x → x.kind ≠ 2 → allE L [p] = ([], 73, 0) from fun x e e2 => by
    rw [all_act hT hR (show actE L p = (L, 73) from by unfold actE; rw [if_neg (by omega), if_neg (by omega), if_neg (by omega), show (if p.kind = 9 then (3 : Int) else 2) = 2 from by rw [hk]; rfl]; unfold hasE; rw [e]; simp only [if_neg e2]; rfl)]; rfl)
  have HA2 := toHid8 (show ∀ x, findE L (bl p.path) = some x → x.kind = 2 → withE x p = none → allE L [p] = ([], 81, 0) from fun x e e2 e3 => by
    rw [all_act hT hR (show actE L p = (L, 81) from by
      unfold actE
      rw [if_neg (by omega), if_neg (by omega), if_neg (by omega), show (if p.kind = 9 then (3 : Int) else 2) = 2 from by rw [hk]; rfl]
      unfold hasE
      rw [e]
      simp only [if_pos e2, e3]
      rfl)]; rfl)
  have HA3 := toHid8 (show ∀ x y, findE L (bl p.path) = some x → x.kind = 2 → withE x p = some y → allE L [p] = (putE L y, 0, 0) from fun x y e e2 e3 => by
    rw [all_act hT hR (show actE L p = (putE L y, 0) from by
      unfold actE
      rw [if_neg (by omega), if_neg (by omega), if_neg (by omega), show (if p.kind = 9 then (3 : Int) else 2) = 2 from by rw [hk]; rfl]
      unfold hasE
      rw [e]
      simp only [if_pos e2, e3]
      rfl)]; rfl)
  have HE := toHid8 (show ∀ w', Fr None' w w' → EntsAt w' va L from fun w' f => h.kept f)
  have HO := toHid8 (show ∀ w', Fr None' w w' → StrsAt w' (.slice pa p.old.length ca) p.old from fun w' f => StrsAt.kept ⟨pa, ca, rfl, ho'⟩ f)
  have HN := toHid8 (show ∀ w', Fr None' w w' → StrsAt w' (.slice pb p.new.length cb) p.new from fun w' f => StrsAt.kept ⟨pb, cb, rfl, hn'⟩ f)
  have HLen := toHid8 hl
  have HSp := toHid8 hp
  have HSt := toHid8 hTR.strict
  obtain ⟨w1, hw1⟩ : ∃ w1, w.alloc (.cells #[.int .i64 8, .string p.path, .string p.dst, .string p.src, .int .i64 p.pos, .slice pa p.old.length ca, .slice pb p.new.length cb] 25) = w1 := ⟨_, rfl⟩
  have HF1 := toHid8 (show Fr None' w w1 from hw1 ▸ Fr.alloc None' w _)
  have HB1 := toHid8 (show Box w1 w.heap.size (.int .i64 8) (.string p.path) (.string p.dst) (.string p.src) (.int .i64 p.pos) (.slice pa p.old.length ca) (.slice pb p.new.length cb) from hw1 ▸ Box.new w _ _ _ _ _ _ _)
  have q1 := eright_any va n c L w1 hl (HE.out w1 HF1.out) (by omega) hs
  rw [hT] at q1
  have HQ2 := toHid8 (fun w' (f : Fr None' w w') => dright_any p _ _ w' (HO.out w' f) (HN.out w' f) (smallP_of hp) (linesSmall_of hp))
  rw [hR, hk] at HQ2
  have HSE := toHid8 hs
  have HKd := toHid8 hk
  have HBx := toHid8 hB
  have i1 : (n : Int) ≤ 1024 := by omega
  clear h hl hT hk hp hTR ho' hn' hs hR hB
  go_enter Tryz.func13, Tryz.ntmps13
  go_wp2_with fail
  with_reducible refine q1.mono ?_
  rintro e w2 ⟨rfl, f2⟩
  have HF2 := toHid8 (HF1.out.then7 f2)
  have HB2 := toHid8 (HB1.out.kept f2)
  obtain ⟨p0, p1, p2, p3, p4, p5, p6⟩ := HB2.out.cells
  have q2 := HQ2.out w2 HF2.out
  clear q1 f2
  go_wp2_with fail
  with_reducible refine q2.mono ?_
  rintro e w3 ⟨rfl, f3⟩
  have HF3 := toHid8 (HF2.out.then7 f3)
  have HB3 := toHid8 (HB2.out.kept f3)
  clear q2 f3 p0 p1 p2 p3 p4 p5 p6
  obtain ⟨p0, p1, p2, p3, p4, p5, p6⟩ := HB3.out.cells
  have q3 := vkind_any 8 w3 (by decide)
  rw [show (if (8 : Int) = 1 ∨ (8 : Int) = 2 then (1 : Int) else if (8 : Int) = 5 ∨ (8 : Int) = 6 ∨ (8 : Int) = 9 then 3 else 2) = 2 from by decide] at q3
  go_wp2_with fail
  with_reducible refine q3.mono ?_
  rintro e w4 ⟨rfl, hw4⟩
  rw [hw4]
  clear q3 hw4
  have q4 := efind_any va n c L p.path w3 HLen.out (HE.out w3 HF3.out) (by omega)
  obtain ⟨r, hr⟩ : ∃ r, findE L (bl p.path) = r := ⟨_, rfl⟩
  rw [hr] at q4
  have HFr := toHid8 hr
  clear hr
  cases r with
  | none =>
    have HEq := toHid8 (HA0.out HFr.out)
    unfold FindPost at q4
    simp only at q4
    go_wp2_with fail
    with_reducible refine q4.mono ?_
    rintro e w5 ⟨f5, rfl⟩
    have HF5 := toHid8 (HF3.out.then7 (f5.then7 (Fr.alloc None' w5 (.cells #[.string ⟨#[]⟩, .int .i64 0, .slice none 0 0, .string ⟨#[]⟩] 41))))
    clear q4 f5
    go_wp2_with fail
    go_ret2
    rw [HEq.out]
    exact ⟨none, 0, rfl, (fun j x hj => by simp at hj), fun _ => rfl, HF5.out⟩
  | some x =>
    unfold FindPost at q4
    simp only at q4
    have HXs := toHid8 (HSE.out x (find_some HFr.out).1)
    have HXl := toHid8 (HBx.out x (find_some HFr.out).1)
    obtain ⟨P, K, l, Da⟩ := x
    simp only at q4 HXs HXl
    go_wp2_with fail
    with_reducible refine q4.mono ?_
    rintro e w5 ⟨f5, vl, rfl, hs5⟩
    have HS5 := toHid8 hs5
    obtain ⟨pl, cl, rfl, _⟩ := hs5
    obtain ⟨nl, hnl⟩ : ∃ m, l.length = m := ⟨_, rfl⟩
    have HNl := toHid8 hnl
    rw [hnl] at HS5 ⊢
    obtain ⟨w6, hw6⟩ : ∃ x, w5.alloc (.cells #[.string P, .int .i64 K, .slice pl nl cl, .string Da] 41) = x := ⟨_, rfl⟩
    have F6 : Fr None' w5 w6 := hw6 ▸ Fr.alloc None' w5 _
    have HBX := toHid8 (show EBox w6 w5.heap.size (.string P) (.int .i64 K) (.slice pl nl cl) (.string Da) from hw6 ▸ EBox.new w5 _ _ _ _)
    have HF6 := toHid8 (HF3.out.then7 (f5.then7 F6))
    have HB6 := toHid8 (HB3.out.kept (f5.then7 F6))
    have HS6 := toHid8 (HS5.out.kept F6)
    obtain ⟨x0, x1, x2, x3⟩ := HBX.out.cells
    clear q4 f5 F6 p0 p1 p2 p3 p4 p5 p6 HS5 hnl
    obtain ⟨p0, p1, p2, p3, p4, p5, p6⟩ := HB6.out.cells
    by_cases hK : K = 2
    · subst hK
      have q5 := vchange_8 ⟨P, 2, l, Da⟩ p pl nl cl _ _ w6 HS6.out (HO.out w6 HF6.out) (HN.out w6 HF6.out) HKd.out (by have := HXl.out.1; simp only at this ⊢; omega) HXl.out.2 ⟨by have := HSp.out.src; omega, by have := HSp.out.dst; omega⟩
      rw [HKd.out] at q5
      obtain ⟨r, hr⟩ : ∃ r, withE ⟨P, 2, l, Da⟩ p = r := ⟨_, rfl⟩
      rw [hr] at q5
      have HWr := toHid8 hr
      clear hr
      unfold WithPost at q5
      go_wp2_with fail
      with_reducible refine q5.mono ?_
      rintro e w7 ⟨P7, K7, ua7, um7, uc7, D7, b7, rfl, Hb7, HY7, f7⟩
      obtain ⟨w8, hw8⟩ : ∃ x, w7.alloc (.cells #[.string P7, .int .i64 K7, .slice ua7 um7 uc7, .string D7] 41) = x := ⟨_, rfl⟩
      have F8 : Fr None' w7 w8 := hw8 ▸ Fr.alloc None' w7 _
      have HF8 := toHid8 (HF6.out.then7 (f7.then7 F8))
      have F8' := toHid8 F8
      obtain ⟨y0, y1, y2, y3⟩ := (hw8 ▸ EBox.new w7 _ _ _ _ : EBox w8 w7.heap.size (.string P7) (.int .i64 K7) (.slice ua7 um7 uc7) (.string D7)).cells
      clear q5 f7 F8 x0 x1 x2 x3 p0 p1 p2 p3 p4 p5 p6
      cases b7 with
      | false =>
        have HEq := toHid8 (HA2.out _ HFr.out rfl (by
          cases r with
          | none => exact HWr.out
          | some y => have := Hb7.out; cases this))
        go_wp2_with fail
        go_ret2
        rw [HEq.out]
        exact ⟨none, 0, rfl, (fun j x hj => by simp at hj), fun _ => rfl, HF8.out⟩
      | true =>
        cases r with
        | none => have := Hb7.out; cases this
        | some y =>
          obtain ⟨rfl, rfl, rfl, hy4⟩ := HY7.out y rfl
          have HEq := toHid8 (HA3.out _ y HFr.out rfl HWr.out)
          have q6 := vput_any va n c L y (.slice ua7 um7 uc7) w8 HLen.out (HE.out w8 HF8.out) (by omega) (hy4.kept F8'.out) HSt.out
          unfold RowPost at q6
          go_wp2_with fail
          with_reducible refine q6.mono ?_
          rintro e w9 ⟨v9, c9, rfl, HE9, HC9, f9⟩
          have HF9 := toHid8 (HF8.out.then7 f9)
          clear q6 f9
          go_wp2_with fail
          go_ret2
          rw [HEq.out]
          exact ⟨v9, c9, rfl, HE9, HC9, HF9.out⟩
    · have hK2 : (K == 2) = false := by simpa using hK
      have HEq := toHid8 (HA1.out _ HFr.out hK)
      go_wp2_with fail
      go_ret2
      rw [HEq.out]
      exact ⟨none, 0, rfl, (fun j x hj => by simp at hj), fun _ => rfl, HF6.out⟩

set_option maxHeartbeats 8000000 in
theorem vapply_9 (va : Option Addr) (n c : Nat) (L : List En) (p : Pr) (vo vn : Value) (w : World) (hl : L.length = n) (h : EntsAt w va L) (hT : treeRight L = true) (hR : rightP p = true) (hk : p.kind = 9) (hs : SmallE L) (hp : SmPr p) (ho : StrsAt w vo p.old) (hn : StrsAt w vn p.new) :
    Calls Tryz.prog 13 #[.slice va n c, .agg #[.int .i64 9, .string p.path, .string p.dst, .string p.src, .int .i64 p.pos, vo, vn]] w fun e w' => ApplyPost8 (allE L [p]) w e w' := by
  obtain ⟨pa, ca, rfl, ho'⟩ := ho
  obtain ⟨pb, cb, rfl, hn'⟩ := hn
  have hTR := (treeR L).1 hT
  have hn9 : n ≤ 1024 := by have := hTR.len; omega
  have HA0 := toHid8 (show findE L (bl p.path) = none → allE L [p] = ([], 72, 0) from fun e => by
    rw [all_act hT hR (show actE L p = (L, 72) from by unfold actE hasE; rw [if_neg (by omega), if_neg (by omega), if_neg (by omega), e]; rfl)]; rfl)
  have HA1 := toHid8 (show ∀ x, findE L (bl p.path) = some x → x.kind ≠ 3 → allE L [p] = ([], 73, 0) from fun x e e2 => by
    rw [all_act hT hR (show actE L p = (L, 73) from by unfold actE; rw [if_neg (by omega), if_neg (by omega), if_neg (by omega), show (if p.kind = 9 then (3 : Int) else 2) = 3 from by rw [hk]; rfl]; unfold hasE; rw [e]; simp only [if_neg e2]; rfl)]; rfl)
  have HA2 := toHid8 (show ∀ x, findE L (bl p.path) = some x → x.kind = 3 → withE x p = none → allE L [p] = ([], 81, 0) from fun x e e2 e3 => by
    rw [all_act hT hR (show actE L p = (L, 81) from by
      unfold actE
      rw [if_neg (by omega), if_neg (by omega), if_neg (by omega), show (if p.kind = 9 then (3 : Int) else 2) = 3 from by rw [hk]; rfl]
      unfold hasE
      rw [e]
      simp only [if_pos e2, e3]
      rfl)]; rfl)
  have HA3 := toHid8 (show ∀ x y, findE L (bl p.path) = some x → x.kind = 3 → withE x p = some y → allE L [p] = (putE L y, 0, 0) from fun x y e e2 e3 => by
    rw [all_act hT hR (show actE L p = (putE L y, 0) from by
      unfold actE
      rw [if_neg (by omega), if_neg (by omega), if_neg (by omega), show (if p.kind = 9 then (3 : Int) else 2) = 3 from by rw [hk]; rfl]
      unfold hasE
      rw [e]
      simp only [if_pos e2, e3]
      rfl)]; rfl)
  have HE := toHid8 (show ∀ w', Fr None' w w' → EntsAt w' va L from fun w' f => h.kept f)
  have HO := toHid8 (show ∀ w', Fr None' w w' → StrsAt w' (.slice pa p.old.length ca) p.old from fun w' f => StrsAt.kept ⟨pa, ca, rfl, ho'⟩ f)
  have HN := toHid8 (show ∀ w', Fr None' w w' → StrsAt w' (.slice pb p.new.length cb) p.new from fun w' f => StrsAt.kept ⟨pb, cb, rfl, hn'⟩ f)
  have HLen := toHid8 hl
  have HSp := toHid8 hp
  have HSt := toHid8 hTR.strict
  obtain ⟨w1, hw1⟩ : ∃ w1, w.alloc (.cells #[.int .i64 9, .string p.path, .string p.dst, .string p.src, .int .i64 p.pos, .slice pa p.old.length ca, .slice pb p.new.length cb] 25) = w1 := ⟨_, rfl⟩
  have HF1 := toHid8 (show Fr None' w w1 from hw1 ▸ Fr.alloc None' w _)
  have HB1 := toHid8 (show Box w1 w.heap.size (.int .i64 9) (.string p.path) (.string p.dst) (.string p.src) (.int .i64 p.pos) (.slice pa p.old.length ca) (.slice pb p.new.length cb) from hw1 ▸ Box.new w _ _ _ _ _ _ _)
  have q1 := eright_any va n c L w1 hl (HE.out w1 HF1.out) (by omega) hs
  rw [hT] at q1
  have HQ2 := toHid8 (fun w' (f : Fr None' w w') => dright_any p _ _ w' (HO.out w' f) (HN.out w' f) (smallP_of hp) (linesSmall_of hp))
  rw [hR, hk] at HQ2
  have HSE := toHid8 hs
  have HKd := toHid8 hk
  have i1 : (n : Int) ≤ 1024 := by omega
  clear h hl hT hk hp hTR ho' hn' hs hR
  go_enter Tryz.func13, Tryz.ntmps13
  go_wp2_with fail
  with_reducible refine q1.mono ?_
  rintro e w2 ⟨rfl, f2⟩
  have HF2 := toHid8 (HF1.out.then7 f2)
  have HB2 := toHid8 (HB1.out.kept f2)
  obtain ⟨p0, p1, p2, p3, p4, p5, p6⟩ := HB2.out.cells
  have q2 := HQ2.out w2 HF2.out
  clear q1 f2
  go_wp2_with fail
  with_reducible refine q2.mono ?_
  rintro e w3 ⟨rfl, f3⟩
  have HF3 := toHid8 (HF2.out.then7 f3)
  have HB3 := toHid8 (HB2.out.kept f3)
  clear q2 f3 p0 p1 p2 p3 p4 p5 p6
  obtain ⟨p0, p1, p2, p3, p4, p5, p6⟩ := HB3.out.cells
  have q3 := vkind_any 9 w3 (by decide)
  rw [show (if (9 : Int) = 1 ∨ (9 : Int) = 2 then (1 : Int) else if (9 : Int) = 5 ∨ (9 : Int) = 6 ∨ (9 : Int) = 9 then 3 else 2) = 3 from by decide] at q3
  go_wp2_with fail
  with_reducible refine q3.mono ?_
  rintro e w4 ⟨rfl, hw4⟩
  rw [hw4]
  clear q3 hw4
  have q4 := efind_any va n c L p.path w3 HLen.out (HE.out w3 HF3.out) (by omega)
  obtain ⟨r, hr⟩ : ∃ r, findE L (bl p.path) = r := ⟨_, rfl⟩
  rw [hr] at q4
  have HFr := toHid8 hr
  clear hr
  cases r with
  | none =>
    have HEq := toHid8 (HA0.out HFr.out)
    unfold FindPost at q4
    simp only at q4
    go_wp2_with fail
    with_reducible refine q4.mono ?_
    rintro e w5 ⟨f5, rfl⟩
    have HF5 := toHid8 (HF3.out.then7 (f5.then7 (Fr.alloc None' w5 (.cells #[.string ⟨#[]⟩, .int .i64 0, .slice none 0 0, .string ⟨#[]⟩] 41))))
    clear q4 f5
    go_wp2_with fail
    go_ret2
    rw [HEq.out]
    exact ⟨none, 0, rfl, (fun j x hj => by simp at hj), fun _ => rfl, HF5.out⟩
  | some x =>
    unfold FindPost at q4
    simp only at q4
    have HXs := toHid8 (HSE.out x (find_some HFr.out).1)
    obtain ⟨P, K, l, Da⟩ := x
    simp only at q4 HXs
    go_wp2_with fail
    with_reducible refine q4.mono ?_
    rintro e w5 ⟨f5, vl, rfl, hs5⟩
    have HS5 := toHid8 hs5
    obtain ⟨pl, cl, rfl, _⟩ := hs5
    obtain ⟨nl, hnl⟩ : ∃ m, l.length = m := ⟨_, rfl⟩
    have HNl := toHid8 hnl
    rw [hnl] at HS5 ⊢
    obtain ⟨w6, hw6⟩ : ∃ x, w5.alloc (.cells #[.string P, .int .i64 K, .slice pl nl cl, .string Da] 41) = x := ⟨_, rfl⟩
    have F6 : Fr None' w5 w6 := hw6 ▸ Fr.alloc None' w5 _
    have HBX := toHid8 (show EBox w6 w5.heap.size (.string P) (.int .i64 K) (.slice pl nl cl) (.string Da) from hw6 ▸ EBox.new w5 _ _ _ _)
    have HF6 := toHid8 (HF3.out.then7 (f5.then7 F6))
    have HB6 := toHid8 (HB3.out.kept (f5.then7 F6))
    have HS6 := toHid8 (HS5.out.kept F6)
    obtain ⟨x0, x1, x2, x3⟩ := HBX.out.cells
    clear q4 f5 F6 p0 p1 p2 p3 p4 p5 p6 HS5 hnl
    obtain ⟨p0, p1, p2, p3, p4, p5, p6⟩ := HB6.out.cells
    by_cases hK : K = 3
    · subst hK
      have q5 := vchange_9 ⟨P, 3, l, Da⟩ p pl nl cl _ _ w6 HS6.out (HO.out w6 HF6.out) (HN.out w6 HF6.out) HKd.out
      rw [HKd.out] at q5
      obtain ⟨r, hr⟩ : ∃ r, withE ⟨P, 3, l, Da⟩ p = r := ⟨_, rfl⟩
      rw [hr] at q5
      have HWr := toHid8 hr
      clear hr
      unfold WithPost at q5
      go_wp2_with fail
      with_reducible refine q5.mono ?_
      rintro e w7 ⟨P7, K7, ua7, um7, uc7, D7, b7, rfl, Hb7, HY7, f7⟩
      obtain ⟨w8, hw8⟩ : ∃ x, w7.alloc (.cells #[.string P7, .int .i64 K7, .slice ua7 um7 uc7, .string D7] 41) = x := ⟨_, rfl⟩
      have F8 : Fr None' w7 w8 := hw8 ▸ Fr.alloc None' w7 _
      have HF8 := toHid8 (HF6.out.then7 (f7.then7 F8))
      have F8' := toHid8 F8
      obtain ⟨y0, y1, y2, y3⟩ := (hw8 ▸ EBox.new w7 _ _ _ _ : EBox w8 w7.heap.size (.string P7) (.int .i64 K7) (.slice ua7 um7 uc7) (.string D7)).cells
      clear q5 f7 F8 x0 x1 x2 x3 p0 p1 p2 p3 p4 p5 p6
      cases b7 with
      | false =>
        have HEq := toHid8 (HA2.out _ HFr.out rfl (by
          cases r with
          | none => exact HWr.out
          | some y => have := Hb7.out; cases this))
        go_wp2_with fail
        go_ret2
        rw [HEq.out]
        exact ⟨none, 0, rfl, (fun j x hj => by simp at hj), fun _ => rfl, HF8.out⟩
      | true =>
        cases r with
        | none => have := Hb7.out; cases this
        | some y =>
          obtain ⟨rfl, rfl, rfl, hy4⟩ := HY7.out y rfl
          have HEq := toHid8 (HA3.out _ y HFr.out rfl HWr.out)
          have q6 := vput_any va n c L y (.slice ua7 um7 uc7) w8 HLen.out (HE.out w8 HF8.out) (by omega) (hy4.kept F8'.out) HSt.out
          unfold RowPost at q6
          go_wp2_with fail
          with_reducible refine q6.mono ?_
          rintro e w9 ⟨v9, c9, rfl, HE9, HC9, f9⟩
          have HF9 := toHid8 (HF8.out.then7 f9)
          clear q6 f9
          go_wp2_with fail
          go_ret2
          rw [HEq.out]
          exact ⟨v9, c9, rfl, HE9, HC9, HF9.out⟩
    · have hK2 : (K == 3) = false := by simpa using hK
      have HEq := toHid8 (HA1.out _ HFr.out hK)
      go_wp2_with fail
      go_ret2
      rw [HEq.out]
      exact ⟨none, 0, rfl, (fun j x hj => by simp at hj), fun _ => rfl, HF6.out⟩

end Go.Proofs.YtcpjneejlfgkeaaGreatDoor

namespace Go.Proofs.YtcpjneejlfgkeaaGreatDoor
open Go.RowKit
set_option maxRecDepth 100000

set_option maxHeartbeats 8000000 in
theorem vapply_no (va : Option Addr) (n c : Nat) (L : List En) (p : Pr) (vo vn : Value) (w : World) (hl : L.length = n) (h : EntsAt w va L) (hn9 : n ≤ 90000) (hs : SmallE L) (hp : SmPr p) (ho : StrsAt w vo p.old) (hn : StrsAt w vn p.new) (hNo : (treeRight L && rightP p) = false) :
    Calls Tryz.prog 13 #[.slice va n c, .agg #[.int .i64 p.kind, .string p.path, .string p.dst, .string p.src, .int .i64 p.pos, vo, vn]] w fun e w' => ApplyPost8 (allE L [p]) w e w' := by
  have HEq := toHid8 (show allE L [p] = ([], 1, 0) from by
    cases ht : treeRight L with
    | false => exact runE_bad ht
    | true =>
      rw [ht, Bool.true_and] at hNo
      rw [runE_good ht, runE]
      have hd : doE L p = (L, 1) := by unfold doE; rw [if_neg (by rw [hNo]; simp)]
      rw [hd]
      rfl)
  obtain ⟨pa, ca, rfl, ho'⟩ := ho
  obtain ⟨pb, cb, rfl, hn'⟩ := hn
  have HO := toHid8 (show ∀ w', Fr None' w w' → StrsAt w' (.slice pa p.old.length ca) p.old from fun w' f => StrsAt.kept ⟨pa, ca, rfl, ho'⟩ f)
  have HN := toHid8 (show ∀ w', Fr None' w w' → StrsAt w' (.slice pb p.new.length cb) p.new from fun w' f => StrsAt.kept ⟨pb, cb, rfl, hn'⟩ f)
  obtain ⟨w1, hw1⟩ : ∃ w1, w.alloc (.cells #[.int .i64 p.kind, .string p.path, .string p.dst, .string p.src, .int .i64 p.pos, .slice pa p.old.length ca, .slice pb p.new.length cb] 25) = w1 := ⟨_, rfl⟩
  have HF1 := toHid8 (show Fr None' w w1 from hw1 ▸ Fr.alloc None' w _)
  have HB1 := toHid8 (show Box w1 w.heap.size (.int .i64 p.kind) (.string p.path) (.string p.dst) (.string p.src) (.int .i64 p.pos) (.slice pa p.old.length ca) (.slice pb p.new.length cb) from hw1 ▸ Box.new w _ _ _ _ _ _ _)
  have q1 := eright_any va n c L w1 hl (h.kept HF1.out) (by omega) hs
  have HQ2 := toHid8 (fun w' (f : Fr None' w w') => dright_any p _ _ w' (HO.out w' f) (HN.out w' f) (smallP_of hp) (linesSmall_of hp))
  have HNo := toHid8 hNo
  clear h hl hs hp ho' hn' hNo
  obtain ⟨bt, hbt⟩ : ∃ b, treeRight L = b := ⟨_, rfl⟩
  obtain ⟨bp, hbp⟩ : ∃ b, rightP p = b := ⟨_, rfl⟩
  rw [hbt] at q1 HNo
  rw [hbp] at HQ2 HNo
  clear hbt hbp
  go_enter Tryz.func13, Tryz.ntmps13
  go_wp2_with fail
  with_reducible refine q1.mono ?_
  rintro e w2 ⟨rfl, f2⟩
  have HF2 := toHid8 (HF1.out.then7 f2)
  have HB2 := toHid8 (HB1.out.kept f2)
  obtain ⟨p0, p1, p2, p3, p4, p5, p6⟩ := HB2.out.cells
  have q2 := HQ2.out w2 HF2.out
  clear q1 f2
  cases bt with
  | false =>
    go_wp2_with fail
    go_ret2
    rw [HEq.out]
    exact ⟨none, 0, rfl, (fun j x hj => by simp at hj), fun _ => rfl, HF2.out⟩
  | true =>
    cases bp with
    | true => cases HNo.out
    | false =>
      go_wp2_with fail
      with_reducible refine q2.mono ?_
      rintro e w3 ⟨rfl, f3⟩
      have HF3 := toHid8 (HF2.out.then7 f3)
      clear q2 f3
      go_wp2_with fail
      go_ret2
      rw [HEq.out]
      exact ⟨none, 0, rfl, (fun j x hj => by simp at hj), fun _ => rfl, HF3.out⟩

set_option maxHeartbeats 8000000 in
theorem vapply_10 (va : Option Addr) (n c : Nat) (L : List En) (p : Pr) (vo vn : Value) (w : World) (hl : L.length = n) (h : EntsAt w va L) (hT : treeRight L = true) (hR : rightP p = true) (hk : p.kind = 10) (hs : SmallE L) (hp : SmPr p) (ho : StrsAt w vo p.old) (hn : StrsAt w vn p.new) :
    Calls Tryz.prog 13 #[.slice va n c, .agg #[.int .i64 10, .string p.path, .string p.dst, .string p.src, .int .i64 p.pos, vo, vn]] w fun e w' => ApplyPost8 (allE L [p]) w e w' := by
  obtain ⟨pa, ca, rfl, ho'⟩ := ho
  obtain ⟨pb, cb, rfl, hn'⟩ := hn
  have hn9 : n ≤ 1024 := by have := ((treeR L).1 hT).len; omega
  have HO := toHid8 (show ∀ w', Fr None' w w' → StrsAt w' (.slice pa p.old.length ca) p.old from fun w' f => StrsAt.kept ⟨pa, ca, rfl, ho'⟩ f)
  have HN := toHid8 (show ∀ w', Fr None' w w' → StrsAt w' (.slice pb p.new.length cb) p.new from fun w' f => StrsAt.kept ⟨pb, cb, rfl, hn'⟩ f)
  obtain ⟨w1, hw1⟩ : ∃ w1, w.alloc (.cells #[.int .i64 10, .string p.path, .string p.dst, .string p.src, .int .i64 p.pos, .slice pa p.old.length ca, .slice pb p.new.length cb] 25) = w1 := ⟨_, rfl⟩
  have HF1 := toHid8 (show Fr None' w w1 from hw1 ▸ Fr.alloc None' w _)
  have HB1 := toHid8 (show Box w1 w.heap.size (.int .i64 10) (.string p.path) (.string p.dst) (.string p.src) (.int .i64 p.pos) (.slice pa p.old.length ca) (.slice pb p.new.length cb) from hw1 ▸ Box.new w _ _ _ _ _ _ _)
  have q1 := eright_any va n c L w1 hl (h.kept HF1.out) (by omega) hs
  have HQ2 := toHid8 (fun w' (f : Fr None' w w') => dright_any p _ _ w' (HO.out w' f) (HN.out w' f) (smallP_of hp) (linesSmall_of hp))
  have HQ3 := toHid8 (fun w' (f : Fr None' w w') => vmove_any va n c L p _ _ w' hl (h.kept f) hT hR hk hp (HO.out w' f) (HN.out w' f))
  rw [hT] at q1
  rw [hR, hk] at HQ2
  rw [hk] at HQ3
  unfold ApplyPost8 at HQ3
  clear h hl hs hp ho' hn' hT hR hk
  go_enter Tryz.func13, Tryz.ntmps13
  go_wp2_with fail
  with_reducible refine q1.mono ?_
  rintro e w2 ⟨rfl, f2⟩
  have HF2 := toHid8 (HF1.out.then7 f2)
  have HB2 := toHid8 (HB1.out.kept f2)
  obtain ⟨p0, p1, p2, p3, p4, p5, p6⟩ := HB2.out.cells
  have q2 := HQ2.out w2 HF2.out
  clear q1 f2
  go_wp2_with fail
  with_reducible refine q2.mono ?_
  rintro e w3 ⟨rfl, f3⟩
  have HF3 := toHid8 (HF2.out.then7 f3)
  have HB3 := toHid8 (HB2.out.kept f3)
  clear q2 f3 p0 p1 p2 p3 p4 p5 p6
  obtain ⟨p0, p1, p2, p3, p4, p5, p6⟩ := HB3.out.cells
  have q3 := HQ3.out w3 HF3.out
  obtain ⟨r, hr⟩ : ∃ r, allE L [p] = r := ⟨_, rfl⟩
  rw [hr] at q3
  obtain ⟨R, er, kk⟩ := r
  have HEq := toHid8 hr
  simp only at q3
  clear hr HQ3
  go_wp2_with fail
  with_reducible refine q3.mono ?_
  rintro e w4 ⟨v4, c4, rfl, HE4, HC4, f4⟩
  have HF4 := toHid8 (HF3.out.then7 f4)
  clear q3 f4
  go_wp2_with fail
  go_ret2
  rw [HEq.out]
  exact ⟨v4, c4, rfl, HE4, HC4, HF4.out⟩

/-- The document's Apply. -/
theorem vapply_any (va : Option Addr) (n c : Nat) (L : List En) (p : Pr) (vo vn : Value) (w : World) (hl : L.length = n) (h : EntsAt w va L) (hn9 : n ≤ 90000) (hs : SmallE L) (hB : LnDoc L) (hp : SmPr p) (ho : StrsAt w vo p.old) (hn : StrsAt w vn p.new) :
    Calls Tryz.prog 13 #[.slice va n c, .agg #[.int .i64 p.kind, .string p.path, .string p.dst, .string p.src, .int .i64 p.pos, vo, vn]] w fun e w' => ApplyPost8 (allE L [p]) w e w' := by
  cases hT : treeRight L with
  | false => exact vapply_no va n c L p vo vn w hl h hn9 hs hp ho hn (by rw [hT]; rfl)
  | true =>
    cases hR : rightP p with
    | false => exact vapply_no va n c L p vo vn w hl h hn9 hs hp ho hn (by rw [hT, hR]; rfl)
    | true =>
      rcases kinds10 (rule_of hR).1 with hk | hk | hk | hk | hk | hk | hk | hk | hk | hk
      · rw [hk]; exact vapply_1 va n c L p vo vn w hl h hT hR hk hs hp ho hn
      · rw [hk]; exact vapply_2 va n c L p vo vn w hl h hT hR hk hs hp ho hn
      · rw [hk]; exact vapply_3 va n c L p vo vn w hl h hT hR hk hs hp ho hn
      · rw [hk]; exact vapply_4 va n c L p vo vn w hl h hT hR hk hs hp ho hn
      · rw [hk]; exact vapply_5 va n c L p vo vn w hl h hT hR hk hs hp ho hn
      · rw [hk]; exact vapply_6 va n c L p vo vn w hl h hT hR hk hs hp ho hn
      · rw [hk]; exact vapply_7 va n c L p vo vn w hl h hT hR hk hs hB hp ho hn
      · rw [hk]; exact vapply_8 va n c L p vo vn w hl h hT hR hk hs hB hp ho hn
      · rw [hk]; exact vapply_9 va n c L p vo vn w hl h hT hR hk hs hp ho hn
      · rw [hk]; exact vapply_10 va n c L p vo vn w hl h hT hR hk hs hp ho hn

end Go.Proofs.YtcpjneejlfgkeaaGreatDoor

namespace Go.Proofs.YtcpjneejlfgkeaaGreatDoor
open Go.RowKit Go.Maps Go.WideMaps
set_option maxRecDepth 100000

theorem weight_doc {L : List En} (h : weight L < 4000) : LnDoc L := fun x hx => by
  have h1 := weight_mem hx
  unfold En.weight at h1
  refine ⟨by omega, fun y hy => ?_⟩
  have := size_mem hy
  omega

set_option maxHeartbeats 16000000 in
theorem ptells_walk (va : Option Addr) (n c : Nat) (L : List En) (p : Pr) (vo vn : Value) (W : World) (hl : L.length = n) (ha : EntsAt W va L) (hn : n ≤ 140737488355328) (hx : ∀ x ∈ L, x.lines.length ≤ 140737488355328) (ho : StrsAt W vo p.old) (hw : StrsAt W vn p.new) (lo : p.old.length ≤ 140737488355328) (ln : p.new.length ≤ 140737488355328) :
    Calls Tryz.prog 3 #[.slice va n c, .agg #[.int .i64 p.kind, .string p.path, .string p.dst, .string p.src, .int .i64 p.pos, vo, vn]] W fun e w' => e = .returned (.bool true) ∧ Fr None' W w' := by
  obtain ⟨pa, ca, rfl, ho'⟩ := ho
  obtain ⟨pb, cb, rfl, hw'⟩ := hw
  have HO := toHid8 (show ∀ w', Fr None' W w' → StrsAt w' (.slice pa p.old.length ca) p.old from fun w' f => StrsAt.kept ⟨pa, ca, rfl, ho'⟩ f)
  have HN := toHid8 (show ∀ w', Fr None' W w' → StrsAt w' (.slice pb p.new.length cb) p.new from fun w' f => StrsAt.kept ⟨pb, cb, rfl, hw'⟩ f)
  have HE := toHid8 (show ∀ w', Fr None' W w' → EntsAt w' va L from fun w' f => ha.kept f)
  have HG := toHid8 (fun w' (f : Fr None' W w') => great_any va n c L w' hl (ha.kept f) hn hx)
  have HGP := toHid8 (fun w' (f : Fr None' W w') => pgreat_any p _ _ w' (HO.out w' f) (HN.out w' f) lo ln)
  have HA := toHid8 (fun (h1 : weight L < 4000) (h2 : p.weight < 4000) w' (f : Fr None' W w') => apply8_any va n c L p _ _ 4000 w' hl (ha.kept f) (by have := (weight_smE h1).2.1; omega) (weight_smE h1).1 (HO.out w' f) (HN.out w' f) (weight_smE h1).2.2 (by omega) (weight_smP h2))
  have HS := toHid8 (fun (h1 : weight L < 4000) vb d w' (f : Fr None' W w') (hb : EntsAt w' vb L) => esame_any vb va n d c L w' hl hb (ha.kept f) (by have := (weight_smE h1).2.1; omega) (weight_smE h1).1)
  have HV := toHid8 (fun (h1 : weight L < 4000) (h2 : p.weight < 4000) w' (f : Fr None' W w') => vapply_any va n c L p _ _ w' hl (ha.kept f) (by have := (weight_smE h1).2.1; omega) (weight_smE h1).1 (weight_doc h1) (weight_smP h2) (HO.out w' f) (HN.out w' f))
  have HQ := toHid8 (fun (h2 : p.weight < 4000) w' (f : Fr None' W w') => qright_any p _ _ w' (HO.out w' f) (HN.out w' f) (smallP_of (weight_smP h2)))
  have HD := toHid8 (fun (h2 : p.weight < 4000) w' (f : Fr None' W w') => dright_any p _ _ w' (HO.out w' f) (HN.out w' f) (smallP_of (weight_smP h2)) (linesSmall_of (weight_smP h2)))
  unfold GreatPost at HG
  unfold GreatP at HGP
  have HLen := toHid8 hl
  obtain ⟨w1, hw1⟩ : ∃ w1, W.alloc (.cells #[.int .i64 p.kind, .string p.path, .string p.dst, .string p.src, .int .i64 p.pos, .slice pa p.old.length ca, .slice pb p.new.length cb] 25) = w1 := ⟨_, rfl⟩
  have F1 : Fr None' W w1 := hw1 ▸ Fr.alloc None' W _
  have BP : Box w1 W.heap.size (.int .i64 p.kind) (.string p.path) (.string p.dst) (.string p.src) (.int .i64 p.pos) (.slice pa p.old.length ca) (.slice pb p.new.length cb) := hw1 ▸ Box.new W _ _ _ _ _ _ _
  have HF1 := toHid8 F1
  have HB := toHid8 BP
  have q1 := head8_any w1
  clear ho' hw' ha hl hx F1 BP lo ln
  go_enter Tryz.func3, Tryz.ntmps3
  go_wp2_with fail
  with_reducible refine q1.mono ?_
  rintro e w2 ⟨rfl, f2⟩
  have HF2 := toHid8 (HF1.out.then7 f2)
  have HB2 := toHid8 (HB.out.kept f2)
  have q2 := HG.out w2 HF2.out
  clear q1 f2 HB HF1 HG
  go_wp2_with fail
  with_reducible refine q2.mono ?_
  rintro e w3 ⟨g, rfl, hg, f3⟩
  have HF3 := toHid8 (HF2.out.then7 f3)
  have HB3 := toHid8 (HB2.out.kept f3)
  have HGf := toHid8 hg
  clear q2 f3 hg HB2 HF2
  cases g with
  | true =>
    go_wp2_with fail
    go_ret
    exact ⟨rfl, HF3.out⟩
  | false =>
    have HW := toHid8 (HGf.out rfl)
    obtain ⟨p0, p1, p2, p3, p4, p5, p6⟩ := HB3.out.cells
    have q3 := HGP.out w3 HF3.out
    clear HGf HGP
    go_wp2_with fail
    with_reducible refine q3.mono ?_
    rintro e w4 ⟨g, rfl, hg, f4⟩
    have HF4 := toHid8 (HF3.out.then7 f4)
    have HB4 := toHid8 (HB3.out.kept f4)
    have HGf := toHid8 hg
    clear q3 f4 hg HB3 HF3 p0 p1 p2 p3 p4 p5 p6
    cases g with
    | true =>
      go_wp2_with fail
      go_ret
      exact ⟨rfl, HF4.out⟩
    | false =>
      have HWP := toHid8 (HGf.out rfl)
      obtain ⟨p0, p1, p2, p3, p4, p5, p6⟩ := HB4.out.cells
      have q4 := HA.out HW.out HWP.out w4 HF4.out
      have HU := toHid8 (fun R er k (h : allE L [p] = (R, er, k)) => h)
      obtain ⟨r, hr⟩ : ∃ r, allE L [p] = r := ⟨_, rfl⟩
      rw [hr] at q4
      obtain ⟨R, er, kk⟩ := r
      have HR := toHid8 hr
      have HRv := toHid8 (show ∀ w', Fr None' W w' → Calls Tryz.prog 13 #[.slice va n c, .agg #[.int .i64 p.kind, .string p.path, .string p.dst, .string p.src, .int .i64 p.pos, .slice pa p.old.length ca, .slice pb p.new.length cb]] w' fun e w'' => ApplyPost8 (R, er, kk) w' e w'' from fun w' f => by have := HV.out HW.out HWP.out w' f; rw [hr] at this; exact this)
      unfold ApplyPost8 at HRv
      clear hr HA HGf HU HV
      go_wp2_with fail
      with_reducible refine q4.mono ?_
      rintro e w5 ⟨v5, c5, rfl, HE5, HC5, f5⟩
      have HF5 := toHid8 (HF4.out.then7 f5)
      have HB5 := toHid8 (HB4.out.kept f5)
      clear q4 f5 HB4 HF4 p0 p1 p2 p3 p4 p5 p6
      have q5 := HRv.out w5 HF5.out
      obtain ⟨p0, p1, p2, p3, p4, p5, p6⟩ := HB5.out.cells
      go_wp2_with fail
      with_reducible refine q5.mono ?_
      rintro e w6 ⟨v6, c6, rfl, HE6, HC6, f6⟩
      have HF6 := toHid8 (HF5.out.then7 f6)
      have HB6 := toHid8 (HB5.out.kept f6)
      have HE5' := toHid8 (HE5.out.kept f6)
      clear q5 f6 p0 p1 p2 p3 p4 p5 p6 HB5
      have HSm := toHid8 (show R.length ≤ 100000 ∧ SmallE R from by
        by_cases he : er = 0
        · subst he
          obtain ⟨_, t2, t3, _, _⟩ := all_stepE HR.out (weight_smE HW.out).2.2 (weight_smP HWP.out)
          obtain ⟨s1, s2⟩ := tree_small t2 t3 (by omega)
          exact ⟨by omega, s1⟩
        · rw [all_none8 HR.out he]
          exact ⟨Nat.zero_le _, fun x hx => by cases hx⟩)
      obtain ⟨m, hm⟩ : ∃ m, R.length = m := ⟨_, rfl⟩
      have HRm := toHid8 hm
      obtain ⟨rp, hrp⟩ : ∃ r, rightP p = r := ⟨_, rfl⟩
      have HI := toHid8 (show ∀ w', Fr None' w6 w' → Fr None' w6 w' ∧ w'.cell? ⟨W.heap.size, 0, none⟩ = some (.int .i64 p.kind) ∧ w'.cell? ⟨W.heap.size, 1, none⟩ = some (.string p.path) ∧ w'.cell? ⟨W.heap.size, 2, none⟩ = some (.string p.dst) ∧ w'.cell? ⟨W.heap.size, 3, none⟩ = some (.string p.src) ∧ w'.cell? ⟨W.heap.size, 4, none⟩ = some (.int .i64 p.pos) ∧ w'.cell? ⟨W.heap.size, 5, none⟩ = some (.slice pa p.old.length ca) ∧ w'.cell? ⟨W.heap.size, 6, none⟩ = some (.slice pb p.new.length cb) from fun w' f => ⟨f, (HB6.out.kept f).cells⟩)
      have cQ := toHid8 (show ∀ w', Fr None' w6 w' → Calls Tryz.prog 14 #[.agg #[.int .i64 p.kind, .string p.path, .string p.dst, .string p.src, .int .i64 p.pos, .slice pa p.old.length ca, .slice pb p.new.length cb]] w' fun e w'' => e = .returned (.bool rp) ∧ Fr None' w6 w'' from fun w' f => by
        have h := HQ.out HWP.out w' (HF6.out.then7 f)
        rw [hrp] at h
        exact h.mono fun e w'' ⟨h1, h2⟩ => ⟨h1, f.then7 h2⟩)
      have cD := toHid8 (show ∀ w', Fr None' w6 w' → Calls Tryz.prog 15 #[.agg #[.int .i64 p.kind, .string p.path, .string p.dst, .string p.src, .int .i64 p.pos, .slice pa p.old.length ca, .slice pb p.new.length cb]] w' fun e w'' => e = .returned (.bool rp) ∧ Fr None' w6 w'' from fun w' f => by
        have h := HD.out HWP.out w' (HF6.out.then7 f)
        rw [hrp] at h
        exact h.mono fun e w'' ⟨h1, h2⟩ => ⟨h1, f.then7 h2⟩)
      have cS := toHid8 (show ∀ w', Fr None' w6 w' → Calls Tryz.prog 16 #[.slice v5 m c5, .slice v6 m c6] w' fun e w'' => e = .returned (.bool true) ∧ Fr None' w6 w'' from fun w' f => by
        refine (esame_any v5 v6 m c5 c6 R w' HRm.out (HE5'.out.kept f) (HE6.out.kept f) (by rw [← HRm.out]; exact HSm.out.1) HSm.out.2).mono fun e w'' ⟨h1, h2⟩ => ⟨h1, f.then7 h2⟩)
      rw [hm]
      clear hm hrp HQ HD HE5 HE6 HE5'
      go_wp2_with fail
      go_region_held3 (fun w' => Fr None' w6 w' ∧ w'.cell? ⟨W.heap.size, 0, none⟩ = some (.int .i64 p.kind) ∧ w'.cell? ⟨W.heap.size, 1, none⟩ = some (.string p.path) ∧ w'.cell? ⟨W.heap.size, 2, none⟩ = some (.string p.dst) ∧ w'.cell? ⟨W.heap.size, 3, none⟩ = some (.string p.src) ∧ w'.cell? ⟨W.heap.size, 4, none⟩ = some (.int .i64 p.pos) ∧ w'.cell? ⟨W.heap.size, 5, none⟩ = some (.slice pa p.old.length ca) ∧ w'.cell? ⟨W.heap.size, 6, none⟩ = some (.slice pb p.new.length cb))
        (exact HI.out _ (by first | with_reducible assumption | exact Fr.refl _ _ | exact Fr.drew None' w6 | exact Fr.then7 (by assumption) (Fr.drew None' _)))
        (first
          | (go_at_call 14; with_reducible (refine (cQ.out _ (by first | with_reducible assumption | exact Fr.refl _ _ | exact Fr.drew None' w6 | exact Fr.then7 (by assumption) (Fr.drew None' _))).mono ?_); rintro e w7 ⟨rfl, f7⟩)
          | (go_at_call 15; with_reducible (refine (cD.out _ (by first | with_reducible assumption | exact Fr.refl _ _ | exact Fr.drew None' w6 | exact Fr.then7 (by assumption) (Fr.drew None' _))).mono ?_); rintro e w8 ⟨rfl, f8⟩)
          | (go_at_call 16; with_reducible (refine (cS.out _ (by first | with_reducible assumption | exact Fr.refl _ _ | exact Fr.drew None' w6 | exact Fr.then7 (by assumption) (Fr.drew None' _))).mono ?_); rintro e w9 ⟨rfl, f9⟩))
      have HFz := toHid8 (HF6.out.then7 f9)
      go_wp2_with fail
      go_ret
      exact ⟨rfl, HFz.out⟩

end Go.Proofs.YtcpjneejlfgkeaaGreatDoor
