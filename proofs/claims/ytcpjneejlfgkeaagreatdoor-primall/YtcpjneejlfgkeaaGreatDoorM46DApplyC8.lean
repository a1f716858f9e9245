/-
  What is proved here: the contracts that the statement stands on: DApplyC8, DApplyD8, DChgB8, DApplyB8, DAll8, DAllW8. Conditions: as each theorem names them.
-/
import Derived.Test.YtcpjneejlfgkeaaGreatDoorM40LinesP8
import Derived.Test.YtcpjneejlfgkeaaGreatDoorM43LinesW8
import Derived.Test.YtcpjneejlfgkeaaGreatDoorMLRTok2
import Derived.Test.YtcpjneejlfgkeaaGreatDoorMFRApply2
import Derived.Test.YtcpjneejlfgkeaaGreatDoorM7Strs9
import Derived.Test.YtcpjneejlfgkeaaGreatDoorM38Laws8
import Derived.Test.YtcpjneejlfgkeaaGreatDoorM32WithL8
namespace Go.Proofs.YtcpjneejlfgkeaaGreatDoor
open Go.RowKit
set_option maxRecDepth 100000

theorem smallP_of {p : Pr} (h : SmPr p) : SmallP p := ⟨by have := h.path; omega, by have := h.dst; omega, by have := h.src; omega, by have := h.old; omega, by have := h.new; omega⟩

theorem linesSmall_of {p : Pr} (h : SmPr p) : LinesSmall p := ⟨fun z hz => by have := h.oline z hz; omega, fun z hz => by have := h.line z hz; omega⟩

theorem path_ne {p : Pr} (h : rightP p = true) : bl p.path ≠ [] := fun e => by
  have h1 := (rule_of h).2.1
  rw [e] at h1
  have h2 : Path.right [] = false := by kernel_rfl
  rw [h2] at h1
  cases h1

/-- Lines that are small enough for the document's change. -/
def LnDoc (L : List En) : Prop := ∀ x ∈ L, x.lines.length ≤ 40000 ∧ ∀ y ∈ x.lines, y.size < 100000

set_option maxHeartbeats 8000000 in
theorem vapply_1 (va : Option Addr) (n c : Nat) (L : List En) (p : Pr) (vo vn : Value) (w : World) (hl : L.length = n) (h : EntsAt w va L) (hT : treeRight L = true) (hR : rightP p = true) (hk : p.kind = 1) (hs : SmallE L) (hp : SmPr p) (ho : StrsAt w vo p.old) (hn : StrsAt w vn p.new) :
    Calls Tryz.prog 13 #[.slice va n c, .agg #[.int .i64 1, .string p.path, .string p.dst, .string p.src, .int .i64 p.pos, vo, vn]] w fun e w' => ApplyPost8 (allE L [p]) w e w' := by
  obtain ⟨pa, ca, rfl, ho'⟩ := ho
  obtain ⟨pb, cb, rfl, hn'⟩ := hn
  have hTR := (treeR L).1 hT
  have hn9 : n ≤ 1024 := by have := hTR.len; omega
  have hA0 : ∀ er, freeE L (bl p.path) = er → er ≠ 0 → allE L [p] = ([], er, 0) := fun er e1 e2 => by
    rw [all_act hT hR (show actE L p = (L, er) from by unfold actE; rw [if_pos (by omega), e1, if_pos e2]), if_neg e2]
  have hA1 : freeE L (bl p.path) = 0 → 1024 ≤ n → allE L [p] = ([], 2, 0) := fun e1 e2 => by
    rw [all_act hT hR (show actE L p = (L, 2) from by unfold actE; rw [if_pos (by omega), e1, if_neg (by decide), if_pos (by omega)])]; rfl
  have hA2 : freeE L (bl p.path) = 0 → n < 1024 → allE L [p] = (putE L ⟨p.path, 1, [], ⟨#[]⟩⟩, 0, 0) := fun e1 e2 => by
    rw [all_act hT hR (show actE L p = (putE L ⟨p.path, 1, [], ⟨#[]⟩⟩, 0) from by unfold actE; rw [if_pos (by omega), e1, if_neg (by decide), if_neg (by omega), hk]; rfl)]; rfl
  have HA0 := toHid8 hA0
  have HA1 := toHid8 hA1
  have HA2 := toHid8 hA2
  clear hA0 hA1 hA2
  have HE := toHid8 (show ∀ w', Fr None' w w' → EntsAt w' va L from fun w' f => h.kept f)
  have HO := toHid8 (show ∀ w', Fr None' w w' → StrsAt w' (.slice pa p.old.length ca) p.old from fun w' f => StrsAt.kept ⟨pa, ca, rfl, ho'⟩ f)
  have HN := toHid8 (show ∀ w', Fr None' w w' → StrsAt w' (.slice pb p.new.length cb) p.new from fun w' f => StrsAt.kept ⟨pb, cb, rfl, hn'⟩ f)
  have HLen := toHid8 hl
  have HSp := toHid8 hp
  have HSt := toHid8 hTR.strict
  obtain ⟨w1, hw1⟩ : ∃ w1, w.alloc (.cells #[.int .i64 1, .string p.path, .string p.dst, .string p.src, .int .i64 p.pos, .slice pa p.old.length ca, .slice pb p.new.length cb] 25) = w1 := ⟨_, rfl⟩
  have HF1 := toHid8 (show Fr None' w w1 from hw1 ▸ Fr.alloc None' w _)
  have HB1 := toHid8 (show Box w1 w.heap.size (.int .i64 1) (.string p.path) (.string p.dst) (.string p.src) (.int .i64 p.pos) (.slice pa p.old.length ca) (.slice pb p.new.length cb) from hw1 ▸ Box.new w _ _ _ _ _ _ _)
  have q1 := eright_any va n c L w1 hl (HE.out w1 HF1.out) (by omega) hs
  rw [hT] at q1
  have HQ2 := toHid8 (fun w' (f : Fr None' w w') => dright_any p _ _ w' (HO.out w' f) (HN.out w' f) (smallP_of hp) (linesSmall_of hp))
  rw [hR, hk] at HQ2
  have HSE := toHid8 hs
  have i1 : (n : Int) ≤ 1024 := by omega
  clear h hl hT hk hp hTR ho' hn' hs hR
  go_enter Tryz.func13, Tryz.ntmps13
  go_wp2_with fail
  with_reducible refine q1.mono ?_
  rintro e w2 ⟨rfl, f2⟩
  have HF2 := toHid8 (HF1.out.then7 f2)
  have HB2 := toHid8 (HB1.out.kept f2)
  obtain ⟨p0, p1, p2, p3, p4, p5, p6⟩ := HB2.out.cells
  have q2 := HQ2.out w2 HF2.out
  clear q1 f2
  go_wp2_with fail
  with_reducible refine q2.mono ?_
  rintro e w3 ⟨rfl, f3⟩
  have HF3 := toHid8 (HF2.out.then7 f3)
  have HB3 := toHid8 (HB2.out.kept f3)
  clear q2 f3 p0 p1 p2 p3 p4 p5 p6
  obtain ⟨p0, p1, p2, p3, p4, p5, p6⟩ := HB3.out.cells
  have q3 := vkind_any 1 w3 (by decide)
  rw [show (if (1 : Int) = 1 ∨ (1 : Int) = 2 then (1 : Int) else if (1 : Int) = 5 ∨ (1 : Int) = 6 ∨ (1 : Int) = 9 then 3 else 2) = 1 from by decide] at q3
  go_wp2_with fail
  with_reducible refine q3.mono ?_
  rintro e w4 ⟨rfl, hw4⟩
  rw [hw4]
  clear q3 hw4
  have q4 := vroom_any va n c L p.path w3 HLen.out (HE.out w3 HF3.out) (by omega) HSp.out.path
  obtain ⟨er, her⟩ : ∃ x, freeE L (bl p.path) = x := ⟨_, rfl⟩
  rw [her] at q4
  have HEr := toHid8 her
  clear her
  go_wp2_with fail
  with_reducible refine q4.mono ?_
  rintro e w5 ⟨rfl, f5⟩
  have HF5 := toHid8 (HF3.out.then7 f5)
  have HB5 := toHid8 (HB3.out.kept f5)
  clear q4 f5 p0 p1 p2 p3 p4 p5 p6
  obtain ⟨p0, p1, p2, p3, p4, p5, p6⟩ := HB5.out.cells
  by_cases he : er = 0
  · subst he
    by_cases h24 : 1024 ≤ n
    · have j1 : (1024 : Int) ≤ (n : Int) := by omega
      have HEq := toHid8 (HA1.out HEr.out h24)
      go_wp2_with fail
      go_ret2
      rw [HEq.out]
      exact ⟨none, 0, rfl, (fun j x hj => by simp at hj), fun _ => rfl, HF5.out⟩
    · have j1 : ¬ (1024 : Int) ≤ (n : Int) := by omega
      have HEq := toHid8 (HA2.out HEr.out (by omega))
      have q5 := vput_any va n c L ⟨p.path, 1, [], ⟨#[]⟩⟩ (.slice none 0 0) w5 HLen.out (HE.out w5 HF5.out) (by omega) (nilS8 w5) HSt.out
      unfold RowPost at q5
      go_wp2_with fail
      with_reducible refine q5.mono ?_
      rintro e w6 ⟨v6, c6, rfl, HE6, HC6, f6⟩
      have HF6 := toHid8 (HF5.out.then7 f6)
      clear q5 f6
      go_wp2_with fail
      go_ret2
      rw [HEq.out]
      exact ⟨v6, c6, rfl, HE6, HC6, HF6.out⟩
  · have he2 : (er == 0) = false := by simpa using he
    have HEq := toHid8 (HA0.out er HEr.out he)
    go_wp2_with fail
    go_ret2
    rw [HEq.out]
    exact ⟨none, 0, rfl, (fun j x hj => by simp at hj), fun _ => rfl, HF5.out⟩

set_option maxHeartbeats 8000000 in
theorem vapply_3 (va : Option Addr) (n c : Nat) (L : List En) (p : Pr) (vo vn : Value) (w : World) (hl : L.length = n) (h : EntsAt w va L) (hT : treeRight L = true) (hR : rightP p = true) (hk : p.kind = 3) (hs : SmallE L) (hp : SmPr p) (ho : StrsAt w vo p.old) (hn : StrsAt w vn p.new) :
    Calls Tryz.prog 13 #[.slice va n c, .agg #[.int .i64 3, .string p.path, .string p.dst, .string p.src, .int .i64 p.pos, vo, vn]] w fun e w' => ApplyPost8 (allE L [p]) w e w' := by
  obtain ⟨pa, ca, rfl, ho'⟩ := ho
  obtain ⟨pb, cb, rfl, hn'⟩ := hn
  have hTR := (treeR L).1 hT
  have hn9 : n ≤ 1024 := by have := hTR.len; omega
  have hA0 : ∀ er, freeE L (bl p.path) = er → er ≠ 0 → allE L [p] = ([], er, 0) := fun er e1 e2 => by
    rw [all_act hT hR (show actE L p = (L, er) from by unfold actE; rw [if_pos (by omega), e1, if_pos e2]), if_neg e2]
  have hA1 : freeE L (bl p.path) = 0 → 1024 ≤ n → allE L [p] = ([], 2, 0) := fun e1 e2 => by
    rw [all_act hT hR (show actE L p = (L, 2) from by unfold actE; rw [if_pos (by omega), e1, if_neg (by decide), if_pos (by omega)])]; rfl
  have hA2 : freeE L (bl p.path) = 0 → n < 1024 → allE L [p] = (putE L ⟨p.path, 2, [], ⟨#[]⟩⟩, 0, 0) := fun e1 e2 => by
    rw [all_act hT hR (show actE L p = (putE L ⟨p.path, 2, [], ⟨#[]⟩⟩, 0) from by unfold actE; rw [if_pos (by omega), e1, if_neg (by decide), if_neg (by omega), hk]; rfl)]; rfl
  have HA0 := toHid8 hA0
  have HA1 := toHid8 hA1
  have HA2 := toHid8 hA2
  clear hA0 hA1 hA2
  have HE := toHid8 (show ∀ w', Fr None' w w' → EntsAt w' va L from fun w' f => h.kept f)
  have HO := toHid8 (show ∀ w', Fr None' w w' → StrsAt w' (.slice pa p.old.length ca) p.old from fun w' f => StrsAt.kept ⟨pa, ca, rfl, ho'⟩ f)
  have HN := toHid8 (show ∀ w', Fr None' w w' → StrsAt w' (.slice pb p.new.length cb) p.new from fun w' f => StrsAt.kept ⟨pb, cb, rfl, hn'⟩ f)
  have HLen := toHid8 hl
  have HSp := toHid8 hp
  have HSt := toHid8 hTR.strict
  obtain ⟨w1, hw1⟩ : ∃ w1, w.alloc (.cells #[.int .i64 3, .string p.path, .string p.dst, .string p.src, .int .i64 p.pos, .slice pa p.old.length ca, .slice pb p.new.length cb] 25) = w1 := ⟨_, rfl⟩
  have HF1 := toHid8 (show Fr None' w w1 from hw1 ▸ Fr.alloc None' w _)
  have HB1 := toHid8 (show Box w1 w.heap.size (.int .i64 3) (.string p.path) (.string p.dst) (.string p.src) (.int .i64 p.pos) (.slice pa p.old.length ca) (.slice pb p.new.length cb) from hw1 ▸ Box.new w _ _ _ _ _ _ _)
  have q1 := eright_any va n c L w1 hl (HE.out w1 HF1.out) (by omega) hs
  rw [hT] at q1
  have HQ2 := toHid8 (fun w' (f : Fr None' w w') => dright_any p _ _ w' (HO.out w' f) (HN.out w' f) (smallP_of hp) (linesSmall_of hp))
  rw [hR, hk] at HQ2
  have HSE := toHid8 hs
  have i1 : (n : Int) ≤ 1024 := by omega
  clear h hl hT hk hp hTR ho' hn' hs hR
  go_enter Tryz.func13, Tryz.ntmps13
  go_wp2_with fail
  with_reducible refine q1.mono ?_
  rintro e w2 ⟨rfl, f2⟩
  have HF2 := toHid8 (HF1.out.then7 f2)
  have HB2 := toHid8 (HB1.out.kept f2)
  obtain ⟨p0, p1, p2, p3, p4, p5, p6⟩ := HB2.out.cells
  have q2 := HQ2.out w2 HF2.out
  clear q1 f2
  go_wp2_with fail
  with_reducible refine q2.mono ?_
  rintro e w3 ⟨rfl, f3⟩
  have HF3 := toHid8 (HF2.out.then7 f3)
  have HB3 := toHid8 (HB2.out.kept f3)
  clear q2 f3 p0 p1 p2 p3 p4 p5 p6
  obtain ⟨p0, p1, p2, p3, p4, p5, p6⟩ := HB3.out.cells
  have q3 := vkind_any 3 w3 (by decide)
  rw [show (if (3 : Int) = 1 ∨ (3 : Int) = 2 then (1 : Int) else if (3 : Int) = 5 ∨ (3 : Int) = 6 ∨ (3 : Int) = 9 then 3 else 2) = 2 from by decide] at q3
  go_wp2_with fail
  with_reducible refine q3.mono ?_
  rintro e w4 ⟨rfl, hw4⟩
  rw [hw4]
  clear q3 hw4
  have q4 := vroom_any va n c L p.path w3 HLen.out (HE.out w3 HF3.out) (by omega) HSp.out.path
  obtain ⟨er, her⟩ : ∃ x, freeE L (bl p.path) = x := ⟨_, rfl⟩
  rw [her] at q4
  have HEr := toHid8 her
  clear her
  go_wp2_with fail
  with_reducible refine q4.mono ?_
  rintro e w5 ⟨rfl, f5⟩
  have HF5 := toHid8 (HF3.out.then7 f5)
  have HB5 := toHid8 (HB3.out.kept f5)
  clear q4 f5 p0 p1 p2 p3 p4 p5 p6
  obtain ⟨p0, p1, p2, p3, p4, p5, p6⟩ := HB5.out.cells
  by_cases he : er = 0
  · subst he
    by_cases h24 : 1024 ≤ n
    · have j1 : (1024 : Int) ≤ (n : Int) := by omega
      have HEq := toHid8 (HA1.out HEr.out h24)
      go_wp2_with fail
      go_ret2
      rw [HEq.out]
      exact ⟨none, 0, rfl, (fun j x hj => by simp at hj), fun _ => rfl, HF5.out⟩
    · have j1 : ¬ (1024 : Int) ≤ (n : Int) := by omega
      have HEq := toHid8 (HA2.out HEr.out (by omega))
      have q5 := vput_any va n c L ⟨p.path, 2, [], ⟨#[]⟩⟩ (.slice none 0 0) w5 HLen.out (HE.out w5 HF5.out) (by omega) (nilS8 w5) HSt.out
      unfold RowPost at q5
      go_wp2_with fail
      with_reducible refine q5.mono ?_
      rintro e w6 ⟨v6, c6, rfl, HE6, HC6, f6⟩
      have HF6 := toHid8 (HF5.out.then7 f6)
      clear q5 f6
      go_wp2_with fail
      go_ret2
      rw [HEq.out]
      exact ⟨v6, c6, rfl, HE6, HC6, HF6.out⟩
  · have he2 : (er == 0) = false := by simpa using he
    have HEq := toHid8 (HA0.out er HEr.out he)
    go_wp2_with fail
    go_ret2
    rw [HEq.out]
    exact ⟨none, 0, rfl, (fun j x hj => by simp at hj), fun _ => rfl, HF5.out⟩

set_option maxHeartbeats 8000000 in
theorem vapply_5 (va : Option Addr) (n c : Nat) (L : List En) (p : Pr) (vo vn : Value) (w : World) (hl : L.length = n) (h : EntsAt w va L) (hT : treeRight L = true) (hR : rightP p = true) (hk : p.kind = 5) (hs : SmallE L) (hp : SmPr p) (ho : StrsAt w vo p.old) (hn : StrsAt w vn p.new) :
    Calls Tryz.prog 13 #[.slice va n c, .agg #[.int .i64 5, .string p.path, .string p.dst, .string p.src, .int .i64 p.pos, vo, vn]] w fun e w' => ApplyPost8 (allE L [p]) w e w' := by
  obtain ⟨pa, ca, rfl, ho'⟩ := ho
  obtain ⟨pb, cb, rfl, hn'⟩ := hn
  have hTR := (treeR L).1 hT
  have hn9 : n ≤ 1024 := by have := hTR.len; omega
  have hA0 : ∀ er, freeE L (bl p.path) = er → er ≠ 0 → allE L [p] = ([], er, 0) := fun er e1 e2 => by
    rw [all_act hT hR (show actE L p = (L, er) from by unfold actE; rw [if_pos (by omega), e1, if_pos e2]), if_neg e2]
  have hA1 : freeE L (bl p.path) = 0 → 1024 ≤ n → allE L [p] = ([], 2, 0) := fun e1 e2 => by
    rw [all_act hT hR (show actE L p = (L, 2) from by unfold actE; rw [if_pos (by omega), e1, if_neg (by decide), if_pos (by omega)])]; rfl
  have hA2 : freeE L (bl p.path) = 0 → n < 1024 → allE L [p] = (putE L ⟨p.path, 3, [], ⟨#[]⟩⟩, 0, 0) := fun e1 e2 => by
    rw [all_act hT hR (show actE L p = (putE L ⟨p.path, 3, [], ⟨#[]⟩⟩, 0) from by unfold actE; rw [if_pos (by omega), e1, if_neg (by decide), if_neg (by omega), hk]; rfl)]; rfl
  have HA0 := toHid8 hA0
  have HA1 := toHid8 hA1
  have HA2 := toHid8 hA2
  clear hA0 hA1 hA2
  have HE := toHid8 (show ∀ w', Fr None' w w' → EntsAt w' va L from fun w' f => h.kept f)
  have HO := toHid8 (show ∀ w', Fr None' w w' → StrsAt w' (.slice pa p.old.length ca) p.old from fun w' f => StrsAt.kept ⟨pa, ca, rfl, ho'⟩ f)
  have HN := toHid8 (show ∀ w', Fr None' w w' → StrsAt w' (.slice pb p.new.length cb) p.new from fun w' f => StrsAt.kept ⟨pb, cb, rfl, hn'⟩ f)
  have HLen := toHid8 hl
  have HSp := toHid8 hp
  have HSt := toHid8 hTR.strict
  obtain ⟨w1, hw1⟩ : ∃ w1, w.alloc (.cells #[.int .i64 5, .string p.path, .string p.dst, .string p.src, .int .i64 p.pos, .slice pa p.old.length ca, .slice pb p.new.length cb] 25) = w1 := ⟨_, rfl⟩
  have HF1 := toHid8 (show Fr None' w w1 from hw1 ▸ Fr.alloc None' w _)
  have HB1 := toHid8 (show Box w1 w.heap.size (.int .i64 5) (.string p.path) (.string p.dst) (.string p.src) (.int .i64 p.pos) (.slice pa p.old.length ca) (.slice pb p.new.length cb) from hw1 ▸ Box.new w _ _ _ _ _ _ _)
  have q1 := eright_any va n c L w1 hl (HE.out w1 HF1.out) (by omega) hs
  rw [hT] at q1
  have HQ2 := toHid8 (fun w' (f : Fr None' w w') => dright_any p _ _ w' (HO.out w' f) (HN.out w' f) (smallP_of hp) (linesSmall_of hp))
  rw [hR, hk] at HQ2
  have HSE := toHid8 hs
  have i1 : (n : Int) ≤ 1024 := by omega
  clear h hl hT hk hp hTR ho' hn' hs hR
  go_enter Tryz.func13, Tryz.ntmps13
  go_wp2_with fail
  with_reducible refine q1.mono ?_
  rintro e w2 ⟨rfl, f2⟩
  have HF2 := toHid8 (HF1.out.then7 f2)
  have HB2 := toHid8 (HB1.out.kept f2)
  obtain ⟨p0, p1, p2, p3, p4, p5, p6⟩ := HB2.out.cells
  have q2 := HQ2.out w2 HF2.out
  clear q1 f2
  go_wp2_with fail
  with_reducible refine q2.mono ?_
  rintro e w3 ⟨rfl, f3⟩
  have HF3 := toHid8 (HF2.out.then7 f3)
  have HB3 := toHid8 (HB2.out.kept f3)
  clear q2 f3 p0 p1 p2 p3 p4 p5 p6
  obtain ⟨p0, p1, p2, p3, p4, p5, p6⟩ := HB3.out.cells
  have q3 := vkind_any 5 w3 (by decide)
  rw [show (if (5 : Int) = 1 ∨ (5 : Int) = 2 then (1 : Int) else if (5 : Int) = 5 ∨ (5 : Int) = 6 ∨ (5 : Int) = 9 then 3 else 2) = 3 from by decide] at q3
  go_wp2_with fail
  with_reducible refine q3.mono ?_
  rintro e w4 ⟨rfl, hw4⟩
  rw [hw4]
  clear q3 hw4
  have q4 := vroom_any va n c L p.path w3 HLen.out (HE.out w3 HF3.out) (by omega) HSp.out.path
  obtain ⟨er, her⟩ : ∃ x, freeE L (bl p.path) = x := ⟨_, rfl⟩
  rw [her] at q4
  have HEr := toHid8 her
  clear her
  go_wp2_with fail
  with_reducible refine q4.mono ?_
  rintro e w5 ⟨rfl, f5⟩
  have HF5 := toHid8 (HF3.out.then7 f5)
  have HB5 := toHid8 (HB3.out.kept f5)
  clear q4 f5 p0 p1 p2 p3 p4 p5 p6
  obtain ⟨p0, p1, p2, p3, p4, p5, p6⟩ := HB5.out.cells
  by_cases he : er = 0
  · subst he
    by_cases h24 : 1024 ≤ n
    · have j1 : (1024 : Int) ≤ (n : Int) := by omega
      have HEq := toHid8 (HA1.out HEr.out h24)
      go_wp2_with fail
      go_ret2
      rw [HEq.out]
      exact ⟨none, 0, rfl, (fun j x hj => by simp at hj), fun _ => rfl, HF5.out⟩
    · have j1 : ¬ (1024 : Int) ≤ (n : Int) := by omega
      have HEq := toHid8 (HA2.out HEr.out (by omega))
      have q5 := vput_any va n c L ⟨p.path, 3, [], ⟨#[]⟩⟩ (.slice none 0 0) w5 HLen.out (HE.out w5 HF5.out) (by omega) (nilS8 w5) HSt.out
      unfold RowPost at q5
      go_wp2_with fail
      with_reducible refine q5.mono ?_
      rintro e w6 ⟨v6, c6, rfl, HE6, HC6, f6⟩
      have HF6 := toHid8 (HF5.out.then7 f6)
      clear q5 f6
      go_wp2_with fail
      go_ret2
      rw [HEq.out]
      exact ⟨v6, c6, rfl, HE6, HC6, HF6.out⟩
  · have he2 : (er == 0) = false := by simpa using he
    have HEq := toHid8 (HA0.out er HEr.out he)
    go_wp2_with fail
    go_ret2
    rw [HEq.out]
    exact ⟨none, 0, rfl, (fun j x hj => by simp at hj), fun _ => rfl, HF5.out⟩

set_option maxHeartbeats 8000000 in
theorem vapply_2 (va : Option Addr) (n c : Nat) (L : List En) (p : Pr) (vo vn : Value) (w : World) (hl : L.length = n) (h : EntsAt w va L) (hT : treeRight L = true) (hR : rightP p = true) (hk : p.kind = 2) (hs : SmallE L) (hp : SmPr p) (ho : StrsAt w vo p.old) (hn : StrsAt w vn p.new) :
    Calls Tryz.prog 13 #[.slice va n c, .agg #[.int .i64 2, .string p.path, .string p.dst, .string p.src, .int .i64 p.pos, vo, vn]] w fun e w' => ApplyPost8 (allE L [p]) w e w' := by
  obtain ⟨pa, ca, rfl, ho'⟩ := ho
  obtain ⟨pb, cb, rfl, hn'⟩ := hn
  have hTR := (treeR L).1 hT
  have hn9 : n ≤ 1024 := by have := hTR.len; omega
  have HA0 := toHid8 (show findE L (bl p.path) = none → allE L [p] = ([], 72, 0) from fun e => by
    rw [all_act hT hR (show actE L p = (L, 72) from by unfold actE hasE; rw [if_neg (by omega), if_pos (by omega), e]; rfl)]; rfl)
  have HA1 := toHid8 (show ∀ x, findE L (bl p.path) = some x → x.kind ≠ 1 → allE L [p] = ([], 73, 0) from fun x e e2 => by
    rw [all_act hT hR (show actE L p = (L, 73) from by unfold actE hasE; rw [if_neg (by omega), if_pos (by omega), e, hk]; simp only [show (2 : Int) / 2 = 1 from rfl, if_neg e2]; rfl)]; rfl)
  have HA2 := toHid8 (show ∀ x, findE L (bl p.path) = some x → x.kind = 1 → ¬ (x.lines.length = 0 ∧ x.data = ⟨#[]⟩ ∧ (children L (bl p.path)).length = 0) → allE L [p] = ([], 81, 0) from fun x e e2 e3 => by
    rw [all_act hT hR (show actE L p = (L, 81) from by
      unfold actE hasE
      rw [if_neg (by omega), if_pos (by omega), e, hk]
      simp only [show (2 : Int) / 2 = 1 from rfl, if_pos e2]
      rw [if_neg (by decide), if_neg (by
        unfold emptyE
        rw [e]
        intro h4
        simp only [Bool.and_eq_true, decide_eq_true_eq] at h4
        have h5 := (find_some e).2
        refine e3 ⟨h4.1.1, h4.1.2, ?_⟩
        rw [← h5]
        refine (child_none hTR (find_some e).1 (by rw [h5]; exact path_ne hR)).1 ?_
        rw [h5]
        exact h4.2)])]; rfl)
  have HA3 := toHid8 (show ∀ x, findE L (bl p.path) = some x → x.kind = 1 → (x.lines.length = 0 ∧ x.data = ⟨#[]⟩ ∧ (children L (bl p.path)).length = 0) → allE L [p] = (delE L (bl p.path), 0, 0) from fun x e e2 e3 => by
    rw [all_act hT hR (show actE L p = (delE L (bl p.path), 0) from by
      unfold actE hasE
      rw [if_neg (by omega), if_pos (by omega), e, hk]
      simp only [show (2 : Int) / 2 = 1 from rfl, if_pos e2]
      rw [if_neg (by decide), if_pos (by
        unfold emptyE
        rw [e]
        simp only [Bool.and_eq_true, decide_eq_true_eq]
        have h5 := (find_some e).2
        refine ⟨⟨e3.1, e3.2.1⟩, ?_⟩
        have := (child_none hTR (find_some e).1 (by rw [h5]; exact path_ne hR)).2 (by rw [h5]; exact e3.2.2)
        rw [h5] at this
        exact this)])]; rfl)
  have HE := toHid8 (show ∀ w', Fr None' w w' → EntsAt w' va L from fun w' f => h.kept f)
  have HO := toHid8 (show ∀ w', Fr None' w w' → StrsAt w' (.slice pa p.old.length ca) p.old from fun w' f => StrsAt.kept ⟨pa, ca, rfl, ho'⟩ f)
  have HN := toHid8 (show ∀ w', Fr None' w w' → StrsAt w' (.slice pb p.new.length cb) p.new from fun w' f => StrsAt.kept ⟨pb, cb, rfl, hn'⟩ f)
  have HLen := toHid8 hl
  have HSp := toHid8 hp
  have HSt := toHid8 hTR.strict
  obtain ⟨w1, hw1⟩ : ∃ w1, w.alloc (.cells #[.int .i64 2, .string p.path, .string p.dst, .string p.src, .int .i64 p.pos, .slice pa p.old.length ca, .slice pb p.new.length cb] 25) = w1 := ⟨_, rfl⟩
  have HF1 := toHid8 (show Fr None' w w1 from hw1 ▸ Fr.alloc None' w _)
  have HB1 := toHid8 (show Box w1 w.heap.size (.int .i64 2) (.string p.path) (.string p.dst) (.string p.src) (.int .i64 p.pos) (.slice pa p.old.length ca) (.slice pb p.new.length cb) from hw1 ▸ Box.new w _ _ _ _ _ _ _)
  have q1 := eright_any va n c L w1 hl (HE.out w1 HF1.out) (by omega) hs
  rw [hT] at q1
  have HQ2 := toHid8 (fun w' (f : Fr None' w w') => dright_any p _ _ w' (HO.out w' f) (HN.out w' f) (smallP_of hp) (linesSmall_of hp))
  rw [hR, hk] at HQ2
  have HSE := toHid8 hs
  have i1 : (n : Int) ≤ 1024 := by omega
  clear h hl hT hk hp hTR ho' hn' hs hR
  go_enter Tryz.func13, Tryz.ntmps13
  go_wp2_with fail
  with_reducible refine q1.mono ?_
  rintro e w2 ⟨rfl, f2⟩
  have HF2 := toHid8 (HF1.out.then7 f2)
  have HB2 := toHid8 (HB1.out.kept f2)
  obtain ⟨p0, p1, p2, p3, p4, p5, p6⟩ := HB2.out.cells
  have q2 := HQ2.out w2 HF2.out
  clear q1 f2
  go_wp2_with fail
  with_reducible refine q2.mono ?_
  rintro e w3 ⟨rfl, f3⟩
  have HF3 := toHid8 (HF2.out.then7 f3)
  have HB3 := toHid8 (HB2.out.kept f3)
  clear q2 f3 p0 p1 p2 p3 p4 p5 p6
  obtain ⟨p0, p1, p2, p3, p4, p5, p6⟩ := HB3.out.cells
  have q3 := vkind_any 2 w3 (by decide)
  rw [show (if (2 : Int) = 1 ∨ (2 : Int) = 2 then (1 : Int) else if (2 : Int) = 5 ∨ (2 : Int) = 6 ∨ (2 : Int) = 9 then 3 else 2) = 1 from by decide] at q3
  go_wp2_with fail
  with_reducible refine q3.mono ?_
  rintro e w4 ⟨rfl, hw4⟩
  rw [hw4]
  clear q3 hw4
  have q4 := efind_any va n c L p.path w3 HLen.out (HE.out w3 HF3.out) (by omega)
  obtain ⟨r, hr⟩ : ∃ r, findE L (bl p.path) = r := ⟨_, rfl⟩
  rw [hr] at q4
  have HFr := toHid8 hr
  clear hr
  cases r with
  | none =>
    have HEq := toHid8 (HA0.out HFr.out)
    unfold FindPost at q4
    simp only at q4
    go_wp2_with fail
    with_reducible refine q4.mono ?_
    rintro e w5 ⟨f5, rfl⟩
    have HF5 := toHid8 (HF3.out.then7 (f5.then7 (Fr.alloc None' w5 (.cells #[.string ⟨#[]⟩, .int .i64 0, .slice none 0 0, .string ⟨#[]⟩] 41))))
    clear q4 f5
    go_wp2_with fail
    go_ret2
    rw [HEq.out]
    exact ⟨none, 0, rfl, (fun j x hj => by simp at hj), fun _ => rfl, HF5.out⟩
  | some x =>
    unfold FindPost at q4
    simp only at q4
    have HXs := toHid8 (HSE.out x (find_some HFr.out).1)
    obtain ⟨P, K, l, Da⟩ := x
    simp only at q4 HXs
    go_wp2_with fail
    with_reducible refine q4.mono ?_
    rintro e w5 ⟨f5, vl, rfl, hs5⟩
    have HS5 := toHid8 hs5
    obtain ⟨pl, cl, rfl, _⟩ := hs5
    obtain ⟨nl, hnl⟩ : ∃ m, l.length = m := ⟨_, rfl⟩
    have HNl := toHid8 hnl
    rw [hnl] at HS5 ⊢
    obtain ⟨w6, hw6⟩ : ∃ x, w5.alloc (.cells #[.string P, .int .i64 K, .slice pl nl cl, .string Da] 41) = x := ⟨_, rfl⟩
    have F6 : Fr None' w5 w6 := hw6 ▸ Fr.alloc None' w5 _
    have HBX := toHid8 (show EBox w6 w5.heap.size (.string P) (.int .i64 K) (.slice pl nl cl) (.string Da) from hw6 ▸ EBox.new w5 _ _ _ _)
    have HF6 := toHid8 (HF3.out.then7 (f5.then7 F6))
    have HB6 := toHid8 (HB3.out.kept (f5.then7 F6))
    have HS6 := toHid8 (HS5.out.kept F6)
    obtain ⟨x0, x1, x2, x3⟩ := HBX.out.cells
    clear q4 f5 F6 p0 p1 p2 p3 p4 p5 p6 HS5 hnl
    obtain ⟨p0, p1, p2, p3, p4, p5, p6⟩ := HB6.out.cells
    by_cases hK : K = 1
    · subst hK
      have q5 := echildren_any va n c L p.path w6 HLen.out (HE.out w6 HF6.out) (by omega) HSE.out
      obtain ⟨N, hN⟩ : ∃ N, (children L (bl p.path)).length = N := ⟨_, rfl⟩
      have HNc := toHid8 hN
      clear hN
      go_wp2_with fail
      with_reducible refine q5.mono ?_
      rintro e w7 ⟨v7, V7, rfl, O7, f7⟩
      obtain ⟨v8, c8, rfl, _⟩ := O7.slice f7
      have HF7 := toHid8 (HF6.out.then7 f7)
      obtain ⟨x0', x1', x2', x3'⟩ := (HBX.out.kept f7).cells
      have HB7 := toHid8 (HB6.out.kept f7)
      rw [HNc.out]
      clear q5 f7 O7 x0 x1 x2 x3 p0 p1 p2 p3 p4 p5 p6
      obtain ⟨p0, p1, p2, p3, p4, p5, p6⟩ := HB7.out.cells
      by_cases hN0 : N = 0
      · subst hN0
        by_cases hl0 : nl = 0
        · subst hl0
          by_cases hd0 : Da.size = 0
          · have hde := empty_of hd0
            have HEq := toHid8 (HA3.out _ HFr.out rfl ⟨HNl.out, hde, HNc.out⟩)
            rw [hde] at x3'
            have q6 := vwithout_any va n c L p.path w7 w7 HLen.out (HE.out w7 HF7.out) (Fr.refl _ _) (by omega)
            clear hde hd0
            go_wp2_with fail
            with_reducible refine q6.mono ?_
            rintro e w8 ⟨v9, V9, rfl, O9, f9⟩
            obtain ⟨va9, c9, rfl, _, hc9, E9, _⟩ := O9.slice f9
            have HF8 := toHid8 (HF7.out.then7 f9)
            have HE9 := toHid8 E9
            have HC9 := toHid8 hc9
            clear q6 O9 f9 E9 hc9
            go_wp2_with fail
            go_ret2
            rw [HEq.out]
            exact ⟨va9, c9, rfl, HE9, HC9, HF8.out⟩
          · have yd := isEmpty_no hd0
            have HEq := toHid8 (HA2.out _ HFr.out rfl (fun e => hd0 (congrArg ByteArray.size (show Da = ⟨#[]⟩ from e.2.1))))
            go_wp2_with fail
            go_ret2
            rw [HEq.out]
            exact ⟨none, 0, rfl, (fun j x hj => by simp at hj), fun _ => rfl, HF7.out⟩
        · have j2 : (0 : Int) < (nl : Int) := by omega
          have HEq := toHid8 (HA2.out _ HFr.out rfl (fun e => hl0 (by rw [← HNl.out]; exact e.1)))
          go_wp2_with fail
          go_ret2
          rw [HEq.out]
          exact ⟨none, 0, rfl, (fun j x hj => by simp at hj), fun _ => rfl, HF7.out⟩
      · have j2 : (0 : Int) < (N : Int) := by omega
        have HEq := toHid8 (HA2.out _ HFr.out rfl (fun e => hN0 (by rw [← HNc.out]; exact e.2.2)))
        go_wp2_with fail
        go_ret2
        rw [HEq.out]
        exact ⟨none, 0, rfl, (fun j x hj => by simp at hj), fun _ => rfl, HF7.out⟩
    · have hK2 : (K == 1) = false := by simpa using hK
      have HEq := toHid8 (HA1.out _ HFr.out hK)
      go_wp2_with fail
      go_ret2
      rw [HEq.out]
      exact ⟨none, 0, rfl, (fun j x hj => by simp at hj), fun _ => rfl, HF6.out⟩

set_option maxHeartbeats 8000000 in
theorem vapply_4 (va : Option Addr) (n c : Nat) (L : List En) (p : Pr) (vo vn : Value) (w : World) (hl : L.length = n) (h : EntsAt w va L) (hT : treeRight L = true) (hR : rightP p = true) (hk : p.kind = 4) (hs : SmallE L) (hp : SmPr p) (ho : StrsAt w vo p.old) (hn : StrsAt w vn p.new) :
    Calls Tryz.prog 13 #[.slice va n c, .agg #[.int .i64 4, .string p.path, .string p.dst, .string p.src, .int .i64 p.pos, vo, vn]] w fun e w' => ApplyPost8 (allE L [p]) w e w' := by
  obtain ⟨pa, ca, rfl, ho'⟩ := ho
  obtain ⟨pb, cb, rfl, hn'⟩ := hn
  have hTR := (treeR L).1 hT
  have hn9 : n ≤ 1024 := by have := hTR.len; omega
  have HA0 := toHid8 (show findE L (bl p.path) = none → allE L [p] = ([], 72, 0) from fun e => by
    rw [all_act hT hR (show actE L p = (L, 72) from by unfold actE hasE; rw [if_neg (by omega), if_pos (by omega), e]; rfl)]; rfl)
  have HA1 := toHid8 (show ∀ x, findE L (bl p.path) = some x → x.kind ≠ 2 → allE L [p] = ([], 73, 0) from fun x e e2 => by
    rw [all_act hT hR (show actE L p = (L, 73) from by unfold actE hasE; rw [if_neg (by omega), if_pos (by omega), e, hk]; simp only [show (4 : Int) / 2 = 2 from rfl, if_neg e2]; rfl)]; rfl)
  have HA2 := toHid8 (show ∀ x, findE L (bl p.path) = some x → x.kind = 2 → ¬ (x.lines.length = 0 ∧ x.data = ⟨#[]⟩ ∧ (children L (bl p.path)).length = 0) → allE L [p] = ([], 81, 0) from fun x e e2 e3 => by
    rw [all_act hT hR (show actE L p = (L, 81) from by
      unfold actE hasE
      rw [if_neg (by omega), if_pos (by omega), e, hk]
      simp only [show (4 : Int) / 2 = 2 from rfl, if_pos e2]
      rw [if_neg (by decide), if_neg (by
        unfold emptyE
        rw [e]
        intro h4
        simp only [Bool.and_eq_true, decide_eq_true_eq] at h4
        have h5 := (find_some e).2
        refine e3 ⟨h4.1.1, h4.1.2, ?_⟩
        rw [← h5]
        refine (child_none hTR (find_some e).1 (by rw [h5]; exact path_ne hR)).1 ?_
        rw [h5]
        exact h4.2)])]; rfl)
  have HA3 := toHid8 (show ∀ x, findE L (bl p.path) = some x → x.kind = 2 → (x.lines.length = 0 ∧ x.data = ⟨#[]⟩ ∧ (children L (bl p.path)).length = 0) → allE L [p] = (delE L (bl p.path), 0, 0) from fun x e e2 e3 => by
    rw [all_act hT hR (show actE L p = (delE L (bl p.path), 0) from by
      unfold actE hasE
      rw [if_neg (by omega), if_pos (by omega), e, hk]
      simp only [show (4 : Int) / 2 = 2 from rfl, if_pos e2]
      rw [if_neg (by decide), if_pos (by
        unfold emptyE
        rw [e]
        simp only [Bool.and_eq_true, decide_eq_true_eq]
        have h5 := (find_some e).2
        refine ⟨⟨e3.1, e3.2.1⟩, ?_⟩
        have := (child_none hTR (find_some e).1 (by rw [h5]; exact path_ne hR)).2 (by rw [h5]; exact e3.2.2)
        rw [h5] at this
        exact this)])]; rfl)
  have HE := toHid8 (show ∀ w', Fr None' w w' → EntsAt w' va L from fun w' f => h.kept f)
  have HO := toHid8 (show ∀ w', Fr None' w w' → StrsAt w' (.slice pa p.old.length ca) p.old from fun w' f => StrsAt.kept ⟨pa, ca, rfl, ho'⟩ f)
  have HN := toHid8 (show ∀ w', Fr None' w w' → StrsAt w' (.slice pb p.new.length cb) p.new from fun w' f => StrsAt.kept ⟨pb, cb, rfl, hn'⟩ f)
  have HLen := toHid8 hl
  have HSp := toHid8 hp
  have HSt := toHid8 hTR.strict
  obtain ⟨w1, hw1⟩ : ∃ w1, w.alloc (.cells #[.int .i64 4, .string p.path, .string p.dst, .string p.src, .int .i64 p.pos, .slice pa p.old.length ca, .slice pb p.new.length cb] 25) = w1 := ⟨_, rfl⟩
  have HF1 := toHid8 (show Fr None' w w1 from hw1 ▸ Fr.alloc None' w _)
  have HB1 := toHid8 (show Box w1 w.heap.size (.int .i64 4) (.string p.path) (.string p.dst) (.string p.src) (.int .i64 p.pos) (.slice pa p.old.length ca) (.slice pb p.new.length cb) from hw1 ▸ Box.new w _ _ _ _ _ _ _)
  have q1 := eright_any va n c L w1 hl (HE.out w1 HF1.out) (by omega) hs
  rw [hT] at q1
  have HQ2 := toHid8 (fun w' (f : Fr None' w w') => dright_any p _ _ w' (HO.out w' f) (HN.out w' f) (smallP_of hp) (linesSmall_of hp))
  rw [hR, hk] at HQ2
  have HSE := toHid8 hs
  have i1 : (n : Int) ≤ 1024 := by omega
  clear h hl hT hk hp hTR ho' hn' hs hR
  go_enter Tryz.func13, Tryz.ntmps13
  go_wp2_with fail
  with_reducible refine q1.mono ?_
  rintro e w2 ⟨rfl, f2⟩
  have HF2 := toHid8 (HF1.out.then7 f2)
  have HB2 := toHid8 (HB1.out.kept f2)
  obtain ⟨p0, p1, p2, p3, p4, p5, p6⟩ := HB2.out.cells
  have q2 := HQ2.out w2 HF2.out
  clear q1 f2
  go_wp2_with fail
  with_reducible refine q2.mono ?_
  rintro e w3 ⟨rfl, f3⟩
  have HF3 := toHid8 (HF2.out.then7 f3)
  have HB3 := toHid8 (HB2.out.kept f3)
  clear q2 f3 p0 p1 p2 p3 p4 p5 p6
  obtain ⟨p0, p1, p2, p3, p4, p5, p6⟩ := HB3.out.cells
  have q3 := vkind_any 4 w3 (by decide)
  rw [show (if (4 : Int) = 1 ∨ (4 : Int) = 2 then (1 : Int) else if (4 : Int) = 5 ∨ (4 : Int) = 6 ∨ (4 : Int) = 9 then 3 else 2) = 2 from by decide] at q3
  go_wp2_with fail
  with_reducible refine q3.mono ?_
  rintro e w4 ⟨rfl, hw4⟩
  rw [hw4]
  clear q3 hw4
  have q4 := efind_any va n c L p.path w3 HLen.out (HE.out w3 HF3.out) (by omega)
  obtain ⟨r, hr⟩ : ∃ r, findE L (bl p.path) = r := ⟨_, rfl⟩
  rw [hr] at q4
  have HFr := toHid8 hr
  clear hr
  cases r with
  | none =>
    have HEq := toHid8 (HA0.out HFr.out)
    unfold FindPost at q4
    simp only at q4
    go_wp2_with fail
    with_reducible refine q4.mono ?_
    rintro e w5 ⟨f5, rfl⟩
    have HF5 := toHid8 (HF3.out.then7 (f5.then7 (Fr.alloc None' w5 (.cells #[.string ⟨#[]⟩, .int .i64 0, .slice none 0 0, .string ⟨#[]⟩] 41))))
    clear q4 f5
    go_wp2_with fail
    go_ret2
    rw [HEq.out]
    exact ⟨none, 0, rfl, (fun j x hj => by simp at hj), fun _ => rfl, HF5.out⟩
  | some x =>
    unfold FindPost at q4
    simp only at q4
    have HXs := toHid8 (HSE.out x (find_some HFr.out).1)
    obtain ⟨P, K, l, Da⟩ := x
    simp only at q4 HXs
    go_wp2_with fail
    with_reducible refine q4.mono ?_
    rintro e w5 ⟨f5, vl, rfl, hs5⟩
    have HS5 := toHid8 hs5
    obtain ⟨pl, cl, rfl, _⟩ := hs5
    obtain ⟨nl, hnl⟩ : ∃ m, l.length = m := ⟨_, rfl⟩
    have HNl := toHid8 hnl
    rw [hnl] at HS5 ⊢
    obtain ⟨w6, hw6⟩ : ∃ x, w5.alloc (.cells #[.string P, .int .i64 K, .slice pl nl cl, .string Da] 41) = x := ⟨_, rfl⟩
    have F6 : Fr None' w5 w6 := hw6 ▸ Fr.alloc None' w5 _
    have HBX := toHid8 (show EBox w6 w5.heap.size (.string P) (.int .i64 K) (.slice pl nl cl) (.string Da) from hw6 ▸ EBox.new w5 _ _ _ _)
    have HF6 := toHid8 (HF3.out.then7 (f5.then7 F6))
    have HB6 := toHid8 (HB3.out.kept (f5.then7 F6))
    have HS6 := toHid8 (HS5.out.kept F6)
    obtain ⟨x0, x1, x2, x3⟩ := HBX.out.cells
    clear q4 f5 F6 p0 p1 p2 p3 p4 p5 p6 HS5 hnl
    obtain ⟨p0, p1, p2, p3, p4, p5, p6⟩ := HB6.out.cells
    by_cases hK : K = 2
    · subst hK
      have q5 := echildren_any va n c L p.path w6 HLen.out (HE.out w6 HF6.out) (by omega) HSE.out
      obtain ⟨N, hN⟩ : ∃ N, (children L (bl p.path)).length = N := ⟨_, rfl⟩
      have HNc := toHid8 hN
      clear hN
      go_wp2_with fail
      with_reducible refine q5.mono ?_
      rintro e w7 ⟨v7, V7, rfl, O7, f7⟩
      obtain ⟨v8, c8, rfl, _⟩ := O7.slice f7
      have HF7 := toHid8 (HF6.out.then7 f7)
      obtain ⟨x0', x1', x2', x3'⟩ := (HBX.out.kept f7).cells
      have HB7 := toHid8 (HB6.out.kept f7)
      rw [HNc.out]
      clear q5 f7 O7 x0 x1 x2 x3 p0 p1 p2 p3 p4 p5 p6
      obtain ⟨p0, p1, p2, p3, p4, p5, p6⟩ := HB7.out.cells
      by_cases hN0 : N = 0
      · subst hN0
        by_cases hl0 : nl = 0
        · subst hl0
          by_cases hd0 : Da.size = 0
          · have hde := empty_of hd0
            have HEq := toHid8 (HA3.out _ HFr.out rfl ⟨HNl.out, hde, HNc.out⟩)
            rw [hde] at x3'
            have q6 := vwithout_any va n c L p.path w7 w7 HLen.out (HE.out w7 HF7.out) (Fr.refl _ _) (by omega)
            clear hde hd0
            go_wp2_with fail
            with_reducible refine q6.mono ?_
            rintro e w8 ⟨v9, V9, rfl, O9, f9⟩
            obtain ⟨va9, c9, rfl, _, hc9, E9, _⟩ := O9.slice f9
            have HF8 := toHid8 (HF7.out.then7 f9)
            have HE9 := toHid8 E9
            have HC9 := toHid8 hc9
            clear q6 O9 f9 E9 hc9
            go_wp2_with fail
            go_ret2
            rw [HEq.out]
            exact ⟨va9, c9, rfl, HE9, HC9, HF8.out⟩
          · have yd := isEmpty_no hd0
            have HEq := toHid8 (HA2.out _ HFr.out rfl (fun e => hd0 (congrArg ByteArray.size (show Da = ⟨#[]⟩ from e.2.1))))
            go_wp2_with fail
            go_ret2
            rw [HEq.out]
            exact ⟨none, 0, rfl, (fun j x hj => by simp at hj), fun _ => rfl, HF7.out⟩
        · have j2 : (0 : Int) < (nl : Int) := by omega
          have HEq := toHid8 (HA2.out _ HFr.out rfl (fun e => hl0 (by rw [← HNl.out]; exact e.1)))
          go_wp2_with fail
          go_ret2
          rw [HEq.out]
          exact ⟨none, 0, rfl, (fun j x hj => by simp at hj), fun _ => rfl, HF7.out⟩
      · have j2 : (0 : Int) < (N : Int) := by omega
        have HEq := toHid8 (HA2.out _ HFr.out rfl (fun e => hN0 (by rw [← HNc.out]; exact e.2.2)))
        go_wp2_with fail
        go_ret2
        rw [HEq.out]
        exact ⟨none, 0, rfl, (fun j x hj => by simp at hj), fun _ => rfl, HF7.out⟩
    · have hK2 : (K == 2) = false := by simpa using hK
      have HEq := toHid8 (HA1.out _ HFr.out hK)
      go_wp2_with fail
      go_ret2
      rw [HEq.out]
      exact ⟨none, 0, rfl, (fun j x hj => by simp at hj), fun _ => rfl, HF6.out⟩

set_option maxHeartbeats 8000000 in
theorem vapply_6 (va : Option Addr) (n c : Nat) (L : List En) (p : Pr) (vo vn : Value) (w : World) (hl : L.length = n) (h : EntsAt w va L) (hT : treeRight L = true) (hR : rightP p = true) (hk : p.kind = 6) (hs : SmallE L) (hp : SmPr p) (ho : StrsAt w vo p.old) (hn : StrsAt w vn p.new) :
    Calls Tryz.prog 13 #[.slice va n c, .agg #[.int .i64 6, .string p.path, .string p.dst, .string p.src, .int .i64 p.pos, vo, vn]] w fun e w' => ApplyPost8 (allE L [p]) w e w' := by
  obtain ⟨pa, ca, rfl, ho'⟩ := ho
  obtain ⟨pb, cb, rfl, hn'⟩ := hn
  have hTR := (treeR L).1 hT
  have hn9 : n ≤ 1024 := by have := hTR.len; omega
  have HA0 := toHid8 (show findE L (bl p.path) = none → allE L [p] = ([], 72, 0) from fun e => by
    rw [all_act hT hR (show actE L p = (L, 72) from by unfold actE hasE; rw [if_neg (by omega), if_pos (by omega), e]; rfl)]; rfl)
  have HA1 := toHid8 (show ∀ x, findE L (bl p.path) = some x → x.kind ≠ 3 → allE L [p] = ([], 73, 0) from fun x e e2 => by
    rw [all_act hT hR (show actE L p = (L, 73) from by unfold actE hasE; rw [if_neg (by omega), if_pos (by omega), e, hk]; simp only [show (6 : Int) / 2 = 3 from rfl, if_neg e2]; rfl)]; rfl)
  have HA2 := toHid8 (show ∀ x, findE L (bl p.path) = some x → x.kind = 3 → ¬ (x.lines.length = 0 ∧ x.data = ⟨#[]⟩ ∧ (children L (bl p.path)).length = 0) → allE L [p] = ([], 81, 0) from fun x e e2 e3 => by
    rw [all_act hT hR (show actE L p = (L, 81) from by
      unfold actE hasE
      rw [if_neg (by omega), if_pos (by omega), e, hk]
      simp only [show (6 : Int) / 2 = 3 from rfl, if_pos e2]
      rw [if_neg (by decide), if_neg (by
        unfold emptyE
        rw [e]
        intro h4
        simp only [Bool.and_eq_true, decide_eq_true_eq] at h4
        have h5 := (find_some e).2
        refine e3 ⟨h4.1.1, h4.1.2, ?_⟩
        rw [← h5]
        refine (child_none hTR (find_some e).1 (by rw [h5]; exact path_ne hR)).1 ?_
        rw [h5]
        exact h4.2)])]; rfl)
  have HA3 := toHid8 (show ∀ x, findE L (bl p.path) = some x → x.kind = 3 → (x.lines.length = 0 ∧ x.data = ⟨#[]⟩ ∧ (children L (bl p.path)).length = 0) → allE L [p] = (delE L (bl p.path), 0, 0) from fun x e e2 e3 => by
    rw [all_act hT hR (show actE L p = (delE L (bl p.path), 0) from by
      unfold actE hasE
      rw [if_neg (by omega), if_pos (by omega), e, hk]
      simp only [show (6 : Int) / 2 = 3 from rfl, if_pos e2]
      rw [if_neg (by decide), if_pos (by
        unfold emptyE
        rw [e]
        simp only [Bool.and_eq_true, decide_eq_true_eq]
        have h5 := (find_some e).2
        refine ⟨⟨e3.1, e3.2.1⟩, ?_⟩
        have := (child_none hTR (find_some e).1 (by rw [h5]; exact path_ne hR)).2 (by rw [h5]; exact e3.2.2)
        rw [h5] at this
        exact this)])]; rfl)
  have HE := toHid8 (show ∀ w', Fr None' w w' → EntsAt w' va L from fun w' f => h.kept f)
  have HO := toHid8 (show ∀ w', Fr None' w w' → StrsAt w' (.slice pa p.old.length ca) p.old from fun w' f => StrsAt.kept ⟨pa, ca, rfl, ho'⟩ f)
  have HN := toHid8 (show ∀ w', Fr None' w w' → StrsAt w' (.slice pb p.new.length cb) p.new from fun w' f => StrsAt.kept ⟨pb, cb, rfl, hn'⟩ f)
  have HLen := toHid8 hl
  have HSp := toHid8 hp
  have HSt := toHid8 hTR.strict
  obtain ⟨w1, hw1⟩ : ∃ w1, w.alloc (.cells #[.int .i64 6, .string p.path, .string p.dst, .string p.src, .int .i64 p.pos, .slice pa p.old.length ca, .slice pb p.new.length cb] 25) = w1 := ⟨_, rfl⟩
  have HF1 := toHid8 (show Fr None' w w1 from hw1 ▸ Fr.alloc None' w _)
  have HB1 := toHid8 (show Box w1 w.heap.size (.int .i64 6) (.string p.path) (.string p.dst) (.string p.src) (.int .i64 p.pos) (.slice pa p.old.length ca) (.slice pb p.new.length cb) from hw1 ▸ Box.new w _ _ _ _ _ _ _)
  have q1 := eright_any va n c L w1 hl (HE.out w1 HF1.out) (by omega) hs
  rw [hT] at q1
  have HQ2 := toHid8 (fun w' (f : Fr None' w w') => dright_any p _ _ w' (HO.out w' f) (HN.out w' f) (smallP_of hp) (linesSmall_of hp))
  rw [hR, hk] at HQ2
  have HSE := toHid8 hs
  have i1 : (n : Int) ≤ 1024 := by omega
  clear h hl hT hk hp hTR ho' hn' hs hR
  go_enter Tryz.func13, Tryz.ntmps13
  go_wp2_with fail
  with_reducible refine q1.mono ?_
  rintro e w2 ⟨rfl, f2⟩
  have HF2 := toHid8 (HF1.out.then7 f2)
  have HB2 := toHid8 (HB1.out.kept f2)
  obtain ⟨p0, p1, p2, p3, p4, p5, p6⟩ := HB2.out.cells
  have q2 := HQ2.out w2 HF2.out
  clear q1 f2
  go_wp2_with fail
  with_reducible refine q2.mono ?_
  rintro e w3 ⟨rfl, f3⟩
  have HF3 := toHid8 (HF2.out.then7 f3)
  have HB3 := toHid8 (HB2.out.kept f3)
  clear q2 f3 p0 p1 p2 p3 p4 p5 p6
  obtain ⟨p0, p1, p2, p3, p4, p5, p6⟩ := HB3.out.cells
  have q3 := vkind_any 6 w3 (by decide)
  rw [show (if (6 : Int) = 1 ∨ (6 : Int) = 2 then (1 : Int) else if (6 : Int) = 5 ∨ (6 : Int) = 6 ∨ (6 : Int) = 9 then 3 else 2) = 3 from by decide] at q3
  go_wp2_with fail
  with_reducible refine q3.mono ?_
  rintro e w4 ⟨rfl, hw4⟩
  rw [hw4]
  clear q3 hw4
  have q4 := efind_any va n c L p.path w3 HLen.out (HE.out w3 HF3.out) (by omega)
  obtain ⟨r, hr⟩ : ∃ r, findE L (bl p.path) = r := ⟨_, rfl⟩
  rw [hr] at q4
  have HFr := toHid8 hr
  clear hr
  cases r with
  | none =>
    have HEq := toHid8 (HA0.out HFr.out)
    unfold FindPost at q4
    simp only at q4
    go_wp2_with fail
    with_reducible refine q4.mono ?_
    rintro e w5 ⟨f5, rfl⟩
    have HF5 := toHid8 (HF3.out.then7 (f5.then7 (Fr.alloc None' w5 (.cells #[.string ⟨#[]⟩, .int .i64 0, .slice none 0 0, .string ⟨#[]⟩] 41))))
    clear q4 f5
    go_wp2_with fail
    go_ret2
    rw [HEq.out]
    exact ⟨none, 0, rfl, (fun j x hj => by simp at hj), fun _ => rfl, HF5.out⟩
  | some x =>
    unfold FindPost at q4
    simp only at q4
    have HXs := toHid8 (HSE.out x (find_some HFr.out).1)
    obtain ⟨P, K, l, Da⟩ := x
    simp only at q4 HXs
    go_wp2_with fail
    with_reducible refine q4.mono ?_
    rintro e w5 ⟨f5, vl, rfl, hs5⟩
    have HS5 := toHid8 hs5
    obtain ⟨pl, cl, rfl, _⟩ := hs5
    obtain ⟨nl, hnl⟩ : ∃ m, l.length = m := ⟨_, rfl⟩
    have HNl := toHid8 hnl
    rw [hnl] at HS5 ⊢
    obtain ⟨w6, hw6⟩ : ∃ x, w5.alloc (.cells #[.string P, .int .i64 K, .slice pl nl cl, .string Da] 41) = x := ⟨_, rfl⟩
    have F6 : Fr None' w5 w6 := hw6 ▸ Fr.alloc None' w5 _
    have HBX := toHid8 (show EBox w6 w5.heap.size (.string P) (.int .i64 K) (.slice pl nl cl) (.string Da) from hw6 ▸ EBox.new w5 _ _ _ _)
    have HF6 := toHid8 (HF3.out.then7 (f5.then7 F6))
    have HB6 := toHid8 (HB3.out.kept (f5.then7 F6))
    have HS6 := toHid8 (HS5.out.kept F6)
    obtain ⟨x0, x1, x2, x3⟩ := HBX.out.cells
    clear q4 f5 F6 p0 p1 p2 p3 p4 p5 p6 HS5 hnl
    obtain ⟨p0, p1, p2, p3, p4, p5, p6⟩ := HB6.out.cells
    by_cases hK : K = 3
    · subst hK
      have q5 := echildren_any va n c L p.path w6 HLen.out (HE.out w6 HF6.out) (by omega) HSE.out
      obtain ⟨N, hN⟩ : ∃ N, (children L (bl p.path)).length = N := ⟨_, rfl⟩
      have HNc := toHid8 hN
      clear hN
      go_wp2_with fail
      with_reducible refine q5.mono ?_
      rintro e w7 ⟨v7, V7, rfl, O7, f7⟩
      obtain ⟨v8, c8, rfl, _⟩ := O7.slice f7
      have HF7 := toHid8 (HF6.out.then7 f7)
      obtain ⟨x0', x1', x2', x3'⟩ := (HBX.out.kept f7).cells
      have HB7 := toHid8 (HB6.out.kept f7)
      rw [HNc.out]
      clear q5 f7 O7 x0 x1 x2 x3 p0 p1 p2 p3 p4 p5 p6
      obtain ⟨p0, p1, p2, p3, p4, p5, p6⟩ := HB7.out.cells
      by_cases hN0 : N = 0
      · subst hN0
        by_cases hl0 : nl = 0
        · subst hl0
          by_cases hd0 : Da.size = 0
          · have hde := empty_of hd0
            have HEq := toHid8 (HA3.out _ HFr.out rfl ⟨HNl.out, hde, HNc.out⟩)
            rw [hde] at x3'
            have q6 := vwithout_any va n c L p.path w7 w7 HLen.out (HE.out w7 HF7.out) (Fr.refl _ _) (by omega)
            clear hde hd0
            go_wp2_with fail
            with_reducible refine q6.mono ?_
            rintro e w8 ⟨v9, V9, rfl, O9, f9⟩
            obtain ⟨va9, c9, rfl, _, hc9, E9, _⟩ := O9.slice f9
            have HF8 := toHid8 (HF7.out.then7 f9)
            have HE9 := toHid8 E9
            have HC9 := toHid8 hc9
            clear q6 O9 f9 E9 hc9
            go_wp2_with fail
            go_ret2
            rw [HEq.out]
            exact ⟨va9, c9, rfl, HE9, HC9, HF8.out⟩
          · have yd := isEmpty_no hd0
            have HEq := toHid8 (HA2.out _ HFr.out rfl (fun e => hd0 (congrArg ByteArray.size (show Da = ⟨#[]⟩ from e.2.1))))
            go_wp2_with fail
            go_ret2
            rw [HEq.out]
            exact ⟨none, 0, rfl, (fun j x hj => by simp at hj), fun _ => rfl, HF7.out⟩
        · have j2 : (0 : Int) < (nl : Int) := by omega
          have HEq := toHid8 (HA2.out _ HFr.out rfl (fun e => hl0 (by rw [← HNl.out]; exact e.1)))
          go_wp2_with fail
          go_ret2
          rw [HEq.out]
          exact ⟨none, 0, rfl, (fun j x hj => by simp at hj), fun _ => rfl, HF7.out⟩
      · have j2 : (0 : Int) < (N : Int) := by omega
        have HEq := toHid8 (HA2.out _ HFr.out rfl (fun e => hN0 (by rw [← HNc.out]; exact e.2.2)))
        go_wp2_with fail
        go_ret2
        rw [HEq.out]
        exact ⟨none, 0, rfl, (fun j x hj => by simp at hj), fun _ => rfl, HF7.out⟩
    · have hK2 : (K == 3) = false := by simpa using hK
      have HEq := toHid8 (HA1.out _ HFr.out hK)
      go_wp2_with fail
      go_ret2
      rw [HEq.out]
      exact ⟨none, 0, rfl, (fun j x hj => by simp at hj), fun _ => rfl, HF6.out⟩

set_option maxHeartbeats 8000000 in
theorem vapply_9 (va : Option Addr) (n c : Nat) (L : List En) (p : Pr) (vo vn : Value) (w : World) (hl : L.length = n) (h : EntsAt w va L) (hT : treeRight L = true) (hR : rightP p = true) (hk : p.kind = 9) (hs : SmallE L) (hp : SmPr p) (ho : StrsAt w vo p.old) (hn : StrsAt w vn p.new) :
    Calls Tryz.prog 13 #[.slice va n c, .agg #[.int .i64 9, .string p.path, .string p.dst, .string p.src, .int .i64 p.pos, vo, vn]] w fun e w' => ApplyPost8 (allE L [p]) w e w' := by
  obtain ⟨pa, ca, rfl, ho'⟩ := ho
  obtain ⟨pb, cb, rfl, hn'⟩ := hn
  have hTR := (treeR L).1 hT
  have hn9 : n ≤ 1024 := by have := hTR.len; omega
  have HA0 := toHid8 (show findE L (bl p.path) = none → allE L [p] = ([], 72, 0) from fun e => by
    rw [all_act hT hR (show actE L p = (L, 72) from by unfold actE hasE; rw [if_neg (by omega), if_neg (by omega), if_neg (by omega), e]; rfl)]; rfl)
  have HA1 := toHid8 (show ∀ x, findE L (bl p.path) = some x → x.kind ≠ 3 → allE L [p] = ([], 73, 0) from fun x e e2 => by
    rw [all_act hT hR (show actE L p = (L, 73) from by unfold actE; rw [if_neg (by omega), if_neg (by omega), if_neg (by omega), show (if p.kind = 9 then (3 : Int) else 2) = 3 from by rw [hk]; rfl]; unfold hasE; rw [e]; simp only [if_neg e2]; rfl)]; rfl)
  have HA2 := toHid8 (show ∀ x, findE L (bl p.path) = some x → x.kind = 3 → withE x p = none → allE L [p] = ([], 81, 0) from fun x e e2 e3 => by
    rw [all_act hT hR (show actE L p = (L, 81) from by
      unfold actE
      rw [if_neg (by omega), if_neg (by omega), if_neg (by omega), show (if p.kind = 9 then (3 : Int) else 2) = 3 from by rw [hk]; rfl]
      unfold hasE
      rw [e]
      simp only [if_pos e2, e3]
      rfl)]; rfl)
  have HA3 := toHid8 (show ∀ x y, findE L (bl p.path) = some x → x.kind = 3 → withE x p = some y → allE L [p] = (putE L y, 0, 0) from fun x y e e2 e3 => by
    rw [all_act hT hR (show actE L p = (putE L y, 0) from by
      unfold actE
      rw [if_neg (by omega), if_neg (by omega), if_neg (by omega), show (if p.kind = 9 then (3 : Int) else 2) = 3 from by rw [hk]; rfl]
      unfold hasE
      rw [e]
      simp only [if_pos e2, e3]
      rfl)]; rfl)
  have HE := toHid8 (show ∀ w', Fr None' w w' → EntsAt w' va L from fun w' f => h.kept f)
  have HO := toHid8 (show ∀ w', Fr None' w w' → StrsAt w' (.slice pa p.old.length ca) p.old from fun w' f => StrsAt.kept ⟨pa, ca, rfl, ho'⟩ f)
  have HN := toHid8 (show ∀ w', Fr None' w w' → StrsAt w' (.slice pb p.new.length cb) p.new from fun w' f => StrsAt.kept ⟨pb, cb, rfl, hn'⟩ f)
  have HLen := toHid8 hl
  have HSp := toHid8 hp
  have HSt := toHid8 hTR.strict
  obtain ⟨w1, hw1⟩ : ∃ w1, w.alloc (.cells #[.int .i64 9, .string p.path, .string p.dst, .string p.src, .int .i64 p.pos, .slice pa p.old.length ca, .slice pb p.new.length cb] 25) = w1 := ⟨_, rfl⟩
  have HF1 := toHid8 (show Fr None' w w1 from hw1 ▸ Fr.alloc None' w _)
  have HB1 := toHid8 (show Box w1 w.heap.size (.int .i64 9) (.string p.path) (.string p.dst) (.string p.src) (.int .i64 p.pos) (.slice pa p.old.length ca) (.slice pb p.new.length cb) from hw1 ▸ Box.new w _ _ _ _ _ _ _)
  have q1 := eright_any va n c L w1 hl (HE.out w1 HF1.out) (by omega) hs
  rw [hT] at q1
  have HQ2 := toHid8 (fun w' (f : Fr None' w w') => dright_any p _ _ w' (HO.out w' f) (HN.out w' f) (smallP_of hp) (linesSmall_of hp))
  rw [hR, hk] at HQ2
  have HSE := toHid8 hs
  have HKd := toHid8 hk
  have i1 : (n : Int) ≤ 1024 := by omega
  clear h hl hT hk hp hTR ho' hn' hs hR
  go_enter Tryz.func13, Tryz.ntmps13
  go_wp2_with fail
  with_reducible refine q1.mono ?_
  rintro e w2 ⟨rfl, f2⟩
  have HF2 := toHid8 (HF1.out.then7 f2)
  have HB2 := toHid8 (HB1.out.kept f2)
  obtain ⟨p0, p1, p2, p3, p4, p5, p6⟩ := HB2.out.cells
  have q2 := HQ2.out w2 HF2.out
  clear q1 f2
  go_wp2_with fail
  with_reducible refine q2.mono ?_
  rintro e w3 ⟨rfl, f3⟩
  have HF3 := toHid8 (HF2.out.then7 f3)
  have HB3 := toHid8 (HB2.out.kept f3)
  clear q2 f3 p0 p1 p2 p3 p4 p5 p6
  obtain ⟨p0, p1, p2, p3, p4, p5, p6⟩ := HB3.out.cells
  have q3 := vkind_any 9 w3 (by decide)
  rw [show (if (9 : Int) = 1 ∨ (9 : Int) = 2 then (1 : Int) else if (9 : Int) = 5 ∨ (9 : Int) = 6 ∨ (9 : Int) = 9 then 3 else 2) = 3 from by decide] at q3
  go_wp2_with fail
  with_reducible refine q3.mono ?_
  rintro e w4 ⟨rfl, hw4⟩
  rw [hw4]
  clear q3 hw4
  have q4 := efind_any va n c L p.path w3 HLen.out (HE.out w3 HF3.out) (by omega)
  obtain ⟨r, hr⟩ : ∃ r, findE L (bl p.path) = r := ⟨_, rfl⟩
  rw [hr] at q4
  have HFr := toHid8 hr
  clear hr
  cases r with
  | none =>
    have HEq := toHid8 (HA0.out HFr.out)
    unfold FindPost at q4
    simp only at q4
    go_wp2_with fail
    with_reducible refine q4.mono ?_
    rintro e w5 ⟨f5, rfl⟩
    have HF5 := toHid8 (HF3.out.then7 (f5.then7 (Fr.alloc None' w5 (.cells #[.string ⟨#[]⟩, .int .i64 0, .slice none 0 0, .string ⟨#[]⟩] 41))))
    clear q4 f5
    go_wp2_with fail
    go_ret2
    rw [HEq.out]
    exact ⟨none, 0, rfl, (fun j x hj => by simp at hj), fun _ => rfl, HF5.out⟩
  | some x =>
    unfold FindPost at q4
    simp only at q4
    have HXs := toHid8 (HSE.out x (find_some HFr.out).1)
    obtain ⟨P, K, l, Da⟩ := x
    simp only at q4 HXs
    go_wp2_with fail
    with_reducible refine q4.mono ?_
    rintro e w5 ⟨f5, vl, rfl, hs5⟩
    have HS5 := toHid8 hs5
    obtain ⟨pl, cl, rfl, _⟩ := hs5
    obtain ⟨nl, hnl⟩ : ∃ m, l.length = m := ⟨_, rfl⟩
    have HNl := toHid8 hnl
    rw [hnl] at HS5 ⊢
    obtain ⟨w6, hw6⟩ : ∃ x, w5.alloc (.cells #[.string P, .int .i64 K, .slice pl nl cl, .string Da] 41) = x := ⟨_, rfl⟩
    have F6 : Fr None' w5 w6 := hw6 ▸ Fr.alloc None' w5 _
    have HBX := toHid8 (show EBox w6 w5.heap.size (.string P) (.int .i64 K) (.slice pl nl cl) (.string Da) from hw6 ▸ EBox.new w5 _ _ _ _)
    have HF6 := toHid8 (HF3.out.then7 (f5.then7 F6))
    have HB6 := toHid8 (HB3.out.kept (f5.then7 F6))
    have HS6 := toHid8 (HS5.out.kept F6)
    obtain ⟨x0, x1, x2, x3⟩ := HBX.out.cells
    clear q4 f5 F6 p0 p1 p2 p3 p4 p5 p6 HS5 hnl
    obtain ⟨p0, p1, p2, p3, p4, p5, p6⟩ := HB6.out.cells
    by_cases hK : K = 3
    · subst hK
      have q5 := vchange_9 ⟨P, 3, l, Da⟩ p pl nl cl _ _ w6 HS6.out (HO.out w6 HF6.out) (HN.out w6 HF6.out) HKd.out
      rw [HKd.out] at q5
      obtain ⟨r, hr⟩ : ∃ r, withE ⟨P, 3, l, Da⟩ p = r := ⟨_, rfl⟩
      rw [hr] at q5
      have HWr := toHid8 hr
      clear hr
      unfold WithPost at q5
      go_wp2_with fail
      with_reducible refine q5.mono ?_
      rintro e w7 ⟨P7, K7, ua7, um7, uc7, D7, b7, rfl, Hb7, HY7, f7⟩
      obtain ⟨w8, hw8⟩ : ∃ x, w7.alloc (.cells #[.string P7, .int .i64 K7, .slice ua7 um7 uc7, .string D7] 41) = x := ⟨_, rfl⟩
      have F8 : Fr None' w7 w8 := hw8 ▸ Fr.alloc None' w7 _
      have HF8 := toHid8 (HF6.out.then7 (f7.then7 F8))
      have F8' := toHid8 F8
      obtain ⟨y0, y1, y2, y3⟩ := (hw8 ▸ EBox.new w7 _ _ _ _ : EBox w8 w7.heap.size (.string P7) (.int .i64 K7) (.slice ua7 um7 uc7) (.string D7)).cells
      clear q5 f7 F8 x0 x1 x2 x3 p0 p1 p2 p3 p4 p5 p6
      cases b7 with
      | false =>
        have HEq := toHid8 (HA2.out _ HFr.out rfl (by
          cases r with
          | none => exact HWr.out
          | some y => have := Hb7.out; cases this))
        go_wp2_with fail
        go_ret2
        rw [HEq.out]
        exact ⟨none, 0, rfl, (fun j x hj => by simp at hj), fun _ => rfl, HF8.out⟩
      | true =>
        cases r with
        | none => have := Hb7.out; cases this
        | some y =>
          obtain ⟨rfl, rfl, rfl, hy4⟩ := HY7.out y rfl
          have HEq := toHid8 (HA3.out _ y HFr.out rfl HWr.out)
          have q6 := vput_any va n c L y (.slice ua7 um7 uc7) w8 HLen.out (HE.out w8 HF8.out) (by omega) (hy4.kept F8'.out) HSt.out
          unfold RowPost at q6
          go_wp2_with fail
          with_reducible refine q6.mono ?_
          rintro e w9 ⟨v9, c9, rfl, HE9, HC9, f9⟩
          have HF9 := toHid8 (HF8.out.then7 f9)
          clear q6 f9
          go_wp2_with fail
          go_ret2
          rw [HEq.out]
          exact ⟨v9, c9, rfl, HE9, HC9, HF9.out⟩
    · have hK2 : (K == 3) = false := by simpa using hK
      have HEq := toHid8 (HA1.out _ HFr.out hK)
      go_wp2_with fail
      go_ret2
      rw [HEq.out]
      exact ⟨none, 0, rfl, (fun j x hj => by simp at hj), fun _ => rfl, HF6.out⟩

end Go.Proofs.YtcpjneejlfgkeaaGreatDoor

namespace Go.Proofs.YtcpjneejlfgkeaaGreatDoor
open Go.RowKit
set_option maxRecDepth 100000

set_option maxHeartbeats 8000000 in
theorem vapply_no (va : Option Addr) (n c : Nat) (L : List En) (p : Pr) (vo vn : Value) (w : World) (hl : L.length = n) (h : EntsAt w va L) (hn9 : n ≤ 90000) (hs : SmallE L) (hp : SmPr p) (ho : StrsAt w vo p.old) (hn : StrsAt w vn p.new) (hNo : (treeRight L && rightP p) = false) :
    Calls Tryz.prog 13 #[.slice va n c, .agg #[.int .i64 p.kind, .string p.path, .string p.dst, .string p.src, .int .i64 p.pos, vo, vn]] w fun e w' => ApplyPost8 (allE L [p]) w e w' := by
  have HEq := toHid8 (show allE L [p] = ([], 1, 0) from by
    cases ht : treeRight L with
    | false => exact runE_bad ht
    | true =>
      rw [ht, Bool.true_and] at hNo
      rw [runE_good ht, runE]
      have hd : doE L p = (L, 1) := by unfold doE; rw [if_neg (by rw [hNo]; simp)]
      rw [hd]
      rfl)
  obtain ⟨pa, ca, rfl, ho'⟩ := ho
  obtain ⟨pb, cb, rfl, hn'⟩ := hn
  have HO := toHid8 (show ∀ w', Fr None' w w' → StrsAt w' (.slice pa p.old.length ca) p.old from fun w' f => StrsAt.kept ⟨pa, ca, rfl, ho'⟩ f)
  have HN := toHid8 (show ∀ w', Fr None' w w' → StrsAt w' (.slice pb p.new.length cb) p.new from fun w' f => StrsAt.kept ⟨pb, cb, rfl, hn'⟩ f)
  obtain ⟨w1, hw1⟩ : ∃ w1, w.alloc (.cells #[.int .i64 p.kind, .string p.path, .string p.dst, .string p.src, .int .i64 p.pos, .slice pa p.old.length ca, .slice pb p.new.length cb] 25) = w1 := ⟨_, rfl⟩
  have HF1 := toHid8 (show Fr None' w w1 from hw1 ▸ Fr.alloc None' w _)
  have HB1 := toHid8 (show Box w1 w.heap.size (.int .i64 p.kind) (.string p.path) (.string p.dst) (.string p.src) (.int .i64 p.pos) (.slice pa p.old.length ca) (.slice pb p.new.length cb) from hw1 ▸ Box.new w _ _ _ _ _ _ _)
  have q1 := eright_any va n c L w1 hl (h.kept HF1.out) (by omega) hs
  have HQ2 := toHid8 (fun w' (f : Fr None' w w') => dright_any p _ _ w' (HO.out w' f) (HN.out w' f) (smallP_of hp) (linesSmall_of hp))
  have HNo := toHid8 hNo
  clear h hl hs hp ho' hn' hNo
  obtain ⟨bt, hbt⟩ : ∃ b, treeRight L = b := ⟨_, rfl⟩
  obtain ⟨bp, hbp⟩ : ∃ b, rightP p = b := ⟨_, rfl⟩
  rw [hbt] at q1 HNo
  rw [hbp] at HQ2 HNo
  clear hbt hbp
  go_enter Tryz.func13, Tryz.ntmps13
  go_wp2_with fail
  with_reducible refine q1.mono ?_
  rintro e w2 ⟨rfl, f2⟩
  have HF2 := toHid8 (HF1.out.then7 f2)
  have HB2 := toHid8 (HB1.out.kept f2)
  obtain ⟨p0, p1, p2, p3, p4, p5, p6⟩ := HB2.out.cells
  have q2 := HQ2.out w2 HF2.out
  clear q1 f2
  cases bt with
  | false =>
    go_wp2_with fail
    go_ret2
    rw [HEq.out]
    exact ⟨none, 0, rfl, (fun j x hj => by simp at hj), fun _ => rfl, HF2.out⟩
  | true =>
    cases bp with
    | true => cases HNo.out
    | false =>
      go_wp2_with fail
      with_reducible refine q2.mono ?_
      rintro e w3 ⟨rfl, f3⟩
      have HF3 := toHid8 (HF2.out.then7 f3)
      clear q2 f3
      go_wp2_with fail
      go_ret2
      rw [HEq.out]
      exact ⟨none, 0, rfl, (fun j x hj => by simp at hj), fun _ => rfl, HF3.out⟩

set_option maxHeartbeats 8000000 in
theorem vapply_10 (va : Option Addr) (n c : Nat) (L : List En) (p : Pr) (vo vn : Value) (w : World) (hl : L.length = n) (h : EntsAt w va L) (hT : treeRight L = true) (hR : rightP p = true) (hk : p.kind = 10) (hs : SmallE L) (hp : SmPr p) (ho : StrsAt w vo p.old) (hn : StrsAt w vn p.new) :
    Calls Tryz.prog 13 #[.slice va n c, .agg #[.int .i64 10, .string p.path, .string p.dst, .string p.src, .int .i64 p.pos, vo, vn]] w fun e w' => ApplyPost8 (allE L [p]) w e w' := by
  obtain ⟨pa, ca, rfl, ho'⟩ := ho
  obtain ⟨pb, cb, rfl, hn'⟩ := hn
  have hn9 : n ≤ 1024 := by have := ((treeR L).1 hT).len; omega
  have HO := toHid8 (show ∀ w', Fr None' w w' → StrsAt w' (.slice pa p.old.length ca) p.old from fun w' f => StrsAt.kept ⟨pa, ca, rfl, ho'⟩ f)
  have HN := toHid8 (show ∀ w', Fr None' w w' → StrsAt w' (.slice pb p.new.length cb) p.new from fun w' f => StrsAt.kept ⟨pb, cb, rfl, hn'⟩ f)
  obtain ⟨w1, hw1⟩ : ∃ w1, w.alloc (.cells #[.int .i64 10, .string p.path, .string p.dst, .string p.src, .int .i64 p.pos, .slice pa p.old.length ca, .slice pb p.new.length cb] 25) = w1 := ⟨_, rfl⟩
  have HF1 := toHid8 (show Fr None' w w1 from hw1 ▸ Fr.alloc None' w _)
  have HB1 := toHid8 (show Box w1 w.heap.size (.int .i64 10) (.string p.path) (.string p.dst) (.string p.src) (.int .i64 p.pos) (.slice pa p.old.length ca) (.slice pb p.new.length cb) from hw1 ▸ Box.new w _ _ _ _ _ _ _)
  have q1 := eright_any va n c L w1 hl (h.kept HF1.out) (by omega) hs
  have HQ2 := toHid8 (fun w' (f : Fr None' w w') => dright_any p _ _ w' (HO.out w' f) (HN.out w' f) (smallP_of hp) (linesSmall_of hp))
  have HQ3 := toHid8 (fun w' (f : Fr None' w w') => vmove_any va n c L p _ _ w' hl (h.kept f) hT hR hk hp (HO.out w' f) (HN.out w' f))
  rw [hT] at q1
  rw [hR, hk] at HQ2
  rw [hk] at HQ3
  unfold ApplyPost8 at HQ3
  clear h hl hs hp ho' hn' hT hR hk
  go_enter Tryz.func13, Tryz.ntmps13
  go_wp2_with fail
  with_reducible refine q1.mono ?_
  rintro e w2 ⟨rfl, f2⟩
  have HF2 := toHid8 (HF1.out.then7 f2)
  have HB2 := toHid8 (HB1.out.kept f2)
  obtain ⟨p0, p1, p2, p3, p4, p5, p6⟩ := HB2.out.cells
  have q2 := HQ2.out w2 HF2.out
  clear q1 f2
  go_wp2_with fail
  with_reducible refine q2.mono ?_
  rintro e w3 ⟨rfl, f3⟩
  have HF3 := toHid8 (HF2.out.then7 f3)
  have HB3 := toHid8 (HB2.out.kept f3)
  clear q2 f3 p0 p1 p2 p3 p4 p5 p6
  obtain ⟨p0, p1, p2, p3, p4, p5, p6⟩ := HB3.out.cells
  have q3 := HQ3.out w3 HF3.out
  obtain ⟨r, hr⟩ : ∃ r, allE L [p] = r := ⟨_, rfl⟩
  rw [hr] at q3
  obtain ⟨R, er, kk⟩ := r
  have HEq := toHid8 hr
  simp only at q3
  clear hr HQ3
  go_wp2_with fail
  with_reducible refine q3.mono ?_
  rintro e w4 ⟨v4, c4, rfl, HE4, HC4, f4⟩
  have HF4 := toHid8 (HF3.out.then7 f4)
  clear q3 f4
  go_wp2_with fail
  go_ret2
  rw [HEq.out]
  exact ⟨v4, c4, rfl, HE4, HC4, HF4.out⟩

end Go.Proofs.YtcpjneejlfgkeaaGreatDoor

namespace Go.Proofs.YtcpjneejlfgkeaaGreatDoor
open Go.RowKit
set_option maxRecDepth 100000

theorem rdapply3_any (l o n : List ByteArray) (x : Int) (ua : Option Addr) (um uc : Nat) (po pn : Option Addr) (no nn co cn : Nat) (w : World) (hl : StrsAt w (.slice ua um uc) l) (ho : StrsAt w (.slice po no co) o) (hn : StrsAt w (.slice pn nn cn) n) (l1 : l.length ≤ 400000) (l2 : o.length ≤ 400000) (l3 : n.length ≤ 400000) (hx : -9223372036854775808 ≤ x ∧ x < 9223372036854775808) :
    Calls Tryz.prog 26 #[.slice ua um uc, .agg #[.int .i64 x, .slice po no co, .slice pn nn cn]] w fun e w' => ∃ (va : Option Addr) (m c : Nat) (b : Bool), e = .returned (.tuple #[.slice va m c, .bool b]) ∧ Hid (b = (hunkL l x o n).isSome) ∧ Hid (∀ l', hunkL l x o n = some l' → StrsAt w' (.slice va m c) l') ∧ Hid (∀ l', hunkL l x o n = some l' → ∀ k, (Value.slice va m c).ownBlock = some k → w.heap.size ≤ k) ∧ Fr None' w w' := by
  obtain ⟨va, c, e1, a1, a2, a3⟩ := hl
  obtain ⟨vb, c', e2, b1, b2, b3⟩ := ho
  obtain ⟨vc, c'', e3, d1, d2, d3⟩ := hn
  cases e1; cases e2; cases e3
  refine (Diff.rapply_arg2 x ⟨a3, rfl, a2, a1⟩ ⟨b3, rfl, b2, b1⟩ ⟨d3, rfl, d2, d1⟩ l1 l2 l3 hx).mono ?_
  rintro e w' ⟨f, h⟩
  rw [hunk_apply] at h
  cases hr : hunkL l x o n with
  | none =>
    rw [hr] at h
    exact ⟨none, 0, 0, false, h, rfl, (fun l' e => by cases e), (fun l' e => by cases e), ofD f⟩
  | some l' =>
    rw [hr] at h
    obtain ⟨v, he, hO⟩ := h
    have hO : w'.ownsRow w.heap.size 9 1 v l'.length (l'.map Value.string) := by
      have := hO
      unfold Diff.OwnV at this
      rw [List.length_map] at this
      exact this
    have hs := own_strs hO
    have hge := fun k (e : v.ownBlock = some k) => own_ge hO e
    obtain ⟨va', c', rfl, q⟩ := hs
    exact ⟨va', l'.length, c', true, he, rfl, (fun l'' e => by cases e; exact ⟨va', c', rfl, q⟩), (fun l'' _ => hge), ofD f⟩

set_option maxHeartbeats 4000000 in
theorem vchange_7b (x : En) (p : Pr) (ua : Option Addr) (um uc : Nat) (vo vn : Value) (w : World) (hx : StrsAt w (.slice ua um uc) x.lines) (ho : StrsAt w vo p.old) (hn : StrsAt w vn p.new) (hk : p.kind = 7) (l1 : x.lines.length ≤ 400000) (l2 : p.old.length ≤ 400000) (l3 : p.new.length ≤ 400000) (hp : -9223372036854775808 ≤ p.pos ∧ p.pos < 9223372036854775808) :
    Calls Tryz.prog 33 #[.agg #[.string x.path, .int .i64 x.kind, .slice ua um uc, .string x.data], .agg #[.int .i64 p.kind, .string p.path, .string p.dst, .string p.src, .int .i64 p.pos, vo, vn]] w fun e w' => WithPost (withE x p) w e w' := by
  have HW := toHid8 (show withE x p = (hunkL x.lines p.pos p.old p.new).map (fun l => { x with lines := l }) from by unfold withE; rw [if_pos hk])
  rw [HW.out]
  obtain ⟨pa, ca, rfl, ho'⟩ := ho
  obtain ⟨pb, cb, rfl, hn'⟩ := hn
  have HA := toHid8 (fun w' (f : Fr None' w w') => rdapply3_any x.lines p.old p.new p.pos ua um uc pa pb p.old.length p.new.length ca cb w' (hx.kept f) (StrsAt.kept ⟨pa, ca, rfl, ho'⟩ f) (StrsAt.kept ⟨pb, cb, rfl, hn'⟩ f) l1 l2 l3 hp)
  clear HW hx ho' hn' l1 l2 l3 hp
  obtain ⟨P, K, l, D⟩ := x
  obtain ⟨K2, P2, T2, F2, A2, lO, lN⟩ := p
  simp only at HA hk ⊢
  subst hk
  generalize hunkL l A2 lO lN = R at HA ⊢
  generalize lO.length = no at HA ⊢
  generalize lN.length = nn at HA ⊢
  obtain ⟨w1, hw1⟩ : ∃ w1, w.alloc (.cells #[.string P, .int .i64 K, .slice ua um uc, .string D] 41) = w1 := ⟨_, rfl⟩
  obtain ⟨w2, hw2⟩ : ∃ w2, w1.alloc (.cells #[.int .i64 7, .string P2, .string T2, .string F2, .int .i64 A2, .slice pa no ca, .slice pb nn cb] 25) = w2 := ⟨_, rfl⟩
  obtain ⟨w3, hw3⟩ : ∃ w3, w2.alloc (.cells #[.string ⟨#[]⟩, .int .i64 0, .slice none 0 0, .string ⟨#[]⟩] 41) = w3 := ⟨_, rfl⟩
  have F1 : Fr None' w w1 := hw1 ▸ Fr.alloc None' w _
  have F2' : Fr None' w1 w2 := hw2 ▸ Fr.alloc None' w1 _
  have F3 : Fr None' w2 w3 := hw3 ▸ Fr.alloc None' w2 _
  have s1 : w1.heap.size = w.heap.size + 1 := by rw [← hw1]; simp
  have s2 : w2.heap.size = w1.heap.size + 1 := by rw [← hw2]; simp
  have s3 : w3.heap.size = w2.heap.size + 1 := by rw [← hw3]; simp
  have BX : EBox w3 w.heap.size (.string P) (.int .i64 K) (.slice ua um uc) (.string D) := ((hw1 ▸ EBox.new w _ _ _ _ : EBox w1 _ _ _ _ _).kept F2').kept F3
  have BP : Box w3 w1.heap.size (.int .i64 7) (.string P2) (.string T2) (.string F2) (.int .i64 A2) (.slice pa no ca) (.slice pb nn cb) := (hw2 ▸ Box.new w1 _ _ _ _ _ _ _ : Box w2 _ _ _ _ _ _ _ _).kept F3
  have BR : EBox w3 w2.heap.size (.string ⟨#[]⟩) (.int .i64 0) (.slice none 0 0) (.string ⟨#[]⟩) := hw3 ▸ EBox.new w2 _ _ _ _
  have HF := toHid8 ((F1.then7 F2').then7 F3)
  have HS := toHid8 (And.intro s1 (And.intro s2 s3))
  obtain ⟨x0, x1, x2, x3⟩ := BX.cells
  obtain ⟨p0, p1, p2, p3, p4, p5, p6⟩ := BP.cells
  have HBX := toHid8 BX
  have HBR := toHid8 BR
  have cA := HA.out w3 HF.out
  clear BX BP BR F1 F2' F3 s1 s2 s3 HA
  go_enter Tryz.func33, Tryz.ntmps33
  go_wp2_with fail
  with_reducible refine cA.mono ?_
  rintro e w4 ⟨va, m, c, b, rfl, Hb, HL, HZ, f4⟩
  clear cA x0 x1 x2 x3 p0 p1 p2 p3 p4 p5 p6
  have BX4 := HBX.out.kept f4
  have BR4 := HBR.out.kept f4
  obtain ⟨x0, x1, x2, x3⟩ := BX4.cells
  have xz := BX4.frozen
  obtain ⟨w5, hw5⟩ : ∃ w5, w4.setCell ⟨w.heap.size, 2, none⟩ (.slice va m c) = w5 := ⟨_, rfl⟩
  have F5 : Fr (fun k => k = w.heap.size) w4 w5 := hw5 ▸ Fr.setCell (M := fun k => k = w.heap.size) (a := ⟨w.heap.size, 2, none⟩) w4 rfl _
  have BX5 : EBox w5 w.heap.size (.string P) (.int .i64 K) (.slice va m c) (.string D) := hw5 ▸ BX4.set2 _
  have BR5 : EBox w5 w2.heap.size (.string ⟨#[]⟩) (.int .i64 0) (.slice none 0 0) (.string ⟨#[]⟩) := BR4.fr F5 (fun e => by have e : w2.heap.size = w.heap.size := e; have := HS.out; omega)
  obtain ⟨e0, e1, e2, e3⟩ := BX5.cells
  obtain ⟨r0, r1, r2, r3⟩ := BR5.cells
  have rz := BR5.frozen
  have HBR5 := toHid8 BR5
  have HF5 := toHid8 ((HF.out.then7 f4).trans F5 (fun i e => Or.inr (by have e : i = w.heap.size := e; omega)))
  have HN := toHid8 (show ∀ l', R = some l' → ∀ W, Fr (fun k => k = w2.heap.size) w5 W → StrsAt W (.slice va m c) l' from fun l' e W f => by
    have h4 := HL.out l' e
    have hz := HZ.out l' e
    refine (h4.far F5 (fun hl k ek ek' => ?_)).far f (fun hl k ek ek' => ?_)
    · have := hz k ek; have e' : k = w.heap.size := ek'; have := HS.out; omega
    · have := hz k ek; have e' : k = w2.heap.size := ek'; have := HS.out; omega)
  clear BX4 BR4 BX5 BR5 F5 HL f4 HBX HBR
  go_wp2_with fail
  obtain ⟨hld, hfs, hfr⟩ := fin_entry HF5.out HBR5.out (by have := HS.out; omega) (.string P) (.int .i64 K) (.slice va m c) (.string D)
  refine bodyPost_ret (v := .tuple #[.agg #[.string P, .int .i64 K, .slice va m c, .string D], .bool b]) (by rw [results_cell_tmp rfl]; simp [asAddr, Result.andThen, hld]) rfl ?_
  refine ⟨P, K, va, m, c, D, b, rfl, ?_, fun y hy => ?_, hfr⟩
  · show b = _
    rw [Hb.out]
    cases R <;> rfl
  · obtain ⟨l', e, rfl⟩ := Option.map_eq_some_iff.1 hy
    exact ⟨rfl, rfl, rfl, HN.out l' e _ hfs⟩



theorem rtokens8b_any (s : ByteArray) (w : World) (hs : SmLine s) : Calls Tryz.prog 45 #[.string s] w fun e w' => ∃ (l : List ByteArray) (va : Option Addr) (n c : Nat), e = .returned (.slice va n c) ∧ Hid (Lines.bs l = Lines.pieces (bl s) ∧ l.length = n ∧ Lines.Row w' va l) ∧ Fr None' w w' := by
  refine (Lines.rTokens2_any s w (Nat.lt_of_le_of_lt hs.size (by decide)) (Nat.le_trans hs.1 (by decide))).mono ?_
  rintro e w' ⟨v, rfl, h⟩
  obtain ⟨l, h1, va, c, h2, _, h3⟩ := h.is
  exact ⟨l, va, l.length, c, by rw [h2], ⟨h1, rfl, h3⟩, ofLN h.fr⟩

theorem rreplace8b_any (y f t : ByteArray) (w : World) (h1 : SmLine y) (h2 : f.size ≤ 4000) (h3 : t.size ≤ 4000) : Calls Tryz.prog 46 #[.string y, .string f, .string t] w fun e w' => e = .returned (.string (repB f t y)) ∧ Fr None' w w' :=
  (Lines.rReplace2_any y f t w (Nat.lt_of_le_of_lt h1.size (by decide)) (Nat.le_trans h1.1 (by decide)) (fun q hq => Nat.le_trans (h1.2 q hq) (by decide)) (Nat.le_trans h2 (by decide)) (Nat.le_trans h3 (by decide))).mono fun _ _ ⟨a, b⟩ => ⟨a, ofLN b⟩

set_option maxHeartbeats 8000000 in
theorem vchange_8b (x : En) (p : Pr) (ua : Option Addr) (um uc : Nat) (vo vn : Value) (w : World) (hx : StrsAt w (.slice ua um uc) x.lines) (ho : StrsAt w vo p.old) (hn : StrsAt w vn p.new) (hk : p.kind = 8) (l1 : x.lines.length ≤ 400000) (l2 : ∀ y ∈ x.lines, SmLine y) (l3 : p.src.size ≤ 4000 ∧ p.dst.size ≤ 4000) :
    Calls Tryz.prog 33 #[.agg #[.string x.path, .int .i64 x.kind, .slice ua um uc, .string x.data], .agg #[.int .i64 p.kind, .string p.path, .string p.dst, .string p.src, .int .i64 p.pos, vo, vn]] w fun e w' => WithPost (withE x p) w e w' := by
  have HW := toHid8 (show withE x p = (tokensL x.lines p.src p.dst).map (fun l => { x with lines := l }) from by unfold withE; rw [if_neg (by omega), if_pos hk])
  rw [HW.out]
  clear HW
  have HX := toHid8 hx
  obtain ⟨P, K, l, D⟩ := x
  obtain ⟨K2, P2, T2, F2, A2, lO, lN⟩ := p
  simp only at hx ho hn HX l1 l2 l3 hk ⊢
  subst hk
  obtain ⟨pa, ca, rfl, _⟩ := ho
  obtain ⟨pb, cb, rfl, _⟩ := hn
  obtain ⟨va0, c0, e0, _, _, hrow⟩ := hx
  cases e0
  have HR := toHid8 hrow
  have HL2 := toHid8 l2
  have i1 : (l.length : Int) ≤ 400000 := by omega
  have HB3 := toHid8 l3
  clear hrow l2 l3
  generalize lO.length = no
  generalize lN.length = nn
  obtain ⟨w1, hw1⟩ : ∃ w1, w.alloc (.cells #[.string P, .int .i64 K, .slice ua l.length uc, .string D] 41) = w1 := ⟨_, rfl⟩
  obtain ⟨w2, hw2⟩ : ∃ w2, w1.alloc (.cells #[.int .i64 8, .string P2, .string T2, .string F2, .int .i64 A2, .slice pa no ca, .slice pb nn cb] 25) = w2 := ⟨_, rfl⟩
  obtain ⟨w3, hw3⟩ : ∃ w3, w2.alloc (.cells #[.string ⟨#[]⟩, .int .i64 0, .slice none 0 0, .string ⟨#[]⟩] 41) = w3 := ⟨_, rfl⟩
  have F1 : Fr None' w w1 := hw1 ▸ Fr.alloc None' w _
  have F2' : Fr None' w1 w2 := hw2 ▸ Fr.alloc None' w1 _
  have F3 : Fr None' w2 w3 := hw3 ▸ Fr.alloc None' w2 _
  have s1 : w1.heap.size = w.heap.size + 1 := by rw [← hw1]; simp
  have s2 : w2.heap.size = w1.heap.size + 1 := by rw [← hw2]; simp
  have s3 : w3.heap.size = w2.heap.size + 1 := by rw [← hw3]; simp
  have BX : EBox w3 w.heap.size (.string P) (.int .i64 K) (.slice ua l.length uc) (.string D) := ((hw1 ▸ EBox.new w _ _ _ _ : EBox w1 _ _ _ _ _).kept F2').kept F3
  have BP : Box w3 w1.heap.size (.int .i64 8) (.string P2) (.string T2) (.string F2) (.int .i64 A2) (.slice pa no ca) (.slice pb nn cb) := (hw2 ▸ Box.new w1 _ _ _ _ _ _ _ : Box w2 _ _ _ _ _ _ _ _).kept F3
  have BR : EBox w3 w2.heap.size (.string ⟨#[]⟩) (.int .i64 0) (.slice none 0 0) (.string ⟨#[]⟩) := hw3 ▸ EBox.new w2 _ _ _ _
  have HF := toHid8 ((F1.then7 F2').then7 F3)
  have HS := toHid8 (And.intro s1 (And.intro s2 s3))
  have HBX := toHid8 BX
  have HBP := toHid8 BP
  have HBR := toHid8 BR
  obtain ⟨x0, x1, x2, x3⟩ := BX.cells
  obtain ⟨q0, q1, q2, q3, q4, q5, q6⟩ := BP.cells
  clear BX BP BR F1 F2' F3 s1 s2 s3
  go_enter Tryz.func33, Tryz.ntmps33
  go_wp2_with fail
  clear x0 x1 x2 x3 q0 q1 q2 q3 q4 q5 q6
  go_loopw [9, 10] (fun v vi wr => ∃ (k : Nat), k ≤ l.length ∧ vi = .int .i64 k ∧ Hid (Lines.OwnS w3 wr v ((l.take k).map (repB F2 T2))) ∧ Hid (Fr None' w3 wr) ∧ Hid (∀ j (hj : j < l.length), j < k → bl T2 ∉ Lines.pieces (bl l[j]))) (fun _ vi _ => l.length - (intOf vi).toNat)
  case atStart => exact ⟨0, Nat.zero_le _, rfl, Lines.OwnS.nil _ _, Fr.refl _ _, fun j _ h => by omega⟩
  case round =>
    obtain ⟨k, hk, rfl, HO, HFr, HT⟩ := hrel
    obtain ⟨va, vc, hv, _⟩ := HO.out.slice
    subst hv
    by_cases hlt : k < l.length
    · obtain ⟨g, o, rfl, d0⟩ := HR.out k l[k] (List.getElem?_eq_getElem hlt)
      have HD0 := toHid8 (show ∀ w', Fr None' w3 w' → w'.cell? ⟨g, o + k, none⟩ = some (.string l[k]) from fun w' f => (HF.out.then7 f).keepCell d0 (fun e => e))
      replace d0 := HD0.out wr HFr.out
      have hm := List.getElem_mem hlt
      have z1 := HL2.out _ hm
      have HY := toHid8 (show bl T2 ∈ Lines.pieces (bl l[k]) → tokensL l F2 T2 = none from fun e => tokens_none hm e)
      have HN := toHid8 (show bl T2 ∉ Lines.pieces (bl l[k]) → ∀ j (hj : j < l.length), j < k + 1 → bl T2 ∉ Lines.pieces (bl l[j]) from fun h j hj hlt => by
        by_cases e : j = k
        · subst e; exact h
        · exact HT.out j hj (by omega))
      have HK := toHid8 (show (l.take (k + 1)).map (repB F2 T2) = (l.take k).map (repB F2 T2) ++ [repB F2 T2 l[k]] from by
        rw [List.take_succ_eq_append_getElem hlt, List.map_append]
        rfl)
      have HR3 := toHid8 (fun w' => rreplace8b_any l[k] F2 T2 w' z1 HB3.out.1 HB3.out.2)
      generalize l[k] = y at d0 z1 HY HN HK HR3 HD0
      clear hm
      have i2 : (k : Int) < (l.length : Int) := by omega
      have i3 : (0 : Int) ≤ (k : Int) := by omega
      have hmk : ((l.take k).map (repB F2 T2)).length = k := by rw [List.length_map, List.length_take]; omega
      rw [hmk] at HO
      rw [hmk]
      have cT := rtokens8b_any y wr z1
      obtain ⟨x0, x1, x2, x3⟩ := (HBX.out.kept HFr.out).cells
      have HNl := toHid8 (show ∀ l' : List ByteArray, Lines.bs l' = Lines.pieces (bl y) → l'.length < 100000 from fun l' h => by
        have h1 := z1.1
        have h2 := congrArg List.length h
        unfold Lines.bs at h2
        rw [List.length_map] at h2
        omega)
      clear z1 hmk HT
      go_wp2_with fail
      with_reducible refine cT.mono ?_
      rintro e w4 ⟨l', va4, n4, c4, rfl, HM, f4⟩
      have i4 : (n4 : Int) < 100000 := by have := HNl.out l' HM.out.1; have := HM.out.2.1; omega
      have HF4' := toHid8 (HFr.out.then7 f4)
      have HO4' := toHid8 (HO.out.fr (toLN f4))
      clear cT f4 x0 x1 x2 x3 HNl HO
      go_wp2_with fail
      go_loopw [12] (fun vj w4' => ∃ j : Nat, j ≤ n4 ∧ vj = .int .i64 j ∧ Hid (Fr None' w4 w4') ∧ Hid (∀ i (hi : i < l'.length), i < j → ¬ l'[i] = T2)) (fun vj _ => n4 - (intOf vj).toNat)
      case atStart => exact ⟨0, Nat.zero_le _, rfl, Fr.refl _ _, fun i _ h => by omega⟩
      case round =>
        obtain ⟨j, hj, rfl, HFj, HT2⟩ := hrel
        have HF4 := toHid8 (HF4'.out.then7 HFj.out)
        have HO4 := toHid8 (HO4'.out.fr (toLN HFj.out))
        obtain ⟨q0, q1, q2, q3, q4, q5, q6⟩ := (HBP.out.kept HF4.out).cells
        by_cases hjt : j < n4
        · have hjl : j < l'.length := by rw [HM.out.2.1]; exact hjt
          obtain ⟨g4, o4, rfl, d4⟩ := (HM.out.2.2.fr (toLN HFj.out)) j l'[j] (List.getElem?_eq_getElem hjl)
          have HYj := toHid8 (show l'[j] = T2 → bl T2 ∈ Lines.pieces (bl y) from fun e => (tok_in HM.out.1 T2).1 (e ▸ List.getElem_mem hjl))
          have HNj := toHid8 (show ¬ l'[j] = T2 → ∀ i (hi : i < l'.length), i < j + 1 → ¬ l'[i] = T2 from fun h i hi hlt => by
            by_cases e : i = j
            · subst e; exact h
            · exact HT2.out i hi (by omega))
          generalize l'[j] = z at d4 HYj HNj
          have i5 : (j : Int) < (n4 : Int) := by omega
          have i6 : (0 : Int) ≤ (j : Int) := by omega
          by_cases e : z = T2
          · subst e
            have HE := toHid8 (HY.out (HYj.out rfl))
            clear HY HN HK HR3 HYj HNj HO4 HO4' HT2
            go_wp2_with fail
            go_quiet (fail)
            have FX := Fr.drewN None' wr nq
            generalize wr.drewN nq = wX at FX ⊢
            replace HF4 := toHid8 (HF4.out.then7 FX)
            obtain ⟨x0, x1, x2, x3⟩ := (HBX.out.kept HF4.out).cells
            have BR4 := HBR.out.kept HF4.out
            obtain ⟨r0, r1, r2, r3⟩ := BR4.cells
            have rz := BR4.frozen
            have HBR4 := toHid8 BR4
            clear BR4
            go_wp2_with fail
            obtain ⟨hld, hfs, hfr⟩ := fin_entry (HF.out.then7 HF4.out) HBR4.out (by have := HS.out; omega) (.string P) (.int .i64 K) (.slice (some ⟨g, o, none⟩) l.length uc) (.string D)
            refine bodyPost_ret (v := .tuple #[.agg #[.string P, .int .i64 K, .slice (some ⟨g, o, none⟩) l.length uc, .string D], .bool false]) (by rw [results_cell_tmp rfl]; simp [asAddr, Result.andThen, hld]) rfl ?_
            rw [HE.out]
            exact ⟨P, K, some ⟨g, o, none⟩, l.length, uc, D, false, rfl, rfl, fun y hy => (by cases hy), hfr⟩
          · obtain ⟨t1, t2⟩ := str_no7 e
            have HN3 := toHid8 (HNj.out e)
            clear HYj HNj HT2 e
            go_wp2_with fail
            go_quiet (fail)
            have FX := Fr.drewN None' wr nq
            generalize wr.drewN nq = wX at FX ⊢
            have HFk := toHid8 (HFj.out.then7 FX)
            go_wp2_with fail
            exact ⟨⟨j + 1, by omega, by go_num, HFk.out, HN3.out⟩, by simp [intOf]; omega⟩
        · have HN2 := toHid8 (HN.out (fun e => by
            obtain ⟨i, hi, e2⟩ := List.getElem_of_mem ((tok_in HM.out.1 T2).2 e)
            exact HT2.out i hi (by have := HM.out.2.1; omega) e2))
          have HI := toHid8 (show ∀ w', Fr None' w3 w' → Fr None' w3 w' ∧ w'.cell? ⟨w.heap.size, 2, none⟩ = some (.slice (some ⟨g, o, none⟩) l.length uc) ∧ w'.cell? ⟨g, o + k, none⟩ = some (.string y) ∧ w'.cell? ⟨w1.heap.size, 3, none⟩ = some (.string F2) ∧ w'.cell? ⟨w1.heap.size, 2, none⟩ = some (.string T2) from fun w' f => ⟨f, (HBX.out.kept f).cells.2.2.1, HD0.out w' f, (HBP.out.kept f).cells.2.2.2.1, (HBP.out.kept f).cells.2.2.1⟩)
          have i7 : ¬ (j : Int) < (n4 : Int) := by omega
          have frr := HF4.out
          have HAp := toHid8 (fun w5 (f5 : Fr None' wr w5) => app_str8 ((HO4.out.fr (toLN f5)).alloc (.cells #[.string (repB F2 T2 y)] 9)) ((HF4.out.then7 f5).then7 (Fr.alloc None' w5 _)) w5.heap.size (repB F2 T2 y) (by rw [World.cell?, heap_alloc_new]; rfl) (by rw [List.length_map, List.length_take]; omega))
          clear HY HN HM HT2 q0 q1 q2 q3 q4 q5 q6 d0
          go_wp2_with fail
          go_region_held3 (fun w' => Fr None' w3 w' ∧ w'.cell? ⟨w.heap.size, 2, none⟩ = some (.slice (some ⟨g, o, none⟩) l.length uc) ∧ w'.cell? ⟨g, o + k, none⟩ = some (.string y) ∧ w'.cell? ⟨w1.heap.size, 3, none⟩ = some (.string F2) ∧ w'.cell? ⟨w1.heap.size, 2, none⟩ = some (.string T2))
            (exact HI.out _ (by first | with_reducible assumption | with_reducible exact Fr.then7 frr (Fr.drew None' _) | with_reducible exact Fr.then7 g6 (Fr.alloc None' _ _) | with_reducible exact Fr.then7 g6 (Fr.drew None' _)))
            (first
              | (go_at_call 46; with_reducible (refine (HR3.out _).mono ?_); rintro e w5 ⟨rfl, f5⟩; have g5 := Fr.then7 (show Fr None' wr _ by first | exact Fr.refl _ _ | exact Fr.drew None' _) f5; have g6 := Fr.then7 frr g5; obtain ⟨v6, w6, hr6, HO6, F6⟩ := HAp.out w5 g5)
              | (refine step_app8 rfl (.tmp 73) (.tmp 84) rfl (by first | rfl | simp [Act.eval]) (by first | rfl | simp [Act.eval]) hr6 ?_))
          go_wp2_with fail
          refine ⟨⟨k + 1, by omega, by go_num, ?_, F6, HN2.out⟩, by simp [intOf]; omega⟩
          show Lines.OwnS _ _ _ _
          rw [HK.out]
          exact HO6
    · have e : k = l.length := by omega
      subst e
      have HE := toHid8 (tokens_all (f := F2) (t := T2) (l := l) (fun j hj => HT.out j hj hj))
      have HO2 := toHid8 (show Lines.OwnS w3 wr (.slice va (l.map (repB F2 T2)).length vc) (l.map (repB F2 T2)) from by
        have h := HO.out
        rw [List.take_length] at h
        exact h)
      rw [List.take_length]
      obtain ⟨x0, x1, x2, x3⟩ := (HBX.out.kept HFr.out).cells
      have xz := (HBX.out.kept HFr.out).frozen
      obtain ⟨w5, hw5⟩ : ∃ w5, wr.setCell ⟨w.heap.size, 2, none⟩ (.slice va (l.map (repB F2 T2)).length vc) = w5 := ⟨_, rfl⟩
      have F5 : Fr (fun k => k = w.heap.size) wr w5 := hw5 ▸ Fr.setCell (M := fun k => k = w.heap.size) (a := ⟨w.heap.size, 2, none⟩) wr rfl _
      have BX5 : EBox w5 w.heap.size (.string P) (.int .i64 K) (.slice va (l.map (repB F2 T2)).length vc) (.string D) := hw5 ▸ (HBX.out.kept HFr.out).set2 _
      have BR5 : EBox w5 w2.heap.size (.string ⟨#[]⟩) (.int .i64 0) (.slice none 0 0) (.string ⟨#[]⟩) := (HBR.out.kept HFr.out).fr F5 (fun e => by have e : w2.heap.size = w.heap.size := e; have := HS.out; omega)
      obtain ⟨e0, e1, e2, e3⟩ := BX5.cells
      obtain ⟨r0, r1, r2, r3⟩ := BR5.cells
      have rz := BR5.frozen
      have HBR5 := toHid8 BR5
      have HF5 := toHid8 ((HF.out.then7 HFr.out).trans F5 (fun i e => Or.inr (by have e : i = w.heap.size := e; omega)))
      have HN := toHid8 (show ∀ W, Fr (fun k => k = w2.heap.size) w5 W → StrsAt W (.slice va (l.map (repB F2 T2)).length vc) (l.map (repB F2 T2)) from fun W f => by
        have hO : wr.ownsRow w3.heap.size 9 1 (.slice va (l.map (repB F2 T2)).length vc) (l.map (repB F2 T2)).length ((l.map (repB F2 T2)).map Value.string) := HO2.out
        have h4 := own_strs hO
        have hz := fun k (e : (Value.slice va (l.map (repB F2 T2)).length vc).ownBlock = some k) => own_ge hO e
        refine (h4.far F5 (fun hl k ek ek' => ?_)).far f (fun hl k ek ek' => ?_)
        · have := hz k ek; have e' : k = w.heap.size := ek'; have := HS.out; omega
        · have := hz k ek; have e' : k = w2.heap.size := ek'; have := HS.out; omega)
      clear BX5 BR5 F5 HBX HBR HO HO2 HT HR HX HBP
      generalize hmm : l.map (repB F2 T2) = M at *
      go_wp2_with fail
      obtain ⟨hld, hfs, hfr⟩ := fin_entry HF5.out HBR5.out (by have := HS.out; omega) (.string P) (.int .i64 K) (.slice va M.length vc) (.string D)
      refine bodyPost_ret (v := .tuple #[.agg #[.string P, .int .i64 K, .slice va M.length vc, .string D], .bool true]) (by rw [results_cell_tmp rfl]; simp [asAddr, Result.andThen, hld]) rfl ?_
      rw [HE.out]
      exact ⟨P, K, va, M.length, vc, D, true, rfl, rfl, fun y hy => (by cases hy; exact ⟨rfl, rfl, rfl, HN.out _ hfs⟩), hfr⟩

end Go.Proofs.YtcpjneejlfgkeaaGreatDoor

namespace Go.Proofs.YtcpjneejlfgkeaaGreatDoor
open Go.RowKit
set_option maxRecDepth 100000

/-- Lines that are small enough for the document's change, in a row of patches. -/
def LnDoc2 (L : List En) : Prop := ∀ x ∈ L, x.lines.length ≤ 400000 ∧ ∀ y ∈ x.lines, SmLine y

set_option maxHeartbeats 8000000 in
theorem vapply_7b (va : Option Addr) (n c : Nat) (L : List En) (p : Pr) (vo vn : Value) (w : World) (hl : L.length = n) (h : EntsAt w va L) (hT : treeRight L = true) (hR : rightP p = true) (hk : p.kind = 7) (hs : SmallE L) (hB : LnDoc2 L) (hp : SmPr p) (ho : StrsAt w vo p.old) (hn : StrsAt w vn p.new) :
    Calls Tryz.prog 13 #[.slice va n c, .agg #[.int .i64 7, .string p.path, .string p.dst, .string p.src, .int .i64 p.pos, vo, vn]] w fun e w' => ApplyPost8 (allE L [p]) w e w' := by
  obtain ⟨pa, ca, rfl, ho'⟩ := ho
  obtain ⟨pb, cb, rfl, hn'⟩ := hn
  have hTR := (treeR L).1 hT
  have hn9 : n ≤ 1024 := by have := hTR.len; omega
  have HA0 := toHid8 (show findE L (bl p.path) = none → allE L [p] = ([], 72, 0) from fun e => by
    rw [all_act hT hR (show actE L p = (L, 72) from by unfold actE hasE; rw [if_neg (by omega), if_neg (by omega), if_neg (by omega), e]; rfl)]; rfl)
  have HA1 := toHid8 (show ∀ x, findE L (bl p.path) = some x → x.kind ≠ 2 → allE L [p] = ([], 73, 0) from fun x e e2 => by
    rw [all_act hT hR (show actE L p = (L, 73) from by unfold actE; rw [if_neg (by omega), if_neg (by omega), if_neg (by omega), show (if p.kind = 9 then (3 : Int) else 2) = 2 from by rw [hk]; rfl]; unfold hasE; rw [e]; simp only [if_neg e2]; rfl)]; rfl)
  have HA2 := toHid8 (show ∀ x, findE L (bl p.path) = some x → x.kind = 2 → withE x p = none → allE L [p] = ([], 81, 0) from fun x e e2 e3 => by
    rw [all_act hT hR (show actE L p = (L, 81) from by
      unfold actE
      rw [if_neg (by omega), if_neg (by omega), if_neg (by omega), show (if p.kind = 9 then (3 : Int) else 2) = 2 from by rw [hk]; rfl]
      unfold hasE
      rw [e]
      simp only [if_pos e2, e3]
      rfl)]; rfl)
  have HA3 := toHid8 (show ∀ x y, findE L (bl p.path) = some x → x.kind = 2 → withE x p = some y → allE L [p] = (putE L y, 0, 0) from fun x y e e2 e3 => by
    rw [all_act hT hR (show actE L p = (putE L y, 0) from by
      unfold actE
      rw [if_neg (by omega), if_neg (by omega), if_neg (by omega), show (if p.kind = 9 then (3 : Int) else 2) = 2 from by rw [hk]; rfl]
      unfold hasE
      rw [e]
      simp only [if_pos e2, e3]
      rfl)]; rfl)
  have HE := toHid8 (show ∀ w', Fr None' w w' → EntsAt w' va L from fun w' f => h.kept f)
  have HO := toHid8 (show ∀ w', Fr None' w w' → StrsAt w' (.slice pa p.old.length ca) p.old from fun w' f => StrsAt.kept ⟨pa, ca, rfl, ho'⟩ f)
  have HN := toHid8 (show ∀ w', Fr None' w w' → StrsAt w' (.slice pb p.new.length cb) p.new from fun w' f => StrsAt.kept ⟨pb, cb, rfl, hn'⟩ f)
  have HLen := toHid8 hl
  have HSp := toHid8 hp
  have HSt := toHid8 hTR.strict
  obtain ⟨w1, hw1⟩ : ∃ w1, w.alloc (.cells #[.int .i64 7, .string p.path, .string p.dst, .string p.src, .int .i64 p.pos, .slice pa p.old.length ca, .slice pb p.new.length cb] 25) = w1 := ⟨_, rfl⟩
  have HF1 := toHid8 (show Fr None' w w1 from hw1 ▸ Fr.alloc None' w _)
  have HB1 := toHid8 (show Box w1 w.heap.size (.int .i64 7) (.string p.path) (.string p.dst) (.string p.src) (.int .i64 p.pos) (.slice pa p.old.length ca) (.slice pb p.new.length cb) from hw1 ▸ Box.new w _ _ _ _ _ _ _)
  have q1 := eright_any va n c L w1 hl (HE.out w1 HF1.out) (by omega) hs
  rw [hT] at q1
  have HQ2 := toHid8 (fun w' (f : Fr None' w w') => dright_any p _ _ w' (HO.out w' f) (HN.out w' f) (smallP_of hp) (linesSmall_of hp))
  rw [hR, hk] at HQ2
  have HSE := toHid8 hs
  have HKd := toHid8 hk
  have HBx := toHid8 hB
  have HPos := toHid8 (lines_pos hR hk)
  have i1 : (n : Int) ≤ 1024 := by omega
  clear h hl hT hk hp hTR ho' hn' hs hR hB
  go_enter Tryz.func13, Tryz.ntmps13
  go_wp2_with fail
  with_reducible refine q1.mono ?_
  rintro e w2 ⟨rfl, f2⟩
  have HF2 := toHid8 (HF1.out.then7 f2)
  have HB2 := toHid8 (HB1.out.kept f2)
  obtain ⟨p0, p1, p2, p3, p4, p5, p6⟩ := HB2.out.cells
  have q2 := HQ2.out w2 HF2.out
  clear q1 f2
  go_wp2_with fail
  with_reducible refine q2.mono ?_
  rintro e w3 ⟨rfl, f3⟩
  have HF3 := toHid8 (HF2.out.then7 f3)
  have HB3 := toHid8 (HB2.out.kept f3)
  clear q2 f3 p0 p1 p2 p3 p4 p5 p6
  obtain ⟨p0, p1, p2, p3, p4, p5, p6⟩ := HB3.out.cells
  have q3 := vkind_any 7 w3 (by decide)
  rw [show (if (7 : Int) = 1 ∨ (7 : Int) = 2 then (1 : Int) else if (7 : Int) = 5 ∨ (7 : Int) = 6 ∨ (7 : Int) = 9 then 3 else 2) = 2 from by decide] at q3
  go_wp2_with fail
  with_reducible refine q3.mono ?_
  rintro e w4 ⟨rfl, hw4⟩
  rw [hw4]
  clear q3 hw4
  have q4 := efind_any va n c L p.path w3 HLen.out (HE.out w3 HF3.out) (by omega)
  obtain ⟨r, hr⟩ : ∃ r, findE L (bl p.path) = r := ⟨_, rfl⟩
  rw [hr] at q4
  have HFr := toHid8 hr
  clear hr
  cases r with
  | none =>
    have HEq := toHid8 (HA0.out HFr.out)
    unfold FindPost at q4
    simp only at q4
    go_wp2_with fail
    with_reducible refine q4.mono ?_
    rintro e w5 ⟨f5, rfl⟩
    have HF5 := toHid8 (HF3.out.then7 (f5.then7 (Fr.alloc None' w5 (.cells #[.string ⟨#[]⟩, .int .i64 0, .slice none 0 0, .string ⟨#[]⟩] 41))))
    clear q4 f5
    go_wp2_with fail
    go_ret2
    rw [HEq.out]
    exact ⟨none, 0, rfl, (fun j x hj => by simp at hj), fun _ => rfl, HF5.out⟩
  | some x =>
    unfold FindPost at q4
    simp only at q4
    have HXs := toHid8 (HSE.out x (find_some HFr.out).1)
    have HXl := toHid8 (HBx.out x (find_some HFr.out).1)
    obtain ⟨P, K, l, Da⟩ := x
    simp only at q4 HXs HXl
    go_wp2_with fail
    with_reducible refine q4.mono ?_
    rintro e w5 ⟨f5, vl, rfl, hs5⟩
    have HS5 := toHid8 hs5
    obtain ⟨pl, cl, rfl, _⟩ := hs5
    obtain ⟨nl, hnl⟩ : ∃ m, l.length = m := ⟨_, rfl⟩
    have HNl := toHid8 hnl
    rw [hnl] at HS5 ⊢
    obtain ⟨w6, hw6⟩ : ∃ x, w5.alloc (.cells #[.string P, .int .i64 K, .slice pl nl cl, .string Da] 41) = x := ⟨_, rfl⟩
    have F6 : Fr None' w5 w6 := hw6 ▸ Fr.alloc None' w5 _
    have HBX := toHid8 (show EBox w6 w5.heap.size (.string P) (.int .i64 K) (.slice pl nl cl) (.string Da) from hw6 ▸ EBox.new w5 _ _ _ _)
    have HF6 := toHid8 (HF3.out.then7 (f5.then7 F6))
    have HB6 := toHid8 (HB3.out.kept (f5.then7 F6))
    have HS6 := toHid8 (HS5.out.kept F6)
    obtain ⟨x0, x1, x2, x3⟩ := HBX.out.cells
    clear q4 f5 F6 p0 p1 p2 p3 p4 p5 p6 HS5 hnl
    obtain ⟨p0, p1, p2, p3, p4, p5, p6⟩ := HB6.out.cells
    by_cases hK : K = 2
    · subst hK
      have q5 := vchange_7b ⟨P, 2, l, Da⟩ p pl nl cl _ _ w6 HS6.out (HO.out w6 HF6.out) (HN.out w6 HF6.out) HKd.out (by have := HXl.out.1; simpa using this) (by have := HSp.out.old; omega) (by have := HSp.out.new; omega) HPos.out
      rw [HKd.out] at q5
      obtain ⟨r, hr⟩ : ∃ r, withE ⟨P, 2, l, Da⟩ p = r := ⟨_, rfl⟩
      rw [hr] at q5
      have HWr := toHid8 hr
      clear hr
      unfold WithPost at q5
      go_wp2_with fail
      with_reducible refine q5.mono ?_
      rintro e w7 ⟨P7, K7, ua7, um7, uc7, D7, b7, rfl, Hb7, HY7, f7⟩
      obtain ⟨w8, hw8⟩ : ∃ x, w7.alloc (.cells #[.string P7, .int .i64 K7, .slice ua7 um7 uc7, .string D7] 41) = x := ⟨_, rfl⟩
      have F8 : Fr None' w7 w8 := hw8 ▸ Fr.alloc None' w7 _
      have HF8 := toHid8 (HF6.out.then7 (f7.then7 F8))
      have F8' := toHid8 F8
      obtain ⟨y0, y1, y2, y3⟩ := (hw8 ▸ EBox.new w7 _ _ _ _ : EBox w8 w7.heap.size (.string P7) (.int .i64 K7) (.slice ua7 um7 uc7) (.string D7)).cells
      clear q5 f7 F8 x0 x1 x2 x3 p0 p1 p2 p3 p4 p5 p6
      cases b7 with
      | false =>
        have HEq := toHid8 (HA2.out _ HFr.out rfl (by
          cases r with
          | none => exact HWr.out
          | some y => have := Hb7.out; cases this))
        go_wp2_with fail
        go_ret2
        rw [HEq.out]
        exact ⟨none, 0, rfl, (fun j x hj => by simp at hj), fun _ => rfl, HF8.out⟩
      | true =>
        cases r with
        | none => have := Hb7.out; cases this
        | some y =>
          obtain ⟨rfl, rfl, rfl, hy4⟩ := HY7.out y rfl
          have HEq := toHid8 (HA3.out _ y HFr.out rfl HWr.out)
          have q6 := vput_any va n c L y (.slice ua7 um7 uc7) w8 HLen.out (HE.out w8 HF8.out) (by omega) (hy4.kept F8'.out) HSt.out
          unfold RowPost at q6
          go_wp2_with fail
          with_reducible refine q6.mono ?_
          rintro e w9 ⟨v9, c9, rfl, HE9, HC9, f9⟩
          have HF9 := toHid8 (HF8.out.then7 f9)
          clear q6 f9
          go_wp2_with fail
          go_ret2
          rw [HEq.out]
          exact ⟨v9, c9, rfl, HE9, HC9, HF9.out⟩
    · have hK2 : (K == 2) = false := by simpa using hK
      have HEq := toHid8 (HA1.out _ HFr.out hK)
      go_wp2_with fail
      go_ret2
      rw [HEq.out]
      exact ⟨none, 0, rfl, (fun j x hj => by simp at hj), fun _ => rfl, HF6.out⟩

set_option maxHeartbeats 8000000 in
theorem vapply_8b (va : Option Addr) (n c : Nat) (L : List En) (p : Pr) (vo vn : Value) (w : World) (hl : L.length = n) (h : EntsAt w va L) (hT : treeRight L = true) (hR : rightP p = true) (hk : p.kind = 8) (hs : SmallE L) (hB : LnDoc2 L) (hp : SmPr p) (ho : StrsAt w vo p.old) (hn : StrsAt w vn p.new) :
    Calls Tryz.prog 13 #[.slice va n c, .agg #[.int .i64 8, .string p.path, .string p.dst, .string p.src, .int .i64 p.pos, vo, vn]] w fun e w' => ApplyPost8 (allE L [p]) w e w' := by
  obtain ⟨pa, ca, rfl, ho'⟩ := ho
  obtain ⟨pb, cb, rfl, hn'⟩ := hn
  have hTR := (treeR L).1 hT
  have hn9 : n ≤ 1024 := by have := hTR.len; omega
  have HA0 := toHid8 (show findE L (bl p.path) = none → allE L [p] = ([], 72, 0) from fun e => by
    rw [all_act hT hR (show actE L p = (L, 72) from by unfold actE hasE; rw [if_neg (by omega), if_neg (by omega), if_neg (by omega), e]; rfl)]; rfl)
  have HA1 := toHid8 (show ∀ x, findE L (bl p.path) = some x → x.kind ≠ 2 → allE L [p] = ([], 73, 0) from fun x e e2 => by
    rw [all_act hT hR (show actE L p = (L, 73) from by unfold actE; rw [if_neg (by omega), if_neg (by omega), if_neg (by omega), show (if p.kind = 9 then (3 : Int) else 2) = 2 from by rw [hk]; rfl]; unfold hasE; rw [e]; simp only [if_neg e2]; rfl)]; rfl)
  have HA2 := toHid8 (show ∀ x, findE L (bl p.path) = some x → x.kind = 2 → withE x p = none → allE L [p] = ([], 81, 0) from fun x e e2 e3 => by
    rw [all_act hT hR (show actE L p = (L, 81) from by
      unfold actE
      rw [if_neg (by omega), if_neg (by omega), if_neg (by omega), show (if p.kind = 9 then (3 : Int) else 2) = 2 from by rw [hk]; rfl]
      unfold hasE
      rw [e]
      simp only [if_pos e2, e3]
      rfl)]; rfl)
  have HA3 := toHid8 (show ∀ x y, findE L (bl p.path) = some x → x.kind = 2 → withE x p = some y → allE L [p] = (putE L y, 0, 0) from fun x y e e2 e3 => by
    rw [all_act hT hR (show actE L p = (putE L y, 0) from by
      unfold actE
      rw [if_neg (by omega), if_neg (by omega), if_neg (by omega), show (if p.kind = 9 then (3 : Int) else 2) = 2 from by rw [hk]; rfl]
      unfold hasE
      rw [e]
      simp only [if_pos e2, e3]
      rfl)]; rfl)
  have HE := toHid8 (show ∀ w', Fr None' w w' → EntsAt w' va L from fun w' f => h.kept f)
  have HO := toHid8 (show ∀ w', Fr None' w w' → StrsAt w' (.slice pa p.old.length ca) p.old from fun w' f => StrsAt.kept ⟨pa, ca, rfl, ho'⟩ f)
  have HN := toHid8 (show ∀ w', Fr None' w w' → StrsAt w' (.slice pb p.new.length cb) p.new from fun w' f => StrsAt.kept ⟨pb, cb, rfl, hn'⟩ f)
  have HLen := toHid8 hl
  have HSp := toHid8 hp
  have HSt := toHid8 hTR.strict
  obtain ⟨w1, hw1⟩ : ∃ w1, w.alloc (.cells #[.int .i64 8, .string p.path, .string p.dst, .string p.src, .int .i64 p.pos, .slice pa p.old.length ca, .slice pb p.new.length cb] 25) = w1 := ⟨_, rfl⟩
  have HF1 := toHid8 (show Fr None' w w1 from hw1 ▸ Fr.alloc None' w _)
  have HB1 := toHid8 (show Box w1 w.heap.size (.int .i64 8) (.string p.path) (.string p.dst) (.string p.src) (.int .i64 p.pos) (.slice pa p.old.length ca) (.slice pb p.new.length cb) from hw1 ▸ Box.new w _ _ _ _ _ _ _)
  have q1 := eright_any va n c L w1 hl (HE.out w1 HF1.out) (by omega) hs
  rw [hT] at q1
  have HQ2 := toHid8 (fun w' (f : Fr None' w w') => dright_any p _ _ w' (HO.out w' f) (HN.out w' f) (smallP_of hp) (linesSmall_of hp))
  rw [hR, hk] at HQ2
  have HSE := toHid8 hs
  have HKd := toHid8 hk
  have HBx := toHid8 hB
  have i1 : (n : Int) ≤ 1024 := by omega
  clear h hl hT hk hp hTR ho' hn' hs hR hB
  go_enter Tryz.func13, Tryz.ntmps13
  go_wp2_with fail
  with_reducible refine q1.mono ?_
  rintro e w2 ⟨rfl, f2⟩
  have HF2 := toHid8 (HF1.out.then7 f2)
  have HB2 := toHid8 (HB1.out.kept f2)
  obtain ⟨p0, p1, p2, p3, p4, p5, p6⟩ := HB2.out.cells
  have q2 := HQ2.out w2 HF2.out
  clear q1 f2
  go_wp2_with fail
  with_reducible refine q2.mono ?_
  rintro e w3 ⟨rfl, f3⟩
  have HF3 := toHid8 (HF2.out.then7 f3)
  have HB3 := toHid8 (HB2.out.kept f3)
  clear q2 f3 p0 p1 p2 p3 p4 p5 p6
  obtain ⟨p0, p1, p2, p3, p4, p5, p6⟩ := HB3.out.cells
  have q3 := vkind_any 8 w3 (by decide)
  rw [show (if (8 : Int) = 1 ∨ (8 : Int) = 2 then (1 : Int) else if (8 : Int) = 5 ∨ (8 : Int) = 6 ∨ (8 : Int) = 9 then 3 else 2) = 2 from by decide] at q3
  go_wp2_with fail
  with_reducible refine q3.mono ?_
  rintro e w4 ⟨rfl, hw4⟩
  rw [hw4]
  clear q3 hw4
  have q4 := efind_any va n c L p.path w3 HLen.out (HE.out w3 HF3.out) (by omega)
  obtain ⟨r, hr⟩ : ∃ r, findE L (bl p.path) = r := ⟨_, rfl⟩
  rw [hr] at q4
  have HFr := toHid8 hr
  clear hr
  cases r with
  | none =>
    have HEq := toHid8 (HA0.out HFr.out)
    unfold FindPost at q4
    simp only at q4
    go_wp2_with fail
    with_reducible refine q4.mono ?_
    rintro e w5 ⟨f5, rfl⟩
    have HF5 := toHid8 (HF3.out.then7 (f5.then7 (Fr.alloc None' w5 (.cells #[.string ⟨#[]⟩, .int .i64 0, .slice none 0 0, .string ⟨#[]⟩] 41))))
    clear q4 f5
    go_wp2_with fail
    go_ret2
    rw [HEq.out]
    exact ⟨none, 0, rfl, (fun j x hj => by simp at hj), fun _ => rfl, HF5.out⟩
  | some x =>
    unfold FindPost at q4
    simp only at q4
    have HXs := toHid8 (HSE.out x (find_some HFr.out).1)
    have HXl := toHid8 (HBx.out x (find_some HFr.out).1)
    obtain ⟨P, K, l, Da⟩ := x
    simp only at q4 HXs HXl
    go_wp2_with fail
    with_reducible refine q4.mono ?_
    rintro e w5 ⟨f5, vl, rfl, hs5⟩
    have HS5 := toHid8 hs5
    obtain ⟨pl, cl, rfl, _⟩ := hs5
    obtain ⟨nl, hnl⟩ : ∃ m, l.length = m := ⟨_, rfl⟩
    have HNl := toHid8 hnl
    rw [hnl] at HS5 ⊢
    obtain ⟨w6, hw6⟩ : ∃ x, w5.alloc (.cells #[.string P, .int .i64 K, .slice pl nl cl, .string Da] 41) = x := ⟨_, rfl⟩
    have F6 : Fr None' w5 w6 := hw6 ▸ Fr.alloc None' w5 _
    have HBX := toHid8 (show EBox w6 w5.heap.size (.string P) (.int .i64 K) (.slice pl nl cl) (.string Da) from hw6 ▸ EBox.new w5 _ _ _ _)
    have HF6 := toHid8 (HF3.out.then7 (f5.then7 F6))
    have HB6 := toHid8 (HB3.out.kept (f5.then7 F6))
    have HS6 := toHid8 (HS5.out.kept F6)
    obtain ⟨x0, x1, x2, x3⟩ := HBX.out.cells
    clear q4 f5 F6 p0 p1 p2 p3 p4 p5 p6 HS5 hnl
    obtain ⟨p0, p1, p2, p3, p4, p5, p6⟩ := HB6.out.cells
    by_cases hK : K = 2
    · subst hK
      have q5 := vchange_8b ⟨P, 2, l, Da⟩ p pl nl cl _ _ w6 HS6.out (HO.out w6 HF6.out) (HN.out w6 HF6.out) HKd.out (by have := HXl.out.1; simp only at this ⊢; omega) HXl.out.2 ⟨HSp.out.src, HSp.out.dst⟩
      rw [HKd.out] at q5
      obtain ⟨r, hr⟩ : ∃ r, withE ⟨P, 2, l, Da⟩ p = r := ⟨_, rfl⟩
      rw [hr] at q5
      have HWr := toHid8 hr
      clear hr
      unfold WithPost at q5
      go_wp2_with fail
      with_reducible refine q5.mono ?_
      rintro e w7 ⟨P7, K7, ua7, um7, uc7, D7, b7, rfl, Hb7, HY7, f7⟩
      obtain ⟨w8, hw8⟩ : ∃ x, w7.alloc (.cells #[.string P7, .int .i64 K7, .slice ua7 um7 uc7, .string D7] 41) = x := ⟨_, rfl⟩
      have F8 : Fr None' w7 w8 := hw8 ▸ Fr.alloc None' w7 _
      have HF8 := toHid8 (HF6.out.then7 (f7.then7 F8))
      have F8' := toHid8 F8
      obtain ⟨y0, y1, y2, y3⟩ := (hw8 ▸ EBox.new w7 _ _ _ _ : EBox w8 w7.heap.size (.string P7) (.int .i64 K7) (.slice ua7 um7 uc7) (.string D7)).cells
      clear q5 f7 F8 x0 x1 x2 x3 p0 p1 p2 p3 p4 p5 p6
      cases b7 with
      | false =>
        have HEq := toHid8 (HA2.out _ HFr.out rfl (by
          cases r with
          | none => exact HWr.out
          | some y => have := Hb7.out; cases this))
        go_wp2_with fail
        go_ret2
        rw [HEq.out]
        exact ⟨none, 0, rfl, (fun j x hj => by simp at hj), fun _ => rfl, HF8.out⟩
      | true =>
        cases r with
        | none => have := Hb7.out; cases this
        | some y =>
          obtain ⟨rfl, rfl, rfl, hy4⟩ := HY7.out y rfl
          have HEq := toHid8 (HA3.out _ y HFr.out rfl HWr.out)
          have q6 := vput_any va n c L y (.slice ua7 um7 uc7) w8 HLen.out (HE.out w8 HF8.out) (by omega) (hy4.kept F8'.out) HSt.out
          unfold RowPost at q6
          go_wp2_with fail
          with_reducible refine q6.mono ?_
          rintro e w9 ⟨v9, c9, rfl, HE9, HC9, f9⟩
          have HF9 := toHid8 (HF8.out.then7 f9)
          clear q6 f9
          go_wp2_with fail
          go_ret2
          rw [HEq.out]
          exact ⟨v9, c9, rfl, HE9, HC9, HF9.out⟩
    · have hK2 : (K == 2) = false := by simpa using hK
      have HEq := toHid8 (HA1.out _ HFr.out hK)
      go_wp2_with fail
      go_ret2
      rw [HEq.out]
      exact ⟨none, 0, rfl, (fun j x hj => by simp at hj), fun _ => rfl, HF6.out⟩

/-- The document's Apply. -/
theorem vapply2_any (va : Option Addr) (n c : Nat) (L : List En) (p : Pr) (vo vn : Value) (w : World) (hl : L.length = n) (h : EntsAt w va L) (hn9 : n ≤ 90000) (hs : SmallE L) (hB : LnDoc2 L) (hp : SmPr p) (ho : StrsAt w vo p.old) (hn : StrsAt w vn p.new) :
    Calls Tryz.prog 13 #[.slice va n c, .agg #[.int .i64 p.kind, .string p.path, .string p.dst, .string p.src, .int .i64 p.pos, vo, vn]] w fun e w' => ApplyPost8 (allE L [p]) w e w' := by
  cases hT : treeRight L with
  | false => exact vapply_no va n c L p vo vn w hl h hn9 hs hp ho hn (by rw [hT]; rfl)
  | true =>
    cases hR : rightP p with
    | false => exact vapply_no va n c L p vo vn w hl h hn9 hs hp ho hn (by rw [hT, hR]; rfl)
    | true =>
      rcases kinds10 (rule_of hR).1 with hk | hk | hk | hk | hk | hk | hk | hk | hk | hk
      · rw [hk]; exact vapply_1 va n c L p vo vn w hl h hT hR hk hs hp ho hn
      · rw [hk]; exact vapply_2 va n c L p vo vn w hl h hT hR hk hs hp ho hn
      · rw [hk]; exact vapply_3 va n c L p vo vn w hl h hT hR hk hs hp ho hn
      · rw [hk]; exact vapply_4 va n c L p vo vn w hl h hT hR hk hs hp ho hn
      · rw [hk]; exact vapply_5 va n c L p vo vn w hl h hT hR hk hs hp ho hn
      · rw [hk]; exact vapply_6 va n c L p vo vn w hl h hT hR hk hs hp ho hn
      · rw [hk]; exact vapply_7b va n c L p vo vn w hl h hT hR hk hs hB hp ho hn
      · rw [hk]; exact vapply_8b va n c L p vo vn w hl h hT hR hk hs hB hp ho hn
      · rw [hk]; exact vapply_9 va n c L p vo vn w hl h hT hR hk hs hp ho hn
      · rw [hk]; exact vapply_10 va n c L p vo vn w hl h hT hR hk hs hp ho hn

end Go.Proofs.YtcpjneejlfgkeaaGreatDoor

namespace Go.Proofs.YtcpjneejlfgkeaaGreatDoor
open Go.RowKit
set_option maxRecDepth 100000

theorem lnDoc_of {B : Nat} {L : List En} (h : SmLn B L) (hB : B ≤ 400000) : LnDoc2 L := fun x hx => ⟨Nat.le_trans (h x hx).1.1 hB, (h x hx).2⟩

/-- One patch of a row, done. -/
theorem run_one {L R : List En} {p : Pr} {er : Int} {kk : Nat} (hT : treeRight L = true) (e : allE L [p] = (R, er, kk)) (ps : List Pr) (k : Nat) : (er = 0 → runE L (p :: ps) k = runE R ps (k + 1)) ∧ (er ≠ 0 → runE L (p :: ps) k = ([], er, k)) := by
  rw [runE_good hT, runE] at e
  rw [runE]
  by_cases h : (doE L p).2 = 0
  · rw [if_pos h] at e
    simp only [runE, Prod.mk.injEq] at e
    obtain ⟨e1, e2, _⟩ := e
    rw [if_pos h, e1]
    exact ⟨fun _ => rfl, fun h2 => absurd e2.symm h2⟩
  · rw [if_neg h] at e
    simp only [Prod.mk.injEq] at e
    obtain ⟨e1, e2, _⟩ := e
    rw [if_neg h, e2]
    exact ⟨fun h2 => absurd (e2.trans h2) h, fun _ => rfl⟩

/-- What the document's All hands back. -/
def VAllPost (r : List En × Int × Nat) (w : World) (e : Ending) (w' : World) : Prop := ∃ (va : Option Addr) (c : Nat), e = .returned (.tuple #[.slice va r.1.length c, .int .i64 r.2.1, .int .i64 r.2.2]) ∧ Hid (EntsAt w' va r.1) ∧ Fr None' w w'

set_option maxHeartbeats 8000000 in
theorem vall_any (va : Option Addr) (n c : Nat) (L : List En) (vb : Option Addr) (m d : Nat) (ps : List Pr) (w : World) (hl : L.length = n) (h : EntsAt w va L) (hn : n ≤ 90000) (hs : SmallE L) (hm : ps.length = m) (hb : PrsAt w vb ps) (hm2 : m ≤ 60) (hB : SmLn 4000 L) (hp : ∀ p ∈ ps, SmPr p) :
    Calls Tryz.prog 19 #[.slice va n c, .slice vb m d] w fun e w' => VAllPost (allE L ps) w e w' := by
  have cT := eright_any va n c L w hl h (by omega) hs
  have HPs := toHid8 hb
  have HM := toHid8 hm
  have HLen := toHid8 hl
  have HE := toHid8 h
  have HSp := toHid8 hp
  have HBl := toHid8 hB
  have i1 : (m : Int) ≤ 60 := by omega
  clear h hl hs hm hb hB hp
  cases hT : treeRight L with
  | false =>
    rw [hT] at cT
    have HEq := toHid8 (show allE L ps = ([], 1, 0) from runE_bad hT)
    clear hT
    go_enter Tryz.func19, Tryz.ntmps19
    go_wp2_with fail
    with_reducible refine cT.mono ?_
    rintro e w2 ⟨rfl, f2⟩
    have HF2 := toHid8 f2
    clear cT f2
    go_wp2_with fail
    go_ret3
    rw [HEq.out]
    exact ⟨none, 0, rfl, (fun j x hj => by simp at hj), HF2.out⟩
  | true =>
    rw [hT] at cT
    have HEq := toHid8 (show allE L ps = runE L ps 0 from runE_good hT)
    have HT := toHid8 ((treeR L).1 hT)
    clear hT
    go_enter Tryz.func19, Tryz.ntmps19
    go_wp2_with fail
    with_reducible refine cT.mono ?_
    rintro e w2 ⟨rfl, f2⟩
    have HF2 := toHid8 f2
    clear cT f2
    go_wp2_with fail
    go_loopw [0, 7] (fun vl vi wr => ∃ (k : Nat) (M : List En) (vk : Option Addr) (mk ck : Nat), k ≤ m ∧ vi = .int .i64 k ∧ vl = .slice vk mk ck ∧ Hid (M.length = mk ∧ EntsAt wr vk M ∧ TreeR M ∧ SmLn (4000 + 4000 * k) M ∧ runE L ps 0 = runE M (ps.drop k) k) ∧ Hid (Fr None' w wr)) (fun _ vi _ => m - (intOf vi).toNat)
    case atStart => exact ⟨0, L, va, n, c, Nat.zero_le _, rfl, rfl, ⟨HLen.out, HE.out.kept HF2.out, HT.out, HBl.out, rfl⟩, HF2.out⟩
    case round =>
      obtain ⟨k, M, vk, mk, ck, hk, rfl, rfl, HI, HF⟩ := hrel
      by_cases hlt : k < m
      · have hkL : k < ps.length := by rw [HM.out]; exact hlt
        obtain ⟨g, o, rfl, hpr⟩ := (HPs.out.kept HF.out).get hkL
        obtain ⟨a1, a2, a4, a5, a6⟩ := HI.out
        have hsp := HSp.out _ (List.getElem_mem hkL)
        obtain ⟨s1, s2⟩ := tree_small a4 a5 (by omega)
        have HDr := toHid8 (show ps.drop k = ps[k] :: ps.drop (k + 1) from List.drop_eq_getElem_cons hkL)
        generalize ps[k] = p at hpr hsp HDr
        obtain ⟨vo, vn, d0, d1, d2, d3, d4, d5, d6, so, sn⟩ := hpr
        have q1 := vapply2_any vk mk ck M p vo vn wr a1 a2 (by omega) s1 (lnDoc_of a5 (by omega)) hsp so sn
        obtain ⟨r, hr⟩ : ∃ r, allE M [p] = r := ⟨_, rfl⟩
        rw [hr] at q1
        obtain ⟨R, er, kk⟩ := r
        unfold ApplyPost8 at q1
        simp only at q1
        have HRun := toHid8 (run_one ((treeR M).2 a4) hr (ps.drop (k + 1)) k)
        have HStep := toHid8 (show er = 0 → TreeR R ∧ SmLn (4000 + 4000 * (k + 1)) R from fun e => by
          subst e
          obtain ⟨_, t2, t3, _, _⟩ := all_stepE hr a5 hsp
          exact ⟨t2, (show 4000 + 4000 * (k + 1) = 4000 + 4000 * k + 4000 from by omega) ▸ t3⟩)
        have HL0 := toHid8 a6
        obtain ⟨pa, ca, rfl, _⟩ := so
        obtain ⟨pb, cb, rfl, _⟩ := sn
        have i2 : (k : Int) < (m : Int) := by omega
        have i3 : (0 : Int) ≤ (k : Int) := by omega
        clear a1 a2 a4 a5 a6 s1 s2 hr hsp
        go_wp2_with fail
        with_reducible refine q1.mono ?_
        rintro e w4 ⟨v4, c4, rfl, HE4, _, f4⟩
        have HF4 := toHid8 (HF.out.then7 f4)
        clear q1 f4
        by_cases he : er = 0
        · subst he
          obtain ⟨t2, t3⟩ := HStep.out rfl
          have HI4 := toHid8 (show EntsAt w4 v4 R ∧ TreeR R ∧ SmLn (4000 + 4000 * (k + 1)) R ∧ runE L ps 0 = runE R (ps.drop (k + 1)) (k + 1) from ⟨HE4.out, t2, t3, by rw [HL0.out, HDr.out, HRun.out.1 rfl]⟩)
          clear t2 t3
          go_wp2_with fail
          exact ⟨⟨k + 1, R, v4, R.length, c4, by omega, by go_num, rfl, ⟨rfl, HI4.out⟩, HF4.out⟩, by simp [intOf]; omega⟩
        · have he2 : (er == 0) = false := by simpa using he
          have HEq2 := toHid8 (show allE L ps = ([], er, k) from by rw [HEq.out, HL0.out, HDr.out, HRun.out.2 he])
          go_wp2_with fail
          go_ret3
          rw [HEq2.out]
          exact ⟨none, 0, rfl, (fun j x hj => by simp at hj), HF4.out⟩
      · have e : k = m := by omega
        subst e
        have HEq2 := toHid8 (show allE L ps = (M, 0, 0) from by rw [HEq.out, HI.out.2.2.2.2, List.drop_of_length_le (by rw [HM.out]; exact Nat.le_refl _)]; rfl)
        have HMl := toHid8 HI.out.1
        have HE5 := toHid8 HI.out.2.1
        have i2 : ¬ (k : Int) < (k : Int) := by omega
        go_wp2_with fail
        go_ret3
        rw [HEq2.out]
        exact ⟨vk, ck, by rw [HMl.out]; rfl, HE5.out, HF.out⟩

end Go.Proofs.YtcpjneejlfgkeaaGreatDoor

namespace Go.Proofs.YtcpjneejlfgkeaaGreatDoor
open Go.RowKit Go.Maps Go.WideMaps
set_option maxRecDepth 100000

theorem run_none8 : ∀ (ps : List Pr) (L : List En) (k : Nat) {R : List En} {er : Int} {kk : Nat}, runE L ps k = (R, er, kk) → er ≠ 0 → R = []
  | [], L, k, R, er, kk, e, h => by simp only [runE, Prod.mk.injEq] at e; exact absurd e.2.1.symm h
  | p :: ps, L, k, R, er, kk, e, h => by
    rw [runE] at e
    split at e
    · exact run_none8 ps _ _ e h
    · simp only [Prod.mk.injEq] at e; exact e.1.symm

theorem all_noneN {L R : List En} {ps : List Pr} {er : Int} {kk : Nat} (e : allE L ps = (R, er, kk)) (h : er ≠ 0) : R = [] := by
  cases ht : treeRight L with
  | false => rw [runE_bad ht] at e; simp only [Prod.mk.injEq] at e; exact e.1.symm
  | true => rw [runE_good ht] at e; exact run_none8 ps L 0 e h

set_option maxHeartbeats 16000000 in
theorem pall_walk (va : Option Addr) (n c : Nat) (L : List En) (vb : Option Addr) (m d : Nat) (ps : List Pr) (W : World) (hl : L.length = n) (ha : EntsAt W va L) (hn : n ≤ 140737488355328) (hx : ∀ x ∈ L, x.lines.length ≤ 140737488355328) (hm : ps.length = m) (hb : PrsAt W vb ps) (_ : vb = none → d = 0) (hs : ∀ x ∈ ps, x.old.length ≤ 140737488355328 ∧ x.new.length ≤ 140737488355328) :
    Calls Tryz.prog 4 #[.slice va n c, .slice vb m d] W fun e w' => e = .returned (.bool true) ∧ Fr None' W w' := by
  have HE := toHid8 (show ∀ w', Fr None' W w' → EntsAt w' va L from fun w' f => ha.kept f)
  have HG := toHid8 (fun w' (f : Fr None' W w') => great_any va n c L w' hl (ha.kept f) hn hx)
  have HGP := toHid8 (fun w' (f : Fr None' W w') => pgreats_any vb m d ps w' hm (hb.kept f) hs)
  have HA := toHid8 (fun (h1 : weight L < 4000) (h2 : m ≤ 60 ∧ ∀ x ∈ ps, x.weight < 4000) w' (f : Fr None' W w') => all8_any va n c L vb m d ps 4000 w' hl (ha.kept f) (by have := (weight_smE h1).2.1; omega) (weight_smE h1).1 hm (hb.kept f) (by omega) (weight_smE h1).2.2 (by have := newTo_sm (fun p hp => weight_smP (h2.2 p hp)); omega) (fun p hp => weight_smP (h2.2 p hp)))
  have HV := toHid8 (fun (h1 : weight L < 4000) (h2 : m ≤ 60 ∧ ∀ x ∈ ps, x.weight < 4000) w' (f : Fr None' W w') => vall_any va n c L vb m d ps w' hl (ha.kept f) (by have := (weight_smE h1).2.1; omega) (weight_smE h1).1 hm (hb.kept f) h2.1 (weight_smE h1).2.2 (fun p hp => weight_smP (h2.2 p hp)))
  unfold GreatPost at HG
  unfold GreatPs at HGP
  have HLen := toHid8 hl
  have HLm := toHid8 hm
  have q1 := head8_any W
  clear ha hl hx hb hs hm
  go_enter Tryz.func4, Tryz.ntmps4
  go_wp2_with fail
  with_reducible refine q1.mono ?_
  rintro e w2 ⟨rfl, f2⟩
  have HF2 := toHid8 f2
  have q2 := HG.out w2 HF2.out
  clear q1 f2 HG
  go_wp2_with fail
  with_reducible refine q2.mono ?_
  rintro e w3 ⟨g, rfl, hg, f3⟩
  have HF3 := toHid8 (HF2.out.then7 f3)
  have HGf := toHid8 hg
  clear q2 f3 hg HF2
  cases g with
  | true =>
    go_wp2_with fail
    go_ret
    exact ⟨rfl, HF3.out⟩
  | false =>
    have HW := toHid8 (HGf.out rfl)
    have q3 := HGP.out w3 HF3.out
    clear HGf HGP
    go_wp2_with fail
    with_reducible refine q3.mono ?_
    rintro e w4 ⟨g, rfl, hg, f4⟩
    have HF4 := toHid8 (HF3.out.then7 f4)
    have HGf := toHid8 hg
    clear q3 f4 hg HF3
    cases g with
    | true =>
      go_wp2_with fail
      go_ret
      exact ⟨rfl, HF4.out⟩
    | false =>
      have HWP := toHid8 (HGf.out rfl)
      have q4 := HA.out HW.out HWP.out w4 HF4.out
      obtain ⟨r, hr⟩ : ∃ r, allE L ps = r := ⟨_, rfl⟩
      rw [hr] at q4
      obtain ⟨R, er, kk⟩ := r
      have HR := toHid8 hr
      have HRv := toHid8 (show ∀ w', Fr None' W w' → Calls Tryz.prog 19 #[.slice va n c, .slice vb m d] w' fun e w'' => VAllPost (R, er, kk) w' e w'' from fun w' f => by have := HV.out HW.out HWP.out w' f; rw [hr] at this; exact this)
      unfold VAllPost at HRv
      clear hr HA HGf HV
      go_wp2_with fail
      with_reducible refine q4.mono ?_
      rintro e w5 ⟨v5, c5, rfl, HE5, HC5, f5⟩
      have HF5 := toHid8 (HF4.out.then7 f5)
      clear q4 f5 HF4
      have q5 := HRv.out w5 HF5.out
      go_wp2_with fail
      with_reducible refine q5.mono ?_
      rintro e w6 ⟨v6, c6, rfl, HE6, f6⟩
      have HF6 := toHid8 (HF5.out.then7 f6)
      have HE5' := toHid8 (HE5.out.kept f6)
      clear q5 f6 HRv
      have HSm := toHid8 (show R.length ≤ 100000 ∧ SmallE R from by
        by_cases he : er = 0
        · subst he
          obtain ⟨t2, t3, _⟩ := all_many HR.out (weight_smE HW.out).2.2 (fun p hp => weight_smP (HWP.out.2 p hp))
          obtain ⟨s1, s2⟩ := tree_small t2 t3 (by have := HWP.out.1; have := HLm.out; omega)
          exact ⟨by omega, s1⟩
        · rw [all_noneN HR.out he]
          exact ⟨Nat.zero_le _, fun x hx => by cases hx⟩)
      have q6 := esame_any v5 v6 R.length c5 c6 R w6 rfl HE5'.out HE6.out HSm.out.1 HSm.out.2
      go_wp2_with fail
      with_reducible refine q6.mono ?_
      rintro e w7 ⟨rfl, f7⟩
      have HF7 := toHid8 (HF6.out.then7 f7)
      clear q6 f7
      go_wp2_with fail
      go_ret
      exact ⟨rfl, HF7.out⟩

end Go.Proofs.YtcpjneejlfgkeaaGreatDoor
