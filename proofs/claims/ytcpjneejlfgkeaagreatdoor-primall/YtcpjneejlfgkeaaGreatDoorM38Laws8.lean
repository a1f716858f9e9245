/-
  What is proved here: the contracts that the statement stands on: Laws8, CTreeP8, Head8, CountsP8, AddsW8, CountsW8. Conditions: as each theorem names them.
-/
import Derived.Test.YtcpjneejlfgkeaaGreatDoorM36Chg8
import Derived.Test.YtcpjneejlfgkeaaGreatDoorM32WithL8
import Derived.Test.YtcpjneejlfgkeaaGreatDoorMSameE
import Derived.Test.YtcpjneejlfgkeaaGreatDoorM14Plain10
import Derived.Test.YtcpjneejlfgkeaaGreatDoorM13PRRest
namespace Go.Proofs.YtcpjneejlfgkeaaGreatDoor
open Go.RowKit Go.Maps Go.WideMaps
set_option maxRecDepth 100000

/-- What Apply answers. -/
def ApplyPost8 (r : List En × Int × Nat) (w : World) (e : Ending) (w' : World) : Prop := ∃ (va : Option Addr) (c : Nat), e = .returned (.tuple #[.slice va r.1.length c, .int .i64 r.2.1]) ∧ Hid (EntsAt w' va r.1) ∧ Hid (va = none → c = 0) ∧ Fr None' w w'

set_option maxHeartbeats 4000000 in
theorem apply8_any (va : Option Addr) (n c : Nat) (L : List En) (p : Pr) (vo vn : Value) (B : Nat) (w : World) (hl : L.length = n) (h : EntsAt w va L) (hn : n ≤ 90000) (hs : SmallE L) (ho : StrsAt w vo p.old) (hw : StrsAt w vn p.new) (hB : SmLn B L) (hB2 : B ≤ 800000) (hp : SmPr p) :
    Calls Tryz.prog 12 #[.slice va n c, .agg #[.int .i64 p.kind, .string p.path, .string p.dst, .string p.src, .int .i64 p.pos, vo, vn]] w fun e w' => ApplyPost8 (allE L [p]) w e w' := by
  obtain ⟨pa, ca, rfl, ho'⟩ := ho
  obtain ⟨pb, cb, rfl, hw'⟩ := hw
  obtain ⟨w1, hw1⟩ : ∃ w1, w.alloc (.cells #[.int .i64 p.kind, .string p.path, .string p.dst, .string p.src, .int .i64 p.pos, .slice pa p.old.length ca, .slice pb p.new.length cb] 25) = w1 := ⟨_, rfl⟩
  obtain ⟨w2, hw2⟩ : ∃ w2, w1.alloc (.cells #[.int .i64 p.kind, .string p.path, .string p.dst, .string p.src, .int .i64 p.pos, .slice pa p.old.length ca, .slice pb p.new.length cb] 25) = w2 := ⟨_, rfl⟩
  have F1 : Fr None' w w1 := hw1 ▸ Fr.alloc None' w _
  have F2 : Fr None' w1 w2 := hw2 ▸ Fr.alloc None' w1 _
  obtain ⟨p0, p1, p2, p3, p4, p5, p6⟩ := (hw1 ▸ Box.new w _ _ _ _ _ _ _ : Box w1 w.heap.size (.int .i64 p.kind) (.string p.path) (.string p.dst) (.string p.src) (.int .i64 p.pos) (.slice pa p.old.length ca) (.slice pb p.new.length cb)).cells
  have HF := toHid8 (F1.then7 F2)
  have cA := all8_any va n c L (some ⟨w1.heap.size, 0, none⟩) 1 1 [p] B w2 hl (h.kept HF.out) hn hs rfl (fun k x hk => by
    have hk0 : k = 0 := by have := (List.getElem?_eq_some_iff.1 hk).1; simpa using this
    subst hk0
    cases hk
    obtain ⟨a0, a1, a2, a3, a4, a5, a6⟩ := (hw2 ▸ Box.new w1 _ _ _ _ _ _ _ : Box w2 w1.heap.size (.int .i64 p.kind) (.string p.path) (.string p.dst) (.string p.src) (.int .i64 p.pos) (.slice pa p.old.length ca) (.slice pb p.new.length cb)).cells
    exact ⟨w1.heap.size, 0, rfl, _, _, a0, a1, a2, a3, a4, a5, a6, StrsAt.kept ⟨pa, ca, rfl, ho'⟩ HF.out, StrsAt.kept ⟨pb, cb, rfl, hw'⟩ HF.out⟩) (by omega) hB (by
    have := hp.new
    simp [newTo]
    omega) (fun q hq => by rw [List.mem_singleton.1 hq]; exact hp)
  clear ho' hw' F1 F2 hl h hn hs hB hB2 hp
  generalize allE L [p] = r at cA ⊢
  obtain ⟨R, er, k⟩ := r
  go_enter Tryz.func12, Tryz.ntmps12
  go_wp2_with fail
  with_reducible refine cA.mono ?_
  rintro e w3 ⟨v3, c3, rfl, H1, H2, f3⟩
  clear cA p0 p1 p2 p3 p4 p5 p6
  have HF3 := toHid8 (HF.out.then7 f3)
  clear f3
  go_wp2_with fail
  go_ret2
  exact ⟨v3, c3, rfl, H1.out, H2.out, HF3.out⟩

theorem weight_smE {L : List En} (h : weight L < 4000) : SmallE L ∧ L.length ≤ 1000 ∧ SmLn 4000 L := by
  refine ⟨fun x hx => ?_, by have := weight_len L; omega, fun x hx => ?_⟩
  · have h1 := weight_mem hx
    unfold En.weight at h1
    refine ⟨by omega, by omega, by omega, fun y hy => ?_⟩
    have := size_mem hy
    omega
  · have h1 := weight_mem hx
    unfold En.weight at h1
    refine ⟨⟨by omega, by omega⟩, fun y hy => SmLine.of ?_⟩
    have := size_mem hy
    omega

theorem weight_smP {p : Pr} (h : p.weight < 4000) : SmPr p := by
  unfold Pr.weight at h
  refine ⟨by omega, by omega, by omega, by omega, by omega, fun y hy => ?_, fun y hy => ?_⟩
  · have := size_mem hy; omega
  · have := size_mem hy; omega

theorem SmPr.inv {p : Pr} (h : SmPr p) : SmPr (inv p) := by
  unfold Proofs.YtcpjneejlfgkeaaGreatDoor.inv
  (repeat' split) <;> first | exact ⟨h.1, h.2, h.3, h.4, h.5, h.6, h.7⟩ | exact ⟨h.1, h.2, h.3, h.5, h.4, h.7, h.6⟩ | exact ⟨h.1, h.3, h.2, h.4, h.5, h.6, h.7⟩ | exact ⟨h.2, h.1, h.3, h.4, h.5, h.6, h.7⟩ | exact ⟨by decide, by decide, by decide, by decide, by decide, fun y hy => (by cases hy), fun y hy => (by cases hy)⟩

theorem tree_small {B : Nat} {L : List En} (h : TreeR L) (hB : SmLn B L) (h2 : B ≤ 800000) : SmallE L ∧ L.length ≤ 90000 := by
  refine ⟨fun x hx => ?_, by have := h.len; omega⟩
  obtain ⟨⟨a, b⟩, c⟩ := hB x hx
  have := path_size (h.own x hx).1
  refine ⟨by omega, by omega, by omega, fun y hy => ?_⟩
  have := (c y hy).size
  omega

/-- What a patch made is a right tree, still small. -/
theorem all_one {L L' : List En} {p : Pr} {k : Nat} (e : allE L [p] = (L', 0, k)) : treeRight L = true ∧ doE L p = (L', 0) ∧ k = 0 := by
  cases ht : treeRight L with
  | false => rw [runE_bad ht] at e; simp at e
  | true =>
    rw [runE_good ht] at e
    obtain ⟨M, h1, h2⟩ := run_cons.1 e
    simp [runE] at h2
    rw [← h2.1]
    exact ⟨rfl, h1, h2.2.symm⟩

theorem all_stepE {L L' : List En} {p : Pr} {k B : Nat} (e : allE L [p] = (L', 0, k)) (hB : SmLn B L) (hp : SmPr p) : TreeR L ∧ TreeR L' ∧ SmLn (B + 4000) L' ∧ rightP p = true ∧ actE L p = (L', 0) := by
  obtain ⟨h1, h2, _⟩ := all_one e
  have hT := (treeR L).1 h1
  obtain ⟨hr, ha⟩ := do_of h2
  exact ⟨hT, hT.act hr ha, (hB.act hp hT.strict hr ha).mono (by have := hp.new; omega), hr, ha⟩

theorem all_undone {L L' : List En} {p : Pr} {k : Nat} (e : allE L [p] = (L', 0, k)) : allE L' [inv p] = (L, 0, 0) := by
  obtain ⟨h1, h2, _⟩ := all_one e
  have hT := (treeR L).1 h1
  obtain ⟨hr, ha⟩ := do_of h2
  rw [runE_good ((treeR L').2 (hT.act hr ha))]
  refine run_cons.2 ⟨L, ?_, rfl⟩
  unfold doE
  rw [if_pos (right_inv hr)]
  exact hT.undo hr ha

theorem newTo_sm {ps : List Pr} (h : ∀ p ∈ ps, SmPr p) : newTo ps ps.length ≤ 4000 * ps.length := by
  unfold newTo
  rw [List.take_length]
  induction ps with
  | nil => exact Nat.zero_le _
  | cons p ps ih =>
    have h1 := ih (fun q hq => h q (List.mem_cons_of_mem _ hq))
    have h2 := (h p (List.mem_cons_self ..)).new
    simp only [List.map_cons, List.sum_cons, List.length_cons]
    omega

theorem run_sm : ∀ {ps : List Pr} {L R : List En} {B j k : Nat}, TreeR L → SmLn B L → (∀ p ∈ ps, SmPr p) → runE L ps j = (R, 0, k) → TreeR R ∧ SmLn (B + 4000 * ps.length) R
  | [], _, _, B, _, _, h, hB, _, e => by simp [runE] at e; rw [← e.1]; exact ⟨h, hB⟩
  | p :: ps, _, _, B, _, _, h, hB, hp, e => by
    obtain ⟨M, h1, h2⟩ := run_cons.1 e
    obtain ⟨hr, ha⟩ := do_of h1
    have hpp := hp p (List.mem_cons_self ..)
    obtain ⟨a, b⟩ := run_sm (h.act hr ha) (hB.act hpp h.strict hr ha) (fun q hq => hp q (List.mem_cons_of_mem _ hq)) h2
    refine ⟨a, b.mono ?_⟩
    have := hpp.new
    simp only [List.length_cons]
    omega

theorem all_many {L R : List En} {ps : List Pr} {k : Nat} (e : allE L ps = (R, 0, k)) (hB : SmLn 4000 L) (hp : ∀ p ∈ ps, SmPr p) : TreeR R ∧ SmLn (4000 + 4000 * ps.length) R ∧ allE R (ps.reverse.map inv) = (L, 0, 0) := by
  cases ht : treeRight L with
  | false => rw [runE_bad ht] at e; simp at e
  | true =>
    rw [runE_good ht] at e
    have hT := (treeR L).1 ht
    obtain ⟨a, b⟩ := run_sm hT hB hp e
    have hk := run_zero e
    subst hk
    refine ⟨a, b, ?_⟩
    rw [runE_good ((treeR R).2 a)]
    exact TreeR.undone hT e

theorem inv_sms {ps : List Pr} (h : ∀ p ∈ ps, SmPr p) : ∀ p ∈ ps.reverse.map inv, SmPr p := fun p hp => by
  obtain ⟨q, hq, rfl⟩ := List.mem_map.1 hp
  exact (h q (List.mem_reverse.1 hq)).inv

end Go.Proofs.YtcpjneejlfgkeaaGreatDoor

namespace Go.Proofs.YtcpjneejlfgkeaaGreatDoor
open Go.RowKit Go.Maps Go.WideMaps
set_option maxRecDepth 100000

/-- A row of two patches, laid together. -/
theorem two_prs {w W : World} {p q : Pr} {vo vn uo un : Value} (hw : w.alloc (.cells #[.int .i64 p.kind, .string p.path, .string p.dst, .string p.src, .int .i64 p.pos, vo, vn, .int .i64 q.kind, .string q.path, .string q.dst, .string q.src, .int .i64 q.pos, uo, un] 25) = W) (h1 : StrsAt W vo p.old) (h2 : StrsAt W vn p.new) (h3 : StrsAt W uo q.old) (h4 : StrsAt W un q.new) : PrsAt W (some ⟨w.heap.size, 0, none⟩) [p, q] := fun k x hk => by
  have hc : ∀ j v, #[Value.int .i64 p.kind, .string p.path, .string p.dst, .string p.src, .int .i64 p.pos, vo, vn, .int .i64 q.kind, .string q.path, .string q.dst, .string q.src, .int .i64 q.pos, uo, un][j]? = some v → W.cell? ⟨w.heap.size, j, none⟩ = some v := fun j v h => by
    rw [← hw, World.cell?, heap_alloc_new]; exact h
  match k, hk with
  | 0, hk => cases hk; exact ⟨w.heap.size, 0, rfl, vo, vn, hc 0 _ rfl, hc 1 _ rfl, hc 2 _ rfl, hc 3 _ rfl, hc 4 _ rfl, hc 5 _ rfl, hc 6 _ rfl, h1, h2⟩
  | 1, hk => cases hk; exact ⟨w.heap.size, 0, rfl, uo, un, hc 7 _ rfl, hc 8 _ rfl, hc 9 _ rfl, hc 10 _ rfl, hc 11 _ rfl, hc 12 _ rfl, hc 13 _ rfl, h3, h4⟩
  | k + 2, hk => simp at hk

theorem rule_fields (p q : Pr) : ((ruleC p q).1.dst = q.dst ∧ (ruleC p q).1.src = q.src ∧ (ruleC p q).1.old = q.old ∧ (ruleC p q).1.new = q.new) ∧ (ruleC p q).2.1.dst = p.dst ∧ (ruleC p q).2.1.src = p.src ∧ (ruleC p q).2.1.old = p.old ∧ (ruleC p q).2.1.new = p.new := by
  unfold ruleC changesC linesC changeMoveC moveChangeC
  (repeat' split) <;> exact ⟨⟨rfl, rfl, rfl, rfl⟩, rfl, rfl, rfl, rfl⟩

theorem right_path8 {p : Pr} (h : rightP p = true) : p.path.size ≤ 4000 := by
  have h1 := right_len (rule_of h).2.1
  have h3 : (bl p.path).length = p.path.size := Array.length_toList
  omega

theorem comm_sm {p q a b : Pr} (hc : commP p q = (a, b, true)) (hp : SmPr p) (hq : SmPr q) : SmPr a ∧ SmPr b := by
  obtain ⟨_, _, er, _, ra, rb⟩ := commP_yes (p := p) (q := q) (by rw [hc])
  rw [hc] at er
  rw [← er] at ra rb
  have hf := rule_fields p q
  rw [← er] at hf
  simp only at ra rb hf
  obtain ⟨⟨a1, a2, a3, a4⟩, b1, b2, b3, b4⟩ := hf
  refine ⟨⟨right_path8 ra, ?_, ?_, ?_, ?_, ?_, ?_⟩, right_path8 rb, ?_, ?_, ?_, ?_, ?_, ?_⟩
  · rw [a1]; exact hq.dst
  · rw [a2]; exact hq.src
  · rw [a3]; exact hq.old
  · rw [a4]; exact hq.new
  · rw [a4]; exact hq.line
  · rw [a3]; exact hq.oline
  · rw [b1]; exact hp.dst
  · rw [b2]; exact hp.src
  · rw [b3]; exact hp.old
  · rw [b4]; exact hp.new
  · rw [b4]; exact hp.line
  · rw [b3]; exact hp.oline

/-- What two patches made, the other way about. -/
theorem all_comm {L M : List En} {p q a b : Pr} {k : Nat} (hc : commP p q = (a, b, true)) (e : allE L [p, q] = (M, 0, k)) : allE L [a, b] = (M, 0, 0) ∨ (allE L [a, b] = ([], 2, 0) ∧ 1024 ≤ L.length) := by
  cases ht : treeRight L with
  | false => rw [runE_bad ht] at e; simp at e
  | true =>
    rw [runE_good ht] at e ⊢
    have hT := (treeR L).1 ht
    obtain ⟨L1, h1, h2⟩ := run_cons.1 e
    obtain ⟨L2, h3, h4⟩ := run_cons.1 h2
    simp [runE] at h4
    rw [h4.1] at h3
    rcases hT.comm hc h1 h3 with ⟨N, a1, a2⟩ | ⟨a1, a2⟩
    · exact Or.inl (run_cons.2 ⟨N, a1, run_cons.2 ⟨M, a2, rfl⟩⟩)
    · refine Or.inr ⟨?_, a2⟩
      rw [runE, a1]
      rfl

theorem all_right {L M : List En} {ps : List Pr} {k : Nat} (e : allE L ps = (M, 0, k)) : treeRight L = true := by
  cases ht : treeRight L with
  | false => rw [runE_bad ht] at e; simp at e
  | true => rfl

end Go.Proofs.YtcpjneejlfgkeaaGreatDoor

namespace Go.Proofs.YtcpjneejlfgkeaaGreatDoor
open Go.RowKit Go.Maps Go.WideMaps
set_option maxRecDepth 100000

theorem nilS8 (w : World) : StrsAt w (.slice none 0 0) [] := ⟨none, 0, rfl, fun _ => rfl, Nat.le_refl _, Lines.Row.nil _ _⟩

def hL8 : List En := [⟨⟨#[97]⟩, 2, [⟨#[120]⟩], ⟨#[]⟩⟩]
def hP8 : Pr := ⟨7, ⟨#[97]⟩, ⟨#[]⟩, ⟨#[]⟩, 0, [⟨#[120]⟩], [⟨#[121]⟩, ⟨#[122]⟩]⟩
def hQ8 : Pr := ⟨4, ⟨#[97]⟩, ⟨#[]⟩, ⟨#[]⟩, 0, [], []⟩
def hM8 : Pr := ⟨10, ⟨#[97]⟩, ⟨#[98]⟩, ⟨#[]⟩, 0, [], []⟩
def hD8 : Pr := ⟨1, ⟨#[100]⟩, ⟨#[]⟩, ⟨#[]⟩, 0, [], []⟩

theorem h8P : allE hL8 [hP8] = ([⟨⟨#[97]⟩, 2, [⟨#[121]⟩, ⟨#[122]⟩], ⟨#[]⟩⟩], 0, 0) := by kernel_rfl
theorem h8Q : allE hL8 [hQ8] = ([], 81, 0) := by kernel_rfl
theorem h8M : allE hL8 [hM8] = ([⟨⟨#[98]⟩, 2, [⟨#[120]⟩], ⟨#[]⟩⟩], 0, 0) := by kernel_rfl
theorem h8D : allE hL8 [hD8, hD8] = ([], 71, 1) := by kernel_rfl
theorem h8Z : rightP zeroP = false := by kernel_rfl

theorem row_one8 (w : World) (x : ByteArray) {b : Nat} (hb : w.heap.size = b) : Lines.Row (w.alloc (.cells #[.string x] 9)) (some ⟨b, 0, none⟩) [x] := fun j y hj => by
  subst hb
  have h0 : j = 0 := by have := (List.getElem?_eq_some_iff.1 hj).1; simp at this; omega
  subst h0
  have : x = y := by simpa using hj
  subst this
  exact ⟨_, 0, rfl, by rw [World.cell?, heap_alloc_new]; rfl⟩

theorem row_two8 (w : World) (x z : ByteArray) {b : Nat} (hb : w.heap.size = b) : Lines.Row (w.alloc (.cells #[.string x, .string z] 9)) (some ⟨b, 0, none⟩) [x, z] := fun j y hj => by
  subst hb
  have h0 : j < 2 := by have := (List.getElem?_eq_some_iff.1 hj).1; simpa using this
  have h1 : j = 0 ∨ j = 1 := by omega
  rcases h1 with rfl | rfl
  · have : x = y := by simpa using hj
    subst this
    exact ⟨_, 0, rfl, by rw [World.cell?, heap_alloc_new]; rfl⟩
  · have : z = y := by simpa using hj
    subst this
    exact ⟨_, 0, rfl, by rw [World.cell?, heap_alloc_new]; rfl⟩

set_option maxHeartbeats 8000000 in
theorem head8_any (w : World) : Calls Tryz.prog 9 #[] w fun e w' => e = .returned (.bool true) ∧ Fr None' w w' := by
  obtain ⟨w1, hw1⟩ : ∃ w1, w.alloc (.cells #[.string ⟨#[120]⟩] 9) = w1 := ⟨_, rfl⟩
  obtain ⟨w2, hw2⟩ : ∃ w2, w1.alloc (.cells #[.string ⟨#[97]⟩, .int .i64 2, .slice (some ⟨w.heap.size, 0, none⟩) 1 1, .string ⟨#[]⟩] 41) = w2 := ⟨_, rfl⟩
  obtain ⟨w3, hw3⟩ : ∃ w3, w2.alloc (.cells #[.string ⟨#[120]⟩] 9) = w3 := ⟨_, rfl⟩
  obtain ⟨w4, hw4⟩ : ∃ w4, w3.alloc (.cells #[.string ⟨#[121]⟩, .string ⟨#[122]⟩] 9) = w4 := ⟨_, rfl⟩
  have F1 : Fr None' w w1 := hw1 ▸ Fr.alloc None' _ _
  have F2 : Fr None' w1 w2 := hw2 ▸ Fr.alloc None' _ _
  have F3 : Fr None' w2 w3 := hw3 ▸ Fr.alloc None' _ _
  have F4 : Fr None' w3 w4 := hw4 ▸ Fr.alloc None' _ _
  have hE2 : EntsAt w2 (some ⟨w1.heap.size, 0, none⟩) hL8 := fun k x hk => by
    have hk0 : k = 0 := by have := (List.getElem?_eq_some_iff.1 hk).1; simpa [hL8] using this
    subst hk0
    cases hk
    have hc : ∀ j v, #[Value.string ⟨#[97]⟩, .int .i64 2, .slice (some ⟨w.heap.size, 0, none⟩) 1 1, .string ⟨#[]⟩][j]? = some v → w2.cell? ⟨w1.heap.size, j, none⟩ = some v := fun j v h => by
      rw [← hw2, World.cell?, heap_alloc_new]; exact h
    exact ⟨w1.heap.size, 0, rfl, _, hc 0 _ rfl, hc 1 _ rfl, hc 2 _ rfl, hc 3 _ rfl, ⟨_, 1, rfl, (fun e => by cases e), Nat.le_refl _, (hw1 ▸ row_one8 w _ rfl : Lines.Row w1 _ [⟨#[120]⟩]).fr (toLN F2)⟩⟩
  have hE := (hE2.kept F3).kept F4
  have so : StrsAt w4 (.slice (some ⟨w2.heap.size, 0, none⟩) 1 1) hP8.old := ⟨_, 1, rfl, (fun e => by cases e), Nat.le_refl _, (hw3 ▸ row_one8 w2 _ rfl : Lines.Row w3 _ [⟨#[120]⟩]).fr (toLN F4)⟩
  have sn : StrsAt w4 (.slice (some ⟨w3.heap.size, 0, none⟩) 2 2) hP8.new := ⟨_, 2, rfl, (fun e => by cases e), Nat.le_refl _, (hw4 ▸ row_two8 w3 _ _ rfl : Lines.Row w4 _ [⟨#[121]⟩, ⟨#[122]⟩])⟩
  have sL := weight_smE (L := hL8) (by decide)
  have HF4 := toHid8 (((F1.then7 F2).then7 F3).then7 F4)
  have q1 := apply8_any (some ⟨w1.heap.size, 0, none⟩) 1 1 hL8 hP8 _ _ 4000 w4 rfl hE (by decide) sL.1 so sn sL.2.2 (by decide) (weight_smP (by decide))
  have HQ := toHid8 (fun w' (f : Fr None' w4 w') => apply8_any (some ⟨w1.heap.size, 0, none⟩) 1 1 hL8 hQ8 _ _ 4000 w' rfl (hE.kept f) (by decide) sL.1 (nilS8 w') (nilS8 w') sL.2.2 (by decide) (weight_smP (by decide)))
  have HM := toHid8 (fun w' (f : Fr None' w4 w') => apply8_any (some ⟨w1.heap.size, 0, none⟩) 1 1 hL8 hM8 _ _ 4000 w' rfl (hE.kept f) (by decide) sL.1 (nilS8 w') (nilS8 w') sL.2.2 (by decide) (weight_smP (by decide)))
  have HD := toHid8 (fun w' (f : Fr None' w4 w') vb d (hb : PrsAt w' vb [hD8, hD8]) => all8_any (some ⟨w1.heap.size, 0, none⟩) 1 1 hL8 vb 2 d [hD8, hD8] 4000 w' rfl (hE.kept f) (by decide) sL.1 rfl hb (by decide) sL.2.2 (by decide) (fun x hx => by
    simp only [List.mem_cons, List.not_mem_nil, or_false, or_self] at hx
    rw [hx]; exact weight_smP (by decide)))
  have HZ := toHid8 (fun w' => qright_any zeroP _ _ w' (nilS8 w') (nilS8 w') (weight_smP (p := zeroP) (by decide)).small)
  rw [h8P] at q1
  rw [h8Q] at HQ
  rw [h8M] at HM
  rw [h8D] at HD
  rw [h8Z] at HZ
  unfold ApplyPost8 at q1 HQ HM
  simp only [hP8, hQ8, hM8, zeroP, List.length_cons, List.length_nil, Nat.zero_add] at q1 HQ HM HZ
  clear F1 F2 F3 F4 hE2 hE so sn sL
  go_enter Tryz.func9, Tryz.ntmps9
  go_wp2_with fail
  with_reducible refine q1.mono ?_
  rintro e w5 ⟨v5, c5, rfl, HE5, _, f5⟩
  have HF5 := toHid8 f5
  have q2 := HQ.out w5 HF5.out
  clear q1 f5 HQ hw1 hw2 hw3 hw4
  go_wp2_with fail
  with_reducible refine q2.mono ?_
  rintro e w6 ⟨v6, c6, rfl, _, _, f6⟩
  have HF6 := toHid8 (HF5.out.then7 f6)
  have HF56 := toHid8 f6
  have q3 := HM.out w6 HF6.out
  clear q2 f6 HM HF5
  go_wp2_with fail
  with_reducible refine q3.mono ?_
  rintro e w7 ⟨v7, c7, rfl, HE7, _, f7⟩
  have HF7 := toHid8 (HF6.out.then7 f7)
  have HF57 := toHid8 (HF56.out.then7 f7)
  obtain ⟨w8, hw8⟩ : ∃ w8, w7.alloc (.cells #[.int .i64 1, .string ⟨#[100]⟩, .string ⟨#[]⟩, .string ⟨#[]⟩, .int .i64 0, .slice none 0 0, .slice none 0 0, .int .i64 1, .string ⟨#[100]⟩, .string ⟨#[]⟩, .string ⟨#[]⟩, .int .i64 0, .slice none 0 0, .slice none 0 0] 25) = w8 := ⟨_, rfl⟩
  have F8 : Fr None' w7 w8 := hw8 ▸ Fr.alloc None' _ _
  have q4 := HD.out w8 (HF7.out.then7 F8) (some ⟨w7.heap.size, 0, none⟩) 2 (two_prs (p := hD8) (q := hD8) hw8 (nilS8 _) (nilS8 _) (nilS8 _) (nilS8 _))
  have HF8 := toHid8 (HF7.out.then7 F8)
  have HF58 := toHid8 (HF57.out.then7 F8)
  have HF78 := toHid8 F8
  clear q3 f7 F8 HD HF6 HF56 HF7 HF57
  go_wp2_with fail
  with_reducible refine q4.mono ?_
  rintro e w9 ⟨v9, c9, rfl, _, _, f9⟩
  obtain ⟨g5, o5, e5, vl5, a0, a1, a2, a3, s5⟩ := HE5.out.kept (HF58.out.then7 f9) 0 _ rfl
  obtain ⟨g7, o7, e7, vl7, b0, b1, b2, b3, s7⟩ := HE7.out.kept (HF78.out.then7 f9) 0 _ rfl
  obtain ⟨p5, k5, rfl, _⟩ := s5
  obtain ⟨p7, k7, rfl, _⟩ := s7
  subst e5 e7
  simp only [Nat.zero_mul, Nat.add_zero, List.length_cons, List.length_nil, Nat.zero_add, Nat.reduceAdd] at a0 a1 a2 a3 b0 b1 b2 b3
  have HF9 := toHid8 (HF4.out.then7 (HF8.out.then7 f9))
  have q5 := HZ.out w9
  clear q4 f9 HF8 HF58 HF78 hw8 HE5 HE7
  go_wp2_with fail
  with_reducible refine q5.mono ?_
  rintro e wA ⟨rfl, fA⟩
  have HFA := toHid8 (HF9.out.then7 fA)
  clear q5 fA
  go_wp2_with fail
  go_ret
  exact ⟨rfl, HFA.out⟩

end Go.Proofs.YtcpjneejlfgkeaaGreatDoor

namespace Go.Proofs.YtcpjneejlfgkeaaGreatDoor
open Go.RowKit
set_option maxRecDepth 100000

theorem count_len {L M : List En} (h : TreeR L) {p : Pr} (hr : rightP p = true) (e : actE L p = (M, 0)) : ((p.kind = 1 ∨ p.kind = 3 ∨ p.kind = 5) → M.length = L.length + 1) ∧ ((p.kind = 2 ∨ p.kind = 4 ∨ p.kind = 6) → M.length + 1 = L.length) ∧ (¬ (p.kind = 1 ∨ p.kind = 3 ∨ p.kind = 5) → ¬ (p.kind = 2 ∨ p.kind = 4 ∨ p.kind = 6) → M.length = L.length) := by
  obtain ⟨hk, _, _⟩ := rule_of hr
  by_cases k1 : p.kind = 1 ∨ p.kind = 3 ∨ p.kind = 5
  · obtain ⟨h1, _, rfl⟩ := (act_add k1).1 e
    exact ⟨fun _ => len_putE_new (freeE_zero.1 h1).1, fun e => by omega, fun e => absurd k1 e⟩
  · by_cases k2 : p.kind = 2 ∨ p.kind = 4 ∨ p.kind = 6
    · obtain ⟨x, hx, _, _, _, _, rfl⟩ := (act_rm k2).1 e
      have h1 := len_delE h.strict (find_some hx).1
      rw [(find_some hx).2] at h1
      exact ⟨fun e => absurd e k1, fun _ => h1, fun _ e => absurd k2 e⟩
    · refine ⟨fun e => absurd e k1, fun e => absurd e k2, fun _ _ => ?_⟩
      by_cases k3 : p.kind = 10
      · obtain ⟨_, h2, _, rfl⟩ := (act_move k3).1 e
        exact h.len_move (freeE_zero.1 h2).1
      · obtain ⟨x, y, hx, _, hw, rfl⟩ := (act_change (by omega)).1 e
        have h1 := len_delE h.strict (find_some hx).1
        unfold putE
        rw [(insE_perm y _).length_eq, (with_facts hw).1]
        simp
        omega

theorem mv_mv {A B : List UInt8} {z : En} (h : Path.moved (bl (mvE A B z).path) B A = bl z.path) : mvE B A (mvE A B z) = z := by
  show ({ z with path := ⟨(Path.moved (bl (mvE A B z).path) B A).toArray⟩ } : En) = z
  rw [h]
  rfl

/-- Each thing that is there behind a Move was there ahead. -/
theorem moved_was {L M : List En} (h : TreeR L) {p : Pr} (hr : rightP p = true) (e : actE L p = (M, 0)) (hk : p.kind = 10) {y : En} (hy : y ∈ M) :
    (Path.within (bl y.path) (bl p.dst) = true → findE L (Path.moved (bl y.path) (bl p.dst) (bl p.path)) = some (mvE (bl p.dst) (bl p.path) y)) ∧ (Path.within (bl y.path) (bl p.dst) = false → findE L (bl y.path) = some y) := by
  obtain ⟨_, _, hs, hf⟩ := (h.told hr).1 e
  have h1 := find_of_mem hs hy
  rw [hf] at h1
  unfold effF at h1
  rw [if_neg (by omega), if_neg (by omega), if_pos hk] at h1
  constructor
  · intro hw
    rw [if_pos hw] at h1
    obtain ⟨z, hz, rfl⟩ := Option.map_eq_some_iff.1 h1
    have e1 : Path.moved (bl (mvE (bl p.path) (bl p.dst) z).path) (bl p.dst) (bl p.path) = bl z.path := by
      rw [Path.moved, if_pos hw]; exact (find_path hz).symm
    rw [mv_mv e1, e1]
    rw [find_path hz]
    exact hz
  · intro hw
    rw [if_neg (by rw [hw]; simp)] at h1
    split at h1
    · cases h1
    · exact h1

/-- What is apart from a patch's paths stays. -/
theorem apart_stays {L M : List En} (h : TreeR L) {p : Pr} (hr : rightP p = true) (e : actE L p = (M, 0)) {x : En} (hx : x ∈ L) (h1 : Path.apart (bl x.path) (bl p.path) = true) (h2 : p.kind = 10 → Path.apart (bl x.path) (bl p.dst) = true) : findE M (bl x.path) = some x := by
  obtain ⟨_, _, _, hf⟩ := (h.told hr).1 e
  have h3 := find_of_mem h.strict hx
  have w1 : Path.within (bl x.path) (bl p.path) = false := by
    unfold Path.apart at h1
    cases hh : Path.within (bl x.path) (bl p.path) with
    | false => rfl
    | true => rw [hh] at h1; simp at h1
  have n1 : bl x.path ≠ bl p.path := by
    intro e
    rw [e, Path.within_refl] at w1
    cases w1
  rw [hf]
  unfold effF
  by_cases k1 : p.kind = 1 ∨ p.kind = 3 ∨ p.kind = 5
  · rw [if_pos k1, if_neg n1]; exact h3
  · rw [if_neg k1]
    by_cases k2 : p.kind = 2 ∨ p.kind = 4 ∨ p.kind = 6
    · rw [if_pos k2, if_neg n1]; exact h3
    · rw [if_neg k2]
      by_cases k3 : p.kind = 10
      · have w2 : Path.within (bl x.path) (bl p.dst) = false := by
          have h4 := h2 k3
          unfold Path.apart at h4
          cases hh : Path.within (bl x.path) (bl p.dst) with
          | false => rfl
          | true => rw [hh] at h4; simp at h4
        rw [if_pos k3, if_neg (by rw [w2]; simp), if_neg (by rw [w1]; simp)]
        exact h3
      · rw [if_neg k3, if_neg n1]; exact h3

end Go.Proofs.YtcpjneejlfgkeaaGreatDoor

namespace Go.Proofs.YtcpjneejlfgkeaaGreatDoor
open Go.RowKit Go.Maps Go.WideMaps
set_option maxRecDepth 100000

/-- A patch that adds, or takes away. -/
def adP (k : Int) (P : ByteArray) : Pr := ⟨k, P, ⟨#[]⟩, ⟨#[]⟩, 0, [], []⟩

theorem ad_sm {k : Int} {P : ByteArray} (h : P.size ≤ 4000) : SmPr (adP k P) := ⟨h, Nat.zero_le _, Nat.zero_le _, Nat.zero_le _, Nat.zero_le _, fun y hy => (by cases hy), fun y hy => (by cases hy)⟩

theorem inv_ad {k : Int} {P : ByteArray} (hk : k = 1 ∨ k = 3 ∨ k = 5) : inv (adP k P) = adP (k + 1) P := by
  unfold inv
  rw [if_pos (show (adP k P).kind = 1 ∨ (adP k P).kind = 3 ∨ (adP k P).kind = 5 from hk)]
  rfl

theorem right_ad {k : Int} {P : ByteArray} (hk : k = 1 ∨ k = 3 ∨ k = 5) : rightP (adP k P) = Path.right (bl P) := by
  rcases hk with rfl | rfl | rfl <;> simp [rightP, ruleP, bareP, noLines, adP, bl]

theorem ad_iff {L X : List En} {k er : Int} {P : ByteArray} {kk : Nat} (hk : k = 1 ∨ k = 3 ∨ k = 5) (ht : treeRight L = true) (hl : L.length < 1024) (e : allE L [adP k P] = (X, er, kk)) : er = 0 ↔ Path.right (bl P) = true ∧ findE L (bl P) = none ∧ ∀ q, Path.parent (bl P) = some q → ∃ d, findE L q = some d ∧ d.kind = 1 := by
  rw [runE_good ht, runE] at e
  have hd : (doE L (adP k P)).2 = er := by
    split at e
    · rename_i h; simp [runE] at e; rw [h, e.2.1]
    · simp at e; exact e.2.1
  rw [← hd, ← freeE_zero]
  unfold doE
  rw [right_ad hk]
  cases hr : Path.right (bl P) with
  | false => simp
  | true =>
    simp only [if_true, true_and]
    unfold actE
    rw [if_pos (show (adP k P).kind = 1 ∨ (adP k P).kind = 3 ∨ (adP k P).kind = 5 from hk), show (adP k P).path = P from rfl]
    by_cases hf : freeE L (bl P) = 0
    · rw [if_neg (by simpa using hf), if_neg (by omega)]
      simp [hf]
    · rw [if_pos hf]

/-- What cannot be done makes nothing. -/
theorem all_none8 {L X : List En} {p : Pr} {er : Int} {k : Nat} (e : allE L [p] = (X, er, k)) (h : er ≠ 0) : X = [] := by
  cases ht : treeRight L with
  | false => rw [runE_bad ht] at e; simp at e; exact e.1
  | true =>
    rw [runE_good ht] at e
    unfold runE at e
    split at e
    · simp [runE] at e; exact absurd e.2.1.symm h
    · simp at e; exact e.1

theorem ad_good {L X : List En} {k : Int} {P : ByteArray} {kk : Nat} (hk : k = 1 ∨ k = 3 ∨ k = 5) (e : allE L [adP k P] = (X, 0, kk)) : findE X (bl P) = some ⟨P, (k + 1) / 2, [], ⟨#[]⟩⟩ ∧ allE X [adP k P] = ([], 71, 0) ∧ allE X [adP (k + 1) P] = (L, 0, 0) := by
  obtain ⟨h1, h2, _⟩ := all_one e
  have hT := (treeR L).1 h1
  obtain ⟨hr, ha⟩ := do_of h2
  have hf : findE X (bl P) = some ⟨P, (k + 1) / 2, [], ⟨#[]⟩⟩ := by
    rw [((hT.told hr).1 ha).2.2.2 (bl P)]
    unfold effF
    rw [if_pos (show (adP k P).kind = 1 ∨ (adP k P).kind = 3 ∨ (adP k P).kind = 5 from hk)]
    simp [adP]
  refine ⟨hf, ?_, ?_⟩
  · rw [runE_good ((treeR X).2 (hT.act hr ha)), runE]
    have hd : doE X (adP k P) = (X, 71) := by
      unfold doE
      rw [if_pos hr]
      unfold actE
      rw [if_pos (show (adP k P).kind = 1 ∨ (adP k P).kind = 3 ∨ (adP k P).kind = 5 from hk), show (adP k P).path = P from rfl]
      have h71 : freeE X (bl P) = 71 := by unfold freeE; rw [hf]
      rw [h71]
      rfl
    rw [hd]
    rfl
  · rw [← inv_ad hk]
    exact all_undone e

/-- Find's answer, with the kind of what it found. -/
def FindK (w : World) (b : Bool) (kd : Int) (e : Ending) (w' : World) : Prop := ∃ s0 a1 a2 a3 s3, e = .returned (.tuple #[.agg #[.string s0, .int .i64 kd, .slice a1 a2 a3, .string s3], .bool b]) ∧ Fr None' w w'

theorem find_k {w w' : World} {e : Ending} {r : Option En} {b : Bool} {kd : Int} (hb : r.isSome = b) (hk : (r.map En.kind).getD 0 = kd) (h : FindPost w r e w') : FindK w b kd e w' := by
  cases r with
  | none =>
    obtain ⟨h1, h2⟩ := h
    exact ⟨_, _, _, _, _, by rw [h2, ← hb, ← hk]; rfl, h1⟩
  | some y =>
    obtain ⟨h1, vl, h2, h3⟩ := h
    obtain ⟨pl, cl, e2, _⟩ := h3
    exact ⟨_, _, _, _, _, by rw [h2, ← hb, ← hk, e2]; rfl, h1⟩

set_option maxHeartbeats 16000000 in
theorem adds_walk (va : Option Addr) (n c : Nat) (L : List En) (P : ByteArray) (a : Nat) (W : World) (hl : L.length = n) (ha : EntsAt W va L) (hn : n ≤ 140737488355328) (hx : ∀ x ∈ L, x.lines.length ≤ 140737488355328) (h8 : a ≤ 255) :
    Calls Tryz.prog 7 #[.slice va n c, .string P, .int .u8 a] W fun e w' => e = .returned (.bool true) ∧ Fr None' W w' := by
  have HE := toHid8 (show ∀ w', Fr None' W w' → EntsAt w' va L from fun w' f => ha.kept f)
  have HG := toHid8 (fun w' (f : Fr None' W w') => great_any va n c L w' hl (ha.kept f) hn hx)
  have HT := toHid8 (fun (h1 : weight L < 4000) w' (f : Fr None' W w') => eright_any va n c L w' hl (ha.kept f) (by have := (weight_smE h1).2.1; omega) (weight_smE h1).1)
  have HA := toHid8 (fun (h1 : weight L < 4000) (k : Int) (hp : P.size ≤ 4000) w' (f : Fr None' W w') => apply8_any va n c L (adP k P) (.slice none 0 0) (.slice none 0 0) 4000 w' hl (ha.kept f) (by have := (weight_smE h1).2.1; omega) (weight_smE h1).1 (nilS8 w') (nilS8 w') (weight_smE h1).2.2 (by omega) (ad_sm hp))
  have HFd := toHid8 (fun (p : ByteArray) (b : Bool) (kd : Int) (hb : (findE L (bl p)).isSome = b) (hk : ((findE L (bl p)).map En.kind).getD 0 = kd) w' (f : Fr None' W w') => (efind_any va n c L p w' hl (ha.kept f) hn).mono (fun e w'' h => find_k hb hk h))
  have HS := toHid8 (fun (h1 : weight L < 4000) vb d w' (f : Fr None' W w') (hb : EntsAt w' vb L) => esame_any vb va n d c L w' hl hb (ha.kept f) (by have := (weight_smE h1).2.1; omega) (weight_smE h1).1)
  unfold GreatPost at HG
  unfold ApplyPost8 at HA
  unfold FindK at HFd
  simp only [adP] at HA
  have HLen := toHid8 hl
  have H8 := toHid8 h8
  have q1 := head8_any W
  clear ha hl hx h8
  go_enter Tryz.func7, Tryz.ntmps7
  go_wp2_with fail
  with_reducible refine q1.mono ?_
  rintro e w2 ⟨rfl, f2⟩
  have HF2 := toHid8 f2
  have q2 := HG.out w2 HF2.out
  clear q1 f2 HG
  go_wp2_with fail
  with_reducible refine q2.mono ?_
  rintro e w3 ⟨g, rfl, hg, f3⟩
  have HF3 := toHid8 (HF2.out.then7 f3)
  have HGf := toHid8 hg
  clear q2 f3 hg HF2
  cases g with
  | true =>
    go_wp2_with fail
    go_ret
    exact ⟨rfl, HF3.out⟩
  | false =>
    have HW := toHid8 (HGf.out rfl)
    by_cases hT : (1000 : Int) < (P.size : Int)
    · clear HGf
      go_wp2_with fail
      go_ret
      exact ⟨rfl, HF3.out⟩
    · have i1 : (P.size : Int) ≤ 1000 := by omega
      have HPs := toHid8 (show P.size ≤ 4000 from by omega)
      obtain ⟨rt, hrt⟩ : ∃ rt, treeRight L = rt := ⟨_, rfl⟩
      have q3 := HT.out HW.out w3 HF3.out
      rw [hrt] at q3
      have HRt := toHid8 hrt
      clear HGf HT hrt
      go_wp2_with fail
      with_reducible refine q3.mono ?_
      rintro e w4 ⟨rfl, f4⟩
      have HF4 := toHid8 (HF3.out.then7 f4)
      clear q3 f4 HF3
      cases rt with
      | false =>
        go_wp2_with fail
        go_ret
        exact ⟨rfl, HF4.out⟩
      | true =>
        have i2 : (n : Int) ≤ 1000 := by have := (weight_smE HW.out).2.1; have := HLen.out; omega
        obtain ⟨j, hj⟩ : ∃ j : Nat, a % 3 = j := ⟨_, rfl⟩
        have hj3 : j < 3 := by omega
        obtain ⟨k, hk⟩ : ∃ k : Int, 2 * (j : Int) + 1 = k := ⟨_, rfl⟩
        have HK := toHid8 (show k = 1 ∨ k = 3 ∨ k = 5 from by omega)
        have m1 : ((a : Int)).tmod 3 = (j : Int) := by rw [← hj]; rfl
        obtain ⟨w5, hw5⟩ : ∃ w5, w4.alloc (.cells #[.int .i64 1, .int .i64 3, .int .i64 5] 3) = w5 := ⟨_, rfl⟩
        have F5 : Fr None' w4 w5 := hw5 ▸ Fr.alloc None' w4 _
        have d0 : w5.cell? ⟨w4.heap.size, j, none⟩ = some (.int .i64 k) := by
          rw [← hw5, World.cell?, heap_alloc_new, ← hk]
          rcases (show j = 0 ∨ j = 1 ∨ j = 2 from by omega) with h | h | h <;> rw [h] <;> rfl
        have i3 : (0 : Int) ≤ (j : Int) := by omega
        have i4 : (j : Int) < 3 := by omega
        have HF5 := toHid8 (HF4.out.then7 F5)
        have HJ := toHid8 (show (k + 1) / 2 = (j : Int) + 1 from by omega)
        have q4 := HA.out HW.out k HPs.out w5 HF5.out
        obtain ⟨r, hr⟩ : ∃ r, allE L [adP k P] = r := ⟨_, rfl⟩
        have hr' := hr
        simp only [adP] at hr'
        rw [hr'] at q4
        obtain ⟨X, er, kk⟩ := r
        have HR := toHid8 hr
        clear hr hr' F5 HF4 hj hk hj3
        go_wp2_with fail
        with_reducible refine q4.mono ?_
        rintro e w6 ⟨v6, c6, rfl, HE6, HC6, f6⟩
        have HF6 := toHid8 (HF5.out.then7 f6)
        obtain ⟨bT, hbT⟩ : ∃ b, (findE L (bl P)).isSome = b := ⟨_, rfl⟩
        obtain ⟨kT, hkT⟩ : ∃ x, ((findE L (bl P)).map En.kind).getD 0 = x := ⟨_, rfl⟩
        have q5 := HFd.out P bT kT hbT hkT w6 HF6.out
        have HbT := toHid8 hbT
        clear q4 f6 HF5 d0 hbT hkT hw5
        go_wp2_with fail
        with_reducible refine q5.mono ?_
        rintro e w7 ⟨s0, a1, a2, a3, s3, rfl, f7⟩
        obtain ⟨w8, hw8⟩ : ∃ w8, w7.alloc (.cells #[.string s0, .int .i64 kT, .slice a1 a2 a3, .string s3] 41) = w8 := ⟨_, rfl⟩
        have F8 : Fr None' w7 w8 := hw8 ▸ Fr.alloc None' w7 _
        have HF8 := toHid8 (HF6.out.then7 (f7.then7 F8))
        have HE8 := toHid8 (HE6.out.kept (f7.then7 F8))
        have q6 := Path.rparent_any P w8 (by have := HPs.out; omega)
        unfold Path.parentS at q6
        obtain ⟨op, hop⟩ : ∃ o, Path.parent P.data.toList = o := ⟨_, rfl⟩
        rw [hop] at q6
        have HOp := toHid8 (show Path.parent (bl P) = op from hop)
        clear q5 f7 F8 HF6 HE6 hop
        go_wp2_with fail
        with_reducible refine q6.mono ?_
        rintro e w9 ⟨rfl, rfl⟩
        obtain ⟨Q, hQ⟩ : ∃ Q : ByteArray, ⟨(op.getD []).toArray⟩ = Q := ⟨_, rfl⟩
        obtain ⟨bI, hbI⟩ : ∃ b, (findE L (bl Q)).isSome = b := ⟨_, rfl⟩
        obtain ⟨kI, hkI⟩ : ∃ x, ((findE L (bl Q)).map En.kind).getD 0 = x := ⟨_, rfl⟩
        have q7 := HFd.out Q bI kI hbI hkI w8 HF8.out
        obtain ⟨bH, hbH⟩ : ∃ b, op.isSome = b := ⟨_, rfl⟩
        rw [hQ, hbH]
        have HQ := toHid8 hQ
        have HbI := toHid8 hbI
        have HkI := toHid8 hkI
        have HbH := toHid8 hbH
        clear q6 hQ hbI hkI hbH
        go_wp2_with fail
        with_reducible refine q7.mono ?_
        rintro e w9 ⟨s0', a1', a2', a3', s3', rfl, f9⟩
        obtain ⟨wB, hwB⟩ : ∃ wB, w9.alloc (.cells #[.string s0', .int .i64 kI, .slice a1' a2' a3', .string s3'] 41) = wB := ⟨_, rfl⟩
        have FB : Fr None' w9 wB := hwB ▸ Fr.alloc None' w9 _
        have HFB := toHid8 (HF8.out.then7 (f9.then7 FB))
        have HEB := toHid8 (HE8.out.kept (f9.then7 FB))
        have x1 : wB.cell? ⟨w9.heap.size, 1, none⟩ = some (.int .i64 kI) := by rw [← hwB, World.cell?, heap_alloc_new]; rfl
        have HL4 := toHid8 (show L.length < 1024 from by have := (weight_smE HW.out).2.1; omega)
        obtain ⟨rP, hrP⟩ : ∃ b, Path.right P.data.toList = b := ⟨_, rfl⟩
        have q7b := Path.rright_any P wB (by have := HPs.out; omega)
        rw [hrP] at q7b
        have HrP := toHid8 (show Path.right (bl P) = rP from hrP)
        clear q7 f9 FB HF8 HE8 hrP HFd HA hw8
        go_wp2_with fail
        with_reducible refine q7b.mono ?_
        rintro e w10 ⟨rfl, rfl⟩
        clear q7b
        cases rP with
        | false =>
          have he : er ≠ 0 := fun h => by have := ((ad_iff HK.out HRt.out HL4.out HR.out).1 h).1; rw [HrP.out] at this; cases this
          have he2 : (er == 0) = false := by simpa using he
          obtain rfl := all_none8 HR.out he
          go_wp2_with fail
          go_ret
          exact ⟨rfl, HFB.out⟩
        | true =>
          cases bT with
          | true =>
            have he : er ≠ 0 := fun h => by have := ((ad_iff HK.out HRt.out HL4.out HR.out).1 h).2.1; have h2 := HbT.out; rw [this] at h2; cases h2
            have he2 : (er == 0) = false := by simpa using he
            obtain rfl := all_none8 HR.out he
            go_wp2_with fail
            go_ret
            exact ⟨rfl, HFB.out⟩
          | false =>
            have HnT := toHid8 (show findE L (bl P) = none from by cases h : findE L (bl P) with | none => rfl | some y => have h2 := HbT.out; rw [h] at h2; cases h2)
            cases bH with
            | false =>
              have HnH := toHid8 (show Path.parent (bl P) = none from by rw [HOp.out]; cases op with | none => rfl | some y => cases HbH.out)
              obtain rfl : (0 : Int) = er := ((ad_iff HK.out HRt.out HL4.out HR.out).2 ⟨HrP.out, HnT.out, fun q hq => by rw [HnH.out] at hq; cases hq⟩).symm
              obtain ⟨g1, g2, g3⟩ := ad_good HK.out HR.out
              obtain ⟨t1, t2, t3, _, _⟩ := all_stepE HR.out (weight_smE HW.out).2.2 (ad_sm HPs.out)
              obtain ⟨z1, z2⟩ := tree_small t2 t3 (by omega)
              have HFX := toHid8 (fun w' (f : Fr None' wB w') => efind_any v6 X.length c6 X P w' rfl (HEB.out.kept f) (by omega))
              have HA1 := toHid8 (fun w' (f : Fr None' wB w') => apply8_any v6 X.length c6 X (adP k P) (.slice none 0 0) (.slice none 0 0) (4000 + 4000) w' rfl (HEB.out.kept f) z2 z1 (nilS8 w') (nilS8 w') t3 (by omega) (ad_sm HPs.out))
              have HA2 := toHid8 (fun w' (f : Fr None' wB w') => apply8_any v6 X.length c6 X (adP (k + 1) P) (.slice none 0 0) (.slice none 0 0) (4000 + 4000) w' rfl (HEB.out.kept f) z2 z1 (nilS8 w') (nilS8 w') t3 (by omega) (ad_sm HPs.out))
              rw [g1] at HFX
              rw [g2] at HA1
              rw [g3] at HA2
              unfold ApplyPost8 at HA1 HA2
              unfold FindPost at HFX
              simp only [adP, List.length_nil] at HA1 HA2 HFX
              have q8 := HFX.out wB (Fr.refl _ _)
              have u1 : IntKind.i64.wrap (k + 1) = k + 1 := by rw [IntKind.wrap_i64]; have := HK.out; omega
              clear g1 g2 g3 t1 t2 t3 z1 z2 HFX
              go_wp2_with fail
              with_reducible refine q8.mono ?_
              rintro e wC ⟨fC, vl, rfl, hvl⟩
              obtain ⟨pl, cl, rfl, _⟩ := hvl
              have HFD := toHid8 (show Fr None' wB (wC.alloc (.cells #[.string P, .int .i64 ((k + 1) / 2), .slice pl 0 cl, .string ⟨#[]⟩] 41)) from fC.then7 (Fr.alloc None' wC _))
              have hcD : ∀ j v, #[Value.string P, .int .i64 ((k + 1) / 2), .slice pl 0 cl, .string ⟨#[]⟩][j]? = some v → (wC.alloc (.cells #[.string P, .int .i64 ((k + 1) / 2), .slice pl 0 cl, .string ⟨#[]⟩] 41)).cell? ⟨wC.heap.size, j, none⟩ = some v := fun j v h => by
                rw [World.cell?, heap_alloc_new]; exact h
              have HcD := toHid8 (show ∀ w', Fr None' (wC.alloc (.cells #[.string P, .int .i64 ((k + 1) / 2), .slice pl 0 cl, .string ⟨#[]⟩] 41)) w' → (w'.cell? ⟨wC.heap.size, 0, none⟩ = some (.string P) ∧ w'.cell? ⟨wC.heap.size, 1, none⟩ = some (.int .i64 ((k + 1) / 2))) ∧ w'.cell? ⟨wC.heap.size, 2, none⟩ = some (.slice pl 0 cl) ∧ w'.cell? ⟨wC.heap.size, 3, none⟩ = some (.string ⟨#[]⟩) from fun w' f => ⟨⟨f.keepCell (hcD 0 _ rfl) (fun e => e), f.keepCell (hcD 1 _ rfl) (fun e => e)⟩, f.keepCell (hcD 2 _ rfl) (fun e => e), f.keepCell (hcD 3 _ rfl) (fun e => e)⟩)
              have q9 := HA1.out _ HFD.out
              clear q8 fC hcD
              go_wp2_with fail
              with_reducible refine q9.mono ?_
              rintro e wE ⟨vE, cE, rfl, _, _, fE⟩
              have HFE := toHid8 (HFD.out.then7 fE)
              have HFDE := toHid8 fE
              have q10 := HA2.out wE HFE.out
              clear q9 fE
              go_wp2_with fail
              with_reducible refine q10.mono ?_
              rintro e wF ⟨vF, cF, rfl, HEF, _, fF⟩
              obtain ⟨⟨y0, y1⟩, y2, y3⟩ := HcD.out wF (HFDE.out.then7 fF)
              have HFF := toHid8 (HFB.out.then7 (HFE.out.then7 fF))
              have q11 := HS.out HW.out vF cF wF HFF.out HEF.out
              rw [HJ.out] at y1
              clear q10 fF HFE HFDE HFD HcD
              simp only [HLen.out]
              go_wp2_with fail
              with_reducible refine q11.mono ?_
              rintro e wG ⟨rfl, fG⟩
              have HFG := toHid8 (HFF.out.then7 fG)
              clear q11 fG
              go_wp2_with fail
              go_ret
              exact ⟨rfl, HFG.out⟩
            | true =>
              have HsQ := toHid8 (show Path.parent (bl P) = some (bl Q) from by
                rw [HOp.out, ← HQ.out]
                cases op with
                | none => cases HbH.out
                | some y => rfl)
              cases bI with
              | false =>
                have he : er ≠ 0 := fun h => by obtain ⟨d, hd, _⟩ := ((ad_iff HK.out HRt.out HL4.out HR.out).1 h).2.2 _ HsQ.out; have h2 := HbI.out; rw [hd] at h2; cases h2
                have he2 : (er == 0) = false := by simpa using he
                obtain rfl := all_none8 HR.out he
                go_wp2_with fail
                go_ret
                exact ⟨rfl, HFB.out⟩
              | true =>
                by_cases hk1 : kI = 1
                · subst hk1
                  have HsD := toHid8 (show ∃ d, findE L (bl Q) = some d ∧ d.kind = 1 from by
                    cases h : findE L (bl Q) with
                    | none => have h2 := HbI.out; rw [h] at h2; cases h2
                    | some y => have h2 := HkI.out; rw [h] at h2; exact ⟨y, rfl, h2⟩)
                  obtain rfl : (0 : Int) = er := ((ad_iff HK.out HRt.out HL4.out HR.out).2 ⟨HrP.out, HnT.out, fun q hq => by rw [HsQ.out] at hq; cases hq; exact HsD.out⟩).symm
                  obtain ⟨g1, g2, g3⟩ := ad_good HK.out HR.out
                  obtain ⟨t1, t2, t3, _, _⟩ := all_stepE HR.out (weight_smE HW.out).2.2 (ad_sm HPs.out)
                  obtain ⟨z1, z2⟩ := tree_small t2 t3 (by omega)
                  have HFX := toHid8 (fun w' (f : Fr None' wB w') => efind_any v6 X.length c6 X P w' rfl (HEB.out.kept f) (by omega))
                  have HA1 := toHid8 (fun w' (f : Fr None' wB w') => apply8_any v6 X.length c6 X (adP k P) (.slice none 0 0) (.slice none 0 0) (4000 + 4000) w' rfl (HEB.out.kept f) z2 z1 (nilS8 w') (nilS8 w') t3 (by omega) (ad_sm HPs.out))
                  have HA2 := toHid8 (fun w' (f : Fr None' wB w') => apply8_any v6 X.length c6 X (adP (k + 1) P) (.slice none 0 0) (.slice none 0 0) (4000 + 4000) w' rfl (HEB.out.kept f) z2 z1 (nilS8 w') (nilS8 w') t3 (by omega) (ad_sm HPs.out))
                  rw [g1] at HFX
                  rw [g2] at HA1
                  rw [g3] at HA2
                  unfold ApplyPost8 at HA1 HA2
                  unfold FindPost at HFX
                  simp only [adP, List.length_nil] at HA1 HA2 HFX
                  have q8 := HFX.out wB (Fr.refl _ _)
                  have u1 : IntKind.i64.wrap (k + 1) = k + 1 := by rw [IntKind.wrap_i64]; have := HK.out; omega
                  clear g1 g2 g3 t1 t2 t3 z1 z2 HFX
                  go_wp2_with fail
                  with_reducible refine q8.mono ?_
                  rintro e wC ⟨fC, vl, rfl, hvl⟩
                  obtain ⟨pl, cl, rfl, _⟩ := hvl
                  have HFD := toHid8 (show Fr None' wB (wC.alloc (.cells #[.string P, .int .i64 ((k + 1) / 2), .slice pl 0 cl, .string ⟨#[]⟩] 41)) from fC.then7 (Fr.alloc None' wC _))
                  have hcD : ∀ j v, #[Value.string P, .int .i64 ((k + 1) / 2), .slice pl 0 cl, .string ⟨#[]⟩][j]? = some v → (wC.alloc (.cells #[.string P, .int .i64 ((k + 1) / 2), .slice pl 0 cl, .string ⟨#[]⟩] 41)).cell? ⟨wC.heap.size, j, none⟩ = some v := fun j v h => by
                    rw [World.cell?, heap_alloc_new]; exact h
                  have HcD := toHid8 (show ∀ w', Fr None' (wC.alloc (.cells #[.string P, .int .i64 ((k + 1) / 2), .slice pl 0 cl, .string ⟨#[]⟩] 41)) w' → (w'.cell? ⟨wC.heap.size, 0, none⟩ = some (.string P) ∧ w'.cell? ⟨wC.heap.size, 1, none⟩ = some (.int .i64 ((k + 1) / 2))) ∧ w'.cell? ⟨wC.heap.size, 2, none⟩ = some (.slice pl 0 cl) ∧ w'.cell? ⟨wC.heap.size, 3, none⟩ = some (.string ⟨#[]⟩) from fun w' f => ⟨⟨f.keepCell (hcD 0 _ rfl) (fun e => e), f.keepCell (hcD 1 _ rfl) (fun e => e)⟩, f.keepCell (hcD 2 _ rfl) (fun e => e), f.keepCell (hcD 3 _ rfl) (fun e => e)⟩)
                  have q9 := HA1.out _ HFD.out
                  clear q8 fC hcD
                  go_wp2_with fail
                  with_reducible refine q9.mono ?_
                  rintro e wE ⟨vE, cE, rfl, _, _, fE⟩
                  have HFE := toHid8 (HFD.out.then7 fE)
                  have HFDE := toHid8 fE
                  have q10 := HA2.out wE HFE.out
                  clear q9 fE
                  go_wp2_with fail
                  with_reducible refine q10.mono ?_
                  rintro e wF ⟨vF, cF, rfl, HEF, _, fF⟩
                  obtain ⟨⟨y0, y1⟩, y2, y3⟩ := HcD.out wF (HFDE.out.then7 fF)
                  have HFF := toHid8 (HFB.out.then7 (HFE.out.then7 fF))
                  have q11 := HS.out HW.out vF cF wF HFF.out HEF.out
                  rw [HJ.out] at y1
                  clear q10 fF HFE HFDE HFD HcD
                  simp only [HLen.out]
                  go_wp2_with fail
                  with_reducible refine q11.mono ?_
                  rintro e wG ⟨rfl, fG⟩
                  have HFG := toHid8 (HFF.out.then7 fG)
                  clear q11 fG
                  go_wp2_with fail
                  go_ret
                  exact ⟨rfl, HFG.out⟩
                · have hk2 : (kI == 1) = false := by simpa using hk1
                  have he : er ≠ 0 := fun h => hk1 (by obtain ⟨d, hd, h1⟩ := ((ad_iff HK.out HRt.out HL4.out HR.out).1 h).2.2 _ HsQ.out; have h2 := HkI.out; rw [hd] at h2; exact h2.symm.trans h1)
                  have he2 : (er == 0) = false := by simpa using he
                  obtain rfl := all_none8 HR.out he
                  go_wp2_with fail
                  go_ret
                  exact ⟨rfl, HFB.out⟩

end Go.Proofs.YtcpjneejlfgkeaaGreatDoor

namespace Go.Proofs.YtcpjneejlfgkeaaGreatDoor
open Go.RowKit Go.Maps Go.WideMaps
set_option maxRecDepth 100000

/-- A row of one thing, out of its box. -/
theorem ent_one {w : World} {b : Nat} {x : En} {vl : Value} (h : EBox w b (.string x.path) (.int .i64 x.kind) vl (.string x.data)) (hs : StrsAt w vl x.lines) : EntsAt w (some ⟨b, 0, none⟩) [x] := fun j y hj => by
  have hj0 : j = 0 := by have := (List.getElem?_eq_some_iff.1 hj).1; simpa using this
  subst hj0
  have hx0 : y = x := by simpa using hj.symm
  subst hx0
  obtain ⟨c0, c1, c2, c3⟩ := h.cells
  exact ⟨b, 0, rfl, vl, c0, c1, c2, c3, hs⟩

set_option maxHeartbeats 16000000 in
theorem counts_walk (va : Option Addr) (n c : Nat) (L : List En) (p : Pr) (vo vn : Value) (W : World) (hl : L.length = n) (ha : EntsAt W va L) (hn : n ≤ 140737488355328) (hx : ∀ x ∈ L, x.lines.length ≤ 140737488355328) (ho : StrsAt W vo p.old) (hw : StrsAt W vn p.new) (lo : p.old.length ≤ 140737488355328) (ln : p.new.length ≤ 140737488355328) :
    Calls Tryz.prog 6 #[.slice va n c, .agg #[.int .i64 p.kind, .string p.path, .string p.dst, .string p.src, .int .i64 p.pos, vo, vn]] W fun e w' => e = .returned (.bool true) ∧ Fr None' W w' := by
  obtain ⟨pa, ca, rfl, ho'⟩ := ho
  obtain ⟨pb, cb, rfl, hw'⟩ := hw
  have HO := toHid8 (show ∀ w', Fr None' W w' → StrsAt w' (.slice pa p.old.length ca) p.old from fun w' f => StrsAt.kept ⟨pa, ca, rfl, ho'⟩ f)
  have HN := toHid8 (show ∀ w', Fr None' W w' → StrsAt w' (.slice pb p.new.length cb) p.new from fun w' f => StrsAt.kept ⟨pb, cb, rfl, hw'⟩ f)
  have HE := toHid8 (show ∀ w', Fr None' W w' → EntsAt w' va L from fun w' f => ha.kept f)
  have HG := toHid8 (fun w' (f : Fr None' W w') => great_any va n c L w' hl (ha.kept f) hn hx)
  have HGP := toHid8 (fun w' (f : Fr None' W w') => pgreat_any p _ _ w' (HO.out w' f) (HN.out w' f) lo ln)
  have HA := toHid8 (fun (h1 : weight L < 4000) (h2 : p.weight < 4000) w' (f : Fr None' W w') => apply8_any va n c L p _ _ 4000 w' hl (ha.kept f) (by have := (weight_smE h1).2.1; omega) (weight_smE h1).1 (HO.out w' f) (HN.out w' f) (weight_smE h1).2.2 (by omega) (weight_smP h2))
  have HS := toHid8 (fun (h1 : weight L < 4000) vb d w' (f : Fr None' W w') (hb : EntsAt w' vb L) => esame_any vb va n d c L w' hl hb (ha.kept f) (by have := (weight_smE h1).2.1; omega) (weight_smE h1).1)
  unfold GreatPost at HG
  unfold GreatP at HGP
  have HLen := toHid8 hl
  obtain ⟨w1, hw1⟩ : ∃ w1, W.alloc (.cells #[.int .i64 p.kind, .string p.path, .string p.dst, .string p.src, .int .i64 p.pos, .slice pa p.old.length ca, .slice pb p.new.length cb] 25) = w1 := ⟨_, rfl⟩
  have F1 : Fr None' W w1 := hw1 ▸ Fr.alloc None' W _
  have BP : Box w1 W.heap.size (.int .i64 p.kind) (.string p.path) (.string p.dst) (.string p.src) (.int .i64 p.pos) (.slice pa p.old.length ca) (.slice pb p.new.length cb) := hw1 ▸ Box.new W _ _ _ _ _ _ _
  have HF1 := toHid8 F1
  have HB := toHid8 BP
  have q1 := head8_any w1
  clear ho' hw' ha hl hx F1 BP lo ln
  go_enter Tryz.func6, Tryz.ntmps6
  go_wp2_with fail
  with_reducible refine q1.mono ?_
  rintro e w2 ⟨rfl, f2⟩
  have HF2 := toHid8 (HF1.out.then7 f2)
  have HB2 := toHid8 (HB.out.kept f2)
  have q2 := HG.out w2 HF2.out
  clear q1 f2 HB HF1 HG
  go_wp2_with fail
  with_reducible refine q2.mono ?_
  rintro e w3 ⟨g, rfl, hg, f3⟩
  have HF3 := toHid8 (HF2.out.then7 f3)
  have HB3 := toHid8 (HB2.out.kept f3)
  have HGf := toHid8 hg
  clear q2 f3 hg HB2 HF2
  cases g with
  | true =>
    go_wp2_with fail
    go_ret
    exact ⟨rfl, HF3.out⟩
  | false =>
    have HW := toHid8 (HGf.out rfl)
    obtain ⟨p0, p1, p2, p3, p4, p5, p6⟩ := HB3.out.cells
    have q3 := HGP.out w3 HF3.out
    clear HGf HGP
    go_wp2_with fail
    with_reducible refine q3.mono ?_
    rintro e w4 ⟨g, rfl, hg, f4⟩
    have HF4 := toHid8 (HF3.out.then7 f4)
    have HB4 := toHid8 (HB3.out.kept f4)
    have HGf := toHid8 hg
    clear q3 f4 hg HB3 HF3 p0 p1 p2 p3 p4 p5 p6
    cases g with
    | true =>
      go_wp2_with fail
      go_ret
      exact ⟨rfl, HF4.out⟩
    | false =>
      have HWP := toHid8 (HGf.out rfl)
      obtain ⟨p0, p1, p2, p3, p4, p5, p6⟩ := HB4.out.cells
      have q4 := HA.out HW.out HWP.out w4 HF4.out
      have HU := toHid8 (fun R er k (h : allE L [p] = (R, er, k)) => h)
      obtain ⟨r, hr⟩ : ∃ r, allE L [p] = r := ⟨_, rfl⟩
      rw [hr] at q4
      obtain ⟨R, er, kk⟩ := r
      have HR := toHid8 hr
      clear hr HA HGf HU
      go_wp2_with fail
      with_reducible refine q4.mono ?_
      rintro e w5 ⟨v5, c5, rfl, HE5, HC5, f5⟩
      have HF5 := toHid8 (HF4.out.then7 f5)
      have HB5 := toHid8 (HB4.out.kept f5)
      clear q4 f5 HB4 HF4 p0 p1 p2 p3 p4 p5 p6
      by_cases he : er = 0
      · subst he
        obtain ⟨t1, t2, t3, t4, t5⟩ := all_stepE HR.out (weight_smE HW.out).2.2 (weight_smP HWP.out)
        obtain ⟨s1, s2⟩ := tree_small t2 t3 (by omega)
        have HCL := toHid8 (count_len t1 t4 t5)
        have HMW := toHid8 (fun (hk : p.kind = 10) (y : En) (hy : y ∈ R) => moved_was t1 t4 t5 hk hy)
        have HSX := toHid8 s1
        have HPR := toHid8 (show ∀ x ∈ R, x.path.size ≤ 4000 from fun x hx => by have := right_len (t2.own x hx).1; have h2 : (bl x.path).length = x.path.size := Array.length_toList; omega)
        obtain ⟨hk, _, _⟩ := rule_of t4
        obtain ⟨p0, p1, p2, p3, p4, p5, p6⟩ := HB5.out.cells
        have i1 : (n : Int) ≤ 1000 := by have := (weight_smE HW.out).2.1; have := HLen.out; omega
        obtain ⟨m, hm⟩ : ∃ m, R.length = m := ⟨_, rfl⟩
        have HRm := toHid8 hm
        have u1 : IntKind.i64.wrap ((n : Int) + 1) = (n : Int) + 1 := by rw [IntKind.wrap_i64]; omega
        have u2 : IntKind.i64.wrap ((n : Int) - 1) = (n : Int) - 1 := by rw [IntKind.wrap_i64]; omega
        clear t1 t2 t3 t4 t5 s1 s2
        rw [hm]
        by_cases h10 : p.kind = 10
        · rw [h10] at p0
          have hmn : m = n := by rw [← HRm.out, ← HLen.out]; exact HCL.out.2.2 (by omega) (by omega)
          subst hmn
          clear hk
          go_wp2_with fail
          go_loopw [9] (fun vi wr => ∃ k : Nat, k ≤ m ∧ vi = .int .i64 k ∧ Hid (Fr None' w5 wr)) (fun vi _ => m - (intOf vi).toNat)
          case atStart => exact ⟨0, Nat.zero_le _, rfl, Fr.refl _ _⟩
          case round =>
            obtain ⟨k, hk, rfl, HF⟩ := hrel
            by_cases hlt : k < m
            · have hkR : k < R.length := by rw [HRm.out]; exact hlt
              obtain ⟨g, o, rfl, vl, d0, d1, d2, d3, hs1⟩ := (HE5.out.kept HF.out).get hkR
              have hz := HSX.out _ (List.getElem_mem hkR)
              have HMk := toHid8 (HMW.out h10 R[k] (List.getElem_mem hkR))
              have HPz := toHid8 (HPR.out _ (List.getElem_mem hkR))
              obtain ⟨x, hxe⟩ : ∃ x, R[k] = x := ⟨_, rfl⟩
              rw [hxe] at d0 d1 d3 hs1 hz HMk HPz
              obtain ⟨P, K, l, Da⟩ := x
              simp only at d0 d1 d3 hs1 hz HMk HPz
              obtain ⟨hzp, hzd, hzl, hzs⟩ := hz
              have HS1 := toHid8 hs1
              obtain ⟨pl, cl, rfl, _⟩ := hs1
              obtain ⟨nl, hnl⟩ : ∃ m, l.length = m := ⟨_, rfl⟩
              rw [hnl] at d2 HS1
              obtain ⟨w6, hw6⟩ : ∃ x, wr.alloc (.cells #[.string P, .int .i64 K, .slice pl nl cl, .string Da] 41) = x := ⟨_, rfl⟩
              have F6 : Fr None' wr w6 := hw6 ▸ Fr.alloc None' wr _
              have BB : EBox w6 wr.heap.size (.string P) (.int .i64 K) (.slice pl nl cl) (.string Da) := hw6 ▸ EBox.new wr _ _ _ _
              obtain ⟨b0, b1, b2, b3⟩ := BB.cells
              have bz := BB.frozen
              obtain ⟨p0, p1, p2, p3, p4, p5, p6⟩ := (HB5.out.kept (HF.out.then7 F6)).cells
              have hsm := weight_smP HWP.out
              have q5 := Path.rmoved_any P p.dst p.path w6 (by omega) (by have := hsm.dst; omega) (by have := hsm.path; omega)
              obtain ⟨M, hM⟩ : ∃ Q : ByteArray, (⟨(Path.moved P.data.toList p.dst.data.toList p.path.data.toList).toArray⟩ : ByteArray) = Q := ⟨_, rfl⟩
              rw [hM] at q5
              have i2 : (k : Int) < (m : Int) := by omega
              have i3 : (0 : Int) ≤ (k : Int) := by omega
              cases hw : Path.within P.data.toList p.dst.data.toList with
              | true =>
                rw [hw] at q5
                obtain ⟨Q, hQ⟩ : ∃ Q, M = Q := ⟨_, rfl⟩
                obtain ⟨wY, hwY⟩ : ∃ x, w6.setCell ⟨wr.heap.size, 0, none⟩ (.string Q) = x := ⟨_, rfl⟩
                have FY : Fr None' wr wY := F6.trans (hwY ▸ Fr.setCell (M := fun k => k = wr.heap.size) (a := ⟨wr.heap.size, 0, none⟩) w6 rfl _ : Fr (fun k => k = wr.heap.size) w6 wY) (fun i e => Or.inr (by have e : i = wr.heap.size := e; omega))
                have HBY := toHid8 (show EBox wY wr.heap.size (.string Q) (.int .i64 K) (.slice pl nl cl) (.string Da) from hwY ▸ BB.set0 _)
                have HFY := toHid8 (HF.out.then7 FY)
                have HSY := toHid8 (HS1.out.kept FY)
                have HFq := toHid8 (show findE L (bl Q) = some ⟨Q, K, l, Da⟩ from by
                  have h := HMk.out.1 hw
                  rw [← hQ, ← hM]
                  exact h)
                have HQs := toHid8 (show Q.size < 10000000 from by
                  rw [← hQ, ← hM]
                  have h1 := moved_len P p.dst p.path (by have := HPz.out; omega) (by have := hsm.path; omega)
                  exact Nat.lt_of_le_of_lt h1 (by decide))
                rw [hQ] at q5
                have HSm := toHid8 (show SmallE [⟨Q, K, l, Da⟩] from fun y hy => by rw [List.mem_singleton.1 hy]; exact ⟨HQs.out, hzd, hzl, hzs⟩)
                clear hQ hM hxe hsm FY F6
                go_wp2_with fail
                with_reducible refine q5.mono ?_
                rintro e w7 ⟨rfl, rfl⟩
                clear q5
                obtain ⟨y0, y1, y2, y3⟩ := HBY.out.cells
                have q6 := efind_any va m c L Q wY HLen.out (HE.out wY (HF5.out.then7 HFY.out)) (by omega)
                rw [HFq.out] at q6
                unfold FindPost at q6
                simp only at q6
                go_wp2_with fail
                with_reducible refine q6.mono ?_
                rintro e w8 ⟨f8, vz, rfl, hsz⟩
                have HSz := toHid8 hsz
                obtain ⟨pz, cz, rfl, _⟩ := hsz
                rw [hnl] at HSz ⊢
                obtain ⟨w9, hw9⟩ : ∃ x, w8.alloc (.cells #[.string Q, .int .i64 K, .slice pz nl cz, .string Da] 41) = x := ⟨_, rfl⟩
                have F9 : Fr None' w8 w9 := hw9 ▸ Fr.alloc None' w8 _
                have BZ : EBox w9 w8.heap.size (.string Q) (.int .i64 K) (.slice pz nl cz) (.string Da) := hw9 ▸ EBox.new w8 _ _ _ _
                have HBZ := toHid8 BZ
                have HBY9 := toHid8 (HBY.out.kept (f8.then7 F9))
                have HF9 := toHid8 (HFY.out.then7 (f8.then7 F9))
                have HSy9 := toHid8 (HSY.out.kept (f8.then7 F9))
                have HSz9 := toHid8 (HSz.out.kept F9)
                obtain ⟨y0', y1', y2', y3'⟩ := HBY9.out.cells
                obtain ⟨wA, hwA⟩ : ∃ x, w9.alloc (.cells #[.string Q, .int .i64 K, .slice pl nl cl, .string Da] 41) = x := ⟨_, rfl⟩
                have FA : Fr None' w9 wA := hwA ▸ Fr.alloc None' w9 _
                have BA : EBox wA w9.heap.size (.string Q) (.int .i64 K) (.slice pl nl cl) (.string Da) := hwA ▸ EBox.new w9 _ _ _ _
                obtain ⟨z0, z1, z2, z3⟩ := (HBZ.out.kept FA).cells
                obtain ⟨wB, hwB⟩ : ∃ x, wA.alloc (.cells #[.string Q, .int .i64 K, .slice pz nl cz, .string Da] 41) = x := ⟨_, rfl⟩
                have FB : Fr None' wA wB := hwB ▸ Fr.alloc None' wA _
                have BB2 : EBox wB wA.heap.size (.string Q) (.int .i64 K) (.slice pz nl cz) (.string Da) := hwB ▸ EBox.new wA _ _ _ _
                have HFB := toHid8 (HF9.out.then7 (FA.then7 FB))
                have q7 := esame_any (some ⟨w9.heap.size, 0, none⟩) (some ⟨wA.heap.size, 0, none⟩) 1 1 1 [⟨Q, K, l, Da⟩] wB rfl (ent_one (BA.kept FB) (HSy9.out.kept (FA.then7 FB))) (ent_one BB2 (HSz9.out.kept (FA.then7 FB))) (by decide) (HSm.out)
                clear q6 f8 F9 BZ y0 y1 y2 y3 FA FB BA BB2
                go_wp2_with fail
                with_reducible refine q7.mono ?_
                rintro e wC ⟨rfl, fC⟩
                have HFC := toHid8 (HFB.out.then7 fC)
                clear q7 fC
                go_wp2_with fail
                exact ⟨⟨k + 1, by omega, by go_num, HFC.out⟩, by simp [intOf]; omega⟩
              | false =>
                rw [hw] at q5
                have HFY := toHid8 (show Fr None' w5 w6 from HF.out.then7 F6)
                have HBY := toHid8 (show EBox w6 wr.heap.size (.string P) (.int .i64 K) (.slice pl nl cl) (.string Da) from BB)
                have HSY := toHid8 (HS1.out.kept F6)
                have HFq := toHid8 (show findE L (bl P) = some ⟨P, K, l, Da⟩ from by
                  have h := HMk.out.2 hw
                  exact h)
                have HSm := toHid8 (show SmallE [⟨P, K, l, Da⟩] from fun y hy => by rw [List.mem_singleton.1 hy]; exact ⟨hzp, hzd, hzl, hzs⟩)
                clear hM hxe hsm F6
                go_wp2_with fail
                with_reducible refine q5.mono ?_
                rintro e w7 ⟨rfl, rfl⟩
                clear q5
                obtain ⟨y0, y1, y2, y3⟩ := HBY.out.cells
                have q6 := efind_any va m c L P w6 HLen.out (HE.out w6 (HF5.out.then7 HFY.out)) (by omega)
                rw [HFq.out] at q6
                unfold FindPost at q6
                simp only at q6
                go_wp2_with fail
                with_reducible refine q6.mono ?_
                rintro e w8 ⟨f8, vz, rfl, hsz⟩
                have HSz := toHid8 hsz
                obtain ⟨pz, cz, rfl, _⟩ := hsz
                rw [hnl] at HSz ⊢
                obtain ⟨w9, hw9⟩ : ∃ x, w8.alloc (.cells #[.string P, .int .i64 K, .slice pz nl cz, .string Da] 41) = x := ⟨_, rfl⟩
                have F9 : Fr None' w8 w9 := hw9 ▸ Fr.alloc None' w8 _
                have BZ : EBox w9 w8.heap.size (.string P) (.int .i64 K) (.slice pz nl cz) (.string Da) := hw9 ▸ EBox.new w8 _ _ _ _
                have HBZ := toHid8 BZ
                have HBY9 := toHid8 (HBY.out.kept (f8.then7 F9))
                have HF9 := toHid8 (HFY.out.then7 (f8.then7 F9))
                have HSy9 := toHid8 (HSY.out.kept (f8.then7 F9))
                have HSz9 := toHid8 (HSz.out.kept F9)
                obtain ⟨y0', y1', y2', y3'⟩ := HBY9.out.cells
                obtain ⟨wA, hwA⟩ : ∃ x, w9.alloc (.cells #[.string P, .int .i64 K, .slice pl nl cl, .string Da] 41) = x := ⟨_, rfl⟩
                have FA : Fr None' w9 wA := hwA ▸ Fr.alloc None' w9 _
                have BA : EBox wA w9.heap.size (.string P) (.int .i64 K) (.slice pl nl cl) (.string Da) := hwA ▸ EBox.new w9 _ _ _ _
                obtain ⟨z0, z1, z2, z3⟩ := (HBZ.out.kept FA).cells
                obtain ⟨wB, hwB⟩ : ∃ x, wA.alloc (.cells #[.string P, .int .i64 K, .slice pz nl cz, .string Da] 41) = x := ⟨_, rfl⟩
                have FB : Fr None' wA wB := hwB ▸ Fr.alloc None' wA _
                have BB2 : EBox wB wA.heap.size (.string P) (.int .i64 K) (.slice pz nl cz) (.string Da) := hwB ▸ EBox.new wA _ _ _ _
                have HFB := toHid8 (HF9.out.then7 (FA.then7 FB))
                have q7 := esame_any (some ⟨w9.heap.size, 0, none⟩) (some ⟨wA.heap.size, 0, none⟩) 1 1 1 [⟨P, K, l, Da⟩] wB rfl (ent_one (BA.kept FB) (HSy9.out.kept (FA.then7 FB))) (ent_one BB2 (HSz9.out.kept (FA.then7 FB))) (by decide) (HSm.out)
                clear q6 f8 F9 BZ y0 y1 y2 y3 FA FB BA BB2
                go_wp2_with fail
                with_reducible refine q7.mono ?_
                rintro e wC ⟨rfl, fC⟩
                have HFC := toHid8 (HFB.out.then7 fC)
                clear q7 fC
                go_wp2_with fail
                exact ⟨⟨k + 1, by omega, by go_num, HFC.out⟩, by simp [intOf]; omega⟩
            · have i2 : ¬ (k : Int) < (m : Int) := by omega
              have HFz := toHid8 (HF5.out.then7 HF.out)
              go_wp2_with fail
              go_ret
              exact ⟨rfl, HFz.out⟩
        · by_cases hA : p.kind = 1 ∨ p.kind = 3 ∨ p.kind = 5
          · have hmn := HCL.out.1 hA
            rw [HRm.out, HLen.out] at hmn
            have hb : ((m : Int) == (n : Int) + 1) = true := by rw [hmn]; simp
            clear hk
            rcases hA with hA | hA | hA <;> rw [hA] at p0 <;> clear h10 <;> (go_wp2_with fail) <;> go_ret <;> exact ⟨rfl, HF5.out⟩
          · by_cases hB : p.kind = 2 ∨ p.kind = 4 ∨ p.kind = 6
            · have hmn := HCL.out.2.1 hB
              rw [HRm.out, HLen.out] at hmn
              have hb : ((m : Int) == (n : Int) - 1) = true := by rw [← hmn]; simp
              clear hk hA
              rcases hB with hA | hA | hA <;> rw [hA] at p0 <;> clear h10 <;> (go_wp2_with fail) <;> go_ret <;> exact ⟨rfl, HF5.out⟩
            · have hmn := HCL.out.2.2 hA hB
              rw [HRm.out, HLen.out] at hmn
              subst hmn
              have hC : p.kind = 7 ∨ p.kind = 8 ∨ p.kind = 9 := by omega
              clear hk hA hB
              rcases hC with hA | hA | hA <;> rw [hA] at p0 <;> clear h10 <;> (go_wp2_with fail) <;> go_ret <;> exact ⟨rfl, HF5.out⟩
      · have he2 : (er == 0) = false := by simpa using he
        obtain rfl := all_none8 HR.out he
        go_wp2_with fail
        go_ret
        exact ⟨rfl, HF5.out⟩

end Go.Proofs.YtcpjneejlfgkeaaGreatDoor
