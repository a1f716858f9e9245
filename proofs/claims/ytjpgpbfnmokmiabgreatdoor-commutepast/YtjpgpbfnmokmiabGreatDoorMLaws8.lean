/-
  What is proved here: what Apply answers; sizes; facts that the statements on patches and trees want. Conditions: all lies in memory, and is of bounded size.
-/
import Derived.Test.YtjpgpbfnmokmiabGreatDoorM38Chg8
import Derived.Test.YtjpgpbfnmokmiabGreatDoorM34WithL8
import Derived.Test.YtjpgpbfnmokmiabGreatDoorM26Exch9
import Derived.Test.YtjpgpbfnmokmiabGreatDoorMSameE
namespace Go.Proofs.YtjpgpbfnmokmiabGreatDoor
open Go.RowKit Go.Maps Go.WideMaps
set_option maxRecDepth 100000

/-- What Apply answers. -/
def ApplyPost8 (r : List En × Int × Nat) (w : World) (e : Ending) (w' : World) : Prop := ∃ (va : Option Addr) (c : Nat), e = .returned (.tuple #[.slice va r.1.length c, .int .i64 r.2.1]) ∧ Hid (EntsAt w' va r.1) ∧ Hid (va = none → c = 0) ∧ Fr None' w w'

set_option maxHeartbeats 4000000 in
theorem apply8_any (va : Option Addr) (n c : Nat) (L : List En) (p : Pr) (vo vn : Value) (B : Nat) (w : World) (hl : L.length = n) (h : EntsAt w va L) (hn : n ≤ 90000) (hs : SmallE L) (ho : StrsAt w vo p.old) (hw : StrsAt w vn p.new) (hB : SmLn B L) (hB2 : B ≤ 800000) (hp : SmPr p) :
    Calls Tryz.prog 11 #[.slice va n c, .agg #[.int .i64 p.kind, .string p.path, .string p.dst, .string p.src, .int .i64 p.pos, vo, vn]] w fun e w' => ApplyPost8 (allE L [p]) w e w' := by
  obtain ⟨pa, ca, rfl, ho'⟩ := ho
  obtain ⟨pb, cb, rfl, hw'⟩ := hw
  obtain ⟨w1, hw1⟩ : ∃ w1, w.alloc (.cells #[.int .i64 p.kind, .string p.path, .string p.dst, .string p.src, .int .i64 p.pos, .slice pa p.old.length ca, .slice pb p.new.length cb] 32) = w1 := ⟨_, rfl⟩
  obtain ⟨w2, hw2⟩ : ∃ w2, w1.alloc (.cells #[.int .i64 p.kind, .string p.path, .string p.dst, .string p.src, .int .i64 p.pos, .slice pa p.old.length ca, .slice pb p.new.length cb] 32) = w2 := ⟨_, rfl⟩
  have F1 : Fr None' w w1 := hw1 ▸ Fr.alloc None' w _
  have F2 : Fr None' w1 w2 := hw2 ▸ Fr.alloc None' w1 _
  obtain ⟨p0, p1, p2, p3, p4, p5, p6⟩ := (hw1 ▸ Box.new w _ _ _ _ _ _ _ : Box w1 w.heap.size (.int .i64 p.kind) (.string p.path) (.string p.dst) (.string p.src) (.int .i64 p.pos) (.slice pa p.old.length ca) (.slice pb p.new.length cb)).cells
  have HF := toHid8 (F1.then7 F2)
  have cA := all8_any va n c L (some ⟨w1.heap.size, 0, none⟩) 1 1 [p] B w2 hl (h.kept HF.out) hn hs rfl (fun k x hk => by
    have hk0 : k = 0 := by have := (List.getElem?_eq_some_iff.1 hk).1; simpa using this
    subst hk0
    cases hk
    obtain ⟨a0, a1, a2, a3, a4, a5, a6⟩ := (hw2 ▸ Box.new w1 _ _ _ _ _ _ _ : Box w2 w1.heap.size (.int .i64 p.kind) (.string p.path) (.string p.dst) (.string p.src) (.int .i64 p.pos) (.slice pa p.old.length ca) (.slice pb p.new.length cb)).cells
    exact ⟨w1.heap.size, 0, rfl, _, _, a0, a1, a2, a3, a4, a5, a6, StrsAt.kept ⟨pa, ca, rfl, ho'⟩ HF.out, StrsAt.kept ⟨pb, cb, rfl, hw'⟩ HF.out⟩) (by omega) hB (by
    have := hp.new
    simp [newTo]
    omega) (fun q hq => by rw [List.mem_singleton.1 hq]; exact hp)
  clear ho' hw' F1 F2 hl h hn hs hB hB2 hp
  generalize allE L [p] = r at cA ⊢
  obtain ⟨R, er, k⟩ := r
  go_enter Tryz.func11, Tryz.ntmps11
  go_wp2_with fail
  with_reducible refine cA.mono ?_
  rintro e w3 ⟨v3, c3, rfl, H1, H2, f3⟩
  clear cA p0 p1 p2 p3 p4 p5 p6
  have HF3 := toHid8 (HF.out.then7 f3)
  clear f3
  go_wp2_with fail
  go_ret2
  exact ⟨v3, c3, rfl, H1.out, H2.out, HF3.out⟩

theorem weight_smE {L : List En} (h : weight L < 4000) : SmallE L ∧ L.length ≤ 1000 ∧ SmLn 4000 L := by
  refine ⟨fun x hx => ?_, by have := weight_len L; omega, fun x hx => ?_⟩
  · have h1 := weight_mem hx
    unfold En.weight at h1
    refine ⟨by omega, by omega, by omega, fun y hy => ?_⟩
    have := size_mem hy
    omega
  · have h1 := weight_mem hx
    unfold En.weight at h1
    refine ⟨⟨by omega, by omega⟩, fun y hy => SmLine.of ?_⟩
    have := size_mem hy
    omega

theorem weight_smP {p : Pr} (h : p.weight < 4000) : SmPr p := by
  unfold Pr.weight at h
  refine ⟨by omega, by omega, by omega, by omega, by omega, fun y hy => ?_, fun y hy => ?_⟩
  · have := size_mem hy; omega
  · have := size_mem hy; omega

theorem SmPr.inv {p : Pr} (h : SmPr p) : SmPr (inv p) := by
  unfold Proofs.YtjpgpbfnmokmiabGreatDoor.inv
  (repeat' split) <;> first | exact ⟨h.1, h.2, h.3, h.4, h.5, h.6, h.7⟩ | exact ⟨h.1, h.2, h.3, h.5, h.4, h.7, h.6⟩ | exact ⟨h.1, h.3, h.2, h.4, h.5, h.6, h.7⟩ | exact ⟨h.2, h.1, h.3, h.4, h.5, h.6, h.7⟩ | exact ⟨by decide, by decide, by decide, by decide, by decide, fun y hy => (by cases hy), fun y hy => (by cases hy)⟩

theorem tree_small {B : Nat} {L : List En} (h : TreeR L) (hB : SmLn B L) (h2 : B ≤ 800000) : SmallE L ∧ L.length ≤ 90000 := by
  refine ⟨fun x hx => ?_, by have := h.len; omega⟩
  obtain ⟨⟨a, b⟩, c⟩ := hB x hx
  have := path_size (h.own x hx).1
  refine ⟨by omega, by omega, by omega, fun y hy => ?_⟩
  have := (c y hy).size
  omega

/-- What a patch made is a right tree, still small. -/
theorem all_one {L L' : List En} {p : Pr} {k : Nat} (e : allE L [p] = (L', 0, k)) : treeRight L = true ∧ doE L p = (L', 0) ∧ k = 0 := by
  cases ht : treeRight L with
  | false => rw [runE_bad ht] at e; simp at e
  | true =>
    rw [runE_good ht] at e
    obtain ⟨M, h1, h2⟩ := run_cons.1 e
    simp [runE] at h2
    rw [← h2.1]
    exact ⟨rfl, h1, h2.2.symm⟩

theorem all_stepE {L L' : List En} {p : Pr} {k B : Nat} (e : allE L [p] = (L', 0, k)) (hB : SmLn B L) (hp : SmPr p) : TreeR L ∧ TreeR L' ∧ SmLn (B + 4000) L' ∧ rightP p = true ∧ actE L p = (L', 0) := by
  obtain ⟨h1, h2, _⟩ := all_one e
  have hT := (treeR L).1 h1
  obtain ⟨hr, ha⟩ := do_of h2
  exact ⟨hT, hT.act hr ha, (hB.act hp hT.strict hr ha).mono (by have := hp.new; omega), hr, ha⟩

theorem all_undone {L L' : List En} {p : Pr} {k : Nat} (e : allE L [p] = (L', 0, k)) : allE L' [inv p] = (L, 0, 0) := by
  obtain ⟨h1, h2, _⟩ := all_one e
  have hT := (treeR L).1 h1
  obtain ⟨hr, ha⟩ := do_of h2
  rw [runE_good ((treeR L').2 (hT.act hr ha))]
  refine run_cons.2 ⟨L, ?_, rfl⟩
  unfold doE
  rw [if_pos (right_inv hr)]
  exact hT.undo hr ha

theorem newTo_sm {ps : List Pr} (h : ∀ p ∈ ps, SmPr p) : newTo ps ps.length ≤ 4000 * ps.length := by
  unfold newTo
  rw [List.take_length]
  induction ps with
  | nil => exact Nat.zero_le _
  | cons p ps ih =>
    have h1 := ih (fun q hq => h q (List.mem_cons_of_mem _ hq))
    have h2 := (h p (List.mem_cons_self ..)).new
    simp only [List.map_cons, List.sum_cons, List.length_cons]
    omega

theorem run_sm : ∀ {ps : List Pr} {L R : List En} {B j k : Nat}, TreeR L → SmLn B L → (∀ p ∈ ps, SmPr p) → runE L ps j = (R, 0, k) → TreeR R ∧ SmLn (B + 4000 * ps.length) R
  | [], _, _, B, _, _, h, hB, _, e => by simp [runE] at e; rw [← e.1]; exact ⟨h, hB⟩
  | p :: ps, _, _, B, _, _, h, hB, hp, e => by
    obtain ⟨M, h1, h2⟩ := run_cons.1 e
    obtain ⟨hr, ha⟩ := do_of h1
    have hpp := hp p (List.mem_cons_self ..)
    obtain ⟨a, b⟩ := run_sm (h.act hr ha) (hB.act hpp h.strict hr ha) (fun q hq => hp q (List.mem_cons_of_mem _ hq)) h2
    refine ⟨a, b.mono ?_⟩
    have := hpp.new
    simp only [List.length_cons]
    omega

theorem all_many {L R : List En} {ps : List Pr} {k : Nat} (e : allE L ps = (R, 0, k)) (hB : SmLn 4000 L) (hp : ∀ p ∈ ps, SmPr p) : TreeR R ∧ SmLn (4000 + 4000 * ps.length) R ∧ allE R (ps.reverse.map inv) = (L, 0, 0) := by
  cases ht : treeRight L with
  | false => rw [runE_bad ht] at e; simp at e
  | true =>
    rw [runE_good ht] at e
    have hT := (treeR L).1 ht
    obtain ⟨a, b⟩ := run_sm hT hB hp e
    have hk := run_zero e
    subst hk
    refine ⟨a, b, ?_⟩
    rw [runE_good ((treeR R).2 a)]
    exact TreeR.undone hT e

theorem inv_sms {ps : List Pr} (h : ∀ p ∈ ps, SmPr p) : ∀ p ∈ ps.reverse.map inv, SmPr p := fun p hp => by
  obtain ⟨q, hq, rfl⟩ := List.mem_map.1 hp
  exact (h q (List.mem_reverse.1 hq)).inv

end Go.Proofs.YtjpgpbfnmokmiabGreatDoor
