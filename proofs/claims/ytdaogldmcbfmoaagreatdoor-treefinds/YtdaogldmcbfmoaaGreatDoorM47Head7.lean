/-
  What is proved here: the contracts that the statement stands on: Head7, Set7, App7. Conditions: as each theorem names them.
-/
import Derived.Test.YtdaogldmcbfmoaaGreatDoorMHead7K
import Derived.Test.YtdaogldmcbfmoaaGreatDoorM44TakeT
import Derived.Test.YtdaogldmcbfmoaaGreatDoorM38RightT2
namespace Go.Proofs.YtdaogldmcbfmoaaGreatDoor
open Go.RowKit Go.Maps Go.WideMaps
set_option maxRecDepth 100000

attribute [local irreducible] k0 k1 k2 n0 n1 n2 S1 S2 S3

theorem Puts.nil_inv {S : Type} {R : S → List UInt8 → Int → S → Prop} {s t : S} {e : Int} (h : Puts R s [] e t) : e = 0 ∧ t = s := by
  cases h
  exact ⟨rfl, rfl⟩

theorem Puts.step {s : St} {j : Nat} {x : List UInt8} {l : List (List UInt8)} {e : Int} {t : St × Nat} (h0 : ∀ a, (s.put x a).2.1 = 0) (hp : Puts PutD (s, j) (x :: l) e t) : ∃ a, Puts PutD ((s.put x a).2.2, j + 1) l e t := by
  cases hp with
  | stop h1 h2 =>
    obtain ⟨v, _, he⟩ := h1
    exact absurd (he.trans (h0 v)) h2
  | next h1 h2 =>
    obtain ⟨v, hs, _⟩ := h1
    subst hs
    exact ⟨v, h2⟩

theorem puts_three {er : Int} {S' : St} {k' : Nat} (h : Puts PutD (St.new 10000, 0) [k0, k1, k2] er (S', k')) : er = 0 ∧ ∃ a b c, S' = S3 a b c := by
  obtain ⟨a, h1⟩ := Puts.step put_one h
  rw [← S1_eq] at h1
  obtain ⟨b, h2⟩ := Puts.step (put_two a) h1
  rw [← S2_eq] at h2
  obtain ⟨c, h3⟩ := Puts.step (put_three a b) h2
  rw [← S3_eq] at h3
  obtain ⟨e1, e2⟩ := h3.nil_inv
  injection e2 with e3 e4
  exact ⟨e1, a, b, c, e3⟩

theorem two_len : ([k0, k1, k2] : List (List UInt8)).length = 3 := rfl
theorem two_last : lastName [k0, k1, k2] = n2 := by unfold n2 lastName; rfl
theorem none_ans : nameAns [] 0 = .tuple #[.string (strB (nm [100])), .int .i64 0] := by
  unfold nameAns
  rw [if_pos right_none]
  rfl
theorem one_ans : nameAns [enB] 3 = .tuple #[.string ⟨#[]⟩, .int .i64 1] := by
  unfold nameAns
  rw [if_neg (by rw [right_one]; exact Bool.false_ne_true)]

theorem two_small {L : List En} (h : ∀ x ∈ L, x ∈ two7) : SmallE L ∧ ∀ x ∈ L, x.path.size ≤ 3 ∧ x.lines.length < 900000 ∧ (leaf x).length ≤ 100000 := by
  refine ⟨fun x hx => ?_, fun x hx => ?_⟩
  · have := h x hx
    simp only [two7, List.mem_cons, List.not_mem_nil, or_false] at this
    rcases this with rfl | rfl
    · exact ⟨by decide, by decide, by decide, fun y hy => by cases hy⟩
    · refine ⟨by decide, by decide, by decide, fun y hy => ?_⟩
      have hy' : y = ⟨#[120]⟩ := by simpa [enB] using hy
      subst hy'
      decide
  · have := h x hx
    simp only [two7, List.mem_cons, List.not_mem_nil, or_false] at this
    rcases this with rfl | rfl
    · exact ⟨by decide, by decide, by decide⟩
    · exact ⟨by decide, by decide, by decide⟩

set_option maxHeartbeats 4000000 in
theorem head_any (w : World) : Calls Tryz.prog 6 #[] w fun e w' => e = .returned (.bool true) ∧ Fr None' w w' := by
  have hnil : ∀ (w : World) (p : Nat), (binOp .eql 27 (.pointer (some ⟨p, 0, none⟩)) (.pointer none)).run Tryz.prog w = .ok (.bool false) w := fun w p => by rfl
  obtain ⟨wa, hwa⟩ : ∃ x, w.alloc (.cells #[.string ⟨#[120]⟩] 9) = x := ⟨_, rfl⟩
  obtain ⟨wA, hwA⟩ : ∃ x, wa.alloc (.cells #[.string ⟨#[97]⟩, .int .i64 1, .slice none 0 0, .string ⟨#[]⟩, .string ⟨#[97, 47, 98]⟩, .int .i64 2, .slice (some ⟨w.heap.size, 0, none⟩) 1 1, .string ⟨#[]⟩] 38) = x := ⟨_, rfl⟩
  have Fa : Fr None' w wa := hwa ▸ Fr.alloc None' w _
  have FA : Fr None' wa wA := hwA ▸ Fr.alloc None' wa _
  have hx : wa.cell? ⟨w.heap.size, 0, none⟩ = some (.string ⟨#[120]⟩) := by rw [← hwa]; simp
  have hB : wA.heap[wa.heap.size]? = some (.cells #[.string ⟨#[97]⟩, .int .i64 1, .slice none 0 0, .string ⟨#[]⟩, .string ⟨#[97, 47, 98]⟩, .int .i64 2, .slice (some ⟨w.heap.size, 0, none⟩) 1 1, .string ⟨#[]⟩] 38) := by
    rw [← hwA]
    exact heap_alloc_new wa _
  have sB : StrsAt wA (.slice (some ⟨w.heap.size, 0, none⟩) 1 1) enB.lines := ⟨_, 1, rfl, fun e => (by cases e), Nat.le_refl _, fun j y hj => by
    have e0 : j = 0 := by have := (List.getElem?_eq_some_iff.1 hj).1; simpa [enB] using this
    subst e0
    have e1 : y = ⟨#[120]⟩ := by simpa [enB] using hj.symm
    subst e1
    exact ⟨_, 0, rfl, FA.keepCell hx (fun e => e)⟩⟩
  have eB : EnAt wA (wa.heap.size) 4 enB := ⟨.slice (some ⟨w.heap.size, 0, none⟩) 1 1, by simp [World.cell?, hB, enB], by simp [World.cell?, hB, enB], by simp [World.cell?, hB], by simp [World.cell?, hB, enB], sB⟩
  have eA : EnAt wA (wa.heap.size) 0 enA := ⟨.slice none 0 0, by simp [World.cell?, hB, enA], by simp [World.cell?, hB, enA], by simp [World.cell?, hB], by simp [World.cell?, hB, enA], ⟨none, 0, rfl, fun _ => rfl, Nat.le_refl _, fun j y hj => by simp [enA] at hj⟩⟩
  have E2 : EntsAt wA (some ⟨wa.heap.size, 0, none⟩) two7 := fun k x hk => by
    have hk2 : k < 2 := (List.getElem?_eq_some_iff.1 hk).1
    have hk3 : k = 0 ∨ k = 1 := by omega
    rcases hk3 with rfl | rfl
    · have : x = enA := by simpa [two7] using hk.symm
      subst this
      exact ⟨_, 0, rfl, eA⟩
    · have : x = enB := by simpa [two7] using hk.symm
      subst this
      exact ⟨_, 0, rfl, eB⟩
  have E1 : EntsAt wA (some ⟨wa.heap.size, 4, none⟩) [enB] := fun k x hk => by
    have hk2 : k < 1 := (List.getElem?_eq_some_iff.1 hk).1
    have hk3 : k = 0 := by omega
    subst hk3
    have : x = enB := by simpa using hk.symm
    subst this
    exact ⟨_, 4, rfl, eB⟩
  have HE : Hid (EntsAt wA (some ⟨wa.heap.size, 0, none⟩) two7 ∧ EntsAt wA (some ⟨wa.heap.size, 4, none⟩) [enB] ∧ Fr None' w wA) := ⟨E2, E1, Fa.then7 FA⟩
  have q1 := live_new 10000 wA
  clear hx hB sB eA eB E1 E2 FA Fa
  go_enter Tryz.func6, Tryz.ntmps6
  go_wp2_with fail
  with_reducible refine q1.mono ?_
  rintro e w1 ⟨p, rfl, L1⟩
  obtain ⟨M, hD, f1, hM⟩ := L1
  obtain ⟨sm2, sz2⟩ := two_small (L := two7) (fun x hx => hx)
  have q2 := tsave_any (c := 2) (by decide) sz2 sm2 (L := two7) (n := 2) rfl (by decide) HE.out.1 f1 hD (Inv.new 10000) hM (by rw [kept_two, two_len]; decide)
  have HD : Hid (Fr None' wA w1 ∧ ∀ k, M k → wA.heap.size ≤ k) := ⟨f1, hM⟩
  clear q1 hD f1 hM sm2 sz2
  go_wp2_with fail
  with_reducible refine q2.mono ?_
  rintro e w2 hs
  have hs' : ∃ a b c k', e = .returned (.tuple #[.string (strB n2), .int .i64 0]) ∧ k' ≤ 1000 ∧ Inv k' (S3 a b c) ∧ Live wA w2 p (S3 a b c) := by
    rcases hs with ⟨_, er, y, S', k', he, hy, hp, hI, M', h1, h2, h3⟩ | ⟨hT, _⟩
    · rw [kept_two] at hy hp
      have hc := hp.cnt (putD p 0)
      rw [two_len] at hc
      obtain ⟨e0, a, b, c, rfl⟩ := puts_three hp
      subst e0
      rw [if_pos rfl, two_last] at hy
      refine ⟨a, b, c, k', by rw [he, strB_bl hy], ?_, hI, M', h1, HD.out.1.trans h2 (fun k hk => Or.inr (HD.out.2 k hk)), fun k hk => ?_⟩
      · have hc' : k' ≤ 0 + 3 := hc
        omega
      · rcases h3 k hk with e | e
        · exact HD.out.2 k e
        · exact Nat.le_trans HD.out.1.size e
    · rw [right_two] at hT
      cases hT
  obtain ⟨a, b, c, k', rfl, hk, hI, L2⟩ := hs'
  have q3 := tload_any L2 (L2.used hI hk) hI.len (strB n2) (by rw [size_strB]; unfold n2; rw [nm_length]; decide)
  rw [show bl (strB n2) = n2 from rfl, load_three] at q3
  generalize strB n2 = N2 at q3 ⊢
  clear q2 hs hI hk L2
  go_wp2_with fail
  with_reducible refine q3.mono ?_
  rintro e w3 ⟨va3, c3, rfl, _, L3, F3⟩
  have FA3 : Fr None' wA w3 := by
    obtain ⟨_, _, f, _⟩ := L3
    exact f
  have q4 := tname_any (L := []) (N := 0) (by decide) (fun x hx => by cases hx) (fun x hx => by cases hx) (n := 0) rfl (by decide) (va := none) (c := 0) (w := w3) (fun k x hk => by simp at hk)
  rw [none_ans] at q4
  have HF3 : Hid (Fr None' wA w3) := FA3
  clear L3 F3 q3 FA3
  go_wp2_with fail
  with_reducible refine q4.mono ?_
  rintro e w4 ⟨rfl, F4⟩
  obtain ⟨sm1, sz1⟩ := two_small (L := [enB]) (fun x hx => by rw [List.mem_singleton.1 hx]; exact List.mem_cons_of_mem _ (List.mem_cons_self ..))
  have FA4 : Fr None' wA w4 := HF3.out.then7 F4
  have q5 := tname_any (c := 1) (by decide) sz1 sm1 (n := 1) rfl (by decide) (HE.out.2.1.kept FA4)
  rw [one_ans] at q5
  have HF4 : Hid (Fr None' wA w4) := FA4
  obtain ⟨nD, hnD⟩ : ∃ x, strB (nm [100]) = x := ⟨_, rfl⟩
  rw [hnD]
  have HND : Hid (strB (nm [100]) = nD) := hnD
  clear q4 F4 FA4 sm1 sz1 hnD
  go_wp2_with fail
  with_reducible refine q5.mono ?_
  rintro e w5 ⟨rfl, F5⟩
  have FA5 : Fr None' wA w5 := HF4.out.then7 F5
  have q6 := tfind_any (some ⟨wa.heap.size, 0, none⟩) 2 2 two7 ⟨#[97, 47, 98]⟩ w5 rfl (HE.out.1.kept FA5) (by decide) (two_small (L := two7) (fun x hx => hx)).1
  rw [show findE two7 (bl ⟨#[97, 47, 98]⟩) = some enB from find_two] at q6
  have HF5 : Hid (Fr None' wA w5) := FA5
  clear q5 F5 FA5
  go_wp2_with fail
  with_reducible refine q6.mono ?_
  rintro e w6 ⟨F6, vl, he, hst⟩
  obtain ⟨pl, cl, hv, _⟩ := hst
  subst hv
  simp only [enB, List.length_singleton] at he
  subst he
  have FA6 : Fr None' wA w6 := HF5.out.then7 F6
  have HC : Hid (∃ w8, (convert 57 57 (.slice (some ⟨w6.heap.size + 1, 0, none⟩) 1 1)).run Tryz.prog ((w6.alloc (.cells #[.string ⟨#[97, 47, 98]⟩, .int .i64 2, .slice pl 1 cl, .string ⟨#[]⟩] 38)).alloc (.cells #[.int .u8 100] 5)) = .ok (.slice (some ⟨w6.heap.size + 1, 0, none⟩) 1 1) w8 ∧ w8.cell? ⟨w6.heap.size, 1, none⟩ = some (.int .i64 2) ∧ w8.cell? ⟨w6.heap.size + 1, 0, none⟩ = some (.int .u8 100) ∧ Fr None' w6 w8) := by
    obtain ⟨w7, hw7⟩ : ∃ x, w6.alloc (.cells #[.string ⟨#[97, 47, 98]⟩, .int .i64 2, .slice pl 1 cl, .string ⟨#[]⟩] 38) = x := ⟨_, rfl⟩
    have F7 : Fr None' w6 w7 := hw7 ▸ Fr.alloc None' w6 _
    have s7 : w7.heap.size = w6.heap.size + 1 := by rw [← hw7]; simp
    obtain ⟨b0, b1, b2, b3⟩ := cell4 w6 38 (.string ⟨#[97, 47, 98]⟩) (.int .i64 2) (.slice pl 1 cl) (.string ⟨#[]⟩)
    rw [hw7] at b0 b1 b2 b3
    have F8 : Fr None' w7 (w7.alloc (.cells #[.int .u8 100] 5 (1, 2))) := Fr.alloc None' w7 _
    rw [hw7, ← s7]
    refine ⟨w7.alloc (.cells #[.int .u8 100] 5 (1, 2)), Lib.run_convert_bytes_const (P := Tryz.prog) w7 57 5 #[.int .u8 100] 1 1 Tryz.underlying57 Tryz.underlying5, F8.keepCell b1 (fun e => e), ?_, F7.then7 F8⟩
    rw [World.cell?, heap_alloc_new]
    rfl
  obtain ⟨w8, cv, g1, hc8, F8⟩ := HC.out
  have q7 := Sha.rname_any (some ⟨w6.heap.size + 1, 0, none⟩) 1 1 (mOf [100]) w8 ⟨_, 1, rfl, Nat.le_refl _, fun i hi => ⟨_, 0, rfl, by
    have e0 : i = 0 := by omega
    subst e0
    exact hc8⟩⟩ (fun e => by cases e) (by decide)
  rw [show (⟨(Sha.nameS 1 (mOf [100])).toArray⟩ : ByteArray) = nD from HND.out] at q7
  have HF8 : Hid (Fr None' wA w8) := FA6.then7 F8
  have HE8 : Hid (∀ w9, Fr None' w8 w9 → EntsAt w9 (some ⟨wa.heap.size, 0, none⟩) two7) := fun w9 f => HE.out.1.kept (HF8.out.then7 f)
  have l2 : two7.length = 2 := rfl
  rw [l2]
  clear q6 F6 FA6 F8 hc8 HND HC
  go_wp2_with fail
  with_reducible refine q7.mono ?_
  rintro e w9 ⟨rfl, F9'⟩
  have F9 : Fr None' w8 w9 := ofS F9'
  have q8 := tright_any (some ⟨wa.heap.size, 0, none⟩) 2 2 two7 w9 rfl (HE8.out w9 F9) (by decide) (two_small (L := two7) (fun x hx => hx)).1
  rw [right_two] at q8
  have g2 := F9.keepCell g1 (fun e => e)
  have HF9 : Hid (Fr None' wA w9) := HF8.out.then7 F9
  clear F9 F9' q7
  go_wp2_with fail
  with_reducible refine q8.mono ?_
  rintro e w10 ⟨rfl, F10⟩
  have HF10 : Hid (Fr None' w w10) := HE.out.2.2.then7 (HF9.out.then7 F10)
  clear F10 q8
  go_wp2_with fail
  go_ret
  exact ⟨rfl, HF10.out⟩

end Go.Proofs.YtdaogldmcbfmoaaGreatDoor

namespace Go.Proofs.YtdaogldmcbfmoaaGreatDoor
open Go.RowKit
set_option maxRecDepth 100000

/-- What a thing must be by itself. -/
def ownOk (x : En) : Prop := Path.right (bl x.path) = true ∧ thing x = true

theorem find_some {L : List En} {p : List UInt8} {d : En} (h : findE L p = some d) : d ∈ L ∧ bl d.path = p := by
  refine ⟨List.mem_of_find?_eq_some h, ?_⟩
  have := List.find?_some h
  simpa using this

theorem strict_inj {L : List En} (h : Strict L) {x y : En} (hx : x ∈ L) (hy : y ∈ L) (e : bl x.path = bl y.path) : x = y := by
  induction L with
  | nil => cases hx
  | cons z L ih =>
    obtain ⟨h1, h2⟩ := List.pairwise_cons.1 h
    rcases List.mem_cons.1 hx with e1 | hx'
    · rcases List.mem_cons.1 hy with e2 | hy'
      · rw [e1, e2]
      · subst e1
        have := h1 y hy'
        rw [e] at this
        exact absurd this (List.lt_irrefl _)
    · rcases List.mem_cons.1 hy with e2 | hy'
      · subst e2
        have := h1 x hx'
        rw [e] at this
        exact absurd this (List.lt_irrefl _)
      · exact ih h2 hx' hy'

theorem find_of_mem {L : List En} (h : Strict L) {d : En} (hd : d ∈ L) : findE L (bl d.path) = some d := by
  cases hf : findE L (bl d.path) with
  | none =>
    unfold findE at hf
    have := List.find?_eq_none.1 hf d hd
    simp at this
  | some y =>
    obtain ⟨h1, h2⟩ := find_some hf
    rw [strict_inj h h1 hd h2]

theorem strict_rises {L : List En} (h : Strict L) (j : Nat) (hj : j < L.length) : rises (L.take j) L[j] = true := by
  unfold rises
  rw [getLast_take hj]
  cases j with
  | zero => rfl
  | succ i =>
    simp only
    rw [List.getElem?_eq_getElem (by omega)]
    simp only [decide_eq_true_eq]
    exact List.pairwise_iff_getElem.1 h i (i + 1) (by omega) hj (by omega)

/-- A right tree, told of its things. -/
theorem treeRight_set (L : List En) : treeRight L = true ↔ L.length ≤ 1024 ∧ Strict L ∧ (∀ x ∈ L, ownOk x) ∧ ∀ x ∈ L, ∀ p, Path.parent (bl x.path) = some p → ∃ d ∈ L, bl d.path = p ∧ d.kind = 1 := by
  constructor
  · intro h
    have hs := right_strict h
    have h1 := (treeRight_iff L).1 h
    refine ⟨h1.1, hs, fun x hx => ?_, fun x hx p hp => ?_⟩
    · obtain ⟨j, hj, rfl⟩ := List.getElem_of_mem hx
      have := h1.2 j hj
      unfold okAt at this
      simp only [Bool.and_eq_true] at this
      exact ⟨this.1.1.1, this.1.2⟩
    · obtain ⟨j, hj, rfl⟩ := List.getElem_of_mem hx
      have := h1.2 j hj
      unfold okAt parentOk at this
      rw [hp] at this
      simp only [Bool.and_eq_true] at this
      have h2 := this.2
      unfold isDir at h2
      obtain ⟨d, hd, hk⟩ := List.any_eq_true.1 h2
      simp only [Bool.and_eq_true, decide_eq_true_eq] at hk
      exact ⟨d, List.mem_of_mem_take hd, hk.2, hk.1⟩
  · rintro ⟨h0, hs, h1, h2⟩
    refine (treeRight_D L).2 ⟨h0, fun j hj => ?_⟩
    have hm := List.getElem_mem hj
    obtain ⟨a1, a2⟩ := h1 _ hm
    obtain ⟨⟨b1, b2⟩, b3, b4, b5⟩ := (thing_iff _).1 a2
    unfold okD
    rw [← rises_eq hj, strict_rises hs j hj, a1, b3]
    simp only [Bool.and_eq_true, Bool.or_eq_true, decide_eq_true_eq]
    refine ⟨⟨⟨⟨⟨⟨⟨trivial, trivial⟩, b1⟩, b2⟩, trivial⟩, b4⟩, b5⟩, ?_⟩
    cases hp : Path.parent (bl L[j].path) with
    | none => rfl
    | some p =>
      obtain ⟨d, hd, hdp, hdk⟩ := h2 _ hm p hp
      have := find_of_mem hs hd
      rw [hdp] at this
      simp only [this]
      exact decide_eq_true hdk

/-- A right tree without one thing is right just if nothing lies in that. -/
theorem right_without {L : List En} (h : treeRight L = true) {k : Nat} (hk : k < L.length) : treeRight (L.take k ++ L.drop (k + 1)) = decide ((children L (bl L[k].path)).length = 0) := by
  obtain ⟨h0, hs, h1, h2⟩ := (treeRight_set L).1 h
  have hL : L = L.take k ++ L[k] :: L.drop (k + 1) := by rw [← List.drop_eq_getElem_cons hk, List.take_append_drop]
  have hsub : (L.take k ++ L.drop (k + 1)).Sublist L := by
    conv => rhs; rw [hL]
    exact List.Sublist.append (List.Sublist.refl _) (List.sublist_cons_self ..)
  have hmem : ∀ x, x ∈ L.take k ++ L.drop (k + 1) ↔ x ∈ L ∧ x ≠ L[k] := fun x => by
    constructor
    · intro hx
      refine ⟨hsub.subset hx, fun e => ?_⟩
      subst e
      have hp : Strict (L.take k ++ L[k] :: L.drop (k + 1)) := hL ▸ hs
      obtain ⟨p1, p2, p3⟩ := List.pairwise_append.1 hp
      rcases List.mem_append.1 hx with e | e
      · exact List.lt_irrefl _ (p3 _ e _ (List.mem_cons_self ..))
      · exact List.lt_irrefl _ ((List.pairwise_cons.1 p2).1 _ e)
    · rintro ⟨hx, hne⟩
      rw [hL] at hx
      rcases List.mem_append.1 hx with e | e
      · exact List.mem_append_left _ e
      · rcases List.mem_cons.1 e with e | e
        · exact absurd e hne
        · exact List.mem_append_right _ e
  have hkm := List.getElem_mem hk
  have hkn : bl L[k].path ≠ [] := fun e => by
    have := (h1 _ hkm).1
    rw [e] at this
    cases this
  have hch : (children L (bl L[k].path)).length = 0 ↔ ∀ x ∈ L, Path.parent (bl x.path) ≠ some (bl L[k].path) := by
    rw [List.length_eq_zero_iff]
    unfold children
    rw [List.filter_eq_nil_iff]
    refine forall_congr' fun x => forall_congr' fun hx => ?_
    unfold isChild
    cases hp : Path.parent (bl x.path) with
    | none => simp [hkn]
    | some p => simp [hkn]
  rw [Bool.eq_iff_iff, decide_eq_true_eq, hch, treeRight_set]
  constructor
  · rintro ⟨_, _, _, g2⟩ x hx hp
    by_cases hxk : x = L[k]
    · subst hxk
      exact List.lt_irrefl _ (parent_less hp)
    · obtain ⟨d, hd, hdp, _⟩ := g2 x ((hmem x).2 ⟨hx, hxk⟩) _ hp
      obtain ⟨d1, d2⟩ := (hmem d).1 hd
      exact d2 (strict_inj hs d1 hkm hdp)
  · intro g
    refine ⟨Nat.le_trans hsub.length_le h0, hs.sublist hsub, fun x hx => h1 x (hsub.subset hx), fun x hx p hp => ?_⟩
    obtain ⟨d, hd, hdp, hdk⟩ := h2 x (hsub.subset hx) p hp
    refine ⟨d, (hmem d).2 ⟨hd, fun e => ?_⟩, hdp, hdk⟩
    subst e
    exact g x (hsub.subset hx) (by rw [hp, hdp])

end Go.Proofs.YtdaogldmcbfmoaaGreatDoor

namespace Go.Proofs.YtdaogldmcbfmoaaGreatDoor
open Go.RowKit
set_option maxRecDepth 100000

theorem ecells_append : ∀ (L B : List En) (V U : List Value), V.length = L.length → ecells (L ++ B) (V ++ U) = ecells L V ++ ecells B U
  | [], B, [], U, _ => rfl
  | [], _, _ :: _, _, e => by cases e
  | _ :: _, _, [], _, e => by cases e
  | x :: L, B, v :: V, U, e => by
    simp only [List.cons_append, ecells]
    rw [ecells_append L B V U (by simpa using e)]

/-- The cells of a slice of things. -/
theorem ents_cells {w : World} {g : Nat} : ∀ (B : List En) (o : Nat), EntsAt w (some ⟨g, o, none⟩) B → ∃ U : List Value, U.length = B.length ∧ (∀ j u, (ecells B U)[j]? = some u → w.cell? ⟨g, o + j, none⟩ = some u) ∧ (∀ v ∈ U, v.oneCell' = true) ∧ ∀ (k : Nat) (x : En) (vl : Value), B[k]? = some x → U[k]? = some vl → StrsAt w vl x.lines
  | [], o, _ => ⟨[], rfl, (fun j u e => by simp [ecells] at e), (fun v e => by cases e), fun k x vl e => by simp at e⟩
  | x :: B, o, h => by
    obtain ⟨g', o', e, vl, c0, c1, c2, c3, hs⟩ := h 0 x rfl
    cases e
    obtain ⟨U, h1, h2, h3, h4⟩ := ents_cells B (o + 4) (fun k y hk => by
      obtain ⟨g', o', e, hy⟩ := h (k + 1) y (by simpa using hk)
      cases e
      exact ⟨_, _, rfl, by rw [show o + 4 + k * 4 = o + (k + 1) * 4 from by omega]; exact hy⟩)
    refine ⟨vl :: U, by simp [h1], fun j u hj => ?_, fun v hv => ?_, fun k y vy e1 e2 => ?_⟩
    · simp only [ecells] at hj
      match j, hj with
      | 0, hj => simp at hj; subst hj; simpa using c0
      | 1, hj => simp at hj; subst hj; simpa using c1
      | 2, hj => simp at hj; subst hj; simpa using c2
      | 3, hj => simp at hj; subst hj; simpa using c3
      | j + 4, hj =>
        have := h2 j u (by simpa using hj)
        rw [show o + (j + 4) = o + 4 + j from by omega]
        exact this
    · rcases List.mem_cons.1 hv with e | e
      · subst e
        obtain ⟨_, _, e2, _⟩ := hs
        rw [e2]
        rfl
      · exact h3 v e
    · cases k with
      | zero => simp at e1 e2; subst e1 e2; exact hs
      | succ k => exact h4 k y vy (by simpa using e1) (by simpa using e2)

/-- 'append(l, b...)', l a row of things of the call's own. -/
theorem OwnE.appendAll {base : Nat} {w0 w : World} {v : Value} {L : List En} {V : List Value} (h : OwnE base w0 w v L V) {g o c m : Nat} {B : List En} (hm : B.length = m) (hB : EntsAt w0 (some ⟨g, o, none⟩) B) (f0 : Fr None' w0 w) (hn : L.length + m ≤ 100000) (hbase : base ≤ w.heap.size) :
    ∃ v' U w', (Builtin.append_ #[22, 22] 22 #[v, .slice (some ⟨g, o, none⟩) m c]).run Tryz.prog w = .ok v' w' ∧ OwnE base w0 w' v' (L ++ B) (V ++ U) ∧ Fr (fun k => v.ownBlock = some k) w w' := by
  obtain ⟨U, h1, h2, h3, h4⟩ := ents_cells B o hB
  obtain ⟨i0, hi, hz0, hz1, hz2⟩ := info_parts infoE
  obtain ⟨v', w', hr, h5, h6, _, h7⟩ := run_append_own_at (P := Tryz.prog) w base 22 22 38 i0 _ 4 64 Tryz.underlying22 hi hz0 hz1 hz2 rfl (by decide) v L.length (ecells L V) h.row ⟨g, o, none⟩ m c (ecells B U) (by rw [ecells_length B U h1, hm]) (fun j u hj => by
    have e : (⟨g, o, none⟩ : Addr).add j = ⟨g, o + j, none⟩ := Addr.add_lit ..
    rw [e]
    exact f0.keepCell (h2 j u hj) (fun e => e)) (fun u hu => by
    obtain ⟨j, hj, rfl⟩ := List.getElem_of_mem hu
    have key : ∀ (B : List En) (U : List Value), (∀ v ∈ U, v.oneCell' = true) → ∀ u ∈ ecells B U, u.oneCell' = true := fun B => by
      induction B with
      | nil => exact fun U _ u hu => by simp [ecells] at hu
      | cons x B ih =>
        intro U hU u hu
        cases U with
        | nil => simp [ecells] at hu
        | cons y U =>
          simp only [ecells, List.mem_cons] at hu
          rcases hu with rfl | rfl | rfl | rfl | hu
          · rfl
          · rfl
          · exact hU _ (List.mem_cons_self ..)
          · rfl
          · exact ih U (fun v hv => hU v (List.mem_cons_of_mem _ hv)) u hu
    exact key B U h3 _ hu) (by unfold maxLen; omega) (by omega) hbase
  refine ⟨v', U, w', hr, ⟨by simp [h.len, h1], by rw [ecells_append L B V U h.len, List.length_append, hm]; exact h5, fun k x vl e1 e2 => ?_⟩, Fr.grown h6 (fun k e => e)⟩
  rcases Nat.lt_or_ge k L.length with hk | hk
  · rw [List.getElem?_append_left hk] at e1
    rw [List.getElem?_append_left (by rw [h.len]; exact hk)] at e2
    exact h.str k x vl e1 e2
  · rw [List.getElem?_append_right hk] at e1
    rw [List.getElem?_append_right (by rw [h.len]; exact hk), h.len] at e2
    exact h4 _ x vl e1 e2

end Go.Proofs.YtdaogldmcbfmoaaGreatDoor
