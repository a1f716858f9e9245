/-
  What is proved here: the contracts that the statement stands on: Head13, Siz13, BackW13. Conditions: as each theorem names them.
-/
import Derived.Test.YtofpkpomhdhkgaaGreatDoorMPut13
import Derived.Test.YtofpkpomhdhkgaaGreatDoorMGet13
import Derived.Lib.SlBytesConst
import Derived.Test.YtofpkpomhdhkgaaGreatDoorM11RdL13
namespace Go.Proofs.YtofpkpomhdhkgaaGreatDoor
open Go.RowKit
set_option maxRecDepth 100000

def hPr : Pr := ⟨1, ⟨#[97]⟩, ⟨#[]⟩, ⟨#[]⟩, 0, [], []⟩
def hPa : Pa := ⟨⟨#[114, 46, 49]⟩, [⟨#[113]⟩], [hPr]⟩
def hQa : Pa := ⟨⟨#[97]⟩, [⟨#[97]⟩], []⟩
def hBs : B13 := [51, 58, 114, 46, 49, 49, 58, 49, 58, 113, 49, 58, 49, 58, 49, 58, 97, 48, 58, 48, 58, 48, 58, 48, 58, 48, 58]

theorem h_right : rightPa hPa = true := by kernel_rfl
theorem h_wrong : rightPa hQa = false := by kernel_rfl

theorem num_one {n : Nat} (h : n < 10) : num13 n = [UInt8.ofNat (48 + n), 58] := by
  unfold num13
  rw [Lib.decDigits_one h]
  rfl

theorem h_bytes : patch13 hPa = hBs := by
  unfold patch13 text13 list13 hPa hPr
  simp only [List.map_cons, List.map_nil, List.flatten_cons, List.flatten_nil, List.length_cons, List.length_nil, un_len]
  unfold prim13 text13 list13
  simp only [List.map_nil, List.flatten_nil, List.length_nil, un_len]
  rw [num_one (n := (⟨#[114, 46, 49]⟩ : ByteArray).size) (by decide), num_one (n := 0 + 1) (by decide), num_one (n := (⟨#[113]⟩ : ByteArray).size) (by decide), num_one (n := Int.toNat 1) (by decide), num_one (n := (⟨#[97]⟩ : ByteArray).size) (by decide), num_one (n := (⟨#[]⟩ : ByteArray).size) (by decide), num_one (n := Int.toNat 0) (by decide), num_one (n := 0) (by decide)]
  rfl

theorem h_small : SmallPa hPa := by
  refine ⟨by decide, ⟨by decide, fun y hy => ?_⟩, ⟨by decide, fun x hx => ?_⟩, fun x hx => ?_⟩
  · rw [List.mem_singleton.1 hy]; decide
  · rw [List.mem_singleton.1 hx]; exact ⟨by decide, by decide, by decide, by decide, by decide⟩
  · rw [List.mem_singleton.1 hx]; exact ⟨fun y hy => (by cases hy), fun y hy => (by cases hy)⟩

theorem h_smallQ : SmallPa hQa := by
  refine ⟨by decide, ⟨by decide, fun y hy => ?_⟩, ⟨by decide, fun x hx => (by cases hx)⟩, fun x hx => (by cases hx)⟩
  rw [List.mem_singleton.1 hy]; decide

theorem h_get : getP hBs = some hPa := by
  rw [← h_bytes]
  exact get_put (h_small.put h_right).ok h_right

theorem strs_one13 (w : World) (x : ByteArray) {w' : World} (hw : w.alloc (.cells #[.string x] 9) = w') : StrsAt w' (.slice (some ⟨w.heap.size, 0, none⟩) 1 1) [x] := by
  refine ⟨_, 1, rfl, (fun e => by cases e), Nat.le_refl _, fun j y hj => ⟨w.heap.size, 0, rfl, ?_⟩⟩
  have h0 : j = 0 := by have := (List.getElem?_eq_some_iff.1 hj).1; simpa using this
  subst h0
  have hy : y = x := by simpa using hj.symm
  rw [← hw, hy, World.cell?, heap_alloc_new]
  rfl

theorem prs_one13 (w : World) {x : Pr} {vo vn : Value} (ho : StrsAt w vo x.old) (hn : StrsAt w vn x.new) {w' : World} (hw : w.alloc (.cells #[.int .i64 x.kind, .string x.path, .string x.dst, .string x.src, .int .i64 x.pos, vo, vn] 41) = w') : PrsAt w' (some ⟨w.heap.size, 0, none⟩) [x] := fun k y hk => by
  have h0 : k = 0 := by have := (List.getElem?_eq_some_iff.1 hk).1; simpa using this
  subst h0
  have hy : y = x := by simpa using hk.symm
  subst hy
  have F : Fr None' w w' := hw ▸ Fr.alloc None' w _
  have B : Box w' w.heap.size (.int .i64 y.kind) (.string y.path) (.string y.dst) (.string y.src) (.int .i64 y.pos) vo vn := hw ▸ Box.new w _ _ _ _ _ _ _
  obtain ⟨c0, c1, c2, c3, c4, c5, c6⟩ := B.cells
  exact ⟨w.heap.size, 0, rfl, vo, vn, c0, c1, c2, c3, c4, c5, c6, ho.kept F, hn.kept F⟩

theorem ByAt.conv {w : World} {v : Value} {l : B13} (h : ByAt w v l) : (convert 26 9 v).run Tryz.prog w = .ok (.string (mkB l)) w := by
  obtain ⟨ad, c, rfl, hc, hn, hrow⟩ := h
  refine conv_13 w ad c l hrow (fun e => ?_)
  have h0 := hn e
  exact ⟨h0, List.length_eq_zero_iff.1 (by omega)⟩

theorem ByAt.is {w : World} {v : Value} {l : B13} (h : ByAt w v l) : ∃ ad c, v = .slice ad l.length c := by
  obtain ⟨ad, c, e, _⟩ := h
  exact ⟨ad, c, e⟩

def hCs : B13 := [51, 58, 97, 98, 99]

theorem by_lit (w : World) {w' : World} (hw : w.alloc (.cells #[.int .u8 51, .int .u8 58, .int .u8 97, .int .u8 98, .int .u8 99] 5 (5, 6)) = w') : ByAt w' (.slice (some ⟨w.heap.size, 0, none⟩) 5 5) hCs := by
  have hb : w'.heap[w.heap.size]? = some (.cells #[.int .u8 51, .int .u8 58, .int .u8 97, .int .u8 98, .int .u8 99] 5 (5, 6)) := hw ▸ heap_alloc_new w _
  refine ⟨_, 5, rfl, Nat.le_refl _, (fun e => by cases e), fun j x hj => ⟨_, _, rfl, ?_⟩⟩
  rw [Nat.zero_add, World.cell?, hb]
  match j, hj with
  | 0, hj => cases hj; rfl
  | 1, hj => cases hj; rfl
  | 2, hj => cases hj; rfl
  | 3, hj => cases hj; rfl
  | 4, hj => cases hj; rfl
  | j + 5, hj => simp [hCs] at hj

theorem h_none : patchR hCs = none := by kernel_rfl
theorem h_getC : getP hCs = none := by unfold getP; rw [h_none]

theorem conv_same13 (w : World) : (convert 26 26 (.slice (some ⟨w.heap.size, 0, none⟩) 5 5)).run Tryz.prog (w.alloc (.cells #[.int .u8 51, .int .u8 58, .int .u8 97, .int .u8 98, .int .u8 99] 5)) = .ok (.slice (some ⟨w.heap.size, 0, none⟩) 5 5) (w.alloc (.cells #[.int .u8 51, .int .u8 58, .int .u8 97, .int .u8 98, .int .u8 99] 5 (5, 6))) :=
  Lib.run_convert_bytes_const (P := Tryz.prog) w 26 5 #[.int .u8 51, .int .u8 58, .int .u8 97, .int .u8 98, .int .u8 99] 5 5 Tryz.underlying26 Tryz.underlying5

theorem TabIs.fr {w w' : World} (h : Lib.TabIs Tryz.prog w pow10 .u64 Lib.pow10Tab) (f : Fr None' w w') : Lib.TabIs Tryz.prog w' pow10 .u64 Lib.pow10Tab := tab_heap h (fun _ _ hg _ => f.at hg id)

set_option maxHeartbeats 16000000 in
theorem head13_any (w : World) (hT : Lib.TabIs Tryz.prog w pow10 .u64 Lib.pow10Tab) : Calls Tryz.prog 8 #[] w fun e w' => e = .returned (.bool true) ∧ Fr None' w w' := by
  obtain ⟨wa, hwa⟩ : ∃ x, w.alloc (.cells #[.string ⟨#[113]⟩] 9) = x := ⟨_, rfl⟩
  obtain ⟨wb, hwb⟩ : ∃ x, wa.alloc (.cells #[.int .i64 1, .string ⟨#[97]⟩, .string ⟨#[]⟩, .string ⟨#[]⟩, .int .i64 0, .slice none 0 0, .slice none 0 0] 41) = x := ⟨_, rfl⟩
  have Fa : Fr None' w wa := hwa ▸ Fr.alloc None' w _
  have Fb : Fr None' wa wb := hwb ▸ Fr.alloc None' wa _
  have sa := strs_one13 w _ hwa
  have pb := prs_one13 wa (x := hPr) (nilS8 wa) (nilS8 wa) hwb
  have q1 : Calls Tryz.prog 10 #[.agg #[.string ⟨#[114, 46, 49]⟩, .slice (some ⟨w.heap.size, 0, none⟩) 1 1, .slice (some ⟨wa.heap.size, 0, none⟩) 1 1]] wb fun e w' => PutPost wb hPa e w' := nput_any hPa _ _ 1 wb (sa.kept Fb) pb h_small (TabIs.fr hT (Fa.then7 Fb)) (fun _ => by rw [h_bytes]; decide)
  have HFb := toHid8 (Fa.then7 Fb)
  have HTb := toHid8 hT
  clear Fa Fb sa pb hT
  go_enter Tryz.func8, Tryz.ntmps8
  go_wp2_with fail
  with_reducible refine q1.mono ?_
  rintro e w1 ⟨hP, _, f1⟩
  obtain ⟨v1, rfl, b1⟩ := hP h_right
  rw [h_bytes] at b1
  have HF1 := toHid8 (HFb.out.then7 f1)
  have HB1 := toHid8 b1
  have q2 := nget_any v1 hBs w1 b1 (by decide) (fun p e => by
    have h := code_patch.back hPa [] (h_small.put h_right).ok
    rw [List.append_nil, h_bytes, e] at h
    cases h
    exact h_small)
  obtain ⟨pv, cv, ev⟩ := b1.is
  change v1 = .slice pv 27 cv at ev
  subst ev
  clear q1 f1 b1 hP
  go_wp2_with fail
  with_reducible refine q2.mono ?_
  rintro e w2 ⟨hP, _, f2⟩
  obtain ⟨vd, pb, cb, he, sd, sb⟩ := hP hPa h_get
  change e = .returned (.tuple #[.agg #[.string ⟨#[114, 46, 49]⟩, vd, .slice pb 1 cb], .int .i64 0]) at he
  subst he
  obtain ⟨w3, hw3⟩ : ∃ x, w2.alloc (.cells #[.string ⟨#[114, 46, 49]⟩, vd, .slice pb 1 cb] 25) = x := ⟨_, rfl⟩
  have F3 : Fr None' w2 w3 := hw3 ▸ Fr.alloc None' w2 _
  have B3 : Box3 w3 w2.heap.size (.string ⟨#[114, 46, 49]⟩) vd (.slice pb 1 cb) := hw3 ▸ Box3.new w2 _ _ _
  obtain ⟨wc, hwc⟩ : ∃ x, w3.alloc (.cells #[.int .u8 51, .int .u8 58, .int .u8 97, .int .u8 98, .int .u8 99] 5 (5, 6)) = x := ⟨_, rfl⟩
  have Fc : Fr None' w3 wc := hwc ▸ Fr.alloc None' w3 _
  have q3 := nget_any _ hCs wc (by_lit w3 hwc) (by decide) (fun p e => by rw [h_none] at e; cases e)
  have HFc := toHid8 ((HF1.out.then7 f2).then7 (F3.then7 Fc))
  have HB2 := toHid8 (HB1.out.kept (f2.then7 (F3.then7 Fc)))
  have HSd := toHid8 (sd.kept (F3.then7 Fc))
  have HBx := toHid8 (B3.kept Fc)
  obtain ⟨pd, cd, ed, -⟩ := sd
  change vd = .slice pd 1 cd at ed
  subst ed
  clear q2 f2 F3 Fc B3 sb hP HB1
  have cs := conv_same13
  go_wp2_with fail
  with_reducible refine q3.mono ?_
  rintro e w4 ⟨_, hP, f4⟩
  obtain rfl := hP h_getC
  obtain ⟨w5, hw5⟩ : ∃ x, w4.alloc (.cells #[.string ⟨#[]⟩, .slice none 0 0, .slice none 0 0] 25) = x := ⟨_, rfl⟩
  obtain ⟨w6, hw6⟩ : ∃ x, w5.alloc (.cells #[.string ⟨#[97]⟩] 9) = x := ⟨_, rfl⟩
  have F5 : Fr None' w4 w5 := hw5 ▸ Fr.alloc None' w4 _
  have F6 : Fr None' w5 w6 := hw6 ▸ Fr.alloc None' w5 _
  have s6 := strs_one13 w5 _ hw6
  have HF6 := toHid8 (HFc.out.then7 ((f4.then7 F5).then7 F6))
  have q4 : Calls Tryz.prog 10 #[.agg #[.string ⟨#[97]⟩, .slice (some ⟨w5.heap.size, 0, none⟩) 1 1, .slice none 0 0]] w6 fun e w' => PutPost w6 hQa e w' := nput_any hQa _ none 0 w6 s6 (fun k x hk => by cases hk) h_smallQ (TabIs.fr HTb.out HF6.out) (fun h => by rw [h_wrong] at h; cases h)
  have HB4 := toHid8 (HB2.out.kept ((f4.then7 F5).then7 F6))
  have HSd4 := toHid8 (HSd.out.kept ((f4.then7 F5).then7 F6))
  have HBx4 := toHid8 (HBx.out.kept ((f4.then7 F5).then7 F6))
  rw [show w5.heap.size = w4.heap.size + 1 by rw [← hw5]; simp] at q4
  have HW5 := toHid8 hw5
  have HW6 := toHid8 hw6
  clear q3 f4 F5 F6 s6 hP HB2 HSd HBx hwc hw3 hw5 hw6
  go_wp2_with fail
  rw [HW5.out, HW6.out]
  with_reducible refine q4.mono ?_
  rintro e w7 ⟨_, hP, f7⟩
  obtain rfl := hP h_wrong
  have HF7 := toHid8 (HF6.out.then7 f7)
  have cb7 := (HB4.out.kept f7).conv
  have t7 : (mkB hBs).toList = [51, 58, 114, 46, 49, 49, 58, 49, 58, 113, 49, 58, 49, 58, 49, 58, 97, 48, 58, 48, 58, 48, 58, 48, 58, 48, 58] := (Lines.asks_yes rfl).1
  have t8 : ((mkB hBs).toList == [51, 58, 114, 46, 49, 49, 58, 49, 58, 113, 49, 58, 49, 58, 49, 58, 97, 48, 58, 48, 58, 48, 58, 48, 58, 48, 58]) = true := (Lines.asks_yes rfl).2
  obtain ⟨a0, a1, a2⟩ := (HBx4.out.kept f7).cells
  obtain ⟨g, o, e1, c1⟩ : ∃ g o, pd = some ⟨g, o, none⟩ ∧ w7.cell? ⟨g, o, none⟩ = some (.string ⟨#[113]⟩) := by
    obtain ⟨_, _, e, _, _, hr⟩ := HSd4.out.kept f7
    cases e
    obtain ⟨g, o, e, hc⟩ := hr 0 _ rfl
    exact ⟨g, o, e, hc⟩
  subst e1
  have q5 : Calls Tryz.prog 17 #[.string ⟨#[120, 45, 49]⟩] w7 fun e w' => e = .returned (.bool true) ∧ Fr None' w7 w' := label_any ⟨#[120, 45, 49]⟩ w7 (by decide)
  have q6 := toHid8 (fun w' => show Calls Tryz.prog 17 #[.string ⟨#[]⟩] w' fun e w'' => e = .returned (.bool false) ∧ Fr None' w' w'' from label_any ⟨#[]⟩ w' (by decide))
  generalize mkB hBs = S at cb7 t7 t8
  clear q4 f7 hP
  go_wp2_with fail
  with_reducible refine q5.mono ?_
  rintro e w8 ⟨rfl, f8⟩
  have q7 := q6.out w8
  have HF8 := toHid8 (HF7.out.then7 f8)
  clear q5 q6 f8
  go_wp2_with fail
  with_reducible refine q7.mono ?_
  rintro e w9 ⟨rfl, f9⟩
  have HF9 := toHid8 (HF8.out.then7 f9)
  clear q7 f9
  go_wp2_with fail
  go_ret
  exact ⟨rfl, HF9.out⟩

end Go.Proofs.YtofpkpomhdhkgaaGreatDoor

namespace Go.Proofs.YtofpkpomhdhkgaaGreatDoor
open Go.RowKit
set_option maxRecDepth 100000

theorem flat_le {α : Type} (enc : α → B13) (c : Nat) : ∀ (l : List α), (∀ x ∈ l, (enc x).length ≤ c) → (l.map enc).flatten.length ≤ l.length * c
  | [], _ => by simp
  | x :: l, h => by
    have h1 := flat_le enc c l (fun y hy => h y (List.mem_cons_of_mem _ hy))
    have h2 := h x (List.mem_cons_self ..)
    rw [List.map_cons, List.flatten_cons, List.length_append, List.length_cons, Nat.succ_mul]
    omega

theorem flat_sum : ∀ (l : List ByteArray), (∀ x ∈ l, x.size ≤ 1000000000) → ((l.map unB).map text13).flatten.length ≤ (l.map (·.size)).sum + 22 * l.length
  | [], _ => by simp
  | x :: l, h => by
    have h1 := flat_sum l (fun y hy => h y (List.mem_cons_of_mem _ hy))
    have h2 := text13_len (h x (List.mem_cons_self ..))
    rw [List.map_cons, List.map_cons, List.flatten_cons, List.length_append, List.map_cons, List.sum_cons, List.length_cons]
    omega

theorem weight_small {x : Pr} (h : x.weight < 4000) : SmallP x ∧ (∀ y ∈ x.old, y.size < 4000) ∧ (∀ y ∈ x.new, y.size < 4000) := by
  unfold Pr.weight at h
  exact ⟨⟨by omega, by omega, by omega, by omega, by omega⟩, fun y hy => by have := mem_sum13 hy; omega, fun y hy => by have := mem_sum13 hy; omega⟩

theorem FewPa.small {p : Pa} (h : FewPa p) : SmallPa p := by
  refine ⟨by have := h.name; omega, ⟨by have := h.deps.1; omega, fun y hy => by have := h.deps.2 y hy; omega⟩, ⟨by have := h.body.1; omega, fun x hx => (weight_small (h.body.2 x hx)).1⟩, fun x hx => ?_⟩
  obtain ⟨_, h1, h2⟩ := weight_small (h.body.2 x hx)
  exact ⟨fun y hy => by have := h1 y hy; omega, fun y hy => by have := h2 y hy; omega⟩

theorem num_le13 {n : Nat} (h : n ≤ 9000000000) : (num13 n).length ≤ 22 := num13_len (by show _ ≤ 9223372036854775807; omega)

theorem prim_len {x : Pr} (h : x.weight < 4000) (hr : rightP x = true) : (prim13 x).length ≤ 300000 := by
  obtain ⟨h1, h2⟩ := right_small hr
  obtain ⟨_, h3, h4⟩ := weight_small h
  have a1 := num_le13 (n := x.kind.toNat) (by omega)
  have a2 := num_le13 (n := x.pos.toNat) (by omega)
  unfold Pr.weight at h
  have t1 := text13_len (s := x.path) (by omega)
  have t2 := text13_len (s := x.dst) (by omega)
  have t3 := text13_len (s := x.src) (by omega)
  have o1 := flat_sum x.old (fun y hy => by have := h3 y hy; omega)
  have o2 := flat_sum x.new (fun y hy => by have := h4 y hy; omega)
  have n1 := num_le13 (n := (x.old.map unB).length) (by rw [List.length_map]; omega)
  have n2 := num_le13 (n := (x.new.map unB).length) (by rw [List.length_map]; omega)
  unfold prim13 list13
  simp only [List.length_append]
  omega

theorem FewPa.len {p : Pa} (h : FewPa p) (hr : rightPa p = true) : (patch13 p).length ≤ 80000000 := by
  have hb : ∀ x ∈ p.body, rightP x = true := by
    unfold rightPa at hr
    simp only [Bool.and_eq_true] at hr
    exact List.all_eq_true.1 hr.2.2
  have h0 := h.name
  have h1 := h.deps.1
  have h2 := h.body.1
  have t1 := text13_len (s := p.name) (by omega)
  have d1 := flat_le text13 4022 (p.deps.map unB) (fun y hy => by
    obtain ⟨z, hz, rfl⟩ := List.mem_map.1 hy
    have g1 := h.deps.2 z hz
    have := text13_len (s := z) (by omega)
    omega)
  have b1 := flat_le prim13 300000 p.body (fun x hx => prim_len (h.body.2 x hx) (hb x hx))
  have n1 := num_le13 (n := (p.deps.map unB).length) (by rw [List.length_map]; omega)
  have n2 := num_le13 (n := p.body.length) (by omega)
  rw [List.length_map] at d1
  have d2 : p.deps.length * 4022 ≤ 4000 * 4022 := Nat.mul_le_mul_right _ (by omega)
  have b2 : p.body.length * 300000 ≤ 60 * 300000 := Nat.mul_le_mul_right _ h2
  unfold patch13 list13
  simp only [List.length_append]
  omega

theorem small_len {p : Pa} (h : (patch13 p).length ≤ 800000) : SmallPa p := by
  have e : (patch13 p).length = (text13 (unB p.name)).length + ((list13 text13 (p.deps.map unB)).length + (list13 prim13 p.body).length) := by
    unfold patch13
    simp only [List.length_append]
  have t1 := text_len (unB p.name); rw [un_len] at t1
  obtain ⟨o1, o2⟩ := texts_small (l := p.deps) (n := 800000) (by omega)
  obtain ⟨b1, b2⟩ := list_len prim13 prim_pos p.body
  have key : ∀ x ∈ p.body, SmallP x ∧ (∀ y ∈ x.old, y.size < 900000) ∧ ∀ y ∈ x.new, y.size < 900000 := fun x hx => by
    have h1 := b2 x hx
    have e2 : (prim13 x).length = (num13 x.kind.toNat).length + ((text13 (unB x.path)).length + ((text13 (unB x.dst)).length + ((text13 (unB x.src)).length + ((num13 x.pos.toNat).length + ((list13 text13 (x.old.map unB)).length + (list13 text13 (x.new.map unB)).length))))) := by
      unfold prim13
      simp only [List.length_append]
    have t1 := text_len (unB x.path); rw [un_len] at t1
    have t2 := text_len (unB x.dst); rw [un_len] at t2
    have t3 := text_len (unB x.src); rw [un_len] at t3
    obtain ⟨p1, p2⟩ := texts_small (l := x.old) (n := 800000) (by omega)
    obtain ⟨n1, n2⟩ := texts_small (l := x.new) (n := 800000) (by omega)
    exact ⟨⟨by omega, by omega, by omega, by omega, by omega⟩, fun y hy => by have := p2 y hy; omega, fun y hy => by have := n2 y hy; omega⟩
  exact ⟨by omega, ⟨by omega, fun y hy => by have := o2 y hy; omega⟩, ⟨by omega, fun x hx => (key x hx).1⟩, fun x hx => (key x hx).2⟩

theorem small_read {l : B13} (hl : l.length ≤ 800000) (p : Pa) (h : patchR l = some (p, [])) : SmallPa p := by
  have h1 := (code_patch.fwd _ _ _ h).2
  rw [List.append_nil] at h1
  exact small_len (by rw [← h1]; exact hl)

end Go.Proofs.YtofpkpomhdhkgaaGreatDoor

namespace Go.Proofs.YtofpkpomhdhkgaaGreatDoor
open Go.RowKit
set_option maxRecDepth 100000

theorem same_self (p : Pa) : samePa p p = true := samePa_iff.2 rfl

set_option maxHeartbeats 16000000 in
theorem back_walk (p : Pa) (vd : Value) (pb : Option Addr) (nb cb : Nat) (v : Value) (l : B13) (W : World) (hT : Lib.TabIs Tryz.prog W pow10 .u64 Lib.pow10Tab) (hnb : p.body.length = nb) (sd : StrsAt W vd p.deps) (sb : PrsAt W pb p.body) (_hz : pb = none → cb = 0) (ld : p.deps.length ≤ 140737488355328) (lb : ∀ x ∈ p.body, x.old.length ≤ 140737488355328 ∧ x.new.length ≤ 140737488355328) (hv : ByAt W v l) :
    Calls Tryz.prog 4 #[.agg #[.string p.name, vd, .slice pb nb cb], v] W fun e w' => e = .returned (.bool true) ∧ Fr None' W w' := by
  have HSd := toHid8 sd
  have HSb := toHid8 sb
  have HV := toHid8 hv
  have HT := toHid8 hT
  obtain ⟨pa, ca, ed, -⟩ := sd
  subst ed
  obtain ⟨pv, cv, ev⟩ := hv.is
  subst ev
  obtain ⟨w1, hw1⟩ : ∃ x, W.alloc (.cells #[.string p.name, .slice pa p.deps.length ca, .slice pb nb cb] 25) = x := ⟨_, rfl⟩
  have F1 : Fr None' W w1 := hw1 ▸ Fr.alloc None' W _
  have B1 : Box3 w1 W.heap.size (.string p.name) (.slice pa p.deps.length ca) (.slice pb nb cb) := hw1 ▸ Box3.new W _ _ _
  have HB := toHid8 B1
  have HF1 := toHid8 F1
  have q1 := head13_any w1 (TabIs.fr hT F1)
  have HG := toHid8 (fun w' (f : Fr None' W w') => great13_any p _ pb nb cb w' (HSd.out.kept f) (HSb.out.kept f) hnb ld lb)
  unfold GPost at HG
  have HP := toHid8 (fun (h : FewPa p) w' (f : Fr None' W w') => show Calls Tryz.prog 10 #[.agg #[.string p.name, .slice pa p.deps.length ca, .slice pb nb cb]] w' fun e w'' => PutPost w' p e w'' from by
    have := nput_any p _ pb cb w' (HSd.out.kept f) (HSb.out.kept f) h.small (TabIs.fr HT.out f) (fun hr => Nat.le_trans (h.len hr) (by decide))
    rwa [hnb] at this)
  have HR := toHid8 (fun (h : FewPa p) w' (f : Fr None' W w') => show Calls Tryz.prog 14 #[.agg #[.string p.name, .slice pa p.deps.length ca, .slice pb nb cb]] w' fun e w'' => e = .returned (.bool (rightPa p)) ∧ Fr None' w' w'' from by
    have := nright_any p _ pb cb w' (HSd.out.kept f) (HSb.out.kept f) h.small
    rwa [hnb] at this)
  have HGx := toHid8 (fun (h : FewPa p) (hr : rightPa p = true) u w' (hu : ByAt w' u (patch13 p)) => nget_any u (patch13 p) w' hu (h.len hr) (fun q e => by
    have h1 := code_patch.back p [] (h.small.put hr).ok
    rw [List.append_nil, e] at h1
    cases h1
    exact h.small))
  have HS := toHid8 (fun (h : FewPa p) ud qb db w' (f : Fr None' W w') (t1 : StrsAt w' ud p.deps) (t2 : PrsAt w' qb p.body) => show Calls Tryz.prog 16 #[.agg #[.string p.name, .slice pa p.deps.length ca, .slice pb nb cb], .agg #[.string p.name, ud, .slice qb nb db]] w' fun e w'' => e = .returned (.bool true) ∧ Fr None' w' w'' from by
    have := msame_any p p _ ud pb qb nb nb cb db w' hnb hnb (HSd.out.kept f) t1 (HSb.out.kept f) t2 (by have := h.body.1; omega) (by have := h.deps.1; omega) (fun x hx => by have := (weight_small (h.body.2 x hx)).1; exact ⟨by have := this.old; omega, by have := this.new; omega⟩)
    rwa [same_self] at this)
  have HNb := toHid8 hnb
  clear hT sb hv hnb ld lb F1 B1
  obtain ⟨m, hm⟩ : ∃ m, l.length = m := ⟨_, rfl⟩
  have HM := toHid8 hm
  rw [hm]
  clear hm
  go_enter Tryz.func4, Tryz.ntmps4
  go_wp2_with fail
  with_reducible refine q1.mono ?_
  rintro e w2 ⟨rfl, f2⟩
  have HF2 := toHid8 (HF1.out.then7 f2)
  have HB2 := toHid8 (HB.out.kept f2)
  have q2 := HG.out w2 HF2.out
  obtain ⟨a0, a1, a2⟩ := HB2.out.cells
  clear q1 f2 HF1 HB
  go_wp2_with fail
  with_reducible refine q2.mono ?_
  rintro e w3 ⟨g, rfl, hg, f3⟩
  have HF3 := toHid8 (HF2.out.then7 f3)
  have HB3 := toHid8 (HB2.out.kept f3)
  clear q2 f3 HG a0 a1 a2
  cases g with
  | true =>
    clear hg
    go_wp2_with fail
    go_ret
    exact ⟨rfl, HF3.out⟩
  | false =>
    have HW := toHid8 (hg rfl)
    clear hg
    by_cases hbig : m ≤ 20000
    case neg =>
      have i1 : (20000 : Int) < (m : Int) := by omega
      clear hbig
      go_wp2_with fail
      go_ret
      exact ⟨rfl, HF3.out⟩
    have i1 : ¬ (20000 : Int) < (m : Int) := by omega
    have q3 := HP.out HW.out w3 HF3.out
    obtain ⟨a0, a1, a2⟩ := HB3.out.cells
    have HU := toHid8 (fun w' (f : Fr None' W w') => show Calls Tryz.prog 12 #[.slice pv m cv] w' fun e w'' => GetPost w' l e w'' from by
      have := nget_any _ l w' (HV.out.kept f) (by rw [HM.out]; omega) (fun q e => small_read (by rw [HM.out]; omega) q e)
      rwa [HM.out] at this)
    have HPu := toHid8 (fun u (hu : getP l = some u) ud qb db w' (f : Fr None' W w') (t1 : StrsAt w' ud u.deps) (t2 : PrsAt w' qb u.body) => nput_any u ud qb db w' t1 t2 (small_len (by rw [(put_get hu).2.2, HM.out]; omega)) (TabIs.fr HT.out f) (fun _ => by rw [(put_get hu).2.2, HM.out]; omega))
    have HBig := toHid8 hbig
    clear hbig
    obtain ⟨R, hR⟩ : ∃ R, rightPa p = R := ⟨_, rfl⟩
    have HRp := toHid8 hR
    have HR2 := toHid8 (fun w' f => HR.out HW.out w' f)
    rw [hR] at HR2
    clear HP HR hR
    go_wp2_with fail
    with_reducible refine q3.mono ?_
    rintro e w4 ⟨hP1, hP2, f4⟩
    have HF4 := toHid8 (HF3.out.then7 f4)
    have HB4 := toHid8 (HB3.out.kept f4)
    have q4 := HR2.out w4 HF4.out
    clear q3 f4 HR2 HB3
    clear a0 a1 a2
    obtain ⟨a0, a1, a2⟩ := HB4.out.cells
    cases R with
    | false =>
      obtain rfl := hP2 HRp.out
      clear hP1 hP2
      go_wp2_with fail
      with_reducible refine q4.mono ?_
      rintro e wA ⟨rfl, f5⟩
      have HFA := toHid8 (HF4.out.then7 f5)
      clear q4 f5
      have qA := HU.out wA HFA.out
      go_wp2_with fail
      with_reducible refine qA.mono ?_
      rintro e wB ⟨hG1, hG2, fB⟩
      have HFB := toHid8 (HFA.out.then7 fB)
      cases hg : getP l with
      | none =>
        obtain rfl := hG2 hg
        obtain ⟨wC, hwC⟩ : ∃ x, wB.alloc (.cells #[.string ⟨#[]⟩, .slice none 0 0, .slice none 0 0] 25) = x := ⟨_, rfl⟩
        have FC : Fr None' wB wC := hwC ▸ Fr.alloc None' wB _
        have HFC := toHid8 (HFB.out.then7 FC)
        have HwC := toHid8 hwC
        have qC : Calls Tryz.prog 16 #[.agg #[.string ⟨#[]⟩, .slice none 0 0, .slice none 0 0], .agg #[.string ⟨#[]⟩, .slice none 0 0, .slice none 0 0]] wC fun e w'' => e = .returned (.bool true) ∧ Fr None' wC w'' := msame_any ⟨⟨#[]⟩, [], []⟩ ⟨⟨#[]⟩, [], []⟩ _ _ none none 0 0 0 0 wC rfl rfl (nilS8 wC) (nilS8 wC) (fun k x hk => by cases hk) (fun k x hk => by cases hk) (by decide) (by decide) (fun x hx => by cases hx)
        clear qA hG1 hG2 fB FC hwC hg
        go_wp2_with fail
        rw [HwC.out]
        with_reducible refine qC.mono ?_
        rintro e wD ⟨rfl, fD⟩
        have HFD := toHid8 (HFC.out.then7 fD)
        clear qC fD
        go_wp2_with fail
        go_ret
        exact ⟨rfl, HFD.out⟩
      | some u =>
        obtain ⟨ud, qb, db, rfl, t1, t2⟩ := hG1 u hg
        obtain ⟨_, hru, hpu⟩ := put_get hg
        have HPP := toHid8 hpu
        have HRu := toHid8 hru
        have t1c := t1
        obtain ⟨pu, cu, eu, -⟩ := t1c
        subst eu
        obtain ⟨wC, hwC⟩ : ∃ x, wB.alloc (.cells #[.string u.name, .slice pu u.deps.length cu, .slice qb u.body.length db] 25) = x := ⟨_, rfl⟩
        have FC : Fr None' wB wC := hwC ▸ Fr.alloc None' wB _
        have BC : Box3 wC wB.heap.size (.string u.name) (.slice pu u.deps.length cu) (.slice qb u.body.length db) := hwC ▸ Box3.new wB _ _ _
        have HFC := toHid8 (HFB.out.then7 FC)
        have qC := HPu.out u hg _ qb db wC HFC.out (t1.kept FC) (t2.kept FC)
        obtain ⟨c0, c1, c2⟩ := BC.cells
        clear qA hG1 hG2 fB FC BC t1 t2 hru hpu hg
        go_wp2_with fail
        with_reducible refine qC.mono ?_
        rintro e wD ⟨hD1, _, fD⟩
        obtain ⟨y, rfl, hy⟩ := hD1 HRu.out
        rw [HPP.out] at hy
        have HFD := toHid8 (HFC.out.then7 fD)
        have k1 := hy.conv
        have k2 := (HV.out.kept HFD.out).conv
        obtain ⟨py, cy, ey⟩ := hy.is
        rw [HM.out] at ey k2
        subst ey
        generalize mkB l = LB at k1 k2
        clear qC hD1 fD hy c0 c1 c2
        go_wp2_with fail
        go_ret
        exact ⟨by first | rfl | exact ret_bool7 (by simp), HFD.out⟩
    | true =>
      obtain ⟨x, rfl, hx⟩ := hP1 HRp.out
      clear hP1 hP2
      have HBx := toHid8 hx
      obtain ⟨px, cx, ex⟩ := hx.is
      subst ex
      obtain ⟨mx, hmx⟩ : ∃ m, (patch13 p).length = m := ⟨_, rfl⟩
      have HMx := toHid8 hmx
      rw [hmx]
      clear hmx hx
      go_wp2_with fail
      with_reducible refine q4.mono ?_
      rintro e w5 ⟨rfl, f5⟩
      have HF5 := toHid8 (HF4.out.then7 f5)
      have HB5 := toHid8 (HB4.out.kept f5)
      have q5 := HGx.out HW.out HRp.out _ w5 (HBx.out.kept f5)
      rw [HMx.out] at q5
      clear q4 f5 a0 a1 a2
      go_wp2_with fail
      with_reducible refine q5.mono ?_
      rintro e w6 ⟨hG1, _, f6⟩
      obtain ⟨ud, qb, db, rfl, t1, t2⟩ := hG1 p (get_put (HW.out.small.put HRp.out).ok HRp.out)
      rw [HNb.out]
      have t1c := t1
      obtain ⟨pu, cu, eu, -⟩ := t1c
      subst eu
      obtain ⟨w7, hw7⟩ : ∃ x, w6.alloc (.cells #[.string p.name, .slice pu p.deps.length cu, .slice qb nb db] 25) = x := ⟨_, rfl⟩
      have F7 : Fr None' w6 w7 := hw7 ▸ Fr.alloc None' w6 _
      have B7 : Box3 w7 w6.heap.size (.string p.name) (.slice pu p.deps.length cu) (.slice qb nb db) := hw7 ▸ Box3.new w6 _ _ _
      have HF7 := toHid8 (HF5.out.then7 (f6.then7 F7))
      have HB7 := toHid8 (HB5.out.kept (f6.then7 F7))
      have q6 := HS.out HW.out _ qb db w7 HF7.out (t1.kept F7) (t2.kept F7)
      obtain ⟨a0, a1, a2⟩ := HB7.out.cells
      obtain ⟨b0, b1, b2⟩ := B7.cells
      clear q5 f6 hG1 t1 t2 F7 B7
      go_wp2_with fail
      with_reducible refine q6.mono ?_
      rintro e wA ⟨rfl, f8⟩
      have HFA := toHid8 (HF7.out.then7 f8)
      clear q6 f8 a0 a1 a2 b0 b1 b2
      have qA := HU.out wA HFA.out
      go_wp2_with fail
      with_reducible refine qA.mono ?_
      rintro e wB ⟨hG1, hG2, fB⟩
      have HFB := toHid8 (HFA.out.then7 fB)
      cases hg : getP l with
      | none =>
        obtain rfl := hG2 hg
        obtain ⟨wC, hwC⟩ : ∃ x, wB.alloc (.cells #[.string ⟨#[]⟩, .slice none 0 0, .slice none 0 0] 25) = x := ⟨_, rfl⟩
        have FC : Fr None' wB wC := hwC ▸ Fr.alloc None' wB _
        have HFC := toHid8 (HFB.out.then7 FC)
        have HwC := toHid8 hwC
        have qC : Calls Tryz.prog 16 #[.agg #[.string ⟨#[]⟩, .slice none 0 0, .slice none 0 0], .agg #[.string ⟨#[]⟩, .slice none 0 0, .slice none 0 0]] wC fun e w'' => e = .returned (.bool true) ∧ Fr None' wC w'' := msame_any ⟨⟨#[]⟩, [], []⟩ ⟨⟨#[]⟩, [], []⟩ _ _ none none 0 0 0 0 wC rfl rfl (nilS8 wC) (nilS8 wC) (fun k x hk => by cases hk) (fun k x hk => by cases hk) (by decide) (by decide) (fun x hx => by cases hx)
        clear qA hG1 hG2 fB FC hwC hg
        go_wp2_with fail
        rw [HwC.out]
        with_reducible refine qC.mono ?_
        rintro e wD ⟨rfl, fD⟩
        have HFD := toHid8 (HFC.out.then7 fD)
        clear qC fD
        go_wp2_with fail
        go_ret
        exact ⟨rfl, HFD.out⟩
      | some u =>
        obtain ⟨ud, qb, db, rfl, t1, t2⟩ := hG1 u hg
        obtain ⟨_, hru, hpu⟩ := put_get hg
        have HPP := toHid8 hpu
        have HRu := toHid8 hru
        have t1c := t1
        obtain ⟨pu, cu, eu, -⟩ := t1c
        subst eu
        obtain ⟨wC, hwC⟩ : ∃ x, wB.alloc (.cells #[.string u.name, .slice pu u.deps.length cu, .slice qb u.body.length db] 25) = x := ⟨_, rfl⟩
        have FC : Fr None' wB wC := hwC ▸ Fr.alloc None' wB _
        have BC : Box3 wC wB.heap.size (.string u.name) (.slice pu u.deps.length cu) (.slice qb u.body.length db) := hwC ▸ Box3.new wB _ _ _
        have HFC := toHid8 (HFB.out.then7 FC)
        have qC := HPu.out u hg _ qb db wC HFC.out (t1.kept FC) (t2.kept FC)
        obtain ⟨c0, c1, c2⟩ := BC.cells
        clear qA hG1 hG2 fB FC BC t1 t2 hru hpu hg
        go_wp2_with fail
        with_reducible refine qC.mono ?_
        rintro e wD ⟨hD1, _, fD⟩
        obtain ⟨y, rfl, hy⟩ := hD1 HRu.out
        rw [HPP.out] at hy
        have HFD := toHid8 (HFC.out.then7 fD)
        have k1 := hy.conv
        have k2 := (HV.out.kept HFD.out).conv
        obtain ⟨py, cy, ey⟩ := hy.is
        rw [HM.out] at ey k2
        subst ey
        generalize mkB l = LB at k1 k2
        clear qC hD1 fD hy c0 c1 c2
        go_wp2_with fail
        go_ret
        exact ⟨by first | rfl | exact ret_bool7 (by simp), HFD.out⟩

end Go.Proofs.YtofpkpomhdhkgaaGreatDoor
