/-
  What is proved here: NamedCut answers true. Conditions: its arguments lie in memory; the table of powers of ten does.
-/
import Derived.Test.YtofpkpomhdhkgaaGreatDoorM26Head13
import Derived.Maps.AppendAt
import Derived.Lib.AppendZeros
import Derived.Laws.OwnMore
namespace Go.Proofs.YtofpkpomhdhkgaaGreatDoor
open Go.RowKit
set_option maxRecDepth 100000

theorem patchR_cut {p : Pa} (h : OkPa p) {k : Nat} (hk : k < (patch13 p).length) : patchR ((patch13 p).take k) = none := by
  cases e : patchR ((patch13 p).take k) with
  | none => rfl
  | some x =>
    obtain ⟨q, r⟩ := x
    obtain ⟨h1, h2⟩ := code_patch.fwd _ _ _ e
    have h3 : patch13 p ++ [] = patch13 q ++ (r ++ (patch13 p).drop k) := by rw [← List.append_assoc, ← h2, List.take_append_drop, List.append_nil]
    have h4 := congrArg List.length (code_patch.inj h h1 h3).2
    rw [List.length_append, List.length_drop, List.length_nil] at h4
    omega

theorem patchR_more {p : Pa} (h : OkPa p) (c : UInt8) : patchR (patch13 p ++ [c]) = some (p, [c]) := code_patch.back p [c] h

theorem ByAt.take {w : World} {ad : Option Addr} {n c k : Nat} {l : B13} (h : ByAt w (.slice ad n c) l) (hn : l.length = n) (hk : k ≤ n) : ByAt w (.slice ad k c) (l.take k) := by
  obtain ⟨ad', c', e, h1, h2, h3⟩ := h
  cases e
  have hl : (l.take k).length = k := by rw [List.length_take]; omega
  refine ⟨ad, c, by rw [hl], by omega, h2, fun j x hj => ?_⟩
  rw [List.getElem?_take] at hj
  split at hj
  · exact h3 j x hj
  · cases hj

/-- A row of bytes of the call's own. -/
theorem own_by {B : Nat} {w : World} {v : Value} {l : B13} (h : w.ownsRow B 5 1 v l.length (Lib.byteCells l)) : ByAt w v l := by
  rcases h.2 with ⟨hv, h0⟩ | ⟨g, cap, cur, hv, hb, hh, hc, _, hs, ht⟩
  · have e : l = [] := List.length_eq_zero_iff.1 h0
    subst e
    exact ⟨none, 0, hv, Nat.le_refl _, fun _ => rfl, fun j x hj => by simp at hj⟩
  · refine ⟨_, cap, hv, hc, (fun e => by cases e), fun i x hi => ⟨g, 0, rfl, ?_⟩⟩
    have hlt := (List.getElem?_eq_some_iff.1 hi).1
    have hl : (Lib.byteCells l)[i]? = some (.int .u8 x.toNat) := by unfold Lib.byteCells; rw [List.getElem?_map, hi]; rfl
    rw [← ht, List.getElem?_take, if_pos (by omega)] at hl
    rw [World.cell?, Nat.zero_add, hh]
    simpa using hl

theorem ofGrown {w w' : World} {B : Nat} {v : Value} {n : Nat} {xs : List Value} (hown : w.ownsRow B 5 1 v n xs) (hB : B ≤ w.heap.size) (h : w.grownBy w' v.ownBlock) : Below B w w' := by
  refine (Fr.grown (M := fun i => v.ownBlock = some i) h (fun k e => e)).below hB (fun k e => ?_)
  rcases hown.2 with ⟨hv, _⟩ | ⟨g, cap, cur, hv, hb, _⟩
  · rw [hv] at e; cases e
  · rw [hv] at e; cases e; exact hb

theorem fr_of_below {B : Nat} {M : Nat → Prop} {w w' : World} (h : Below B w w') (hM : ∀ k, B ≤ k → k < w.heap.size → M k) : Fr M w w' :=
  ⟨h.os, h.tape, h.output, h.size, fun k hk hm => h.block k (by
    rcases Nat.lt_or_ge k B with h1 | h1
    · exact h1
    · exact absurd (hM k h1 hk) hm)⟩

/-- Bytes put behind a row of the call's own. -/
theorem own_push {B : Nat} {w : World} {v : Value} {xs : B13} (hown : w.ownsRow B 5 1 v xs.length (Lib.byteCells xs)) (hB : B ≤ w.heap.size) {ad : Option Addr} {n c : Nat} {l : B13} (h : ByAt w (.slice ad n c) l) (hl : xs.length + l.length ≤ 2000000000) :
    ∃ v' w', (Builtin.append_ #[26, 26] 26 #[v, .slice ad n c]).run Tryz.prog w = .ok v' w' ∧ w'.ownsRow B 5 1 v' (xs ++ l).length (Lib.byteCells (xs ++ l)) ∧ Below B w w' := by
  obtain ⟨i0, hi, hz0, hz1, hz2⟩ := info_parts info8_13
  obtain ⟨ad', c', e, h1, h2, h3⟩ := h
  cases e
  cases ad with
  | none =>
    have hc := h2 rfl
    subst hc
    obtain rfl : l = [] := List.length_eq_zero_iff.1 (by omega)
    refine ⟨v, w, run_append_owned_none (P := Tryz.prog) (w := w) B 26 26 5 i0 1 Tryz.underlying26 hi v xs.length _ hown, ?_, Below.refl _ _⟩
    rw [List.append_nil]
    exact hown
  | some a =>
    have hlen : (Lib.byteCells l).length = l.length * 1 := by unfold Lib.byteCells; rw [List.length_map, Nat.mul_one]
    obtain ⟨v', w', hr, h5, h6, _, _⟩ := run_append_own_at (P := Tryz.prog) w B 26 26 5 i0 (.int .u8 0) 1 1 Tryz.underlying26 hi hz0 hz1 hz2 rfl (by decide) v xs.length _ hown a l.length c (Lib.byteCells l) hlen (fun j u hj => by
      unfold Lib.byteCells at hj
      rw [List.getElem?_map] at hj
      cases hx : l[j]? with
      | none => rw [hx] at hj; cases hj
      | some x =>
        rw [hx] at hj
        cases hj
        obtain ⟨g, o, e1, e2⟩ := h3 j x hx
        cases e1
        have e3 : (Addr.mk g o none).add j = ⟨g, o + j, none⟩ := by simp only [Addr.add]; split <;> simp_all
        rw [e3]; exact e2) (fun u hu => by
      unfold Lib.byteCells at hu
      obtain ⟨x, _, rfl⟩ := List.mem_map.1 hu
      rfl) (by unfold maxLen; omega) (by omega) hB
    refine ⟨v', w', hr, ?_, ofGrown hown hB h6⟩
    have e1 : Lib.byteCells (xs ++ l) = Lib.byteCells xs ++ Lib.byteCells l := by unfold Lib.byteCells; exact List.map_append
    rw [List.length_append, e1]
    exact h5

/-- Bytes, and a byte, copied. -/
theorem more_run (w : World) {ad : Option Addr} {n c : Nat} {l : B13} (h : ByAt w (.slice ad n c) l) (hl : l.length ≤ 1000000000) (b : UInt8) (Z : Int) (hZ : (b.toNat : Int) = Z) :
    ∃ v1 w1 v2 w2, (Builtin.append_ #[26, 26] 26 #[.slice (some ⟨w.heap.size, 0, none⟩) 0 0, .slice ad n c]).run Tryz.prog (w.alloc (.cells #[] 5)) = .ok v1 w1 ∧ (Builtin.append_ #[26, 26] 26 #[v1, .slice (some ⟨w1.heap.size, 0, none⟩) 1 1]).run Tryz.prog (w1.alloc (.cells #[.int .u8 Z] 5)) = .ok v2 w2 ∧ ByAt w2 v2 (l ++ [b]) ∧ Fr None' w w2 := by
  have F0 : Fr None' w (w.alloc (.cells #[] 5)) := Fr.alloc None' w _
  have s0 : w.heap.size ≤ (w.alloc (.cells #[] 5)).heap.size := F0.size
  have o0 : (w.alloc (.cells #[] 5)).ownsRow w.heap.size 5 1 (.slice (some ⟨w.heap.size, 0, none⟩) 0 0) ([] : B13).length (Lib.byteCells []) :=
    ⟨rfl, .inr ⟨w.heap.size, 0, #[], rfl, Nat.le_refl _, heap_alloc_new w _, Nat.le_refl _, Nat.zero_le _, rfl, rfl⟩⟩
  obtain ⟨v1, w1, r1, o1, b1⟩ := own_push o0 s0 (h.kept F0) (by simp; omega)
  rw [List.nil_append] at o1
  have F1 : Fr None' w w1 := fr_of_below ((F0.below (Nat.le_refl _) (fun _ e => e.elim)).trans b1) (fun k h1 h2 => absurd h2 (by omega))
  have F2 : Fr None' w1 (w1.alloc (.cells #[.int .u8 Z] 5)) := Fr.alloc None' w1 _
  have o2 : (w1.alloc (.cells #[.int .u8 Z] 5)).ownsRow w.heap.size 5 1 v1 l.length (Lib.byteCells l) := by
    refine ⟨o1.1, ?_⟩
    rcases o1.2 with h | ⟨g, cap, cur, hv, hb, hh, h⟩
    · exact .inl h
    · exact .inr ⟨g, cap, cur, hv, hb, F2.at hh (fun e => e.elim), h⟩
  have a2 : ByAt (w1.alloc (.cells #[.int .u8 Z] 5)) (.slice (some ⟨w1.heap.size, 0, none⟩) 1 1) [b] := by
    refine ⟨_, 1, rfl, Nat.le_refl _, (fun e => by cases e), fun j x hj => ⟨_, _, rfl, ?_⟩⟩
    match j, hj with
    | 0, hj =>
      simp at hj
      subst hj
      subst hZ
      simp
  obtain ⟨v2, w2, r2, o3, b2⟩ := own_push o2 (by have := F1.size; have := F2.size; omega) a2 (by simp; omega)
  refine ⟨v1, w1, v2, w2, r1, r2, own_by o3, fr_of_below (((F1.then7 F2).below (Nat.le_refl _) (fun _ e => e.elim)).trans b2) (fun k h1 h2 => absurd h2 (by omega))⟩

theorem getP_cut {p : Pa} (h : OkPa p) {k : Nat} (hk : k < (patch13 p).length) : getP ((patch13 p).take k) = none := by
  unfold getP
  rw [patchR_cut h hk]

theorem getP_more {p : Pa} (h : OkPa p) (c : UInt8) : getP (patch13 p ++ [c]) = none := by
  unfold getP
  rw [patchR_more h c]
  exact if_neg (fun e => by cases e.1)

theorem patch13_pos (p : Pa) : 0 < (patch13 p).length := by
  unfold patch13 text13 num13
  simp only [List.length_append, List.length_cons]
  omega

theorem FewPa.len7 {p : Pa} (h : FewPa p) (hr : rightPa p = true) : (patch13 p).length ≤ 70000000 := by
  have hb : ∀ x ∈ p.body, rightP x = true := by
    unfold rightPa at hr
    simp only [Bool.and_eq_true] at hr
    exact List.all_eq_true.1 hr.2.2
  have h0 := h.name
  have h1 := h.deps.1
  have h2 := h.body.1
  have t1 := text13_len (s := p.name) (by omega)
  have d1 := flat_le text13 4022 (p.deps.map unB) (fun y hy => by
    obtain ⟨z, hz, rfl⟩ := List.mem_map.1 hy
    have g1 := h.deps.2 z hz
    have := text13_len (s := z) (by omega)
    omega)
  have b1 := flat_le prim13 300000 p.body (fun x hx => prim_len (h.body.2 x hx) (hb x hx))
  have n1 := num_le13 (n := (p.deps.map unB).length) (by rw [List.length_map]; omega)
  have n2 := num_le13 (n := p.body.length) (by omega)
  rw [List.length_map] at d1
  have d2 : p.deps.length * 4022 ≤ 4000 * 4022 := Nat.mul_le_mul_right _ (by omega)
  have b2 : p.body.length * 300000 ≤ 60 * 300000 := Nat.mul_le_mul_right _ h2
  unfold patch13 list13
  simp only [List.length_append]
  omega

theorem str_dec (A B : ByteArray) : (A.toList == B.toList) = decide (A = B) := by
  by_cases h : A = B
  · subst h; simp
  · rw [(Lines.str_no h).2, decide_eq_false h]

structure FrC (w : World) where
  to : World
  fr : Fr None' w to

instance (w : World) : Inhabited (FrC w) := ⟨⟨w, Fr.refl _ _⟩⟩

theorem names_more (Z : Nat) (h : Z < 256) : (((UInt8.ofNat Z).toNat : Nat) : Int) = (Z : Int) := by
  have : (UInt8.ofNat Z).toNat = Z := by simp; omega
  rw [this]

set_option maxHeartbeats 16000000 in
theorem cut_walk (p : Pa) (vd : Value) (pb : Option Addr) (nb cb : Nat) (q : Pa) (ve : Value) (qb : Option Addr) (mb db : Nat) (cut more : Nat) (W : World) (hT : Lib.TabIs Tryz.prog W pow10 .u64 Lib.pow10Tab) (hnb : p.body.length = nb) (sd : StrsAt W vd p.deps) (sb : PrsAt W pb p.body) (_hz : pb = none → cb = 0) (ld : p.deps.length ≤ 140737488355328) (lb : ∀ x ∈ p.body, x.old.length ≤ 140737488355328 ∧ x.new.length ≤ 140737488355328)
    (hmb : q.body.length = mb) (se : StrsAt W ve q.deps) (sc : PrsAt W qb q.body) (_hy : qb = none → db = 0) (le : q.deps.length ≤ 140737488355328) (lc : ∀ x ∈ q.body, x.old.length ≤ 140737488355328 ∧ x.new.length ≤ 140737488355328) (hcut : cut < 65536) (hmore : more < 256) :
    Calls Tryz.prog 5 #[.agg #[.string p.name, vd, .slice pb nb cb], .agg #[.string q.name, ve, .slice qb mb db], .int .u16 cut, .int .u8 more] W fun e w' => e = .returned (.bool true) ∧ Fr None' W w' := by
  have HSd := toHid8 sd
  have HSb := toHid8 sb
  have HSe := toHid8 se
  have HSc := toHid8 sc
  have HT := toHid8 hT
  obtain ⟨pa, ca, ed, -⟩ := sd
  subst ed
  obtain ⟨pe, ce, ee, -⟩ := se
  subst ee
  obtain ⟨w0, hw0⟩ : ∃ x, W.alloc (.cells #[.string p.name, .slice pa p.deps.length ca, .slice pb nb cb] 25) = x := ⟨_, rfl⟩
  have F0 : Fr None' W w0 := hw0 ▸ Fr.alloc None' W _
  have B0 : Box3 w0 W.heap.size (.string p.name) (.slice pa p.deps.length ca) (.slice pb nb cb) := hw0 ▸ Box3.new W _ _ _
  obtain ⟨w1, hw1⟩ : ∃ x, w0.alloc (.cells #[.string q.name, .slice pe q.deps.length ce, .slice qb mb db] 25) = x := ⟨_, rfl⟩
  have F1 : Fr None' w0 w1 := hw1 ▸ Fr.alloc None' w0 _
  have B1 : Box3 w1 w0.heap.size (.string q.name) (.slice pe q.deps.length ce) (.slice qb mb db) := hw1 ▸ Box3.new w0 _ _ _
  have HA := toHid8 (B0.kept F1)
  have HB := toHid8 B1
  have HF1 := toHid8 (F0.then7 F1)
  have q1 := head13_any w1 (TabIs.fr hT HF1.out)
  have HG := toHid8 (fun w' (f : Fr None' W w') => great13_any p _ pb nb cb w' (HSd.out.kept f) (HSb.out.kept f) hnb ld lb)
  have HH := toHid8 (fun w' (f : Fr None' W w') => great13_any q _ qb mb db w' (HSe.out.kept f) (HSc.out.kept f) hmb le lc)
  unfold GPost at HG HH
  have HP := toHid8 (fun (h : FewPa p) w' (f : Fr None' W w') => show Calls Tryz.prog 10 #[.agg #[.string p.name, .slice pa p.deps.length ca, .slice pb nb cb]] w' fun e w'' => PutPost w' p e w'' from by
    have := nput_any p _ pb cb w' (HSd.out.kept f) (HSb.out.kept f) h.small (TabIs.fr HT.out f) (fun hr => Nat.le_trans (h.len hr) (by decide))
    rwa [hnb] at this)
  have HQ := toHid8 (fun (h : FewPa q) w' (f : Fr None' W w') => show Calls Tryz.prog 10 #[.agg #[.string q.name, .slice pe q.deps.length ce, .slice qb mb db]] w' fun e w'' => PutPost w' q e w'' from by
    have := nput_any q _ qb db w' (HSe.out.kept f) (HSc.out.kept f) h.small (TabIs.fr HT.out f) (fun hr => Nat.le_trans (h.len hr) (by decide))
    rwa [hmb] at this)
  have HS := toHid8 (fun (h : FewPa p) (k : FewPa q) w' (f : Fr None' W w') => show Calls Tryz.prog 16 #[.agg #[.string p.name, .slice pa p.deps.length ca, .slice pb nb cb], .agg #[.string q.name, .slice pe q.deps.length ce, .slice qb mb db]] w' fun e w'' => e = .returned (.bool (samePa p q)) ∧ Fr None' w' w'' from by
    exact msame_any p q _ _ pb qb nb mb cb db w' hnb hmb (HSd.out.kept f) (HSe.out.kept f) (HSb.out.kept f) (HSc.out.kept f) (by have := h.body.1; omega) (by have := h.deps.1; omega) (fun x hx => by have := (weight_small (h.body.2 x hx)).1; exact ⟨by have := this.old; omega, by have := this.new; omega⟩))
  have HCut := toHid8 hcut
  have HMore := toHid8 hmore
  clear hT sb hnb ld lb F0 B0 F1 B1 sc hmb le lc hcut hmore
  go_enter Tryz.func5, Tryz.ntmps5
  go_wp2_with fail
  with_reducible refine q1.mono ?_
  rintro e w2 ⟨rfl, f2⟩
  have HF2 := toHid8 (HF1.out.then7 f2)
  have HA2 := toHid8 (HA.out.kept f2)
  have HB2 := toHid8 (HB.out.kept f2)
  have q2 := HG.out w2 HF2.out
  obtain ⟨a0, a1, a2⟩ := HA2.out.cells
  clear q1 f2 HF1 HA HB
  go_wp2_with fail
  with_reducible refine q2.mono ?_
  rintro e w3 ⟨g, rfl, hg, f3⟩
  have HF3 := toHid8 (HF2.out.then7 f3)
  have HA3 := toHid8 (HA2.out.kept f3)
  have HB3 := toHid8 (HB2.out.kept f3)
  clear q2 f3 HG a0 a1 a2 HA2 HB2
  cases g with
  | true =>
    clear hg
    go_wp2_with fail
    go_ret
    exact ⟨rfl, HF3.out⟩
  | false =>
    have HW := toHid8 (hg rfl)
    clear hg
    have q3 := HH.out w3 HF3.out
    obtain ⟨b0, b1, b2⟩ := HB3.out.cells
    go_wp2_with fail
    with_reducible refine q3.mono ?_
    rintro e w4 ⟨g, rfl, hg, f4⟩
    have HF4 := toHid8 (HF3.out.then7 f4)
    have HA4 := toHid8 (HA3.out.kept f4)
    have HB4 := toHid8 (HB3.out.kept f4)
    clear q3 f4 HH b0 b1 b2 HA3 HB3
    cases g with
    | true =>
      clear hg
      go_wp2_with fail
      go_ret
      exact ⟨rfl, HF4.out⟩
    | false =>
      have HV := toHid8 (hg rfl)
      clear hg
      have q4 := HP.out HW.out w4 HF4.out
      obtain ⟨a0, a1, a2⟩ := HA4.out.cells
      clear HP
      go_wp2_with fail
      with_reducible refine q4.mono ?_
      rintro e w5 ⟨hP1, hP2, f5⟩
      have HF5 := toHid8 (HF4.out.then7 f5)
      have HA5 := toHid8 (HA4.out.kept f5)
      have HB5 := toHid8 (HB4.out.kept f5)
      have q5 := HQ.out HV.out w5 HF5.out
      obtain ⟨b0, b1, b2⟩ := HB5.out.cells
      clear q4 f5 HQ HA4 HB4 a0 a1 a2
      obtain ⟨R, hR⟩ : ∃ R, rightPa p = R := ⟨_, rfl⟩
      obtain ⟨S, hS⟩ : ∃ S, rightPa q = S := ⟨_, rfl⟩
      have HR := toHid8 hR
      have HRq := toHid8 hS
      cases R with
      | false =>
        obtain rfl := hP2 hR
        clear hP1 hP2 hR hS
        go_wp2_with fail
        with_reducible refine q5.mono ?_
        rintro e w6 ⟨hQ1, hQ2, f6⟩
        have HF6 := toHid8 (HF5.out.then7 f6)
        clear q5 f6 b0 b1 b2
        cases S with
        | false =>
          obtain rfl := hQ2 HRq.out
          clear hQ1 hQ2
          go_wp2_with fail
          go_ret
          exact ⟨rfl, HF6.out⟩
        | true =>
          obtain ⟨y, rfl, hy⟩ := hQ1 HRq.out
          clear hQ1 hQ2
          have Hy := toHid8 hy
          obtain ⟨py, cy, ey⟩ := hy.is
          subst ey
          clear hy
          go_wp2_with fail
          go_ret
          exact ⟨rfl, HF6.out⟩
      | true =>
        obtain ⟨x, rfl, hx⟩ := hP1 hR
        clear hP1 hP2 hR hS
        have HX := toHid8 hx
        obtain ⟨px, cx, ex⟩ := hx.is
        subst ex
        clear hx
        obtain ⟨m, hm⟩ : ∃ m, (patch13 p).length = m := ⟨_, rfl⟩
        have HM := toHid8 hm
        have HOk := toHid8 (HW.out.small.put HR.out).ok
        have HLen := toHid8 (HW.out.len7 HR.out)
        rw [hm]
        clear hm
        go_wp2_with fail
        with_reducible refine q5.mono ?_
        rintro e w6 ⟨hQ1, hQ2, f6⟩
        have HF6 := toHid8 (HF5.out.then7 f6)
        have HA6 := toHid8 (HA5.out.kept f6)
        have HB6 := toHid8 (HB5.out.kept f6)
        have HX6 := toHid8 (HX.out.kept f6)
        clear q5 f6 b0 b1 b2 HA5 HB5 HX
        cases S with
        | false =>
          obtain rfl := hQ2 HRq.out
          clear hQ1 hQ2
          go_wp2_with fail
          go_ret
          exact ⟨rfl, HF6.out⟩
        | true =>
          obtain ⟨y, rfl, hy⟩ := hQ1 HRq.out
          clear hQ1 hQ2
          have HY := toHid8 hy
          obtain ⟨py, cy, ey⟩ := hy.is
          subst ey
          clear hy
          obtain ⟨my, hmy⟩ : ∃ m, (patch13 q).length = m := ⟨_, rfl⟩
          have HMy := toHid8 hmy
          have HOq := toHid8 (HV.out.small.put HRq.out).ok
          rw [hmy]
          clear hmy
          have hm0 : 0 < m := by
            rw [← HM.out]
            exact patch13_pos p
          have i0 : ((m : Int) == 0) = false := by simp; omega
          obtain ⟨k, hk⟩ : ∃ k, cut % m = k := ⟨_, rfl⟩
          have hkm : k < m := by rw [← hk]; exact Nat.mod_lt _ hm0
          have i1 : (wrap64 (cut : Int)).tmod (m : Int) = (k : Int) := by
            have h1 : wrap64 (cut : Int) = (cut : Int) := by unfold wrap64; have := HCut.out; omega
            rw [h1, ← hk]
            exact (Int.ofNat_tmod cut m).symm
          have hmc : m ≤ cx := by
            obtain ⟨ad, c, e1, e2, -⟩ := HX6.out
            cases e1
            rw [HM.out] at e2
            exact e2
          have hkc : k ≤ cx := by omega
          have i2 : (k : Int) ≤ (cx : Int) := by omega
          have i3 : ¬ (k : Int) < 0 := by omega
          have i4 : ¬ (cx : Int) < (k : Int) := by omega
          have i5 : (0 : Int) ≤ (k : Int) := by omega
          have i6 : ¬ (m : Int) = 0 := by omega
          have i7 : ¬ m = 0 := by omega
          have HK := toHid8 hkm
          clear hkm hk hm0 hmc
          have q6 := nget_any _ _ w6 (ByAt.take HX6.out rfl (by rw [HM.out]; exact Nat.le_of_lt HK.out)) (by rw [List.length_take, HM.out]; have := HK.out; have := HLen.out; rw [HM.out] at this; omega) (fun u e => by
            rw [patchR_cut HOk.out (by rw [HM.out]; exact HK.out)] at e
            cases e)
          go_wp2_with fail
          with_reducible refine q6.mono ?_
          rintro e w7 ⟨-, hG2, f7⟩
          obtain rfl := hG2 (getP_cut HOk.out (by rw [HM.out]; exact HK.out))
          have HF7 := toHid8 (HF6.out.then7 f7)
          obtain ⟨w8, hw8⟩ : ∃ x, w7.alloc (.cells #[.string ⟨#[]⟩, .slice none 0 0, .slice none 0 0] 25) = x := ⟨_, rfl⟩
          have F8 : Fr None' w7 w8 := hw8 ▸ Fr.alloc None' w7 _
          have HF8 := toHid8 (HF7.out.then7 F8)
          have HA8 := toHid8 (HA6.out.kept (f7.then7 F8))
          have HB8 := toHid8 (HB6.out.kept (f7.then7 F8))
          have HX8 := toHid8 (HX6.out.kept (f7.then7 F8))
          obtain ⟨v1, w9, v2, wA, r1, r2, a2, f9⟩ := more_run w8 HX8.out (Nat.le_trans HLen.out (by decide)) (UInt8.ofNat more) more (names_more more HMore.out)
          rw [HM.out] at r1
          have hs8 : w8.heap.size = w7.heap.size + 1 := by rw [← hw8]; exact Array.size_push _
          rw [hs8, ← hw8] at r1
          have HFA := toHid8 (HF8.out.then7 f9)
          have HAA := toHid8 (HA8.out.kept f9)
          have HBA := toHid8 (HB8.out.kept f9)
          have HXA := toHid8 (HX8.out.kept f9)
          have HYA := toHid8 (HY.out.kept ((f7.then7 F8).then7 f9))
          have q7 := nget_any _ _ wA a2 (by rw [List.length_append]; exact Nat.le_trans (Nat.add_le_add HLen.out (Nat.le_refl 1)) (by decide)) (fun u e => by
            rw [patchR_more HOk.out] at e
            cases e)
          clear hw8 hs8 q6 hG2 f7 F8 i0 i1 i2 i3 i4 i5 i6 i7 hkc a2 f9 HA6 HB6 HX6 HA8 HB8 HX8
          go_wp2_with (at_builtin; first | refine Lib.wpList_append_run _ rfl _ _ _ _ rfl _ _ rfl rfl _ _ r1 ?_ | refine Lib.wpList_append_run _ rfl _ _ _ _ rfl _ _ rfl rfl _ _ r2 ?_)
          with_reducible refine q7.mono ?_
          rintro e wB ⟨-, hG2, fB⟩
          obtain rfl := hG2 (getP_more HOk.out _)
          obtain ⟨wC, hwC⟩ : ∃ x, wB.alloc (.cells #[.string ⟨#[]⟩, .slice none 0 0, .slice none 0 0] 25) = x := ⟨_, rfl⟩
          have FC : Fr None' wB wC := hwC ▸ Fr.alloc None' wB _
          have HFC := toHid8 (HFA.out.then7 (fB.then7 FC))
          have K1 : ∀ x : FrC wC, (convert 26 9 (.slice px m cx)).run Tryz.prog x.to = .ok (.string (mkB (patch13 p))) x.to := fun x => by
            have := (HXA.out.kept (fB.then7 (FC.then7 x.fr))).conv
            rwa [HM.out] at this
          have K2 : ∀ x : FrC wC, (convert 26 9 (.slice py my cy)).run Tryz.prog x.to = .ok (.string (mkB (patch13 q))) x.to := fun x => by
            have := (HYA.out.kept (fB.then7 (FC.then7 x.fr))).conv
            rwa [HMy.out] at this
          have A0 : ∀ x : FrC wC, x.to.cell? ⟨W.heap.size, 0, none⟩ = some (.string p.name) := fun x => (HAA.out.kept (fB.then7 (FC.then7 x.fr))).cells.1
          have A1 : ∀ x : FrC wC, x.to.cell? ⟨W.heap.size, 1, none⟩ = some (.slice pa p.deps.length ca) := fun x => (HAA.out.kept (fB.then7 (FC.then7 x.fr))).cells.2.1
          have A2 : ∀ x : FrC wC, x.to.cell? ⟨W.heap.size, 2, none⟩ = some (.slice pb nb cb) := fun x => (HAA.out.kept (fB.then7 (FC.then7 x.fr))).cells.2.2
          have B0 : ∀ x : FrC wC, x.to.cell? ⟨w0.heap.size, 0, none⟩ = some (.string q.name) := fun x => (HBA.out.kept (fB.then7 (FC.then7 x.fr))).cells.1
          have B1 : ∀ x : FrC wC, x.to.cell? ⟨w0.heap.size, 1, none⟩ = some (.slice pe q.deps.length ce) := fun x => (HBA.out.kept (fB.then7 (FC.then7 x.fr))).cells.2.1
          have B2 : ∀ x : FrC wC, x.to.cell? ⟨w0.heap.size, 2, none⟩ = some (.slice qb mb db) := fun x => (HBA.out.kept (fB.then7 (FC.then7 x.fr))).cells.2.2
          have hab : decide (mkB (patch13 p) = mkB (patch13 q)) = samePa p q := by
            rw [Bool.eq_iff_iff, decide_eq_true_iff, samePa_iff]
            refine ⟨fun e => ?_, fun e => by rw [e]⟩
            have h1 : patch13 p = patch13 q := congrArg unB e
            exact (code_patch.inj HOk.out HOq.out (by rw [List.append_nil, List.append_nil]; exact h1) : _ ∧ _).1
          have U1 : ∀ x : FrC wC, Calls Tryz.prog 16 #[.agg #[.string p.name, .slice pa p.deps.length ca, .slice pb nb cb], .agg #[.string q.name, .slice pe q.deps.length ce, .slice qb mb db]] x.to fun e w' => e = .returned (.bool (samePa p q)) ∧ ∃ y : FrC wC, w' = y.to := fun x => (HS.out HW.out HV.out x.to (HFC.out.then7 x.fr)).mono fun _ _ h => ⟨h.1, ⟨_, x.fr.then7 h.2⟩, rfl⟩
          rw [← hab] at U1
          generalize mkB (patch13 p) = SA at K1 U1
          generalize mkB (patch13 q) = SB at K2 U1
          have HwC := toHid8 hwC
          clear q7 hG2 fB FC hab hwC r1 r2 hw0 hw1
          go_wp2_with fail
          rw [HwC.out]
          refine wp_region_quiet (C := fun w' => ∃ x : FrC wC, w' = x.to) (by kernel_rfl) (by kernel_rfl) ⟨⟨_, Fr.drew None' wC⟩, rfl⟩ ?_
          simp only
          repeat (quiet_step ((go_at_call 16; exact U1 _)))
          refine wpQuiet_nil ?_
          intro wD hwD
          obtain ⟨x, rfl⟩ := hwD
          have HFx := toHid8 (HFC.out.then7 x.fr)
          clear K1 K2 A0 A1 A2 B0 B1 B2 U1
          go_wp2_with fail
          go_ret
          exact ⟨by first | rfl | exact ret_bool7 (by rw [str_dec]; simp), HFx.out⟩

end Go.Proofs.YtofpkpomhdhkgaaGreatDoor
