/-
  What is proved here: the contracts that the statement stands on: WithL8, Great7. Conditions: as each theorem names them.
-/
import Derived.Test.YtjpgpbfnmokmiabGreatDoorM28With8
import Derived.Test.YtjpgpbfnmokmiabGreatDoorM33FConcat
import Derived.Test.YtjpgpbfnmokmiabGreatDoorM9Box9
import Derived.Deep.RegionHeld3
namespace Go.Proofs.YtjpgpbfnmokmiabGreatDoor
open Go.RowKit
set_option maxRecDepth 100000

theorem ofD {w w' : World} (h : Diff.Fr Diff.None' w w') : Fr None' w w' := ⟨h.os, h.tape, h.output, h.size, fun k hk hm => h.block k hk (fun e => hm e)⟩

theorem hunk_apply (l o n : List ByteArray) (x : Int) : Diff.applyI l x o n = hunkL l x o n := by
  unfold Diff.applyI Diff.apply1 hunkL
  by_cases h : 0 ≤ x
  · rw [if_pos h]
    simp only [h, true_and]
  · rw [if_neg h, if_neg (fun e => h e.1)]

/-- What diff's Apply answers. -/
theorem dapply_any (l o n : List ByteArray) (x : Int) (ua : Option Addr) (um uc : Nat) (po pn : Option Addr) (no nn co cn : Nat) (w : World) (hl : StrsAt w (.slice ua um uc) l) (ho : StrsAt w (.slice po no co) o) (hn : StrsAt w (.slice pn nn cn) n) (l1 : l.length ≤ 40000000) (l2 : o.length ≤ 40000000) (l3 : n.length ≤ 40000000) (hx : -9223372036854775808 ≤ x ∧ x < 9223372036854775808) :
    Calls Tryz.prog 98 #[.slice ua um uc, .agg #[.int .i64 x, .slice po no co, .slice pn nn cn]] w fun e w' => ∃ (va : Option Addr) (m c : Nat) (b : Bool), e = .returned (.tuple #[.slice va m c, .bool b]) ∧ Hid (b = (hunkL l x o n).isSome) ∧ Hid (∀ l', hunkL l x o n = some l' → StrsAt w' (.slice va m c) l') ∧ Hid (∀ l', hunkL l x o n = some l' → ∀ k, (Value.slice va m c).ownBlock = some k → w.heap.size ≤ k) ∧ Fr None' w w' := by
  obtain ⟨va, c, e1, a1, a2, a3⟩ := hl
  obtain ⟨vb, c', e2, b1, b2, b3⟩ := ho
  obtain ⟨vc, c'', e3, d1, d2, d3⟩ := hn
  cases e1; cases e2; cases e3
  refine (Diff.apply_any ua po pn l.length uc o.length co n.length cn l o n x w rfl rfl rfl a3 b3 d3 a2 a1 b2 b1 d2 d1 l1 l2 l3 hx).mono ?_
  rintro e w' ⟨f, h⟩
  rw [hunk_apply] at h
  cases hr : hunkL l x o n with
  | none =>
    rw [hr] at h
    exact ⟨none, 0, 0, false, h, rfl, (fun l' e => by cases e), (fun l' e => by cases e), ofD f⟩
  | some l' =>
    rw [hr] at h
    obtain ⟨v, he, hO⟩ := h
    have hO : w'.ownsRow w.heap.size 9 1 v l'.length (l'.map Value.string) := by
      have := hO
      unfold Diff.OwnV at this
      rw [List.length_map] at this
      exact this
    have hs := own_strs hO
    have hge := fun k (e : v.ownBlock = some k) => own_ge hO e
    obtain ⟨va', c', rfl, q⟩ := hs
    exact ⟨va', l'.length, c', true, he, rfl, (fun l'' e => by cases e; exact ⟨va', c', rfl, q⟩), (fun l'' _ => hge), ofD f⟩

set_option maxHeartbeats 4000000 in
theorem withLines_any (x : En) (p : Pr) (ua : Option Addr) (um uc : Nat) (vo vn : Value) (w : World) (hx : StrsAt w (.slice ua um uc) x.lines) (ho : StrsAt w vo p.old) (hn : StrsAt w vn p.new) (hk : p.kind = 7) (l1 : x.lines.length ≤ 40000000) (l2 : p.old.length ≤ 40000000) (l3 : p.new.length ≤ 40000000) (hp : -9223372036854775808 ≤ p.pos ∧ p.pos < 9223372036854775808) :
    Calls Tryz.prog 68 #[.agg #[.string x.path, .int .i64 x.kind, .slice ua um uc, .string x.data], .agg #[.int .i64 p.kind, .string p.path, .string p.dst, .string p.src, .int .i64 p.pos, vo, vn]] w fun e w' => WithPost (withE x p) w e w' := by
  have HW := toHid8 (show withE x p = (hunkL x.lines p.pos p.old p.new).map (fun l => { x with lines := l }) from by unfold withE; rw [if_pos hk])
  rw [HW.out]
  obtain ⟨pa, ca, rfl, ho'⟩ := ho
  obtain ⟨pb, cb, rfl, hn'⟩ := hn
  have HA := toHid8 (fun w' (f : Fr None' w w') => dapply_any x.lines p.old p.new p.pos ua um uc pa pb p.old.length p.new.length ca cb w' (hx.kept f) (StrsAt.kept ⟨pa, ca, rfl, ho'⟩ f) (StrsAt.kept ⟨pb, cb, rfl, hn'⟩ f) l1 l2 l3 hp)
  clear HW hk hx ho' hn' l1 l2 l3 hp
  obtain ⟨P, K, l, D⟩ := x
  obtain ⟨K2, P2, T2, F2, A2, lO, lN⟩ := p
  simp only at HA ⊢
  generalize hunkL l A2 lO lN = R at HA ⊢
  generalize lO.length = no at HA ⊢
  generalize lN.length = nn at HA ⊢
  obtain ⟨w1, hw1⟩ : ∃ w1, w.alloc (.cells #[.string P, .int .i64 K, .slice ua um uc, .string D] 27) = w1 := ⟨_, rfl⟩
  obtain ⟨w2, hw2⟩ : ∃ w2, w1.alloc (.cells #[.int .i64 K2, .string P2, .string T2, .string F2, .int .i64 A2, .slice pa no ca, .slice pb nn cb] 32) = w2 := ⟨_, rfl⟩
  obtain ⟨w3, hw3⟩ : ∃ w3, w2.alloc (.cells #[.string ⟨#[]⟩, .int .i64 0, .slice none 0 0, .string ⟨#[]⟩] 27) = w3 := ⟨_, rfl⟩
  have F1 : Fr None' w w1 := hw1 ▸ Fr.alloc None' w _
  have F2' : Fr None' w1 w2 := hw2 ▸ Fr.alloc None' w1 _
  have F3 : Fr None' w2 w3 := hw3 ▸ Fr.alloc None' w2 _
  have s1 : w1.heap.size = w.heap.size + 1 := by rw [← hw1]; simp
  have s2 : w2.heap.size = w1.heap.size + 1 := by rw [← hw2]; simp
  have s3 : w3.heap.size = w2.heap.size + 1 := by rw [← hw3]; simp
  have BX : EBox w3 w.heap.size (.string P) (.int .i64 K) (.slice ua um uc) (.string D) := ((hw1 ▸ EBox.new w _ _ _ _ : EBox w1 _ _ _ _ _).kept F2').kept F3
  have BP : Box w3 w1.heap.size (.int .i64 K2) (.string P2) (.string T2) (.string F2) (.int .i64 A2) (.slice pa no ca) (.slice pb nn cb) := (hw2 ▸ Box.new w1 _ _ _ _ _ _ _ : Box w2 _ _ _ _ _ _ _ _).kept F3
  have BR : EBox w3 w2.heap.size (.string ⟨#[]⟩) (.int .i64 0) (.slice none 0 0) (.string ⟨#[]⟩) := hw3 ▸ EBox.new w2 _ _ _ _
  have HF := toHid8 ((F1.then7 F2').then7 F3)
  have HS := toHid8 (And.intro s1 (And.intro s2 s3))
  obtain ⟨x0, x1, x2, x3⟩ := BX.cells
  obtain ⟨p0, p1, p2, p3, p4, p5, p6⟩ := BP.cells
  have HBX := toHid8 BX
  have HBR := toHid8 BR
  have cA := HA.out w3 HF.out
  clear BX BP BR F1 F2' F3 s1 s2 s3 HA
  go_enter Tryz.func68, Tryz.ntmps68
  go_wp2_with fail
  with_reducible refine cA.mono ?_
  rintro e w4 ⟨va, m, c, b, rfl, Hb, HL, HZ, f4⟩
  clear cA x0 x1 x2 x3 p0 p1 p2 p3 p4 p5 p6
  have BX4 := HBX.out.kept f4
  have BR4 := HBR.out.kept f4
  obtain ⟨x0, x1, x2, x3⟩ := BX4.cells
  have xz := BX4.frozen
  obtain ⟨w5, hw5⟩ : ∃ w5, w4.setCell ⟨w.heap.size, 2, none⟩ (.slice va m c) = w5 := ⟨_, rfl⟩
  have F5 : Fr (fun k => k = w.heap.size) w4 w5 := hw5 ▸ Fr.setCell (M := fun k => k = w.heap.size) (a := ⟨w.heap.size, 2, none⟩) w4 rfl _
  have BX5 : EBox w5 w.heap.size (.string P) (.int .i64 K) (.slice va m c) (.string D) := hw5 ▸ BX4.set2 _
  have BR5 : EBox w5 w2.heap.size (.string ⟨#[]⟩) (.int .i64 0) (.slice none 0 0) (.string ⟨#[]⟩) := BR4.fr F5 (fun e => by have e : w2.heap.size = w.heap.size := e; have := HS.out; omega)
  obtain ⟨e0, e1, e2, e3⟩ := BX5.cells
  obtain ⟨r0, r1, r2, r3⟩ := BR5.cells
  have rz := BR5.frozen
  have HBR5 := toHid8 BR5
  have HF5 := toHid8 ((HF.out.then7 f4).trans F5 (fun i e => Or.inr (by have e : i = w.heap.size := e; omega)))
  have HN := toHid8 (show ∀ l', R = some l' → ∀ W, Fr (fun k => k = w2.heap.size) w5 W → StrsAt W (.slice va m c) l' from fun l' e W f => by
    have h4 := HL.out l' e
    have hz := HZ.out l' e
    refine (h4.far F5 (fun hl k ek ek' => ?_)).far f (fun hl k ek ek' => ?_)
    · have := hz k ek; have e' : k = w.heap.size := ek'; have := HS.out; omega
    · have := hz k ek; have e' : k = w2.heap.size := ek'; have := HS.out; omega)
  clear BX4 BR4 BX5 BR5 F5 HL f4 HBX HBR
  go_wp2_with fail
  obtain ⟨hld, hfs, hfr⟩ := fin_entry HF5.out HBR5.out (by have := HS.out; omega) (.string P) (.int .i64 K) (.slice va m c) (.string D)
  refine bodyPost_ret (v := .tuple #[.agg #[.string P, .int .i64 K, .slice va m c, .string D], .bool b]) (by rw [results_cell_tmp rfl]; simp [asAddr, Result.andThen, hld]) rfl ?_
  refine ⟨P, K, va, m, c, D, b, rfl, ?_, fun y hy => ?_, hfr⟩
  · show b = _
    rw [Hb.out]
    cases R <;> rfl
  · obtain ⟨l', e, rfl⟩ := Option.map_eq_some_iff.1 hy
    exact ⟨rfl, rfl, rfl, HN.out l' e _ hfs⟩

end Go.Proofs.YtjpgpbfnmokmiabGreatDoor

namespace Go.Proofs.YtjpgpbfnmokmiabGreatDoor
open Go.RowKit
set_option maxRecDepth 100000

/-- What k things are, but for their five. -/
def body (L : List En) (k : Nat) : Nat := ((L.take k).map (fun x => x.lines.length + x.data.size + x.path.size + (x.lines.map (·.size)).sum)).sum

theorem body_step {L : List En} {k : Nat} (hk : k < L.length) : body L (k + 1) = body L k + (L[k].lines.length + L[k].data.size + L[k].path.size + (L[k].lines.map (·.size)).sum) := by
  unfold body
  rw [List.take_succ_eq_append_getElem hk, List.map_append, List.sum_append]
  simp

theorem body_weight (L : List En) : 5 * L.length + body L L.length = weight L := by
  unfold body weight
  rw [List.take_length]
  induction L with
  | nil => rfl
  | cons x L ih =>
    simp only [List.map_cons, List.sum_cons, List.length_cons] at ih ⊢
    simp only [En.weight] at ih ⊢
    omega

def GreatPost (L : List En) (w : World) (e : Ending) (w' : World) : Prop := ∃ g, e = .returned (.bool g) ∧ (g = false → weight L < 4000) ∧ Fr None' w w'

set_option maxHeartbeats 4000000 in
theorem great_any (va : Option Addr) (n c : Nat) (L : List En) (w : World) (hl : L.length = n) (h : EntsAt w va L) (hn : n ≤ 140737488355328) (hx : ∀ x ∈ L, x.lines.length ≤ 140737488355328) :
    Calls Tryz.prog 9 #[.slice va n c] w fun e w' => GreatPost L w e w' := by
  have HL : Hid (L.length = n) := hl
  have HX : Hid (∀ x ∈ L, x.lines.length ≤ 140737488355328) := hx
  have i1 : (n : Int) ≤ 140737488355328 := by omega
  have HE : Hid (EntsAt w va L) := h
  clear hl hn h hx
  go_enter Tryz.func9, Tryz.ntmps9
  go_wp2_with fail
  go_loopw [3, 4] (fun vn vi wr => ∃ k N : Nat, k ≤ n ∧ vi = .int .i64 k ∧ vn = .int .i64 N ∧ (N : Int) ≤ 1125899906842624 ∧ Hid (N < 4000 → N = 5 * n + body L k) ∧ Hid (Fr None' w wr)) (fun _ vi _ => n - (intOf vi).toNat)
  case atStart => exact ⟨0, 5 * n, Nat.zero_le _, rfl, by go_num, by omega, fun _ => rfl, Fr.refl _ _⟩
  case round =>
    obtain ⟨k, N, hk, rfl, rfl, hN, HN, HF⟩ := hrel
    by_cases hlt : k < n
    · by_cases hs : N < 4000
      · have hkL : k < L.length := by rw [HL.out]; exact hlt
        obtain ⟨g, o, rfl, vl, d0, d1, d2, d3, hs1⟩ := (HE.out.kept HF.out).get hkL
        obtain ⟨pl, cl, rfl, _, _, hr⟩ := hs1
        have HB : Hid (body L (k + 1) = body L k + (L[k].lines.length + L[k].data.size + L[k].path.size + (L[k].lines.map (·.size)).sum)) := body_step hkL
        have hxl := HX.out _ (List.getElem_mem hkL)
        obtain ⟨x, hxe⟩ : ∃ x, L[k] = x := ⟨_, rfl⟩
        rw [hxe] at d0 d2 d3 hr HB hxl
        obtain ⟨P, K, l, D⟩ := x
        simp only at d0 d2 d3 hr HB hxl
        obtain ⟨nl, hnl⟩ : ∃ m, l.length = m := ⟨_, rfl⟩
        rw [hnl] at d2 HB hxl
        have HNL : Hid (l.length = nl) := hnl
        obtain ⟨sD, hsD⟩ : ∃ m, D.size = m := ⟨_, rfl⟩
        obtain ⟨sP, hsP⟩ : ∃ m, P.size = m := ⟨_, rfl⟩
        have i2 : (nl : Int) ≤ 140737488355328 := by omega
        have i3 : (0 : Int) ≤ (k : Int) := by omega
        have i4 : (k : Int) < (n : Int) := by omega
        have i5 : (N : Int) < 4000 := by omega
        obtain ⟨mD, hmD⟩ : ∃ m : Nat, min D.size 4000 = m := ⟨_, rfl⟩
        obtain ⟨mP, hmP⟩ : ∃ m : Nat, min P.size 4000 = m := ⟨_, rfl⟩
        have eD : (if (4000 : Int) < (D.size : Int) then (4000 : Int) else (D.size : Int)) = (mD : Int) := by split <;> omega
        have eD2 : min (D.size : Int) 4000 = (mD : Int) := by omega
        have eP : (if (4000 : Int) < (P.size : Int) then (4000 : Int) else (P.size : Int)) = (mP : Int) := by split <;> omega
        have eP2 : min (P.size : Int) 4000 = (mP : Int) := by omega
        have HM : Hid ((mD < 4000 → mD = D.size) ∧ (mP < 4000 → mP = P.size)) := ⟨by omega, by omega⟩
        have i6 : (mD : Int) ≤ 4000 := by omega
        have i7 : (mP : Int) ≤ 4000 := by omega
        have HRW : Hid (Lines.Row wr pl l) := hr
        have r1 : IntKind.i64.wrap ((N : Int) + (nl : Int)) = (N : Int) + (nl : Int) := by rw [IntKind.wrap_i64]; omega
        have r2 : IntKind.i64.wrap ((N : Int) + (nl : Int) + (mD : Int)) = (N : Int) + (nl : Int) + (mD : Int) := by rw [IntKind.wrap_i64]; omega
        have r3 : IntKind.i64.wrap ((N : Int) + (nl : Int) + (mD : Int) + (mP : Int)) = ((N + nl + mD + mP : Nat) : Int) := by rw [IntKind.wrap_i64]; omega
        obtain ⟨N1, hN1⟩ : ∃ N1, N + nl + mD + mP = N1 := ⟨_, rfl⟩
        rw [hN1] at r3
        have HN1 : Hid (N1 < 4000 → N1 = 5 * n + (body L k + (nl + D.size + P.size))) := fun hh => by
          have h1 := HN.out (by omega)
          have h2 := HM.out.1 (by omega)
          have h3 := HM.out.2 (by omega)
          omega
        have i8 : (N1 : Int) ≤ 281474976710656 := by omega
        clear hxe hnl hsD hsP hmD hmP hr hN1 HN hN hs
        go_wp2_with fail
        go_quiet (fail)
        go_wp2_with fail
        clear r1 r2 r3 eD eD2 eP eP2 i6 i7
        obtain ⟨wd, hwd⟩ : ∃ x, wr.drewN nq = x := ⟨_, rfl⟩
        have HW : Hid (Fr None' w wd) := by rw [← hwd]; exact HF.out.trans (Fr.drewN None' wr nq) (fun _ e => Or.inl e)
        have fd : Fr None' wr wd := by rw [← hwd]; exact Fr.drewN None' wr nq
        have HC : Hid (∀ w2, Fr None' wd w2 → w2.cell? ⟨g, o + k * 4 + 2, none⟩ = some (.slice pl nl cl) ∧ Lines.Row w2 pl l) := fun w2 f => ⟨(fd.trans f (fun _ e => Or.inl e)).keepCell d2 (fun e => e), HRW.out.fr (toLN (fd.trans f (fun _ e => Or.inl e)))⟩
        rw [hwd]
        clear hwd d0 d1 d2 d3 HF HRW fd
        go_loopw [3, 5] (fun vn vi w2 => ∃ q M : Nat, q ≤ nl ∧ vi = .int .i64 q ∧ vn = .int .i64 M ∧ (M : Int) ≤ 562949953421312 ∧ Hid (M < 4000 → M = 5 * n + (body L k + (nl + D.size + P.size)) + ((l.take q).map (·.size)).sum) ∧ Hid (Fr None' wd w2)) (fun _ vi _ => nl - (intOf vi).toNat)
        case atStart => exact ⟨0, N1, Nat.zero_le _, rfl, rfl, by omega, fun h => by have := HN1.out h; simpa using this, Fr.refl _ _⟩
        case round =>
          clear HN1
          obtain ⟨q, M, hq, rfl, rfl, hM, HMM, HF2⟩ := hrel
          obtain ⟨d2, hr⟩ := HC.out wr HF2.out
          by_cases hqt : q < nl
          · by_cases hs : M < 4000
            · have hql : q < l.length := by rw [HNL.out]; exact hqt
              obtain ⟨gl, ol, rfl, e1⟩ := hr.get hql
              have HZ : Hid (((l.take (q + 1)).map (·.size)).sum = ((l.take q).map (·.size)).sum + l[q].size) := sizes_step hql
              obtain ⟨s, hse⟩ : ∃ s, l[q] = s := ⟨_, rfl⟩
              rw [hse] at e1 HZ
              obtain ⟨mS, hmS⟩ : ∃ m : Nat, min s.size 4000 = m := ⟨_, rfl⟩
              have eS : (if (4000 : Int) < (s.size : Int) then (4000 : Int) else (s.size : Int)) = (mS : Int) := by split <;> omega
              have eS2 : min (s.size : Int) 4000 = (mS : Int) := by omega
              have HM2 : Hid (mS < 4000 → mS = s.size) := by show _ → _; omega
              have u1 : (mS : Int) ≤ 4000 := by omega
              have u2 : (M : Int) < 4000 := by omega
              have u3 : (q : Int) < (nl : Int) := by omega
              have u4 : (0 : Int) ≤ (q : Int) := by omega
              clear hse hmS hr hs hM
              go_wp2_with fail
              refine ⟨⟨q + 1, M + mS, by omega, by go_num, by go_num, by omega, fun hh => ?_, HF2.out⟩, by simp [intOf]; omega⟩
              have h1 := HMM.out (by omega)
              have h2 := HM2.out (by omega)
              rw [HZ.out]
              omega
            · have u2 : ¬ (M : Int) < 4000 := by omega
              have u3 : (q : Int) < (nl : Int) := by omega
              have HM4 : Hid (¬ M < 4000) := hs
              have HFW : Hid (Fr None' w wr) := HW.out.trans HF2.out (fun _ e => Or.inl e)
              clear hr hs
              go_wp2_with fail
              exact ⟨⟨k + 1, M, by omega, by go_num, rfl, by omega, fun h => absurd h HM4.out, HFW.out⟩, by simp [intOf]; omega⟩
          · have e : q = nl := by omega
            subst e
            have HFW : Hid (Fr None' w wr) := HW.out.trans HF2.out (fun _ e => Or.inl e)
            have HQ : Hid (M < 4000 → M = 5 * n + body L (k + 1)) := fun h => by
              have h1 := HMM.out h
              rw [List.take_of_length_le (by rw [HNL.out]; exact Nat.le_refl _)] at h1
              rw [HB.out]
              omega
            clear hr hqt
            go_wp2_with fail
            exact ⟨⟨k + 1, M, by omega, by go_num, rfl, by omega, HQ.out, HFW.out⟩, by simp [intOf]; omega⟩
      · have u2 : ¬ (N : Int) < 4000 := by omega
        have u3 : (4000 : Int) ≤ (N : Int) := by omega
        clear hs
        go_wp2_with fail
        go_ret
        exact ⟨true, rfl, fun h => (by cases h), HF.out⟩
    · have e : k = n := by omega
      subst e
      by_cases hs : N < 4000
      · have HQ : Hid (weight L < 4000) := by
          have h1 := HN.out hs
          have h2 := body_weight L
          rw [HL.out] at h2
          show _ < _
          omega
        have u3 : (N : Int) < 4000 := by omega
        clear hs hN
        go_wp2_with fail
        go_ret
        exact ⟨false, by first | rfl | exact ret_bool7 (by simp; omega), fun _ => HQ.out, HF.out⟩
      · have u3 : (4000 : Int) ≤ (N : Int) := by omega
        clear hs hN
        go_wp2_with fail
        go_ret
        exact ⟨true, by first | rfl | exact ret_bool7 (by simp; omega), fun h => (by cases h), HF.out⟩

end Go.Proofs.YtjpgpbfnmokmiabGreatDoor
