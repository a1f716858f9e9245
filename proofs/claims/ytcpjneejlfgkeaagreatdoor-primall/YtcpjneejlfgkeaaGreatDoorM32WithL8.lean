/-
  What is proved here: the contracts that the statement stands on: WithL8, Great7, Great9, RRightE. Conditions: as each theorem names them.
-/
import Derived.Test.YtcpjneejlfgkeaaGreatDoorM26With8
import Derived.Test.YtcpjneejlfgkeaaGreatDoorM31FConcat
import Derived.Test.YtcpjneejlfgkeaaGreatDoorM7Strs9
import Derived.Deep.RegionHeld3
import Derived.Test.YtcpjneejlfgkeaaGreatDoorM22RFindE
import Derived.Test.YtcpjneejlfgkeaaGreatDoorM13PRRest
import Derived.BigQuiet
namespace Go.Proofs.YtcpjneejlfgkeaaGreatDoor
open Go.RowKit
set_option maxRecDepth 100000

theorem ofD {w w' : World} (h : Diff.Fr Diff.None' w w') : Fr None' w w' := ⟨h.os, h.tape, h.output, h.size, fun k hk hm => h.block k hk (fun e => hm e)⟩

theorem hunk_apply (l o n : List ByteArray) (x : Int) : Diff.applyI l x o n = hunkL l x o n := by
  unfold Diff.applyI Diff.apply1 hunkL
  by_cases h : 0 ≤ x
  · rw [if_pos h]
    simp only [h, true_and]
  · rw [if_neg h, if_neg (fun e => h e.1)]

/-- What diff's Apply answers. -/
theorem dapply_any (l o n : List ByteArray) (x : Int) (ua : Option Addr) (um uc : Nat) (po pn : Option Addr) (no nn co cn : Nat) (w : World) (hl : StrsAt w (.slice ua um uc) l) (ho : StrsAt w (.slice po no co) o) (hn : StrsAt w (.slice pn nn cn) n) (l1 : l.length ≤ 40000000) (l2 : o.length ≤ 40000000) (l3 : n.length ≤ 40000000) (hx : -9223372036854775808 ≤ x ∧ x < 9223372036854775808) :
    Calls Tryz.prog 81 #[.slice ua um uc, .agg #[.int .i64 x, .slice po no co, .slice pn nn cn]] w fun e w' => ∃ (va : Option Addr) (m c : Nat) (b : Bool), e = .returned (.tuple #[.slice va m c, .bool b]) ∧ Hid (b = (hunkL l x o n).isSome) ∧ Hid (∀ l', hunkL l x o n = some l' → StrsAt w' (.slice va m c) l') ∧ Hid (∀ l', hunkL l x o n = some l' → ∀ k, (Value.slice va m c).ownBlock = some k → w.heap.size ≤ k) ∧ Fr None' w w' := by
  obtain ⟨va, c, e1, a1, a2, a3⟩ := hl
  obtain ⟨vb, c', e2, b1, b2, b3⟩ := ho
  obtain ⟨vc, c'', e3, d1, d2, d3⟩ := hn
  cases e1; cases e2; cases e3
  refine (Diff.apply_any ua po pn l.length uc o.length co n.length cn l o n x w rfl rfl rfl a3 b3 d3 a2 a1 b2 b1 d2 d1 l1 l2 l3 hx).mono ?_
  rintro e w' ⟨f, h⟩
  rw [hunk_apply] at h
  cases hr : hunkL l x o n with
  | none =>
    rw [hr] at h
    exact ⟨none, 0, 0, false, h, rfl, (fun l' e => by cases e), (fun l' e => by cases e), ofD f⟩
  | some l' =>
    rw [hr] at h
    obtain ⟨v, he, hO⟩ := h
    have hO : w'.ownsRow w.heap.size 9 1 v l'.length (l'.map Value.string) := by
      have := hO
      unfold Diff.OwnV at this
      rw [List.length_map] at this
      exact this
    have hs := own_strs hO
    have hge := fun k (e : v.ownBlock = some k) => own_ge hO e
    obtain ⟨va', c', rfl, q⟩ := hs
    exact ⟨va', l'.length, c', true, he, rfl, (fun l'' e => by cases e; exact ⟨va', c', rfl, q⟩), (fun l'' _ => hge), ofD f⟩

set_option maxHeartbeats 4000000 in
theorem withLines_any (x : En) (p : Pr) (ua : Option Addr) (um uc : Nat) (vo vn : Value) (w : World) (hx : StrsAt w (.slice ua um uc) x.lines) (ho : StrsAt w vo p.old) (hn : StrsAt w vn p.new) (hk : p.kind = 7) (l1 : x.lines.length ≤ 40000000) (l2 : p.old.length ≤ 40000000) (l3 : p.new.length ≤ 40000000) (hp : -9223372036854775808 ≤ p.pos ∧ p.pos < 9223372036854775808) :
    Calls Tryz.prog 60 #[.agg #[.string x.path, .int .i64 x.kind, .slice ua um uc, .string x.data], .agg #[.int .i64 p.kind, .string p.path, .string p.dst, .string p.src, .int .i64 p.pos, vo, vn]] w fun e w' => WithPost (withE x p) w e w' := by
  have HW := toHid8 (show withE x p = (hunkL x.lines p.pos p.old p.new).map (fun l => { x with lines := l }) from by unfold withE; rw [if_pos hk])
  rw [HW.out]
  obtain ⟨pa, ca, rfl, ho'⟩ := ho
  obtain ⟨pb, cb, rfl, hn'⟩ := hn
  have HA := toHid8 (fun w' (f : Fr None' w w') => dapply_any x.lines p.old p.new p.pos ua um uc pa pb p.old.length p.new.length ca cb w' (hx.kept f) (StrsAt.kept ⟨pa, ca, rfl, ho'⟩ f) (StrsAt.kept ⟨pb, cb, rfl, hn'⟩ f) l1 l2 l3 hp)
  clear HW hk hx ho' hn' l1 l2 l3 hp
  obtain ⟨P, K, l, D⟩ := x
  obtain ⟨K2, P2, T2, F2, A2, lO, lN⟩ := p
  simp only at HA ⊢
  generalize hunkL l A2 lO lN = R at HA ⊢
  generalize lO.length = no at HA ⊢
  generalize lN.length = nn at HA ⊢
  obtain ⟨w1, hw1⟩ : ∃ w1, w.alloc (.cells #[.string P, .int .i64 K, .slice ua um uc, .string D] 41) = w1 := ⟨_, rfl⟩
  obtain ⟨w2, hw2⟩ : ∃ w2, w1.alloc (.cells #[.int .i64 K2, .string P2, .string T2, .string F2, .int .i64 A2, .slice pa no ca, .slice pb nn cb] 25) = w2 := ⟨_, rfl⟩
  obtain ⟨w3, hw3⟩ : ∃ w3, w2.alloc (.cells #[.string ⟨#[]⟩, .int .i64 0, .slice none 0 0, .string ⟨#[]⟩] 41) = w3 := ⟨_, rfl⟩
  have F1 : Fr None' w w1 := hw1 ▸ Fr.alloc None' w _
  have F2' : Fr None' w1 w2 := hw2 ▸ Fr.alloc None' w1 _
  have F3 : Fr None' w2 w3 := hw3 ▸ Fr.alloc None' w2 _
  have s1 : w1.heap.size = w.heap.size + 1 := by rw [← hw1]; simp
  have s2 : w2.heap.size = w1.heap.size + 1 := by rw [← hw2]; simp
  have s3 : w3.heap.size = w2.heap.size + 1 := by rw [← hw3]; simp
  have BX : EBox w3 w.heap.size (.string P) (.int .i64 K) (.slice ua um uc) (.string D) := ((hw1 ▸ EBox.new w _ _ _ _ : EBox w1 _ _ _ _ _).kept F2').kept F3
  have BP : Box w3 w1.heap.size (.int .i64 K2) (.string P2) (.string T2) (.string F2) (.int .i64 A2) (.slice pa no ca) (.slice pb nn cb) := (hw2 ▸ Box.new w1 _ _ _ _ _ _ _ : Box w2 _ _ _ _ _ _ _ _).kept F3
  have BR : EBox w3 w2.heap.size (.string ⟨#[]⟩) (.int .i64 0) (.slice none 0 0) (.string ⟨#[]⟩) := hw3 ▸ EBox.new w2 _ _ _ _
  have HF := toHid8 ((F1.then7 F2').then7 F3)
  have HS := toHid8 (And.intro s1 (And.intro s2 s3))
  obtain ⟨x0, x1, x2, x3⟩ := BX.cells
  obtain ⟨p0, p1, p2, p3, p4, p5, p6⟩ := BP.cells
  have HBX := toHid8 BX
  have HBR := toHid8 BR
  have cA := HA.out w3 HF.out
  clear BX BP BR F1 F2' F3 s1 s2 s3 HA
  go_enter Tryz.func60, Tryz.ntmps60
  go_wp2_with fail
  with_reducible refine cA.mono ?_
  rintro e w4 ⟨va, m, c, b, rfl, Hb, HL, HZ, f4⟩
  clear cA x0 x1 x2 x3 p0 p1 p2 p3 p4 p5 p6
  have BX4 := HBX.out.kept f4
  have BR4 := HBR.out.kept f4
  obtain ⟨x0, x1, x2, x3⟩ := BX4.cells
  have xz := BX4.frozen
  obtain ⟨w5, hw5⟩ : ∃ w5, w4.setCell ⟨w.heap.size, 2, none⟩ (.slice va m c) = w5 := ⟨_, rfl⟩
  have F5 : Fr (fun k => k = w.heap.size) w4 w5 := hw5 ▸ Fr.setCell (M := fun k => k = w.heap.size) (a := ⟨w.heap.size, 2, none⟩) w4 rfl _
  have BX5 : EBox w5 w.heap.size (.string P) (.int .i64 K) (.slice va m c) (.string D) := hw5 ▸ BX4.set2 _
  have BR5 : EBox w5 w2.heap.size (.string ⟨#[]⟩) (.int .i64 0) (.slice none 0 0) (.string ⟨#[]⟩) := BR4.fr F5 (fun e => by have e : w2.heap.size = w.heap.size := e; have := HS.out; omega)
  obtain ⟨e0, e1, e2, e3⟩ := BX5.cells
  obtain ⟨r0, r1, r2, r3⟩ := BR5.cells
  have rz := BR5.frozen
  have HBR5 := toHid8 BR5
  have HF5 := toHid8 ((HF.out.then7 f4).trans F5 (fun i e => Or.inr (by have e : i = w.heap.size := e; omega)))
  have HN := toHid8 (show ∀ l', R = some l' → ∀ W, Fr (fun k => k = w2.heap.size) w5 W → StrsAt W (.slice va m c) l' from fun l' e W f => by
    have h4 := HL.out l' e
    have hz := HZ.out l' e
    refine (h4.far F5 (fun hl k ek ek' => ?_)).far f (fun hl k ek ek' => ?_)
    · have := hz k ek; have e' : k = w.heap.size := ek'; have := HS.out; omega
    · have := hz k ek; have e' : k = w2.heap.size := ek'; have := HS.out; omega)
  clear BX4 BR4 BX5 BR5 F5 HL f4 HBX HBR
  go_wp2_with fail
  obtain ⟨hld, hfs, hfr⟩ := fin_entry HF5.out HBR5.out (by have := HS.out; omega) (.string P) (.int .i64 K) (.slice va m c) (.string D)
  refine bodyPost_ret (v := .tuple #[.agg #[.string P, .int .i64 K, .slice va m c, .string D], .bool b]) (by rw [results_cell_tmp rfl]; simp [asAddr, Result.andThen, hld]) rfl ?_
  refine ⟨P, K, va, m, c, D, b, rfl, ?_, fun y hy => ?_, hfr⟩
  · show b = _
    rw [Hb.out]
    cases R <;> rfl
  · obtain ⟨l', e, rfl⟩ := Option.map_eq_some_iff.1 hy
    exact ⟨rfl, rfl, rfl, HN.out l' e _ hfs⟩

end Go.Proofs.YtcpjneejlfgkeaaGreatDoor

namespace Go.Proofs.YtcpjneejlfgkeaaGreatDoor
open Go.RowKit
set_option maxRecDepth 100000

/-- What k things are, but for their five. -/
def body (L : List En) (k : Nat) : Nat := ((L.take k).map (fun x => x.lines.length + x.data.size + x.path.size + (x.lines.map (·.size)).sum)).sum

theorem body_step {L : List En} {k : Nat} (hk : k < L.length) : body L (k + 1) = body L k + (L[k].lines.length + L[k].data.size + L[k].path.size + (L[k].lines.map (·.size)).sum) := by
  unfold body
  rw [List.take_succ_eq_append_getElem hk, List.map_append, List.sum_append]
  simp

theorem body_weight (L : List En) : 5 * L.length + body L L.length = weight L := by
  unfold body weight
  rw [List.take_length]
  induction L with
  | nil => rfl
  | cons x L ih =>
    simp only [List.map_cons, List.sum_cons, List.length_cons] at ih ⊢
    simp only [En.weight] at ih ⊢
    omega

def GreatPost (L : List En) (w : World) (e : Ending) (w' : World) : Prop := ∃ g, e = .returned (.bool g) ∧ (g = false → weight L < 4000) ∧ Fr None' w w'

set_option maxHeartbeats 4000000 in
theorem great_any (va : Option Addr) (n c : Nat) (L : List En) (w : World) (hl : L.length = n) (h : EntsAt w va L) (hn : n ≤ 140737488355328) (hx : ∀ x ∈ L, x.lines.length ≤ 140737488355328) :
    Calls Tryz.prog 10 #[.slice va n c] w fun e w' => GreatPost L w e w' := by
  have HL : Hid (L.length = n) := hl
  have HX : Hid (∀ x ∈ L, x.lines.length ≤ 140737488355328) := hx
  have i1 : (n : Int) ≤ 140737488355328 := by omega
  have HE : Hid (EntsAt w va L) := h
  clear hl hn h hx
  go_enter Tryz.func10, Tryz.ntmps10
  go_wp2_with fail
  go_loopw [3, 4] (fun vn vi wr => ∃ k N : Nat, k ≤ n ∧ vi = .int .i64 k ∧ vn = .int .i64 N ∧ (N : Int) ≤ 1125899906842624 ∧ Hid (N < 4000 → N = 5 * n + body L k) ∧ Hid (Fr None' w wr)) (fun _ vi _ => n - (intOf vi).toNat)
  case atStart => exact ⟨0, 5 * n, Nat.zero_le _, rfl, by go_num, by omega, fun _ => rfl, Fr.refl _ _⟩
  case round =>
    obtain ⟨k, N, hk, rfl, rfl, hN, HN, HF⟩ := hrel
    by_cases hlt : k < n
    · by_cases hs : N < 4000
      · have hkL : k < L.length := by rw [HL.out]; exact hlt
        obtain ⟨g, o, rfl, vl, d0, d1, d2, d3, hs1⟩ := (HE.out.kept HF.out).get hkL
        obtain ⟨pl, cl, rfl, _, _, hr⟩ := hs1
        have HB : Hid (body L (k + 1) = body L k + (L[k].lines.length + L[k].data.size + L[k].path.size + (L[k].lines.map (·.size)).sum)) := body_step hkL
        have hxl := HX.out _ (List.getElem_mem hkL)
        obtain ⟨x, hxe⟩ : ∃ x, L[k] = x := ⟨_, rfl⟩
        rw [hxe] at d0 d2 d3 hr HB hxl
        obtain ⟨P, K, l, D⟩ := x
        simp only at d0 d2 d3 hr HB hxl
        obtain ⟨nl, hnl⟩ : ∃ m, l.length = m := ⟨_, rfl⟩
        rw [hnl] at d2 HB hxl
        have HNL : Hid (l.length = nl) := hnl
        obtain ⟨sD, hsD⟩ : ∃ m, D.size = m := ⟨_, rfl⟩
        obtain ⟨sP, hsP⟩ : ∃ m, P.size = m := ⟨_, rfl⟩
        have i2 : (nl : Int) ≤ 140737488355328 := by omega
        have i3 : (0 : Int) ≤ (k : Int) := by omega
        have i4 : (k : Int) < (n : Int) := by omega
        have i5 : (N : Int) < 4000 := by omega
        obtain ⟨mD, hmD⟩ : ∃ m : Nat, min D.size 4000 = m := ⟨_, rfl⟩
        obtain ⟨mP, hmP⟩ : ∃ m : Nat, min P.size 4000 = m := ⟨_, rfl⟩
        have eD : (if (4000 : Int) < (D.size : Int) then (4000 : Int) else (D.size : Int)) = (mD : Int) := by split <;> omega
        have eD2 : min (D.size : Int) 4000 = (mD : Int) := by omega
        have eP : (if (4000 : Int) < (P.size : Int) then (4000 : Int) else (P.size : Int)) = (mP : Int) := by split <;> omega
        have eP2 : min (P.size : Int) 4000 = (mP : Int) := by omega
        have HM : Hid ((mD < 4000 → mD = D.size) ∧ (mP < 4000 → mP = P.size)) := ⟨by omega, by omega⟩
        have i6 : (mD : Int) ≤ 4000 := by omega
        have i7 : (mP : Int) ≤ 4000 := by omega
        have HRW : Hid (Lines.Row wr pl l) := hr
        have r1 : IntKind.i64.wrap ((N : Int) + (nl : Int)) = (N : Int) + (nl : Int) := by rw [IntKind.wrap_i64]; omega
        have r2 : IntKind.i64.wrap ((N : Int) + (nl : Int) + (mD : Int)) = (N : Int) + (nl : Int) + (mD : Int) := by rw [IntKind.wrap_i64]; omega
        have r3 : IntKind.i64.wrap ((N : Int) + (nl : Int) + (mD : Int) + (mP : Int)) = ((N + nl + mD + mP : Nat) : Int) := by rw [IntKind.wrap_i64]; omega
        obtain ⟨N1, hN1⟩ : ∃ N1, N + nl + mD + mP = N1 := ⟨_, rfl⟩
        rw [hN1] at r3
        have HN1 : Hid (N1 < 4000 → N1 = 5 * n + (body L k + (nl + D.size + P.size))) := fun hh => by
          have h1 := HN.out (by omega)
          have h2 := HM.out.1 (by omega)
          have h3 := HM.out.2 (by omega)
          omega
        have i8 : (N1 : Int) ≤ 281474976710656 := by omega
        clear hxe hnl hsD hsP hmD hmP hr hN1 HN hN hs
        go_wp2_with fail
        go_quiet (fail)
        go_wp2_with fail
        clear r1 r2 r3 eD eD2 eP eP2 i6 i7
        obtain ⟨wd, hwd⟩ : ∃ x, wr.drewN nq = x := ⟨_, rfl⟩
        have HW : Hid (Fr None' w wd) := by rw [← hwd]; exact HF.out.trans (Fr.drewN None' wr nq) (fun _ e => Or.inl e)
        have fd : Fr None' wr wd := by rw [← hwd]; exact Fr.drewN None' wr nq
        have HC : Hid (∀ w2, Fr None' wd w2 → w2.cell? ⟨g, o + k * 4 + 2, none⟩ = some (.slice pl nl cl) ∧ Lines.Row w2 pl l) := fun w2 f => ⟨(fd.trans f (fun _ e => Or.inl e)).keepCell d2 (fun e => e), HRW.out.fr (toLN (fd.trans f (fun _ e => Or.inl e)))⟩
        rw [hwd]
        clear hwd d0 d1 d2 d3 HF HRW fd
        go_loopw [3, 5] (fun vn vi w2 => ∃ q M : Nat, q ≤ nl ∧ vi = .int .i64 q ∧ vn = .int .i64 M ∧ (M : Int) ≤ 562949953421312 ∧ Hid (M < 4000 → M = 5 * n + (body L k + (nl + D.size + P.size)) + ((l.take q).map (·.size)).sum) ∧ Hid (Fr None' wd w2)) (fun _ vi _ => nl - (intOf vi).toNat)
        case atStart => exact ⟨0, N1, Nat.zero_le _, rfl, rfl, by omega, fun h => by have := HN1.out h; simpa using this, Fr.refl _ _⟩
        case round =>
          clear HN1
          obtain ⟨q, M, hq, rfl, rfl, hM, HMM, HF2⟩ := hrel
          obtain ⟨d2, hr⟩ := HC.out wr HF2.out
          by_cases hqt : q < nl
          · by_cases hs : M < 4000
            · have hql : q < l.length := by rw [HNL.out]; exact hqt
              obtain ⟨gl, ol, rfl, e1⟩ := hr.get hql
              have HZ : Hid (((l.take (q + 1)).map (·.size)).sum = ((l.take q).map (·.size)).sum + l[q].size) := sizes_step hql
              obtain ⟨s, hse⟩ : ∃ s, l[q] = s := ⟨_, rfl⟩
              rw [hse] at e1 HZ
              obtain ⟨mS, hmS⟩ : ∃ m : Nat, min s.size 4000 = m := ⟨_, rfl⟩
              have eS : (if (4000 : Int) < (s.size : Int) then (4000 : Int) else (s.size : Int)) = (mS : Int) := by split <;> omega
              have eS2 : min (s.size : Int) 4000 = (mS : Int) := by omega
              have HM2 : Hid (mS < 4000 → mS = s.size) := by show _ → _; omega
              have u1 : (mS : Int) ≤ 4000 := by omega
              have u2 : (M : Int) < 4000 := by omega
              have u3 : (q : Int) < (nl : Int) := by omega
              have u4 : (0 : Int) ≤ (q : Int) := by omega
              clear hse hmS hr hs hM
              go_wp2_with fail
              refine ⟨⟨q + 1, M + mS, by omega, by go_num, by go_num, by omega, fun hh => ?_, HF2.out⟩, by simp [intOf]; omega⟩
              have h1 := HMM.out (by omega)
              have h2 := HM2.out (by omega)
              rw [HZ.out]
              omega
            · have u2 : ¬ (M : Int) < 4000 := by omega
              have u3 : (q : Int) < (nl : Int) := by omega
              have HM4 : Hid (¬ M < 4000) := hs
              have HFW : Hid (Fr None' w wr) := HW.out.trans HF2.out (fun _ e => Or.inl e)
              clear hr hs
              go_wp2_with fail
              exact ⟨⟨k + 1, M, by omega, by go_num, rfl, by omega, fun h => absurd h HM4.out, HFW.out⟩, by simp [intOf]; omega⟩
          · have e : q = nl := by omega
            subst e
            have HFW : Hid (Fr None' w wr) := HW.out.trans HF2.out (fun _ e => Or.inl e)
            have HQ : Hid (M < 4000 → M = 5 * n + body L (k + 1)) := fun h => by
              have h1 := HMM.out h
              rw [List.take_of_length_le (by rw [HNL.out]; exact Nat.le_refl _)] at h1
              rw [HB.out]
              omega
            clear hr hqt
            go_wp2_with fail
            exact ⟨⟨k + 1, M, by omega, by go_num, rfl, by omega, HQ.out, HFW.out⟩, by simp [intOf]; omega⟩
      · have u2 : ¬ (N : Int) < 4000 := by omega
        have u3 : (4000 : Int) ≤ (N : Int) := by omega
        clear hs
        go_wp2_with fail
        go_ret
        exact ⟨true, rfl, fun h => (by cases h), HF.out⟩
    · have e : k = n := by omega
      subst e
      by_cases hs : N < 4000
      · have HQ : Hid (weight L < 4000) := by
          have h1 := HN.out hs
          have h2 := body_weight L
          rw [HL.out] at h2
          show _ < _
          omega
        have u3 : (N : Int) < 4000 := by omega
        clear hs hN
        go_wp2_with fail
        go_ret
        exact ⟨false, by first | rfl | exact ret_bool7 (by simp; omega), fun _ => HQ.out, HF.out⟩
      · have u3 : (4000 : Int) ≤ (N : Int) := by omega
        clear hs hN
        go_wp2_with fail
        go_ret
        exact ⟨true, by first | rfl | exact ret_bool7 (by simp; omega), fun h => (by cases h), HF.out⟩

end Go.Proofs.YtcpjneejlfgkeaaGreatDoor

namespace Go.Proofs.YtcpjneejlfgkeaaGreatDoor
open Go.RowKit
set_option maxRecDepth 100000

def GreatP (x : Pr) (w : World) (e : Ending) (w' : World) : Prop := ∃ g, e = .returned (.bool g) ∧ (g = false → x.weight < 4000) ∧ Fr None' w w'

set_option maxHeartbeats 4000000 in
theorem pgreat_any (x : Pr) (vo vn : Value) (w : World) (ho : StrsAt w vo x.old) (hn : StrsAt w vn x.new) (lo : x.old.length ≤ 140737488355328) (ln : x.new.length ≤ 140737488355328) :
    Calls Tryz.prog 11 #[.agg #[.int .i64 x.kind, .string x.path, .string x.dst, .string x.src, .int .i64 x.pos, vo, vn]] w fun e w' => GreatP x w e w' := by
  obtain ⟨K, P, T, F, A, lO, lN⟩ := x
  simp only at ho hn lo ln ⊢
  obtain ⟨pa, ca, rfl, _, _, r1⟩ := ho
  obtain ⟨pb, cb, rfl, _, _, r2⟩ := hn
  obtain ⟨no, hno⟩ : ∃ n, lO.length = n := ⟨_, rfl⟩
  obtain ⟨nn, hnn⟩ : ∃ n, lN.length = n := ⟨_, rfl⟩
  rw [hno] at lo
  rw [hnn] at ln
  rw [hno, hnn]
  have HL : Hid (lO.length = no ∧ lN.length = nn) := ⟨hno, hnn⟩
  have HR1 : Hid (Lines.Row w pa lO) := r1
  have HR2 : Hid (Lines.Row w pb lN) := r2
  obtain ⟨w1, hw1⟩ : ∃ w1, w.alloc (.cells #[.int .i64 K, .string P, .string T, .string F, .int .i64 A, .slice pa no ca, .slice pb nn cb] 25) = w1 := ⟨_, rfl⟩
  have F1 : Fr None' w w1 := hw1 ▸ Fr.alloc None' w _
  have B1 : Box w1 w.heap.size (.int .i64 K) (.string P) (.string T) (.string F) (.int .i64 A) (.slice pa no ca) (.slice pb nn cb) := hw1 ▸ Box.new w _ _ _ _ _ _ _
  obtain ⟨a0, a1, a2, a3, a4, a5, a6⟩ := B1.cells
  have HB : Hid (Box w1 w.heap.size (.int .i64 K) (.string P) (.string T) (.string F) (.int .i64 A) (.slice pa no ca) (.slice pb nn cb)) := B1
  have HF : Hid (Fr None' w w1) := F1
  obtain ⟨mP, hmP⟩ : ∃ m : Nat, min P.size 4000 = m := ⟨_, rfl⟩
  obtain ⟨mT, hmT⟩ : ∃ m : Nat, min T.size 4000 = m := ⟨_, rfl⟩
  obtain ⟨mF, hmF⟩ : ∃ m : Nat, min F.size 4000 = m := ⟨_, rfl⟩
  have eP : (if (4000 : Int) < (P.size : Int) then (4000 : Int) else (P.size : Int)) = (mP : Int) := by split <;> omega
  have eP2 : min (P.size : Int) 4000 = (mP : Int) := by omega
  have eT : (if (4000 : Int) < (T.size : Int) then (4000 : Int) else (T.size : Int)) = (mT : Int) := by split <;> omega
  have eT2 : min (T.size : Int) 4000 = (mT : Int) := by omega
  have eF : (if (4000 : Int) < (F.size : Int) then (4000 : Int) else (F.size : Int)) = (mF : Int) := by split <;> omega
  have eF2 : min (F.size : Int) 4000 = (mF : Int) := by omega
  have HM : Hid ((mP < 4000 → mP = P.size) ∧ (mT < 4000 → mT = T.size) ∧ (mF < 4000 → mF = F.size)) := ⟨by omega, by omega, by omega⟩
  have i1 : (mP : Int) ≤ 4000 := by omega
  have i2 : (mT : Int) ≤ 4000 := by omega
  have i3 : (mF : Int) ≤ 4000 := by omega
  have i4 : (no : Int) ≤ 140737488355328 := by omega
  have i5 : (nn : Int) ≤ 140737488355328 := by omega
  have u1 : IntKind.i64.wrap ((mP : Int) + (mT : Int)) = (mP : Int) + (mT : Int) := by rw [IntKind.wrap_i64]; omega
  have u2 : IntKind.i64.wrap ((mP : Int) + (mT : Int) + (mF : Int)) = (mP : Int) + (mT : Int) + (mF : Int) := by rw [IntKind.wrap_i64]; omega
  have u3 : IntKind.i64.wrap ((mP : Int) + (mT : Int) + (mF : Int) + (no : Int)) = (mP : Int) + (mT : Int) + (mF : Int) + (no : Int) := by rw [IntKind.wrap_i64]; omega
  have u4 : IntKind.i64.wrap ((mP : Int) + (mT : Int) + (mF : Int) + (no : Int) + (nn : Int)) = ((mP + mT + mF + no + nn : Nat) : Int) := by rw [IntKind.wrap_i64]; omega
  obtain ⟨N0, hN0⟩ : ∃ N0, mP + mT + mF + no + nn = N0 := ⟨_, rfl⟩
  rw [hN0] at u4
  have i6 : (N0 : Int) ≤ 281474976730000 := by omega
  have HN0 : Hid (N0 < 4000 → N0 = P.size + T.size + F.size + no + nn) := fun h => by
    have h1 := HM.out.1 (by omega)
    have h2 := HM.out.2.1 (by omega)
    have h3 := HM.out.2.2 (by omega)
    omega
  clear hno hnn lo ln r1 r2 F1 B1 hmP hmT hmF hN0
  go_enter Tryz.func11, Tryz.ntmps11
  go_wp2_with fail
  have HK : Hid (∀ w2, Fr None' w1 w2 → w2.cell? ⟨w.heap.size, 5, none⟩ = some (.slice pa no ca) ∧ w2.cell? ⟨w.heap.size, 6, none⟩ = some (.slice pb nn cb) ∧ Lines.Row w2 pa lO ∧ Lines.Row w2 pb lN) := fun w2 f => ⟨f.keepCell a5 (fun e => e), f.keepCell a6 (fun e => e), HR1.out.fr (toLN (HF.out.then7 f)), HR2.out.fr (toLN (HF.out.then7 f))⟩
  clear u1 u2 u3 u4 eP eP2 eT eT2 eF eF2 i1 i2 i3 a0 a1 a2 a3 a4 a5 a6 HR1 HR2 hw1 HB HM
  go_loopw [3, 4] (fun vn vi w2 => ∃ q M : Nat, q ≤ no ∧ vi = .int .i64 q ∧ vn = .int .i64 M ∧ (M : Int) ≤ 281474976740000 ∧ Hid (M < 4000 → M = P.size + T.size + F.size + no + nn + ((lO.take q).map (·.size)).sum) ∧ Hid (Fr None' w1 w2)) (fun _ vi _ => no - (intOf vi).toNat)
  case atStart => exact ⟨0, N0, Nat.zero_le _, rfl, rfl, by omega, fun h => by have := HN0.out h; simpa using this, Fr.refl _ _⟩
  case round =>
    obtain ⟨q, M, hq, rfl, rfl, hM, HMM, HF2⟩ := hrel
    obtain ⟨d5, d6, hr, _⟩ := HK.out wr HF2.out
    by_cases hqt : q < no
    · by_cases hs : M < 4000
      · have hql : q < lO.length := by rw [HL.out.1]; exact hqt
        obtain ⟨gl, ol, rfl, e1⟩ := hr.get hql
        have HZ : Hid (((lO.take (q + 1)).map (·.size)).sum = ((lO.take q).map (·.size)).sum + lO[q].size) := sizes_step hql
        obtain ⟨s, hse⟩ : ∃ s, lO[q] = s := ⟨_, rfl⟩
        rw [hse] at e1 HZ
        obtain ⟨mS, hmS⟩ : ∃ m : Nat, min s.size 4000 = m := ⟨_, rfl⟩
        have eS : (if (4000 : Int) < (s.size : Int) then (4000 : Int) else (s.size : Int)) = (mS : Int) := by split <;> omega
        have eS2 : min (s.size : Int) 4000 = (mS : Int) := by omega
        have HM2 : Hid (mS < 4000 → mS = s.size) := by show _ → _; omega
        have u1 : (mS : Int) ≤ 4000 := by omega
        have u2 : (M : Int) < 4000 := by omega
        have u3 : (q : Int) < (no : Int) := by omega
        have u4 : (0 : Int) ≤ (q : Int) := by omega
        clear hse hmS hr hs hM
        go_wp2_with fail
        refine ⟨⟨q + 1, M + mS, by omega, by go_num, by go_num, by omega, fun hh => ?_, HF2.out⟩, by simp [intOf]; omega⟩
        have h1 := HMM.out (by omega)
        have h2 := HM2.out (by omega)
        rw [HZ.out]
        omega
      · have u2 : ¬ (M : Int) < 4000 := by omega
        have u3 : (q : Int) < (no : Int) := by omega
        have u5 : (4000 : Int) ≤ (M : Int) := by omega
        have HFW : Hid (Fr None' w1 wr) := HF2.out
        have HQ : Hid (M < 4000 → M = P.size + T.size + F.size + no + nn + (lO.map (·.size)).sum) := fun h => absurd h hs
        clear hr hs HMM HN0
        go_wp2_with fail
        clear d5 d6 u2 u3 u5 hqt
        go_loopw [3, 5] (fun vn vi w2 => ∃ j R : Nat, j ≤ nn ∧ vi = .int .i64 j ∧ vn = .int .i64 R ∧ (R : Int) ≤ 281474976750000 ∧ Hid (R < 4000 → R = P.size + T.size + F.size + no + nn + (lO.map (·.size)).sum + ((lN.take j).map (·.size)).sum) ∧ Hid (Fr None' w1 w2)) (fun _ vi _ => nn - (intOf vi).toNat)
        case atStart => exact ⟨0, M, Nat.zero_le _, rfl, rfl, by omega, fun h => by have := HQ.out h; simpa using this, HFW.out⟩
        case round =>
          clear HQ
          obtain ⟨j, R, hj, rfl, rfl, hR, HRR, HF3⟩ := hrel
          obtain ⟨_, d6, _, hr⟩ := HK.out wr HF3.out
          by_cases hjt : j < nn
          · by_cases hs : R < 4000
            · have hql : j < lN.length := by rw [HL.out.2]; exact hjt
              obtain ⟨gl, ol, rfl, e1⟩ := hr.get hql
              have HZ : Hid (((lN.take (j + 1)).map (·.size)).sum = ((lN.take j).map (·.size)).sum + lN[j].size) := sizes_step hql
              obtain ⟨s, hse⟩ : ∃ s, lN[j] = s := ⟨_, rfl⟩
              rw [hse] at e1 HZ
              obtain ⟨mS, hmS⟩ : ∃ m : Nat, min s.size 4000 = m := ⟨_, rfl⟩
              have eS : (if (4000 : Int) < (s.size : Int) then (4000 : Int) else (s.size : Int)) = (mS : Int) := by split <;> omega
              have eS2 : min (s.size : Int) 4000 = (mS : Int) := by omega
              have HM2 : Hid (mS < 4000 → mS = s.size) := by show _ → _; omega
              have u1 : (mS : Int) ≤ 4000 := by omega
              have u2 : (R : Int) < 4000 := by omega
              have u3 : (j : Int) < (nn : Int) := by omega
              have u4 : (0 : Int) ≤ (j : Int) := by omega
              clear hse hmS hr hs hR
              go_wp2_with fail
              refine ⟨⟨j + 1, R + mS, by omega, by go_num, by go_num, by omega, fun hh => ?_, HF3.out⟩, by simp [intOf]; omega⟩
              have h1 := HRR.out (by omega)
              have h2 := HM2.out (by omega)
              rw [HZ.out]
              omega
            · have u2 : ¬ (R : Int) < 4000 := by omega
              have u3 : (j : Int) < (nn : Int) := by omega
              have u5 : (4000 : Int) ≤ (R : Int) := by omega
              have HFX : Hid (Fr None' w wr) := HF.out.then7 HF3.out
              clear hr hs HRR
              go_wp2_with fail
              go_ret
              exact ⟨true, by first | rfl | exact ret_bool7 (by simp; omega), fun h => (by cases h), HFX.out⟩
          · have e : j = nn := by omega
            subst e
            have HFX : Hid (Fr None' w wr) := HF.out.then7 HF3.out
            by_cases hs : R < 4000
            · have HW : Hid (Pr.weight ⟨K, P, T, F, A, lO, lN⟩ < 4000) := by
                have h1 := HRR.out hs
                rw [List.take_of_length_le (by rw [HL.out.2]; exact Nat.le_refl _)] at h1
                have h2 := HL.out
                show _ < _
                unfold Pr.weight
                simp only
                omega
              have u3 : (R : Int) < 4000 := by omega
              clear hr hs hR HRR
              go_wp2_with fail
              go_ret
              exact ⟨false, by first | rfl | exact ret_bool7 (by simp; omega), fun _ => HW.out, HFX.out⟩
            · have u3 : (4000 : Int) ≤ (R : Int) := by omega
              clear hr hs hR HRR
              go_wp2_with fail
              go_ret
              exact ⟨true, by first | rfl | exact ret_bool7 (by simp; omega), fun h => (by cases h), HFX.out⟩
    · have e : q = no := by omega
      subst e
      have HQ : Hid (M < 4000 → M = P.size + T.size + F.size + q + nn + (lO.map (·.size)).sum) := fun h => by
        have h1 := HMM.out h
        rw [List.take_of_length_le (by rw [HL.out.1]; exact Nat.le_refl _)] at h1
        exact h1
      have HFW : Hid (Fr None' w1 wr) := HF2.out
      clear hr hqt HMM HN0
      go_wp2_with fail
      clear d5 d6
      go_loopw [3, 5] (fun vn vi w2 => ∃ j R : Nat, j ≤ nn ∧ vi = .int .i64 j ∧ vn = .int .i64 R ∧ (R : Int) ≤ 281474976750000 ∧ Hid (R < 4000 → R = P.size + T.size + F.size + q + nn + (lO.map (·.size)).sum + ((lN.take j).map (·.size)).sum) ∧ Hid (Fr None' w1 w2)) (fun _ vi _ => nn - (intOf vi).toNat)
      case atStart => exact ⟨0, M, Nat.zero_le _, rfl, rfl, by omega, fun h => by have := HQ.out h; simpa using this, HFW.out⟩
      case round =>
        clear HQ
        obtain ⟨j, R, hj, rfl, rfl, hR, HRR, HF3⟩ := hrel
        obtain ⟨_, d6, _, hr⟩ := HK.out wr HF3.out
        by_cases hjt : j < nn
        · by_cases hs : R < 4000
          · have hql : j < lN.length := by rw [HL.out.2]; exact hjt
            obtain ⟨gl, ol, rfl, e1⟩ := hr.get hql
            have HZ : Hid (((lN.take (j + 1)).map (·.size)).sum = ((lN.take j).map (·.size)).sum + lN[j].size) := sizes_step hql
            obtain ⟨s, hse⟩ : ∃ s, lN[j] = s := ⟨_, rfl⟩
            rw [hse] at e1 HZ
            obtain ⟨mS, hmS⟩ : ∃ m : Nat, min s.size 4000 = m := ⟨_, rfl⟩
            have eS : (if (4000 : Int) < (s.size : Int) then (4000 : Int) else (s.size : Int)) = (mS : Int) := by split <;> omega
            have eS2 : min (s.size : Int) 4000 = (mS : Int) := by omega
            have HM2 : Hid (mS < 4000 → mS = s.size) := by show _ → _; omega
            have u1 : (mS : Int) ≤ 4000 := by omega
            have u2 : (R : Int) < 4000 := by omega
            have u3 : (j : Int) < (nn : Int) := by omega
            have u4 : (0 : Int) ≤ (j : Int) := by omega
            clear hse hmS hr hs hR
            go_wp2_with fail
            refine ⟨⟨j + 1, R + mS, by omega, by go_num, by go_num, by omega, fun hh => ?_, HF3.out⟩, by simp [intOf]; omega⟩
            have h1 := HRR.out (by omega)
            have h2 := HM2.out (by omega)
            rw [HZ.out]
            omega
          · have u2 : ¬ (R : Int) < 4000 := by omega
            have u3 : (j : Int) < (nn : Int) := by omega
            have u5 : (4000 : Int) ≤ (R : Int) := by omega
            have HFX : Hid (Fr None' w wr) := HF.out.then7 HF3.out
            clear hr hs HRR
            go_wp2_with fail
            go_ret
            exact ⟨true, by first | rfl | exact ret_bool7 (by simp; omega), fun h => (by cases h), HFX.out⟩
        · have e : j = nn := by omega
          subst e
          have HFX : Hid (Fr None' w wr) := HF.out.then7 HF3.out
          by_cases hs : R < 4000
          · have HW : Hid (Pr.weight ⟨K, P, T, F, A, lO, lN⟩ < 4000) := by
              have h1 := HRR.out hs
              rw [List.take_of_length_le (by rw [HL.out.2]; exact Nat.le_refl _)] at h1
              have h2 := HL.out
              show _ < _
              unfold Pr.weight
              simp only
              omega
            have u3 : (R : Int) < 4000 := by omega
            clear hr hs hR HRR
            go_wp2_with fail
            go_ret
            exact ⟨false, by first | rfl | exact ret_bool7 (by simp; omega), fun _ => HW.out, HFX.out⟩
          · have u3 : (4000 : Int) ≤ (R : Int) := by omega
            clear hr hs hR HRR
            go_wp2_with fail
            go_ret
            exact ⟨true, by first | rfl | exact ret_bool7 (by simp; omega), fun h => (by cases h), HFX.out⟩

def GreatPs (L : List Pr) (n : Nat) (w : World) (e : Ending) (w' : World) : Prop := ∃ g, e = .returned (.bool g) ∧ (g = false → n ≤ 60 ∧ ∀ x ∈ L, x.weight < 4000) ∧ Fr None' w w'

set_option maxHeartbeats 4000000 in
theorem pgreats_any (va : Option Addr) (n c : Nat) (L : List Pr) (w : World) (hl : L.length = n) (ha : PrsAt w va L) (hs : ∀ x ∈ L, x.old.length ≤ 140737488355328 ∧ x.new.length ≤ 140737488355328) :
    Calls Tryz.prog 17 #[.slice va n c] w fun e w' => GreatPs L n w e w' := by
  have HL : Hid (L.length = n) := hl
  have HA : Hid (PrsAt w va L) := ha
  have HS : Hid (∀ x ∈ L, x.old.length ≤ 140737488355328 ∧ x.new.length ≤ 140737488355328) := hs
  clear hl ha hs
  by_cases h60 : 60 < n
  · have i0 : (60 : Int) < (n : Int) := by omega
    go_enter Tryz.func17, Tryz.ntmps17
    go_wp2_with fail
    go_ret
    exact ⟨true, rfl, fun h => (by cases h), Fr.refl _ _⟩
  have i1 : (n : Int) ≤ 60 := by omega
  clear h60
  go_enter Tryz.func17, Tryz.ntmps17
  go_wp2_with fail
  go_loopw [3] (fun vi wr => ∃ k : Nat, k ≤ n ∧ vi = .int .i64 k ∧ Hid (∀ x ∈ L.take k, x.weight < 4000) ∧ Hid (Fr None' w wr)) (fun vi _ => n - (intOf vi).toNat)
  case atStart => exact ⟨0, Nat.zero_le _, rfl, (fun x hx => by simp at hx), Fr.refl _ _⟩
  case round =>
    obtain ⟨k, hk, rfl, HW, HF⟩ := hrel
    by_cases hlt : k < n
    · have hkL : k < L.length := by rw [HL.out]; exact hlt
      obtain ⟨g, o, rfl, vo, vn, d0, d1, d2, d3, d4, d5, d6, s1, s2⟩ := (HA.out.kept HF.out).get hkL
      obtain ⟨z1, z2⟩ := HS.out _ (List.getElem_mem hkL)
      have HT : Hid (L.take (k + 1) = L.take k ++ [L[k]]) := List.take_succ_eq_append_getElem hkL
      generalize L[k] = x at d0 d1 d2 d3 d4 s1 s2 z1 z2 HT
      have cS := pgreat_any x vo vn wr s1 s2 z1 z2
      obtain ⟨pa, ca, rfl, _⟩ := s1
      obtain ⟨pb, cb, rfl, _⟩ := s2
      have HX : Hid (∀ w', GreatP x wr (.returned (.bool false)) w' → (∀ y ∈ L.take (k + 1), y.weight < 4000) ∧ Fr None' w w') := fun w' h => by
        obtain ⟨g, e, h1, h2⟩ := h
        cases e
        refine ⟨fun y hy => ?_, HF.out.then7 h2⟩
        rw [HT.out] at hy
        rcases List.mem_append.1 hy with hy | hy
        · exact HW.out y hy
        · rw [List.mem_singleton.1 hy]; exact h1 rfl
      have HY : Hid (∀ w', GreatP x wr (.returned (.bool true)) w' → Fr None' w w') := fun w' h => by
        obtain ⟨g, e, h1, h2⟩ := h
        exact HF.out.then7 h2
      have HG : Hid (∀ e w', GreatP x wr e w' → (e = .returned (.bool true) ∧ Fr None' w w') ∨ (e = .returned (.bool false) ∧ Hid (∀ y ∈ L.take (k + 1), y.weight < 4000) ∧ Fr None' w w')) := fun e w' h => by
        obtain ⟨g, e1, h1, h2⟩ := id h
        subst e1
        cases g
        · exact Or.inr ⟨rfl, HX.out w' h⟩
        · exact Or.inl ⟨rfl, HY.out w' h⟩
      obtain ⟨K, P, T, F, A, lO, lN⟩ := x
      simp only at d0 d1 d2 d3 d4 d5 d6 cS HG
      have i2 : (k : Int) < (n : Int) := by omega
      have i3 : (0 : Int) ≤ (k : Int) := by omega
      clear z1 z2 HX HY HT
      go_wp2_with fail
      with_reducible refine cS.mono ?_
      rintro e w2 h
      rcases HG.out e w2 h with ⟨rfl, f2⟩ | ⟨rfl, HW2, f2⟩
      · have HF2 : Hid (Fr None' w w2) := f2
        clear cS h f2 HG d0 d1 d2 d3 d4 d5 d6
        go_wp2_with fail
        go_ret
        exact ⟨true, rfl, fun h => (by cases h), HF2.out⟩
      · have HF2 : Hid (Fr None' w w2) := f2
        clear cS h f2 HG d0 d1 d2 d3 d4 d5 d6
        go_wp2_with fail
        exact ⟨⟨k + 1, by omega, by go_num, HW2.out, HF2.out⟩, by simp [intOf]; omega⟩
    · have e : k = n := by omega
      subst e
      have HW2 : Hid (∀ x ∈ L, x.weight < 4000) := fun x hx => HW.out x (by rw [List.take_of_length_le (by rw [HL.out]; exact Nat.le_refl _)]; exact hx)
      have HK60 : Hid (k ≤ 60) := by show _ ≤ _; omega
      go_wp2_with fail
      go_ret
      exact ⟨false, rfl, fun _ => ⟨HK60.out, HW2.out⟩, HF.out⟩

end Go.Proofs.YtcpjneejlfgkeaaGreatDoor

namespace Go.Proofs.YtcpjneejlfgkeaaGreatDoor
open Go.RowKit
set_option maxRecDepth 100000
attribute [local irreducible] wpQuiet

theorem okD_parts {L : List En} {j : Nat} {x : En} : okD L j x = true ↔ Path.right (bl x.path) = true ∧ ahead L j x = true ∧ 1 ≤ x.kind ∧ x.kind ≤ 3 ∧ Lines.right (Lines.bs x.lines) = true ∧ (x.kind = 2 ∨ x.lines = []) ∧ (x.kind = 3 ∨ x.data.size = 0) ∧ (∀ p, Path.parent (bl x.path) = some p → ∃ d, findE L p = some d ∧ d.kind = 1) := by
  unfold okD
  simp only [Bool.and_eq_true, Bool.or_eq_true, decide_eq_true_eq]
  constructor
  · rintro ⟨⟨⟨⟨⟨⟨⟨a, b⟩, c⟩, d⟩, e⟩, f⟩, g⟩, h⟩
    refine ⟨a, b, c, d, e, f, g, fun p hp => ?_⟩
    rw [hp] at h
    simp only at h
    cases hf : findE L p with
    | none => rw [hf] at h; cases h
    | some y => rw [hf] at h; exact ⟨y, rfl, by simpa using h⟩
  · rintro ⟨a, b, c, d, e, f, g, h⟩
    refine ⟨⟨⟨⟨⟨⟨⟨a, b⟩, c⟩, d⟩, e⟩, f⟩, g⟩, ?_⟩
    cases hp : Path.parent (bl x.path) with
    | none => rfl
    | some p =>
      obtain ⟨y, h1, h2⟩ := h p hp
      simp only [h1]
      simpa using h2

theorem ahead_succ {L : List En} {i : Nat} (hi : i < L.length) (x : En) : ahead L (i + 1) x = decide (bl L[i].path < bl x.path) := by
  unfold ahead
  simp only [List.getElem?_eq_getElem hi]

theorem drewF (w : World) (n : Nat) : Fr None' w (w.drewN n) := Fr.drewN None' w n

theorem less_eq (a b : ByteArray) : Op.bytesLess a.toList b.toList = decide (bl a < bl b) := by
  rw [ByteArray.toList_eq, ByteArray.toList_eq, Go.Proofs.bytesLess_eq]
  rfl

theorem rright_q (p : ByteArray) (hp : p.size < 100000000) (w : World) : Calls Tryz.prog 25 #[.string p] w fun e w' => e = .returned (.bool (Path.right (bl p))) ∧ w' = w := (Path.rright_any p w hp).mono fun _ _ h => ⟨h.1, h.2.symm⟩

set_option maxHeartbeats 16000000 in
theorem eright_any (va : Option Addr) (n c : Nat) (L : List En) (w : World) (hl : L.length = n) (h : EntsAt w va L) (hn : n ≤ 100000) (hs : SmallE L) :
    Calls Tryz.prog 20 #[.slice va n c] w fun e w' => e = .returned (.bool (treeRight L)) ∧ Fr None' w w' := by
  have HL : Hid (L.length = n) := hl
  have HS : Hid (SmallE L) := hs
  have HE : Hid (EntsAt w va L) := h
  have i1 : (n : Int) ≤ 100000 := by omega
  by_cases hbig : 1024 < n
  · have e : treeRight L = false := treeRight_long (by rw [hl]; exact hbig)
    rw [e]
    have q : (1024 : Int) < (n : Int) := by omega
    clear hl h hs
    go_enter Tryz.func20, Tryz.ntmps20
    go_wp2_with fail
    go_ret
    exact ⟨rfl, Fr.refl _ _⟩
  · obtain ⟨R, hR⟩ : ∃ R, treeRight L = R := ⟨_, rfl⟩
    have HR : Hid (treeRight L = R) := hR
    rw [hR]
    have q : ¬ (1024 : Int) < (n : Int) := by omega
    have HNB : Hid (n ≤ 1024) := by show _ ≤ _; omega
    clear hl h hs hR hbig hn
    go_enter Tryz.func20, Tryz.ntmps20
    go_wp2_with fail
    clear q
    go_loopw [3] (fun vi wr => ∃ k : Nat, k ≤ n ∧ vi = .int .i64 k ∧ Hid (∀ j (h : j < L.length), j < k → okD L j L[j] = true) ∧ Hid (Fr None' w wr)) (fun vi _ => n - (intOf vi).toNat)
    case atStart => exact ⟨0, Nat.zero_le _, rfl, fun j _ h => by omega, Fr.refl _ _⟩
    case round =>
      obtain ⟨k, hk, rfl, HT, HF⟩ := hrel
      by_cases hlt : k < n
      · have hkL : k < L.length := by rw [HL.out]; exact hlt
        obtain ⟨g, o, rfl, vl, d0, d1, d2, d3, hs1⟩ := (HE.out.kept HF.out).get hkL
        obtain ⟨pl, cl, rfl, _, _, hr⟩ := hs1
        obtain ⟨z1, z2, z3, z4⟩ := HS.out _ (List.getElem_mem hkL)
        have HNo : Hid (¬ okD L k L[k] = true → R = false) := fun h => by rw [← HR.out]; exact treeRight_noD hkL (by simpa using h)
        have HNX : Hid (okD L k L[k] = true → ∀ j (h : j < L.length), j < k + 1 → okD L j L[j] = true) := fun h j hj hlt => by
          by_cases e : j = k
          · subst e; exact h
          · exact HT.out j hj (by omega)
        obtain ⟨x, hxe⟩ : ∃ x, L[k] = x := ⟨_, rfl⟩
        rw [hxe] at d0 d1 d2 d3 hr z1 z2 z3 z4 HNX HNo
        obtain ⟨P, K, l, Da⟩ := x
        simp only at d0 d1 d2 d3 hr z1 z2 z3 z4
        obtain ⟨nl, hnl⟩ : ∃ m, l.length = m := ⟨_, rfl⟩
        rw [hnl] at d2 z3
        have HRW : Hid (Lines.Row wr pl l ∧ l.length = nl ∧ (∀ y ∈ l, y.size < 90000000)) := ⟨hr, hnl, z4⟩
        have HZ : Hid (P.size < 10000000 ∧ nl < 900000) := ⟨z1, z3⟩
        have i2 : (k : Int) < (n : Int) := by omega
        have i3 : (0 : Int) ≤ (k : Int) := by omega
        have HOK : Hid (okD L k ⟨P, K, l, Da⟩ = true ↔ _) := okD_parts
        clear hxe hnl hr z1 z2 z3 z4 HT
        obtain ⟨w1, hw1⟩ : ∃ w1, wr.alloc (.cells #[.string P, .int .i64 K, .slice pl nl cl, .string Da] 41) = w1 := ⟨_, rfl⟩
        have HF1 : Hid (Fr None' wr w1) := hw1 ▸ Fr.alloc None' wr _
        obtain ⟨b0, b1, b2, b3⟩ := cell4 wr 41 (.string P) (.int .i64 K) (.slice pl nl cl) (.string Da)
        rw [hw1] at b0 b1 b2 b3
        have cR := rright_q P (by have := HZ.out.1; omega)
        cases hpr : Path.right (bl P) with
        | false =>
          have e : R = false := HNo.out (fun h => by have := (HOK.out.1 h).1; rw [hpr] at this; cases this)
          subst e
          simp only [hpr] at cR
          go_wp2_with fail
          go_quiet ((go_at_call 25; exact Calls.quiet_of_same (cR _)))
          go_wp2_with fail
          go_ret
          exact ⟨rfl, (HF.out.then7 HF1.out).then7 (drewF _ _)⟩
        | true =>
          simp only [hpr] at cR
          rcases Nat.eq_zero_or_pos k with e0 | hpos
          · have q2 : decide ((0 : Int) < (k : Int)) = false := by simp; omega
            have q2n : decide (0 < k) = false := by simp; omega
            have HAh : Hid (ahead L k ⟨P, K, l, Da⟩ = true) := by show _ = _; rw [e0]; rfl
            clear e0
            by_cases hK1 : K < 1
            · have e : R = false := HNo.out (fun h => by have h2 : (1 : Int) ≤ K := (HOK.out.1 h).2.2.1; omega)
              subst e
              have q3 : decide (K < 1) = true := by simpa using hK1
              go_wp2_with fail
              go_quiet ((go_at_call 25; exact Calls.quiet_of_same (cR _)))
              go_wp2_with fail
              go_ret
              exact ⟨rfl, (HF.out.then7 HF1.out).then7 (drewF _ _)⟩
            · have q3 : decide (K < 1) = false := by simpa using hK1
              by_cases hK3 : 3 < K
              · have e : R = false := HNo.out (fun h => by have h2 : K ≤ (3 : Int) := (HOK.out.1 h).2.2.2.1; omega)
                subst e
                have q4 : decide (3 < K) = true := by simpa using hK3
                go_wp2_with fail
                go_quiet ((go_at_call 25; exact Calls.quiet_of_same (cR _)))
                go_wp2_with fail
                go_ret
                exact ⟨rfl, (HF.out.then7 HF1.out).then7 (drewF _ _)⟩
              · have q4 : decide (3 < K) = false := by simpa using hK3
                go_wp2_with fail
                go_quiet ((go_at_call 25; exact Calls.quiet_of_same (cR _)))
                obtain ⟨w2, hw2⟩ : ∃ x, w1.drewN nq = x := ⟨_, rfl⟩
                have f2 : Fr None' w1 w2 := hw2 ▸ drewF _ _
                rw [hw2]
                replace b0 := f2.keepCell b0 (fun e => e)
                replace b1 := f2.keepCell b1 (fun e => e)
                replace b2 := f2.keepCell b2 (fun e => e)
                replace b3 := f2.keepCell b3 (fun e => e)
                have HF2 : Hid (Fr None' wr w2) := HF1.out.then7 f2
                clear hw2 f2 cR d0 d1 d2 d3 HF1
                have cL : Calls Tryz.prog 35 #[.slice pl nl cl] w2 fun e w' => e = .returned (.bool (Lines.right (Lines.bs l))) ∧ Fr None' w2 w' := by
                  have h := Lines.rRight_any pl cl l w2 (HRW.out.1.fr (toLN HF2.out)) (by rw [HRW.out.2.1]; have := HZ.out.2; omega) HRW.out.2.2
                  rw [HRW.out.2.1] at h
                  exact h.mono fun _ _ h => ⟨h.1, ofLN h.2⟩
                go_wp2_with fail
                refine cL.mono ?_
                rintro e w3 ⟨rfl, f3⟩
                replace b0 := f3.keepCell b0 (fun e => e)
                replace b1 := f3.keepCell b1 (fun e => e)
                replace b2 := f3.keepCell b2 (fun e => e)
                replace b3 := f3.keepCell b3 (fun e => e)
                have HF3 : Hid (Fr None' wr w3) := HF2.out.then7 f3
                clear cL f3 HF2
                cases hLr : Lines.right (Lines.bs l) with
                | false =>
                  have e : R = false := HNo.out (fun h => by have h2 : Lines.right (Lines.bs l) = true := (HOK.out.1 h).2.2.2.2.1; rw [hLr] at h2; cases h2)
                  subst e
                  go_wp2_with fail
                  go_ret
                  exact ⟨rfl, HF.out.then7 HF3.out⟩
                | true =>
                  by_cases hK2 : K = 2
                  · have zk2 : (K == 2) = true := by simpa using hK2
                    have zk3 : (K == 3) = false := by simp; omega
                    by_cases hDa : Da.size = 0
                    · have hDe := empty_of hDa
                      subst hDe
                      have cP := Path.rparent_any P w3 (by have := HZ.out.1; omega)
                      unfold Path.parentS at cP
                      cases hpa : Path.parent (bl P) with
                      | none =>
                        have hpa' : Path.parent P.data.toList = none := hpa
                        rw [hpa'] at cP
                        have hok : okD L k ⟨P, K, l, _⟩ = true := HOK.out.2 ⟨hpr, HAh.out, by show (1 : Int) ≤ K; omega, by show K ≤ (3 : Int); omega, hLr, Or.inl hK2, Or.inr hDa, fun p hp => by rw [show Path.parent (bl P) = none from hpa] at hp; cases hp⟩
                        have HNX2 : Hid (∀ j (h : j < L.length), j < k + 1 → okD L j L[j] = true) := HNX.out hok
                        clear hok HNX HNo HOK
                        go_wp2_with fail
                        refine cP.mono ?_
                        rintro e w4 ⟨rfl, rfl⟩
                        clear cP
                        go_wp2_with fail
                        exact ⟨⟨k + 1, by omega, by go_num, HNX2.out, HF.out.then7 HF3.out⟩, by simp [intOf]; omega⟩
                      | some p =>
                        have hpa' : Path.parent P.data.toList = some p := hpa
                        rw [hpa'] at cP
                        have cF := efind_any (some ⟨g, o, none⟩) n c L ⟨p.toArray⟩ w3 HL.out (HE.out.kept (HF.out.then7 HF3.out)) (by omega)
                        have ebl : bl ⟨p.toArray⟩ = p := rfl
                        rw [ebl] at cF
                        cases hf : findE L p with
                        | none =>
                          rw [hf] at cF
                          have e : R = false := HNo.out (fun h => by obtain ⟨d, h1, _⟩ := (HOK.out.1 h).2.2.2.2.2.2.2 p hpa; rw [hf] at h1; cases h1)
                          subst e
                          clear HNX HNo HOK
                          go_wp2_with fail
                          refine cP.mono ?_
                          rintro e w4 ⟨rfl, rfl⟩
                          clear cP
                          go_wp2_with fail
                          refine cF.mono ?_
                          rintro e w5 ⟨f5, rfl⟩
                          have HF5 : Hid (Fr None' w w5) := (HF.out.then7 HF3.out).then7 f5
                          clear cF f5
                          go_wp2_with fail
                          go_ret
                          exact ⟨rfl, HF5.out.then7 (Fr.alloc None' _ _)⟩
                        | some d =>
                          rw [hf] at cF
                          obtain ⟨Pd, Kd, ld, Dd⟩ := d
                          by_cases hkd : Kd = 1
                          · subst hkd
                            have hok : okD L k ⟨P, K, l, _⟩ = true := HOK.out.2 ⟨hpr, HAh.out, by show (1 : Int) ≤ K; omega, by show K ≤ (3 : Int); omega, hLr, Or.inl hK2, Or.inr hDa, fun p' hp => by rw [show Path.parent (bl P) = some p from hpa] at hp; cases hp; exact ⟨_, hf, rfl⟩⟩
                            have HNX2 : Hid (∀ j (h : j < L.length), j < k + 1 → okD L j L[j] = true) := HNX.out hok
                            clear hok HNX HNo HOK
                            go_wp2_with fail
                            refine cP.mono ?_
                            rintro e w4 ⟨rfl, rfl⟩
                            clear cP
                            go_wp2_with fail
                            refine cF.mono ?_
                            rintro e w5 ⟨f5, vd, rfl, hsd⟩
                            obtain ⟨pd, cd, rfl, _⟩ := hsd
                            have HF5 : Hid (Fr None' w w5) := (HF.out.then7 HF3.out).then7 f5
                            clear cF f5
                            go_wp2_with fail
                            exact ⟨⟨k + 1, by omega, by go_num, HNX2.out, HF5.out.then7 (Fr.alloc None' _ _)⟩, by simp [intOf]; omega⟩
                          · have e : R = false := HNo.out (fun h => by obtain ⟨d, h1, h2⟩ := (HOK.out.1 h).2.2.2.2.2.2.2 p hpa; rw [hf] at h1; cases h1; exact hkd h2)
                            subst e
                            have zk : (Kd == 1) = false := by simpa using hkd
                            clear HNX HNo HOK
                            go_wp2_with fail
                            refine cP.mono ?_
                            rintro e w4 ⟨rfl, rfl⟩
                            clear cP
                            go_wp2_with fail
                            refine cF.mono ?_
                            rintro e w5 ⟨f5, vd, rfl, hsd⟩
                            obtain ⟨pd, cd, rfl, _⟩ := hsd
                            have HF5 : Hid (Fr None' w w5) := (HF.out.then7 HF3.out).then7 f5
                            clear cF f5
                            go_wp2_with fail
                            go_ret
                            exact ⟨rfl, HF5.out.then7 (Fr.alloc None' _ _)⟩
                    · have yd := isEmpty_no hDa
                      have e : R = false := HNo.out (fun h => by rcases (HOK.out.1 h).2.2.2.2.2.2.1 with h2 | h2; (have h3 : K = 3 := h2; omega); exact hDa h2)
                      subst e
                      go_wp2_with fail
                      go_ret
                      exact ⟨rfl, HF.out.then7 HF3.out⟩
                  · have zk2 : (K == 2) = false := by simpa using hK2
                    by_cases hnl : nl = 0
                    · have qn : ¬ (0 : Int) < (nl : Int) := by omega
                      have hle : l = [] := List.length_eq_zero_iff.1 (by rw [HRW.out.2.1]; exact hnl)
                      by_cases hKt : K = 3
                      · have zk3 : (K == 3) = true := by simpa using hKt
                        have cP := Path.rparent_any P w3 (by have := HZ.out.1; omega)
                        unfold Path.parentS at cP
                        cases hpa : Path.parent (bl P) with
                        | none =>
                          have hpa' : Path.parent P.data.toList = none := hpa
                          rw [hpa'] at cP
                          have hok : okD L k ⟨P, K, l, _⟩ = true := HOK.out.2 ⟨hpr, HAh.out, by show (1 : Int) ≤ K; omega, by show K ≤ (3 : Int); omega, hLr, Or.inr hle, Or.inl hKt, fun p hp => by rw [show Path.parent (bl P) = none from hpa] at hp; cases hp⟩
                          have HNX2 : Hid (∀ j (h : j < L.length), j < k + 1 → okD L j L[j] = true) := HNX.out hok
                          clear hok HNX HNo HOK
                          go_wp2_with fail
                          refine cP.mono ?_
                          rintro e w4 ⟨rfl, rfl⟩
                          clear cP
                          go_wp2_with fail
                          exact ⟨⟨k + 1, by omega, by go_num, HNX2.out, HF.out.then7 HF3.out⟩, by simp [intOf]; omega⟩
                        | some p =>
                          have hpa' : Path.parent P.data.toList = some p := hpa
                          rw [hpa'] at cP
                          have cF := efind_any (some ⟨g, o, none⟩) n c L ⟨p.toArray⟩ w3 HL.out (HE.out.kept (HF.out.then7 HF3.out)) (by omega)
                          have ebl : bl ⟨p.toArray⟩ = p := rfl
                          rw [ebl] at cF
                          cases hf : findE L p with
                          | none =>
                            rw [hf] at cF
                            have e : R = false := HNo.out (fun h => by obtain ⟨d, h1, _⟩ := (HOK.out.1 h).2.2.2.2.2.2.2 p hpa; rw [hf] at h1; cases h1)
                            subst e
                            clear HNX HNo HOK
                            go_wp2_with fail
                            refine cP.mono ?_
                            rintro e w4 ⟨rfl, rfl⟩
                            clear cP
                            go_wp2_with fail
                            refine cF.mono ?_
                            rintro e w5 ⟨f5, rfl⟩
                            have HF5 : Hid (Fr None' w w5) := (HF.out.then7 HF3.out).then7 f5
                            clear cF f5
                            go_wp2_with fail
                            go_ret
                            exact ⟨rfl, HF5.out.then7 (Fr.alloc None' _ _)⟩
                          | some d =>
                            rw [hf] at cF
                            obtain ⟨Pd, Kd, ld, Dd⟩ := d
                            by_cases hkd : Kd = 1
                            · subst hkd
                              have hok : okD L k ⟨P, K, l, _⟩ = true := HOK.out.2 ⟨hpr, HAh.out, by show (1 : Int) ≤ K; omega, by show K ≤ (3 : Int); omega, hLr, Or.inr hle, Or.inl hKt, fun p' hp => by rw [show Path.parent (bl P) = some p from hpa] at hp; cases hp; exact ⟨_, hf, rfl⟩⟩
                              have HNX2 : Hid (∀ j (h : j < L.length), j < k + 1 → okD L j L[j] = true) := HNX.out hok
                              clear hok HNX HNo HOK
                              go_wp2_with fail
                              refine cP.mono ?_
                              rintro e w4 ⟨rfl, rfl⟩
                              clear cP
                              go_wp2_with fail
                              refine cF.mono ?_
                              rintro e w5 ⟨f5, vd, rfl, hsd⟩
                              obtain ⟨pd, cd, rfl, _⟩ := hsd
                              have HF5 : Hid (Fr None' w w5) := (HF.out.then7 HF3.out).then7 f5
                              clear cF f5
                              go_wp2_with fail
                              exact ⟨⟨k + 1, by omega, by go_num, HNX2.out, HF5.out.then7 (Fr.alloc None' _ _)⟩, by simp [intOf]; omega⟩
                            · have e : R = false := HNo.out (fun h => by obtain ⟨d, h1, h2⟩ := (HOK.out.1 h).2.2.2.2.2.2.2 p hpa; rw [hf] at h1; cases h1; exact hkd h2)
                              subst e
                              have zk : (Kd == 1) = false := by simpa using hkd
                              clear HNX HNo HOK
                              go_wp2_with fail
                              refine cP.mono ?_
                              rintro e w4 ⟨rfl, rfl⟩
                              clear cP
                              go_wp2_with fail
                              refine cF.mono ?_
                              rintro e w5 ⟨f5, vd, rfl, hsd⟩
                              obtain ⟨pd, cd, rfl, _⟩ := hsd
                              have HF5 : Hid (Fr None' w w5) := (HF.out.then7 HF3.out).then7 f5
                              clear cF f5
                              go_wp2_with fail
                              go_ret
                              exact ⟨rfl, HF5.out.then7 (Fr.alloc None' _ _)⟩
                      · have zk3 : (K == 3) = false := by simpa using hKt
                        by_cases hDa : Da.size = 0
                        · have hDe := empty_of hDa
                          subst hDe
                          have cP := Path.rparent_any P w3 (by have := HZ.out.1; omega)
                          unfold Path.parentS at cP
                          cases hpa : Path.parent (bl P) with
                          | none =>
                            have hpa' : Path.parent P.data.toList = none := hpa
                            rw [hpa'] at cP
                            have hok : okD L k ⟨P, K, l, _⟩ = true := HOK.out.2 ⟨hpr, HAh.out, by show (1 : Int) ≤ K; omega, by show K ≤ (3 : Int); omega, hLr, Or.inr hle, Or.inr hDa, fun p hp => by rw [show Path.parent (bl P) = none from hpa] at hp; cases hp⟩
                            have HNX2 : Hid (∀ j (h : j < L.length), j < k + 1 → okD L j L[j] = true) := HNX.out hok
                            clear hok HNX HNo HOK
                            go_wp2_with fail
                            refine cP.mono ?_
                            rintro e w4 ⟨rfl, rfl⟩
                            clear cP
                            go_wp2_with fail
                            exact ⟨⟨k + 1, by omega, by go_num, HNX2.out, HF.out.then7 HF3.out⟩, by simp [intOf]; omega⟩
                          | some p =>
                            have hpa' : Path.parent P.data.toList = some p := hpa
                            rw [hpa'] at cP
                            have cF := efind_any (some ⟨g, o, none⟩) n c L ⟨p.toArray⟩ w3 HL.out (HE.out.kept (HF.out.then7 HF3.out)) (by omega)
                            have ebl : bl ⟨p.toArray⟩ = p := rfl
                            rw [ebl] at cF
                            cases hf : findE L p with
                            | none =>
                              rw [hf] at cF
                              have e : R = false := HNo.out (fun h => by obtain ⟨d, h1, _⟩ := (HOK.out.1 h).2.2.2.2.2.2.2 p hpa; rw [hf] at h1; cases h1)
                              subst e
                              clear HNX HNo HOK
                              go_wp2_with fail
                              refine cP.mono ?_
                              rintro e w4 ⟨rfl, rfl⟩
                              clear cP
                              go_wp2_with fail
                              refine cF.mono ?_
                              rintro e w5 ⟨f5, rfl⟩
                              have HF5 : Hid (Fr None' w w5) := (HF.out.then7 HF3.out).then7 f5
                              clear cF f5
                              go_wp2_with fail
                              go_ret
                              exact ⟨rfl, HF5.out.then7 (Fr.alloc None' _ _)⟩
                            | some d =>
                              rw [hf] at cF
                              obtain ⟨Pd, Kd, ld, Dd⟩ := d
                              by_cases hkd : Kd = 1
                              · subst hkd
                                have hok : okD L k ⟨P, K, l, _⟩ = true := HOK.out.2 ⟨hpr, HAh.out, by show (1 : Int) ≤ K; omega, by show K ≤ (3 : Int); omega, hLr, Or.inr hle, Or.inr hDa, fun p' hp => by rw [show Path.parent (bl P) = some p from hpa] at hp; cases hp; exact ⟨_, hf, rfl⟩⟩
                                have HNX2 : Hid (∀ j (h : j < L.length), j < k + 1 → okD L j L[j] = true) := HNX.out hok
                                clear hok HNX HNo HOK
                                go_wp2_with fail
                                refine cP.mono ?_
                                rintro e w4 ⟨rfl, rfl⟩
                                clear cP
                                go_wp2_with fail
                                refine cF.mono ?_
                                rintro e w5 ⟨f5, vd, rfl, hsd⟩
                                obtain ⟨pd, cd, rfl, _⟩ := hsd
                                have HF5 : Hid (Fr None' w w5) := (HF.out.then7 HF3.out).then7 f5
                                clear cF f5
                                go_wp2_with fail
                                exact ⟨⟨k + 1, by omega, by go_num, HNX2.out, HF5.out.then7 (Fr.alloc None' _ _)⟩, by simp [intOf]; omega⟩
                              · have e : R = false := HNo.out (fun h => by obtain ⟨d, h1, h2⟩ := (HOK.out.1 h).2.2.2.2.2.2.2 p hpa; rw [hf] at h1; cases h1; exact hkd h2)
                                subst e
                                have zk : (Kd == 1) = false := by simpa using hkd
                                clear HNX HNo HOK
                                go_wp2_with fail
                                refine cP.mono ?_
                                rintro e w4 ⟨rfl, rfl⟩
                                clear cP
                                go_wp2_with fail
                                refine cF.mono ?_
                                rintro e w5 ⟨f5, vd, rfl, hsd⟩
                                obtain ⟨pd, cd, rfl, _⟩ := hsd
                                have HF5 : Hid (Fr None' w w5) := (HF.out.then7 HF3.out).then7 f5
                                clear cF f5
                                go_wp2_with fail
                                go_ret
                                exact ⟨rfl, HF5.out.then7 (Fr.alloc None' _ _)⟩
                        · have yd := isEmpty_no hDa
                          have e : R = false := HNo.out (fun h => by rcases (HOK.out.1 h).2.2.2.2.2.2.1 with h2 | h2; exact hKt h2; exact hDa h2)
                          subst e
                          go_wp2_with fail
                          go_ret
                          exact ⟨rfl, HF.out.then7 HF3.out⟩
                    · have qn : (0 : Int) < (nl : Int) := by omega
                      have e : R = false := HNo.out (fun h => by rcases (HOK.out.1 h).2.2.2.2.2.1 with h2 | h2; exact hK2 h2; (have h3 : l = [] := h2; have h4 := HRW.out.2.1; rw [h3] at h4; exact hnl h4.symm))
                      subst e
                      go_wp2_with fail
                      go_ret
                      exact ⟨rfl, HF.out.then7 HF3.out⟩
          · obtain ⟨i, he⟩ : ∃ i, k = i + 1 := ⟨k - 1, by omega⟩
            have hiL : i < L.length := by omega
            obtain ⟨g', o', e', vq, p0, _⟩ := (HE.out.kept HF.out).get hiL
            cases e'
            replace p0 := HF1.out.keepCell p0 (fun e => e)
            have HAe : Hid (ahead L k ⟨P, K, l, Da⟩ = decide (bl L[i].path < bl P)) := by show _ = _; rw [he]; exact ahead_succ hiL _
            have hle := less_eq L[i].path P
            obtain ⟨Q, hQ⟩ : ∃ Q, L[i].path = Q := ⟨_, rfl⟩
            rw [hQ] at p0 HAe hle
            have q2 : decide ((0 : Int) < (k : Int)) = true := by simp; omega
            have q2n : decide (0 < k) = true := by simp; omega
            have ri : IntKind.i64.wrap ((k : Int) - 1) = (i : Int) := by rw [IntKind.wrap_i64]; omega
            have ri2 : (k : Int) - 1 = (i : Int) := by omega
            have i5 : (0 : Int) ≤ (i : Int) := by omega
            have i6 : (i : Int) < (n : Int) := by omega
            clear he
            by_cases hlq : bl Q < bl P
            · rw [decide_eq_true hlq] at hle
              have HAh : Hid (ahead L k ⟨P, K, l, Da⟩ = true) := by show _ = _; rw [HAe.out]; exact decide_eq_true hlq
              clear hQ HAe hlq
              by_cases hK1 : K < 1
              · have e : R = false := HNo.out (fun h => by have h2 : (1 : Int) ≤ K := (HOK.out.1 h).2.2.1; omega)
                subst e
                have q3 : decide (K < 1) = true := by simpa using hK1
                go_wp2_with fail
                go_quiet ((go_at_call 25; exact Calls.quiet_of_same (cR _)))
                go_wp2_with fail
                go_ret
                exact ⟨rfl, (HF.out.then7 HF1.out).then7 (drewF _ _)⟩
              · have q3 : decide (K < 1) = false := by simpa using hK1
                by_cases hK3 : 3 < K
                · have e : R = false := HNo.out (fun h => by have h2 : K ≤ (3 : Int) := (HOK.out.1 h).2.2.2.1; omega)
                  subst e
                  have q4 : decide (3 < K) = true := by simpa using hK3
                  go_wp2_with fail
                  go_quiet ((go_at_call 25; exact Calls.quiet_of_same (cR _)))
                  go_wp2_with fail
                  go_ret
                  exact ⟨rfl, (HF.out.then7 HF1.out).then7 (drewF _ _)⟩
                · have q4 : decide (3 < K) = false := by simpa using hK3
                  go_wp2_with fail
                  go_quiet ((go_at_call 25; exact Calls.quiet_of_same (cR _)))
                  obtain ⟨w2, hw2⟩ : ∃ x, w1.drewN nq = x := ⟨_, rfl⟩
                  have f2 : Fr None' w1 w2 := hw2 ▸ drewF _ _
                  rw [hw2]
                  replace b0 := f2.keepCell b0 (fun e => e)
                  replace b1 := f2.keepCell b1 (fun e => e)
                  replace b2 := f2.keepCell b2 (fun e => e)
                  replace b3 := f2.keepCell b3 (fun e => e)
                  have HF2 : Hid (Fr None' wr w2) := HF1.out.then7 f2
                  clear hw2 f2 cR d0 d1 d2 d3 HF1
                  have cL : Calls Tryz.prog 35 #[.slice pl nl cl] w2 fun e w' => e = .returned (.bool (Lines.right (Lines.bs l))) ∧ Fr None' w2 w' := by
                    have h := Lines.rRight_any pl cl l w2 (HRW.out.1.fr (toLN HF2.out)) (by rw [HRW.out.2.1]; have := HZ.out.2; omega) HRW.out.2.2
                    rw [HRW.out.2.1] at h
                    exact h.mono fun _ _ h => ⟨h.1, ofLN h.2⟩
                  go_wp2_with fail
                  refine cL.mono ?_
                  rintro e w3 ⟨rfl, f3⟩
                  replace b0 := f3.keepCell b0 (fun e => e)
                  replace b1 := f3.keepCell b1 (fun e => e)
                  replace b2 := f3.keepCell b2 (fun e => e)
                  replace b3 := f3.keepCell b3 (fun e => e)
                  have HF3 : Hid (Fr None' wr w3) := HF2.out.then7 f3
                  clear cL f3 HF2
                  cases hLr : Lines.right (Lines.bs l) with
                  | false =>
                    have e : R = false := HNo.out (fun h => by have h2 : Lines.right (Lines.bs l) = true := (HOK.out.1 h).2.2.2.2.1; rw [hLr] at h2; cases h2)
                    subst e
                    go_wp2_with fail
                    go_ret
                    exact ⟨rfl, HF.out.then7 HF3.out⟩
                  | true =>
                    by_cases hK2 : K = 2
                    · have zk2 : (K == 2) = true := by simpa using hK2
                      have zk3 : (K == 3) = false := by simp; omega
                      by_cases hDa : Da.size = 0
                      · have hDe := empty_of hDa
                        subst hDe
                        have cP := Path.rparent_any P w3 (by have := HZ.out.1; omega)
                        unfold Path.parentS at cP
                        cases hpa : Path.parent (bl P) with
                        | none =>
                          have hpa' : Path.parent P.data.toList = none := hpa
                          rw [hpa'] at cP
                          have hok : okD L k ⟨P, K, l, _⟩ = true := HOK.out.2 ⟨hpr, HAh.out, by show (1 : Int) ≤ K; omega, by show K ≤ (3 : Int); omega, hLr, Or.inl hK2, Or.inr hDa, fun p hp => by rw [show Path.parent (bl P) = none from hpa] at hp; cases hp⟩
                          have HNX2 : Hid (∀ j (h : j < L.length), j < k + 1 → okD L j L[j] = true) := HNX.out hok
                          clear hok HNX HNo HOK
                          go_wp2_with fail
                          refine cP.mono ?_
                          rintro e w4 ⟨rfl, rfl⟩
                          clear cP
                          go_wp2_with fail
                          exact ⟨⟨k + 1, by omega, by go_num, HNX2.out, HF.out.then7 HF3.out⟩, by simp [intOf]; omega⟩
                        | some p =>
                          have hpa' : Path.parent P.data.toList = some p := hpa
                          rw [hpa'] at cP
                          have cF := efind_any (some ⟨g, o, none⟩) n c L ⟨p.toArray⟩ w3 HL.out (HE.out.kept (HF.out.then7 HF3.out)) (by omega)
                          have ebl : bl ⟨p.toArray⟩ = p := rfl
                          rw [ebl] at cF
                          cases hf : findE L p with
                          | none =>
                            rw [hf] at cF
                            have e : R = false := HNo.out (fun h => by obtain ⟨d, h1, _⟩ := (HOK.out.1 h).2.2.2.2.2.2.2 p hpa; rw [hf] at h1; cases h1)
                            subst e
                            clear HNX HNo HOK
                            go_wp2_with fail
                            refine cP.mono ?_
                            rintro e w4 ⟨rfl, rfl⟩
                            clear cP
                            go_wp2_with fail
                            refine cF.mono ?_
                            rintro e w5 ⟨f5, rfl⟩
                            have HF5 : Hid (Fr None' w w5) := (HF.out.then7 HF3.out).then7 f5
                            clear cF f5
                            go_wp2_with fail
                            go_ret
                            exact ⟨rfl, HF5.out.then7 (Fr.alloc None' _ _)⟩
                          | some d =>
                            rw [hf] at cF
                            obtain ⟨Pd, Kd, ld, Dd⟩ := d
                            by_cases hkd : Kd = 1
                            · subst hkd
                              have hok : okD L k ⟨P, K, l, _⟩ = true := HOK.out.2 ⟨hpr, HAh.out, by show (1 : Int) ≤ K; omega, by show K ≤ (3 : Int); omega, hLr, Or.inl hK2, Or.inr hDa, fun p' hp => by rw [show Path.parent (bl P) = some p from hpa] at hp; cases hp; exact ⟨_, hf, rfl⟩⟩
                              have HNX2 : Hid (∀ j (h : j < L.length), j < k + 1 → okD L j L[j] = true) := HNX.out hok
                              clear hok HNX HNo HOK
                              go_wp2_with fail
                              refine cP.mono ?_
                              rintro e w4 ⟨rfl, rfl⟩
                              clear cP
                              go_wp2_with fail
                              refine cF.mono ?_
                              rintro e w5 ⟨f5, vd, rfl, hsd⟩
                              obtain ⟨pd, cd, rfl, _⟩ := hsd
                              have HF5 : Hid (Fr None' w w5) := (HF.out.then7 HF3.out).then7 f5
                              clear cF f5
                              go_wp2_with fail
                              exact ⟨⟨k + 1, by omega, by go_num, HNX2.out, HF5.out.then7 (Fr.alloc None' _ _)⟩, by simp [intOf]; omega⟩
                            · have e : R = false := HNo.out (fun h => by obtain ⟨d, h1, h2⟩ := (HOK.out.1 h).2.2.2.2.2.2.2 p hpa; rw [hf] at h1; cases h1; exact hkd h2)
                              subst e
                              have zk : (Kd == 1) = false := by simpa using hkd
                              clear HNX HNo HOK
                              go_wp2_with fail
                              refine cP.mono ?_
                              rintro e w4 ⟨rfl, rfl⟩
                              clear cP
                              go_wp2_with fail
                              refine cF.mono ?_
                              rintro e w5 ⟨f5, vd, rfl, hsd⟩
                              obtain ⟨pd, cd, rfl, _⟩ := hsd
                              have HF5 : Hid (Fr None' w w5) := (HF.out.then7 HF3.out).then7 f5
                              clear cF f5
                              go_wp2_with fail
                              go_ret
                              exact ⟨rfl, HF5.out.then7 (Fr.alloc None' _ _)⟩
                      · have yd := isEmpty_no hDa
                        have e : R = false := HNo.out (fun h => by rcases (HOK.out.1 h).2.2.2.2.2.2.1 with h2 | h2; (have h3 : K = 3 := h2; omega); exact hDa h2)
                        subst e
                        go_wp2_with fail
                        go_ret
                        exact ⟨rfl, HF.out.then7 HF3.out⟩
                    · have zk2 : (K == 2) = false := by simpa using hK2
                      by_cases hnl : nl = 0
                      · have qn : ¬ (0 : Int) < (nl : Int) := by omega
                        have hle : l = [] := List.length_eq_zero_iff.1 (by rw [HRW.out.2.1]; exact hnl)
                        by_cases hKt : K = 3
                        · have zk3 : (K == 3) = true := by simpa using hKt
                          have cP := Path.rparent_any P w3 (by have := HZ.out.1; omega)
                          unfold Path.parentS at cP
                          cases hpa : Path.parent (bl P) with
                          | none =>
                            have hpa' : Path.parent P.data.toList = none := hpa
                            rw [hpa'] at cP
                            have hok : okD L k ⟨P, K, l, _⟩ = true := HOK.out.2 ⟨hpr, HAh.out, by show (1 : Int) ≤ K; omega, by show K ≤ (3 : Int); omega, hLr, Or.inr hle, Or.inl hKt, fun p hp => by rw [show Path.parent (bl P) = none from hpa] at hp; cases hp⟩
                            have HNX2 : Hid (∀ j (h : j < L.length), j < k + 1 → okD L j L[j] = true) := HNX.out hok
                            clear hok HNX HNo HOK
                            go_wp2_with fail
                            refine cP.mono ?_
                            rintro e w4 ⟨rfl, rfl⟩
                            clear cP
                            go_wp2_with fail
                            exact ⟨⟨k + 1, by omega, by go_num, HNX2.out, HF.out.then7 HF3.out⟩, by simp [intOf]; omega⟩
                          | some p =>
                            have hpa' : Path.parent P.data.toList = some p := hpa
                            rw [hpa'] at cP
                            have cF := efind_any (some ⟨g, o, none⟩) n c L ⟨p.toArray⟩ w3 HL.out (HE.out.kept (HF.out.then7 HF3.out)) (by omega)
                            have ebl : bl ⟨p.toArray⟩ = p := rfl
                            rw [ebl] at cF
                            cases hf : findE L p with
                            | none =>
                              rw [hf] at cF
                              have e : R = false := HNo.out (fun h => by obtain ⟨d, h1, _⟩ := (HOK.out.1 h).2.2.2.2.2.2.2 p hpa; rw [hf] at h1; cases h1)
                              subst e
                              clear HNX HNo HOK
                              go_wp2_with fail
                              refine cP.mono ?_
                              rintro e w4 ⟨rfl, rfl⟩
                              clear cP
                              go_wp2_with fail
                              refine cF.mono ?_
                              rintro e w5 ⟨f5, rfl⟩
                              have HF5 : Hid (Fr None' w w5) := (HF.out.then7 HF3.out).then7 f5
                              clear cF f5
                              go_wp2_with fail
                              go_ret
                              exact ⟨rfl, HF5.out.then7 (Fr.alloc None' _ _)⟩
                            | some d =>
                              rw [hf] at cF
                              obtain ⟨Pd, Kd, ld, Dd⟩ := d
                              by_cases hkd : Kd = 1
                              · subst hkd
                                have hok : okD L k ⟨P, K, l, _⟩ = true := HOK.out.2 ⟨hpr, HAh.out, by show (1 : Int) ≤ K; omega, by show K ≤ (3 : Int); omega, hLr, Or.inr hle, Or.inl hKt, fun p' hp => by rw [show Path.parent (bl P) = some p from hpa] at hp; cases hp; exact ⟨_, hf, rfl⟩⟩
                                have HNX2 : Hid (∀ j (h : j < L.length), j < k + 1 → okD L j L[j] = true) := HNX.out hok
                                clear hok HNX HNo HOK
                                go_wp2_with fail
                                refine cP.mono ?_
                                rintro e w4 ⟨rfl, rfl⟩
                                clear cP
                                go_wp2_with fail
                                refine cF.mono ?_
                                rintro e w5 ⟨f5, vd, rfl, hsd⟩
                                obtain ⟨pd, cd, rfl, _⟩ := hsd
                                have HF5 : Hid (Fr None' w w5) := (HF.out.then7 HF3.out).then7 f5
                                clear cF f5
                                go_wp2_with fail
                                exact ⟨⟨k + 1, by omega, by go_num, HNX2.out, HF5.out.then7 (Fr.alloc None' _ _)⟩, by simp [intOf]; omega⟩
                              · have e : R = false := HNo.out (fun h => by obtain ⟨d, h1, h2⟩ := (HOK.out.1 h).2.2.2.2.2.2.2 p hpa; rw [hf] at h1; cases h1; exact hkd h2)
                                subst e
                                have zk : (Kd == 1) = false := by simpa using hkd
                                clear HNX HNo HOK
                                go_wp2_with fail
                                refine cP.mono ?_
                                rintro e w4 ⟨rfl, rfl⟩
                                clear cP
                                go_wp2_with fail
                                refine cF.mono ?_
                                rintro e w5 ⟨f5, vd, rfl, hsd⟩
                                obtain ⟨pd, cd, rfl, _⟩ := hsd
                                have HF5 : Hid (Fr None' w w5) := (HF.out.then7 HF3.out).then7 f5
                                clear cF f5
                                go_wp2_with fail
                                go_ret
                                exact ⟨rfl, HF5.out.then7 (Fr.alloc None' _ _)⟩
                        · have zk3 : (K == 3) = false := by simpa using hKt
                          by_cases hDa : Da.size = 0
                          · have hDe := empty_of hDa
                            subst hDe
                            have cP := Path.rparent_any P w3 (by have := HZ.out.1; omega)
                            unfold Path.parentS at cP
                            cases hpa : Path.parent (bl P) with
                            | none =>
                              have hpa' : Path.parent P.data.toList = none := hpa
                              rw [hpa'] at cP
                              have hok : okD L k ⟨P, K, l, _⟩ = true := HOK.out.2 ⟨hpr, HAh.out, by show (1 : Int) ≤ K; omega, by show K ≤ (3 : Int); omega, hLr, Or.inr hle, Or.inr hDa, fun p hp => by rw [show Path.parent (bl P) = none from hpa] at hp; cases hp⟩
                              have HNX2 : Hid (∀ j (h : j < L.length), j < k + 1 → okD L j L[j] = true) := HNX.out hok
                              clear hok HNX HNo HOK
                              go_wp2_with fail
                              refine cP.mono ?_
                              rintro e w4 ⟨rfl, rfl⟩
                              clear cP
                              go_wp2_with fail
                              exact ⟨⟨k + 1, by omega, by go_num, HNX2.out, HF.out.then7 HF3.out⟩, by simp [intOf]; omega⟩
                            | some p =>
                              have hpa' : Path.parent P.data.toList = some p := hpa
                              rw [hpa'] at cP
                              have cF := efind_any (some ⟨g, o, none⟩) n c L ⟨p.toArray⟩ w3 HL.out (HE.out.kept (HF.out.then7 HF3.out)) (by omega)
                              have ebl : bl ⟨p.toArray⟩ = p := rfl
                              rw [ebl] at cF
                              cases hf : findE L p with
                              | none =>
                                rw [hf] at cF
                                have e : R = false := HNo.out (fun h => by obtain ⟨d, h1, _⟩ := (HOK.out.1 h).2.2.2.2.2.2.2 p hpa; rw [hf] at h1; cases h1)
                                subst e
                                clear HNX HNo HOK
                                go_wp2_with fail
                                refine cP.mono ?_
                                rintro e w4 ⟨rfl, rfl⟩
                                clear cP
                                go_wp2_with fail
                                refine cF.mono ?_
                                rintro e w5 ⟨f5, rfl⟩
                                have HF5 : Hid (Fr None' w w5) := (HF.out.then7 HF3.out).then7 f5
                                clear cF f5
                                go_wp2_with fail
                                go_ret
                                exact ⟨rfl, HF5.out.then7 (Fr.alloc None' _ _)⟩
                              | some d =>
                                rw [hf] at cF
                                obtain ⟨Pd, Kd, ld, Dd⟩ := d
                                by_cases hkd : Kd = 1
                                · subst hkd
                                  have hok : okD L k ⟨P, K, l, _⟩ = true := HOK.out.2 ⟨hpr, HAh.out, by show (1 : Int) ≤ K; omega, by show K ≤ (3 : Int); omega, hLr, Or.inr hle, Or.inr hDa, fun p' hp => by rw [show Path.parent (bl P) = some p from hpa] at hp; cases hp; exact ⟨_, hf, rfl⟩⟩
                                  have HNX2 : Hid (∀ j (h : j < L.length), j < k + 1 → okD L j L[j] = true) := HNX.out hok
                                  clear hok HNX HNo HOK
                                  go_wp2_with fail
                                  refine cP.mono ?_
                                  rintro e w4 ⟨rfl, rfl⟩
                                  clear cP
                                  go_wp2_with fail
                                  refine cF.mono ?_
                                  rintro e w5 ⟨f5, vd, rfl, hsd⟩
                                  obtain ⟨pd, cd, rfl, _⟩ := hsd
                                  have HF5 : Hid (Fr None' w w5) := (HF.out.then7 HF3.out).then7 f5
                                  clear cF f5
                                  go_wp2_with fail
                                  exact ⟨⟨k + 1, by omega, by go_num, HNX2.out, HF5.out.then7 (Fr.alloc None' _ _)⟩, by simp [intOf]; omega⟩
                                · have e : R = false := HNo.out (fun h => by obtain ⟨d, h1, h2⟩ := (HOK.out.1 h).2.2.2.2.2.2.2 p hpa; rw [hf] at h1; cases h1; exact hkd h2)
                                  subst e
                                  have zk : (Kd == 1) = false := by simpa using hkd
                                  clear HNX HNo HOK
                                  go_wp2_with fail
                                  refine cP.mono ?_
                                  rintro e w4 ⟨rfl, rfl⟩
                                  clear cP
                                  go_wp2_with fail
                                  refine cF.mono ?_
                                  rintro e w5 ⟨f5, vd, rfl, hsd⟩
                                  obtain ⟨pd, cd, rfl, _⟩ := hsd
                                  have HF5 : Hid (Fr None' w w5) := (HF.out.then7 HF3.out).then7 f5
                                  clear cF f5
                                  go_wp2_with fail
                                  go_ret
                                  exact ⟨rfl, HF5.out.then7 (Fr.alloc None' _ _)⟩
                          · have yd := isEmpty_no hDa
                            have e : R = false := HNo.out (fun h => by rcases (HOK.out.1 h).2.2.2.2.2.2.1 with h2 | h2; exact hKt h2; exact hDa h2)
                            subst e
                            go_wp2_with fail
                            go_ret
                            exact ⟨rfl, HF.out.then7 HF3.out⟩
                      · have qn : (0 : Int) < (nl : Int) := by omega
                        have e : R = false := HNo.out (fun h => by rcases (HOK.out.1 h).2.2.2.2.2.1 with h2 | h2; exact hK2 h2; (have h3 : l = [] := h2; have h4 := HRW.out.2.1; rw [h3] at h4; exact hnl h4.symm))
                        subst e
                        go_wp2_with fail
                        go_ret
                        exact ⟨rfl, HF.out.then7 HF3.out⟩
            · rw [decide_eq_false hlq] at hle
              have e : R = false := HNo.out (fun h => by have h2 := (HOK.out.1 h).2.1; rw [HAe.out, decide_eq_false hlq] at h2; cases h2)
              subst e
              clear hQ HAe hlq
              go_wp2_with fail
              go_quiet ((go_at_call 25; exact Calls.quiet_of_same (cR _)))
              go_wp2_with fail
              go_ret
              exact ⟨rfl, (HF.out.then7 HF1.out).then7 (drewF _ _)⟩
      · have e : k = n := by omega
        subst e
        have e : R = true := by
          rw [← HR.out]
          exact (treeRight_D L).2 ⟨by rw [HL.out]; exact HNB.out, fun j hj => HT.out j hj (by rw [← HL.out]; exact hj)⟩
        subst e
        go_wp2_with fail
        go_ret
        exact ⟨rfl, HF.out⟩

end Go.Proofs.YtcpjneejlfgkeaaGreatDoor
