/-
  What is proved here: what the document's Write does. Condition: the disk lies in memory, its counts are small, and its files have fewer than 2^40 bytes.
-/
import Derived.Test.YthnneejkbobbcaaRRest
namespace Go.Proofs.Ythnneejkbobbcaa
open Go.RowKit Go.Maps Go.WideMaps
set_option maxRecDepth 100000

def RSt.refuse (R : RSt) (k : List UInt8) (size : Nat) : Int :=
  if right k = false then 1 else if 65536 < size ∨ (get R.L k = none ∧ 512 ≤ R.L.length) then 2 else if R.room < (used R.L : Int) - lenAt R.L k + size then 11 else 0

/-- Write. -/
def RSt.write (R : RSt) (s : ByteArray) (v : Value) (b : List UInt8) : Int × RSt :=
  if R.asked.off then (13, R.asked) else if R.refuse s.data.toList b.length = 0 then (0, R.asked.did ⟨ByteArray.empty, s, v, b⟩) else (R.refuse s.data.toList b.length, R.asked)

theorem RSt.write_no {R : RSt} {s : ByteArray} {v : Value} {b : List UInt8} {e : Int} (ho : R.asked.off = false) (hr : R.refuse s.data.toList b.length = e) (he : e ≠ 0) : R.write s v b = (e, R.asked) := by
  unfold RSt.write
  rw [hr, if_neg (by simp [ho]), if_neg he]

theorem RSt.write_yes {R : RSt} {s : ByteArray} {v : Value} {b : List UInt8} (ho : R.asked.off = false) (hr : R.refuse s.data.toList b.length = 0) : R.write s v b = (0, R.asked.did ⟨ByteArray.empty, s, v, b⟩) := by
  unfold RSt.write
  rw [hr, if_neg (by simp [ho]), if_pos rfl]

theorem RAt.out {w : World} {p : Nat} {vC v : Value} {b : List UInt8} {w1 : World} (hM : Out (RMut p vC) v) (f : Fr (fun k => k = p) w w1) (hv : Bytes w v b) : Bytes w1 v b := hv.kept f (fun ad n c e h0 hm => hM ad n c e h0 (Or.inl hm))

set_option maxHeartbeats 400000 in
theorem rwrite_any (p : Nat) (M : Nat → Prop) (R : RSt) (s : ByteArray) (v : Value) (b : List UInt8) (w : World) (h : RDisk w p M R) (hR : R.fine) (hs : s.size ≤ maxLen) (hv : Bytes w v b) (hM : Out M v)
    (hu : used R.L < 1099511627776) (hb : b.length < 1099511627776) (hr0 : 0 ≤ R.room) (hr1 : R.room ≤ 9223372036854775807) :
    Calls Try.prog 35 #[.pointer (some ⟨p, 0, none⟩), .string s, v] w fun e w' => ∃ v', e = .returned (.int .i64 (R.write s v' b).1) ∧ RStepped M w p (R.write s v' b).2 w' := by
  obtain ⟨vL, vO, vC, h, rfl⟩ := h
  obtain ⟨ba, bc, rfl⟩ := bytes_slice hv
  have hP := rpower_any p _ vO vC R w h
  cases ho : R.asked.off
  · rw [ho] at hP
    have hF := fun w1 (h1 : RAt w1 p vL vO vC R.asked) => rfind_any vL R.L s w1 h1.files (by have := hR.len; omega)
    have hU := fun w1 (h1 : RAt w1 p vL vO vC R.asked) => rused_any p vL vO vC R.asked w1 h1 (by have : R.asked.L = R.L := rfl; have := hR.len; simp_all; omega) hu
    have hC := fun w1 v' (h1 : RAt w1 p vL vO vC R.asked) (hd : Data w1 v' b) => rchange_any p vL vO vC R.asked ⟨ByteArray.empty, s, v', b⟩ w1 h1 hR.asked hd
    have hN := fun w1 => rright_any s w1 hs
    cases hr : right s.data.toList
    · rw [hr] at hN
      have HW : Hid (∀ v', R.write s v' b = (1, R.asked)) := fun v' => RSt.write_no ho (by simp [RSt.refuse, hr]) (by decide)
      clear hF hC hU h hR
      go_enter Try.func35, Try.ntmps35
      go_wp2_with fail
      refine hP.mono ?_
      rintro e w1 ⟨rfl, h1, f1⟩
      clear hP
      go_wp2_with fail
      refine (hN w1).mono ?_
      rintro e w2 ⟨rfl, rfl⟩
      go_wp2
      go_ret
      refine ⟨.slice none 0 0, ?_⟩
      rw [HW.out]
      exact ⟨rfl, _, h1.disk, fr_mut f1, fun k hk => Or.inl hk⟩
    rw [hr] at hN
    have hL0 : R.asked.L = R.L := rfl
    have hlen : (R.L.length : Int) ≤ 100000 := by have := hR.len; omega
    by_cases hbig : 65536 < b.length
    · have HW : Hid (∀ v', R.write s v' b = (2, R.asked)) := fun v' => RSt.write_no ho (by simp [RSt.refuse, hr, hbig]) (by decide)
      clear hC hU h hR
      go_enter Try.func35, Try.ntmps35
      go_wp2_with fail
      refine hP.mono ?_
      rintro e w1 ⟨rfl, h1, f1⟩
      obtain ⟨_, c1, _⟩ := h1.cells
      clear hP
      go_wp2_with fail
      refine (hN w1).mono ?_
      rintro e w2 ⟨rfl, rfl⟩
      go_wp2_with fail
      refine (hF w1 h1).mono ?_
      rintro e w2 ⟨rfl, rfl⟩
      go_wp2
      go_ret
      refine ⟨.slice none 0 0, ?_⟩
      rw [HW.out]
      exact ⟨rfl, _, h1.disk, fr_mut f1, fun k hk => Or.inl hk⟩
    rcases find_get R.L s.data.toList with ⟨e1, e2⟩ | ⟨i, t, e1, e2, e3, e4⟩
    · rw [e1] at hF
      obtain ⟨la, lc, hvL⟩ := row_slice h.files.1
      subst hvL
      by_cases hmany : 512 ≤ R.L.length
      · have HW : Hid (∀ v', R.write s v' b = (2, R.asked)) := fun v' => RSt.write_no ho (by simp [RSt.refuse, hr, e2, hmany]) (by decide)
        clear hC hU h hR e1 e2
        go_enter Try.func35, Try.ntmps35
        go_wp2_with fail
        refine hP.mono ?_
        rintro e w1 ⟨rfl, h1, f1⟩
        obtain ⟨_, c1, _⟩ := h1.cells
        clear hP
        go_wp2_with fail
        refine (hN w1).mono ?_
        rintro e w2 ⟨rfl, rfl⟩
        go_wp2_with fail
        refine (hF w1 h1).mono ?_
        rintro e w2 ⟨rfl, rfl⟩
        go_wp2
        go_ret
        refine ⟨.slice none 0 0, ?_⟩
        rw [HW.out]
        exact ⟨rfl, _, h1.disk, fr_mut f1, fun k hk => Or.inl hk⟩
      have hla : lenAt R.L s.data.toList = 0 := by simp [lenAt, e2]
      have hwr : IntKind.i64.wrap (R.room - (used R.L : Int)) = R.room - used R.L := by rw [IntKind.wrap_i64]; omega
      by_cases hroom : R.room < (used R.L : Int) + b.length
      · have HW : Hid (∀ v', R.write s v' b = (11, R.asked)) := fun v' => RSt.write_no ho (by
          unfold RSt.refuse
          rw [if_neg (by simp [hr]), if_neg (by rintro (h1 | h1); exact hbig h1; exact hmany h1.2), hla, if_pos (by omega)]) (by decide)
        have hlt : R.room - (used R.L : Int) < (b.length : Int) := by omega
        have hmany' : (R.L.length : Int) < 512 := by omega
        clear hC h hR e1 e2 hla hmany hroom
        go_enter Try.func35, Try.ntmps35
        go_wp2_with fail
        refine hP.mono ?_
        rintro e w1 ⟨rfl, h1, f1⟩
        obtain ⟨c0, c1, _⟩ := h1.cells
        change w1.cell? ⟨p, 0, none⟩ = some (.int .i64 R.room) at c0
        clear hP
        go_wp2_with fail
        refine (hN w1).mono ?_
        rintro e w2 ⟨rfl, rfl⟩
        go_wp2_with fail
        refine (hF w1 h1).mono ?_
        rintro e w2 ⟨rfl, rfl⟩
        go_wp2_with fail
        refine (hU w1 h1).mono ?_
        rintro e w2 ⟨rfl, rfl⟩
        go_wp2
        go_ret
        refine ⟨.slice none 0 0, ?_⟩
        rw [HW.out]
        exact ⟨rfl, _, h1.disk, fr_mut f1, fun k hk => Or.inl hk⟩
      · have HW : Hid (∀ v', R.write s v' b = (0, R.asked.did ⟨ByteArray.empty, s, v', b⟩)) := fun v' => RSt.write_yes ho (by
          unfold RSt.refuse
          rw [if_neg (by simp [hr]), if_neg (by rintro (h1 | h1); exact hbig h1; exact hmany h1.2), hla, if_neg (by omega)])
        have hlt : (b.length : Int) ≤ R.room - (used R.L : Int) := by omega
        have hmany' : (R.L.length : Int) < 512 := by omega
        clear h hR e1 e2 hla hmany hroom
        go_enter Try.func35, Try.ntmps35
        go_wp2_with fail
        refine hP.mono ?_
        rintro e w1 ⟨rfl, h1, f1⟩
        obtain ⟨c0, c1, _⟩ := h1.cells
        change w1.cell? ⟨p, 0, none⟩ = some (.int .i64 R.room) at c0
        clear hP
        go_wp2_with fail
        refine (hN w1).mono ?_
        rintro e w2 ⟨rfl, rfl⟩
        go_wp2_with fail
        refine (hF w1 h1).mono ?_
        rintro e w2 ⟨rfl, rfl⟩
        go_wp2_with fail
        refine (hU w1 h1).mono ?_
        rintro e w2 ⟨rfl, rfl⟩
        obtain ⟨wA, hwA⟩ : ∃ wA, w1.alloc (.cells #[] 5) = wA := ⟨_, rfl⟩
        have fA : Fr None' w1 wA := hwA ▸ Fr.alloc None' _ _
        have hE : wA.ownsRow 0 5 1 (.slice (some ⟨w1.heap.size, 0, none⟩) 0 0) 0 [] := hwA ▸ empty_row w1
        have HB : Hid (Bytes wA (.slice ba b.length bc) b ∧ Fr None' w1 wA ∧ RAt w1 p (.slice la R.L.length lc) vO vC R.asked) := ⟨(RAt.out hM f1 hv).kept fA (fun _ _ _ _ _ e => e), fA, h1⟩
        clear h1 fA hF hU hN hM hv
        go_wp2_with (first
          | (at_builtin; refine app_clone rfl _ _ rfl rfl hE rfl HB.out.1 (by omega) ?_; intro v2 w2 d2 g2; obtain ⟨va, vc, hv2⟩ := row_slice d2; subst hv2)
          | fail)
        have f2 : Fr None' w1 w2 := HB.out.2.1.trans (Fr.grown (M := fun i => i = w1.heap.size) g2 (fun k e => by cases e; rfl)) (fun i e => Or.inr (by omega))
        refine (hC w2 _ (HB.out.2.2.fresh f2) d2).mono ?_
        rintro e w3 ⟨rfl, h3⟩
        clear hC d2 g2 hE HB hwA hlen hlt hmany' c0 c1 hwr
        go_wp2
        go_ret
        refine ⟨.slice va b.length vc, ?_⟩
        rw [HW.out]
        exact ⟨rfl, h3.behind (fr_cells f1 (f2.mono (fun _ e => e.elim)))⟩
    · rw [e1] at hF
      have hla : lenAt R.L s.data.toList = t.b.length := by simp [lenAt, e3]
      have hle : t.b.length ≤ used R.L := by
        have h1 := used_step e2
        have h2 := used_take R.L (i + 1)
        omega
      have hwr1 : IntKind.i64.wrap ((used R.L : Int) - t.b.length) = used R.L - t.b.length := by rw [IntKind.wrap_i64]; omega
      have hwr : IntKind.i64.wrap (R.room - ((used R.L : Int) - t.b.length)) = R.room - (used R.L - t.b.length) := by rw [IntKind.wrap_i64]; omega
      have k0 : (0 : Int) ≤ (i : Int) := by omega
      have k1 : (i : Int) < (R.L.length : Int) := by have := (List.getElem?_eq_some_iff.1 e2).1; omega
      have HI : Hid (R.L[i]? = some t) := e2
      obtain ⟨la, lc, hvL⟩ := row_slice h.files.1
      subst hvL
      by_cases hroom : R.room < (used R.L : Int) - t.b.length + b.length
      · have HW : Hid (∀ v', R.write s v' b = (11, R.asked)) := fun v' => RSt.write_no ho (by
          unfold RSt.refuse
          rw [if_neg (by simp [hr]), if_neg (by rintro (h1 | h1); exact hbig h1; rw [e3] at h1; cases h1.1), hla, if_pos (by omega)]) (by decide)
        have hlt : R.room - ((used R.L : Int) - t.b.length) < (b.length : Int) := by omega
        clear hC h hR e1 e2 e3 e4 hla hroom hle
        go_enter Try.func35, Try.ntmps35
        go_wp2_with fail
        refine hP.mono ?_
        rintro e w1 ⟨rfl, h1, f1⟩
        obtain ⟨c0, c1, _⟩ := h1.cells
        change w1.cell? ⟨p, 0, none⟩ = some (.int .i64 R.room) at c0
        obtain ⟨la', lc', heq, hcl⟩ := h1.files.cells
        cases heq
        obtain ⟨g, hg, _, d1, hD⟩ := hcl i t HI.out
        subst hg
        obtain ⟨ta, tc, htv⟩ := row_slice hD
        rw [htv] at d1
        clear hcl hD htv
        clear hP
        go_wp2_with fail
        refine (hN w1).mono ?_
        rintro e w2 ⟨rfl, rfl⟩
        go_wp2_with fail
        refine (hF w1 h1).mono ?_
        rintro e w2 ⟨rfl, rfl⟩
        go_wp2_with fail
        refine (hU w1 h1).mono ?_
        rintro e w2 ⟨rfl, rfl⟩
        go_wp2
        go_ret
        refine ⟨.slice none 0 0, ?_⟩
        rw [HW.out]
        exact ⟨rfl, _, h1.disk, fr_mut f1, fun k hk => Or.inl hk⟩
      · have HW : Hid (∀ v', R.write s v' b = (0, R.asked.did ⟨ByteArray.empty, s, v', b⟩)) := fun v' => RSt.write_yes ho (by
          unfold RSt.refuse
          rw [if_neg (by simp [hr]), if_neg (by rintro (h1 | h1); exact hbig h1; rw [e3] at h1; cases h1.1), hla, if_neg (by omega)])
        have hlt : (b.length : Int) ≤ R.room - ((used R.L : Int) - t.b.length) := by omega
        clear h hR e1 e2 e3 e4 hla hroom hle
        go_enter Try.func35, Try.ntmps35
        go_wp2_with fail
        refine hP.mono ?_
        rintro e w1 ⟨rfl, h1, f1⟩
        obtain ⟨c0, c1, _⟩ := h1.cells
        change w1.cell? ⟨p, 0, none⟩ = some (.int .i64 R.room) at c0
        obtain ⟨la', lc', heq, hcl⟩ := h1.files.cells
        cases heq
        obtain ⟨g, hg, _, d1, hD⟩ := hcl i t HI.out
        subst hg
        obtain ⟨ta, tc, htv⟩ := row_slice hD
        rw [htv] at d1
        clear hcl hD htv
        clear hP
        go_wp2_with fail
        refine (hN w1).mono ?_
        rintro e w2 ⟨rfl, rfl⟩
        go_wp2_with fail
        refine (hF w1 h1).mono ?_
        rintro e w2 ⟨rfl, rfl⟩
        go_wp2_with fail
        refine (hU w1 h1).mono ?_
        rintro e w2 ⟨rfl, rfl⟩
        obtain ⟨wA, hwA⟩ : ∃ wA, w1.alloc (.cells #[] 5) = wA := ⟨_, rfl⟩
        have fA : Fr None' w1 wA := hwA ▸ Fr.alloc None' _ _
        have hE : wA.ownsRow 0 5 1 (.slice (some ⟨w1.heap.size, 0, none⟩) 0 0) 0 [] := hwA ▸ empty_row w1
        have HB : Hid (Bytes wA (.slice ba b.length bc) b ∧ Fr None' w1 wA ∧ RAt w1 p (.slice (some ⟨g, 0, none⟩) R.L.length lc) vO vC R.asked) := ⟨(RAt.out hM f1 hv).kept fA (fun _ _ _ _ _ e => e), fA, h1⟩
        clear h1 fA hF hU hN hM hv
        go_wp2_with (first
          | (at_builtin; refine app_clone rfl _ _ rfl rfl hE rfl HB.out.1 (by omega) ?_; intro v2 w2 d2 g2; obtain ⟨va, vc, hv2⟩ := row_slice d2; subst hv2)
          | fail)
        have f2 : Fr None' w1 w2 := HB.out.2.1.trans (Fr.grown (M := fun i => i = w1.heap.size) g2 (fun k e => by cases e; rfl)) (fun i e => Or.inr (by omega))
        refine (hC w2 _ (HB.out.2.2.fresh f2) d2).mono ?_
        rintro e w3 ⟨rfl, h3⟩
        clear hC d2 g2 hE HB hwA hlen hlt c0 c1 hwr
        go_wp2
        go_ret
        refine ⟨.slice va b.length vc, ?_⟩
        rw [HW.out]
        exact ⟨rfl, h3.behind (fr_cells f1 (f2.mono (fun _ e => e.elim)))⟩
  · rw [ho] at hP
    have HW : Hid (∀ v', R.write s v' b = (13, R.asked)) := fun v' => by unfold RSt.write; rw [if_pos ho]
    clear h hR
    go_enter Try.func35, Try.ntmps35
    go_wp2_with fail
    refine hP.mono ?_
    rintro e w1 ⟨rfl, h1, f1⟩
    clear hP
    go_wp2
    go_ret
    refine ⟨.slice none 0 0, ?_⟩
    rw [HW.out]
    exact ⟨rfl, _, h1.disk, fr_mut f1, fun k hk => Or.inl hk⟩
end Go.Proofs.Ythnneejkbobbcaa
