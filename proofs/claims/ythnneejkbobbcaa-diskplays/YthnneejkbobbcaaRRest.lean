/-
  What is proved here: what the document's Rename and Remove do. Condition: the disk lies in memory, and its counts are small.
-/
import Derived.Test.YthnneejkbobbcaaRActs
namespace Go.Proofs.Ythnneejkbobbcaa
open Go.RowKit Go.Maps Go.WideMaps
set_option maxRecDepth 100000

theorem RSt.fine.asked {R : RSt} (h : R.fine) : R.asked.fine := ⟨h.d0, h.d1, h.l0, h.l1, h.len, h.chs⟩

/-- Rename. -/
def RSt.rename (R : RSt) (a b : ByteArray) : Int × RSt :=
  if R.asked.off then (13, R.asked) else if right b.data.toList = false then (1, R.asked) else if (get R.L a.data.toList).isSome = false then (12, R.asked) else (0, R.asked.did ⟨a, b, .slice none 0 0, []⟩)

/-- Remove. -/
def RSt.remove (R : RSt) (a : ByteArray) : Int × RSt :=
  if R.asked.off then (13, R.asked) else if (get R.L a.data.toList).isSome = false then (12, R.asked) else (0, R.asked.did ⟨a, ByteArray.empty, .slice none 0 0, []⟩)

theorem RStepped.behind {w w1 w2 : World} {p : Nat} {vC : Value} {R' : RSt} (f : Fr (fun k => k = p) w w1) (h : RStepped (RMut p vC) w1 p R' w2) : RStepped (RMut p vC) w p R' w2 := by
  obtain ⟨M', h1, h2, h3⟩ := h
  exact ⟨M', h1, (fr_mut f).trans h2 (fun _ e => Or.inl e), fun k hk => (h3 k hk).imp id (fun e => Nat.le_trans f.size e)⟩

set_option maxHeartbeats 2000000 in
theorem rremove_any (p : Nat) (M : Nat → Prop) (R : RSt) (s : ByteArray) (w : World) (h : RDisk w p M R) (hR : R.fine) :
    Calls Try.prog 37 #[.pointer (some ⟨p, 0, none⟩), .string s] w fun e w' => e = .returned (.int .i64 (R.remove s).1) ∧ RStepped M w p (R.remove s).2 w' := by
  obtain ⟨vL, vO, vC, h, rfl⟩ := h
  have hP := rpower_any p _ vO vC R w h
  unfold RSt.remove
  cases ho : R.asked.off
  · rw [ho] at hP
    have hF := fun w1 (h1 : RAt w1 p vL vO vC R.asked) => rfind_any vL R.L s w1 h1.files (by have := hR.len; omega)
    have hC := fun w1 (h1 : RAt w1 p vL vO vC R.asked) => rchange_any p vL vO vC R.asked ⟨s, ByteArray.empty, .slice none 0 0, []⟩ w1 h1 hR.asked (Data.nil _)
    clear h hR
    rcases find_get R.L s.data.toList with ⟨e1, e2⟩ | ⟨i, t, e1, e2, e3, e4⟩
    · rw [e1] at hF
      rw [e2]
      clear e1 e2 hC
      go_enter Try.func37, Try.ntmps37
      go_wp2_with fail
      refine hP.mono ?_
      rintro e w1 ⟨rfl, h1, f1⟩
      obtain ⟨_, c1, _⟩ := h1.cells
      clear hP
      go_wp2_with fail
      refine (hF w1 h1).mono ?_
      rintro e w2 ⟨rfl, rfl⟩
      go_wp2
      go_ret
      exact ⟨rfl, _, h1.disk, fr_mut f1, fun k hk => Or.inl hk⟩
    · rw [e1] at hF
      rw [e3]
      clear e1 e2 e3 e4
      go_enter Try.func37, Try.ntmps37
      go_wp2_with fail
      refine hP.mono ?_
      rintro e w1 ⟨rfl, h1, f1⟩
      obtain ⟨_, c1, _⟩ := h1.cells
      clear hP
      go_wp2_with fail
      refine (hF w1 h1).mono ?_
      rintro e w2 ⟨rfl, rfl⟩
      go_wp2_with fail
      refine (hC w1 h1).mono ?_
      rintro e w3 ⟨rfl, h3⟩
      go_wp2
      go_ret
      exact ⟨rfl, h3.behind f1⟩
  · rw [ho] at hP
    clear h hR
    go_enter Try.func37, Try.ntmps37
    go_wp2_with fail
    refine hP.mono ?_
    rintro e w1 ⟨rfl, h1, f1⟩
    clear hP
    go_wp2
    go_ret
    exact ⟨rfl, _, h1.disk, fr_mut f1, fun k hk => Or.inl hk⟩

set_option maxHeartbeats 2000000 in
theorem rrename_any (p : Nat) (M : Nat → Prop) (R : RSt) (s s' : ByteArray) (w : World) (h : RDisk w p M R) (hR : R.fine) (hs : s'.size ≤ maxLen) :
    Calls Try.prog 36 #[.pointer (some ⟨p, 0, none⟩), .string s, .string s'] w fun e w' => e = .returned (.int .i64 (R.rename s s').1) ∧ RStepped M w p (R.rename s s').2 w' := by
  obtain ⟨vL, vO, vC, h, rfl⟩ := h
  have hP := rpower_any p _ vO vC R w h
  unfold RSt.rename
  cases ho : R.asked.off
  · rw [ho] at hP
    have hF := fun w1 (h1 : RAt w1 p vL vO vC R.asked) => rfind_any vL R.L s w1 h1.files (by have := hR.len; omega)
    have hC := fun w1 (h1 : RAt w1 p vL vO vC R.asked) => rchange_any p vL vO vC R.asked ⟨s, s', .slice none 0 0, []⟩ w1 h1 hR.asked (Data.nil _)
    have hN := fun w1 => rright_any s' w1 hs
    clear h hR
    cases hr : right s'.data.toList
    · rw [hr] at hN
      clear hF hC
      go_enter Try.func36, Try.ntmps36
      go_wp2_with fail
      refine hP.mono ?_
      rintro e w1 ⟨rfl, h1, f1⟩
      clear hP
      go_wp2_with fail
      refine (hN w1).mono ?_
      rintro e w2 ⟨rfl, rfl⟩
      go_wp2
      go_ret
      exact ⟨rfl, _, h1.disk, fr_mut f1, fun k hk => Or.inl hk⟩
    rw [hr] at hN
    rcases find_get R.L s.data.toList with ⟨e1, e2⟩ | ⟨i, t, e1, e2, e3, e4⟩
    · rw [e1] at hF
      rw [e2]
      clear e1 e2 hC
      go_enter Try.func36, Try.ntmps36
      go_wp2_with fail
      refine hP.mono ?_
      rintro e w1 ⟨rfl, h1, f1⟩
      obtain ⟨_, c1, _⟩ := h1.cells
      clear hP
      go_wp2_with fail
      refine (hN w1).mono ?_
      rintro e w2 ⟨rfl, rfl⟩
      go_wp2_with fail
      refine (hF w1 h1).mono ?_
      rintro e w2 ⟨rfl, rfl⟩
      go_wp2
      go_ret
      exact ⟨rfl, _, h1.disk, fr_mut f1, fun k hk => Or.inl hk⟩
    · rw [e1] at hF
      rw [e3]
      clear e1 e2 e3 e4
      go_enter Try.func36, Try.ntmps36
      go_wp2_with fail
      refine hP.mono ?_
      rintro e w1 ⟨rfl, h1, f1⟩
      obtain ⟨_, c1, _⟩ := h1.cells
      clear hP
      go_wp2_with fail
      refine (hN w1).mono ?_
      rintro e w2 ⟨rfl, rfl⟩
      go_wp2_with fail
      refine (hF w1 h1).mono ?_
      rintro e w2 ⟨rfl, rfl⟩
      go_wp2_with fail
      refine (hC w1 h1).mono ?_
      rintro e w3 ⟨rfl, h3⟩
      go_wp2
      go_ret
      exact ⟨rfl, h3.behind f1⟩
  · rw [ho] at hP
    clear h hR
    go_enter Try.func36, Try.ntmps36
    go_wp2_with fail
    refine hP.mono ?_
    rintro e w1 ⟨rfl, h1, f1⟩
    clear hP
    go_wp2
    go_ret
    exact ⟨rfl, _, h1.disk, fr_mut f1, fun k hk => Or.inl hk⟩
end Go.Proofs.Ythnneejkbobbcaa
