/-
  What is proved here: what the document's Used, Read, change, Sync and Fuse do. Condition: the disk lies in memory, and its counts are small.
-/
import Derived.Test.YthnneejkbobbcaaRDisk
import Derived.Laws.AppendOwnNone
namespace Go.Proofs.Ythnneejkbobbcaa
open Go.RowKit Go.Maps Go.WideMaps
set_option maxRecDepth 100000

theorem used_step {L : List Tri} {j : Nat} {t : Tri} (ht : L[j]? = some t) : used (L.take (j + 1)) = used (L.take j) + t.b.length := by
  rw [List.take_add_one, ht]
  simp [used]

theorem used_take (L : List Tri) (j : Nat) : used (L.take j) ≤ used L := by
  have h : used L = used (L.take j) + used (L.drop j) := by
    unfold used
    rw [← List.sum_append_nat, ← List.map_append, List.take_append_drop]
  omega

set_option maxHeartbeats 4000000 in
theorem rused_any (p : Nat) (vL vO vC : Value) (R : RSt) (w : World) (h : RAt w p vL vO vC R) (hl : R.L.length ≤ 1000000) (hu : used R.L < 1099511627776) :
    Calls Try.prog 14 #[.pointer (some ⟨p, 0, none⟩)] w fun e w' => e = .returned (.int .i64 (used R.L)) ∧ w = w' := by
  obtain ⟨_, c1, _⟩ := h.cells
  obtain ⟨a, c, rfl, hc⟩ := h.files.cells
  have hl' : (R.L.length : Int) ≤ 1000000 := by omega
  clear h
  go_enter Try.func14, Try.ntmps14
  go_wp2_with fail
  go_loopw [3, 4] (fun n i wr => ∃ j : Nat, j ≤ R.L.length ∧ i = .int .i64 j ∧ n = .int .i64 (used (R.L.take j)) ∧ wr = w) (fun _ i _ => R.L.length - (intOf i).toNat)
  case atStart => exact ⟨0, Nat.zero_le _, rfl, rfl, rfl⟩
  case round =>
    obtain ⟨j, hj, rfl, rfl, rfl⟩ := hrel
    by_cases hlt : j < R.L.length
    · obtain ⟨t, ht⟩ : ∃ t, R.L[j]? = some t := ⟨R.L[j], by simp [hlt]⟩
      obtain ⟨g, rfl, d0, d1, hD⟩ := hc j t ht
      obtain ⟨ta, tc, htv⟩ := row_slice hD
      rw [htv] at d1
      have hst := used_step ht
      have hle := used_take R.L (j + 1)
      obtain ⟨u, hU⟩ : ∃ u, used (R.L.take j) = u := ⟨_, rfl⟩
      rw [hU] at hst ⊢
      have k0 : (0 : Int) ≤ (j : Int) := by omega
      have k1 : (j : Int) < (R.L.length : Int) := by omega
      have k2 : IntKind.i64.wrap ((u : Int) + t.b.length) = u + t.b.length := by rw [IntKind.wrap_i64]; omega
      have HS : Hid (used (R.L.take (j + 1)) = u + t.b.length) := hst
      clear hc ht hD htv d0 hst hU hle
      go_wp2_with fail
      exact ⟨⟨j + 1, by omega, by go_num, by rw [HS.out]; rfl, trivial⟩, by simp [intOf]; omega⟩
    · have hjl : j = R.L.length := by omega
      subst hjl
      rw [List.take_length]
      clear hc
      go_wp2
      go_ret
      exact ⟨rfl, rfl⟩

/-- 'append([]byte{}, x...)'. -/
theorem app_clone {ops : Array Oper} {rest : List Oper} {o : Oper} {a : Act} {w : World} {Q : Exit → Act → World → Prop} (hgd : o.guard = none) (s x : Operand)
    (ho : o.op = .call { callee := .builtin .append, args := #[s, x], argTypes := #[33, 33] })
    {v sv : Value} {b : List UInt8} (hs : a.eval s = v) (hown : w.ownsRow 0 5 1 v 0 []) (hx : a.eval x = sv) (hd : Bytes w sv b) (hb : b.length ≤ 70368744177664)
    (h : ∀ v' w', Data w' v' b → w.grownBy w' v.ownBlock → wpList Try.prog ops Q rest (a.put o.dst v') w') : wpList Try.prog ops Q (o :: rest) a w := by
  obtain ⟨i0, hi, hz0, hz1, hz2⟩ := info_parts Try.infoU
  rcases hd with ⟨rfl, rfl⟩ | ⟨ad, c, rfl, hc⟩
  · exact wpList_append_own_none hgd s x 33 ho 0 5 i0 1 Try.underlying33 hi v 0 [] hs hown hx (h v w hown ⟨rfl, rfl, rfl, Nat.le_refl _, fun _ _ _ => rfl⟩)
  · have hlen : (u8s b).length = b.length * 1 := by simp [u8s]
    refine wpList_append_own_at _ hgd s x 33 ho 0 5 i0 (.int .u8 0) 1 1 Try.underlying33 hi hz0 hz1 hz2 rfl (by decide) v 0 [] hs hown ad b.length c (u8s b) hx hlen hc (u8s_one b) (by unfold maxLen; omega) (by omega) (Nat.zero_le _) ?_
    intro v' w' h2 h3 _ _
    exact h v' w' (by simpa [Data] using h2) h3

theorem empty_row (w : World) : (w.alloc (.cells #[] 5)).ownsRow 0 5 1 (.slice (some ⟨w.heap.size, 0, none⟩) 0 0) 0 [] :=
  ⟨rfl, Or.inr ⟨w.heap.size, 0, #[], rfl, Nat.zero_le _, (MapKept.heap_alloc w _).1, Nat.le_refl _, Nat.zero_le _, rfl, rfl⟩⟩

/-- Read. -/
def RSt.read (R : RSt) (k : List UInt8) : List UInt8 × Int :=
  if R.off then ([], 13) else match get R.L k with
    | none => ([], 12)
    | some t => (t.b, 0)

set_option maxHeartbeats 4000000 in
theorem rread_any (p : Nat) (vL vO vC : Value) (R : RSt) (s : ByteArray) (w : World) (h : RAt w p vL vO vC R) (hl : R.L.length ≤ 1000000) (hu : used R.L < 1099511627776) :
    Calls Try.prog 12 #[.pointer (some ⟨p, 0, none⟩), .string s] w fun e w' => ∃ v, e = .returned (.tuple #[v, .int .i64 (R.read s.data.toList).2]) ∧ Data w' v (R.read s.data.toList).1 ∧ Fr None' w w' := by
  obtain ⟨_, c1, _, _, _, _, _, c7, _⟩ := h.cells
  unfold RSt.read
  cases ho : R.off
  · rw [ho] at c7
    have hF := rfind_any vL R.L s w h.files hl
    rcases find_get R.L s.data.toList with ⟨e1, e2⟩ | ⟨i, t, e1, e2, e3, e4⟩
    · rw [e1] at hF
      rw [e2]
      clear h e1 e2
      go_enter Try.func12, Try.ntmps12
      go_wp2_with fail
      refine hF.mono ?_
      rintro e w1 ⟨rfl, rfl⟩
      go_wp2
      go_ret2
      exact ⟨_, rfl, Data.nil _, Fr.refl _ _⟩
    · rw [e1] at hF
      rw [e3]
      obtain ⟨a, c, rfl, hcl⟩ := h.files.cells
      obtain ⟨g, rfl, d0, d1, hD⟩ := hcl i t e2
      have hlt := (List.getElem?_eq_some_iff.1 e2).1
      have k0 : (0 : Int) ≤ (i : Int) := by omega
      have k1 : (i : Int) < (R.L.length : Int) := by omega
      have hb : t.b.length ≤ 70368744177664 := by
        have h1 : t.b.length ≤ used R.L := by
          have := used_step e2
          have := used_take R.L (i + 1)
          omega
        omega
      obtain ⟨wA, hwA⟩ : ∃ wA, w.alloc (.cells #[] 5) = wA := ⟨_, rfl⟩
      have fA : Fr None' w wA := hwA ▸ Fr.alloc None' _ _
      have hE : wA.ownsRow 0 5 1 (.slice (some ⟨w.heap.size, 0, none⟩) 0 0) 0 [] := hwA ▸ empty_row w
      have a1 := fA.cell c1
      have b1 := fA.cell d1
      have HD : Hid (Bytes wA t.v t.b ∧ t.b.length ≤ 70368744177664 ∧ Fr None' w wA ∧ wA.heap.size = w.heap.size + 1) := ⟨Data.bytes (fA.row hD (fun _ _ e => e)), hb, fA, by rw [← hwA]; exact Array.size_push _⟩
      clear h e1 e2 e3 e4 hcl d0 hD hb fA d1
      go_enter Try.func12, Try.ntmps12
      go_wp2_with fail
      refine hF.mono ?_
      rintro e w1 ⟨rfl, rfl⟩
      clear hF
      go_wp2_with (first
        | (at_builtin; refine app_clone rfl _ _ rfl rfl hE rfl HD.out.1 HD.out.2.1 ?_; intro v2 w2 d2 g2)
        | go_in)
      all_goals try go_wp2
      go_ret2
      refine ⟨_, rfl, d2, HD.out.2.2.1.trans (Fr.grown (M := fun i => i = w.heap.size) g2 (fun k e => by cases e; rfl)) (fun i e => Or.inr (by omega))⟩
  · rw [ho] at c7
    clear h
    go_enter Try.func12, Try.ntmps12
    go_wp2
    go_ret2
    exact ⟨_, rfl, Data.nil _, Fr.refl _ _⟩
end Go.Proofs.Ythnneejkbobbcaa
