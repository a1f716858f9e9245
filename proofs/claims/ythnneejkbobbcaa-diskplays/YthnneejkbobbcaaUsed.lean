/-
  What is proved here: what Used answers, whatever the order in which a map is ranged over. Condition: the files have fewer than 2^62 bytes together.
-/
import Derived.Test.YthnneejkbobbcaaSmall
namespace Go.Proofs.Ythnneejkbobbcaa
open Go.RowKit Go.Maps Go.WideMaps
set_option maxRecDepth 100000

theorem keyOf_string_inv {key : Value} {kl : Lit} (h : keyOf Try.prog 9 key = some kl) : ∃ x : ByteArray, key = .string x ∧ kl = .string x.data.toList := by
  cases key <;> simp [keyOf, Try.underlying9, mapKey] at h
  exact ⟨_, rfl, h.2.symm⟩

theorem met_le (left : Lit → Bool) (T : List Tri) : met left T ≤ used T := by
  unfold met used
  induction T with
  | nil => simp
  | cons x r ih =>
    rw [List.filter_cons]
    split
    · simp; omega
    · simp; omega

theorem Data.len {w : World} {a : Option Addr} {n c : Nat} {b : List UInt8} (h : Data w (.slice a n c) b) : n = b.length := by
  rcases h.2 with ⟨hv, h0⟩ | ⟨g, cap, cur, hv, _⟩
  · cases hv; exact h0.symm
  · cases hv; rfl

/-- What a range over the files has met. -/
theorem hit {T : List Tri} {k : List UInt8} {v : Value} {ps : List MemPlace} {y : DataW Value × List MemPlace} (hv : heldR v = some y) (hy : y = (y.1, ps)) (hat : ∀ zd, (toD T).atKey (.string k) zd = y.1) : ∃ t, get T k = some t ∧ t.v = v := by
  have e := heldR_eq (hv.trans (by rw [hy]))
  have h0 := hat .nil
  rw [atKey_toD] at h0
  cases hg : get T k with
  | none => rw [hg, e] at h0; simp at h0
  | some t => rw [hg, e] at h0; simp at h0; exact ⟨t, rfl, h0⟩

def None' (_ : Nat) : Prop := False

set_option maxHeartbeats 1000000 in
theorem used_any (p bf bs : Nat) (ca : Value) (S : St) (w : World) (h : DiskAt w p bf bs ca S) (hu : used S.F < 4611686018427387904) :
    Calls Try.prog 13 #[.pointer (some ⟨p, 0, none⟩)] w fun e w' => e = .returned (.int .i64 (used S.F)) ∧ Fr None' w w' := by
  obtain ⟨c0, c1, c2, c3, c4, c5, c6, z⟩ := h.cells
  have hown := h.files
  have hA := apart_of_tidy (hown.tidy lawS)
  have hD := h.dataF
  have hlt := hown.lt
  clear z h c0 c2 c3 c4 c5 c6
  go_enter Try.func13, Try.ntmps13
  go_wp2_with (first
    | (at_range; refine wpList_range_own _ rfl _ 56 rfl 9 33 lawS Try.underlying56 _ bf S.n _ rfl hown ?_; intro w0 hrg0 hg0 hs0)
    | go_in)
  go_frame
  go_loopw [3] (fun n wr => ∃ left cnt, wr.ranges Try.prog 9 heldR bf w.heap.size S.n (toD S.F) left cnt ∧ n = .int .i64 (met left S.F) ∧ w.grownBy wr none) (fun _ wr => wr.rangeLeft bf w.heap.size)
  case atStart => exact ⟨_, _, hrg0, by rw [met_start]; rfl, hg0⟩
  case round =>
    obtain ⟨left, cnt, hrg, rfl, hgw⟩ := hrel
    have hml := met_le left S.F
    go_wp2_with (first
      | (at_next; refine wpList_next_ranges _ rfl _ rfl 9 lawS heldR Value.string (fun c : Option Addr × Nat × Nat => Value.slice c.1 c.2.1 c.2.2) (fun key kl hk => by obtain ⟨x, hx, _⟩ := keyOf_string_inv hk; exact ⟨x, hx⟩) (fun v y hv => heldR_inv hv) bf w.heap.size S.n _ _ _ rfl hrg ?_ ?_)
      | go_in)
    · intro _ hl0
      have he := met_end (T := S.F) hl0
      go_wp2
      go_ret
      exact ⟨by rw [← he]; rfl, Fr.grown hgw (by simp)⟩
    · intro x a n cap kl d ps w1 cnt1 hkey hlk hv hat hrg1 hlt1 hg1 hs1 hen
      obtain ⟨x', ex, hkl⟩ := keyOf_string_inv hkey
      cases ex
      subst hkl
      obtain ⟨t, ht, htv⟩ := hit (ps := ps) hv rfl hat
      obtain ⟨htm, htk⟩ := get_mem ht
      have hd := hD t htm
      rw [htv] at hd
      have hn := hd.len
      have hst := met_step hA htm (by rw [htk]; exact hlk)
      rw [htk] at hst
      have hml2 := met_le (fun z => left z && !z.sameKey (.string x.data.toList)) S.F
      have Hst : Hid (met (fun z => left z && !z.sameKey (.string x.data.toList)) S.F = met left S.F + n) := by rw [hn]; exact hst
      have hb : met left S.F + n < 4611686018427387904 := by rw [hn]; omega
      clear hst hn hd htv ht htm htk hat hv hkey hlk
      go_wp2
      go_roundw
      case rel =>
        refine ⟨_, _, hrg1, ?_, hgw.andThen hg1 (fun j e => by cases e; exact Or.inl (Nat.le_refl _))⟩
        rw [Hst.out]
        go_num
      case measure => rw [hrg1.left_eq, hrg.left_eq]; omega
end Go.Proofs.Ythnneejkbobbcaa
