/-
  What is proved here: what the document's Right and Find answer. Condition: the files lie in memory.
-/
import Derived.Test.YthnneejkbobbcaaSame
import Derived.Test.YthnneejkbobbcaaOf
namespace Go.Proofs.Ythnneejkbobbcaa
open Go.RowKit Go.Maps Go.WideMaps
set_option maxRecDepth 100000

/-- The place of a name, or -1. -/
def findAt (L : List Tri) (k : List UInt8) : Int := match L.findIdx? (fun t => t.k = k) with | some i => i | none => -1

theorem findAt_none {L : List Tri} {k : List UInt8} (h : ∀ t ∈ L, t.k ≠ k) : findAt L k = -1 := by
  unfold findAt
  rw [List.findIdx?_eq_none_iff.2 (fun t ht => by simpa using h t ht)]

theorem findAt_some {L : List Tri} {k : List UInt8} {i : Nat} {t : Tri} (ht : L[i]? = some t) (hk : t.k = k) (hb : ∀ j u, j < i → L[j]? = some u → u.k ≠ k) : findAt L k = i := by
  unfold findAt
  have hi := (List.getElem?_eq_some_iff.1 ht)
  rw [(List.findIdx?_eq_some_iff_getElem (xs := L) (p := fun t => decide (t.k = k)) (i := i)).2 ⟨hi.1, by rw [hi.2]; simpa using hk, fun j hj => by
    have := hb j (L[j]'(Nat.lt_trans hj hi.1)) hj (by simp)
    simpa using this⟩]

set_option maxHeartbeats 4000000 in
theorem rfind_any (v : Value) (L : List Tri) (s : ByteArray) (w : World) (h : FilesRes w v L) (hl : L.length ≤ 1000000) :
    Calls Try.prog 31 #[v, .string s] w fun e w' => e = .returned (.int .i64 (findAt L s.data.toList)) ∧ w = w' := by
  obtain ⟨a, c, rfl, hc⟩ := h.cells
  have hl' : (L.length : Int) ≤ 1000000 := by omega
  clear h
  go_enter Try.func31, Try.ntmps31
  go_wp2_with fail
  go_loop [5] (fun i => ∃ j : Nat, j ≤ L.length ∧ i = .int .i64 j ∧ ∀ x u, x < j → L[x]? = some u → u.k ≠ s.data.toList) (fun i => L.length - (intOf i).toNat)
  case atStart => exact ⟨0, Nat.zero_le _, rfl, fun x u hx => by omega⟩
  case round =>
    obtain ⟨j, hj, rfl, hno⟩ := hrel
    have HN : Hid (∀ x u, x < j → L[x]? = some u → u.k ≠ s.data.toList) := hno
    clear hno
    by_cases hlt : j < L.length
    · obtain ⟨t, ht⟩ : ∃ t, L[j]? = some t := ⟨L[j], by simp [hlt]⟩
      obtain ⟨g, rfl, c0, c1, _⟩ := hc j t ht
      have HT : Hid (L[j]? = some t) := ht
      have HE : (t.k == s.toList) = decide (t.k = s.data.toList) := by
        rw [ByteArray.toList_eq]
        generalize s.data.toList = b
        by_cases h : t.k = b <;> simp [h]
      have i0 : (0 : Int) ≤ (j : Int) := by omega
      have i1 : (j : Int) < (L.length : Int) := by omega
      clear hc ht c1
      by_cases hk : t.k = s.data.toList
      · have tk : (t.k == s.toList) = true := by rw [HE]; simpa using hk
        have HK : Hid (t.k = s.data.toList) := hk
        clear HE hk
        go_wp2
        go_ret
        exact ⟨by rw [findAt_some HT.out HK.out HN.out]; rfl, rfl⟩
      · have tk : (t.k == s.toList) = false := by rw [HE]; simpa using hk
        have HK : Hid (t.k ≠ s.data.toList) := hk
        clear HE hk
        go_wp2
        go_round
        case rel =>
          refine ⟨j + 1, by omega, by go_num, fun x u hx hu => ?_⟩
          by_cases e : x = j
          · subst e
            have := HT.out
            rw [hu] at this; cases this
            exact HK.out
          · exact HN.out x u (by omega) hu
        case measure => simp [intOf]; omega
    · have hjl : j = L.length := by omega
      subst hjl
      clear hc
      go_wp2
      go_ret
      refine ⟨?_, rfl⟩
      rw [findAt_none (fun t ht => by
        obtain ⟨x, hx, rfl⟩ := List.mem_iff_getElem.1 ht
        exact HN.out x _ hx (by simp))]
      rfl

theorem rright_any (s : ByteArray) (w : World) (hs : s.size ≤ maxLen) : Calls Try.prog 30 #[.string s] w fun e w' => e = .returned (.bool (right s.data.toList)) ∧ w = w' := by
  have e : s.data.toList.length = s.size := by cases s; rfl
  unfold maxLen at hs
  by_cases h1 : s.size < 1
  · have hr := right_no (Or.inl h1)
    go_enter Try.func30, Try.ntmps30
    go_wp2
    go_ret
    exact ⟨by first | rfl | (rw [hr]; rfl), rfl⟩
  by_cases h2 : 70 < s.size
  · have hr := right_no (Or.inr h2)
    go_enter Try.func30, Try.ntmps30
    go_wp2
    go_ret
    exact ⟨by first | rfl | (rw [hr]; rfl), rfl⟩
  have hR : Hid (right s.data.toList = s.data.toList.all okc) := by
    unfold Hid right; rw [e]
    simp; omega
  clear e
  go_enter Try.func30, Try.ntmps30
  go_wp2_with fail
  go_loop [3] (fun i => ∃ k : Nat, k ≤ s.size ∧ i = .int .i64 k ∧ (s.data.toList.take k).all okc = true) (fun i => s.size - (intOf i).toNat)
  case atStart => exact ⟨0, Nat.zero_le _, rfl, rfl⟩
  case round =>
    obtain ⟨k, hk, rfl, hall⟩ := hrel
    have HA : Hid ((s.data.toList.take k).all okc = true) := hall
    clear hall
    by_cases hlt : k < s.size
    · have i0 : (0 : Int) ≤ (k : Int) := by omega
      have i1 : (k : Int) < (s.size : Int) := by omega
      go_wp2
      all_goals first
        | (go_ret; refine ⟨?_, rfl⟩; rw [hR.out, all_no hlt (okc_f (by omega))]; rfl)
        | exact ⟨⟨k + 1, by omega, by go_num, all_step hlt HA.out (okc_t (by omega))⟩, by simp [intOf]; omega⟩
        | (rename_i h; simp only [bne_eq_false_iff_eq] at h; exact ⟨⟨k + 1, by omega, by go_num, all_step hlt HA.out (okc_t (by omega))⟩, by simp [intOf]; omega⟩)
    · go_wp2
      go_ret
      refine ⟨?_, rfl⟩
      have ht := HA.out
      rw [List.take_of_length_le (by rw [show s.data.toList.length = s.size from by cases s; rfl]; omega)] at ht
      rw [hR.out, ht]
      rfl

end Go.Proofs.Ythnneejkbobbcaa
