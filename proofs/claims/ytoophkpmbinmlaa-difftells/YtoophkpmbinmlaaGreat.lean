/-
  What is proved here: what great of the statements answers. Conditions: the rows lie in memory, and are no longer than a slice may be.
-/
import Derived.Test.YtoophkpmbinmlaaHunks
namespace Go.Proofs.Ytoophkpmbinmlaa
open Go.RowKit
set_option maxRecDepth 100000

/-- Of few lines the first k make no more than z. -/
def Few (na nb : Nat) (a : List ByteArray) (k : Nat) (z : Int) : Prop := na ≤ 200 → nb ≤ 200 → 0 ≤ z ∧ ∀ s ∈ a.take k, (min s.size 3000 : Nat) ≤ z

theorem Few.more {na nb : Nat} {a : List ByteArray} {k : Nat} {z z' : Int} (h : Few na nb a k z) (hk : k < a.length) (hz : z' = z + (min a[k].size 3000 : Nat)) : Few na nb a (k + 1) z' := fun h1 h2 => by
  obtain ⟨h3, h4⟩ := h h1 h2
  refine ⟨by omega, fun s hs => ?_⟩
  rw [List.take_succ_eq_append_getElem hk] at hs
  rcases List.mem_append.1 hs with hs | hs
  · have := h4 s hs; omega
  · simp at hs; subst hs; omega

theorem Few.le {na nb : Nat} {a : List ByteArray} {k : Nat} {z z' : Int} (h : Few na nb a k z) (hz : z ≤ z') : Few na nb a k z' := fun h1 h2 => by
  obtain ⟨h3, h4⟩ := h h1 h2
  exact ⟨by omega, fun s hs => by have := h4 s hs; omega⟩

theorem Few.all {na nb : Nat} {a : List ByteArray} {k : Nat} {z : Int} (h : Few na nb a k z) (h1 : na ≤ 200) (h2 : nb ≤ 200) (hk : a.length ≤ k) (hz : z < 3000) : ∀ s ∈ a, s.size ≤ 3000 := fun s hs => by
  have := (h h1 h2).2 s (by rw [List.take_of_length_le hk]; exact hs)
  omega

/-- What great tells. -/
def Told (a b : List ByteArray) (e : Ending) : Prop := ∃ r, e = .returned (.bool r) ∧ (r = false → a.length ≤ 200 ∧ b.length ≤ 200 ∧ (∀ s ∈ a, s.size ≤ 3000) ∧ ∀ s ∈ b, s.size ≤ 3000)

set_option maxHeartbeats 2000000 in
theorem great_any (va vb : Option Addr) (ca cb na nb : Nat) (a b : List ByteArray) (w : World) (hla : a.length = na) (hlb : b.length = nb) (ha : Row w va a) (hb : Row w vb b) (la : (na : Int) ≤ 9223372036854775807) (lb : (nb : Int) ≤ 9223372036854775807) :
    Calls Try.prog 10 #[.slice va na ca, .slice vb nb cb] w fun e w' => Told a b e ∧ w = w' := by
  have HA : Hid (a.length = na) := hla
  have HB : Hid (b.length = nb) := hlb
  have HW : Hid (-9223372036854775808 ≤ wrap64 ((na : Int) + (nb : Int)) ∧ Few na nb a 0 (wrap64 ((na : Int) + (nb : Int)))) := by
    refine ⟨by unfold wrap64; omega, fun h1 h2 => ⟨by unfold wrap64; omega, fun s hs => by simp at hs⟩⟩
  clear hla hlb
  go_enter Try.func10, Try.ntmps10
  go_wp2_with fail
  go_loopw [5, 6] (fun v i wr => ∃ (z : Int) (k : Nat), k ≤ na ∧ v = .int .i64 z ∧ i = .int .i64 k ∧ wr = w ∧ -9223372036854775808 ≤ z ∧ Hid (Few na nb a k z)) (fun _ i _ => na - (intOf i).toNat)
  case atStart => exact ⟨_, 0, Nat.zero_le _, rfl, rfl, rfl, HW.out.1, HW.out.2⟩
  case round =>
    clear HW
    obtain ⟨z, k, hk, rfl, rfl, hw, hz, HT⟩ := hrel
    replace hw := hw.symm
    subst hw
    by_cases hlt : k < na ∧ z < 3000
    · obtain ⟨hlt, hz3⟩ := hlt
      have hka : k < a.length := by rw [HA.out]; exact hlt
      obtain ⟨ga, oa, rfl, c1⟩ := ha.get hka
      have HM : Hid (∀ z', z' = z + (min a[k].size 3000 : Nat) → Few na nb a (k + 1) z') := fun z' h => HT.out.more hka h
      obtain ⟨x, hx⟩ : ∃ x, a[k] = x := ⟨_, rfl⟩
      rw [hx] at c1 HM
      clear hx ha hb HT
      have i2 : (k : Int) < na := by omega
      have i3 : (0 : Int) ≤ (k : Int) := by omega
      by_cases h20 : (3000 : Int) < x.size
      · have HS : Hid (Few na nb a (k + 1) (z + 3000)) := HM.out _ (by omega)
        clear HM
        go_wp2_with fail
        exact ⟨⟨z + 3000, k + 1, by omega, rfl, by go_num, trivial, by omega, HS.out⟩, by simp [intOf]; omega⟩
      · have HS : Hid (Few na nb a (k + 1) (z + x.size)) := HM.out _ (by omega)
        clear HM
        go_wp2_with fail
        exact ⟨⟨z + x.size, k + 1, by omega, rfl, by go_num, trivial, by omega, HS.out⟩, by simp [intOf]; omega⟩
    · have HF0 : Hid (Few na nb b 0 z) := fun h1 h2 => ⟨(HT.out h1 h2).1, fun s hs => by simp at hs⟩
      have HP : Hid (na ≤ 200 → nb ≤ 200 → z < 3000 → ∀ s ∈ a, s.size ≤ 3000) := fun h1 h2 h3 => HT.out.all h1 h2 (by rw [HA.out]; omega) h3
      clear HT
      by_cases h4 : (k : Int) < (na : Int)
      · have h3 : 3000 ≤ z := by omega
        have d3 : decide (z < 3000) = false := by simp; omega
        go_wp2_with fail
        go_loopw [5, 7] (fun v i wr => ∃ (z : Int) (k : Nat), k ≤ nb ∧ v = .int .i64 z ∧ i = .int .i64 k ∧ wr = w ∧ -9223372036854775808 ≤ z ∧ Hid (Few na nb b k z) ∧ Hid (na ≤ 200 → nb ≤ 200 → z < 3000 → ∀ s ∈ a, s.size ≤ 3000)) (fun _ i _ => nb - (intOf i).toNat)
        case atStart => exact ⟨z, 0, Nat.zero_le _, rfl, rfl, rfl, hz, HF0.out, HP.out⟩
        case round =>
          clear HF0 HP
          obtain ⟨z, k, hk, rfl, rfl, hw, hz, HT, HP⟩ := hrel
          replace hw := hw.symm
          subst hw
          by_cases hlt : k < nb ∧ z < 3000
          · obtain ⟨hlt, hz3⟩ := hlt
            have hka : k < b.length := by rw [HB.out]; exact hlt
            obtain ⟨ga, oa, rfl, c1⟩ := hb.get hka
            have HM : Hid (∀ z', z' = z + (min b[k].size 3000 : Nat) → Few na nb b (k + 1) z' ∧ (na ≤ 200 → nb ≤ 200 → z' < 3000 → ∀ s ∈ a, s.size ≤ 3000)) := fun z' h => ⟨HT.out.more hka h, fun h1 h2 h3 => HP.out h1 h2 (by omega)⟩
            obtain ⟨x, hx⟩ : ∃ x, b[k] = x := ⟨_, rfl⟩
            rw [hx] at c1 HM
            clear hx ha hb HT HP
            have i2 : (k : Int) < nb := by omega
            have i3 : (0 : Int) ≤ (k : Int) := by omega
            by_cases h20 : (3000 : Int) < x.size
            · have HS := HM.out (z + 3000) (by omega)
              have HS1 : Hid (Few na nb b (k + 1) (z + 3000)) := HS.1
              have HS2 : Hid (na ≤ 200 → nb ≤ 200 → z + 3000 < 3000 → ∀ s ∈ a, s.size ≤ 3000) := HS.2
              clear HM HS
              go_wp2_with fail
              exact ⟨⟨z + 3000, k + 1, by omega, rfl, by go_num, trivial, by omega, HS1.out, HS2.out⟩, by simp [intOf]; omega⟩
            · have HS := HM.out (z + x.size) (by omega)
              have HS1 : Hid (Few na nb b (k + 1) (z + x.size)) := HS.1
              have HS2 : Hid (na ≤ 200 → nb ≤ 200 → z + x.size < 3000 → ∀ s ∈ a, s.size ≤ 3000) := HS.2
              clear HM HS
              go_wp2_with fail
              exact ⟨⟨z + x.size, k + 1, by omega, rfl, by go_num, trivial, by omega, HS1.out, HS2.out⟩, by simp [intOf]; omega⟩
          · clear ha hb
            by_cases h3 : 3000 ≤ z
            · have HX : Hid (Told a b (.returned (.bool true))) := ⟨true, rfl, fun h => by cases h⟩
              by_cases h4 : (k : Int) < (nb : Int)
              · go_wp2_with fail
                go_ret
                exact ⟨HX.out, rfl⟩
              · go_wp2_with fail
                go_ret
                exact ⟨HX.out, rfl⟩
            · have e : k = nb := by omega
              subst e
              have h3' : z < 3000 := by omega
              have d3 : decide (3000 ≤ z) = false := by simp; omega
              by_cases h5 : (200 : Int) < (na : Int)
              · have HX : Hid (Told a b (.returned (.bool true))) := ⟨true, rfl, fun h => by cases h⟩
                go_wp2_with fail
                go_ret
                exact ⟨HX.out, rfl⟩
              · have d5 : decide ((200 : Int) < (na : Int)) = false := by simp; omega
                by_cases h6 : (200 : Int) < (k : Int)
                · have HX : Hid (Told a b (.returned (.bool true))) := ⟨true, rfl, fun h => by cases h⟩
                  go_wp2_with fail
                  go_ret
                  exact ⟨HX.out, rfl⟩
                · have HX : Hid (Told a b (.returned (.bool false))) := by
                    refine ⟨false, rfl, fun _ => ⟨by rw [HA.out]; omega, by rw [HB.out]; omega, HP.out (by omega) (by omega) h3', HT.out.all (by omega) (by omega) (by rw [HB.out]; exact Nat.le_refl _) h3'⟩⟩
                  have d6 : decide ((200 : Int) < (k : Int)) = false := by simp; omega
                  go_wp2_with fail
                  go_ret
                  exact ⟨HX.out, rfl⟩
      · have d4 : decide ((k : Int) < (na : Int)) = false := by simp; omega
        go_wp2_with fail
        go_loopw [5, 7] (fun v i wr => ∃ (z : Int) (k : Nat), k ≤ nb ∧ v = .int .i64 z ∧ i = .int .i64 k ∧ wr = w ∧ -9223372036854775808 ≤ z ∧ Hid (Few na nb b k z) ∧ Hid (na ≤ 200 → nb ≤ 200 → z < 3000 → ∀ s ∈ a, s.size ≤ 3000)) (fun _ i _ => nb - (intOf i).toNat)
        case atStart => exact ⟨z, 0, Nat.zero_le _, rfl, rfl, rfl, hz, HF0.out, HP.out⟩
        case round =>
          clear HF0 HP
          obtain ⟨z, k, hk, rfl, rfl, hw, hz, HT, HP⟩ := hrel
          replace hw := hw.symm
          subst hw
          by_cases hlt : k < nb ∧ z < 3000
          · obtain ⟨hlt, hz3⟩ := hlt
            have hka : k < b.length := by rw [HB.out]; exact hlt
            obtain ⟨ga, oa, rfl, c1⟩ := hb.get hka
            have HM : Hid (∀ z', z' = z + (min b[k].size 3000 : Nat) → Few na nb b (k + 1) z' ∧ (na ≤ 200 → nb ≤ 200 → z' < 3000 → ∀ s ∈ a, s.size ≤ 3000)) := fun z' h => ⟨HT.out.more hka h, fun h1 h2 h3 => HP.out h1 h2 (by omega)⟩
            obtain ⟨x, hx⟩ : ∃ x, b[k] = x := ⟨_, rfl⟩
            rw [hx] at c1 HM
            clear hx ha hb HT HP
            have i2 : (k : Int) < nb := by omega
            have i3 : (0 : Int) ≤ (k : Int) := by omega
            by_cases h20 : (3000 : Int) < x.size
            · have HS := HM.out (z + 3000) (by omega)
              have HS1 : Hid (Few na nb b (k + 1) (z + 3000)) := HS.1
              have HS2 : Hid (na ≤ 200 → nb ≤ 200 → z + 3000 < 3000 → ∀ s ∈ a, s.size ≤ 3000) := HS.2
              clear HM HS
              go_wp2_with fail
              exact ⟨⟨z + 3000, k + 1, by omega, rfl, by go_num, trivial, by omega, HS1.out, HS2.out⟩, by simp [intOf]; omega⟩
            · have HS := HM.out (z + x.size) (by omega)
              have HS1 : Hid (Few na nb b (k + 1) (z + x.size)) := HS.1
              have HS2 : Hid (na ≤ 200 → nb ≤ 200 → z + x.size < 3000 → ∀ s ∈ a, s.size ≤ 3000) := HS.2
              clear HM HS
              go_wp2_with fail
              exact ⟨⟨z + x.size, k + 1, by omega, rfl, by go_num, trivial, by omega, HS1.out, HS2.out⟩, by simp [intOf]; omega⟩
          · clear ha hb
            by_cases h3 : 3000 ≤ z
            · have HX : Hid (Told a b (.returned (.bool true))) := ⟨true, rfl, fun h => by cases h⟩
              by_cases h4 : (k : Int) < (nb : Int)
              · go_wp2_with fail
                go_ret
                exact ⟨HX.out, rfl⟩
              · go_wp2_with fail
                go_ret
                exact ⟨HX.out, rfl⟩
            · have e : k = nb := by omega
              subst e
              have h3' : z < 3000 := by omega
              have d3 : decide (3000 ≤ z) = false := by simp; omega
              by_cases h5 : (200 : Int) < (na : Int)
              · have HX : Hid (Told a b (.returned (.bool true))) := ⟨true, rfl, fun h => by cases h⟩
                go_wp2_with fail
                go_ret
                exact ⟨HX.out, rfl⟩
              · have d5 : decide ((200 : Int) < (na : Int)) = false := by simp; omega
                by_cases h6 : (200 : Int) < (k : Int)
                · have HX : Hid (Told a b (.returned (.bool true))) := ⟨true, rfl, fun h => by cases h⟩
                  go_wp2_with fail
                  go_ret
                  exact ⟨HX.out, rfl⟩
                · have HX : Hid (Told a b (.returned (.bool false))) := by
                    refine ⟨false, rfl, fun _ => ⟨by rw [HA.out]; omega, by rw [HB.out]; omega, HP.out (by omega) (by omega) h3', HT.out.all (by omega) (by omega) (by rw [HB.out]; exact Nat.le_refl _) h3'⟩⟩
                  have d6 : decide ((200 : Int) < (k : Int)) = false := by simp; omega
                  go_wp2_with fail
                  go_ret
                  exact ⟨HX.out, rfl⟩

end Go.Proofs.Ytoophkpmbinmlaa
