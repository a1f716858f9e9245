/-
  What is proved here: ShaNames answers true. Condition: its two texts lie in memory.
-/
import Derived.Test.YthohblpdibeokaaEq
namespace Go.Proofs.Ythohblpdibeokaa
open Go.RowKit
set_option maxRecDepth 100000

theorem Byt.fr {w w' : World} {v : Value} {n : Nat} {m : Nat → Int} (h : Byt w v n m) (f : Fr None' w w') : Byt w' v n m := by
  obtain ⟨va, cap, e, hc, h⟩ := h
  exact ⟨va, cap, e, hc, fun i hi => by obtain ⟨b, o, e, hb⟩ := h i hi; exact ⟨b, o, e, f.cell hb id⟩⟩

theorem one_size (c : UInt8) : (⟨#[c]⟩ : ByteArray).size = 1 := rfl
theorem max1000 : 1000 ≤ maxLen := by decide

theorem namedIs (s : ByteArray) (w : World) (hs : s.size ≤ maxLen) :
   (namedB s.data.toList = false → Calls Try.prog 13 #[.string s] w fun e w' => e = .returned (.bool false) ∧ w = w') ∧ (namedB s.data.toList = true → Calls Try.prog 13 #[.string s] w fun e w' => e = .returned (.bool true) ∧ w = w') :=
  ⟨fun h => h ▸ named_any s w hs, fun h => h ▸ named_any s w hs⟩

set_option maxHeartbeats 4000000 in
theorem names_walk (va vb : Option Addr) (na ca nb cb : Nat) (ma mb : Nat → Int) (k : Nat) (w : World) (ha : Byt w (.slice va na ca) na ma) (hb : Byt w (.slice vb nb cb) nb mb) :
   Calls Try.prog 6 #[.slice va na ca, .slice vb nb cb, .int .u8 k] w fun e w' => e = .returned (.bool true) ∧ Fr None' w w' := by
  go_enter Try.func6, Try.ntmps6
  go_wp2_with fail
  refine (head_any _).mono ?_
  rintro e w1 ⟨rfl, f1⟩
  by_cases hA : na ≤ 20000
  rotate_left
  · have i0 : (20000 : Int) < na := by omega
    clear ha hb
    go_wp2
    go_ret
    exact ⟨rfl, f1⟩
  have i0 : (na : Int) ≤ 20000 := by omega
  by_cases hB : nb ≤ 20000
  rotate_left
  · have i1 : (20000 : Int) < nb := by omega
    clear ha hb
    go_wp2
    go_ret
    exact ⟨rfl, f1⟩
  have i1 : (nb : Int) ≤ 20000 := by omega
  have xa := name_any _ na ma w1 (ha.fr f1) (by omega)
  have xb := fun w2 (f : Fr None' w w2) => name_any _ nb mb w2 (hb.fr f) (by omega)
  have sa := fun w2 (f : Fr None' w w2) => sum_any _ na ma w2 (ha.fr f) (by omega)
  have sb := fun w2 (f : Fr None' w w2) => sum_any _ nb mb w2 (hb.fr f) (by omega)
  have HB : Hid _ := xb
  have HC : Hid _ := sa
  have HD : Hid _ := sb
  clear ha hb xb sa sb hA hB
  go_wp2_with fail
  refine xa.mono ?_
  rintro e w2 ⟨rfl, f2⟩
  clear xa
  have f02 := f1.then f2
  have xb := HB.out w2 f02
  clear f1 f2
  go_wp2_with fail
  refine xb.mono ?_
  rintro e w3 ⟨rfl, f3⟩
  clear xb
  have f03 := f02.then f3
  obtain ⟨x, hx⟩ : ∃ x : ByteArray, (⟨(nameS na ma).toArray⟩ : ByteArray) = x := ⟨_, rfl⟩
  obtain ⟨y, hy⟩ : ∃ x : ByteArray, (⟨(nameS nb mb).toArray⟩ : ByteArray) = x := ⟨_, rfl⟩
  have z1 : x.size = 64 := by rw [← hx]; show (nameS na ma).toArray.size = 64; simp [nameS_length]
  have z2 : (x.toList == y.toList) = sameF 32 (sumB na ma) (sumB nb mb) := by rw [← hx, ← hy, ← nameS_beq, ByteArray.toList_eq, ByteArray.toList_eq]
  rw [hx, hy]
  have HX : Hid (_ ∧ _) := ⟨hx, hy⟩
  clear hx hy f02 f3
  have sa := HC.out w3 f03
  go_wp2_with fail
  refine sa.mono ?_
  rintro e w4 ⟨rfl, f4⟩
  have f04 := f03.then f4
  have sb := HD.out w4 f04
  clear sa f03 f4
  go_wp2_with fail
  refine sb.mono ?_
  rintro e w5 ⟨rfl, f5⟩
  have f05 := f04.then f5
  clear sb f04 f5
  have he := equal32
  have hg := Try.eqGuardType24
  obtain ⟨sm, hsm⟩ : ∃ b, sameF 32 (sumB na ma) (sumB nb mb) = b := ⟨_, rfl⟩
  rw [hsm] at z2
  obtain ⟨j, hj⟩ : ∃ j, k % 64 = j := ⟨_, rfl⟩
  have j0 : (k : Int) % 64 = j := by omega
  have j1 : (j : Int) < 64 := by omega
  have j2 : (j : Int) + 1 ≤ 64 := by omega
  have j3 : (0 : Int) ≤ (j : Int) + 1 := by omega
  have j4 : IntKind.i64.wrap ((j : Int) + 1) = (j : Int) + 1 := by rw [IntKind.wrap_i64]; omega
  have j5 : ((j : Int) + 1).toNat = j + 1 := by omega
  clear hj
  have HX2 : Hid (x.data.toList = nameS na ma ∧ x.size = 64 ∧ j < 64) := ⟨by rw [← HX.out.1], z1, by omega⟩
  have hn := fun w2 => (namedIs x w2 (by rw [z1]; decide)).2 (by rw [HX2.out.1]; exact named_name na ma)
  have hnz := fun w2 => (namedIs (x.extract 0 j ++ ⟨#[71]⟩ ++ x.extract (j + 1) 64) w2 (by have := HX2.out; have := max1000; rw [ByteArray.size_append, ByteArray.size_append, ByteArray.size_extract, ByteArray.size_extract, one_size]; omega)).1 (by
    rw [ByteArray.data_append, ByteArray.data_append, Array.toList_append, Array.toList_append, List.append_assoc]
    exact named_G _ _)
  have hnk := fun w2 => (namedIs (x.extract 0 j) w2 (by have := HX2.out; have := max1000; rw [ByteArray.size_extract]; omega)).1 (named_len (by
    have := HX2.out
    rw [show ∀ y : ByteArray, y.data.toList.length = y.size from fun y => by cases y; rfl, ByteArray.size_extract]; omega))
  have hn0 := fun w2 => (namedIs (x ++ ⟨#[48]⟩) w2 (by have := HX2.out; have := max1000; rw [ByteArray.size_append, one_size]; omega)).1 (named_len (by
    have := HX2.out
    rw [show ∀ y : ByteArray, y.data.toList.length = y.size from fun y => by cases y; rfl, ByteArray.size_append, one_size]; omega))
  have HN : Hid (_ ∧ _ ∧ _ ∧ _) := ⟨hn, hnz, hnk, hn0⟩
  clear hn hnz hnk hn0 HX HX2
  go_wp2_with fail
  go_quiet (fail)
  have f06 := f05.then (Fr.drewN None' w5 nq)
  generalize w5.drewN nq = w6 at f06 ⊢
  clear f05
  have hn := HN.out.1 w6
  go_wp2_with fail
  refine hn.mono ?_
  rintro e w7 ⟨rfl, rfl⟩
  replace hn := HN.out.2.1 w6
  go_wp2_with fail
  refine hn.mono ?_
  rintro e w7 ⟨rfl, rfl⟩
  replace hn := HN.out.2.2.1 w6
  go_wp2_with fail
  refine hn.mono ?_
  rintro e w7 ⟨rfl, rfl⟩
  replace hn := HN.out.2.2.2 w6
  go_wp2_with fail
  refine hn.mono ?_
  rintro e w7 ⟨rfl, rfl⟩
  clear hn
  go_wp2
  go_ret
  exact ⟨rfl, f06⟩
end Go.Proofs.Ythohblpdibeokaa
