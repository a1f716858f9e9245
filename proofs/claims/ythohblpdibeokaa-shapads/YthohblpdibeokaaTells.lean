/-
  What is proved here: ShaTells answers true. Condition: its bytes lie in memory.
-/
import Derived.Test.YthohblpdibeokaaRName
namespace Go.Proofs.Ythohblpdibeokaa
open Go.RowKit
set_option maxRecDepth 100000

theorem same_self (n : Nat) (f : Nat → Int) : sameF n f f = true := (sameF_iff _ _ _).2 (fun _ _ => rfl)

set_option maxHeartbeats 4000000 in
theorem tells_walk (va : Option Addr) (na ca : Nat) (ma : Nat → Int) (s : ByteArray) (w : World) (ha : Byt w (.slice va na ca) na ma) (hn : va = none → ca = 0) (hs : s.size ≤ maxLen) :
   Calls Try.prog 3 #[.slice va na ca, .string s] w fun e w' => e = .returned (.bool true) ∧ Fr None' w w' := by
  go_enter Try.func3, Try.ntmps3
  go_wp2_with fail
  refine (head_any _).mono ?_
  rintro e w1 ⟨rfl, f1⟩
  have HS : Hid (s.size ≤ maxLen) := hs
  clear hs
  by_cases hA : na ≤ 20000
  rotate_left
  · have i0 : (20000 : Int) < na := by omega
    clear ha hn
    go_wp2
    go_ret
    exact ⟨rfl, f1⟩
  have i0 : (na : Int) ≤ 20000 := by omega
  by_cases hB : s.size ≤ 20000
  rotate_left
  · have i1 : (20000 : Int) < s.size := by omega
    clear ha hn
    go_wp2
    go_ret
    exact ⟨rfl, f1⟩
  have i1 : (s.size : Int) ≤ 20000 := by omega
  have HA : Hid _ := ha
  have HN : Hid _ := hn
  have q1 := sum_any _ na ma w1 (ha.fr f1) (by omega)
  clear ha hn
  go_wp2_with fail
  refine q1.mono ?_
  rintro e w2 ⟨rfl, f2⟩
  have f02 := f1.then f2
  clear f1 f2 q1
  have q2 := rsum_any va na ca ma w2 (Byt.fr HA.out f02) HN.out (by omega)
  rw [rsumB_eq na ma (by omega)] at q2
  go_wp2_with fail
  refine q2.mono ?_
  rintro e w3 ⟨rfl, f3⟩
  have f03 := f02.then f3
  clear f02 f3 q2
  have he := equal32
  have hg := Try.eqGuardType24
  have hsm := same_self 32 (sumB na ma)
  have q3 := name_any _ na ma w3 (Byt.fr HA.out f03) (by omega)
  go_wp2_with fail
  refine q3.mono ?_
  rintro e w4 ⟨rfl, f4⟩
  have f04 := f03.then f4
  clear f03 f4 q3 he hg hsm
  have q4 := rname_any va na ca ma w4 (Byt.fr HA.out f04) HN.out (by omega)
  obtain ⟨x, hx⟩ : ∃ x : ByteArray, (⟨(nameS na ma).toArray⟩ : ByteArray) = x := ⟨_, rfl⟩
  rw [hx] at q4 ⊢
  clear hx
  go_wp2_with fail
  refine q4.mono ?_
  rintro e w5 ⟨rfl, f5⟩
  have f05 := f04.then f5
  clear f04 f5 q4 HA HN
  have q5 := named_any s w5 HS.out
  go_wp2_with fail
  refine q5.mono ?_
  rintro e w6 ⟨rfl, rfl⟩
  clear q5
  have q6 := rnamed_any s w5 HS.out
  go_wp2_with fail
  refine q6.mono ?_
  rintro e w6 ⟨rfl, f6⟩
  have f06 := f05.then f6
  clear f05 f6 q6
  go_wp2
  go_ret
  exact ⟨by simp, f06⟩
end Go.Proofs.Ythohblpdibeokaa
