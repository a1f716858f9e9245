/-
  What is proved here: LinesBack answers true. Conditions: the row lies in memory.
-/
import Derived.Test.YtmoocmajfgghhaaTells
namespace Go.Proofs.Ytmoocmajfgghhaa
open Go.RowKit Go.Shelf
set_option maxRecDepth 100000

set_option maxHeartbeats 4000000 in
theorem back_rest (s : ByteArray) (w0 : World) (hs : (s.size : Int) ≤ 20000) (b : Bool) (hb : text s.data.toList = b) :
    Calls Try.prog 11 #[.string s] w0 fun e w' => ∃ va ca l, e = .returned (.tuple #[.slice va l.length ca, .bool b]) ∧ bs l = (if b then lns s.data.toList else []) ∧ l.length ≤ 20000 ∧ Row w' va l ∧ Fr None' w0 w' :=
  (split_any s w0 (by omega)).mono fun e w' ⟨v, he, m⟩ => by
    obtain ⟨⟨l, h1, va, ca, h2, _, h3⟩, f⟩ := m
    subst h2
    rw [hb] at h1 he
    refine ⟨va, ca, l, he, h1, ?_, h3, f⟩
    have := lns_count (s := s) (b := b)
    rw [← h1, bs_length] at this
    omega

set_option maxHeartbeats 4000000 in
theorem back_walk (s : ByteArray) (va : Option Addr) (ca : Nat) (l : List ByteArray) (w : World) (hI : In w va l) :
    Calls Try.prog 4 #[.string s, .slice va l.length ca] w fun e w' => e = .returned (.bool true) ∧ Fr None' w w' := by
  have HI : Hid (In w va l) := hI
  clear hI
  go_enter Try.func4, Try.ntmps4
  go_wp2_with fail
  refine (head_any _).mono ?_
  rintro e w1 ⟨rfl, f1⟩
  by_cases hs : (20000 : Int) < s.size
  · go_wp2_with fail
    go_ret
    exact ⟨rfl, f1⟩
  have hs' : (s.size : Int) ≤ 20000 := by omega
  have cG := great_any va ca l w1 (HI.out.row.fr f1) HI.out.len
  go_wp2_with fail
  refine cG.mono ?_
  rintro e w2 ⟨⟨b, rfl, hb⟩, rfl⟩
  clear cG
  cases b
  case true =>
    go_wp2_with fail
    go_ret
    exact ⟨rfl, f1⟩
  have hj := hb rfl
  have HB : Hid _ := join_bounds hj
  have HJ : Hid _ := hj
  have hlb := HB.out.1
  clear hb hj
  have q1 := right_any va ca l w1 (HI.out.row.fr f1) (by omega)
  cases hR : right (bs l)
  case' true =>
    rw [hR] at q1
    go_wp2_with fail
    refine q1.mono ?_
    rintro e w2 ⟨rfl, rfl⟩
    clear q1
    have q1 := join_any va ca l w1 (HI.out.row.fr f1) (by omega) (by have := HJ.out; omega)
    have HX : Hid (lns (join (bs l)) = bs l) := lns_join _ hR
    have HT : Hid (text (join (bs l)) = true) := text_join _
    obtain ⟨J, hJ⟩ : ∃ J : ByteArray, (⟨(join (bs l)).toArray⟩ : ByteArray) = J := ⟨_, rfl⟩
    have HE : Hid (J.data.toList = join (bs l)) := by rw [← hJ]; rfl
    rw [hJ] at q1
    clear hR hJ
    go_wp2_with fail
    refine q1.mono ?_
    rintro e w2 ⟨rfl, f2⟩
    clear q1
    have q1 := back_rest J w2 (by have := HJ.out; rw [← HE.out, len_eq] at this; omega) true (by rw [HE.out]; exact HT.out)
    go_wp2_with fail
    refine q1.mono ?_
    rintro e w3 ⟨a3, c3, l3, rfl, e3, hl3, r3, f3⟩
    clear q1
    have e3' : l3 = l := bs_inj (by rw [e3, HE.out]; exact HX.out)
    subst e3'
    have f03 := (f1.then f2).then f3
    have q1 := same_any a3 va c3 ca l3 l3 w3 r3 (HI.out.row.fr f03) (by omega)
    rw [decide_eq_true rfl] at q1
    clear e3 f1 f2 f3 r3 HE HX HT
    go_wp2_with fail
    refine q1.mono ?_
    rintro e w4 ⟨rfl, f4⟩
    have f04 := f03.then f4
    clear q1 f03 f4
    go_wp2_with fail
  case' false =>
    rw [hR] at q1
    go_wp2_with fail
    refine q1.mono ?_
    rintro e w2 ⟨rfl, rfl⟩
    clear q1 hR
    have f04 := f1
    clear f1
    go_wp2_with fail
  all_goals
    cases ht : text s.data.toList
    · have h0 : 0 < s.size := by
        rcases Nat.eq_zero_or_pos s.size with h | h
        · rw [List.eq_nil_of_length_eq_zero ((len_eq s).trans h)] at ht; cases ht
        · exact h
      have hne : ¬ s.data.toList = [] := fun e => by have := len_eq s; rw [e] at this; simp at this; omega
      obtain ⟨q1, q2⟩ := asks_no hne
      have q3 : ¬ s = ByteArray.empty := fun e => by rw [e] at hne; exact hne rfl
      refine (back_rest s _ hs' false ht).mono ?_
      rintro e w5 ⟨a5, c5, l5, rfl, e5, _, r5, f5⟩
      have hl5 : l5 = [] := bs_inj (b := []) e5
      subst hl5
      clear hne ht e5 r5 h0
      go_wp2_with fail
      go_ret
      exact ⟨rfl, f04.then f5⟩
    · refine (back_rest s _ hs' true ht).mono ?_
      rintro e w5 ⟨a5, c5, l5, rfl, e5, hl5, r5, f5⟩
      rw [if_pos rfl] at e5
      have hj5 : join (bs l5) = s.data.toList := by rw [e5]; exact join_lns _ ht
      have q1 := join_any a5 c5 l5 w5 r5 (by omega) (by rw [hj5, len_eq]; omega)
      rw [hj5, ← str_of (s := s) rfl] at q1
      have q2 := fun v (f : Fr None' w5 v) => right_any a5 c5 l5 v (r5.fr f) (by omega)
      rw [e5, right_lns] at q2
      have f05 := f04.then f5
      clear ht e5 hj5 r5 f04 f5
      go_wp2_with fail
      refine q1.mono ?_
      rintro e w6 ⟨rfl, f6⟩
      clear q1
      go_wp2_with fail
      refine (q2 _ f6).mono ?_
      rintro e w7 ⟨rfl, rfl⟩
      clear q2
      go_wp2_with fail
      go_ret
      exact ⟨rfl, f05.then f6⟩

end Go.Proofs.Ytmoocmajfgghhaa
