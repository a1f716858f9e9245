/-
  What is proved here: LinesTells answers true. Conditions: the row lies in memory.
-/
import Derived.Test.YtmoocmajfgghhaaHead
import Derived.Test.YtmoocmajfgghhaaRTok
namespace Go.Proofs.Ytmoocmajfgghhaa
open Go.RowKit Go.Shelf
set_option maxRecDepth 100000

/-- A row that came in. -/
structure In (w : World) (va : Option Addr) (l : List ByteArray) : Prop where
  row : Row w va l
  len : (l.length : Int) ≤ 9223372036854775807

theorem join_bounds {l : List ByteArray} (h : (join (bs l)).length < 20000) : l.length < 20000 ∧ ∀ x ∈ l, x.size < 20000 := by
  induction l with
  | nil => exact ⟨by simp, by simp⟩
  | cons x l ih =>
    rw [show bs (x :: l) = x.data.toList :: bs l from rfl, join_cons, List.length_append, List.length_cons, len_eq] at h
    have hl : l.length ≤ (join (bs l)).length := by
      clear ih h
      induction l with
      | nil => simp
      | cons y l ih => rw [show bs (y :: l) = y.data.toList :: bs l from rfl, join_cons, List.length_append, List.length_cons, List.length_cons]; omega
    obtain ⟨h1, h2⟩ := ih (by omega)
    refine ⟨by rw [List.length_cons]; omega, fun y hy => ?_⟩
    rcases List.mem_cons.1 hy with rfl | hy
    · omega
    · exact h2 y hy

theorem made_two {w w1 w2 w3 : World} {t : List Bs} {v1 v2 : Value} (h1 : Made w t v1 w1) (h2 : Made w2 t v2 w3) (f : Fr None' w1 w3) : ∃ l va ca vb cb, bs l = t ∧ v1 = .slice va l.length ca ∧ v2 = .slice vb l.length cb ∧ Row w3 va l ∧ Row w3 vb l := by
  obtain ⟨l1, e1, va, ca, h3, _, r1⟩ := h1.is
  obtain ⟨l2, e2, vb, cb, h4, _, r2⟩ := h2.is
  have e := bs_inj (e2.trans e1.symm)
  subst e
  exact ⟨l2, va, ca, vb, cb, e1, h3, h4, r1.fr f, r2⟩

theorem lns_count {s : ByteArray} {b : Bool} : (if b then lns s.data.toList else []).length ≤ s.size := by
  cases b
  · simp
  · rw [if_pos rfl, ← len_eq]; exact lns_count_le _

set_option maxHeartbeats 4000000 in
theorem tells_walk (s : ByteArray) (va : Option Addr) (ca : Nat) (l : List ByteArray) (f u : ByteArray) (w : World) (hI : In w va l) :
    Calls Try.prog 3 #[.string s, .slice va l.length ca, .string f, .string u] w fun e w' => e = .returned (.bool true) ∧ Fr None' w w' := by
  have HI : Hid (In w va l) := hI
  clear hI
  go_enter Try.func3, Try.ntmps3
  go_wp2_with fail
  refine (head_any _).mono ?_
  rintro e w1 ⟨rfl, f1⟩
  by_cases hs : (20000 : Int) < s.size
  · go_wp2_with fail
    go_ret
    exact ⟨rfl, f1⟩
  have hs' : (s.size : Int) ≤ 20000 := by omega
  have cG := great_any va ca l w1 (HI.out.row.fr f1) HI.out.len
  go_wp2_with fail
  refine cG.mono ?_
  rintro e w2 ⟨⟨b, rfl, hb⟩, rfl⟩
  clear cG
  cases b
  case true =>
    go_wp2_with fail
    go_ret
    exact ⟨rfl, f1⟩
  have hj := hb rfl
  have HB : Hid _ := join_bounds hj
  have HJ : Hid _ := hj
  clear hb hj
  by_cases hf : (1000 : Int) < f.size
  · go_wp2_with fail
    go_ret
    exact ⟨rfl, f1⟩
  by_cases hu : (100 : Int) < u.size
  · go_wp2_with fail
    go_ret
    exact ⟨rfl, f1⟩
  have q1 := split_any s w1 (by omega)
  go_wp2_with fail
  refine q1.mono ?_
  rintro e w2 ⟨v2, rfl, m2⟩
  clear q1
  have q1 := rSplit_any s w2 (by omega)
  have HC : Hid _ := lns_count (s := s) (b := text s.data.toList)
  generalize text s.data.toList = T at m2 q1 HC
  generalize (if T then lns s.data.toList else []) = X at m2 q1 HC
  go_wp2_with fail
  refine q1.mono ?_
  rintro e w3 ⟨v3, rfl, m3⟩
  clear q1
  obtain ⟨l1, a1, c1, a2, c2, e1, rfl, rfl, r1, r2⟩ := made_two m2 m3 m3.fr
  have f03 := (f1.then m2.fr).then m3.fr
  have q1 := same_any a1 a2 c1 c2 l1 l1 w3 r1 r2 (by have := HC.out; rw [← e1, bs_length] at this; omega)
  rw [decide_eq_true rfl] at q1
  clear m2 m3 r1 r2 e1 HC f1
  go_wp2_with fail
  refine q1.mono ?_
  rintro e w4 ⟨rfl, f4⟩
  have f04 := f03.then f4
  clear q1 f03 f4
  have hlb := HB.out.1
  have q1 := join_any va ca l w4 (HI.out.row.fr f04) (by omega) (by have := HJ.out; omega)
  have q2 := fun v (hf : Fr None' w v) => rJoin_any va ca l v (HI.out.row.fr hf) (by omega) (by have := HJ.out; omega)
  generalize (⟨(join (bs l)).toArray⟩ : ByteArray) = J at q1 q2
  go_wp2_with fail
  refine q1.mono ?_
  rintro e w5 ⟨rfl, f5⟩
  have f05 := f04.then f5
  clear q1 f04 f5
  go_wp2_with fail
  refine (q2 _ f05).mono ?_
  rintro e w6 ⟨rfl, f6⟩
  have f06 := f05.then f6
  clear q2 f05 f6
  have q1 := right_any va ca l w6 (HI.out.row.fr f06) (by omega)
  have q2 := rRight_any va ca l w6 (HI.out.row.fr f06) (by omega) (fun x hx => by have := HB.out.2 x hx; omega)
  generalize right (bs l) = R at q1 q2
  go_wp2_with fail
  refine q1.mono ?_
  rintro e w7 ⟨rfl, rfl⟩
  clear q1
  go_wp2_with fail
  refine q2.mono ?_
  rintro e w7 ⟨rfl, f7⟩
  have f07 := f06.then f7
  clear q2 f06 f7
  have q1 := tokens_any s w7 (by omega)
  have q2 := fun v => rTokens_any s v (by omega)
  have HC : Hid _ := pieces_count_le s.data.toList
  rw [len_eq] at HC
  generalize pieces s.data.toList = X at q1 q2 HC
  go_wp2_with fail
  refine q1.mono ?_
  rintro e w8 ⟨v8, rfl, m8⟩
  clear q1
  go_wp2_with fail
  refine (q2 _).mono ?_
  rintro e w9 ⟨v9, rfl, m9⟩
  clear q2
  obtain ⟨l1, a1, c1, a2, c2, e1, rfl, rfl, r1, r2⟩ := made_two m8 m9 m9.fr
  have f09 := (f07.then m8.fr).then m9.fr
  have q1 := same_any a1 a2 c1 c2 l1 l1 w9 r1 r2 (by have := HC.out; rw [← e1, bs_length] at this; omega)
  rw [decide_eq_true rfl] at q1
  clear m8 m9 r1 r2 e1 HC f07
  go_wp2_with fail
  refine q1.mono ?_
  rintro e w10 ⟨rfl, f10⟩
  have f010 := f09.then f10
  clear q1 f09 f10
  have q1 := token_any f w10 (by omega)
  have q2 := fun v => rToken_any f v (by omega)
  have q3 := fun v => replace_any s f u v (by omega) (by omega) (by
    have : s.size * u.size ≤ 20000 * 100 := Nat.mul_le_mul (by omega) (by omega)
    omega)
  have q4 := fun v => rReplace_any s f u v (by omega) (by omega) (by omega)
  generalize tok f.data.toList = T2 at q1 q2
  generalize (⟨(replace s.data.toList f.data.toList u.data.toList).toArray⟩ : ByteArray) = Z at q3 q4
  go_wp2_with fail
  refine q1.mono ?_
  rintro e w11 ⟨rfl, f11⟩
  have f011 := f010.then f11
  clear q1 f010 f11
  go_wp2_with fail
  refine (q2 _).mono ?_
  rintro e w12 ⟨rfl, f12⟩
  have f012 := f011.then f12
  clear q2 f011 f12
  go_wp2_with fail
  refine (q3 _).mono ?_
  rintro e w13 ⟨rfl, f13⟩
  have f013 := f012.then f13
  clear q3 f012 f13
  go_wp2_with fail
  refine (q4 _).mono ?_
  rintro e w14 ⟨rfl, f14⟩
  have f014 := f013.then f14
  clear q4 f013 f14
  go_wp2_with fail
  go_ret
  exact ⟨rfl, f014⟩

end Go.Proofs.Ytmoocmajfgghhaa
