/-
  What is proved here: the contracts that the statement stands on: LRightP, LRDoc, LRJoin, LJoin. Conditions: as each theorem names them.
-/
import Derived.Test.YtdaogldmcbfmoaaGreatDoorM23LStrs
import Derived.Test.YtdaogldmcbfmoaaGreatDoorMLLay
namespace Go.Proofs.YtdaogldmcbfmoaaGreatDoor.Lines
open Go.RowKit Go.Shelf
set_option maxRecDepth 100000

theorem index_no10 (x : Bs) : decide (0 ≤ Lib.indexByte x 10) = !no10 x := by
  rw [← no10_is, Bool.not_not, Bool.eq_iff_iff]
  have hge := Lib.indexByte_ge x 10
  simp only [decide_eq_true_eq, List.contains_iff_mem]
  constructor
  · intro h
    obtain ⟨i, hi⟩ := Int.eq_ofNat_of_zero_le h
    obtain ⟨h1, _⟩ := Lib.indexByte_some hi
    exact List.mem_of_getElem? h1
  · intro hm
    obtain ⟨k, hk, e⟩ := List.getElem_of_mem hm
    rcases Int.lt_or_le (Lib.indexByte x 10) 0 with h | h
    · exact absurd (by rw [List.getElem?_eq_getElem hk, e]) (Lib.indexByte_none (show Lib.indexByte x 10 = -1 by omega) k)
    · exact h

set_option maxHeartbeats 1000000 in
theorem right1_any (x : ByteArray) (w : World) : Calls Tryz.prog 123 #[.string x] w fun e w' => e = .returned (.bool (!no10 x.data.toList)) ∧ w = w' := by
  have cC := (Tryz.strings_Contains_one x 10 w).mono (R' := fun e w' => e = _ ∧ w = w') fun _ _ ⟨a, b⟩ => ⟨a, b.symm⟩
  rw [index_no10] at cC
  generalize (!no10 x.data.toList) = R at cC
  go_enter Tryz.func123, Tryz.ntmps123
  go_wp2_with (go_at_call 124; refine cC.mono ?_; rintro e w' ⟨rfl, rfl⟩)
  go_ret
  exact ⟨rfl, rfl⟩

set_option maxHeartbeats 2000000 in
theorem indexFunc_any (va : Option Addr) (ca : Nat) (l : List ByteArray) (w : World) (ha : Row w va l) (hl : (l.length : Int) < 1000000) :
    Calls Tryz.prog 155 #[.slice va l.length ca, .func (.func 123) #[] #[]] w fun e w' => ∃ z : Int, e = .returned (.int .i64 z) ∧ decide (0 ≤ z) = !right (bs l) ∧ w = w' := by
  obtain ⟨n, hna⟩ : ∃ n, l.length = n := ⟨_, rfl⟩
  have HA : Hid (l.length = n) := hna
  rw [hna] at hl ⊢
  clear hna
  go_enter Tryz.func155, Tryz.ntmps155
  go_wp2_with fail
  go_loopw [8] (fun i wr => ∃ k : Nat, k ≤ n ∧ i = .int .i64 k ∧ wr = w ∧ Hid (right (bs (l.take k)) = true)) (fun i _ => n - (intOf i).toNat)
  case atStart => exact ⟨0, Nat.zero_le _, rfl, rfl, rfl⟩
  case round =>
    obtain ⟨k, hk, rfl, hw, HT⟩ := hrel
    subst hw
    by_cases hlt : k < n
    · have hka : k < l.length := by rw [HA.out]; exact hlt
      obtain ⟨ga, oa, rfl, c1⟩ := ha.get hka
      obtain ⟨x, hx⟩ : ∃ x, l[k] = x := ⟨_, rfl⟩
      have HX : Hid (l[k] = x) := hx
      rw [hx] at c1
      clear hx ha
      have i2 : (k : Int) < n := by omega
      have cR := right1_any x wr
      cases hb : no10 x.data.toList
      · rw [hb] at cR
        have HR : Hid (right (bs l) = false) := right_not hka (by rw [HX.out]; exact hb)
        clear HX HT HA hb
        go_wp2_with fail
        refine cR.mono ?_
        rintro e w' ⟨rfl, rfl⟩
        clear cR
        go_wp2_with fail
        go_ret
        exact ⟨_, rfl, by rw [HR.out]; simp, rfl⟩
      · rw [hb] at cR
        have HR : Hid (right (bs (l.take (k + 1))) = true) := right_step hka HT.out (by rw [HX.out]; exact hb)
        clear HX HT HA hb
        go_wp2_with fail
        refine cR.mono ?_
        rintro e w' ⟨rfl, rfl⟩
        clear cR
        go_wp2_with fail
        exact ⟨⟨k + 1, by omega, by go_num, trivial, HR.out⟩, by simp [intOf]; omega⟩
    · have HR : Hid (right (bs l) = true) := by
        have := HT.out
        rw [List.take_of_length_le (by rw [HA.out]; omega)] at this
        exact this
      go_wp2_with fail
      go_ret
      exact ⟨_, rfl, by rw [HR.out]; rfl, rfl⟩

set_option maxHeartbeats 1000000 in
theorem right_any (va : Option Addr) (ca : Nat) (l : List ByteArray) (w : World) (ha : Row w va l) (hl : (l.length : Int) < 1000000) :
    Calls Tryz.prog 82 #[.slice va l.length ca] w fun e w' => e = .returned (.bool (right (bs l))) ∧ w = w' := by
  have cI := indexFunc_any va ca l w ha hl
  have cC : Calls Tryz.prog 122 #[.slice va l.length ca, .func (.func 123) #[] #[]] w fun e w' => e = .returned (.bool (!right (bs l))) ∧ w = w' := by
    clear ha hl
    generalize right (bs l) = R at cI
    generalize l.length = n at cI
    go_enter Tryz.func122, Tryz.ntmps122
    go_wp2_with (go_at_call 155; refine cI.mono ?_; rintro e w' ⟨z, rfl, hz, rfl⟩)
    go_ret
    exact ⟨rfl, rfl⟩
  clear ha hl cI
  generalize right (bs l) = R at cC
  generalize l.length = n at cC
  go_enter Tryz.func82, Tryz.ntmps82
  go_wp2_with (go_at_call 122; refine cC.mono ?_; rintro e w' ⟨rfl, rfl⟩)
  go_ret
  exact ⟨ret_bool (by simp), rfl⟩

end Go.Proofs.YtdaogldmcbfmoaaGreatDoor.Lines

namespace Go.Proofs.YtdaogldmcbfmoaaGreatDoor.Lines
open Go.RowKit
set_option maxRecDepth 100000

/-- What a call that makes texts hands back. -/
structure Made (w : World) (t : List Bs) (v : Value) (w' : World) : Prop where
  is : ∃ l, bs l = t ∧ ∃ va c, v = .slice va l.length c ∧ (va = none → c = 0) ∧ Row w' va l
  fr : Fr None' w w'
  room : ∀ va n c, v = .slice va n c → n ≤ c
  own : ∀ k, v.ownBlock = some k → w.heap.size ≤ k ∧ k < w'.heap.size

theorem OwnS.block {w w' : World} {v : Value} {l : List ByteArray} (h : OwnS w w' v l) {k : Nat} (hk : v.ownBlock = some k) : w.heap.size ≤ k ∧ k < w'.heap.size := by
  rcases h.2 with ⟨hv, _⟩ | ⟨g, cap, cur, hv, hb, hh, _⟩
  · rw [hv] at hk; cases hk
  · rw [hv] at hk; cases hk
    exact ⟨hb, (Array.getElem?_eq_some_iff.1 hh).1⟩

theorem OwnS.made {w w' : World} {v : Value} {l : List ByteArray} {t : List Bs} (h : OwnS w w' v l) (e : bs l = t) (f : Fr None' w w') : Made w t v w' := by
  obtain ⟨va, c, e1, hle, hn, hr⟩ := h.slice
  exact ⟨⟨l, e, va, c, e1, hn, hr⟩, f, fun _ _ _ e' => by rw [e1] at e'; cases e'; exact hle, fun _ hk => h.block hk⟩

theorem text_last {s : ByteArray} (h0 : 0 < s.size) : text s.data.toList = decide ((s[s.size - 1]'(by omega)).toNat = 10) := by
  have hne : s.data.toList ≠ [] := fun e => by have := len_eq s; rw [e] at this; simp at this; omega
  have e : s.data.toList.getLast? = some (s[s.size - 1]'(by omega)) := by
    rw [List.getLast?_eq_getElem?, len_eq, List.getElem?_eq_getElem (by rw [len_eq]; omega)]; rfl
  unfold text
  rw [e, Bool.eq_iff_iff]
  simp only [List.isEmpty_eq_false_iff.2 hne, Bool.false_or, beq_iff_eq, Option.some.injEq, decide_eq_true_eq]
  exact ⟨fun h => by rw [h]; rfl, fun h => UInt8.toNat_inj.1 h⟩

theorem seg_list (s : ByteArray) (a b : Nat) : (s.extract a b).data.toList = (s.data.toList.drop a).take (b - a) := by rw [extract_list, List.drop_take]

theorem lns_count_le : ∀ s : Bs, (lns s).length ≤ s.length
  | [] => Nat.le_refl _
  | c :: r => by
    have := lns_count_le r
    rw [lns]
    split
    · simp; omega
    · split
      · simp
      · rename_i h; rw [h] at this; simp at this ⊢; omega

theorem pieces_count_le (s : Bs) : (pieces s).length ≤ s.length := by
  have h := (pieces_all s).2
  have hg := good_some (pieces_all s).1
  conv => rhs; rw [← h]
  generalize pieces s = l at hg
  induction l with
  | nil => simp
  | cons p l ih =>
    have h1 := hg p (by simp)
    have h2 := ih (fun q hq => hg q (by simp [hq]))
    have : 0 < p.length := List.length_pos_iff.2 h1
    simp only [List.length_cons, List.flatten_cons, List.length_append]
    omega

theorem split_done {s : ByteArray} {a : Nat} (ht : text s.data.toList = true) (ha : a ≤ s.size) (h : ∀ j (h : j < s.data.toList.length), a ≤ j → j < s.size → s.data.toList[j] ≠ 10) : s.data.toList.drop a = [] := by
  by_cases h0 : 0 < s.size
  · rw [text_last h0] at ht
    have h10 := of_decide_eq_true ht
    by_cases e : a = s.size
    · rw [e, ← len_eq, List.drop_length]
    · exact absurd (UInt8.toNat_inj.1 h10) (h (s.size - 1) (by rw [len_eq]; omega) (by omega) (by omega))
  · have : s.data.toList = [] := List.eq_nil_of_length_eq_zero (by rw [len_eq]; omega)
    rw [this, List.drop_nil]

theorem split_on {s : ByteArray} {a k : Nat} (h : ∀ j (h : j < s.data.toList.length), a ≤ j → j < k → s.data.toList[j] ≠ 10) (hk : k < s.size) (hv : (s[k]).toNat ≠ 10) : ∀ j (h : j < s.data.toList.length), a ≤ j → j < k + 1 → s.data.toList[j] ≠ 10 := fun j hj h1 h2 => by
  by_cases e : j = k
  · subst e; exact fun e => hv (by rw [show s[j] = 10 from e]; rfl)
  · exact h j hj h1 (by omega)

theorem split_cut {s : ByteArray} {a k : Nat} {l : List ByteArray} (h : ∀ j (h : j < s.data.toList.length), a ≤ j → j < k → s.data.toList[j] ≠ 10) (hak : a ≤ k) (hk : k < s.size) (hv : (s[k]).toNat = 10) (e : bs l ++ lns (s.data.toList.drop a) = lns s.data.toList) :
    bs (l ++ [s.extract a k]) ++ lns (s.data.toList.drop (k + 1)) = lns s.data.toList := by
  rw [← e, lns_at hak (by rw [len_eq]; exact hk) h (UInt8.toNat_inj.1 hv), bs_append, List.append_assoc]
  refine congrArg _ ?_
  rw [show bs [s.extract a k] = [(s.extract a k).data.toList] from rfl, seg_list]
  rfl

set_option maxHeartbeats 2000000 in
theorem rSplit_any (s : ByteArray) (w : World) (hs : s.size < 900000) :
    Calls Tryz.prog 96 #[.string s] w fun e w' => ∃ v, e = .returned (.tuple #[v, .bool (text s.data.toList)]) ∧ Made w (if text s.data.toList then lns s.data.toList else []) v w' := by
  by_cases hT : text s.data.toList = true
  case neg =>
    have h0 : 0 < s.size := by
      rcases Nat.eq_zero_or_pos s.size with h | h
      · exact absurd (by rw [List.eq_nil_of_length_eq_zero ((len_eq s).trans h)]; rfl) hT
      · exact h
    have hne : ¬ s.data.toList = [] := fun e => by have := len_eq s; rw [e] at this; simp at this; omega
    obtain ⟨q1, q2⟩ := asks_no hne
    have q3 : ¬ s = ByteArray.empty := fun e => by rw [e] at hne; exact hne rfl
    have hl := text_last h0
    obtain ⟨v, hv⟩ : ∃ v : Nat, (s[s.size - 1]'(by omega)).toNat = v := ⟨_, rfl⟩
    rw [Bool.not_eq_true] at hT
    rw [hv, hT] at hl
    have h10 : ¬ v = 10 := fun e => by rw [decide_eq_true e] at hl; cases hl
    have i3 : ¬ (v : Int) = 10 := by omega
    have i4 : ((v : Int) != 10) = true := by simp; omega
    rw [hT]
    clear hT hne h10 hl
    go_enter Tryz.func96, Tryz.ntmps96
    go_wp2_with fail
    all_goals first
      | (go_ret2; exact ⟨_, rfl, (OwnS.nil w w).made rfl (Fr.refl _ _)⟩)
      | (exfalso; simp_all; done)
  case pos =>
  rw [hT]
  have HT : Hid (text s.data.toList = true) := hT
  clear hT
  by_cases h0 : 0 < s.size
  case' neg =>
    have he : s.data.toList = [] := List.eq_nil_of_length_eq_zero (by rw [len_eq]; omega)
    obtain ⟨q1, q2⟩ := asks_yes he
    have q3 : s = ByteArray.empty := str_of he
    clear he
    go_enter Tryz.func96, Tryz.ntmps96
    go_wp2_with fail
    clear q1 q2 q3
  case' pos =>
    have hne : ¬ s.data.toList = [] := fun e => by have := len_eq s; rw [e] at this; simp at this; omega
    obtain ⟨q1, q2⟩ := asks_no hne
    have q3 : ¬ s = ByteArray.empty := fun e => by rw [e] at hne; exact hne rfl
    have hv : (s[s.size - 1]'(by omega)).toNat = 10 := of_decide_eq_true ((text_last h0).symm.trans HT.out)
    clear hne
    go_enter Tryz.func96, Tryz.ntmps96
    go_wp2_with fail
    clear q1 q2 q3 hv
  all_goals
    clear h0
    go_loopw [4, 5, 6] (fun v f i wr => ∃ (l : List ByteArray) (a k : Nat), f = .int .i64 a ∧ i = .int .i64 k ∧ a ≤ k ∧ k ≤ s.size ∧ OwnS w wr v l ∧ Fr None' w wr ∧ l.length ≤ k ∧ Hid (bs l ++ lns (s.data.toList.drop a) = lns s.data.toList) ∧ Hid (∀ j (h : j < s.data.toList.length), a ≤ j → j < k → s.data.toList[j] ≠ 10)) (fun _ _ i _ => s.size - (intOf i).toNat)
    case atStart => exact ⟨[], 0, 0, rfl, rfl, Nat.le_refl _, Nat.zero_le _, OwnS.nil w w, Fr.refl _ _, Nat.le_refl _, rfl, fun j _ _ h => absurd h (Nat.not_lt_zero _)⟩
    case round =>
      obtain ⟨l, a, k, rfl, rfl, hak, hk, own, fr, hlk, HL, HN⟩ := hrel
      by_cases hlt : k < s.size
      · obtain ⟨c, hc⟩ : ∃ c : Nat, (s[k]).toNat = c := ⟨_, rfl⟩
        have HC : Hid ((s[k]).toNat = c) := hc
        by_cases h10 : c = 10
        · subst h10
          have HL' : Hid _ := split_cut HN.out hak hlt HC.out HL.out
          go_wp2_with (at_builtin
                       refine append_str rfl _ _ rfl rfl (own.alloc _) (fr.then (Fr.alloc None' wr _)) rfl (one_row wr (s.extract a k)) (fun e => by cases e) (by simp; omega) ?_
                       intro v1 w1 own1 f1 g1
                       clear own fr g1)
          exact ⟨⟨_, k + 1, k + 1, by go_num, by go_num, Nat.le_refl _, by omega, own1, f1, by simp; omega, HL'.out, fun j _ h1 h2 => by omega⟩, by simp [intOf]; omega⟩
        · have i3 : ¬ (c : Int) = 10 := by omega
          have HN' : Hid _ := split_on HN.out hlt (by rw [HC.out]; exact h10)
          go_wp2_with fail
          exact ⟨⟨l, a, k + 1, rfl, by go_num, by omega, by omega, own, fr, by omega, HL.out, HN'.out⟩, by simp [intOf]; omega⟩
      · have hke : k = s.size := by omega
        have HD : Hid (bs l = lns s.data.toList) := by
          have := HN.out
          rw [hke] at this
          have h2 := HL.out
          rw [split_done HT.out (by omega) this] at h2
          exact (by simpa [lns] using h2 : bs l = lns s.data.toList)
        clear hke
        go_wp2_with fail
        go_ret2
        exact ⟨_, rfl, own.made HD.out fr⟩

end Go.Proofs.YtdaogldmcbfmoaaGreatDoor.Lines

namespace Go.Proofs.YtdaogldmcbfmoaaGreatDoor.Lines
open Go.RowKit
set_option maxRecDepth 100000

theorem join_take {l : List ByteArray} {k : Nat} (hk : k < l.length) : join (bs (l.take (k + 1))) = join (bs (l.take k)) ++ l[k].data.toList ++ [10] := by
  rw [List.take_succ_eq_append_getElem hk, bs_append, show bs [l[k]] = [l[k].data.toList] from rfl, join_snoc]

theorem join_le (l : List ByteArray) (k : Nat) : (join (bs (l.take k))).length ≤ (join (bs l)).length := by
  conv => rhs; rw [← List.take_append_drop k l, bs_append, join_append, List.length_append]
  omega

theorem item_le {l : List ByteArray} {k : Nat} (hk : k < l.length) : (join (bs (l.take k))).length + l[k].size + 1 ≤ (join (bs l)).length := by
  have h1 := join_le l (k + 1)
  rw [join_take hk, List.length_append, List.length_append, len_eq] at h1
  simpa using h1

set_option maxHeartbeats 2000000 in
theorem rJoin_any (va : Option Addr) (ca : Nat) (l : List ByteArray) (w : World) (ha : Row w va l) (hl : (l.length : Int) < 1000000) (hb : (join (bs l)).length ≤ 100000000) :
    Calls Tryz.prog 71 #[.slice va l.length ca] w fun e w' => e = .returned (.string ⟨(join (bs l)).toArray⟩) ∧ Fr None' w w' := by
  obtain ⟨n, hna⟩ : ∃ n, l.length = n := ⟨_, rfl⟩
  have HA : Hid (l.length = n) := hna
  have HB : Hid ((join (bs l)).length ≤ 100000000) := hb
  rw [hna] at hl ⊢
  clear hb hna
  go_enter Tryz.func71, Tryz.ntmps71
  go_wp2_with fail
  go_loopw [3, 4] (fun v i wr => ∃ k : Nat, k ≤ n ∧ i = .int .i64 k ∧ OwnB w wr v (join (bs (l.take k))) ∧ Fr None' w wr) (fun _ i _ => n - (intOf i).toNat)
  case atStart => exact ⟨0, Nat.zero_le _, rfl, OwnB.nil w w, Fr.refl _ _⟩
  case round =>
    obtain ⟨k, hk, rfl, own, fr⟩ := hrel
    by_cases hlt : k < n
    · have hka : k < l.length := by rw [HA.out]; exact hlt
      obtain ⟨ga, oa, rfl, c1⟩ := (ha.fr fr).get hka
      have HI : Hid _ := item_le hka
      have HJ : Hid _ := join_take hka
      obtain ⟨x, hx⟩ : ∃ x, l[k] = x := ⟨_, rfl⟩
      rw [hx] at c1 HI HJ
      clear hx ha
      have i2 : (k : Int) < n := by omega
      go_wp2_with (first
        | (at_builtin
           refine append_text rfl _ _ rfl rfl own fr rfl (by have := HI.out; have := HB.out; omega) ?_
           intro v1 w1 own1 f1
           clear own fr c1)
        | (at_builtin
           refine append_ten rfl _ _ rfl rfl own1 f1 rfl (by have := HI.out; have := HB.out; rw [List.length_append, len_eq]; omega) ?_
           intro v2 w2 own2 f2
           clear own1 f1))
      exact ⟨⟨k + 1, by omega, by go_num, by rw [HJ.out]; exact own2, f2⟩, by simp [intOf]; omega⟩
    · have HK : Hid (l.take k = l) := List.take_of_length_le (by rw [HA.out]; omega)
      have cC := conv_row own
      rw [HK.out] at cC
      go_wp2_with fail
      go_ret
      exact ⟨rfl, fr⟩

end Go.Proofs.YtdaogldmcbfmoaaGreatDoor.Lines

namespace Go.Proofs.YtdaogldmcbfmoaaGreatDoor.Lines
open Go.RowKit Go.Shelf
set_option maxRecDepth 100000

theorem builder_cells (l : Bs) (x : ByteArray) : Lib.byteCells l ++ Lib.strCells x = Lib.byteCells (l ++ x.data.toList) := by rw [Lib.byteCells_append]; rfl

/-- What is kept from w on, where only what lay there must be kept. -/
theorem Fr.then_below {a b c : World} (h : Fr None' a b) (k : Below a.heap.size b c) : Fr None' a c :=
  ⟨k.os.trans h.os, k.tape.trans h.tape, k.output.trans h.output, Nat.le_trans h.size k.size, fun i hi _ => (k.block i hi).trans (h.block i hi id)⟩

set_option maxHeartbeats 2000000 in
theorem join_any (va : Option Addr) (ca : Nat) (l : List ByteArray) (w : World) (ha : Row w va l) (hl : (l.length : Int) < 1000000) (hb : (join (bs l)).length ≤ 100000000) :
    Calls Tryz.prog 67 #[.slice va l.length ca] w fun e w' => e = .returned (.string ⟨(join (bs l)).toArray⟩) ∧ Fr None' w w' := by
  obtain ⟨n, hna⟩ : ∃ n, l.length = n := ⟨_, rfl⟩
  have HA : Hid (l.length = n) := hna
  have HB : Hid ((join (bs l)).length ≤ 100000000) := hb
  rw [hna] at hl ⊢
  clear hb hna
  go_enter Tryz.func67, Tryz.ntmps67
  go_wp2_with fail
  go_loopw [8] (fun i wr => ∃ k : Nat, k ≤ n ∧ i = .int .i64 k ∧ Lib.IsBuilderF 139 5 w.heap.size w.heap.size (Lib.byteCells (join (bs (l.take k)))) wr ∧ Fr None' w wr) (fun i _ => n - (intOf i).toNat)
  case atStart => exact ⟨0, Nat.zero_le _, rfl, Lib.IsBuilderF.of (Lib.fresh_isBuilder 139 5 w), Fr.alloc _ _ _⟩
  case round =>
    obtain ⟨k, hk, rfl, hI, fr⟩ := hrel
    have hsz := fr.size
    by_cases hlt : k < n
    · have hka : k < l.length := by rw [HA.out]; exact hlt
      obtain ⟨ga, oa, rfl, c1⟩ := (ha.fr fr).get hka
      have HI : Hid _ := item_le hka
      have HJ : Hid _ := join_take hka
      obtain ⟨x, hx⟩ : ∃ x, l[k] = x := ⟨_, rfl⟩
      rw [hx] at c1 HI HJ
      clear hx ha
      have i2 : (k : Int) < n := by omega
      have cW := Tryz.Builder_WriteString_k w.heap.size w.heap.size _ x wr hI (by rw [Lib.byteCells_length]; have := HI.out; have := HB.out; omega) hsz
      rw [builder_cells] at cW
      go_wp2_with fail
      refine cW.mono ?_
      rintro e w1 ⟨rfl, h1, b1, _⟩
      have f1 : Fr None' w w1 := fr.then_below b1
      have cW2 := Tryz.Builder_WriteString_k w.heap.size w.heap.size _ ⟨#[10]⟩ w1 (.inr h1) (by rw [Lib.byteCells_length, List.length_append, len_eq]; have := HI.out; have := HB.out; show _ + 1 ≤ _; omega) f1.size
      rw [builder_cells, show (⟨#[10]⟩ : ByteArray).data.toList = [10] from rfl, ← HJ.out] at cW2
      clear cW h1 b1 c1
      go_wp2_with fail
      refine cW2.mono ?_
      rintro e w2 ⟨rfl, h2, b2, _⟩
      clear cW2
      go_wp2_with fail
      exact ⟨⟨k + 1, by omega, by go_num, .inr h2, f1.then_below b2⟩, by simp [intOf]; omega⟩
    · have HK : Hid (l.take k = l) := List.take_of_length_le (by rw [HA.out]; omega)
      rw [HK.out] at hI
      have cS := Tryz.Builder_String_any_k w.heap.size w.heap.size _ wr hI hsz
      go_wp2_with fail
      refine cS.mono ?_
      rintro e w1 ⟨rfl, _, b1, _⟩
      go_wp2_with fail
      go_ret
      exact ⟨rfl, fr.then_below b1⟩

end Go.Proofs.YtdaogldmcbfmoaaGreatDoor.Lines
