/-
  What is proved here: whether a rune is one of three marks, whether a path may have it, and what rightPart answers. No condition but the text's length.
-/
import Derived.Test.YtlmgbcfcikdgpaaGreatDoorPLay
import Derived.Test.YtlmgbcfcikdgpaaGreatDoorPRRest
import Derived.Lib.OthersKept
import Derived.Deep.LoopGhost
import Derived.Laws.Runes
import Derived.Laws.RangeAny
import Derived.Lib.Walk
import Derived.WalkMore
import Derived.Deep.QuietTactic
import Derived.BigQuiet
import Derived.Lib.IndexLaws
namespace Go.Proofs.YtlmgbcfcikdgpaaGreatDoor.Path
open Go.RowKit Go.Shelf
set_option maxRecDepth 100000

theorem valid_is (r : Int) (w : World) : Calls Tryz.prog 156 #[.int .i32 r] w fun e w' => e = .returned (.bool (Lib.validRune r)) ∧ w = w' := (Any.utf8_ValidRune Tryz.lays119 r w).mono fun _ _ ⟨a, b⟩ => ⟨a, b.symm⟩

theorem indexByte_is (s : ByteArray) (c : Int) (w : World) : Calls Tryz.prog 155 #[.string s, .int .u8 c] w fun e w' => e = .returned (.int .i64 (Lib.indexByte s.data.toList c.toNat.toUInt8)) ∧ w' = w := Any.strings_IndexByte Tryz.lays137 s c w

set_option maxHeartbeats 2000000 in
/-- The rune for what is none, in three bytes of ASCII. -/
theorem irune_bad (s : ByteArray) (w : World) (h3 : s.size = 3) (ha : ∀ (k : Nat) (h : k < s.size), (s[k]'h).toNat < 128) :
    Calls Tryz.prog 145 #[.string s, .int .i32 65533] w fun e w' => e = .returned (.int .i64 (-1)) ∧ Below w.heap.size w w' := by
  go_enter Tryz.func145, Tryz.ntmps145
  go_wp2_with fail
  go_loopg [] 3 (fun gf wx => ∃ pos : Nat, wx.heap[w.heap.size]? = some (.stringIter s pos) ∧ Below w.heap.size w wx ∧ 3 ≤ pos + gf)
  case atStart => exact ⟨0, World.iter_heap w s 0, (Below.refl _ w).alloc (Nat.le_refl _) _, by omega⟩
  case round =>
    obtain ⟨pos, hit, hbw, hfu⟩ := hrel
    by_cases hps : pos < s.size
    · obtain ⟨g', rfl⟩ : ∃ g', gk = g' + 1 := ⟨gk - 1, by omega⟩
      have hnx : ∀ ty, (Instr.next (.pointer (some ⟨w.heap.size, 0, none⟩)) true ty).run Tryz.prog wr = _ := fun ty => Lib.run_next_ascii_at wr w.heap.size s pos ty hit hps (ha pos hps)
      have hv := ha pos hps
      obtain ⟨v, hv'⟩ : ∃ v : Nat, (s[pos]).toNat = v := ⟨_, rfl⟩
      rw [hv'] at hnx hv
      have hit2 := Lib.iterAt_heap wr w.heap.size s pos (pos + 1) hit
      have hbw2 := Lib.below_iterAt hbw (k := w.heap.size) (Nat.le_refl _) s (pos + 1)
      have hne : ¬ (v : Int) = 65533 := by omega
      go_wp2_with fail
      go_roundg g'
      case measure => omega
      case rel => exact ⟨pos + 1, hit2, hbw2, by omega⟩
    · have hnx : ∀ ty, (Instr.next (.pointer (some ⟨w.heap.size, 0, none⟩)) true ty).run Tryz.prog wr = _ := fun ty => Lib.run_next_end_at wr w.heap.size s pos ty hit hps
      go_wp2_with fail
      go_ret
      exact ⟨rfl, hbw⟩

theorem no_high {l : List UInt8} {c : UInt8} (h : ∀ b ∈ l, b.toNat < 128) (hc : 128 ≤ c.toNat) : Lib.indexByte l c = -1 := by
  cases e : decide (0 ≤ Lib.indexByte l c) with
  | false => have h1 := Lib.indexByte_ge l c; have h2 := of_decide_eq_false e; omega
  | true =>
    have h2 := of_decide_eq_true e
    obtain ⟨o, ho⟩ := Int.eq_ofNat_of_zero_le h2
    have := List.mem_of_getElem? (Lib.indexByte_some ho).1
    have := h c this
    omega

set_option maxHeartbeats 4000000 in
/-- A rune beyond ASCII, in three bytes of ASCII. -/
theorem irune_high (s : ByteArray) (r : Int) (w : World) (h3 : s.size = 3) (ha : ∀ (k : Nat) (h : k < s.size), (s[k]'h).toNat < 128) (h128 : 128 ≤ r) (hne : r ≠ 65533) (hv : Lib.validRune r = true) (hu : Utf8.valid r = true) :
    Calls Tryz.prog 145 #[.string s, .int .i32 r] w fun e w' => e = .returned (.int .i64 (-1)) ∧ Below w.heap.size w w' := by
  obtain ⟨f1, f2, f3⟩ := encode_facts r hu h128
  have cv := valid_is r w
  rw [hv] at cv
  have q1 : ¬ r < 128 := by omega
  have q0 : 0 ≤ r := by omega
  have e18 : ∀ w, (convert 21 9 (.int .i32 r)).run Tryz.prog w = .ok (.string (Utf8.encode r)) w := fun w => run_convert_int_string w 21 9 .i32 r (by rw [Tryz.underlying21]; rfl) Tryz.underlying9
  obtain ⟨E, hE⟩ : ∃ E, Utf8.encode r = E := ⟨_, rfl⟩
  rw [hE] at f1 f2 f3 e18
  obtain ⟨n, hn⟩ : ∃ n : Nat, E.size = n + 1 := ⟨E.size - 1, by omega⟩
  have hl : n < E.size := by omega
  have hlast := f3 (by omega)
  simp only [hn, Nat.add_sub_cancel] at hlast
  clear f3 hE
  go_enter Tryz.func145, Tryz.ntmps145
  go_wp2_with (go_at_call 156; refine cv.mono ?_; rintro e w' ⟨rfl, rfl⟩)
  go_step3
  go_wp2_with fail
  go_loop [9] (fun vi => vi = .int .i64 n) (fun _ => 0)
  case atStart => rfl
  case round =>
    subst hrel
    by_cases hlt : n < 3
    · obtain ⟨v, hv'⟩ : ∃ v : Nat, (s[n]'(by omega)).toNat = v := ⟨_, rfl⟩
      obtain ⟨u, hu'⟩ : ∃ u : Nat, (E[n]).toNat = u := ⟨_, rfl⟩
      have hv128 : v < 128 := by rw [← hv']; exact ha n (by omega)
      rw [hu'] at hlast
      have hvu : ¬ (v : Int) = u := by omega
      have u256 : u < 256 := by rw [← hu']; exact (E[n]).toNat_lt
      have ci : ∀ v, Calls Tryz.prog 155 #[.string (s.extract (n + 1) 3), .int .u8 u] v fun e w' => e = .returned (.int .i64 (-1)) ∧ w' = v := fun v => by
        have ci := indexByte_is (s.extract (n + 1) 3) u v
        rw [no_high (fun b hb => by
          rw [extract_list] at hb
          obtain ⟨k, hk, e⟩ := List.getElem_of_mem (List.mem_of_mem_take (List.mem_of_mem_drop hb))
          rw [← e]; exact ha k (by rw [← len_eq]; exact hk)) (by simp; omega)] at ci
        exact ci
      have hw1 : IntKind.i64.wrap ((n : Int) + 1) = ((n + 1 : Nat) : Int) := by rw [wrap_small _ (by omega) (by omega)]; rfl
      have hsl : ∀ v, (Instr.slice 9 (.string s) (some (.int .i64 ((n : Int) + 1))) none none).run Tryz.prog v = .ok (.string (s.extract (n + 1) 3)) v := fun v => by
        rw [run_slice_string_from_if _ _ _ _ _ Tryz.underlying9, if_pos ⟨by omega, by omega⟩, h3]; rfl
      have hix : ∀ v, (Instr.index 9 (.string E) (.int .i64 (n : Int))).run Tryz.prog v = .ok (.int .u8 u) v := fun v => by
        rw [run_index_string _ _ _ _ _ Tryz.underlying9]; simp [hl, hu']
      clear ha
      go_wp2_with fail
      go_step3
      go_wp2_with fail
      go_quiet (fail)
      have fB : Below w.heap.size w (w.drewN nq) := below_drewNg w nq
      generalize w.drewN nq = w6 at fB ⊢
      go_wp2_with fail
      go_quiet (first | (go_at_call 155; exact Calls.quiet_of_same (ci _)))
      go_wp2_with fail
      simp only [Exit.noGoto, Exit.inBlock]
      go_wp2_with fail
      simp only [Exit.noGoto, Exit.inBlock]
      go_wp2_with fail
      go_ret
      exact ⟨rfl, fB.trans ((below_drewNg _ _).mono fB.size)⟩
    · go_wp2_with fail
      go_ret
      exact ⟨rfl, Below.refl _ _⟩

/-- The three marks. -/
abbrev marks : ByteArray := ⟨#[46, 95, 45]⟩

theorem marks_low : ∀ (k : Nat) (h : k < marks.size), (marks[k]'h).toNat < 128 := by decide

def okR (r : Nat) : Bool := decide (r = 46) || decide (r = 95) || decide (r = 45) || (decide (97 ≤ r) && decide (r ≤ 122)) || (decide (48 ≤ r) && decide (r ≤ 57))

def markR (r : Nat) : Bool := decide (r = 46) || decide (r = 95) || decide (r = 45)

theorem marks_index : ∀ r : Fin 128, decide (0 ≤ Lib.indexByte [46, 95, 45] (r.val.toUInt8)) = markR r.val := by decide

set_option maxHeartbeats 1000000 in
theorem contains_any (r : Nat) (w : World) (hr : r ≤ 1114111) : Calls Tryz.prog 133 #[.string marks, .int .i32 (r : Int)] w fun e w' => e = .returned (.bool (markR r)) ∧ Below w.heap.size w w' := by
  by_cases h : r < 128
  · refine (Any.strings_ContainsRune_ascii Tryz.lays151 marks r w (by omega) (by omega)).mono ?_
    rintro e w' ⟨rfl, rfl⟩
    refine ⟨?_, Below.refl _ _⟩
    have := marks_index ⟨r, h⟩
    rw [← this]
    rfl
  · have hm : markR r = false := by simp [markR]; omega
    have ci : Calls Tryz.prog 145 #[.string marks, .int .i32 (r : Int)] w fun e w' => e = .returned (.int .i64 (-1)) ∧ Below w.heap.size w w' := by
      by_cases h2 : r = 65533
      · subst h2; exact irune_bad marks w rfl marks_low
      · cases hv : Lib.validRune (r : Int)
        · have cv := valid_is r w
          rw [hv] at cv
          have q1 : ¬ (r : Int) < 128 := by omega
          have q2 : ¬ (r : Int) = 65533 := by omega
          clear h h2 hv hm
          generalize marks = s
          go_enter Tryz.func145, Tryz.ntmps145
          go_wp2_with (go_at_call 156; refine cv.mono ?_; rintro e w' ⟨rfl, rfl⟩)
          go_ret
          exact ⟨rfl, Below.refl _ _⟩
        · exact irune_high marks r w rfl marks_low (by omega) (by omega) hv (by rw [validRune_eq]; exact hv)
    rw [hm]
    generalize marks = s at ci ⊢
    go_enter Tryz.func133, Tryz.ntmps133
    go_wp2_with (go_at_call 145; refine ci.mono ?_; rintro e w' ⟨rfl, hb⟩)
    go_ret
    exact ⟨rfl, hb⟩

set_option maxHeartbeats 1000000 in
theorem allowed_any (r : Nat) (w : World) (hr : r ≤ 1114111) : Calls Tryz.prog 113 #[.int .i32 (r : Int)] w fun e w' => e = .returned (.bool (okR r)) ∧ Below w.heap.size w w' := by
  have cc := contains_any r w hr
  go_enter Tryz.func113, Tryz.ntmps113
  go_wp2_with (go_at_call 133; refine cc.mono ?_; rintro e w' ⟨rfl, hb⟩)
  all_goals go_ret
  all_goals refine ⟨congrArg (fun b => Ending.returned (Value.bool b)) (?_ : _ = okR r), by first | exact hb | exact Below.refl _ _⟩
  all_goals (rw [Bool.eq_iff_iff]; simp [okR, markR]; omega)

set_option maxHeartbeats 1000000 in
theorem rightPart1_any (w : World) : PredGrows Tryz.prog 112 #[] (fun r => !okR r) w := by
  intro W r hr _
  have cc := allowed_any r W hr
  show Calls Tryz.prog 112 #[.int .i32 (r : Int)] W _
  go_enter Tryz.func112, Tryz.ntmps112
  go_wp2_with (go_at_call 113; refine cc.mono ?_; rintro e w' ⟨rfl, hb⟩)
  go_ret
  exact ⟨rfl, hb⟩

theorem good_okR (c : UInt8) : good c = okR c.toNat := rfl

theorem good_high {c : UInt8} (h : 128 ≤ c.toNat) : good c = false := by simp [good]; omega

theorem okR_high {r : Nat} (h : 128 ≤ r) : okR r = false := by simp [okR]; omega

theorem idx_from (s : ByteArray) : ∀ (f pos : Nat), s.size ≤ pos + f → decide (0 ≤ Lib.idxFuncFrom (fun r => !okR r) true s f pos) = !((s.data.toList.drop pos).all good)
  | 0, pos, h => by
    rw [List.drop_of_length_le (by rw [len_eq]; omega)]; rfl
  | f + 1, pos, h => by
    unfold Lib.idxFuncFrom
    by_cases hp : pos < s.size
    · rw [if_pos hp, List.drop_eq_getElem_cons (by rw [len_eq]; exact hp)]
      rw [show s.data.toList[pos]'(by rw [len_eq]; exact hp) = s[pos] from rfl]
      by_cases hb : (s[pos]).toNat < 128
      · rw [decode_ascii s pos hp hb]
        cases hg : good s[pos]
        · rw [if_pos (by rw [← good_okR, hg]; rfl)]
          simp [hg]
        · rw [if_neg (by rw [← good_okR, hg]; simp), idx_from s f (pos + 1) (by omega)]
          simp [hg]
      · have hb' : 128 ≤ (s[pos]).toNat := by omega
        have hd := (decode_high s pos hp hb').1
        rw [if_pos (by rw [okR_high hd]; rfl)]
        simp [good_high hb']
    · rw [if_neg hp, List.drop_of_length_le (by rw [len_eq]; omega)]; rfl

theorem idx_all (s : ByteArray) : decide (0 ≤ Lib.idxFunc (fun r => !okR r) true s) = !(s.data.toList.all good) := by
  rw [Lib.idxFunc, idx_from s s.size 0 (by omega), List.drop_zero]

theorem containsFunc_any (s : ByteArray) (w : World) : Calls Tryz.prog 111 #[.string s, .func (.func 112) #[] #[]] w fun e w' => e = .returned (.bool !(s.data.toList.all good)) ∧ Below w.heap.size w w' := by
  rw [← idx_all]
  exact Any.strings_ContainsFunc_grows Tryz.laysGw17 112 #[] (enters_of Tryz.func112 (by kernel_rfl) rfl) (fun r => !okR r) s w (rightPart1_any w)

set_option maxHeartbeats 1000000 in
theorem rightPart_any (s : ByteArray) (w : World) : Calls Tryz.prog 87 #[.string s] w fun e w' => e = .returned (.bool (goodPart s.data.toList)) ∧ Below w.heap.size w w' := by
  have e : s.data.toList.length = s.size := len_eq s
  by_cases h3 : s.data.toList = [46]
  case pos =>
    have hR : goodPart s.data.toList = false := by rw [h3]; rfl
    obtain ⟨q1, q2⟩ := asks_yes h3
    rw [hR]
    clear hR e h3
    go_enter Tryz.func87, Tryz.ntmps87
    go_wp2
    go_ret
    exact ⟨rfl, Below.refl _ _⟩
  case neg =>
  obtain ⟨q1, q2⟩ := asks_no h3
  by_cases h4 : s.data.toList = [46, 46]
  case pos =>
    have hR : goodPart s.data.toList = false := by rw [h4]; rfl
    obtain ⟨q3, q4⟩ := asks_yes h4
    rw [hR]
    clear hR e h3 h4 q1
    go_enter Tryz.func87, Tryz.ntmps87
    go_wp2
    go_ret
    exact ⟨rfl, Below.refl _ _⟩
  case neg =>
  obtain ⟨q3, q4⟩ := asks_no h4
  by_cases h1 : s.size = 0
  case pos =>
    have hR : goodPart s.data.toList = false := by simp [goodPart, e, h1]
    have i1 : (s.size : Int) = 0 := by omega
    rw [hR]
    clear hR e h3 h4
    go_enter Tryz.func87, Tryz.ntmps87
    go_wp2
    go_ret
    exact ⟨rfl, Below.refl _ _⟩
  case neg =>
  have i1 : ¬ (s.size : Int) = 0 := by omega
  by_cases h2 : s.size ≤ 16
  case neg =>
    have hR : goodPart s.data.toList = false := by simp [goodPart, e]; omega
    have i2 : (16 : Int) < s.size := by omega
    rw [hR]
    clear hR e h3 h4
    go_enter Tryz.func87, Tryz.ntmps87
    go_wp2
    go_ret
    exact ⟨rfl, Below.refl _ _⟩
  case pos =>
  have i2 : ¬ (16 : Int) < s.size := by omega
  have hR : goodPart s.data.toList = s.data.toList.all good := by
    unfold goodPart
    rw [e]
    simp only [h3, h4, show 1 ≤ s.size from by omega, h2, decide_true, decide_false, Bool.not_false, Bool.and_true, Bool.true_and]
  have cc := containsFunc_any s w
  rw [hR]
  clear hR e h3 h4
  go_enter Tryz.func87, Tryz.ntmps87
  go_wp2_with (go_at_call 111; refine cc.mono ?_; rintro e w' ⟨rfl, hb⟩)
  go_ret
  refine ⟨?_, hb⟩
  simp

end Go.Proofs.YtlmgbcfcikdgpaaGreatDoor.Path
