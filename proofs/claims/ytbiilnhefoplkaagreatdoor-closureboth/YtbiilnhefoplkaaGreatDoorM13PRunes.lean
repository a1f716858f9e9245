/-
  What is proved here: the contracts that the statement stands on: PRunes, PSmall. Conditions: as each theorem names them.
-/
import Derived.Test.YtbiilnhefoplkaaGreatDoorM9PLay
import Derived.Test.YtbiilnhefoplkaaGreatDoorM12PRRest
import Derived.Lib.OthersKept
import Derived.Deep.LoopGhost
import Derived.Laws.Runes
import Derived.Laws.RangeAny
import Derived.Lib.Walk
import Derived.WalkMore
import Derived.Deep.QuietTactic
import Derived.BigQuiet
import Derived.Lib.IndexLaws
namespace Go.Proofs.YtbiilnhefoplkaaGreatDoor.Path
open Go.RowKit Go.Shelf
set_option maxRecDepth 100000

theorem valid_is (r : Int) (w : World) : Calls Tryz.prog 121 #[.int .i32 r] w fun e w' => e = .returned (.bool (Lib.validRune r)) ∧ w = w' := (Any.utf8_ValidRune Tryz.lays119 r w).mono fun _ _ ⟨a, b⟩ => ⟨a, b.symm⟩

theorem indexByte_is (s : ByteArray) (c : Int) (w : World) : Calls Tryz.prog 120 #[.string s, .int .u8 c] w fun e w' => e = .returned (.int .i64 (Lib.indexByte s.data.toList c.toNat.toUInt8)) ∧ w' = w := Any.strings_IndexByte Tryz.lays137 s c w

set_option maxHeartbeats 2000000 in
/-- The rune for what is none, in three bytes of ASCII. -/
theorem irune_bad (s : ByteArray) (w : World) (h3 : s.size = 3) (ha : ∀ (k : Nat) (h : k < s.size), (s[k]'h).toNat < 128) :
    Calls Tryz.prog 103 #[.string s, .int .i32 65533] w fun e w' => e = .returned (.int .i64 (-1)) ∧ Below w.heap.size w w' := by
  go_enter Tryz.func103, Tryz.ntmps103
  go_wp2_with fail
  go_loopg [] 3 (fun gf wx => ∃ pos : Nat, wx.heap[w.heap.size]? = some (.stringIter s pos) ∧ Below w.heap.size w wx ∧ 3 ≤ pos + gf)
  case atStart => exact ⟨0, World.iter_heap w s 0, (Below.refl _ w).alloc (Nat.le_refl _) _, by omega⟩
  case round =>
    obtain ⟨pos, hit, hbw, hfu⟩ := hrel
    by_cases hps : pos < s.size
    · obtain ⟨g', rfl⟩ : ∃ g', gk = g' + 1 := ⟨gk - 1, by omega⟩
      have hnx : ∀ ty, (Instr.next (.pointer (some ⟨w.heap.size, 0, none⟩)) true ty).run Tryz.prog wr = _ := fun ty => Lib.run_next_ascii_at wr w.heap.size s pos ty hit hps (ha pos hps)
      have hv := ha pos hps
      obtain ⟨v, hv'⟩ : ∃ v : Nat, (s[pos]).toNat = v := ⟨_, rfl⟩
      rw [hv'] at hnx hv
      have hit2 := Lib.iterAt_heap wr w.heap.size s pos (pos + 1) hit
      have hbw2 := Lib.below_iterAt hbw (k := w.heap.size) (Nat.le_refl _) s (pos + 1)
      have hne : ¬ (v : Int) = 65533 := by omega
      go_wp2_with fail
      go_roundg g'
      case measure => omega
      case rel => exact ⟨pos + 1, hit2, hbw2, by omega⟩
    · have hnx : ∀ ty, (Instr.next (.pointer (some ⟨w.heap.size, 0, none⟩)) true ty).run Tryz.prog wr = _ := fun ty => Lib.run_next_end_at wr w.heap.size s pos ty hit hps
      go_wp2_with fail
      go_ret
      exact ⟨rfl, hbw⟩

theorem no_high {l : List UInt8} {c : UInt8} (h : ∀ b ∈ l, b.toNat < 128) (hc : 128 ≤ c.toNat) : Lib.indexByte l c = -1 := by
  cases e : decide (0 ≤ Lib.indexByte l c) with
  | false => have h1 := Lib.indexByte_ge l c; have h2 := of_decide_eq_false e; omega
  | true =>
    have h2 := of_decide_eq_true e
    obtain ⟨o, ho⟩ := Int.eq_ofNat_of_zero_le h2
    have := List.mem_of_getElem? (Lib.indexByte_some ho).1
    have := h c this
    omega

set_option maxHeartbeats 4000000 in
/-- A rune beyond ASCII, in three bytes of ASCII. -/
theorem irune_high (s : ByteArray) (r : Int) (w : World) (h3 : s.size = 3) (ha : ∀ (k : Nat) (h : k < s.size), (s[k]'h).toNat < 128) (h128 : 128 ≤ r) (hne : r ≠ 65533) (hv : Lib.validRune r = true) (hu : Utf8.valid r = true) :
    Calls Tryz.prog 103 #[.string s, .int .i32 r] w fun e w' => e = .returned (.int .i64 (-1)) ∧ Below w.heap.size w w' := by
  obtain ⟨f1, f2, f3⟩ := encode_facts r hu h128
  have cv := valid_is r w
  rw [hv] at cv
  have q1 : ¬ r < 128 := by omega
  have q0 : 0 ≤ r := by omega
  have e18 : ∀ w, (convert 21 9 (.int .i32 r)).run Tryz.prog w = .ok (.string (Utf8.encode r)) w := fun w => run_convert_int_string w 21 9 .i32 r (by rw [Tryz.underlying21]; rfl) Tryz.underlying9
  obtain ⟨E, hE⟩ : ∃ E, Utf8.encode r = E := ⟨_, rfl⟩
  rw [hE] at f1 f2 f3 e18
  obtain ⟨n, hn⟩ : ∃ n : Nat, E.size = n + 1 := ⟨E.size - 1, by omega⟩
  have hl : n < E.size := by omega
  have hlast := f3 (by omega)
  simp only [hn, Nat.add_sub_cancel] at hlast
  clear f3 hE
  go_enter Tryz.func103, Tryz.ntmps103
  go_wp2_with (go_at_call 121; refine cv.mono ?_; rintro e w' ⟨rfl, rfl⟩)
  go_step3
  go_wp2_with fail
  go_loop [9] (fun vi => vi = .int .i64 n) (fun _ => 0)
  case atStart => rfl
  case round =>
    subst hrel
    by_cases hlt : n < 3
    · obtain ⟨v, hv'⟩ : ∃ v : Nat, (s[n]'(by omega)).toNat = v := ⟨_, rfl⟩
      obtain ⟨u, hu'⟩ : ∃ u : Nat, (E[n]).toNat = u := ⟨_, rfl⟩
      have hv128 : v < 128 := by rw [← hv']; exact ha n (by omega)
      rw [hu'] at hlast
      have hvu : ¬ (v : Int) = u := by omega
      have u256 : u < 256 := by rw [← hu']; exact (E[n]).toNat_lt
      have ci : ∀ v, Calls Tryz.prog 120 #[.string (s.extract (n + 1) 3), .int .u8 u] v fun e w' => e = .returned (.int .i64 (-1)) ∧ w' = v := fun v => by
        have ci := indexByte_is (s.extract (n + 1) 3) u v
        rw [no_high (fun b hb => by
          rw [extract_list] at hb
          obtain ⟨k, hk, e⟩ := List.getElem_of_mem (List.mem_of_mem_take (List.mem_of_mem_drop hb))
          rw [← e]; exact ha k (by rw [← len_eq]; exact hk)) (by simp; omega)] at ci
        exact ci
      have hw1 : IntKind.i64.wrap ((n : Int) + 1) = ((n + 1 : Nat) : Int) := by rw [wrap_small _ (by omega) (by omega)]; rfl
      have hsl : ∀ v, (Instr.slice 9 (.string s) (some (.int .i64 ((n : Int) + 1))) none none).run Tryz.prog v = .ok (.string (s.extract (n + 1) 3)) v := fun v => by
        rw [run_slice_string_from_if _ _ _ _ _ Tryz.underlying9, if_pos ⟨by omega, by omega⟩, h3]; rfl
      have hix : ∀ v, (Instr.index 9 (.string E) (.int .i64 (n : Int))).run Tryz.prog v = .ok (.int .u8 u) v := fun v => by
        rw [run_index_string _ _ _ _ _ Tryz.underlying9]; simp [hl, hu']
      clear ha
      go_wp2_with fail
      go_step3
      go_wp2_with fail
      go_quiet (fail)
      have fB : Below w.heap.size w (w.drewN nq) := below_drewNg w nq
      generalize w.drewN nq = w6 at fB ⊢
      go_wp2_with fail
      go_quiet (first | (go_at_call 120; exact Calls.quiet_of_same (ci _)))
      go_wp2_with fail
      simp only [Exit.noGoto, Exit.inBlock]
      go_wp2_with fail
      simp only [Exit.noGoto, Exit.inBlock]
      go_wp2_with fail
      go_ret
      exact ⟨rfl, fB.trans ((below_drewNg _ _).mono fB.size)⟩
    · go_wp2_with fail
      go_ret
      exact ⟨rfl, Below.refl _ _⟩

/-- The three marks. -/
abbrev marks : ByteArray := ⟨#[46, 95, 45]⟩

theorem marks_low : ∀ (k : Nat) (h : k < marks.size), (marks[k]'h).toNat < 128 := by decide

def okR (r : Nat) : Bool := decide (r = 46) || decide (r = 95) || decide (r = 45) || (decide (97 ≤ r) && decide (r ≤ 122)) || (decide (48 ≤ r) && decide (r ≤ 57))

def markR (r : Nat) : Bool := decide (r = 46) || decide (r = 95) || decide (r = 45)

theorem marks_index : ∀ r : Fin 128, decide (0 ≤ Lib.indexByte [46, 95, 45] (r.val.toUInt8)) = markR r.val := by decide

set_option maxHeartbeats 1000000 in
theorem contains_any (r : Nat) (w : World) (hr : r ≤ 1114111) : Calls Tryz.prog 92 #[.string marks, .int .i32 (r : Int)] w fun e w' => e = .returned (.bool (markR r)) ∧ Below w.heap.size w w' := by
  by_cases h : r < 128
  · refine (Any.strings_ContainsRune_ascii Tryz.lays151 marks r w (by omega) (by omega)).mono ?_
    rintro e w' ⟨rfl, rfl⟩
    refine ⟨?_, Below.refl _ _⟩
    have := marks_index ⟨r, h⟩
    rw [← this]
    rfl
  · have hm : markR r = false := by simp [markR]; omega
    have ci : Calls Tryz.prog 103 #[.string marks, .int .i32 (r : Int)] w fun e w' => e = .returned (.int .i64 (-1)) ∧ Below w.heap.size w w' := by
      by_cases h2 : r = 65533
      · subst h2; exact irune_bad marks w rfl marks_low
      · cases hv : Lib.validRune (r : Int)
        · have cv := valid_is r w
          rw [hv] at cv
          have q1 : ¬ (r : Int) < 128 := by omega
          have q2 : ¬ (r : Int) = 65533 := by omega
          clear h h2 hv hm
          generalize marks = s
          go_enter Tryz.func103, Tryz.ntmps103
          go_wp2_with (go_at_call 121; refine cv.mono ?_; rintro e w' ⟨rfl, rfl⟩)
          go_ret
          exact ⟨rfl, Below.refl _ _⟩
        · exact irune_high marks r w rfl marks_low (by omega) (by omega) hv (by rw [validRune_eq]; exact hv)
    rw [hm]
    generalize marks = s at ci ⊢
    go_enter Tryz.func92, Tryz.ntmps92
    go_wp2_with (go_at_call 103; refine ci.mono ?_; rintro e w' ⟨rfl, hb⟩)
    go_ret
    exact ⟨rfl, hb⟩

set_option maxHeartbeats 1000000 in
theorem allowed_any (r : Nat) (w : World) (hr : r ≤ 1114111) : Calls Tryz.prog 143 #[.int .i32 (r : Int)] w fun e w' => e = .returned (.bool (okR r)) ∧ Below w.heap.size w w' := by
  have cc := contains_any r w hr
  go_enter Tryz.func143, Tryz.ntmps143
  go_wp2_with (go_at_call 92; refine cc.mono ?_; rintro e w' ⟨rfl, hb⟩)
  all_goals go_ret
  all_goals refine ⟨congrArg (fun b => Ending.returned (Value.bool b)) (?_ : _ = okR r), by first | exact hb | exact Below.refl _ _⟩
  all_goals (rw [Bool.eq_iff_iff]; simp [okR, markR]; omega)

set_option maxHeartbeats 1000000 in
theorem rightPart1_any (w : World) : PredGrows Tryz.prog 142 #[] (fun r => !okR r) w := by
  intro W r hr _
  have cc := allowed_any r W hr
  show Calls Tryz.prog 142 #[.int .i32 (r : Int)] W _
  go_enter Tryz.func142, Tryz.ntmps142
  go_wp2_with (go_at_call 143; refine cc.mono ?_; rintro e w' ⟨rfl, hb⟩)
  go_ret
  exact ⟨rfl, hb⟩

theorem good_okR (c : UInt8) : good c = okR c.toNat := rfl

theorem good_high {c : UInt8} (h : 128 ≤ c.toNat) : good c = false := by simp [good]; omega

theorem okR_high {r : Nat} (h : 128 ≤ r) : okR r = false := by simp [okR]; omega

theorem idx_from (s : ByteArray) : ∀ (f pos : Nat), s.size ≤ pos + f → decide (0 ≤ Lib.idxFuncFrom (fun r => !okR r) true s f pos) = !((s.data.toList.drop pos).all good)
  | 0, pos, h => by
    rw [List.drop_of_length_le (by rw [len_eq]; omega)]; rfl
  | f + 1, pos, h => by
    unfold Lib.idxFuncFrom
    by_cases hp : pos < s.size
    · rw [if_pos hp, List.drop_eq_getElem_cons (by rw [len_eq]; exact hp)]
      rw [show s.data.toList[pos]'(by rw [len_eq]; exact hp) = s[pos] from rfl]
      by_cases hb : (s[pos]).toNat < 128
      · rw [decode_ascii s pos hp hb]
        cases hg : good s[pos]
        · rw [if_pos (by rw [← good_okR, hg]; rfl)]
          simp [hg]
        · rw [if_neg (by rw [← good_okR, hg]; simp), idx_from s f (pos + 1) (by omega)]
          simp [hg]
      · have hb' : 128 ≤ (s[pos]).toNat := by omega
        have hd := (decode_high s pos hp hb').1
        rw [if_pos (by rw [okR_high hd]; rfl)]
        simp [good_high hb']
    · rw [if_neg hp, List.drop_of_length_le (by rw [len_eq]; omega)]; rfl

theorem idx_all (s : ByteArray) : decide (0 ≤ Lib.idxFunc (fun r => !okR r) true s) = !(s.data.toList.all good) := by
  rw [Lib.idxFunc, idx_from s s.size 0 (by omega), List.drop_zero]

theorem containsFunc_any (s : ByteArray) (w : World) : Calls Tryz.prog 141 #[.string s, .func (.func 142) #[] #[]] w fun e w' => e = .returned (.bool !(s.data.toList.all good)) ∧ Below w.heap.size w w' := by
  rw [← idx_all]
  exact Any.strings_ContainsFunc_grows Tryz.laysGw17 142 #[] (enters_of Tryz.func142 (by kernel_rfl) rfl) (fun r => !okR r) s w (rightPart1_any w)

set_option maxHeartbeats 1000000 in
theorem rightPart_any (s : ByteArray) (w : World) : Calls Tryz.prog 118 #[.string s] w fun e w' => e = .returned (.bool (goodPart s.data.toList)) ∧ Below w.heap.size w w' := by
  have e : s.data.toList.length = s.size := len_eq s
  by_cases h3 : s.data.toList = [46]
  case pos =>
    have hR : goodPart s.data.toList = false := by rw [h3]; rfl
    obtain ⟨q1, q2⟩ := asks_yes h3
    rw [hR]
    clear hR e h3
    go_enter Tryz.func118, Tryz.ntmps118
    go_wp2
    go_ret
    exact ⟨rfl, Below.refl _ _⟩
  case neg =>
  obtain ⟨q1, q2⟩ := asks_no h3
  by_cases h4 : s.data.toList = [46, 46]
  case pos =>
    have hR : goodPart s.data.toList = false := by rw [h4]; rfl
    obtain ⟨q3, q4⟩ := asks_yes h4
    rw [hR]
    clear hR e h3 h4 q1
    go_enter Tryz.func118, Tryz.ntmps118
    go_wp2
    go_ret
    exact ⟨rfl, Below.refl _ _⟩
  case neg =>
  obtain ⟨q3, q4⟩ := asks_no h4
  by_cases h1 : s.size = 0
  case pos =>
    have hR : goodPart s.data.toList = false := by simp [goodPart, e, h1]
    have i1 : (s.size : Int) = 0 := by omega
    rw [hR]
    clear hR e h3 h4
    go_enter Tryz.func118, Tryz.ntmps118
    go_wp2
    go_ret
    exact ⟨rfl, Below.refl _ _⟩
  case neg =>
  have i1 : ¬ (s.size : Int) = 0 := by omega
  by_cases h2 : s.size ≤ 16
  case neg =>
    have hR : goodPart s.data.toList = false := by simp [goodPart, e]; omega
    have i2 : (16 : Int) < s.size := by omega
    rw [hR]
    clear hR e h3 h4
    go_enter Tryz.func118, Tryz.ntmps118
    go_wp2
    go_ret
    exact ⟨rfl, Below.refl _ _⟩
  case pos =>
  have i2 : ¬ (16 : Int) < s.size := by omega
  have hR : goodPart s.data.toList = s.data.toList.all good := by
    unfold goodPart
    rw [e]
    simp only [h3, h4, show 1 ≤ s.size from by omega, h2, decide_true, decide_false, Bool.not_false, Bool.and_true, Bool.true_and]
  have cc := containsFunc_any s w
  rw [hR]
  clear hR e h3 h4
  go_enter Tryz.func118, Tryz.ntmps118
  go_wp2_with (go_at_call 141; refine cc.mono ?_; rintro e w' ⟨rfl, hb⟩)
  go_ret
  refine ⟨?_, hb⟩
  simp

end Go.Proofs.YtbiilnhefoplkaaGreatDoor.Path

namespace Go.Proofs.YtbiilnhefoplkaaGreatDoor.Path
open Go.RowKit Go.Shelf
set_option maxRecDepth 100000

def behindS (p q : Bs) : Value := .tuple #[.string ⟨(if within p q then p.drop q.length else []).toArray⟩, .bool (within p q)]

set_option maxHeartbeats 1000000 in
theorem behind_any (p q : ByteArray) (w : World) : Calls Tryz.prog 158 #[.string p, .string q] w fun e w' => e = .returned (behindS p.data.toList q.data.toList) ∧ w = w' := by
  have cC := (Any.strings_CutPrefix Tryz.lays103 p q w).mono (R' := fun e w' => e = _ ∧ w = w') fun _ _ ⟨a, b⟩ => ⟨a, b.symm⟩
  cases h : Lib.hasPrefix p.data.toList q.data.toList
  · have hW : within p.data.toList q.data.toList = false := by rw [within, show q.data.toList.isPrefixOf p.data.toList = false from h]; rfl
    rw [h] at cC
    generalize (⟨(Lib.trimPrefix p.data.toList q.data.toList).toArray⟩ : ByteArray) = R at cC
    rw [behindS, hW]
    clear h hW
    go_enter Tryz.func158, Tryz.ntmps158
    go_wp2_with (go_at_call 167; refine cC.mono ?_; rintro e w' ⟨rfl, rfl⟩)
    go_ret2
    exact ⟨rfl, rfl⟩
  · have hW : within p.data.toList q.data.toList = opens (p.data.toList.drop q.data.toList.length) := by rw [within, show q.data.toList.isPrefixOf p.data.toList = true from h]; rfl
    have hT : Lib.trimPrefix p.data.toList q.data.toList = p.data.toList.drop q.data.toList.length := by rw [Lib.trimPrefix, h]; rfl
    rw [h, hT] at cC
    rw [behindS, hW]
    generalize p.data.toList.drop q.data.toList.length = D at cC
    obtain ⟨R, hR⟩ : ∃ R : ByteArray, R = ⟨D.toArray⟩ := ⟨_, rfl⟩
    rw [← hR] at cC
    have hRD : R.data.toList = D := by rw [hR]
    clear h hW hT
    cases D with
    | nil =>
      obtain ⟨q1, q2⟩ := asks_yes hRD
      have hRe : R = ByteArray.empty := by rw [hR]; rfl
      show Calls _ _ _ _ fun e w' => e = .returned (.tuple #[.string ⟨#[]⟩, .bool true]) ∧ w = w'
      clear hRD hR
      subst hRe
      go_enter Tryz.func158, Tryz.ntmps158
      go_wp2_with (go_at_call 167; refine cC.mono ?_; rintro e w' ⟨rfl, rfl⟩)
      go_ret2
      exact ⟨rfl, rfl⟩
    | cons c D =>
      obtain ⟨q1, q2⟩ := asks_no (s := R) (l := []) (by rw [hRD]; simp)
      have q3 : ¬ R = ByteArray.empty := fun e => by rw [e] at hRD; cases hRD
      have cH : ∀ v, Calls Tryz.prog 168 #[.string R, .string ⟨#[47]⟩] v fun e w' => e = .returned (.bool (decide (c = 47))) ∧ v = w' := fun v => (Any.strings_HasPrefix Tryz.lays99 R ⟨#[47]⟩ v).mono fun _ _ ⟨a, b⟩ => ⟨by
        rw [a, hRD]
        refine congrArg (fun b => Ending.returned (Value.bool b)) ?_
        rw [Bool.eq_iff_iff]
        simp [Lib.hasPrefix, List.isPrefixOf]
        exact ⟨Eq.symm, Eq.symm⟩, b.symm⟩
      have hO : opens (c :: D) = decide (c = 47) := rfl
      rw [hO]
      cases hc : decide (c = 47)
      · rw [hc] at cH
        show Calls _ _ _ _ fun e w' => e = .returned (.tuple #[.string ⟨#[]⟩, .bool false]) ∧ w = w'
        clear hRD hR hc hO
        go_enter Tryz.func158, Tryz.ntmps158
        go_wp2_with first
          | (go_at_call 167; refine cC.mono ?_; rintro e w' ⟨rfl, rfl⟩)
          | (go_at_call 168; refine (cH _).mono ?_; rintro e w' ⟨rfl, rfl⟩)
        go_ret2
        exact ⟨rfl, rfl⟩
      · rw [hc] at cH
        show Calls _ _ _ _ fun e w' => e = .returned (.tuple #[.string ⟨(c :: D).toArray⟩, .bool true]) ∧ w = w'
        rw [← hR]
        clear hRD hR hc hO
        go_enter Tryz.func158, Tryz.ntmps158
        go_wp2_with first
          | (go_at_call 167; refine cC.mono ?_; rintro e w' ⟨rfl, rfl⟩)
          | (go_at_call 168; refine (cH _).mono ?_; rintro e w' ⟨rfl, rfl⟩)
        go_ret2
        exact ⟨rfl, rfl⟩

set_option maxHeartbeats 1000000 in
theorem within_any (p q : ByteArray) (w : World) : Calls Tryz.prog 157 #[.string p, .string q] w fun e w' => e = .returned (.bool (within p.data.toList q.data.toList)) ∧ w = w' := by
  have cC := behind_any p q w
  unfold behindS at cC
  generalize (⟨(if within p.data.toList q.data.toList then p.data.toList.drop q.data.toList.length else []).toArray⟩ : ByteArray) = R at cC
  go_enter Tryz.func157, Tryz.ntmps157
  go_wp2_with (go_at_call 158; refine cC.mono ?_; rintro e w' ⟨rfl, rfl⟩)
  go_ret
  exact ⟨rfl, rfl⟩

set_option maxHeartbeats 1000000 in
theorem apart_any (p q : ByteArray) (w : World) : Calls Tryz.prog 137 #[.string p, .string q] w fun e w' => e = .returned (.bool (apart p.data.toList q.data.toList)) ∧ w = w' := by
  rw [apart_def]
  go_enter Tryz.func137, Tryz.ntmps137
  go_wp2_with (go_at_call 157; refine (within_any _ _ _).mono ?_; rintro e w' ⟨rfl, rfl⟩)
  all_goals go_ret
  all_goals refine ⟨?_, rfl⟩
  · rename_i h
    simp [h]
  · rename_i h
    simp [h]

def movedS (p q t : Bs) : Value := .tuple #[.string ⟨(moved p q t).toArray⟩, .bool (within p q)]

set_option maxHeartbeats 1000000 in
theorem moved_any (p q t : ByteArray) (w : World) (hp : p.size < 100000000) (ht : t.size < 100000000) : Calls Tryz.prog 139 #[.string p, .string q, .string t] w fun e w' => e = .returned (movedS p.data.toList q.data.toList t.data.toList) ∧ w = w' := by
  have cC := behind_any p q w
  unfold behindS at cC
  unfold movedS moved
  cases h : within p.data.toList q.data.toList
  · rw [h] at cC
    have cC' : Calls Tryz.prog 158 #[.string p, .string q] w fun e w' => e = .returned (.tuple #[.string ⟨#[]⟩, .bool false]) ∧ w = w' := cC
    show Calls _ _ _ _ fun e w' => e = .returned (.tuple #[.string ⟨#[]⟩, .bool false]) ∧ w = w'
    clear cC h
    go_enter Tryz.func139, Tryz.ntmps139
    go_wp2_with (go_at_call 158; refine cC'.mono ?_; rintro e w' ⟨rfl, rfl⟩)
    go_ret2
    exact ⟨rfl, rfl⟩
  · rw [h] at cC
    obtain ⟨R, hR⟩ : ∃ R : ByteArray, R = ⟨(p.data.toList.drop q.data.toList.length).toArray⟩ := ⟨_, rfl⟩
    have cC' : Calls Tryz.prog 158 #[.string p, .string q] w fun e w' => e = .returned (.tuple #[.string R, .bool true]) ∧ w = w' := by rw [hR]; exact cC
    have hsz : R.size < 100000000 := by rw [← len_eq, hR]; simp; have := len_eq p; omega
    have hE : Hid ((⟨(t.data.toList ++ p.data.toList.drop q.data.toList.length).toArray⟩ : ByteArray) = t ++ R) := (str_of (by rw [ByteArray.data_append, Array.toList_append, hR])).symm
    show Calls _ _ _ _ fun e w' => e = .returned (.tuple #[.string ⟨(t.data.toList ++ p.data.toList.drop q.data.toList.length).toArray⟩, .bool true]) ∧ w = w'
    rw [hE.out]
    clear cC h hR hE
    go_enter Tryz.func139, Tryz.ntmps139
    go_wp2_with (go_at_call 158; refine cC'.mono ?_; rintro e w' ⟨rfl, rfl⟩)
    go_ret2
    exact ⟨rfl, rfl⟩

theorem last_none {p : ByteArray} (h : ∀ j, j < p.size → ((p.data[j]!).toNat : Int) ≠ 47) : parent p.data.toList = none := by
  refine parent_none fun hm => ?_
  obtain ⟨k, hk, e⟩ := List.getElem_of_mem hm
  have hk' : k < p.size := by rw [← len_eq]; exact hk
  refine h k hk' ?_
  rw [show p.data[k]! = p.data.toList[k] from by rw [getElem!_pos p.data k hk']; rfl, e]
  rfl

set_option maxHeartbeats 1000000 in
theorem parent_any (p : ByteArray) (w : World) (hp : p.size < 100000000) : Calls Tryz.prog 145 #[.string p] w fun e w' => e = .returned (parentS p.data.toList) ∧ w = w' := by
  have cC : Calls Tryz.prog 163 #[.string p, .string ⟨#[47]⟩] w fun e w' => e = .returned (.int .i64 (Lib.lastIndexByte p 47)) ∧ w = w' := (Any.strings_LastIndex_one Tryz.lays148 p ⟨#[47]⟩ rfl (by omega) w).mono fun _ _ ⟨a, b⟩ => ⟨a, b.symm⟩
  rcases Lib.lastIndexByte_spec p 47 with ⟨h1, h2⟩ | ⟨i, h1, h2, h3, h4⟩
  · rw [h1] at cC
    rw [parentS, last_none h2]
    clear h1 h2
    show Calls _ _ _ _ fun e w' => e = .returned (.tuple #[.string ⟨#[]⟩, .bool false]) ∧ w = w'
    go_enter Tryz.func145, Tryz.ntmps145
    go_wp2_with (go_at_call 163; refine cC.mono ?_; rintro e w' ⟨rfl, rfl⟩)
    go_ret2
    exact ⟨rfl, rfl⟩
  · rw [h2] at cC
    have at' : ∀ (j : Nat) (hj : j < p.size), p.data[j]! = p[j] := fun j hj => by rw [getElem!_pos p.data j hj]; rfl
    have e := parent_at h1 (UInt8.toNat_inj.1 (by rw [at' i h1] at h3; show (p[i]).toNat = 47; omega)) (fun hm => by
      obtain ⟨k, hk, e⟩ := List.getElem_of_mem hm
      rw [List.length_drop, len_eq] at hk
      rw [List.getElem_drop] at e
      refine h4 (i + 1 + k) (by omega) (by omega) ?_
      rw [at' _ (by omega), show p[i + 1 + k] = 47 from e]
      rfl)
    rw [parentS, e]
    show Calls _ _ _ _ fun e w' => e = .returned (.tuple #[.string ⟨(p.data.toList.take i).toArray⟩, .bool true]) ∧ w = w'
    rw [← cut_list]
    clear at' e h2 h3 h4
    go_enter Tryz.func145, Tryz.ntmps145
    go_wp2_with (go_at_call 163; refine cC.mono ?_; rintro e w' ⟨rfl, rfl⟩)
    go_ret2
    exact ⟨rfl, rfl⟩

end Go.Proofs.YtbiilnhefoplkaaGreatDoor.Path
