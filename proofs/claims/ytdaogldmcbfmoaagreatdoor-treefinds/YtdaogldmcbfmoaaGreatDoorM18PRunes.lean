/-
  What is proved here: the contracts that the statement stands on: PRunes, PRRight. Conditions: as each theorem names them.
-/
import Derived.Test.YtdaogldmcbfmoaaGreatDoorMPLay
import Derived.Test.YtdaogldmcbfmoaaGreatDoorMPRRest
import Derived.Lib.OthersKept
import Derived.Deep.LoopGhost
import Derived.Laws.Runes
import Derived.Laws.RangeAny
import Derived.Lib.Walk
import Derived.WalkMore
import Derived.Deep.QuietTactic
import Derived.BigQuiet
import Derived.Lib.IndexLaws
namespace Go.Proofs.YtdaogldmcbfmoaaGreatDoor.Path
open Go.RowKit Go.Shelf
set_option maxRecDepth 100000

theorem valid_is (r : Int) (w : World) : Calls Tryz.prog 206 #[.int .i32 r] w fun e w' => e = .returned (.bool (Lib.validRune r)) ∧ w = w' := (Any.utf8_ValidRune Tryz.lays119 r w).mono fun _ _ ⟨a, b⟩ => ⟨a, b.symm⟩

theorem indexByte_is (s : ByteArray) (c : Int) (w : World) : Calls Tryz.prog 193 #[.string s, .int .u8 c] w fun e w' => e = .returned (.int .i64 (Lib.indexByte s.data.toList c.toNat.toUInt8)) ∧ w' = w := Any.strings_IndexByte Tryz.lays137 s c w

set_option maxHeartbeats 2000000 in
/-- The rune for what is none, in three bytes of ASCII. -/
theorem irune_bad (s : ByteArray) (w : World) (h3 : s.size = 3) (ha : ∀ (k : Nat) (h : k < s.size), (s[k]'h).toNat < 128) :
    Calls Tryz.prog 184 #[.string s, .int .i32 65533] w fun e w' => e = .returned (.int .i64 (-1)) ∧ Below w.heap.size w w' := by
  go_enter Tryz.func184, Tryz.ntmps184
  go_wp2_with fail
  go_loopg [] 3 (fun gf wx => ∃ pos : Nat, wx.heap[w.heap.size]? = some (.stringIter s pos) ∧ Below w.heap.size w wx ∧ 3 ≤ pos + gf)
  case atStart => exact ⟨0, World.iter_heap w s 0, (Below.refl _ w).alloc (Nat.le_refl _) _, by omega⟩
  case round =>
    obtain ⟨pos, hit, hbw, hfu⟩ := hrel
    by_cases hps : pos < s.size
    · obtain ⟨g', rfl⟩ : ∃ g', gk = g' + 1 := ⟨gk - 1, by omega⟩
      have hnx : ∀ ty, (Instr.next (.pointer (some ⟨w.heap.size, 0, none⟩)) true ty).run Tryz.prog wr = _ := fun ty => Lib.run_next_ascii_at wr w.heap.size s pos ty hit hps (ha pos hps)
      have hv := ha pos hps
      obtain ⟨v, hv'⟩ : ∃ v : Nat, (s[pos]).toNat = v := ⟨_, rfl⟩
      rw [hv'] at hnx hv
      have hit2 := Lib.iterAt_heap wr w.heap.size s pos (pos + 1) hit
      have hbw2 := Lib.below_iterAt hbw (k := w.heap.size) (Nat.le_refl _) s (pos + 1)
      have hne : ¬ (v : Int) = 65533 := by omega
      go_wp2_with fail
      go_roundg g'
      case measure => omega
      case rel => exact ⟨pos + 1, hit2, hbw2, by omega⟩
    · have hnx : ∀ ty, (Instr.next (.pointer (some ⟨w.heap.size, 0, none⟩)) true ty).run Tryz.prog wr = _ := fun ty => Lib.run_next_end_at wr w.heap.size s pos ty hit hps
      go_wp2_with fail
      go_ret
      exact ⟨rfl, hbw⟩

theorem no_high {l : List UInt8} {c : UInt8} (h : ∀ b ∈ l, b.toNat < 128) (hc : 128 ≤ c.toNat) : Lib.indexByte l c = -1 := by
  cases e : decide (0 ≤ Lib.indexByte l c) with
  | false => have h1 := Lib.indexByte_ge l c; have h2 := of_decide_eq_false e; omega
  | true =>
    have h2 := of_decide_eq_true e
    obtain ⟨o, ho⟩ := Int.eq_ofNat_of_zero_le h2
    have := List.mem_of_getElem? (Lib.indexByte_some ho).1
    have := h c this
    omega

set_option maxHeartbeats 4000000 in
/-- A rune beyond ASCII, in three bytes of ASCII. -/
theorem irune_high (s : ByteArray) (r : Int) (w : World) (h3 : s.size = 3) (ha : ∀ (k : Nat) (h : k < s.size), (s[k]'h).toNat < 128) (h128 : 128 ≤ r) (hne : r ≠ 65533) (hv : Lib.validRune r = true) (hu : Utf8.valid r = true) :
    Calls Tryz.prog 184 #[.string s, .int .i32 r] w fun e w' => e = .returned (.int .i64 (-1)) ∧ Below w.heap.size w w' := by
  obtain ⟨f1, f2, f3⟩ := encode_facts r hu h128
  have cv := valid_is r w
  rw [hv] at cv
  have q1 : ¬ r < 128 := by omega
  have q0 : 0 ≤ r := by omega
  have e18 : ∀ w, (convert 21 9 (.int .i32 r)).run Tryz.prog w = .ok (.string (Utf8.encode r)) w := fun w => run_convert_int_string w 21 9 .i32 r (by rw [Tryz.underlying21]; rfl) Tryz.underlying9
  obtain ⟨E, hE⟩ : ∃ E, Utf8.encode r = E := ⟨_, rfl⟩
  rw [hE] at f1 f2 f3 e18
  obtain ⟨n, hn⟩ : ∃ n : Nat, E.size = n + 1 := ⟨E.size - 1, by omega⟩
  have hl : n < E.size := by omega
  have hlast := f3 (by omega)
  simp only [hn, Nat.add_sub_cancel] at hlast
  clear f3 hE
  go_enter Tryz.func184, Tryz.ntmps184
  go_wp2_with (go_at_call 206; refine cv.mono ?_; rintro e w' ⟨rfl, rfl⟩)
  go_step3
  go_wp2_with fail
  go_loop [9] (fun vi => vi = .int .i64 n) (fun _ => 0)
  case atStart => rfl
  case round =>
    subst hrel
    by_cases hlt : n < 3
    · obtain ⟨v, hv'⟩ : ∃ v : Nat, (s[n]'(by omega)).toNat = v := ⟨_, rfl⟩
      obtain ⟨u, hu'⟩ : ∃ u : Nat, (E[n]).toNat = u := ⟨_, rfl⟩
      have hv128 : v < 128 := by rw [← hv']; exact ha n (by omega)
      rw [hu'] at hlast
      have hvu : ¬ (v : Int) = u := by omega
      have u256 : u < 256 := by rw [← hu']; exact (E[n]).toNat_lt
      have ci : ∀ v, Calls Tryz.prog 193 #[.string (s.extract (n + 1) 3), .int .u8 u] v fun e w' => e = .returned (.int .i64 (-1)) ∧ w' = v := fun v => by
        have ci := indexByte_is (s.extract (n + 1) 3) u v
        rw [no_high (fun b hb => by
          rw [extract_list] at hb
          obtain ⟨k, hk, e⟩ := List.getElem_of_mem (List.mem_of_mem_take (List.mem_of_mem_drop hb))
          rw [← e]; exact ha k (by rw [← len_eq]; exact hk)) (by simp; omega)] at ci
        exact ci
      have hw1 : IntKind.i64.wrap ((n : Int) + 1) = ((n + 1 : Nat) : Int) := by rw [wrap_small _ (by omega) (by omega)]; rfl
      have hsl : ∀ v, (Instr.slice 9 (.string s) (some (.int .i64 ((n : Int) + 1))) none none).run Tryz.prog v = .ok (.string (s.extract (n + 1) 3)) v := fun v => by
        rw [run_slice_string_from_if _ _ _ _ _ Tryz.underlying9, if_pos ⟨by omega, by omega⟩, h3]; rfl
      have hix : ∀ v, (Instr.index 9 (.string E) (.int .i64 (n : Int))).run Tryz.prog v = .ok (.int .u8 u) v := fun v => by
        rw [run_index_string _ _ _ _ _ Tryz.underlying9]; simp [hl, hu']
      clear ha
      go_wp2_with fail
      go_step3
      go_wp2_with fail
      go_quiet (fail)
      have fB : Below w.heap.size w (w.drewN nq) := below_drewNg w nq
      generalize w.drewN nq = w6 at fB ⊢
      go_wp2_with fail
      go_quiet (first | (go_at_call 193; exact Calls.quiet_of_same (ci _)))
      go_wp2_with fail
      simp only [Exit.noGoto, Exit.inBlock]
      go_wp2_with fail
      simp only [Exit.noGoto, Exit.inBlock]
      go_wp2_with fail
      go_ret
      exact ⟨rfl, fB.trans ((below_drewNg _ _).mono fB.size)⟩
    · go_wp2_with fail
      go_ret
      exact ⟨rfl, Below.refl _ _⟩

/-- The three marks. -/
abbrev marks : ByteArray := ⟨#[46, 95, 45]⟩

theorem marks_low : ∀ (k : Nat) (h : k < marks.size), (marks[k]'h).toNat < 128 := by decide

def okR (r : Nat) : Bool := decide (r = 46) || decide (r = 95) || decide (r = 45) || (decide (97 ≤ r) && decide (r ≤ 122)) || (decide (48 ≤ r) && decide (r ≤ 57))

def markR (r : Nat) : Bool := decide (r = 46) || decide (r = 95) || decide (r = 45)

theorem marks_index : ∀ r : Fin 128, decide (0 ≤ Lib.indexByte [46, 95, 45] (r.val.toUInt8)) = markR r.val := by decide

set_option maxHeartbeats 1000000 in
theorem contains_any (r : Nat) (w : World) (hr : r ≤ 1114111) : Calls Tryz.prog 154 #[.string marks, .int .i32 (r : Int)] w fun e w' => e = .returned (.bool (markR r)) ∧ Below w.heap.size w w' := by
  by_cases h : r < 128
  · refine (Any.strings_ContainsRune_ascii Tryz.lays151 marks r w (by omega) (by omega)).mono ?_
    rintro e w' ⟨rfl, rfl⟩
    refine ⟨?_, Below.refl _ _⟩
    have := marks_index ⟨r, h⟩
    rw [← this]
    rfl
  · have hm : markR r = false := by simp [markR]; omega
    have ci : Calls Tryz.prog 184 #[.string marks, .int .i32 (r : Int)] w fun e w' => e = .returned (.int .i64 (-1)) ∧ Below w.heap.size w w' := by
      by_cases h2 : r = 65533
      · subst h2; exact irune_bad marks w rfl marks_low
      · cases hv : Lib.validRune (r : Int)
        · have cv := valid_is r w
          rw [hv] at cv
          have q1 : ¬ (r : Int) < 128 := by omega
          have q2 : ¬ (r : Int) = 65533 := by omega
          clear h h2 hv hm
          generalize marks = s
          go_enter Tryz.func184, Tryz.ntmps184
          go_wp2_with (go_at_call 206; refine cv.mono ?_; rintro e w' ⟨rfl, rfl⟩)
          go_ret
          exact ⟨rfl, Below.refl _ _⟩
        · exact irune_high marks r w rfl marks_low (by omega) (by omega) hv (by rw [validRune_eq]; exact hv)
    rw [hm]
    generalize marks = s at ci ⊢
    go_enter Tryz.func154, Tryz.ntmps154
    go_wp2_with (go_at_call 184; refine ci.mono ?_; rintro e w' ⟨rfl, hb⟩)
    go_ret
    exact ⟨rfl, hb⟩

set_option maxHeartbeats 1000000 in
theorem allowed_any (r : Nat) (w : World) (hr : r ≤ 1114111) : Calls Tryz.prog 121 #[.int .i32 (r : Int)] w fun e w' => e = .returned (.bool (okR r)) ∧ Below w.heap.size w w' := by
  have cc := contains_any r w hr
  go_enter Tryz.func121, Tryz.ntmps121
  go_wp2_with (go_at_call 154; refine cc.mono ?_; rintro e w' ⟨rfl, hb⟩)
  all_goals go_ret
  all_goals refine ⟨congrArg (fun b => Ending.returned (Value.bool b)) (?_ : _ = okR r), by first | exact hb | exact Below.refl _ _⟩
  all_goals (rw [Bool.eq_iff_iff]; simp [okR, markR]; omega)

set_option maxHeartbeats 1000000 in
theorem rightPart1_any (w : World) : PredGrows Tryz.prog 120 #[] (fun r => !okR r) w := by
  intro W r hr _
  have cc := allowed_any r W hr
  show Calls Tryz.prog 120 #[.int .i32 (r : Int)] W _
  go_enter Tryz.func120, Tryz.ntmps120
  go_wp2_with (go_at_call 121; refine cc.mono ?_; rintro e w' ⟨rfl, hb⟩)
  go_ret
  exact ⟨rfl, hb⟩

theorem good_okR (c : UInt8) : good c = okR c.toNat := rfl

theorem good_high {c : UInt8} (h : 128 ≤ c.toNat) : good c = false := by simp [good]; omega

theorem okR_high {r : Nat} (h : 128 ≤ r) : okR r = false := by simp [okR]; omega

theorem idx_from (s : ByteArray) : ∀ (f pos : Nat), s.size ≤ pos + f → decide (0 ≤ Lib.idxFuncFrom (fun r => !okR r) true s f pos) = !((s.data.toList.drop pos).all good)
  | 0, pos, h => by
    rw [List.drop_of_length_le (by rw [len_eq]; omega)]; rfl
  | f + 1, pos, h => by
    unfold Lib.idxFuncFrom
    by_cases hp : pos < s.size
    · rw [if_pos hp, List.drop_eq_getElem_cons (by rw [len_eq]; exact hp)]
      rw [show s.data.toList[pos]'(by rw [len_eq]; exact hp) = s[pos] from rfl]
      by_cases hb : (s[pos]).toNat < 128
      · rw [decode_ascii s pos hp hb]
        cases hg : good s[pos]
        · rw [if_pos (by rw [← good_okR, hg]; rfl)]
          simp [hg]
        · rw [if_neg (by rw [← good_okR, hg]; simp), idx_from s f (pos + 1) (by omega)]
          simp [hg]
      · have hb' : 128 ≤ (s[pos]).toNat := by omega
        have hd := (decode_high s pos hp hb').1
        rw [if_pos (by rw [okR_high hd]; rfl)]
        simp [good_high hb']
    · rw [if_neg hp, List.drop_of_length_le (by rw [len_eq]; omega)]; rfl

theorem idx_all (s : ByteArray) : decide (0 ≤ Lib.idxFunc (fun r => !okR r) true s) = !(s.data.toList.all good) := by
  rw [Lib.idxFunc, idx_from s s.size 0 (by omega), List.drop_zero]

theorem containsFunc_any (s : ByteArray) (w : World) : Calls Tryz.prog 119 #[.string s, .func (.func 120) #[] #[]] w fun e w' => e = .returned (.bool !(s.data.toList.all good)) ∧ Below w.heap.size w w' := by
  rw [← idx_all]
  exact Any.strings_ContainsFunc_grows Tryz.laysGw17 120 #[] (enters_of Tryz.func120 (by kernel_rfl) rfl) (fun r => !okR r) s w (rightPart1_any w)

set_option maxHeartbeats 1000000 in
theorem rightPart_any (s : ByteArray) (w : World) : Calls Tryz.prog 81 #[.string s] w fun e w' => e = .returned (.bool (goodPart s.data.toList)) ∧ Below w.heap.size w w' := by
  have e : s.data.toList.length = s.size := len_eq s
  by_cases h3 : s.data.toList = [46]
  case pos =>
    have hR : goodPart s.data.toList = false := by rw [h3]; rfl
    obtain ⟨q1, q2⟩ := asks_yes h3
    rw [hR]
    clear hR e h3
    go_enter Tryz.func81, Tryz.ntmps81
    go_wp2
    go_ret
    exact ⟨rfl, Below.refl _ _⟩
  case neg =>
  obtain ⟨q1, q2⟩ := asks_no h3
  by_cases h4 : s.data.toList = [46, 46]
  case pos =>
    have hR : goodPart s.data.toList = false := by rw [h4]; rfl
    obtain ⟨q3, q4⟩ := asks_yes h4
    rw [hR]
    clear hR e h3 h4 q1
    go_enter Tryz.func81, Tryz.ntmps81
    go_wp2
    go_ret
    exact ⟨rfl, Below.refl _ _⟩
  case neg =>
  obtain ⟨q3, q4⟩ := asks_no h4
  by_cases h1 : s.size = 0
  case pos =>
    have hR : goodPart s.data.toList = false := by simp [goodPart, e, h1]
    have i1 : (s.size : Int) = 0 := by omega
    rw [hR]
    clear hR e h3 h4
    go_enter Tryz.func81, Tryz.ntmps81
    go_wp2
    go_ret
    exact ⟨rfl, Below.refl _ _⟩
  case neg =>
  have i1 : ¬ (s.size : Int) = 0 := by omega
  by_cases h2 : s.size ≤ 16
  case neg =>
    have hR : goodPart s.data.toList = false := by simp [goodPart, e]; omega
    have i2 : (16 : Int) < s.size := by omega
    rw [hR]
    clear hR e h3 h4
    go_enter Tryz.func81, Tryz.ntmps81
    go_wp2
    go_ret
    exact ⟨rfl, Below.refl _ _⟩
  case pos =>
  have i2 : ¬ (16 : Int) < s.size := by omega
  have hR : goodPart s.data.toList = s.data.toList.all good := by
    unfold goodPart
    rw [e]
    simp only [h3, h4, show 1 ≤ s.size from by omega, h2, decide_true, decide_false, Bool.not_false, Bool.and_true, Bool.true_and]
  have cc := containsFunc_any s w
  rw [hR]
  clear hR e h3 h4
  go_enter Tryz.func81, Tryz.ntmps81
  go_wp2_with (go_at_call 119; refine cc.mono ?_; rintro e w' ⟨rfl, hb⟩)
  go_ret
  refine ⟨?_, hb⟩
  simp

end Go.Proofs.YtdaogldmcbfmoaaGreatDoor.Path

namespace Go.Proofs.YtdaogldmcbfmoaaGreatDoor.Path
open Go.RowKit
set_option maxRecDepth 100000

/-- The parts that are through when the document's loop stands at byte k, the part at hand from byte f on. -/
structure At (p : Bs) (done : List Bs) (f k : Nat) : Prop where
  fk : f ≤ k
  kp : k ≤ p.length
  eq : parts p = done ++ parts (p.drop f)
  no : (47 : UInt8) ∉ (p.drop f).take (k - f)
  fine : ∀ l ∈ done, goodPart l = true

theorem At.start (p : Bs) : At p [] 0 0 := ⟨Nat.le_refl _, Nat.zero_le _, by simp, by simp, by simp⟩

theorem At.len {p : Bs} {done : List Bs} {f k : Nat} (h : At p done f k) : done.length ≤ p.length := by
  have e := congrArg List.length h.eq
  rw [parts_length, List.length_append] at e
  have := List.length_pos_iff.2 (parts_ne (p.drop f))
  have := List.count_le_length (a := (47 : UInt8)) (l := p)
  omega

theorem At.on {p : Bs} {done : List Bs} {f k : Nat} (h : At p done f k) (hk : k < p.length) (hc : p[k] ≠ 47) : At p done f (k + 1) := by
  refine ⟨by have := h.fk; omega, by omega, h.eq, ?_, h.fine⟩
  have e : k + 1 - f = (k - f) + 1 := by have := h.fk; omega
  rw [e, List.take_add_one, List.mem_append, not_or]
  refine ⟨h.no, ?_⟩
  rw [List.getElem?_drop, show f + (k - f) = k from by have := h.fk; omega, List.getElem?_eq_getElem hk]
  simpa using fun e => hc e.symm

/-- The part at hand. -/
def seg (p : Bs) (f k : Nat) : Bs := (p.take k).drop f

theorem seg_eq (p : Bs) (f k : Nat) : seg p f k = (p.drop f).take (k - f) := by rw [seg, List.drop_take]

theorem At.slash {p : Bs} {done : List Bs} {f k : Nat} (h : At p done f k) (hk : k < p.length) (hc : p[k] = 47) : parts p = done ++ seg p f k :: parts (p.drop (k + 1)) := by
  have e : p.drop f = seg p f k ++ 47 :: p.drop (k + 1) := by
    have := List.take_append_drop (k - f) (p.drop f)
    rw [List.drop_drop, show f + (k - f) = k from by have := h.fk; omega, List.drop_eq_getElem_cons hk, hc, ← seg_eq] at this
    exact this.symm
  rw [h.eq, e, parts_join, parts_one (by rw [seg_eq]; exact h.no)]
  rfl

theorem At.last {p : Bs} {done : List Bs} {f : Nat} (h : At p done f p.length) : parts p = done ++ [seg p f p.length] := by
  have e : p.drop f = seg p f p.length := by rw [seg, List.take_length]
  rw [h.eq, e, parts_one (by rw [seg_eq]; exact h.no)]

theorem At.next {p : Bs} {done : List Bs} {f k : Nat} (h : At p done f k) (hk : k < p.length) (hc : p[k] = 47) (hg : goodPart (seg p f k) = true) : At p (done ++ [seg p f k]) (k + 1) (k + 1) :=
  ⟨Nat.le_refl _, by omega, by rw [h.slash hk hc]; simp, by simp, fun l hl => by
    rcases List.mem_append.1 hl with hl | hl
    · exact h.fine l hl
    · rw [List.mem_singleton.1 hl]; exact hg⟩

theorem not_right {p : Bs} {l : Bs} (hl : l ∈ parts p) (hg : goodPart l = false) : right p = false := by
  cases h : right p with
  | false => rfl
  | true => have := ((right_iff p).1 h).2 l hl; rw [hg] at this; cases this

theorem is_right {p : Bs} {done : List Bs} (e : parts p = done) (h : ∀ l ∈ done, goodPart l = true) : right p = decide (done.length ≤ 8) := by
  rw [right, e, List.all_eq_true.2 h, Bool.and_true]

set_option maxHeartbeats 2000000 in
theorem rright_any (p : ByteArray) (w : World) (hp : p.size < 100000000) : Calls Tryz.prog 49 #[.string p] w fun e w' => e = .returned (.bool (right p.data.toList)) ∧ w = w' := by
  have hlen := len_eq p
  go_enter Tryz.func49, Tryz.ntmps49
  go_wp2_with fail
  go_loop [3, 4, 5] (fun vn vf vi => ∃ (done : List Bs) (m f k : Nat), vn = .int .i64 m ∧ vf = .int .i64 f ∧ vi = .int .i64 k ∧ m = done.length ∧ m ≤ p.size + 1 ∧ f ≤ p.size + 1 ∧ k ≤ p.size + 1 ∧ Hid (At p.data.toList done f k ∨ (k = p.size + 1 ∧ parts p.data.toList = done ∧ ∀ l ∈ done, goodPart l = true))) (fun _ _ vi => p.size + 1 - (intOf vi).toNat)
  case atStart => exact ⟨[], 0, 0, 0, rfl, rfl, rfl, rfl, by omega, by omega, by omega, .inl (At.start _)⟩
  case round =>
    obtain ⟨done, m, f, k, rfl, rfl, rfl, hm, hm1, hf1, hk1, HI⟩ := hrel
    by_cases hk : k ≤ p.size
    · have hA : At p.data.toList done f k := HI.out.resolve_right (fun h => by omega)
      have hfk := hA.fk
      have hml : m ≤ p.size := by rw [hm, ← hlen]; exact hA.len
      by_cases hlt : k < p.size
      · obtain ⟨v, hv⟩ : ∃ v : Nat, (p[k]).toNat = v := ⟨_, rfl⟩
        by_cases hc : v = 47
        · have e47 : p.data.toList[k]'(by rw [hlen]; exact hlt) = 47 := UInt8.toNat_inj.1 (hv.trans (by rw [hc]; rfl))
          subst hc
          have es : p.extract f k = ⟨(seg p.data.toList f k).toArray⟩ := str_of (by rw [extract_list, seg])
          have cS := rpart_any (p.extract f k) w (by simp; omega)
          have hsl := hA.slash (by rw [hlen]; exact hlt) e47
          cases hg : goodPart (seg p.data.toList f k)
          · have hR : Hid (right p.data.toList = false) := not_right (l := seg p.data.toList f k) (by rw [hsl]; simp) hg
            rw [show (p.extract f k).data.toList = seg p.data.toList f k from by rw [es], hg] at cS
            clear HI hA hsl hg e47 es hlen
            go_wp2_with (go_at_call 84; refine cS.mono ?_; rintro e w' ⟨rfl, rfl⟩)
            go_ret
            rw [hR.out]
            exact ⟨rfl, rfl⟩
          · have hR : Hid (At p.data.toList (done ++ [seg p.data.toList f k]) (k + 1) (k + 1)) := hA.next (by rw [hlen]; exact hlt) e47 hg
            rw [show (p.extract f k).data.toList = seg p.data.toList f k from by rw [es], hg] at cS
            clear HI hA hsl hg e47 es hlen
            go_wp2_with (go_at_call 84; refine cS.mono ?_; rintro e w' ⟨rfl, rfl⟩)
            go_round
            case rel => exact ⟨done ++ [seg p.data.toList f k], m + 1, k + 1, k + 1, by go_num, by go_num, by go_num, by simp [hm], by omega, by omega, by omega, .inl hR.out⟩
            case measure => simp [intOf]; omega
        · have hR : Hid (At p.data.toList done f (k + 1)) := hA.on (by rw [hlen]; exact hlt) (fun e => hc (by rw [← hv, show p[k] = 47 from e]; rfl))
          have hc' : ¬ (v : Int) = 47 := by omega
          clear HI hA hc hlen
          go_wp2_with fail
          go_round
          case rel => exact ⟨done, m, f, k + 1, rfl, rfl, by go_num, hm, by omega, by omega, by omega, .inl hR.out⟩
          case measure => simp [intOf]; omega
      · have hke : k = p.size := by omega
        have es : p.extract f k = ⟨(seg p.data.toList f k).toArray⟩ := str_of (by rw [extract_list, seg])
        have cS := rpart_any (p.extract f k) w (by simp; omega)
        have hsl : parts p.data.toList = done ++ [seg p.data.toList f k] := by
          have := hA
          rw [hke, ← hlen] at this ⊢
          exact this.last
        have hfine := hA.fine
        cases hg : goodPart (seg p.data.toList f k)
        · have hR : Hid (right p.data.toList = false) := not_right (l := seg p.data.toList f k) (by rw [hsl]; simp) hg
          rw [show (p.extract f k).data.toList = seg p.data.toList f k from by rw [es], hg] at cS
          clear HI hA hsl hg es hlen hfine hke
          go_wp2_with (go_at_call 84; refine cS.mono ?_; rintro e w' ⟨rfl, rfl⟩)
          go_ret
          rw [hR.out]
          exact ⟨rfl, rfl⟩
        · have hR : Hid (k + 1 = p.size + 1 ∧ parts p.data.toList = done ++ [seg p.data.toList f k] ∧ ∀ l ∈ done ++ [seg p.data.toList f k], goodPart l = true) := ⟨by omega, hsl, fun l hl => by
            rcases List.mem_append.1 hl with hl | hl
            · exact hfine l hl
            · rw [List.mem_singleton.1 hl]; exact hg⟩
          rw [show (p.extract f k).data.toList = seg p.data.toList f k from by rw [es], hg] at cS
          clear HI hA hsl hg es hlen hfine hke
          go_wp2_with (go_at_call 84; refine cS.mono ?_; rintro e w' ⟨rfl, rfl⟩)
          go_round
          case rel => exact ⟨done ++ [seg p.data.toList f k], m + 1, k + 1, k + 1, by go_num, by go_num, by go_num, by simp [hm], by omega, by omega, by omega, .inr hR.out⟩
          case measure => simp [intOf]; omega
    · have hR : Hid (right p.data.toList = decide ((m : Int) ≤ 8)) := by
        rcases HI.out with h | ⟨_, h2, h3⟩
        · have := h.kp; omega
        · unfold Hid
          rw [is_right h2 h3, ← hm]
          exact decide_eq_decide.2 (by omega)
      clear HI hlen hm
      go_wp2_with fail
      go_ret
      rw [hR.out]
      exact ⟨rfl, rfl⟩

end Go.Proofs.YtdaogldmcbfmoaaGreatDoor.Path
