/-
  What is proved here: the contracts that the statement stands on: ZRig13, ZGre13. Conditions: as each theorem names them.
-/
import Derived.Test.YtbiilnhefoplkaaGreatDoorMLayT
import Derived.Test.YtbiilnhefoplkaaGreatDoorMLayU
import Derived.Test.YtbiilnhefoplkaaGreatDoorM6ZStrs9
import Derived.Test.YtbiilnhefoplkaaGreatDoorMZRule9
import Derived.Test.YtbiilnhefoplkaaGreatDoorM5ZLStrs
import Derived.Shelf.Strings.SlTrimAscii
import Derived.Test.YtbiilnhefoplkaaGreatDoorM7ZClone11
namespace Go.Proofs.YtbiilnhefoplkaaGreatDoor
open Go.RowKit Go.Shelf
set_option maxRecDepth 100000

def letters13 : List UInt8 := [97, 98, 99, 100, 101, 102, 103, 104, 105, 106, 107, 108, 109, 110, 111, 112, 113, 114, 115, 116, 117, 118, 119, 120, 121, 122, 48, 49, 50, 51, 52, 53, 54, 55, 56, 57, 46, 45]

theorem letters_fin : ∀ n : Fin 256, letters13.contains (UInt8.ofNat n.val) = letB (UInt8.ofNat n.val) := by decide +kernel

theorem letters_is (b : UInt8) : letters13.contains b = letB b := by
  have h := letters_fin ⟨b.toNat, UInt8.toNat_lt b⟩
  simpa using h

theorem dropWhile_nil {p : UInt8 → Bool} : ∀ {l : List UInt8}, l.dropWhile p = [] ↔ l.all p = true
  | [] => by simp
  | b :: l => by
    rw [List.dropWhile_cons, List.all_cons]
    cases hb : p b with
    | true => simpa using dropWhile_nil
    | false => simp

theorem dropWhile_head {p : UInt8 → Bool} : ∀ {l : List UInt8} {b : UInt8} {r : List UInt8}, l.dropWhile p = b :: r → p b = false
  | [], _, _, h => by simp at h
  | c :: l, b, r, h => by
    rw [List.dropWhile_cons] at h
    split at h
    · exact dropWhile_head h
    · rename_i hc
      cases h
      simpa using hc

theorem trim_nil (l cs : List UInt8) : Lib.trimS l cs = [] ↔ l.all (cs.contains ·) = true := by
  unfold Lib.trimS Lib.trimLeftS Lib.trimRightS
  rw [dropWhile_nil]
  cases e : l.reverse.dropWhile (cs.contains ·) with
  | nil =>
    have h := dropWhile_nil.1 e
    rw [List.all_reverse] at h
    exact ⟨fun _ => h, fun _ => rfl⟩
  | cons b r =>
    have hb := dropWhile_head e
    have h2 : ¬ l.all (cs.contains ·) = true := fun h => by
      have : l.reverse.dropWhile (cs.contains ·) = [] := dropWhile_nil.2 (by rw [List.all_reverse]; exact h)
      rw [this] at e; cases e
    constructor
    · intro h
      rw [List.all_reverse] at h
      have := List.all_eq_true.1 h b (List.mem_cons_self ..)
      rw [hb] at this; cases this
    · intro h; exact absurd h h2

theorem all_letB (l : List UInt8) : l.all (letters13.contains ·) = l.all letB := by
  congr 1
  funext b
  exact letters_is b

theorem info116 : (Tryz.prog.info? 88).map (fun i => (i.zero, i.size)) = some (some (.agg (Array.replicate 256 (.bool false))), 256) := by kernel_rfl

set_option maxHeartbeats 2000000 in
theorem label_any (s : ByteArray) (w : World) (hs : s.size ≤ 140737488355328) : Calls Tryz.prog 49 #[.string s] w fun e w' => e = .returned (.bool (labelB (unB s))) ∧ Fr None' w w' := by
  have hl := un_len s
  obtain ⟨R, hR⟩ : ∃ R, labelB (unB s) = R := ⟨_, rfl⟩
  rw [hR]
  by_cases h0 : s.size = 0
  · obtain rfl : false = R := by rw [← hR]; unfold labelB; rw [hl, h0]; rfl
    have i1 : ¬ ((0 : Int) < (s.size : Int)) := by omega
    clear hl hR h0 hs
    go_enter Tryz.func49, Tryz.ntmps49
    go_wp2_with fail
    go_ret
    exact ⟨rfl, Fr.refl _ _⟩
  have i1 : (0 : Int) < (s.size : Int) := by omega
  by_cases h24 : s.size ≤ 24
  case neg =>
    obtain rfl : false = R := by
      rw [← hR]; unfold labelB; rw [hl, decide_eq_false h24]; simp
    have i2 : ¬ ((s.size : Int) ≤ 24) := by omega
    have i3 : (24 : Int) < (s.size : Int) := by omega
    clear hl hR h24 h0 hs
    go_enter Tryz.func49, Tryz.ntmps49
    go_wp2_with fail
    go_ret
    exact ⟨rfl, Fr.refl _ _⟩
  have i2 : (s.size : Int) ≤ 24 := by omega
  have e1 : R = (unB s).all letB := by rw [← hR]; unfold labelB; rw [hl, decide_eq_true (by omega), decide_eq_true h24]; simp
  have q1 := Any.strings_Trim_laid Tryz.lays160 info116 s ⟨letters13.toArray⟩ w (by omega) (by decide) (ascii_of_all (by decide))
  obtain ⟨X, hX⟩ : ∃ X, (⟨(Lib.trimS s.data.toList (⟨letters13.toArray⟩ : ByteArray).data.toList).toArray⟩ : ByteArray) = X := ⟨_, rfl⟩
  rw [hX] at q1
  change Calls Tryz.prog 62 #[.string s, .string ⟨#[97, 98, 99, 100, 101, 102, 103, 104, 105, 106, 107, 108, 109, 110, 111, 112, 113, 114, 115, 116, 117, 118, 119, 120, 121, 122, 48, 49, 50, 51, 52, 53, 54, 55, 56, 57, 46, 45]⟩] w _ at q1
  have eX : X.data.toList = Lib.trimS (unB s) letters13 := by rw [← hX]; rfl
  have hT := trim_nil (unB s) letters13
  rw [all_letB, ← eX, ← e1] at hT
  clear hX eX e1 hR hl h0 h24 hs
  cases R with
  | true =>
    obtain ⟨t1, t2⟩ := Lines.asks_yes (hT.2 rfl)
    clear hT
    go_enter Tryz.func49, Tryz.ntmps49
    go_wp2_with fail
    with_reducible refine q1.mono ?_
    rintro e w1 ⟨rfl, f1⟩
    have HF := toHid8 (ofBelow f1)
    clear q1 f1
    go_wp2_with fail
    go_ret
    exact ⟨rfl, HF.out⟩
  | false =>
    obtain ⟨t1, t2⟩ := Lines.asks_no (s := X) (l := []) (fun h => by have := hT.1 h; cases this)
    clear hT
    go_enter Tryz.func49, Tryz.ntmps49
    go_wp2_with fail
    with_reducible refine q1.mono ?_
    rintro e w1 ⟨rfl, f1⟩
    have HF := toHid8 (ofBelow f1)
    clear q1 f1
    go_wp2_with fail
    go_ret
    exact ⟨rfl, HF.out⟩

end Go.Proofs.YtbiilnhefoplkaaGreatDoor

namespace Go.Proofs.YtbiilnhefoplkaaGreatDoor
open Go.RowKit
set_option maxRecDepth 100000

/-- What is known of a patch that is not too much. -/
structure FewPa (p : Pa) : Prop where
  name : p.name.size < 4000
  deps : p.deps.length < 4000 ∧ ∀ y ∈ p.deps, y.size < 4000
  body : p.body.length ≤ 60 ∧ ∀ x ∈ p.body, x.weight < 4000

theorem mem_sum13 : ∀ {l : List ByteArray} {y : ByteArray}, y ∈ l → y.size ≤ (l.map (·.size)).sum
  | [], _, h => by cases h
  | x :: l, y, h => by
    rw [List.map_cons, List.sum_cons]
    rcases List.mem_cons.1 h with rfl | h
    · omega
    · have := mem_sum13 h; omega

/-- What the law's Great tells. -/
def GPost (p : Pa) (w : World) (e : Ending) (w' : World) : Prop := ∃ g, e = .returned (.bool g) ∧ (g = false → FewPa p) ∧ Fr None' w w'

set_option maxHeartbeats 8000000 in
theorem great13_any (p : Pa) (vd : Value) (pb : Option Addr) (nb cb : Nat) (w : World) (hd : StrsAt w vd p.deps) (hb : PrsAt w pb p.body) (hnb : p.body.length = nb) (ld : p.deps.length ≤ 140737488355328) (lb : ∀ x ∈ p.body, x.old.length ≤ 140737488355328 ∧ x.new.length ≤ 140737488355328) :
    Calls Tryz.prog 37 #[.agg #[.string p.name, vd, .slice pb nb cb]] w fun e w' => GPost p w e w' := by
  obtain ⟨N, D, L⟩ := p
  simp only at hd hb hnb ld lb ⊢
  have HSd := toHid8 hd
  obtain ⟨pa, ca, ed, -⟩ := hd
  subst ed
  obtain ⟨no, hno⟩ : ∃ n, D.length = n := ⟨_, rfl⟩
  rw [hno] at ld ⊢
  have HL := toHid8 hno
  obtain ⟨w1, hw1⟩ : ∃ w1, w.alloc (.cells #[.string N, .slice pa no ca, .slice pb nb cb] 36) = w1 := ⟨_, rfl⟩
  have F1 : Fr None' w w1 := hw1 ▸ Fr.alloc None' w _
  have B1 : Box3 w1 w.heap.size (.string N) (.slice pa no ca) (.slice pb nb cb) := hw1 ▸ Box3.new w _ _ _
  obtain ⟨a0, a1, a2⟩ := B1.cells
  have HB := toHid8 (fun w' (f : Fr None' w1 w') => (B1.kept f).cells)
  have HF := toHid8 F1
  have HG := toHid8 (fun w' (f : Fr None' w1 w') => pgreats_any pb nb cb L w' hnb (hb.kept (F1.then7 f)) lb)
  unfold GreatPs at HG
  obtain ⟨mP, hmP⟩ : ∃ m : Nat, min N.size 4000 = m := ⟨_, rfl⟩
  have eP : (if (4000 : Int) < (N.size : Int) then (4000 : Int) else (N.size : Int)) = (mP : Int) := by split <;> omega
  have eP2 : min (N.size : Int) 4000 = (mP : Int) := by omega
  have HM := toHid8 (show mP < 4000 → mP = N.size by omega)
  have i1 : (mP : Int) ≤ 4000 := by omega
  have i4 : (no : Int) ≤ 140737488355328 := by omega
  have u1 : IntKind.i64.wrap ((mP : Int) + (no : Int)) = ((mP + no : Nat) : Int) := by rw [IntKind.wrap_i64]; omega
  obtain ⟨N0, hN0⟩ : ∃ N0, mP + no = N0 := ⟨_, rfl⟩
  have HN0 := toHid8 (show N0 < 4000 → N0 = N.size + no from fun h => by have := HM.out (by omega); omega)
  rw [hN0] at u1
  have i6 : (N0 : Int) ≤ 281474976730000 := by omega
  have HNb := toHid8 hnb
  clear hb hnb ld lb hno F1 B1 hmP hN0 HM
  go_enter Tryz.func37, Tryz.ntmps37
  go_wp2_with fail
  clear u1 eP eP2 i1 a0 a1 a2 hw1
  go_loopw [3, 4] (fun vn vi w2 => ∃ q M : Nat, q ≤ no ∧ vi = .int .i64 q ∧ vn = .int .i64 M ∧ (M : Int) ≤ 281474976740000 ∧ Hid (M < 4000 → M = N.size + no + ((D.take q).map (·.size)).sum) ∧ Hid (Fr None' w1 w2)) (fun _ vi _ => no - (intOf vi).toNat)
  case atStart => exact ⟨0, N0, Nat.zero_le _, rfl, rfl, by omega, fun h => by have := HN0.out h; simpa using this, Fr.refl _ _⟩
  case round =>
    obtain ⟨q, M, hq, rfl, rfl, hM, HMM, HF2⟩ := hrel
    obtain ⟨a0, a1, a2⟩ := HB.out wr HF2.out
    by_cases hqt : q < no
    · by_cases hs : M < 4000
      · have hql : q < D.length := by rw [HL.out]; exact hqt
        obtain ⟨_, _, e, _, _, hr⟩ := HSd.out.kept (HF.out.then7 HF2.out)
        cases e
        obtain ⟨gl, ol, rfl, e1⟩ := hr.get hql
        have HZ := toHid8 (show ((D.take (q + 1)).map (·.size)).sum = ((D.take q).map (·.size)).sum + D[q].size from sizes_step hql)
        obtain ⟨s, hse⟩ : ∃ s, D[q] = s := ⟨_, rfl⟩
        rw [hse] at e1 HZ
        obtain ⟨mS, hmS⟩ : ∃ m : Nat, min s.size 4000 = m := ⟨_, rfl⟩
        have eS : (if (4000 : Int) < (s.size : Int) then (4000 : Int) else (s.size : Int)) = (mS : Int) := by split <;> omega
        have eS2 : min (s.size : Int) 4000 = (mS : Int) := by omega
        have HM2 : Hid (mS < 4000 → mS = s.size) := by show _ → _; omega
        have u1 : (mS : Int) ≤ 4000 := by omega
        have u2 : (M : Int) < 4000 := by omega
        have u3 : (q : Int) < (no : Int) := by omega
        have u4 : (0 : Int) ≤ (q : Int) := by omega
        clear hse hmS hr hs hM
        go_wp2_with fail
        refine ⟨⟨q + 1, M + mS, by omega, by go_num, by go_num, by omega, fun hh => ?_, HF2.out⟩, by simp [intOf]; omega⟩
        have h1 := HMM.out (by omega)
        have h2 := HM2.out (by omega)
        rw [HZ.out]
        omega
      · have u2 : ¬ (M : Int) < 4000 := by omega
        have u3 : (q : Int) < (no : Int) := by omega
        have u5 : (4000 : Int) ≤ (M : Int) := by omega
        have HX := toHid8 (HF.out.then7 HF2.out)
        clear HMM HN0 hs
        go_wp2_with fail
        go_ret
        exact ⟨true, by first | rfl | exact ret_bool7 (by simp; omega), fun h => (by cases h), HX.out⟩
    · obtain rfl : q = no := by omega
      by_cases hs : M < 4000
      · have HW := toHid8 (show N.size < 4000 ∧ q < 4000 ∧ ∀ y ∈ D, y.size < 4000 by
          have h1 := HMM.out hs
          rw [List.take_of_length_le (by rw [HL.out]; exact Nat.le_refl _)] at h1
          exact ⟨by omega, by omega, fun y hy => by have := mem_sum13 hy; omega⟩)
        have u2 : (M : Int) < 4000 := by omega
        have u5 : ¬ (4000 : Int) ≤ (M : Int) := by omega
        have q1 := HG.out wr HF2.out
        clear HMM HN0 hs hM hqt
        go_wp2_with fail
        with_reducible refine q1.mono ?_
        rintro e w3 ⟨g, rfl, hg, f3⟩
        have HX := toHid8 (HF.out.then7 (HF2.out.then7 f3))
        clear q1 f3
        cases g with
        | true =>
          clear hg
          go_wp2_with fail
          go_ret
          exact ⟨true, by rfl, fun h => (by cases h), HX.out⟩
        | false =>
          have HGg := toHid8 (hg rfl)
          clear hg
          go_wp2_with fail
          go_ret
          exact ⟨false, by rfl, fun _ => ⟨HW.out.1, ⟨by rw [HL.out]; exact HW.out.2.1, HW.out.2.2⟩, by rw [HNb.out]; exact HGg.out⟩, HX.out⟩
      · have u2 : ¬ (M : Int) < 4000 := by omega
        have u5 : (4000 : Int) ≤ (M : Int) := by omega
        have HX := toHid8 (HF.out.then7 HF2.out)
        clear HMM HN0 hs
        go_wp2_with fail
        go_ret
        exact ⟨true, by first | rfl | exact ret_bool7 (by simp; omega), fun h => (by cases h), HX.out⟩

end Go.Proofs.YtbiilnhefoplkaaGreatDoor
