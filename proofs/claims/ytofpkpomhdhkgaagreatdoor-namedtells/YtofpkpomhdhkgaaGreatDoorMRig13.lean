/-
  What is proved here: which texts are labels, and which patches are right, as the program tells it. Conditions: they lie in memory, and are of bounded size.
-/
import Derived.Test.YtofpkpomhdhkgaaGreatDoorMLayT
import Derived.Test.YtofpkpomhdhkgaaGreatDoorM8Strs9
import Derived.Test.YtofpkpomhdhkgaaGreatDoorMRule9
import Derived.Test.YtofpkpomhdhkgaaGreatDoorM7LStrs
import Derived.Shelf.Strings.SlTrimAscii
namespace Go.Proofs.YtofpkpomhdhkgaaGreatDoor
open Go.RowKit Go.Shelf
set_option maxRecDepth 100000

def letters13 : List UInt8 := [97, 98, 99, 100, 101, 102, 103, 104, 105, 106, 107, 108, 109, 110, 111, 112, 113, 114, 115, 116, 117, 118, 119, 120, 121, 122, 48, 49, 50, 51, 52, 53, 54, 55, 56, 57, 46, 45]

theorem letters_fin : ∀ n : Fin 256, letters13.contains (UInt8.ofNat n.val) = letB (UInt8.ofNat n.val) := by decide +kernel

theorem letters_is (b : UInt8) : letters13.contains b = letB b := by
  have h := letters_fin ⟨b.toNat, UInt8.toNat_lt b⟩
  simpa using h

theorem dropWhile_nil {p : UInt8 → Bool} : ∀ {l : List UInt8}, l.dropWhile p = [] ↔ l.all p = true
  | [] => by simp
  | b :: l => by
    rw [List.dropWhile_cons, List.all_cons]
    cases hb : p b with
    | true => simpa using dropWhile_nil
    | false => simp

theorem dropWhile_head {p : UInt8 → Bool} : ∀ {l : List UInt8} {b : UInt8} {r : List UInt8}, l.dropWhile p = b :: r → p b = false
  | [], _, _, h => by simp at h
  | c :: l, b, r, h => by
    rw [List.dropWhile_cons] at h
    split at h
    · exact dropWhile_head h
    · rename_i hc
      cases h
      simpa using hc

theorem trim_nil (l cs : List UInt8) : Lib.trimS l cs = [] ↔ l.all (cs.contains ·) = true := by
  unfold Lib.trimS Lib.trimLeftS Lib.trimRightS
  rw [dropWhile_nil]
  cases e : l.reverse.dropWhile (cs.contains ·) with
  | nil =>
    have h := dropWhile_nil.1 e
    rw [List.all_reverse] at h
    exact ⟨fun _ => h, fun _ => rfl⟩
  | cons b r =>
    have hb := dropWhile_head e
    have h2 : ¬ l.all (cs.contains ·) = true := fun h => by
      have : l.reverse.dropWhile (cs.contains ·) = [] := dropWhile_nil.2 (by rw [List.all_reverse]; exact h)
      rw [this] at e; cases e
    constructor
    · intro h
      rw [List.all_reverse] at h
      have := List.all_eq_true.1 h b (List.mem_cons_self ..)
      rw [hb] at this; cases this
    · intro h; exact absurd h h2

theorem all_letB (l : List UInt8) : l.all (letters13.contains ·) = l.all letB := by
  congr 1
  funext b
  exact letters_is b

theorem info116 : (Tryz.prog.info? 87).map (fun i => (i.zero, i.size)) = some (some (.agg (Array.replicate 256 (.bool false))), 256) := by kernel_rfl

set_option maxHeartbeats 2000000 in
theorem label_any (s : ByteArray) (w : World) (hs : s.size ≤ 1000000000) : Calls Tryz.prog 17 #[.string s] w fun e w' => e = .returned (.bool (labelB (unB s))) ∧ Fr None' w w' := by
  have hl := un_len s
  obtain ⟨R, hR⟩ : ∃ R, labelB (unB s) = R := ⟨_, rfl⟩
  rw [hR]
  by_cases h0 : s.size = 0
  · obtain rfl : false = R := by rw [← hR]; unfold labelB; rw [hl, h0]; rfl
    have i1 : ¬ ((0 : Int) < (s.size : Int)) := by omega
    clear hl hR h0 hs
    go_enter Tryz.func17, Tryz.ntmps17
    go_wp2_with fail
    go_ret
    exact ⟨rfl, Fr.refl _ _⟩
  have i1 : (0 : Int) < (s.size : Int) := by omega
  by_cases h24 : s.size ≤ 24
  case neg =>
    obtain rfl : false = R := by
      rw [← hR]; unfold labelB; rw [hl, decide_eq_false h24]; simp
    have i2 : ¬ ((s.size : Int) ≤ 24) := by omega
    have i3 : (24 : Int) < (s.size : Int) := by omega
    clear hl hR h24 h0 hs
    go_enter Tryz.func17, Tryz.ntmps17
    go_wp2_with fail
    go_ret
    exact ⟨rfl, Fr.refl _ _⟩
  have i2 : (s.size : Int) ≤ 24 := by omega
  have e1 : R = (unB s).all letB := by rw [← hR]; unfold labelB; rw [hl, decide_eq_true (by omega), decide_eq_true h24]; simp
  have q1 := Any.strings_Trim_laid Tryz.lays160 info116 s ⟨letters13.toArray⟩ w (by omega) (by decide) (ascii_of_all (by decide))
  obtain ⟨X, hX⟩ : ∃ X, (⟨(Lib.trimS s.data.toList (⟨letters13.toArray⟩ : ByteArray).data.toList).toArray⟩ : ByteArray) = X := ⟨_, rfl⟩
  rw [hX] at q1
  change Calls Tryz.prog 36 #[.string s, .string ⟨#[97, 98, 99, 100, 101, 102, 103, 104, 105, 106, 107, 108, 109, 110, 111, 112, 113, 114, 115, 116, 117, 118, 119, 120, 121, 122, 48, 49, 50, 51, 52, 53, 54, 55, 56, 57, 46, 45]⟩] w _ at q1
  have eX : X.data.toList = Lib.trimS (unB s) letters13 := by rw [← hX]; rfl
  have hT := trim_nil (unB s) letters13
  rw [all_letB, ← eX, ← e1] at hT
  clear hX eX e1 hR hl h0 h24 hs
  cases R with
  | true =>
    obtain ⟨t1, t2⟩ := Lines.asks_yes (hT.2 rfl)
    clear hT
    go_enter Tryz.func17, Tryz.ntmps17
    go_wp2_with fail
    with_reducible refine q1.mono ?_
    rintro e w1 ⟨rfl, f1⟩
    have HF := toHid8 (ofBelow f1)
    clear q1 f1
    go_wp2_with fail
    go_ret
    exact ⟨rfl, HF.out⟩
  | false =>
    obtain ⟨t1, t2⟩ := Lines.asks_no (s := X) (l := []) (fun h => by have := hT.1 h; cases this)
    clear hT
    go_enter Tryz.func17, Tryz.ntmps17
    go_wp2_with fail
    with_reducible refine q1.mono ?_
    rintro e w1 ⟨rfl, f1⟩
    have HF := toHid8 (ofBelow f1)
    clear q1 f1
    go_wp2_with fail
    go_ret
    exact ⟨rfl, HF.out⟩

end Go.Proofs.YtofpkpomhdhkgaaGreatDoor
