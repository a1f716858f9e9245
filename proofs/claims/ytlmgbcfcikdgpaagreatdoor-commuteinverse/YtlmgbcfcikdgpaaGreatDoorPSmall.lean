/-
  What is proved here: what behind, Within, Apart, Moved and Parent answer. The texts are shorter than 100000000 bytes.
-/
import Derived.Test.YtlmgbcfcikdgpaaGreatDoorPLay
import Derived.Test.YtlmgbcfcikdgpaaGreatDoorPRRest
namespace Go.Proofs.YtlmgbcfcikdgpaaGreatDoor.Path
open Go.RowKit Go.Shelf
set_option maxRecDepth 100000

def behindS (p q : Bs) : Value := .tuple #[.string ⟨(if within p q then p.drop q.length else []).toArray⟩, .bool (within p q)]

set_option maxHeartbeats 1000000 in
theorem behind_any (p q : ByteArray) (w : World) : Calls Tryz.prog 115 #[.string p, .string q] w fun e w' => e = .returned (behindS p.data.toList q.data.toList) ∧ w = w' := by
  have cC := (Any.strings_CutPrefix Tryz.lays103 p q w).mono (R' := fun e w' => e = _ ∧ w = w') fun _ _ ⟨a, b⟩ => ⟨a, b.symm⟩
  cases h : Lib.hasPrefix p.data.toList q.data.toList
  · have hW : within p.data.toList q.data.toList = false := by rw [within, show q.data.toList.isPrefixOf p.data.toList = false from h]; rfl
    rw [h] at cC
    generalize (⟨(Lib.trimPrefix p.data.toList q.data.toList).toArray⟩ : ByteArray) = R at cC
    rw [behindS, hW]
    clear h hW
    go_enter Tryz.func115, Tryz.ntmps115
    go_wp2_with (go_at_call 134; refine cC.mono ?_; rintro e w' ⟨rfl, rfl⟩)
    go_ret2
    exact ⟨rfl, rfl⟩
  · have hW : within p.data.toList q.data.toList = opens (p.data.toList.drop q.data.toList.length) := by rw [within, show q.data.toList.isPrefixOf p.data.toList = true from h]; rfl
    have hT : Lib.trimPrefix p.data.toList q.data.toList = p.data.toList.drop q.data.toList.length := by rw [Lib.trimPrefix, h]; rfl
    rw [h, hT] at cC
    rw [behindS, hW]
    generalize p.data.toList.drop q.data.toList.length = D at cC
    obtain ⟨R, hR⟩ : ∃ R : ByteArray, R = ⟨D.toArray⟩ := ⟨_, rfl⟩
    rw [← hR] at cC
    have hRD : R.data.toList = D := by rw [hR]
    clear h hW hT
    cases D with
    | nil =>
      obtain ⟨q1, q2⟩ := asks_yes hRD
      have hRe : R = ByteArray.empty := by rw [hR]; rfl
      show Calls _ _ _ _ fun e w' => e = .returned (.tuple #[.string ⟨#[]⟩, .bool true]) ∧ w = w'
      clear hRD hR
      subst hRe
      go_enter Tryz.func115, Tryz.ntmps115
      go_wp2_with (go_at_call 134; refine cC.mono ?_; rintro e w' ⟨rfl, rfl⟩)
      go_ret2
      exact ⟨rfl, rfl⟩
    | cons c D =>
      obtain ⟨q1, q2⟩ := asks_no (s := R) (l := []) (by rw [hRD]; simp)
      have q3 : ¬ R = ByteArray.empty := fun e => by rw [e] at hRD; cases hRD
      have cH : ∀ v, Calls Tryz.prog 135 #[.string R, .string ⟨#[47]⟩] v fun e w' => e = .returned (.bool (decide (c = 47))) ∧ v = w' := fun v => (Any.strings_HasPrefix Tryz.lays99 R ⟨#[47]⟩ v).mono fun _ _ ⟨a, b⟩ => ⟨by
        rw [a, hRD]
        refine congrArg (fun b => Ending.returned (Value.bool b)) ?_
        rw [Bool.eq_iff_iff]
        simp [Lib.hasPrefix, List.isPrefixOf]
        exact ⟨Eq.symm, Eq.symm⟩, b.symm⟩
      have hO : opens (c :: D) = decide (c = 47) := rfl
      rw [hO]
      cases hc : decide (c = 47)
      · rw [hc] at cH
        show Calls _ _ _ _ fun e w' => e = .returned (.tuple #[.string ⟨#[]⟩, .bool false]) ∧ w = w'
        clear hRD hR hc hO
        go_enter Tryz.func115, Tryz.ntmps115
        go_wp2_with first
          | (go_at_call 134; refine cC.mono ?_; rintro e w' ⟨rfl, rfl⟩)
          | (go_at_call 135; refine (cH _).mono ?_; rintro e w' ⟨rfl, rfl⟩)
        go_ret2
        exact ⟨rfl, rfl⟩
      · rw [hc] at cH
        show Calls _ _ _ _ fun e w' => e = .returned (.tuple #[.string ⟨(c :: D).toArray⟩, .bool true]) ∧ w = w'
        rw [← hR]
        clear hRD hR hc hO
        go_enter Tryz.func115, Tryz.ntmps115
        go_wp2_with first
          | (go_at_call 134; refine cC.mono ?_; rintro e w' ⟨rfl, rfl⟩)
          | (go_at_call 135; refine (cH _).mono ?_; rintro e w' ⟨rfl, rfl⟩)
        go_ret2
        exact ⟨rfl, rfl⟩

set_option maxHeartbeats 1000000 in
theorem within_any (p q : ByteArray) (w : World) : Calls Tryz.prog 93 #[.string p, .string q] w fun e w' => e = .returned (.bool (within p.data.toList q.data.toList)) ∧ w = w' := by
  have cC := behind_any p q w
  unfold behindS at cC
  generalize (⟨(if within p.data.toList q.data.toList then p.data.toList.drop q.data.toList.length else []).toArray⟩ : ByteArray) = R at cC
  go_enter Tryz.func93, Tryz.ntmps93
  go_wp2_with (go_at_call 115; refine cC.mono ?_; rintro e w' ⟨rfl, rfl⟩)
  go_ret
  exact ⟨rfl, rfl⟩

set_option maxHeartbeats 1000000 in
theorem apart_any (p q : ByteArray) (w : World) : Calls Tryz.prog 69 #[.string p, .string q] w fun e w' => e = .returned (.bool (apart p.data.toList q.data.toList)) ∧ w = w' := by
  rw [apart_def]
  go_enter Tryz.func69, Tryz.ntmps69
  go_wp2_with (go_at_call 93; refine (within_any _ _ _).mono ?_; rintro e w' ⟨rfl, rfl⟩)
  all_goals go_ret
  all_goals refine ⟨?_, rfl⟩
  · rename_i h
    simp [h]
  · rename_i h
    simp [h]

def movedS (p q t : Bs) : Value := .tuple #[.string ⟨(moved p q t).toArray⟩, .bool (within p q)]

set_option maxHeartbeats 1000000 in
theorem moved_any (p q t : ByteArray) (w : World) (hp : p.size < 100000000) (ht : t.size < 100000000) : Calls Tryz.prog 109 #[.string p, .string q, .string t] w fun e w' => e = .returned (movedS p.data.toList q.data.toList t.data.toList) ∧ w = w' := by
  have cC := behind_any p q w
  unfold behindS at cC
  unfold movedS moved
  cases h : within p.data.toList q.data.toList
  · rw [h] at cC
    have cC' : Calls Tryz.prog 115 #[.string p, .string q] w fun e w' => e = .returned (.tuple #[.string ⟨#[]⟩, .bool false]) ∧ w = w' := cC
    show Calls _ _ _ _ fun e w' => e = .returned (.tuple #[.string ⟨#[]⟩, .bool false]) ∧ w = w'
    clear cC h
    go_enter Tryz.func109, Tryz.ntmps109
    go_wp2_with (go_at_call 115; refine cC'.mono ?_; rintro e w' ⟨rfl, rfl⟩)
    go_ret2
    exact ⟨rfl, rfl⟩
  · rw [h] at cC
    obtain ⟨R, hR⟩ : ∃ R : ByteArray, R = ⟨(p.data.toList.drop q.data.toList.length).toArray⟩ := ⟨_, rfl⟩
    have cC' : Calls Tryz.prog 115 #[.string p, .string q] w fun e w' => e = .returned (.tuple #[.string R, .bool true]) ∧ w = w' := by rw [hR]; exact cC
    have hsz : R.size < 100000000 := by rw [← len_eq, hR]; simp; have := len_eq p; omega
    have hE : Hid ((⟨(t.data.toList ++ p.data.toList.drop q.data.toList.length).toArray⟩ : ByteArray) = t ++ R) := (str_of (by rw [ByteArray.data_append, Array.toList_append, hR])).symm
    show Calls _ _ _ _ fun e w' => e = .returned (.tuple #[.string ⟨(t.data.toList ++ p.data.toList.drop q.data.toList.length).toArray⟩, .bool true]) ∧ w = w'
    rw [hE.out]
    clear cC h hR hE
    go_enter Tryz.func109, Tryz.ntmps109
    go_wp2_with (go_at_call 115; refine cC'.mono ?_; rintro e w' ⟨rfl, rfl⟩)
    go_ret2
    exact ⟨rfl, rfl⟩

theorem last_none {p : ByteArray} (h : ∀ j, j < p.size → ((p.data[j]!).toNat : Int) ≠ 47) : parent p.data.toList = none := by
  refine parent_none fun hm => ?_
  obtain ⟨k, hk, e⟩ := List.getElem_of_mem hm
  have hk' : k < p.size := by rw [← len_eq]; exact hk
  refine h k hk' ?_
  rw [show p.data[k]! = p.data.toList[k] from by rw [getElem!_pos p.data k hk']; rfl, e]
  rfl

set_option maxHeartbeats 1000000 in
theorem parent_any (p : ByteArray) (w : World) (hp : p.size < 100000000) : Calls Tryz.prog 117 #[.string p] w fun e w' => e = .returned (parentS p.data.toList) ∧ w = w' := by
  have cC : Calls Tryz.prog 136 #[.string p, .string ⟨#[47]⟩] w fun e w' => e = .returned (.int .i64 (Lib.lastIndexByte p 47)) ∧ w = w' := (Any.strings_LastIndex_one Tryz.lays148 p ⟨#[47]⟩ rfl (by omega) w).mono fun _ _ ⟨a, b⟩ => ⟨a, b.symm⟩
  rcases Lib.lastIndexByte_spec p 47 with ⟨h1, h2⟩ | ⟨i, h1, h2, h3, h4⟩
  · rw [h1] at cC
    rw [parentS, last_none h2]
    clear h1 h2
    show Calls _ _ _ _ fun e w' => e = .returned (.tuple #[.string ⟨#[]⟩, .bool false]) ∧ w = w'
    go_enter Tryz.func117, Tryz.ntmps117
    go_wp2_with (go_at_call 136; refine cC.mono ?_; rintro e w' ⟨rfl, rfl⟩)
    go_ret2
    exact ⟨rfl, rfl⟩
  · rw [h2] at cC
    have at' : ∀ (j : Nat) (hj : j < p.size), p.data[j]! = p[j] := fun j hj => by rw [getElem!_pos p.data j hj]; rfl
    have e := parent_at h1 (UInt8.toNat_inj.1 (by rw [at' i h1] at h3; show (p[i]).toNat = 47; omega)) (fun hm => by
      obtain ⟨k, hk, e⟩ := List.getElem_of_mem hm
      rw [List.length_drop, len_eq] at hk
      rw [List.getElem_drop] at e
      refine h4 (i + 1 + k) (by omega) (by omega) ?_
      rw [at' _ (by omega), show p[i + 1 + k] = 47 from e]
      rfl)
    rw [parentS, e]
    show Calls _ _ _ _ fun e w' => e = .returned (.tuple #[.string ⟨(p.data.toList.take i).toArray⟩, .bool true]) ∧ w = w'
    rw [← cut_list]
    clear at' e h2 h3 h4
    go_enter Tryz.func117, Tryz.ntmps117
    go_wp2_with (go_at_call 136; refine cC.mono ?_; rintro e w' ⟨rfl, rfl⟩)
    go_ret2
    exact ⟨rfl, rfl⟩

end Go.Proofs.YtlmgbcfcikdgpaaGreatDoor.Path
