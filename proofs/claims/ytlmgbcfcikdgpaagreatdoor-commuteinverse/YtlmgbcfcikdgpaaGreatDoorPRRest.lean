/-
  What is proved here: what the document's Within, Apart, Moved, Parent and Right answer. The texts are shorter than 100000000 bytes.
-/
import Derived.Test.YtlmgbcfcikdgpaaGreatDoorPRPart
import Derived.Lib.IndexBytes
namespace Go.Proofs.YtlmgbcfcikdgpaaGreatDoor.Path
open Go.RowKit
set_option maxRecDepth 100000

theorem str_of {s : ByteArray} {l : List UInt8} (h : s.data.toList = l) : s = ⟨l.toArray⟩ := (str_eq s l).2 h

theorem bytes_eq {p q : ByteArray} : p = q ↔ p.data.toList = q.data.toList := by
  constructor
  · rintro rfl; rfl
  · intro h; rw [str_of h]

theorem extract_list (s : ByteArray) (a b : Nat) : (s.extract a b).data.toList = (s.data.toList.take b).drop a := by
  rw [ByteArray.data_extract, Array.toList_extract]
  simp [List.extract_eq_take_drop, List.drop_take]

theorem getElem_list (s : ByteArray) (k : Nat) (h : k < s.size) : s.data.toList[k]? = some s[k] := by
  rw [List.getElem?_eq_getElem (by rw [len_eq]; exact h)]; rfl

theorem within_parts (p q : ByteArray) : within p.data.toList q.data.toList = (decide (p = q) || (decide (q.size < p.size) && (decide ((p.extract 0 q.size) = q) && decide (p.data.toList[q.size]? = some 47)))) := by
  rw [Bool.eq_iff_iff, within_iff]
  simp only [Bool.or_eq_true, Bool.and_eq_true, decide_eq_true_eq]
  rw [bytes_eq, bytes_eq, extract_list, List.drop_zero, ← len_eq p, ← len_eq q]
  generalize p.data.toList = a
  generalize q.data.toList = b
  constructor
  · rintro (h | ⟨r, rfl⟩)
    · exact .inl h
    · exact .inr ⟨by simp, by simp, by simp⟩
  · rintro (h | ⟨h1, h2, h3⟩)
    · exact .inl h
    · refine .inr ⟨a.drop (b.length + 1), ?_⟩
      have e := List.take_append_drop b.length a
      rw [h2, List.drop_eq_getElem_cons h1] at e
      rw [List.getElem?_eq_getElem h1] at h3
      rw [Option.some.inj h3] at e
      exact e.symm

set_option maxHeartbeats 1000000 in
theorem rwithin_any (p q : ByteArray) (w : World) (_hp : p.size < 100000000) (_hq : q.size < 100000000) : Calls Tryz.prog 34 #[.string p, .string q] w fun e w' => e = .returned (.bool (within p.data.toList q.data.toList)) ∧ w = w' := by
  have hW : Hid (within p.data.toList q.data.toList = _) := within_parts p q
  go_enter Tryz.func34, Tryz.ntmps34
  go_wp2_with fail
  all_goals go_ret
  all_goals refine ⟨?_, rfl⟩
  all_goals rw [hW.out]
  · rename_i h
    have h' : p = q := bytes_eq.2 (by simpa [ByteArray.toList_eq] using h)
    simp [h']
  · rename_i h1 h2 h3
    have e1 : ¬ p = q := fun e => h1 (by rw [e])
    have e3 : p.extract 0 q.size = q := bytes_eq.2 (by simpa [ByteArray.toList_eq] using h3)
    rw [getElem_list p q.size h2]
    have e4 : (((p[q.size]).toNat : Int) == 47) = decide (some p[q.size] = some (47 : UInt8)) := by
      rw [Bool.eq_iff_iff]
      simp only [beq_iff_eq, decide_eq_true_eq, Option.some.injEq, ← UInt8.toNat_inj]
      exact ⟨fun h => by simpa using (by omega : (p[q.size]).toNat = 47), fun h => by rw [h]; rfl⟩
    simp [e1, e3, h1, h2, e4]
  · rename_i h1 h2 h3
    have e1 : ¬ p = q := fun e => h1 (by rw [e])
    have e3 : ¬ p.extract 0 q.size = q := fun e => h3 (by rw [e])
    simp [e1, e3, h1]
  · rename_i h1 h2
    have e1 : ¬ p = q := fun e => h1 (by rw [e])
    simp [e1, h1, h2]

theorem apart_def (p q : Bs) : apart p q = (!within p q && !within q p) := rfl

set_option maxHeartbeats 1000000 in
theorem rapart_any (p q : ByteArray) (w : World) (hp : p.size < 100000000) (hq : q.size < 100000000) : Calls Tryz.prog 36 #[.string p, .string q] w fun e w' => e = .returned (.bool (apart p.data.toList q.data.toList)) ∧ w = w' := by
  rw [apart_def]
  go_enter Tryz.func36, Tryz.ntmps36
  go_wp2_with (go_at_call 34; refine (rwithin_any _ _ _ (by assumption) (by assumption)).mono ?_; rintro e w' ⟨rfl, rfl⟩)
  all_goals go_ret
  all_goals refine ⟨?_, rfl⟩
  · rename_i h
    simp [h]
  · rename_i h
    simp [h]

theorem moved_yes {p q t : ByteArray} (h : within p.data.toList q.data.toList = true) : t ++ p.extract q.size p.size = ⟨(moved p.data.toList q.data.toList t.data.toList).toArray⟩ := by
  apply str_of
  rw [moved, if_pos h, ByteArray.data_append, Array.toList_append, extract_list, ← len_eq p, List.take_length, ← len_eq q]

theorem moved_no {p q t : Bs} (h : within p q = false) : moved p q t = [] := by rw [moved, h]; rfl

theorem within_le {p q : ByteArray} (h : within p.data.toList q.data.toList = true) : q.size ≤ p.size := by
  have := within_long h
  rw [len_eq, len_eq] at this
  rcases this with e | e
  · rw [bytes_eq.2 e]; exact Nat.le_refl _
  · omega

set_option maxHeartbeats 1000000 in
theorem rmoved_any (p q t : ByteArray) (w : World) (hp : p.size < 100000000) (hq : q.size < 100000000) (ht : t.size < 100000000) : Calls Tryz.prog 33 #[.string p, .string q, .string t] w fun e w' =>
    e = .returned (.tuple #[.string ⟨(moved p.data.toList q.data.toList t.data.toList).toArray⟩, .bool (within p.data.toList q.data.toList)]) ∧ w = w' := by
  cases h : within p.data.toList q.data.toList
  · rw [moved_no h]
    go_enter Tryz.func33, Tryz.ntmps33
    go_wp2_with (go_at_call 34; refine (rwithin_any p q _ hp hq).mono ?_; rw [h]; rintro e w' ⟨rfl, rfl⟩)
    go_ret2
    exact ⟨rfl, rfl⟩
  · have hle := within_le h
    rw [← moved_yes h]
    go_enter Tryz.func33, Tryz.ntmps33
    go_wp2_with (go_at_call 34; refine (rwithin_any p q _ hp hq).mono ?_; rw [h]; rintro e w' ⟨rfl, rfl⟩)
    go_ret2
    exact ⟨rfl, rfl⟩

theorem parent_at {p : ByteArray} {k : Nat} (hk : k < p.size) (hc : p[k] = 47) (h : (47 : UInt8) ∉ p.data.toList.drop (k + 1)) : parent p.data.toList = some (p.data.toList.take k) := by
  have e := List.take_append_drop k p.data.toList
  rw [List.drop_eq_getElem_cons (by rw [len_eq]; exact hk)] at e
  rw [show p.data.toList[k]'(by rw [len_eq]; exact hk) = 47 from hc] at e
  have := parent_join (p.data.toList.take k) h
  rwa [e] at this

theorem cut_list (p : ByteArray) (k : Nat) : p.extract 0 k = ⟨(p.data.toList.take k).toArray⟩ := str_of (by rw [extract_list, List.drop_zero])

def parentS (p : Bs) : Value := .tuple #[.string ⟨((parent p).getD []).toArray⟩, .bool (parent p).isSome]

end Go.Proofs.YtlmgbcfcikdgpaaGreatDoor.Path
