/- What is proved here: contracts for RecordMakes. Conditions: as named. -/
import Derived.Test.YtbnfjjjdnbcehaaGreatDoorXPRPart
import Derived.Lib.IndexBytes
set_option maxHeartbeats 16000000
namespace Go.Proofs.YtbnfjjjdnbcehaaGreatDoor.Path
open Go.RowKit
set_option maxRecDepth 100000
theorem str_of {s : ByteArray} {l : List UInt8} (h : s.data.toList = l) : s = ⟨l.toArray⟩ := (str_eq s l).2 h
theorem extract_list (s : ByteArray) (a b : Nat) : (s.extract a b).data.toList = (s.data.toList.take b).drop a := by
 rw [ByteArray.data_extract, Array.toList_extract]
 simp [List.extract_eq_take_drop, List.drop_take]
theorem apart_def (p q : Bs) : apart p q = (!within p q && !within q p) := rfl
theorem parent_at {p : ByteArray} {k : Nat} (hk : k < p.size) (hc : p[k] = 47) (h : (47 : UInt8) ∉ p.data.toList.drop (k + 1)) : parent p.data.toList = some (p.data.toList.take k) := by
 have e := List.take_append_drop k p.data.toList
 rw [List.drop_eq_getElem_cons (by rw [Z1]; exact hk)] at e
 rw [show p.data.toList[k]'(by rw [Z1]; exact hk) = 47 from hc] at e
 have := parent_join (p.data.toList.take k) h
 rwa [e] at this
theorem cut_list (p : ByteArray) (k : Nat) : p.extract 0 k = ⟨(p.data.toList.take k).toArray⟩ := str_of (by rw [extract_list, List.drop_zero])
def parentS (p : Bs) : Value := .tuple #[.string ⟨((parent p).getD []).toArray⟩, .bool (parent p).isSome]
theorem rparent_any (p : ByteArray) (w : World) (hp : p.size < 100000000) : Calls Tryz.prog 45 #[.string p] w fun e w' => e = .returned (parentS p.data.toList) ∧ w = w' := by
 go_enter Tryz.func45, Tryz.ntmps45
 go_wp2_with fail
 go_loop [4] (fun i => ∃ k : Nat, k ≤ p.size ∧ i = .int .i64 ((k : Int) - 1) ∧ Hid ((47 : UInt8) ∉ p.data.toList.drop k)) (fun i => (intOf i + 1).toNat)
 case atStart => exact ⟨p.size, Nat.le_refl _, rfl, by unfold Hid; rw [List.drop_of_length_le (by rw [Z1]; exact Nat.le_refl _)]; simp⟩
 case round =>
  obtain ⟨k, hk, rfl, HN⟩ := hrel
  cases k with
  | zero =>
   go_wp2
   go_ret2
   have : parent p.data.toList = none := parent_none (by simpa using HN.out)
   rw [parentS, this]
   exact ⟨rfl, rfl⟩
  | succ k =>
   have ei : ((k + 1 : Nat) : Int) - 1 = k := by omega
   rw [ei]
   obtain ⟨v, hv⟩ : ∃ v : Nat, (p[k]).toNat = v := ⟨_, rfl⟩
   by_cases hc : v = 47
   ·have e := parent_at hk (UInt8.toNat_inj.1 (by rw [hv, hc]; rfl)) HN.out
    have hR : Hid (parentS p.data.toList = .tuple #[.string (p.extract 0 k), .bool true]) := by
     unfold Hid parentS; rw [e, cut_list]; rfl
    clear e ei
    subst hc
    go_wp2_with fail
    go_ret2
    rw [hR.out]
    exact ⟨rfl, rfl⟩
   ·have hR : Hid ((47 : UInt8) ∉ p.data.toList.drop k) := by
     unfold Hid
     rw [List.drop_eq_getElem_cons (by rw [Z1]; exact hk), List.mem_cons, not_or]
     exact ⟨fun e => hc (by rw [← hv, show p[k] = 47 from e.symm]; rfl), HN.out⟩
    have hc' : ¬ (v : Int) = 47 := by omega
    clear hc ei
    go_wp2_with fail
    go_round
    case rel => exact ⟨k, by omega, by go_num, hR.out⟩
    case measure => simp [intOf]
structure At (p : Bs) (done : List Bs) (f k : Nat) : Prop where
 fk : f ≤ k
 kp : k ≤ p.length
 eq : parts p = done ++ parts (p.drop f)
 no : (47 : UInt8) ∉ (p.drop f).take (k - f)
 fine : ∀ l ∈ done, goodPart l = true
theorem At.start (p : Bs) : At p [] 0 0 := ⟨Nat.le_refl _, Nat.zero_le _, by simp, by simp, by simp⟩
theorem At.len {p : Bs} {done : List Bs} {f k : Nat} (h : At p done f k) : done.length ≤ p.length := by
 have e := congrArg List.length h.eq
 rw [parts_length, List.length_append] at e
 have := List.length_pos_iff.2 (parts_ne (p.drop f))
 have := List.count_le_length (a := (47 : UInt8)) (l := p)
 omega
theorem At.on {p : Bs} {done : List Bs} {f k : Nat} (h : At p done f k) (hk : k < p.length) (hc : p[k] ≠ 47) : At p done f (k + 1) := by
 refine ⟨by have := h.fk; omega, by omega, h.eq, ?_, h.fine⟩
 have e : k + 1 - f = (k - f) + 1 := by have := h.fk; omega
 rw [e, List.take_add_one, List.mem_append, not_or]
 refine ⟨h.no, ?_⟩
 rw [List.getElem?_drop, show f + (k - f) = k from by have := h.fk; omega, List.getElem?_eq_getElem hk]
 simpa using fun e => hc e.symm
def seg (p : Bs) (f k : Nat) : Bs := (p.take k).drop f
theorem seg_eq (p : Bs) (f k : Nat) : seg p f k = (p.drop f).take (k - f) := by rw [seg, List.drop_take]
theorem At.slash {p : Bs} {done : List Bs} {f k : Nat} (h : At p done f k) (hk : k < p.length) (hc : p[k] = 47) : parts p = done ++ seg p f k :: parts (p.drop (k + 1)) := by
 have e : p.drop f = seg p f k ++ 47 :: p.drop (k + 1) := by
  have := List.take_append_drop (k - f) (p.drop f)
  rw [List.drop_drop, show f + (k - f) = k from by have := h.fk; omega, List.drop_eq_getElem_cons hk, hc, ← seg_eq] at this
  exact this.symm
 rw [h.eq, e, parts_join, parts_one (by rw [seg_eq]; exact h.no)]
 rfl
theorem At.last {p : Bs} {done : List Bs} {f : Nat} (h : At p done f p.length) : parts p = done ++ [seg p f p.length] := by
 have e : p.drop f = seg p f p.length := by rw [seg, List.take_length]
 rw [h.eq, e, parts_one (by rw [seg_eq]; exact h.no)]
theorem At.next {p : Bs} {done : List Bs} {f k : Nat} (h : At p done f k) (hk : k < p.length) (hc : p[k] = 47) (hg : goodPart (seg p f k) = true) : At p (done ++ [seg p f k]) (k + 1) (k + 1) :=
 ⟨Nat.le_refl _, by omega, by rw [h.slash hk hc]; simp, by simp, fun l hl => by
  rcases List.mem_append.1 hl with hl | hl
  ·exact h.fine l hl
  ·rw [List.mem_singleton.1 hl]; exact hg⟩
theorem not_right {p : Bs} {l : Bs} (hl : l ∈ parts p) (hg : goodPart l = false) : right p = false := by
 cases h : right p with
 | false => rfl
 | true => have := ((right_iff p).1 h).2 l hl; rw [hg] at this; cases this
theorem is_right {p : Bs} {done : List Bs} (e : parts p = done) (h : ∀ l ∈ done, goodPart l = true) : right p = decide (done.length ≤ 8) := by
 rw [right, e, List.all_eq_true.2 h, Bool.and_true]
theorem rright_any (p : ByteArray) (w : World) (hp : p.size < 100000000) : Calls Tryz.prog 43 #[.string p] w fun e w' => e = .returned (.bool (right p.data.toList)) ∧ w = w' := by
 have hlen := Z1 p
 go_enter Tryz.func43, Tryz.ntmps43
 go_wp2_with fail
 go_loop [3, 4, 5] (fun vn vf vi => ∃ (done : List Bs) (m f k : Nat), vn = .int .i64 m ∧ vf = .int .i64 f ∧ vi = .int .i64 k ∧ m = done.length ∧ m ≤ p.size + 1 ∧ f ≤ p.size + 1 ∧ k ≤ p.size + 1 ∧ Hid (At p.data.toList done f k ∨ (k = p.size + 1 ∧ parts p.data.toList = done ∧ ∀ l ∈ done, goodPart l = true))) (fun _ _ vi => p.size + 1 - (intOf vi).toNat)
 case atStart => exact ⟨[], 0, 0, 0, rfl, rfl, rfl, rfl, by omega, by omega, by omega, .inl (At.start _)⟩
 case round =>
  obtain ⟨done, m, f, k, rfl, rfl, rfl, hm, hm1, hf1, hk1, HI⟩ := hrel
  by_cases hk : k ≤ p.size
  ·have hA : At p.data.toList done f k := HI.out.resolve_right (fun h => by omega)
   have hfk := hA.fk
   have hml : m ≤ p.size := by rw [hm, ← hlen]; exact hA.len
   by_cases hlt : k < p.size
   ·obtain ⟨v, hv⟩ : ∃ v : Nat, (p[k]).toNat = v := ⟨_, rfl⟩
    by_cases hc : v = 47
    ·have e47 : p.data.toList[k]'(by rw [hlen]; exact hlt) = 47 := UInt8.toNat_inj.1 (hv.trans (by rw [hc]; rfl))
     subst hc
     have es : p.extract f k = ⟨(seg p.data.toList f k).toArray⟩ := str_of (by rw [extract_list, seg])
     have cS := rpart_any (p.extract f k) w (by simp; omega)
     have hsl := hA.slash (by rw [hlen]; exact hlt) e47
     cases hg : goodPart (seg p.data.toList f k)
     ·have hR : Hid (right p.data.toList = false) := not_right (l := seg p.data.toList f k) (by rw [hsl]; simp) hg
      rw [show (p.extract f k).data.toList = seg p.data.toList f k from by rw [es], hg] at cS
      clear HI hA hsl hg e47 es hlen
      go_wp2_with (go_at_call 70; refine cS.mono ?_; rintro e w' ⟨rfl, rfl⟩)
      go_ret
      rw [hR.out]
      exact ⟨rfl, rfl⟩
     ·have hR : Hid (At p.data.toList (done ++ [seg p.data.toList f k]) (k + 1) (k + 1)) := hA.next (by rw [hlen]; exact hlt) e47 hg
      rw [show (p.extract f k).data.toList = seg p.data.toList f k from by rw [es], hg] at cS
      clear HI hA hsl hg e47 es hlen
      go_wp2_with (go_at_call 70; refine cS.mono ?_; rintro e w' ⟨rfl, rfl⟩)
      go_round
      case rel => exact ⟨done ++ [seg p.data.toList f k], m + 1, k + 1, k + 1, by go_num, by go_num, by go_num, by simp [hm], by omega, by omega, by omega, .inl hR.out⟩
      case measure => simp [intOf]; omega
    ·have hR : Hid (At p.data.toList done f (k + 1)) := hA.on (by rw [hlen]; exact hlt) (fun e => hc (by rw [← hv, show p[k] = 47 from e]; rfl))
     have hc' : ¬ (v : Int) = 47 := by omega
     clear HI hA hc hlen
     go_wp2_with fail
     go_round
     case rel => exact ⟨done, m, f, k + 1, rfl, rfl, by go_num, hm, by omega, by omega, by omega, .inl hR.out⟩
     case measure => simp [intOf]; omega
   ·have hke : k = p.size := by omega
    have es : p.extract f k = ⟨(seg p.data.toList f k).toArray⟩ := str_of (by rw [extract_list, seg])
    have cS := rpart_any (p.extract f k) w (by simp; omega)
    have hsl : parts p.data.toList = done ++ [seg p.data.toList f k] := by
     have := hA
     rw [hke, ← hlen] at this ⊢
     exact this.last
    have hfine := hA.fine
    cases hg : goodPart (seg p.data.toList f k)
    ·have hR : Hid (right p.data.toList = false) := not_right (l := seg p.data.toList f k) (by rw [hsl]; simp) hg
     rw [show (p.extract f k).data.toList = seg p.data.toList f k from by rw [es], hg] at cS
     clear HI hA hsl hg es hlen hfine hke
     go_wp2_with (go_at_call 70; refine cS.mono ?_; rintro e w' ⟨rfl, rfl⟩)
     go_ret
     rw [hR.out]
     exact ⟨rfl, rfl⟩
    ·have hR : Hid (k + 1 = p.size + 1 ∧ parts p.data.toList = done ++ [seg p.data.toList f k] ∧ ∀ l ∈ done ++ [seg p.data.toList f k], goodPart l = true) := ⟨by omega, hsl, fun l hl => by
      rcases List.mem_append.1 hl with hl | hl
      ·exact hfine l hl
      ·rw [List.mem_singleton.1 hl]; exact hg⟩
     rw [show (p.extract f k).data.toList = seg p.data.toList f k from by rw [es], hg] at cS
     clear HI hA hsl hg es hlen hfine hke
     go_wp2_with (go_at_call 70; refine cS.mono ?_; rintro e w' ⟨rfl, rfl⟩)
     go_round
     case rel => exact ⟨done ++ [seg p.data.toList f k], m + 1, k + 1, k + 1, by go_num, by go_num, by go_num, by simp [hm], by omega, by omega, by omega, .inr hR.out⟩
     case measure => simp [intOf]; omega
  ·have hR : Hid (right p.data.toList = decide ((m : Int) ≤ 8)) := by
    rcases HI.out with h | ⟨_, h2, h3⟩
    ·have := h.kp; omega
    ·unfold Hid
     rw [is_right h2 h3, ← hm]
     exact decide_eq_decide.2 (by omega)
   clear HI hlen hm
   go_wp2_with fail
   go_ret
   rw [hR.out]
   exact ⟨rfl, rfl⟩
end Go.Proofs.YtbnfjjjdnbcehaaGreatDoor.Path
