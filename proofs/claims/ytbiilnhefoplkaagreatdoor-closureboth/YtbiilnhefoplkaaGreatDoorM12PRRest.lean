/-
  What is proved here: the contracts that the statement stands on: PRRest, PRRight. Conditions: as each theorem names them.
-/
import Derived.Test.YtbiilnhefoplkaaGreatDoorMPRPart
import Derived.Lib.IndexBytes
namespace Go.Proofs.YtbiilnhefoplkaaGreatDoor.Path
open Go.RowKit
set_option maxRecDepth 100000

theorem str_of {s : ByteArray} {l : List UInt8} (h : s.data.toList = l) : s = ⟨l.toArray⟩ := (str_eq s l).2 h

theorem bytes_eq {p q : ByteArray} : p = q ↔ p.data.toList = q.data.toList := by
  constructor
  · rintro rfl; rfl
  · intro h; rw [str_of h]

theorem extract_list (s : ByteArray) (a b : Nat) : (s.extract a b).data.toList = (s.data.toList.take b).drop a := by
  rw [ByteArray.data_extract, Array.toList_extract]
  simp [List.extract_eq_take_drop, List.drop_take]

theorem getElem_list (s : ByteArray) (k : Nat) (h : k < s.size) : s.data.toList[k]? = some s[k] := by
  rw [List.getElem?_eq_getElem (by rw [len_eq]; exact h)]; rfl

theorem within_parts (p q : ByteArray) : within p.data.toList q.data.toList = (decide (p = q) || (decide (q.size < p.size) && (decide ((p.extract 0 q.size) = q) && decide (p.data.toList[q.size]? = some 47)))) := by
  rw [Bool.eq_iff_iff, within_iff]
  simp only [Bool.or_eq_true, Bool.and_eq_true, decide_eq_true_eq]
  rw [bytes_eq, bytes_eq, extract_list, List.drop_zero, ← len_eq p, ← len_eq q]
  generalize p.data.toList = a
  generalize q.data.toList = b
  constructor
  · rintro (h | ⟨r, rfl⟩)
    · exact .inl h
    · exact .inr ⟨by simp, by simp, by simp⟩
  · rintro (h | ⟨h1, h2, h3⟩)
    · exact .inl h
    · refine .inr ⟨a.drop (b.length + 1), ?_⟩
      have e := List.take_append_drop b.length a
      rw [h2, List.drop_eq_getElem_cons h1] at e
      rw [List.getElem?_eq_getElem h1] at h3
      rw [Option.some.inj h3] at e
      exact e.symm

set_option maxHeartbeats 1000000 in
theorem rwithin_any (p q : ByteArray) (w : World) (_hp : p.size < 100000000) (_hq : q.size < 100000000) : Calls Tryz.prog 69 #[.string p, .string q] w fun e w' => e = .returned (.bool (within p.data.toList q.data.toList)) ∧ w = w' := by
  have hW : Hid (within p.data.toList q.data.toList = _) := within_parts p q
  go_enter Tryz.func69, Tryz.ntmps69
  go_wp2_with fail
  all_goals go_ret
  all_goals refine ⟨?_, rfl⟩
  all_goals rw [hW.out]
  · rename_i h
    have h' : p = q := bytes_eq.2 (by simpa [ByteArray.toList_eq] using h)
    simp [h']
  · rename_i h1 h2 h3
    have e1 : ¬ p = q := fun e => h1 (by rw [e])
    have e3 : p.extract 0 q.size = q := bytes_eq.2 (by simpa [ByteArray.toList_eq] using h3)
    rw [getElem_list p q.size h2]
    have e4 : (((p[q.size]).toNat : Int) == 47) = decide (some p[q.size] = some (47 : UInt8)) := by
      rw [Bool.eq_iff_iff]
      simp only [beq_iff_eq, decide_eq_true_eq, Option.some.injEq, ← UInt8.toNat_inj]
      exact ⟨fun h => by simpa using (by omega : (p[q.size]).toNat = 47), fun h => by rw [h]; rfl⟩
    simp [e1, e3, h1, h2, e4]
  · rename_i h1 h2 h3
    have e1 : ¬ p = q := fun e => h1 (by rw [e])
    have e3 : ¬ p.extract 0 q.size = q := fun e => h3 (by rw [e])
    simp [e1, e3, h1]
  · rename_i h1 h2
    have e1 : ¬ p = q := fun e => h1 (by rw [e])
    simp [e1, h1, h2]

theorem apart_def (p q : Bs) : apart p q = (!within p q && !within q p) := rfl

set_option maxHeartbeats 1000000 in
theorem rapart_any (p q : ByteArray) (w : World) (hp : p.size < 100000000) (hq : q.size < 100000000) : Calls Tryz.prog 58 #[.string p, .string q] w fun e w' => e = .returned (.bool (apart p.data.toList q.data.toList)) ∧ w = w' := by
  rw [apart_def]
  go_enter Tryz.func58, Tryz.ntmps58
  go_wp2_with (go_at_call 69; refine (rwithin_any _ _ _ (by assumption) (by assumption)).mono ?_; rintro e w' ⟨rfl, rfl⟩)
  all_goals go_ret
  all_goals refine ⟨?_, rfl⟩
  · rename_i h
    simp [h]
  · rename_i h
    simp [h]

theorem moved_yes {p q t : ByteArray} (h : within p.data.toList q.data.toList = true) : t ++ p.extract q.size p.size = ⟨(moved p.data.toList q.data.toList t.data.toList).toArray⟩ := by
  apply str_of
  rw [moved, if_pos h, ByteArray.data_append, Array.toList_append, extract_list, ← len_eq p, List.take_length, ← len_eq q]

theorem moved_no {p q t : Bs} (h : within p q = false) : moved p q t = [] := by rw [moved, h]; rfl

theorem within_le {p q : ByteArray} (h : within p.data.toList q.data.toList = true) : q.size ≤ p.size := by
  have := within_long h
  rw [len_eq, len_eq] at this
  rcases this with e | e
  · rw [bytes_eq.2 e]; exact Nat.le_refl _
  · omega

theorem parent_at {p : ByteArray} {k : Nat} (hk : k < p.size) (hc : p[k] = 47) (h : (47 : UInt8) ∉ p.data.toList.drop (k + 1)) : parent p.data.toList = some (p.data.toList.take k) := by
  have e := List.take_append_drop k p.data.toList
  rw [List.drop_eq_getElem_cons (by rw [len_eq]; exact hk)] at e
  rw [show p.data.toList[k]'(by rw [len_eq]; exact hk) = 47 from hc] at e
  have := parent_join (p.data.toList.take k) h
  rwa [e] at this

theorem cut_list (p : ByteArray) (k : Nat) : p.extract 0 k = ⟨(p.data.toList.take k).toArray⟩ := str_of (by rw [extract_list, List.drop_zero])

def parentS (p : Bs) : Value := .tuple #[.string ⟨((parent p).getD []).toArray⟩, .bool (parent p).isSome]

end Go.Proofs.YtbiilnhefoplkaaGreatDoor.Path

namespace Go.Proofs.YtbiilnhefoplkaaGreatDoor.Path
open Go.RowKit
set_option maxRecDepth 100000

/-- The parts that are through when the document's loop stands at byte k, the part at hand from byte f on. -/
structure At (p : Bs) (done : List Bs) (f k : Nat) : Prop where
  fk : f ≤ k
  kp : k ≤ p.length
  eq : parts p = done ++ parts (p.drop f)
  no : (47 : UInt8) ∉ (p.drop f).take (k - f)
  fine : ∀ l ∈ done, goodPart l = true

theorem At.start (p : Bs) : At p [] 0 0 := ⟨Nat.le_refl _, Nat.zero_le _, by simp, by simp, by simp⟩

theorem At.len {p : Bs} {done : List Bs} {f k : Nat} (h : At p done f k) : done.length ≤ p.length := by
  have e := congrArg List.length h.eq
  rw [parts_length, List.length_append] at e
  have := List.length_pos_iff.2 (parts_ne (p.drop f))
  have := List.count_le_length (a := (47 : UInt8)) (l := p)
  omega

theorem At.on {p : Bs} {done : List Bs} {f k : Nat} (h : At p done f k) (hk : k < p.length) (hc : p[k] ≠ 47) : At p done f (k + 1) := by
  refine ⟨by have := h.fk; omega, by omega, h.eq, ?_, h.fine⟩
  have e : k + 1 - f = (k - f) + 1 := by have := h.fk; omega
  rw [e, List.take_add_one, List.mem_append, not_or]
  refine ⟨h.no, ?_⟩
  rw [List.getElem?_drop, show f + (k - f) = k from by have := h.fk; omega, List.getElem?_eq_getElem hk]
  simpa using fun e => hc e.symm

/-- The part at hand. -/
def seg (p : Bs) (f k : Nat) : Bs := (p.take k).drop f

theorem seg_eq (p : Bs) (f k : Nat) : seg p f k = (p.drop f).take (k - f) := by rw [seg, List.drop_take]

theorem At.slash {p : Bs} {done : List Bs} {f k : Nat} (h : At p done f k) (hk : k < p.length) (hc : p[k] = 47) : parts p = done ++ seg p f k :: parts (p.drop (k + 1)) := by
  have e : p.drop f = seg p f k ++ 47 :: p.drop (k + 1) := by
    have := List.take_append_drop (k - f) (p.drop f)
    rw [List.drop_drop, show f + (k - f) = k from by have := h.fk; omega, List.drop_eq_getElem_cons hk, hc, ← seg_eq] at this
    exact this.symm
  rw [h.eq, e, parts_join, parts_one (by rw [seg_eq]; exact h.no)]
  rfl

theorem At.last {p : Bs} {done : List Bs} {f : Nat} (h : At p done f p.length) : parts p = done ++ [seg p f p.length] := by
  have e : p.drop f = seg p f p.length := by rw [seg, List.take_length]
  rw [h.eq, e, parts_one (by rw [seg_eq]; exact h.no)]

theorem At.next {p : Bs} {done : List Bs} {f k : Nat} (h : At p done f k) (hk : k < p.length) (hc : p[k] = 47) (hg : goodPart (seg p f k) = true) : At p (done ++ [seg p f k]) (k + 1) (k + 1) :=
  ⟨Nat.le_refl _, by omega, by rw [h.slash hk hc]; simp, by simp, fun l hl => by
    rcases List.mem_append.1 hl with hl | hl
    · exact h.fine l hl
    · rw [List.mem_singleton.1 hl]; exact hg⟩

theorem not_right {p : Bs} {l : Bs} (hl : l ∈ parts p) (hg : goodPart l = false) : right p = false := by
  cases h : right p with
  | false => rfl
  | true => have := ((right_iff p).1 h).2 l hl; rw [hg] at this; cases this

theorem is_right {p : Bs} {done : List Bs} (e : parts p = done) (h : ∀ l ∈ done, goodPart l = true) : right p = decide (done.length ≤ 8) := by
  rw [right, e, List.all_eq_true.2 h, Bool.and_true]

set_option maxHeartbeats 2000000 in
theorem rright_any (p : ByteArray) (w : World) (hp : p.size < 100000000) : Calls Tryz.prog 55 #[.string p] w fun e w' => e = .returned (.bool (right p.data.toList)) ∧ w = w' := by
  have hlen := len_eq p
  go_enter Tryz.func55, Tryz.ntmps55
  go_wp2_with fail
  go_loop [3, 4, 5] (fun vn vf vi => ∃ (done : List Bs) (m f k : Nat), vn = .int .i64 m ∧ vf = .int .i64 f ∧ vi = .int .i64 k ∧ m = done.length ∧ m ≤ p.size + 1 ∧ f ≤ p.size + 1 ∧ k ≤ p.size + 1 ∧ Hid (At p.data.toList done f k ∨ (k = p.size + 1 ∧ parts p.data.toList = done ∧ ∀ l ∈ done, goodPart l = true))) (fun _ _ vi => p.size + 1 - (intOf vi).toNat)
  case atStart => exact ⟨[], 0, 0, 0, rfl, rfl, rfl, rfl, by omega, by omega, by omega, .inl (At.start _)⟩
  case round =>
    obtain ⟨done, m, f, k, rfl, rfl, rfl, hm, hm1, hf1, hk1, HI⟩ := hrel
    by_cases hk : k ≤ p.size
    · have hA : At p.data.toList done f k := HI.out.resolve_right (fun h => by omega)
      have hfk := hA.fk
      have hml : m ≤ p.size := by rw [hm, ← hlen]; exact hA.len
      by_cases hlt : k < p.size
      · obtain ⟨v, hv⟩ : ∃ v : Nat, (p[k]).toNat = v := ⟨_, rfl⟩
        by_cases hc : v = 47
        · have e47 : p.data.toList[k]'(by rw [hlen]; exact hlt) = 47 := UInt8.toNat_inj.1 (hv.trans (by rw [hc]; rfl))
          subst hc
          have es : p.extract f k = ⟨(seg p.data.toList f k).toArray⟩ := str_of (by rw [extract_list, seg])
          have cS := rpart_any (p.extract f k) w (by simp; omega)
          have hsl := hA.slash (by rw [hlen]; exact hlt) e47
          cases hg : goodPart (seg p.data.toList f k)
          · have hR : Hid (right p.data.toList = false) := not_right (l := seg p.data.toList f k) (by rw [hsl]; simp) hg
            rw [show (p.extract f k).data.toList = seg p.data.toList f k from by rw [es], hg] at cS
            clear HI hA hsl hg e47 es hlen
            go_wp2_with (go_at_call 67; refine cS.mono ?_; rintro e w' ⟨rfl, rfl⟩)
            go_ret
            rw [hR.out]
            exact ⟨rfl, rfl⟩
          · have hR : Hid (At p.data.toList (done ++ [seg p.data.toList f k]) (k + 1) (k + 1)) := hA.next (by rw [hlen]; exact hlt) e47 hg
            rw [show (p.extract f k).data.toList = seg p.data.toList f k from by rw [es], hg] at cS
            clear HI hA hsl hg e47 es hlen
            go_wp2_with (go_at_call 67; refine cS.mono ?_; rintro e w' ⟨rfl, rfl⟩)
            go_round
            case rel => exact ⟨done ++ [seg p.data.toList f k], m + 1, k + 1, k + 1, by go_num, by go_num, by go_num, by simp [hm], by omega, by omega, by omega, .inl hR.out⟩
            case measure => simp [intOf]; omega
        · have hR : Hid (At p.data.toList done f (k + 1)) := hA.on (by rw [hlen]; exact hlt) (fun e => hc (by rw [← hv, show p[k] = 47 from e]; rfl))
          have hc' : ¬ (v : Int) = 47 := by omega
          clear HI hA hc hlen
          go_wp2_with fail
          go_round
          case rel => exact ⟨done, m, f, k + 1, rfl, rfl, by go_num, hm, by omega, by omega, by omega, .inl hR.out⟩
          case measure => simp [intOf]; omega
      · have hke : k = p.size := by omega
        have es : p.extract f k = ⟨(seg p.data.toList f k).toArray⟩ := str_of (by rw [extract_list, seg])
        have cS := rpart_any (p.extract f k) w (by simp; omega)
        have hsl : parts p.data.toList = done ++ [seg p.data.toList f k] := by
          have := hA
          rw [hke, ← hlen] at this ⊢
          exact this.last
        have hfine := hA.fine
        cases hg : goodPart (seg p.data.toList f k)
        · have hR : Hid (right p.data.toList = false) := not_right (l := seg p.data.toList f k) (by rw [hsl]; simp) hg
          rw [show (p.extract f k).data.toList = seg p.data.toList f k from by rw [es], hg] at cS
          clear HI hA hsl hg es hlen hfine hke
          go_wp2_with (go_at_call 67; refine cS.mono ?_; rintro e w' ⟨rfl, rfl⟩)
          go_ret
          rw [hR.out]
          exact ⟨rfl, rfl⟩
        · have hR : Hid (k + 1 = p.size + 1 ∧ parts p.data.toList = done ++ [seg p.data.toList f k] ∧ ∀ l ∈ done ++ [seg p.data.toList f k], goodPart l = true) := ⟨by omega, hsl, fun l hl => by
            rcases List.mem_append.1 hl with hl | hl
            · exact hfine l hl
            · rw [List.mem_singleton.1 hl]; exact hg⟩
          rw [show (p.extract f k).data.toList = seg p.data.toList f k from by rw [es], hg] at cS
          clear HI hA hsl hg es hlen hfine hke
          go_wp2_with (go_at_call 67; refine cS.mono ?_; rintro e w' ⟨rfl, rfl⟩)
          go_round
          case rel => exact ⟨done ++ [seg p.data.toList f k], m + 1, k + 1, k + 1, by go_num, by go_num, by go_num, by simp [hm], by omega, by omega, by omega, .inr hR.out⟩
          case measure => simp [intOf]; omega
    · have hR : Hid (right p.data.toList = decide ((m : Int) ≤ 8)) := by
        rcases HI.out with h | ⟨_, h2, h3⟩
        · have := h.kp; omega
        · unfold Hid
          rw [is_right h2 h3, ← hm]
          exact decide_eq_decide.2 (by omega)
      clear HI hlen hm
      go_wp2_with fail
      go_ret
      rw [hR.out]
      exact ⟨rfl, rfl⟩

end Go.Proofs.YtbiilnhefoplkaaGreatDoor.Path
