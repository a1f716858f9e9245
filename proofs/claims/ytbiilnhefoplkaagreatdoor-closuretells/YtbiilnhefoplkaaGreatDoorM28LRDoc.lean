/-
  What is proved here: the contracts that the statement stands on: LRDoc, LRJoin, LRTok. Conditions: as each theorem names them.
-/
import Derived.Test.YtbiilnhefoplkaaGreatDoorM5LStrs
namespace Go.Proofs.YtbiilnhefoplkaaGreatDoor.Lines
open Go.RowKit
set_option maxRecDepth 100000

/-- What a call that makes texts hands back. -/
structure Made (w : World) (t : List Bs) (v : Value) (w' : World) : Prop where
  is : ∃ l, bs l = t ∧ ∃ va c, v = .slice va l.length c ∧ (va = none → c = 0) ∧ Row w' va l
  fr : Fr None' w w'
  room : ∀ va n c, v = .slice va n c → n ≤ c
  own : ∀ k, v.ownBlock = some k → w.heap.size ≤ k ∧ k < w'.heap.size

theorem OwnS.block {w w' : World} {v : Value} {l : List ByteArray} (h : OwnS w w' v l) {k : Nat} (hk : v.ownBlock = some k) : w.heap.size ≤ k ∧ k < w'.heap.size := by
  rcases h.2 with ⟨hv, _⟩ | ⟨g, cap, cur, hv, hb, hh, _⟩
  · rw [hv] at hk; cases hk
  · rw [hv] at hk; cases hk
    exact ⟨hb, (Array.getElem?_eq_some_iff.1 hh).1⟩

theorem OwnS.made {w w' : World} {v : Value} {l : List ByteArray} {t : List Bs} (h : OwnS w w' v l) (e : bs l = t) (f : Fr None' w w') : Made w t v w' := by
  obtain ⟨va, c, e1, hle, hn, hr⟩ := h.slice
  exact ⟨⟨l, e, va, c, e1, hn, hr⟩, f, fun _ _ _ e' => by rw [e1] at e'; cases e'; exact hle, fun _ hk => h.block hk⟩

theorem text_last {s : ByteArray} (h0 : 0 < s.size) : text s.data.toList = decide ((s[s.size - 1]'(by omega)).toNat = 10) := by
  have hne : s.data.toList ≠ [] := fun e => by have := len_eq s; rw [e] at this; simp at this; omega
  have e : s.data.toList.getLast? = some (s[s.size - 1]'(by omega)) := by
    rw [List.getLast?_eq_getElem?, len_eq, List.getElem?_eq_getElem (by rw [len_eq]; omega)]; rfl
  unfold text
  rw [e, Bool.eq_iff_iff]
  simp only [List.isEmpty_eq_false_iff.2 hne, Bool.false_or, beq_iff_eq, Option.some.injEq, decide_eq_true_eq]
  exact ⟨fun h => by rw [h]; rfl, fun h => UInt8.toNat_inj.1 h⟩

theorem seg_list (s : ByteArray) (a b : Nat) : (s.extract a b).data.toList = (s.data.toList.drop a).take (b - a) := by rw [extract_list, List.drop_take]

theorem lns_count_le : ∀ s : Bs, (lns s).length ≤ s.length
  | [] => Nat.le_refl _
  | c :: r => by
    have := lns_count_le r
    rw [lns]
    split
    · simp; omega
    · split
      · simp
      · rename_i h; rw [h] at this; simp at this ⊢; omega

theorem pieces_count_le (s : Bs) : (pieces s).length ≤ s.length := by
  have h := (pieces_all s).2
  have hg := good_some (pieces_all s).1
  conv => rhs; rw [← h]
  generalize pieces s = l at hg
  induction l with
  | nil => simp
  | cons p l ih =>
    have h1 := hg p (by simp)
    have h2 := ih (fun q hq => hg q (by simp [hq]))
    have : 0 < p.length := List.length_pos_iff.2 h1
    simp only [List.length_cons, List.flatten_cons, List.length_append]
    omega

theorem split_done {s : ByteArray} {a : Nat} (ht : text s.data.toList = true) (ha : a ≤ s.size) (h : ∀ j (h : j < s.data.toList.length), a ≤ j → j < s.size → s.data.toList[j] ≠ 10) : s.data.toList.drop a = [] := by
  by_cases h0 : 0 < s.size
  · rw [text_last h0] at ht
    have h10 := of_decide_eq_true ht
    by_cases e : a = s.size
    · rw [e, ← len_eq, List.drop_length]
    · exact absurd (UInt8.toNat_inj.1 h10) (h (s.size - 1) (by rw [len_eq]; omega) (by omega) (by omega))
  · have : s.data.toList = [] := List.eq_nil_of_length_eq_zero (by rw [len_eq]; omega)
    rw [this, List.drop_nil]

theorem split_on {s : ByteArray} {a k : Nat} (h : ∀ j (h : j < s.data.toList.length), a ≤ j → j < k → s.data.toList[j] ≠ 10) (hk : k < s.size) (hv : (s[k]).toNat ≠ 10) : ∀ j (h : j < s.data.toList.length), a ≤ j → j < k + 1 → s.data.toList[j] ≠ 10 := fun j hj h1 h2 => by
  by_cases e : j = k
  · subst e; exact fun e => hv (by rw [show s[j] = 10 from e]; rfl)
  · exact h j hj h1 (by omega)

theorem split_cut {s : ByteArray} {a k : Nat} {l : List ByteArray} (h : ∀ j (h : j < s.data.toList.length), a ≤ j → j < k → s.data.toList[j] ≠ 10) (hak : a ≤ k) (hk : k < s.size) (hv : (s[k]).toNat = 10) (e : bs l ++ lns (s.data.toList.drop a) = lns s.data.toList) :
    bs (l ++ [s.extract a k]) ++ lns (s.data.toList.drop (k + 1)) = lns s.data.toList := by
  rw [← e, lns_at hak (by rw [len_eq]; exact hk) h (UInt8.toNat_inj.1 hv), bs_append, List.append_assoc]
  refine congrArg _ ?_
  rw [show bs [s.extract a k] = [(s.extract a k).data.toList] from rfl, seg_list]
  rfl

end Go.Proofs.YtbiilnhefoplkaaGreatDoor.Lines

namespace Go.Proofs.YtbiilnhefoplkaaGreatDoor.Lines
open Go.RowKit
set_option maxRecDepth 100000

theorem join_take {l : List ByteArray} {k : Nat} (hk : k < l.length) : join (bs (l.take (k + 1))) = join (bs (l.take k)) ++ l[k].data.toList ++ [10] := by
  rw [List.take_succ_eq_append_getElem hk, bs_append, show bs [l[k]] = [l[k].data.toList] from rfl, join_snoc]

theorem join_le (l : List ByteArray) (k : Nat) : (join (bs (l.take k))).length ≤ (join (bs l)).length := by
  conv => rhs; rw [← List.take_append_drop k l, bs_append, join_append, List.length_append]
  omega

theorem item_le {l : List ByteArray} {k : Nat} (hk : k < l.length) : (join (bs (l.take k))).length + l[k].size + 1 ≤ (join (bs l)).length := by
  have h1 := join_le l (k + 1)
  rw [join_take hk, List.length_append, List.length_append, len_eq] at h1
  simpa using h1

end Go.Proofs.YtbiilnhefoplkaaGreatDoor.Lines

namespace Go.Proofs.YtbiilnhefoplkaaGreatDoor.Lines
open Go.RowKit
set_option maxRecDepth 100000

/-- The document's loop stands at byte k, the piece at hand from byte a on. -/
structure TokAt (s : Bs) (l : List ByteArray) (a k : Nat) : Prop where
  eq : bs l ++ pieces (s.drop a) = pieces s
  al : a ≤ s.length
  un : k ≤ s.length → a < k ∧ ∀ j (h : j < s.length) (h' : a < s.length), a ≤ j → j < k → tokB s[j] = tokB s[a]
  last : k = s.length + 1 → a = s.length

theorem TokAt.start (s : Bs) : TokAt s [] 0 1 :=
  ⟨rfl, Nat.zero_le _, fun _ => ⟨by omega, fun j h h' _ h2 => by
    obtain rfl : j = 0 := by omega
    rfl⟩, fun h => by omega⟩

theorem TokAt.on {s : Bs} {l : List ByteArray} {a k : Nat} (h : TokAt s l a k) (hk : k < s.length) (h' : a < s.length) (he : tokB s[k] = tokB s[a]) : TokAt s l a (k + 1) :=
  ⟨h.eq, h.al, fun _ => ⟨by have := (h.un (by omega)).1; omega, fun j hj _ h1 h2 => by
    by_cases e : j = k
    · subst e; exact he
    · exact (h.un (by omega)).2 j hj h' h1 (by omega)⟩, fun e => by omega⟩

theorem TokAt.cut {s : ByteArray} {l : List ByteArray} {a k : Nat} (h : TokAt s.data.toList l a k) (hk : k ≤ s.size) (hn : ∀ (h : k < s.data.toList.length) (h' : a < s.data.toList.length), tokB s.data.toList[k] ≠ tokB s.data.toList[a]) : TokAt s.data.toList (l ++ [s.extract a k]) k (k + 1) := by
  have hk' : k ≤ s.data.toList.length := by rw [len_eq]; exact hk
  obtain ⟨h1, h2⟩ := h.un hk'
  have ha : a < s.data.toList.length := by omega
  refine ⟨?_, hk', fun hk2 => ⟨by omega, fun j hj _ h3 h4 => by
    obtain rfl : j = k := by omega
    rfl⟩, fun e => by omega⟩
  have e := h.eq
  rw [pieces_at h1 hk' (tokB s.data.toList[a]) (fun j hj h3 h4 => h2 j hj ha h3 h4) (fun hlt => hn hlt ha)] at e
  rw [← e, bs_append, List.append_assoc, show bs [s.extract a k] = [(s.extract a k).data.toList] from rfl, seg_list]
  rfl

theorem TokAt.done {s : Bs} {l : List ByteArray} {a : Nat} (h : TokAt s l a (s.length + 1)) : bs l = pieces s := by
  have e := h.eq
  rw [h.last rfl, List.drop_length, pieces_nil, List.append_nil] at e
  exact e

theorem rep_take {t : List ByteArray} {k : Nat} (hk : k < t.length) (f u : Bs) : ((bs (t.take (k + 1))).map (rep f u)).flatten = ((bs (t.take k)).map (rep f u)).flatten ++ rep f u t[k].data.toList := by
  rw [List.take_succ_eq_append_getElem hk, bs_append, List.map_append, List.flatten_append, show bs [t[k]] = [t[k].data.toList] from rfl]
  simp

theorem rep_yes (f u : Bs) : rep f u f = u := by unfold rep; rw [if_pos rfl]
theorem rep_no {f u p : Bs} (h : p ≠ f) : rep f u p = p := by unfold rep; rw [if_neg h]

theorem rep_bound (f u : Bs) (B : Nat) (hu : u.length ≤ B) : ∀ l : List Bs, (∀ p ∈ l, p.length ≤ B) → ((l.map (rep f u)).flatten).length ≤ l.length * B
  | [], _ => by simp
  | p :: l, h => by
    have ih := rep_bound f u B hu l (fun q hq => h q (by simp [hq]))
    have h1 : (rep f u p).length ≤ B := by
      unfold rep
      split
      · exact hu
      · exact h p (by simp)
    rw [List.map_cons, List.flatten_cons, List.length_append, List.length_cons, Nat.add_mul]
    omega

theorem piece_le {s p : Bs} (h : p ∈ pieces s) : p.length ≤ s.length := by
  have e := (pieces_all s).2
  rw [← e]
  generalize pieces s = l at h
  induction l with
  | nil => cases h
  | cons q l ih =>
    rw [List.flatten_cons, List.length_append]
    rcases List.mem_cons.1 h with rfl | h
    · omega
    · have := ih h; omega

end Go.Proofs.YtbiilnhefoplkaaGreatDoor.Lines
