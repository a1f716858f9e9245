/-
  What is proved here: what the document's Tokens and Replace answer. Conditions: the texts are shorter than 900000 bytes.
-/
import Derived.Test.YtdaogldmcbfmoaaGreatDoorM25LRightP
import Derived.Test.YtdaogldmcbfmoaaGreatDoorM23LStrs
namespace Go.Proofs.YtdaogldmcbfmoaaGreatDoor.Lines
open Go.RowKit
set_option maxRecDepth 100000

/-- The document's loop stands at byte k, the piece at hand from byte a on. -/
structure TokAt (s : Bs) (l : List ByteArray) (a k : Nat) : Prop where
  eq : bs l ++ pieces (s.drop a) = pieces s
  al : a ≤ s.length
  un : k ≤ s.length → a < k ∧ ∀ j (h : j < s.length) (h' : a < s.length), a ≤ j → j < k → tokB s[j] = tokB s[a]
  last : k = s.length + 1 → a = s.length

theorem TokAt.start (s : Bs) : TokAt s [] 0 1 :=
  ⟨rfl, Nat.zero_le _, fun _ => ⟨by omega, fun j h h' _ h2 => by
    obtain rfl : j = 0 := by omega
    rfl⟩, fun h => by omega⟩

theorem TokAt.on {s : Bs} {l : List ByteArray} {a k : Nat} (h : TokAt s l a k) (hk : k < s.length) (h' : a < s.length) (he : tokB s[k] = tokB s[a]) : TokAt s l a (k + 1) :=
  ⟨h.eq, h.al, fun _ => ⟨by have := (h.un (by omega)).1; omega, fun j hj _ h1 h2 => by
    by_cases e : j = k
    · subst e; exact he
    · exact (h.un (by omega)).2 j hj h' h1 (by omega)⟩, fun e => by omega⟩

theorem TokAt.cut {s : ByteArray} {l : List ByteArray} {a k : Nat} (h : TokAt s.data.toList l a k) (hk : k ≤ s.size) (hn : ∀ (h : k < s.data.toList.length) (h' : a < s.data.toList.length), tokB s.data.toList[k] ≠ tokB s.data.toList[a]) : TokAt s.data.toList (l ++ [s.extract a k]) k (k + 1) := by
  have hk' : k ≤ s.data.toList.length := by rw [len_eq]; exact hk
  obtain ⟨h1, h2⟩ := h.un hk'
  have ha : a < s.data.toList.length := by omega
  refine ⟨?_, hk', fun hk2 => ⟨by omega, fun j hj _ h3 h4 => by
    obtain rfl : j = k := by omega
    rfl⟩, fun e => by omega⟩
  have e := h.eq
  rw [pieces_at h1 hk' (tokB s.data.toList[a]) (fun j hj h3 h4 => h2 j hj ha h3 h4) (fun hlt => hn hlt ha)] at e
  rw [← e, bs_append, List.append_assoc, show bs [s.extract a k] = [(s.extract a k).data.toList] from rfl, seg_list]
  rfl

theorem TokAt.done {s : Bs} {l : List ByteArray} {a : Nat} (h : TokAt s l a (s.length + 1)) : bs l = pieces s := by
  have e := h.eq
  rw [h.last rfl, List.drop_length, pieces_nil, List.append_nil] at e
  exact e

theorem rep_take {t : List ByteArray} {k : Nat} (hk : k < t.length) (f u : Bs) : ((bs (t.take (k + 1))).map (rep f u)).flatten = ((bs (t.take k)).map (rep f u)).flatten ++ rep f u t[k].data.toList := by
  rw [List.take_succ_eq_append_getElem hk, bs_append, List.map_append, List.flatten_append, show bs [t[k]] = [t[k].data.toList] from rfl]
  simp

theorem rep_yes (f u : Bs) : rep f u f = u := by unfold rep; rw [if_pos rfl]
theorem rep_no {f u p : Bs} (h : p ≠ f) : rep f u p = p := by unfold rep; rw [if_neg h]

theorem rep_bound (f u : Bs) (B : Nat) (hu : u.length ≤ B) : ∀ l : List Bs, (∀ p ∈ l, p.length ≤ B) → ((l.map (rep f u)).flatten).length ≤ l.length * B
  | [], _ => by simp
  | p :: l, h => by
    have ih := rep_bound f u B hu l (fun q hq => h q (by simp [hq]))
    have h1 : (rep f u p).length ≤ B := by
      unfold rep
      split
      · exact hu
      · exact h p (by simp)
    rw [List.map_cons, List.flatten_cons, List.length_append, List.length_cons, Nat.add_mul]
    omega

theorem piece_le {s p : Bs} (h : p ∈ pieces s) : p.length ≤ s.length := by
  have e := (pieces_all s).2
  rw [← e]
  generalize pieces s = l at h
  induction l with
  | nil => cases h
  | cons q l ih =>
    rw [List.flatten_cons, List.length_append]
    rcases List.mem_cons.1 h with rfl | h
    · omega
    · have := ih h; omega

end Go.Proofs.YtdaogldmcbfmoaaGreatDoor.Lines
