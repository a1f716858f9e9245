/-
  What is proved here: what Last, Swap and Coalesce answer, as plain data: sizes stay small, and what was one row makes what the other makes. No condition but those that are named.
-/
import Derived.Test.YtpfkkpghgmmijaaGreatDoorMCPastP8
import Derived.Test.YtpfkkpghgmmijaaGreatDoorM34Laws8
import Derived.Test.YtpfkkpghgmmijaaGreatDoorM41Concat11
import Derived.Test.YtpfkkpghgmmijaaGreatDoorM43Swap11
namespace Go.Proofs.YtpfkkpghgmmijaaGreatDoor
open Go.RowKit Go.Maps Go.WideMaps
set_option maxRecDepth 100000

theorem last_no {L X : List Pr} {z : Int} (h : lastQ L z = (X, false)) : X = [] := by
  unfold lastQ at h
  split at h
  · split at h
    · simp at h
    · simp at h; exact h
  · simp at h; exact h

theorem last_yes {L X : List Pr} {z : Int} (h : lastQ L z = (X, true)) : ∃ k : Nat, z = k ∧ ∃ hk : k < L.length, ∃ A b, pastP L[k] (L.drop (k + 1)) = (A, b, true) ∧ X = L.take k ++ A ++ [b] := by
  unfold lastQ at h
  split at h
  · rename_i hz
    obtain ⟨k, rfl⟩ : ∃ k : Nat, z = k := ⟨z.toNat, by omega⟩
    refine ⟨k, rfl, by omega, ?_⟩
    simp only [Int.toNat_natCast] at h
    generalize pastP L[k] (L.drop (k + 1)) = r at h ⊢
    obtain ⟨A, b, t⟩ := r
    cases t with
    | false => simp at h
    | true => exact ⟨A, b, rfl, by simpa using h.symm⟩
  · simp at h

theorem last_row {L X : List Pr} {z : Int} (h : lastQ L z = (X, true)) : RowAs X L ∧ X.length = L.length ∧ 0 ≤ z ∧ z < L.length := by
  obtain ⟨k, rfl, hk, A, b, hp, rfl⟩ := last_yes h
  obtain ⟨h1, h2⟩ := past_row hp
  have hL : L = L.take k ++ (L[k] :: L.drop (k + 1)) := by
    rw [← List.drop_eq_getElem_cons hk, List.take_append_drop]
  refine ⟨?_, ?_, by omega, by omega⟩
  · rw [List.append_assoc]
    have := (RowAs.refl (L.take k)).app h1
    rw [← hL] at this
    exact this
  · simp only [List.length_append, List.length_take, List.length_singleton, h2, List.length_drop]
    omega

theorem last_sm {L X : List Pr} {z : Int} (h : lastQ L z = (X, true)) (hs : ∀ x ∈ L, SmPr x) : ∀ x ∈ X, SmPr x := by
  obtain ⟨k, rfl, hk, A, b, hp, rfl⟩ := last_yes h
  intro x hx
  rw [List.append_assoc] at hx
  rcases List.mem_append.1 hx with hx | hx
  · exact hs x (List.mem_of_mem_take hx)
  · exact past_sm hp (hs _ (List.getElem_mem hk)) (fun y hy => hs y (List.mem_of_mem_drop hy)) x hx

theorem join_sm {p q z : Pr} {l : List Pr} (h : joinP p q = some l) (hp : SmPr p) (hq : SmPr q) (hz : z ∈ l) : SmPr z := by
  unfold joinP at h
  repeat' split at h
  all_goals first | (cases h; done) | (cases h; simp at hz; done) | skip
  all_goals
    cases h
    rw [List.mem_singleton.1 hz]
    first
      | exact ⟨hp.path, hq.dst, hp.src, hp.old, hp.new, hp.line, hp.oline⟩
      | exact ⟨hp.path, hp.dst, hp.src, hp.old, hq.new, hq.line, hp.oline⟩

theorem push_sm : ∀ (st : List Pr) (x : Pr), (∀ y ∈ st, SmPr y) → SmPr x → ∀ y ∈ pushR st x, SmPr y
  | [], x, _, hx => fun y hy => by
    simp [pushR] at hy
    rw [hy]; exact hx
  | s :: st, x, hs, hx => fun y hy => by
    have hst : ∀ y ∈ st, SmPr y := fun y hy => hs y (List.mem_cons_of_mem _ hy)
    unfold pushR at hy
    split at hy
    · rcases List.mem_cons.1 hy with rfl | hy
      · exact hx
      · exact hs y hy
    · exact hst y hy
    · rename_i z l hj
      exact push_sm st z hst (join_sm hj (hs s (List.mem_cons_self ..)) hx (List.mem_cons_self ..)) y hy

theorem coalR_sm : ∀ (l st : List Pr), (∀ y ∈ st, SmPr y) → (∀ y ∈ l, SmPr y) → ∀ y ∈ coalR st l, SmPr y
  | [], _, hs, _ => hs
  | x :: l, _, hs, hl => coalR_sm l (pushR _ x) (push_sm _ x hs (hl x (List.mem_cons_self ..))) (fun y hy => hl y (List.mem_cons_of_mem _ hy))

theorem coal_sm {l : List Pr} (h : ∀ y ∈ l, SmPr y) : ∀ y ∈ coalP l, SmPr y := fun y hy => coalR_sm l [] (fun y hy => by cases hy) h y (List.mem_reverse.1 hy)

theorem coal_len (l : List Pr) : (coalP l).length ≤ l.length := by
  unfold coalP
  rw [List.length_reverse]
  simpa using coal_length l []

theorem swap_sm {a b x y : List Pr} (h : swapP a b = (x, y, true)) (ha : ∀ p ∈ a, SmPr p) (hb : ∀ p ∈ b, SmPr p) : (∀ p ∈ x, SmPr p) ∧ ∀ p ∈ y, SmPr p := by
  induction a generalizing x y with
  | nil => simp [swapP] at h; rw [← h.1, h.2]; exact ⟨hb, fun p hp => by cases hp⟩
  | cons p a ih =>
    obtain ⟨s1, s2, c, h1, h2, rfl⟩ := swap_cons h
    obtain ⟨i1, i2⟩ := ih h1 (fun q hq => ha q (List.mem_cons_of_mem _ hq))
    have h3 := past_sm h2 (ha p (List.mem_cons_self ..)) i1
    refine ⟨fun q hq => h3 q (List.mem_append_left _ hq), fun q hq => ?_⟩
    rcases List.mem_cons.1 hq with rfl | hq
    · exact h3 q (List.mem_append_right _ (List.mem_singleton.2 rfl))
    · exact i2 q hq

theorem OwnP.max {base : Nat} {w : World} {pv : Option Addr} {n c : Nat} {L : List Pr} {V : List (Value × Value)} (h : OwnP base w (.slice pv n c) L V) : c ≤ 9223372036854775807 := by
  rcases h.row.2 with ⟨hv, _⟩ | ⟨g, cap, cur, hv, _, _, _, hm, _⟩
  · cases hv; decide
  · cases hv; exact Nat.le_trans hm (by decide)

end Go.Proofs.YtpfkkpghgmmijaaGreatDoor
