/-
  What is proved here: what a patch that passed several makes behind them; a row of one patch in memory. No condition but those that are named.
-/
import Derived.Test.YtpfkkpghgmmijaaGreatDoorM34Laws8
import Derived.Test.YtpfkkpghgmmijaaGreatDoorM37Past10
namespace Go.Proofs.YtpfkkpghgmmijaaGreatDoor
open Go.RowKit Go.Maps Go.WideMaps
set_option maxRecDepth 100000

theorem past_cons {p q b : Pr} {l A : List Pr} (h : pastP p (q :: l) = (A, b, true)) : ∃ a c A', commP p q = (a, c, true) ∧ pastP c l = (A', b, true) ∧ A = a :: A' := by
  rw [pastP] at h
  split at h
  · rename_i hc
    obtain ⟨r, hr⟩ : ∃ r, commP p q = r := ⟨_, rfl⟩
    rw [hr] at h hc
    obtain ⟨a, c, t⟩ := r
    simp only at h hc
    subst hc
    obtain ⟨s, hs⟩ : ∃ s, pastP c l = s := ⟨_, rfl⟩
    rw [hs] at h
    obtain ⟨A', b', t'⟩ := s
    simp only at h
    split at h
    · rename_i ht
      subst ht
      simp only [Prod.mk.injEq, and_true] at h
      exact ⟨a, c, A', hr, by rw [hs, h.2], h.1.symm⟩
    · simp at h
  · simp at h

theorem past_sm : ∀ {l : List Pr} {p b : Pr} {A : List Pr}, pastP p l = (A, b, true) → SmPr p → (∀ x ∈ l, SmPr x) → ∀ x ∈ A ++ [b], SmPr x
  | [], _, _, _, h, hp, _ => by
    simp only [pastP, Prod.mk.injEq, and_true] at h
    rw [← h.1, ← h.2]
    intro x hx
    simp only [List.nil_append, List.mem_singleton] at hx
    rw [hx]; exact hp
  | q :: l, _, _, _, h, hp, hl => by
    obtain ⟨a, c, A', h1, h2, rfl⟩ := past_cons h
    obtain ⟨s1, s2⟩ := comm_sm h1 hp (hl q (List.mem_cons_self ..))
    intro x hx
    rw [List.cons_append] at hx
    rcases List.mem_cons.1 hx with rfl | hx
    · exact s1
    · exact past_sm h2 s2 (fun y hy => hl y (List.mem_cons_of_mem _ hy)) x hx

theorem OwnP.one {w w1 : World} {p : Pr} {vo vn : Value} (hw : w.alloc (.cells #[.int .i64 p.kind, .string p.path, .string p.dst, .string p.src, .int .i64 p.pos, vo, vn] 45) = w1) (h1 : StrsAt w vo p.old) (h2 : StrsAt w vn p.new) : OwnP w.heap.size w1 (.slice (some ⟨w.heap.size, 0, none⟩) 1 1) [p] [(vo, vn)] := by
  have f : Fr None' w w1 := hw ▸ Fr.alloc None' w _
  refine ⟨rfl, ⟨rfl, Or.inr ⟨w.heap.size, 1, #[.int .i64 p.kind, .string p.path, .string p.dst, .string p.src, .int .i64 p.pos, vo, vn], rfl, Nat.le_refl _, hw ▸ heap_alloc_new w _, Nat.le_refl _, by decide, rfl, rfl⟩⟩, fun k x u e1 e2 => ?_⟩
  have hk : k = 0 := by
    have := (List.getElem?_eq_some_iff.1 e1).1
    simpa using this
  subst hk
  simp at e1 e2
  subst e1 e2
  exact ⟨h1.kept f, h2.kept f, fun hl j e e' => by have := h1.lt hl e; have h : w.heap.size = j := Option.some.inj e'; omega, fun hl j e e' => by have := h2.lt hl e; have h : w.heap.size = j := Option.some.inj e'; omega⟩

end Go.Proofs.YtpfkkpghgmmijaaGreatDoor
