/-
  What is proved here: what SetRoot answers, told by plain states. Conditions: as in the texts that this one stands on.
-/
import Derived.Test.YtklefjmihapdpaaRoot3
namespace Go.Proofs.Ytklefjmihapdpaa
open Go.RowKit Go.Maps Go.WideMaps
set_option maxRecDepth 100000

set_option maxHeartbeats 2000000 in
theorem setRoot_no {w wi : World} {p : Nat} {S : St} (h : Live w wi p S) (l : List UInt8) (hl : l.length ≤ maxLen) (hn : Sha.namedB l = false) :
    Calls Try.prog 9 #[.pointer (some ⟨p, 0, none⟩), .string ⟨l.toArray⟩] wi fun e w' => e = .returned (.int .i64 1) ∧ Live w w' p S := by
  have hN := fun wx => named_is l wx hl
  rw [hn] at hN
  have HL : Hid (Live w wi p S) := h
  generalize (⟨l.toArray⟩ : ByteArray) = s at hN ⊢
  have HN : Hid _ := hN
  clear hN h hl hn
  go_enter Try.func9, Try.ntmps9
  go_wp2_with fail
  refine (HN.out _).mono ?_
  rintro e w1 ⟨rfl, rfl⟩
  go_wp2
  go_ret
  exact ⟨rfl, (HL.out.fresh (Fr.alloc _ _ _)).fresh (Fr.alloc _ _ _)⟩

set_option maxHeartbeats 2000000 in
theorem setRoot_yes {w wi : World} {p k : Nat} {S : St} (h : Live w wi p S) (hi : Inv k S) (hk : k + 5 ≤ 1000) (l : List UInt8) (hn : Sha.namedB l = true) :
    Calls Try.prog 9 #[.pointer (some ⟨p, 0, none⟩), .string ⟨l.toArray⟩] wi fun e w' => ∃ v r T, e = .returned (.int .i64 r) ∧ Ended S l v r T ∧ Live w w' p T ∧ ∀ v b, Data wi v b → Data w' v b := by
  have hl := namedB_length hn
  have hN := fun wx => named_is l wx (by rw [hl]; decide)
  rw [hn] at hN
  have hmf := makeFunc_run
  obtain ⟨M, hd, hf, hM⟩ := h
  obtain ⟨w3, hw3⟩ : ∃ w3, ((wi.alloc (.cells #[.pointer (some ⟨p, 0, none⟩)] 26)).alloc (.cells #[.string ⟨l.toArray⟩] 9)).alloc (.cells (stepsRow p wi.heap.size (wi.heap.size + 1)) 75) = w3 := ⟨_, rfl⟩
  have f3 : Fr None' wi w3 := hw3 ▸ ((Fr.alloc None' _ _).then (Fr.alloc None' _ _)).then (Fr.alloc None' _ _)
  have e1 : w3.heap[wi.heap.size]? = some (.cells #[.pointer (some ⟨p, 0, none⟩)] 26) := by
    rw [← hw3]
    rw [Below.heap_alloc _ _ _ (by simp; omega), Below.heap_alloc _ _ _ (by simp)]
    exact (MapKept.heap_alloc wi _).1
  have e2 : w3.heap[wi.heap.size + 1]? = some (.cells #[.string ⟨l.toArray⟩] 9) := by
    rw [← hw3]
    rw [Below.heap_alloc _ _ _ (by simp)]
    have := (MapKept.heap_alloc (wi.alloc (.cells #[.pointer (some ⟨p, 0, none⟩)] 26)) (.cells #[.string ⟨l.toArray⟩] 9)).1
    simpa using this
  have e3 : w3.heap[wi.heap.size + 1 + 1]? = some (.cells (stepsRow p wi.heap.size (wi.heap.size + 1)) 75) := by
    rw [← hw3]
    have := (MapKept.heap_alloc ((wi.alloc (.cells #[.pointer (some ⟨p, 0, none⟩)] 26)).alloc (.cells #[.string ⟨l.toArray⟩] 9)) (.cells (stepsRow p wi.heap.size (wi.heap.size + 1)) 75)).1
    simpa using this
  have hc := inOrder_any p wi.heap.size (wi.heap.size + 1) (wi.heap.size + 1 + 1) k M S l w3 (hd.fresh f3) hi hk (by omega) e1 e2 e3 (fun e => by have := hd.lt e; omega) (fun e => by have := hd.lt e; omega) (fun e => by have := hd.lt e; omega)
  have HF : Hid (Fr None' w wi ∧ Fr None' wi w3 ∧ (∀ k, M k → w.heap.size ≤ k) ∧ Still M w3) := ⟨hf, f3, hM, (hd.fresh f3).still⟩
  unfold stepsRow at hw3
  have HN : Hid _ := hN
  clear hN hd hf hM f3 e1 e2 e3 hi hn hl
  go_enter Try.func9, Try.ntmps9
  go_wp2_with fail
  refine (HN.out _).mono ?_
  rintro e w1 ⟨rfl, rfl⟩
  go_wp2_with fail
  refine hc.mono ?_
  rintro e w4 ⟨v, r, T, rfl, hE, hst⟩
  clear hc hw3
  go_wp2
  go_ret
  obtain ⟨q1, q2, q3, q4⟩ := HF.out
  refine ⟨v, r, T, rfl, hE, Live.step (q1.then q2) q3 hst, fun v' b hd => ?_⟩
  obtain ⟨_, _, h2, _⟩ := hst
  exact h2.data q4 (hd.fresh q2)
end Go.Proofs.Ytklefjmihapdpaa
