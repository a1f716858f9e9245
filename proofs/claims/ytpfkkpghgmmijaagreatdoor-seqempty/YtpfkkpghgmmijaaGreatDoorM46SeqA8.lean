/-
  What is proved here: two rows, one behind the other, put into one row of the call's own. Conditions: as the theorem names them.
-/
import Derived.Test.YtpfkkpghgmmijaaGreatDoorM44SeqP8
namespace Go.Proofs.YtpfkkpghgmmijaaGreatDoor
open Go.RowKit Go.Maps Go.WideMaps
set_option maxRecDepth 100000

theorem join_two {w : World} {va vb : Option Addr} {n c m d s : Nat} {A B : List Pr} (hA : PrsAt w va A) (ln : A.length = n) (hc : va = none → c = 0) (hB : PrsAt w vb B) (lm : B.length = m) (hd : vb = none → d = 0) (hs : n + m = s) (hs9 : s ≤ 90000) :
    ∃ (p1 : Option Addr) (c1 : Nat) (w1 : World) (p2 : Option Addr) (c2 : Nat) (w2 : World), (Builtin.append_ #[22, 22] 22 #[.slice (some ⟨w.heap.size, 0, none⟩) 0 0, .slice va n c]).run Tryz.prog (w.alloc (.cells #[] 45)) = .ok (.slice p1 n c1) w1 ∧ (Builtin.append_ #[22, 22] 22 #[.slice p1 n c1, .slice vb m d]).run Tryz.prog w1 = .ok (.slice p2 s c2) w2 ∧ PrsAt w2 p2 (A ++ B) ∧ (p2 = none → c2 = 0) ∧ s ≤ c2 ∧ c2 ≤ 9223372036854775807 ∧ Fr None' w w2 := by
  have F0 : Fr None' w (w.alloc (.cells #[] 45)) := Fr.alloc None' w _
  have O0 : OwnP w.heap.size (w.alloc (.cells #[] 45)) (.slice (some ⟨w.heap.size, 0, none⟩) 0 0) [] [] := OwnP.empty (Nat.le_refl _)
  obtain ⟨v1, U1, w1, r1, O1, f1⟩ := O0.addAll hA ln hc F0 (Nat.le_refl _) F0.size (by simp; omega)
  have F1 : Fr None' w w1 := F0.trans f1 (fun i e => Or.inr (O0.ge e).1)
  obtain ⟨p1, c1, rfl, _⟩ := O1.slice
  have e1 : ([] ++ A).length = n := by simpa using ln
  obtain ⟨v2, U2, w2, r2, O2, f2⟩ := O1.addAll hB lm hd F1 (Nat.le_refl _) F1.size (by rw [e1]; omega)
  have F2 : Fr None' w w2 := F1.trans f2 (fun i e => Or.inr (O1.ge e).1)
  obtain ⟨p2, c2, rfl, l2, n2, P2⟩ := O2.slice
  have e2 : ([] ++ A ++ B).length = s := by simp; omega
  rw [e1] at r1 r2
  rw [e2] at r2 l2
  exact ⟨p1, c1, w1, p2, c2, w2, r1, r2, by simpa using P2, n2, l2, O2.max, F2⟩

end Go.Proofs.YtpfkkpghgmmijaaGreatDoor
