/-
  What is proved here: what the document's Commute answers of two right patches, as far as its last question. Conditions: they lie in memory, and are of bounded size.
-/
import Derived.Test.YtlmgbcfcikdgpaaGreatDoorDoc10
import Derived.Test.YtlmgbcfcikdgpaaGreatDoorCommD10
import Derived.Test.YtlmgbcfcikdgpaaGreatDoorLaws10
namespace Go.Proofs.YtlmgbcfcikdgpaaGreatDoor
open Go.RowKit
set_option maxRecDepth 100000

/-- What the document's Commute hands back: it shares the rows. -/
def RCommPost (x y : Pr) (w0 w : World) (e : Ending) (w' : World) : Prop := ∃ va vb, e = .returned (.tuple #[va, vb, .bool (commP x y).2.2]) ∧ PrVal w0 va (commP x y).1 ∧ PrVal w0 vb (commP x y).2.1 ∧ Fr None' w w'

theorem rpost_none {cc : Pr × Pr × Bool} {w0 w w' : World} (h : cc = noneC) (f : Fr None' w w') : ∃ va vb, Ending.returned (.tuple #[.agg #[.int .i64 0, .string ⟨#[]⟩, .string ⟨#[]⟩, .string ⟨#[]⟩, .int .i64 0, .slice none 0 0, .slice none 0 0], .agg #[.int .i64 0, .string ⟨#[]⟩, .string ⟨#[]⟩, .string ⟨#[]⟩, .int .i64 0, .slice none 0 0, .slice none 0 0], .bool false]) = .returned (.tuple #[va, vb, .bool cc.2.2]) ∧ PrVal w0 va cc.1 ∧ PrVal w0 vb cc.2.1 ∧ Fr None' w w' := by
  rw [h]
  exact ⟨_, _, rfl, (zero_new w0 w0).val, (zero_new w0 w0).val, f⟩

theorem two_newD {w W : World} {x0 x1 x2 x3 x4 x5 x6 y0 y1 y2 y3 y4 y5 y6 : Value} (h : (w.alloc (.cells #[x0, x1, x2, x3, x4, x5, x6] 24)).alloc (.cells #[y0, y1, y2, y3, y4, y5, y6] 24) = W) : Box W w.heap.size x0 x1 x2 x3 x4 x5 x6 ∧ Box W (w.heap.size + 1) y0 y1 y2 y3 y4 y5 y6 ∧ Fr None' w W := by
  subst h
  exact ⟨(Box.new w _ _ _ _ _ _ _).alloc10 _, Box.new10 (by simp) _ _ _ _ _ _ _, alloc10 (Fr.alloc None' _ _) _⟩

theorem lines_pos {x : Pr} (h : rightP x = true) (hk : x.kind = 7) : 0 ≤ x.pos ∧ x.pos ≤ 1073741824 := by
  obtain ⟨K, P, T, F, A, lO, lN⟩ := x
  simp only at hk
  subst hk
  simp [rightP, ruleP, linesP] at h
  simp only
  omega

end Go.Proofs.YtlmgbcfcikdgpaaGreatDoor
