/-
  What is proved here: patches that were commuted have the rows that they had, and are of bounded size. No condition.
-/
import Derived.Test.YtlmgbcfcikdgpaaGreatDoorPlain10
import Derived.Test.YtlmgbcfcikdgpaaGreatDoorPR9
namespace Go.Proofs.YtlmgbcfcikdgpaaGreatDoor
open Go.RowKit
set_option maxRecDepth 100000

theorem parts_sum : ∀ p : List UInt8, ((Path.parts p).map (fun l => l.length + 1)).sum = p.length + 1
  | [] => rfl
  | c :: p => by
    have ih := parts_sum p
    by_cases hc : c = 47
    · subst hc
      rw [Path.parts_slash]
      simp only [List.map_cons, List.sum_cons, List.length_nil, List.length_cons] at ih ⊢
      omega
    · obtain ⟨h, t, e⟩ := Path.parts_cons (p := p)
      rw [Path.parts_other hc e]
      rw [e] at ih
      simp only [List.map_cons, List.sum_cons, List.length_cons] at ih ⊢
      omega

theorem sum_le {l : List (List UInt8)} (h : ∀ x ∈ l, x.length ≤ 16) : (l.map (fun x => x.length + 1)).sum ≤ l.length * 17 := by
  induction l with
  | nil => simp
  | cons x l ih =>
    have h1 := h x (List.mem_cons_self)
    have h2 := ih (fun y hy => h y (List.mem_cons_of_mem _ hy))
    simp only [List.map_cons, List.sum_cons, List.length_cons]
    omega

theorem right_len {p : List UInt8} (h : Path.right p = true) : p.length ≤ 135 := by
  obtain ⟨h1, h2⟩ := (Path.right_iff p).1 h
  have h3 := parts_sum p
  have h4 := sum_le (l := Path.parts p) (fun x hx => by
    have := h2 x hx
    unfold Path.goodPart at this
    simp only [Bool.and_eq_true, decide_eq_true_eq] at this
    omega)
  have h5 := (show (p.length + 1) ≤ (Path.parts p).length * 17 from h3 ▸ h4)
  omega

theorem right_path {x : Pr} (h : rightP x = true) : x.path.size ≤ 135 := by
  unfold rightP at h
  simp only [Bool.and_eq_true] at h
  have := right_len h.1.2
  rw [Path.len_eq] at this
  exact this

theorem move_dst {x : Pr} (h : rightP x = true) (hk : x.kind = 10) : x.dst.size ≤ 135 := by
  unfold rightP ruleP moveP at h
  rw [hk] at h
  simp at h
  have := right_len h.2.1.2
  rw [Path.len_eq] at this
  exact this

theorem carry_size (a f t : ByteArray) : (carryP a f t).1.size ≤ a.size + t.size := by
  unfold carryP
  split
  · unfold moP
    have e : (⟨(Path.moved a.data.toList f.data.toList t.data.toList).toArray⟩ : ByteArray).size = (Path.moved a.data.toList f.data.toList t.data.toList).length := by
      rw [← Path.len_eq]
    rw [e]
    unfold Path.moved
    split
    · rw [List.length_append, List.length_drop]
      rw [Path.len_eq, Path.len_eq, Path.len_eq]
      omega
    · simp
  · simp

/-- What is commuted has the rows that it had. -/
theorem rule_rows (x y : Pr) : (ruleC x y).1.old = y.old ∧ (ruleC x y).1.new = y.new ∧ (ruleC x y).2.1.old = x.old ∧ (ruleC x y).2.1.new = x.new := by
  unfold ruleC changesC linesC changeMoveC moveChangeC
  (repeat' split) <;> exact ⟨rfl, rfl, rfl, rfl⟩

theorem rule_small {x y : Pr} (hx : rightP x = true) (hy : rightP y = true) (sx : SmallP x) (sy : SmallP y) : SmallP (ruleC x y).1 ∧ SmallP (ruleC x y).2.1 := by
  have p1 := right_path hx
  have p2 := right_path hy
  unfold ruleC
  split
  · unfold changesC linesC
    (repeat' split) <;> exact ⟨⟨sy.path, sy.dst, sy.src, sy.old, sy.new⟩, ⟨sx.path, sx.dst, sx.src, sx.old, sx.new⟩⟩
  split
  · rename_i h
    have hk : y.kind = 10 := by rcases cls_cases hy with ⟨e, _⟩ | ⟨e, _⟩ | ⟨_, e⟩ <;> omega
    have d := move_dst hy hk
    have c := carry_size x.path y.path y.dst
    exact ⟨sy, ⟨by show (carryP _ _ _).1.size < _; omega, sx.dst, sx.src, sx.old, sx.new⟩⟩
  split
  · rename_i h
    have hk : x.kind = 10 := by rcases cls_cases hx with ⟨e, _⟩ | ⟨e, _⟩ | ⟨_, e⟩ <;> omega
    have c := carry_size y.path x.dst x.path
    exact ⟨⟨by show (carryP _ _ _).1.size < _; omega, sy.dst, sy.src, sy.old, sy.new⟩, sx⟩
  split
  · exact ⟨sy, sx⟩
  · exact ⟨sy, sx⟩

end Go.Proofs.YtlmgbcfcikdgpaaGreatDoor
