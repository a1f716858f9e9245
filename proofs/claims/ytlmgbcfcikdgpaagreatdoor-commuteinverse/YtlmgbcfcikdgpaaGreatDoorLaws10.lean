/-
  What is proved here: what the statements ask of two patches the other way about, as plain facts. No condition.
-/
import Derived.Test.YtlmgbcfcikdgpaaGreatDoorPlain10
namespace Go.Proofs.YtlmgbcfcikdgpaaGreatDoor
open Go.RowKit
set_option maxRecDepth 100000

theorem cls_kind {x y : Pr} (h : x.kind = y.kind) : clsP x = clsP y := by unfold clsP; rw [h]

theorem rule_cls (x y : Pr) : clsP (ruleC x y).1 = clsP y ∧ clsP (ruleC x y).2.1 = clsP x := by
  unfold ruleC changesC linesC changeMoveC moveChangeC
  (repeat' split) <;> exact ⟨cls_kind rfl, cls_kind rfl⟩

theorem rule_11 {x y : Pr} (h : clsP x = 1) (k : clsP y = 1) : ruleC x y = changesC x y := by unfold ruleC; simp [h, k]
theorem rule_12 {x y : Pr} (h : clsP x = 1) (k : clsP y = 2) : ruleC x y = changeMoveC x y := by unfold ruleC; simp [h, k]
theorem rule_21 {x y : Pr} (h : clsP x = 2) (k : clsP y = 1) : ruleC x y = moveChangeC x y := by unfold ruleC; simp [h, k]
theorem rule_un {x y : Pr} (h : clsP x = 1 ∧ clsP y = 0 ∨ clsP x = 0 ∧ clsP y = 1) : ruleC x y = (y, x, decide (¬ x.path = y.path)) := by unfold ruleC; rcases h with ⟨h, k⟩ | ⟨h, k⟩ <;> simp [h, k]
theorem rule_ap {x y : Pr} (h : clsP x = 0 ∨ clsP x = 2) (k : clsP y = 0 ∨ clsP y = 2) : ruleC x y = (y, x, apartP x y) := by unfold ruleC; rcases h with h | h <;> rcases k with k | k <;> simp [h, k]

theorem lines_back {x y : Pr} (h : (linesC x y).2.2 = true) : linesC (linesC x y).1 (linesC x y).2.1 = (x, y, true) := by
  obtain ⟨xK, xP, xT, xF, xA, xO, xN⟩ := x
  obtain ⟨yK, yP, yT, yF, yA, yO, yN⟩ := y
  unfold linesC at h ⊢
  simp only at h ⊢
  by_cases h1 : xA + xN.length < yA
  · rw [if_pos h1]
    simp only
    have e : yA + ((xO.length : Int) - xN.length) + ((xN.length : Int) - xO.length) = yA := by omega
    rw [if_neg (by omega), if_pos (by omega), e]
  · rw [if_neg h1] at h ⊢
    by_cases h2 : yA + yO.length < xA
    · rw [if_pos h2]
      simp only
      have e : xA + ((yN.length : Int) - yO.length) + ((yO.length : Int) - yN.length) = xA := by omega
      rw [if_pos (by omega), e]
    · rw [if_neg h2] at h
      simp at h

theorem lines_kp (x y : Pr) : (linesC x y).1.path = y.path ∧ (linesC x y).1.kind = y.kind ∧ (linesC x y).2.1.path = x.path ∧ (linesC x y).2.1.kind = x.kind := by
  unfold linesC
  (repeat' split) <;> exact ⟨rfl, rfl, rfl, rfl⟩

theorem changes_back {x y : Pr} (h : (changesC x y).2.2 = true) : changesC (changesC x y).1 (changesC x y).2.1 = (x, y, true) := by
  by_cases hp : x.path = y.path
  · by_cases hk : x.kind = 7 ∧ y.kind = 7
    · have e : changesC x y = linesC x y := by unfold changesC; rw [if_pos hp, if_pos hk]
      rw [e] at h ⊢
      obtain ⟨e1, e2, e3, e4⟩ := lines_kp x y
      have e' : changesC (linesC x y).1 (linesC x y).2.1 = linesC (linesC x y).1 (linesC x y).2.1 := by
        unfold changesC
        rw [if_pos (by rw [e1, e3, hp]), if_pos ⟨by rw [e2, hk.2], by rw [e4, hk.1]⟩]
      rw [e']
      exact lines_back h
    · unfold changesC at h
      rw [if_pos hp, if_neg hk] at h
      simp at h
  · unfold changesC
    rw [if_neg hp]
    simp only
    rw [if_neg (fun e => hp e.symm)]

/-- What was commuted is commuted back. -/
theorem rule_back {x y : Pr} (hx : rightP x = true) (hy : rightP y = true) (h : (ruleC x y).2.2 = true) : ruleC (ruleC x y).1 (ruleC x y).2.1 = (x, y, true) := by
  obtain ⟨k1, k2⟩ := rule_cls x y
  rcases cls_cases hx with ⟨c, _⟩ | ⟨c, _⟩ | ⟨c, _⟩ <;> rcases cls_cases hy with ⟨d, _⟩ | ⟨d, _⟩ | ⟨d, _⟩
  · rw [rule_ap (Or.inl c) (Or.inl d)] at h ⊢
    rw [rule_ap (Or.inl d) (Or.inl c), apartP_comm]
    simp only at h
    rw [h]
  · rw [rule_un (Or.inr ⟨c, d⟩)] at h ⊢
    rw [rule_un (Or.inl ⟨d, c⟩)]
    simp only [decide_eq_true_eq] at h
    rw [decide_eq_true (show ¬ y.path = x.path from fun e => h e.symm)]
  · rw [rule_ap (Or.inl c) (Or.inr d)] at h ⊢
    rw [rule_ap (Or.inr d) (Or.inl c), apartP_comm]
    simp only at h
    rw [h]
  · rw [rule_un (Or.inl ⟨c, d⟩)] at h ⊢
    rw [rule_un (Or.inr ⟨d, c⟩)]
    simp only [decide_eq_true_eq] at h
    rw [decide_eq_true (show ¬ y.path = x.path from fun e => h e.symm)]
  · rw [rule_11 (k1.trans d) (k2.trans c)]
    rw [rule_11 c d] at h ⊢
    exact changes_back h
  · rw [rule_21 (k1.trans d) (k2.trans c)]
    rw [rule_12 c d] at h ⊢
    unfold changeMoveC at h ⊢
    unfold moveChangeC
    simp only at h ⊢
    rw [carry_back h]
  · rw [rule_ap (Or.inr c) (Or.inl d)] at h ⊢
    rw [rule_ap (Or.inl d) (Or.inr c), apartP_comm]
    simp only at h
    rw [h]
  · rw [rule_12 (k1.trans d) (k2.trans c)]
    rw [rule_21 c d] at h ⊢
    unfold moveChangeC at h ⊢
    unfold changeMoveC
    simp only at h ⊢
    rw [carry_back h]
  · rw [rule_ap (Or.inr c) (Or.inr d)] at h ⊢
    rw [rule_ap (Or.inr d) (Or.inr c), apartP_comm]
    simp only at h
    rw [h]

theorem comm_back {x y : Pr} (h : (commP x y).2.2 = true) : rightP (commP x y).1 = true ∧ rightP (commP x y).2.1 = true ∧ commP (commP x y).1 (commP x y).2.1 = (x, y, true) := by
  obtain ⟨hx, hy, e, h1, h2, h3⟩ := commP_yes h
  rw [e]
  have hb := rule_back hx hy h1
  refine ⟨h2, h3, ?_⟩
  rw [commP_of h2 h3 (by rw [hb]) (by rw [hb]; exact hx) (by rw [hb]; exact hy), hb]

theorem apP_self (a : ByteArray) : apP a a = false := Path.apart_self _

/-- A patch is never commuted with itself. -/
theorem comm_self {x : Pr} : (commP x x).2.2 = false := by
  cases hc : (commP x x).2.2 with
  | false => rfl
  | true =>
    obtain ⟨hx, _, e, h1, _, _⟩ := commP_yes hc
    exfalso
    rcases cls_cases hx with ⟨c, _⟩ | ⟨c, _⟩ | ⟨c, _⟩
    · rw [rule_ap (Or.inl c) (Or.inl c)] at h1
      simp only at h1
      unfold apartP placesP at h1
      split at h1 <;> simp [apP_self] at h1
    · rw [rule_11 c c] at h1
      unfold changesC linesC at h1
      rw [if_pos rfl] at h1
      split at h1
      · rw [if_neg (by omega), if_neg (by omega)] at h1
        simp at h1
      · simp at h1
    · rw [rule_ap (Or.inr c) (Or.inr c)] at h1
      simp only at h1
      unfold apartP placesP at h1
      split at h1 <;> simp [apP_self] at h1

theorem apP_wi {a b : ByteArray} (h : apP a b = true) : wiP a b = false ∧ wiP b a = false := by
  unfold apP Path.apart at h
  simp at h
  exact h

theorem apP_ne {a b : ByteArray} (h : apP a b = true) : ¬ a = b := fun e => by
  subst e
  rw [apP_self] at h
  cases h

theorem apart_path {x y : Pr} (h : apartP x y = true) : apP x.path y.path = true := by
  unfold apartP placesP at h
  split at h <;> split at h <;> simp at h <;> simp [h]

theorem carry_far {a f t : ByteArray} (h : apP a f = true) (k : apP a t = true) : carryP a f t = (a, true) := by
  unfold carryP
  rw [(apP_wi h).1, (apP_wi k).1]
  rfl

/-- Patches whose paths are apart are commuted as they are. -/
theorem comm_apart {x y : Pr} (hx : rightP x = true) (hy : rightP y = true) (h : apartP x y = true) : commP x y = (y, x, true) := by
  have e : ruleC x y = (y, x, true) := by
    have hn := apP_ne (apart_path h)
    rcases cls_cases hx with ⟨c, _⟩ | ⟨c, _⟩ | ⟨c, c'⟩ <;> rcases cls_cases hy with ⟨d, _⟩ | ⟨d, _⟩ | ⟨d, d'⟩
    · rw [rule_ap (Or.inl c) (Or.inl d), h]
    · rw [rule_un (Or.inr ⟨c, d⟩), decide_eq_true hn]
    · rw [rule_ap (Or.inl c) (Or.inr d), h]
    · rw [rule_un (Or.inl ⟨c, d⟩), decide_eq_true hn]
    · rw [rule_11 c d]
      unfold changesC
      rw [if_neg hn]
    · rw [rule_12 c d]
      unfold changeMoveC
      have k : apP x.path y.path = true ∧ apP x.path y.dst = true := by
        unfold apartP placesP at h
        rw [if_pos d'] at h
        split at h <;> simp at h <;> simp [h]
      rw [carry_far k.1 k.2]
    · rw [rule_ap (Or.inr c) (Or.inl d), h]
    · rw [rule_21 c d]
      unfold moveChangeC
      have k : apP x.path y.path = true ∧ apP x.dst y.path = true := by
        unfold apartP placesP at h
        rw [if_pos c'] at h
        split at h <;> simp at h <;> simp [h]
      rw [carry_far (by rw [apP_comm]; exact k.2) (by rw [apP_comm]; exact k.1)]
    · rw [rule_ap (Or.inr c) (Or.inr d), h]
  rw [commP_of hx hy (by rw [e]) (by rw [e]; exact hy) (by rw [e]; exact hx), e]

theorem inv_path {x : Pr} (h : clsP x = 0 ∨ clsP x = 1) (hr : rightP x = true) : (inv x).path = x.path ∧ clsP (inv x) = clsP x := by
  obtain ⟨K, P, T, F, A, lO, lN⟩ := x
  unfold rightP at hr
  simp only [Bool.and_eq_true, decide_eq_true_eq] at hr
  rcases kinds10 hr.1.1 with rfl | rfl | rfl | rfl | rfl | rfl | rfl | rfl | rfl | rfl <;> simp [clsP] at h <;> simp [inv, clsP]

theorem inv_move {x : Pr} (h : x.kind = 10) : (inv x).path = x.dst ∧ (inv x).dst = x.path ∧ (inv x).kind = 10 ∧ clsP (inv x) = 2 := by
  obtain ⟨K, P, T, F, A, lO, lN⟩ := x
  simp only at h
  subst h
  simp [inv, clsP]

theorem inv_cls {x : Pr} (hr : rightP x = true) : clsP (inv x) = clsP x := by
  rcases cls_cases hr with ⟨c, _⟩ | ⟨c, _⟩ | ⟨c, c'⟩
  · exact (inv_path (Or.inl c) hr).2
  · exact (inv_path (Or.inr c) hr).2
  · rw [(inv_move c').2.2.2, c]

theorem inv_at {x : Pr} (h : clsP x = 1) (hr : rightP x = true) (p : ByteArray) : inv { x with path := p } = { inv x with path := p } := by
  obtain ⟨K, P, T, F, A, lO, lN⟩ := x
  unfold rightP at hr
  simp only [Bool.and_eq_true, decide_eq_true_eq] at hr
  rcases kinds10 hr.1.1 with rfl | rfl | rfl | rfl | rfl | rfl | rfl | rfl | rfl | rfl <;> simp [clsP] at h <;> simp [inv]

theorem inv_places {x : Pr} (hr : rightP x = true) : placesP (inv x) = placesP x ∨ x.kind = 10 ∧ placesP (inv x) = [x.dst, x.path] ∧ placesP x = [x.path, x.dst] := by
  rcases cls_cases hr with ⟨c, c1, c2⟩ | ⟨c, c1, c2⟩ | ⟨c, c'⟩
  · refine Or.inl ?_
    have hk := inv_cls hr
    rw [c] at hk
    have : ¬ (inv x).kind = 10 := fun e => by unfold clsP at hk; rw [e] at hk; simp at hk
    unfold placesP
    rw [if_neg this, if_neg (by omega), (inv_path (Or.inl c) hr).1]
  · refine Or.inl ?_
    have hk := inv_cls hr
    rw [c] at hk
    have : ¬ (inv x).kind = 10 := fun e => by unfold clsP at hk; rw [e] at hk; simp at hk
    unfold placesP
    rw [if_neg this, if_neg (by omega), (inv_path (Or.inr c) hr).1]
  · refine Or.inr ⟨c', ?_, ?_⟩
    · obtain ⟨e1, e2, e3, _⟩ := inv_move c'
      unfold placesP
      rw [if_pos e3, e1, e2]
    · unfold placesP
      rw [if_pos c']

theorem inv_apart {x y : Pr} (hx : rightP x = true) (hy : rightP y = true) : apartP (inv x) (inv y) = apartP x y := by
  unfold apartP
  rcases inv_places hx with e | ⟨_, e, e'⟩ <;> rcases inv_places hy with f | ⟨_, f, f'⟩
  · rw [e, f]
  · rw [e, f, f']
    congr 1
    funext a
    simp [Bool.and_comm]
  · rw [e, e', f]
    simp [Bool.and_comm]
  · rw [e, e', f, f']
    simp only [List.all_cons, List.all_nil, Bool.and_true]
    ac_rfl

theorem inv_lines {x : Pr} (h : x.kind = 7) : inv x = { x with old := x.new, new := x.old } := by
  obtain ⟨K, P, T, F, A, lO, lN⟩ := x
  simp only at h
  subst h
  simp [inv]

theorem lines_inv {x y : Pr} (hx : x.kind = 7) (hy : y.kind = 7) (h : (linesC x y).2.2 = true) : linesC (inv (linesC x y).2.1) (inv (linesC x y).1) = (inv y, inv x, true) := by
  obtain ⟨e1, e2, e3, e4⟩ := lines_kp x y
  rw [inv_lines (e4.trans hx), inv_lines (e2.trans hy), inv_lines hx, inv_lines hy]
  clear e1 e2 e3 e4
  obtain ⟨xK, xP, xT, xF, xA, xO, xN⟩ := x
  obtain ⟨yK, yP, yT, yF, yA, yO, yN⟩ := y
  unfold linesC at h ⊢
  simp only at h ⊢
  by_cases h1 : xA + xN.length < yA
  · rw [if_pos h1]
    simp only
    have e : yA + ((xO.length : Int) - xN.length) + ((xN.length : Int) - xO.length) = yA := by omega
    rw [if_pos (by omega), e]
  · rw [if_neg h1] at h ⊢
    by_cases h2 : yA + yO.length < xA
    · rw [if_pos h2]
      simp only
      have e : xA + ((yN.length : Int) - yO.length) + ((yO.length : Int) - yN.length) = xA := by omega
      rw [if_neg (by omega), if_pos (by omega), e]
    · rw [if_neg h2] at h
      simp at h

/-- What undoes two patches that can be commuted can be, too. -/
theorem rule_inv {x y : Pr} (hx : rightP x = true) (hy : rightP y = true) (h : (ruleC x y).2.2 = true) (h1 : rightP (ruleC x y).1 = true) (h2 : rightP (ruleC x y).2.1 = true) : ruleC (inv (ruleC x y).2.1) (inv (ruleC x y).1) = (inv y, inv x, true) := by
  obtain ⟨k1, k2⟩ := rule_cls x y
  have i1 := (inv_cls h1).trans k1
  have i2 := (inv_cls h2).trans k2
  rcases cls_cases hx with ⟨c, _⟩ | ⟨c, _⟩ | ⟨c, c'⟩ <;> rcases cls_cases hy with ⟨d, _⟩ | ⟨d, _⟩ | ⟨d, d'⟩
  · rw [rule_ap (Or.inl (i2.trans c)) (Or.inl (i1.trans d))]
    rw [rule_ap (Or.inl c) (Or.inl d)] at h ⊢
    simp only at h ⊢
    rw [inv_apart hx hy, h]
  · rw [rule_un (Or.inr ⟨i2.trans c, i1.trans d⟩)]
    rw [rule_un (Or.inr ⟨c, d⟩)] at h ⊢
    simp only [decide_eq_true_eq] at h
    simp only
    rw [(inv_path (Or.inl c) hx).1, (inv_path (Or.inr d) hy).1, decide_eq_true h]
  · rw [rule_ap (Or.inl (i2.trans c)) (Or.inr (i1.trans d))]
    rw [rule_ap (Or.inl c) (Or.inr d)] at h ⊢
    simp only at h ⊢
    rw [inv_apart hx hy, h]
  · rw [rule_un (Or.inl ⟨i2.trans c, i1.trans d⟩)]
    rw [rule_un (Or.inl ⟨c, d⟩)] at h ⊢
    simp only [decide_eq_true_eq] at h
    simp only
    rw [(inv_path (Or.inr c) hx).1, (inv_path (Or.inl d) hy).1, decide_eq_true h]
  · rw [rule_11 (i2.trans c) (i1.trans d)]
    rw [rule_11 c d] at h h1 h2 ⊢
    by_cases hp : x.path = y.path
    · by_cases hk : x.kind = 7 ∧ y.kind = 7
      · have e : changesC x y = linesC x y := by unfold changesC; rw [if_pos hp, if_pos hk]
        rw [e] at h h1 h2 ⊢
        obtain ⟨e1, e2, e3, e4⟩ := lines_kp x y
        have e' : changesC (inv (linesC x y).2.1) (inv (linesC x y).1) = linesC (inv (linesC x y).2.1) (inv (linesC x y).1) := by
          unfold changesC
          rw [inv_lines (e4.trans hk.1), inv_lines (e2.trans hk.2)]
          rw [if_pos (by simp only; rw [e1, e3, hp]), if_pos ⟨by simp only; rw [e4, hk.1], by simp only; rw [e2, hk.2]⟩]
        rw [e']
        exact lines_inv hk.1 hk.2 h
      · unfold changesC at h
        rw [if_pos hp, if_neg hk] at h
        simp at h
    · have e : changesC x y = (y, x, true) := by unfold changesC; rw [if_neg hp]
      rw [e]
      unfold changesC
      simp only
      rw [if_neg (by rw [(inv_path (Or.inr c) hx).1, (inv_path (Or.inr d) hy).1]; exact hp)]
  · rw [rule_12 (i2.trans c) (i1.trans d)]
    rw [rule_12 c d] at h ⊢
    unfold changeMoveC at h ⊢
    simp only at h ⊢
    obtain ⟨m1, m2, _, _⟩ := inv_move d'
    rw [inv_at c hx, m1, m2]
    simp only
    rw [carry_back h]
    have hq := (inv_path (Or.inr c) hx).1
    rw [← hq]
  · rw [rule_ap (Or.inr (i2.trans c)) (Or.inl (i1.trans d))]
    rw [rule_ap (Or.inr c) (Or.inl d)] at h ⊢
    simp only at h ⊢
    rw [inv_apart hx hy, h]
  · rw [rule_21 (i2.trans c) (i1.trans d)]
    rw [rule_21 c d] at h ⊢
    unfold moveChangeC at h ⊢
    simp only at h ⊢
    obtain ⟨m1, m2, _, _⟩ := inv_move c'
    rw [inv_at d hy, m1, m2]
    simp only
    rw [carry_back h]
    have hq := (inv_path (Or.inr d) hy).1
    rw [← hq]
  · rw [rule_ap (Or.inr (i2.trans c)) (Or.inr (i1.trans d))]
    rw [rule_ap (Or.inr c) (Or.inr d)] at h ⊢
    simp only at h ⊢
    rw [inv_apart hx hy, h]

theorem comm_inv {x y : Pr} (h : (commP x y).2.2 = true) : commP (inv (commP x y).2.1) (inv (commP x y).1) = (inv y, inv x, true) := by
  obtain ⟨hx, hy, e, h1, h2, h3⟩ := commP_yes h
  rw [e]
  have hb := rule_inv hx hy h1 h2 h3
  rw [commP_of (right_inv h3) (right_inv h2) (by rw [hb]) (by rw [hb]; exact right_inv hy) (by rw [hb]; exact right_inv hx), hb]

theorem past_no {p : Pr} {l : List Pr} (h : (pastP p l).2.2 = false) : pastP p l = ([], zeroP, false) := by
  cases l with
  | nil => simp [pastP] at h
  | cons q l =>
    simp only [pastP] at h ⊢
    split
    · rename_i hc
      rw [if_pos hc] at h
      split
      · rename_i ht
        rw [if_pos ht] at h
        simp at h
      · rfl
    · rfl

/-- A patch passes two rows one behind the other. -/
theorem past_append : ∀ (a b : List Pr) (p : Pr), pastP p (a ++ b) = if (pastP p a).2.2 then (if (pastP (pastP p a).2.1 b).2.2 then ((pastP p a).1 ++ (pastP (pastP p a).2.1 b).1, (pastP (pastP p a).2.1 b).2.1, true) else ([], zeroP, false)) else ([], zeroP, false)
  | [], b, p => by
    show pastP p b = if true = true then (if (pastP p b).2.2 = true then ((pastP p b).1, (pastP p b).2.1, true) else ([], zeroP, false)) else ([], zeroP, false)
    rw [if_pos rfl]
    by_cases h : (pastP p b).2.2 = true
    · rw [if_pos h, ← h]
    · rw [if_neg h]
      exact past_no (by simpa using h)
  | q :: a, b, p => by
    simp only [List.cons_append, pastP]
    by_cases hc : (commP p q).2.2 = true
    · rw [if_pos hc, if_pos hc, past_append a b (commP p q).2.1]
      by_cases ha : (pastP (commP p q).2.1 a).2.2 = true
      · rw [if_pos ha, if_pos ha]
        simp only [if_true]
        by_cases hb : (pastP (pastP (commP p q).2.1 a).2.1 b).2.2 = true
        · rw [if_pos hb, if_pos hb]
          rfl
        · rw [if_neg hb, if_neg hb]
          rfl
      · rw [if_neg ha, if_neg ha]
        rfl
    · rw [if_neg hc, if_neg hc]
      rfl

end Go.Proofs.YtlmgbcfcikdgpaaGreatDoor
