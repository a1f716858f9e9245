/-
  What is proved here: rows of patches of the call's own, and how they grow. No condition but those that are named.
-/
import Derived.Test.YtbiilnhefoplkaaGreatDoorMZCopy14
import Derived.Test.YtbiilnhefoplkaaGreatDoorMZKeys14
namespace Go.Proofs.YtbiilnhefoplkaaGreatDoor
open Go.RowKit Go.Maps Go.WideMaps
set_option maxRecDepth 100000

theorem infoPa : (Tryz.prog.info? 36).map (fun i => (i.zero, i.size, i.bytes)) = some (some (.agg #[.string ⟨#[]⟩, .slice none 0 0, .slice none 0 0]), 3, 64) := by kernel_rfl

def vcell (c : Pv) : List Value := [.string c.x.name, .slice c.pu c.x.deps.length c.cu, .slice c.pb c.x.body.length c.cb]

/-- The cells of patches. -/
def vcells : List Pv → List Value
  | [] => []
  | c :: Z => vcell c ++ vcells Z

theorem vcells_len : ∀ Z : List Pv, (vcells Z).length = Z.length * 3
  | [] => rfl
  | c :: Z => by
    rw [vcells, List.length_append, vcells_len Z, List.length_cons]
    show 3 + _ = _
    omega

theorem vcells_app : ∀ (Z Y : List Pv), vcells (Z ++ Y) = vcells Z ++ vcells Y
  | [], _ => rfl
  | c :: Z, Y => by rw [List.cons_append, vcells, vcells, vcells_app Z Y, List.append_assoc]

theorem vcells_get : ∀ (Z : List Pv) (k : Nat) (c : Pv), Z[k]? = some c → ∀ j, j < 3 → (vcells Z)[k * 3 + j]? = (vcell c)[j]?
  | [], k, c, e, _, _ => by simp at e
  | d :: Z, 0, c, e, j, hj => by
    simp at e
    subst e
    rw [vcells, Nat.zero_mul, Nat.zero_add, List.getElem?_append_left (by show j < 3; exact hj)]
  | d :: Z, k + 1, c, e, j, hj => by
    have := vcells_get Z k c (by simpa using e) j hj
    rw [vcells, List.getElem?_append_right (by show 3 ≤ _; omega), ← this]
    congr 1
    show _ - 3 = _
    omega

theorem vcells_one : ∀ (Z : List Pv), ∀ u ∈ vcells Z, u.oneCell' = true
  | [], u, h => by cases h
  | c :: Z, u, h => by
    rcases List.mem_append.1 h with h | h
    · unfold vcell at h
      simp only [List.mem_cons, List.not_mem_nil, or_false] at h
      rcases h with rfl | rfl | rfl <;> rfl
    · exact vcells_one Z u h

/-- A row of patches of the call's own. -/
structure OwnA (base : Nat) (w : World) (v : Value) (Z : List Pv) : Prop where
  row : w.ownsRow base 36 3 v Z.length (vcells Z)
  stay : ∀ c ∈ Z, ∀ w', Fr (fun k => v.ownBlock = some k) w w' → PvIn w' c

theorem OwnA.nil (base : Nat) (w : World) : OwnA base w (.slice none 0 0) [] := ⟨World.ownsRow_nil w base 36 3, fun c h => by cases h⟩

theorem OwnA.own {base : Nat} {w : World} {v : Value} {Z : List Pv} (h : OwnA base w v Z) {k : Nat} (hk : v.ownBlock = some k) : base ≤ k ∧ k < w.heap.size := by
  rcases h.row.2 with ⟨hv, _⟩ | ⟨g, cap, cur, hv, hb, hh, _⟩
  · rw [hv] at hk; cases hk
  · rw [hv] at hk; cases hk; exact ⟨hb, (Array.getElem?_eq_some_iff.1 hh).1⟩

theorem OwnA.fr {base : Nat} {w w' : World} {v : Value} {Z : List Pv} (h : OwnA base w v Z) (f : Fr None' w w') : OwnA base w' v Z := by
  refine ⟨⟨h.row.1, ?_⟩, fun c hc w2 f2 => h.stay c hc w2 ((f.mono (fun _ e => e.elim)).then f2)⟩
  rcases h.row.2 with h | ⟨g, cap, cur, hv, hb, hh, h⟩
  · exact Or.inl h
  · exact Or.inr ⟨g, cap, cur, hv, hb, f.at hh (fun e => e), h⟩

theorem OwnA.rows {base : Nat} {w : World} {v : Value} {Z : List Pv} (h : OwnA base w v Z) : ∃ va c, v = .slice va Z.length c ∧ (va = none → c = 0) ∧ RowV w va Z := by
  rcases h.row.2 with ⟨hv, h0⟩ | ⟨g, cap, cur, hv, hb, hh, hc, _, hs, ht⟩
  · have e : Z = [] := List.length_eq_zero_iff.1 h0
    subst e
    exact ⟨none, 0, hv, fun _ => rfl, fun k c hk => by simp at hk⟩
  · refine ⟨_, cap, hv, (fun e => by cases e), fun k c hk => ⟨g, 0, rfl, ?_⟩⟩
    have hlt := (List.getElem?_eq_some_iff.1 hk).1
    have key : ∀ j, j < 3 → ∀ u, (vcell c)[j]? = some u → w.cell? ⟨g, k * 3 + j, none⟩ = some u := fun j hj u hu => by
      rw [← vcells_get Z k c hk j hj, ← ht, List.getElem?_take, if_pos (by omega)] at hu
      rw [World.cell?, hh]
      simpa using hu
    rw [Nat.zero_add]
    exact ⟨key 0 (by omega) _ rfl, key 1 (by omega) _ rfl, key 2 (by omega) _ rfl, h.stay c (List.mem_of_getElem? hk) w (Fr.refl _ _)⟩

/-- One patch more. -/
theorem OwnA.push {base : Nat} {w : World} {v : Value} {Z : List Pv} (h : OwnA base w v Z) {b : Nat} {c : Pv} (hb : Box3 w b (.string c.x.name) (.slice c.pu c.x.deps.length c.cu) (.slice c.pb c.x.body.length c.cb)) (hs : ∀ w', Fr (fun k => v.ownBlock = some k) w w' → PvIn w' c) (hn : Z.length ≤ 1000000) (hbase : base ≤ w.heap.size) :
    ∃ v' w', (Builtin.append_ #[22, 22] 22 #[v, .slice (some ⟨b, 0, none⟩) 1 1]).run Tryz.prog w = .ok v' w' ∧ OwnA base w' v' (Z ++ [c]) ∧ Fr (fun k => v.ownBlock = some k) w w' := by
  obtain ⟨i0, hi, hz0, hz1, hz2⟩ := info_parts infoPa
  obtain ⟨c0, c1, c2⟩ := hb.cells
  obtain ⟨v', w', hr, h5, h6, _, h8⟩ := run_append_own_at (P := Tryz.prog) w base 22 22 36 i0 _ 3 64 Tryz.underlying22 hi hz0 hz1 hz2 rfl (by decide) v Z.length _ h.row ⟨b, 0, none⟩ 1 1 (vcell c) rfl (fun j u hj => by
    match j, hj with
    | 0, hj => unfold vcell at hj; simp at hj; subst hj; simpa [Addr.add] using c0
    | 1, hj => unfold vcell at hj; simp at hj; subst hj; simpa [Addr.add] using c1
    | 2, hj => unfold vcell at hj; simp at hj; subst hj; simpa [Addr.add] using c2) (fun u hu => vcells_one [c] u (by rw [vcells, vcells, List.append_nil]; exact hu)) (by unfold maxLen; omega) (by omega) hbase
  have f1 : Fr (fun k => v.ownBlock = some k) w w' := Fr.grown h6 (fun k e => e)
  refine ⟨v', w', hr, ⟨?_, fun d hd w2 f2 => ?_⟩, f1⟩
  · rw [List.length_append, vcells_app]
    exact h5
  · have f : Fr (fun k => v.ownBlock = some k) w w2 := by
      refine f1.trans f2 (fun i e => ?_)
      rcases h8 with h8 | h8
      · rw [h8] at e; exact Or.inl e
      · rw [h8] at e; cases e; exact Or.inr (Nat.le_refl _)
    rcases List.mem_append.1 hd with hd | hd
    · exact h.stay d hd w2 f
    · rw [List.mem_singleton.1 hd]; exact hs w2 f

end Go.Proofs.YtbiilnhefoplkaaGreatDoor
