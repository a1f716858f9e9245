/-
  What is proved here: what All hands back. Conditions: the patches lie in memory, and are at most 90000, each of at most 900000 lines.
-/
import Derived.Test.YtbnfjjjdnbcehaaGreatDoorQBack9
import Derived.Test.YtbnfjjjdnbcehaaGreatDoorQ2Base
import Derived.Test.YtbnfjjjdnbcehaaGreatDoorQ11RAll9
import Derived.Laws.MakeOwn
namespace Go.Proofs.YtbnfjjjdnbcehaaGreatDoor
open Go.RowKit Go.Shelf
set_option maxRecDepth 100000
attribute [local go_sem] Oper.semAt_some

/-- What All's loop has made. -/
structure AllAt (w : World) (bl b : Nat) (L : List Pr) (U : List (Value × Value)) (pre : List (Nat × Value)) (W : World) : Prop where
  fr : Fr None' w W
  lt : b < W.heap.size
  row : ∃ m v V, m ≤ L.length ∧ pre = uptoB (aggs L U) m ∧ W.heap[bl]? = some (.cells #[v] 22 (0, 0)) ∧ OwnP w.heap.size W v ((L.reverse.take m).map inv) V ∧ ¬ v.ownBlock = some bl ∧ ¬ v.ownBlock = some b ∧ ∀ u ∈ V, ∀ k, (u.1.ownBlock = some k ∨ u.2.ownBlock = some k) → w.heap.size ≤ k ∧ k ≠ bl

theorem StrsAt.abide {base : Nat} {A B : World} {v : Value} {l : List ByteArray} (h : StrsAt A v l) (f : Fr (fun k => None' k ∨ (base ≤ k ∧ NoCells A k)) A B) : StrsAt B v l :=
  h.far f (fun hl k e m => by
    obtain ⟨va, c, rfl, h1, h2, h3⟩ := h
    cases l with
    | nil => exact hl rfl
    | cons x l =>
      obtain ⟨g, o, e', hc⟩ := h3 0 x rfl
      subst e'
      cases e
      rcases m with m | m
      · exact m
      · unfold World.cell? at hc
        split at hc
        · rename_i cs t z hh
          exact m.2 _ _ _ hh
        · cases hc)

theorem OwnP.abide {n0 base : Nat} {A B : World} {v : Value} {L : List Pr} {V : List (Value × Value)} (h : OwnP n0 A v L V) (f : Fr (fun k => None' k ∨ (base ≤ k ∧ NoCells A k)) A B) : OwnP n0 B v L V := by
  refine ⟨h.len, ⟨h.row.1, ?_⟩, fun k x u e1 e2 => ?_⟩
  · rcases h.row.2 with h | ⟨g, cap, cur, hv, hb, hh, h⟩
    · exact Or.inl h
    · exact Or.inr ⟨g, cap, cur, hv, hb, f.at hh (fun e => e.elim (fun e => e) (fun e => e.2 _ _ _ hh)), h⟩
  · obtain ⟨h1, h2, h3, h4⟩ := h.str k x u e1 e2
    exact ⟨h1.abide f, h2.abide f, h3, h4⟩

theorem AllAt.abide {w : World} {bl b base : Nat} {L : List Pr} {U : List (Value × Value)} (hb : w.heap.size ≤ base) : AbideN base None' (AllAt w bl b L U) := fun pre A B h f => by
  obtain ⟨m, v, V, h1, h2, h3, h4, h5, h6, h7⟩ := h.row
  exact ⟨h.fr.trans f (fun i e => e.elim (fun e => e.elim) (fun e => Or.inr (by omega))), Nat.lt_of_lt_of_le h.lt f.size, m, v, V, h1, h2, f.at h3 (fun e => e.elim (fun e => e) (fun e => e.2 _ _ _ h3)), h4.abide f, h5, h6, h7⟩

/-- Behind an append of the patch y0 .. in w5. -/
def Stepd (w W : World) (bl b : Nat) (L : List Pr) (U : List (Value × Value)) (t : Nat) (v : Value) (rn : Nat) (y0 y1 y2 y3 y4 vo vn : Value) (w5 : World) : Prop := ∃ g' cap' w4, (Builtin.append_ #[22, 22] 22 #[v, .slice (some ⟨w5.heap.size, 0, none⟩) 1 1]).run Tryz.prog (w5.alloc (.cells #[y0, y1, y2, y3, y4, vo, vn] 43)) = .ok (.slice (some ⟨g', 0, none⟩) (rn + 1) cap') w4 ∧
      w4.cell? ⟨bl, 0, none⟩ = some v ∧ (∀ o, w4.frozen? ⟨bl, o, none⟩ = false) ∧
      Hid (KeepsOthers W (w4.setCell ⟨bl, 0, none⟩ (.slice (some ⟨g', 0, none⟩) (rn + 1) cap')) ∧ KeepB (fun k => k = b ∨ k < w.heap.size) W (w4.setCell ⟨bl, 0, none⟩ (.slice (some ⟨g', 0, none⟩) (rn + 1) cap')) ∧ AllAt w bl b L U (uptoB (aggs L U) (t + 1)) (w4.setCell ⟨bl, 0, none⟩ (.slice (some ⟨g', 0, none⟩) (rn + 1) cap')))

/-- One patch more is undone. -/
theorem all_step {w W w2 : World} {bl b : Nat} {L : List Pr} {U : List (Value × Value)} {t : Nat} {v : Value} {V : List (Value × Value)} {R : List Pr} {y : Pr} {vo vn : Value}
    (hw : Fr None' w W) (hb : b < W.heap.size) (hbl : bl < b) (hwbl : w.heap.size ≤ bl)
    (hcell : W.heap[bl]? = some (.cells #[v] 22 (0, 0))) (hO : OwnP w.heap.size W v R V) (hR : R ++ [y] = (L.reverse.take (t + 1)).map inv) (hn : R.length ≤ 90000)
    (hv1 : ¬ v.ownBlock = some bl) (hv2 : ¬ v.ownBlock = some b) (hV : ∀ u ∈ V, ∀ k, (u.1.ownBlock = some k ∨ u.2.ownBlock = some k) → w.heap.size ≤ k ∧ k ≠ bl)
    (f2 : Fr None' W w2) (s1 : StrsAt w2 vo y.old) (s2 : StrsAt w2 vn y.new) (g1 : ∀ k, vo.ownBlock = some k → W.heap.size ≤ k) (g2 : ∀ k, vn.ownBlock = some k → W.heap.size ≤ k) (ht : t + 1 ≤ L.length) :
    Stepd w W bl b L U t v R.length (.int .i64 y.kind) (.string y.path) (.string y.dst) (.string y.src) (.int .i64 y.pos) vo vn w2 := by
  obtain ⟨w3, hw3⟩ : ∃ w3, w2.alloc (.cells #[.int .i64 y.kind, .string y.path, .string y.dst, .string y.src, .int .i64 y.pos, vo, vn] 43) = w3 := ⟨_, rfl⟩
  have F3 : Fr None' w2 w3 := hw3 ▸ Fr.alloc None' w2 _
  have B3 : Box w3 w2.heap.size (.int .i64 y.kind) (.string y.path) (.string y.dst) (.string y.src) (.int .i64 y.pos) vo vn := hw3 ▸ Box.new w2 _ _ _ _ _ _ _
  have fW3 : Fr None' W w3 := f2.then7 F3
  have far1 : Far v vo y.old := fun _ k e e' => by have := (hO.ge e').2; have := g1 k e; omega
  have far2 : Far v vn y.new := fun _ k e e' => by have := (hO.ge e').2; have := g2 k e; omega
  obtain ⟨v', w4, hr, hO4, hf, hown⟩ := (hO.kept fW3).push B3 (s1.kept F3) (s2.kept F3) far1 far2 hn (by have := hw.size; have := fW3.size; omega)
  unfold Stepd
  rw [hw3]
  have hs3 := fW3.size
  obtain ⟨g', cap', hv'⟩ : ∃ g' cap', v' = .slice (some ⟨g', 0, none⟩) (R.length + 1) cap' := by
    rcases hO4.row.2 with ⟨_, e⟩ | ⟨g, cap, cur, e, _⟩
    · simp at e
    · exact ⟨g, cap, by rw [e, List.length_append]; rfl⟩
  have f4 : Fr (fun k => v.ownBlock = some k) W w4 := (fW3.any).then hf
  have hc4 : w4.heap[bl]? = some (.cells #[v] 22 (0, 0)) := f4.at hcell hv1
  have hown1 : ¬ v'.ownBlock = some bl := fun e => by
    rcases hown with h | h
    · exact hv1 (h ▸ e)
    · rw [h] at e; cases e; omega
  have hown2 : ¬ v'.ownBlock = some b := fun e => by
    rcases hown with h | h
    · exact hv2 (h ▸ e)
    · rw [h] at e; cases e; omega
  have hV' : ∀ u ∈ V ++ [(vo, vn)], ∀ k, (u.1.ownBlock = some k ∨ u.2.ownBlock = some k) → w.heap.size ≤ k ∧ k ≠ bl := fun u hu k e => by
    rcases List.mem_append.1 hu with hu | hu
    · exact hV u hu k e
    · have hu := List.mem_singleton.1 hu
      subst hu
      have := hw.size
      rcases e with e | e
      · have := g1 k e; omega
      · have := g2 k e; omega
  subst hv'
  have f5 : Fr (fun k => v.ownBlock = some k ∨ k = bl) W (w4.setCell ⟨bl, 0, none⟩ (.slice (some ⟨g', 0, none⟩) (R.length + 1) cap')) := (f4.mono (fun _ e => Or.inl e)).then ((Fr.setQ w4 bl 0 _).mono (fun _ e => Or.inr e))
  have hc5 : (w4.setCell ⟨bl, 0, none⟩ (.slice (some ⟨g', 0, none⟩) (R.length + 1) cap')).heap[bl]? = some (.cells #[.slice (some ⟨g', 0, none⟩) (R.length + 1) cap'] 22 (0, 0)) := by
    have := Go.heap_setCell_same w4 bl 0 _ _ (.slice (some ⟨g', 0, none⟩) (R.length + 1) cap') hc4
    simpa using this
  refine ⟨g', cap', w4, hr, ?_, ?_, ⟨f5.size, fun k o' hk ho => ?_⟩, KeepB.of f5 (fun k hk e => ?_), hw.trans f5 (fun i e => Or.inr ?_), Nat.lt_of_lt_of_le hb f5.size, t + 1, _, _, ht, rfl, hc5, ?_, hown1, hown2, hV'⟩
  · rw [World.cell?, hc4]; rfl
  · intro o
    unfold World.frozen?
    rw [hc4]
    simp
  · refine (f5.block k (Array.getElem?_eq_some_iff.1 hk).1 (fun e => ?_)).trans hk
    rcases e with e | e
    · rcases hO.row.2 with ⟨h1, _⟩ | ⟨g, cap, cur, h1, _, hh, _⟩
      · rw [h1] at e; cases e
      · rw [h1] at e; cases e; rw [hh] at hk; cases hk; cases ho
    · subst e; rw [hcell] at hk; cases hk; cases ho
  · rcases hk with rfl | hk
    · rcases e with e | e
      · exact hv2 e
      · omega
    · rcases e with e | e
      · have := (hO.ge e).1; omega
      · omega
  · rcases e with e | e
    · exact (hO.ge e).1
    · omega
  · rw [← hR]
    exact hO4.fr (Fr.setQ w4 bl 0 _) (fun k e e' => hown1 (e' ▸ e)) (fun u hu k e _ e' => (hV' u hu k e).2 e')

end Go.Proofs.YtbnfjjjdnbcehaaGreatDoor
