/-
  What is proved here: what the document's table of kept lines holds. Conditions: both rows of lines lie in memory, and have at most 400 lines each.
-/
import Derived.Test.YtoophkpmbinmlaaArgs
import Derived.Test.YtoophkpmbinmlaaRep
namespace Go.Proofs.Ytoophkpmbinmlaa
open Go.RowKit
set_option maxRecDepth 100000

/-- n rows of m numbers, each in a block of its own; the block g holds the rows. -/
structure KTab (base : Nat) (w : World) (g n m : Nat) (B : Nat → Nat) (f : Nat → Nat → Int) : Prop where
  cell : ∀ i, i < n → w.cell? ⟨g, i, none⟩ = some (.slice (some ⟨B i, 0, none⟩) m m)
  num : ∀ i, i < n → w.rowIs (B i) 3 m (fun k => .int .i64 (f i k))
  inj : ∀ i j, i < n → j < n → B i = B j → i = j
  far : ∀ i, i < n → base ≤ B i ∧ B i ≠ g
  own : base ≤ g

theorem KTab.congr {base : Nat} {w : World} {g n m : Nat} {B : Nat → Nat} {f f' : Nat → Nat → Int} (h : KTab base w g n m B f) (e : ∀ i k, i < n → k < m → f i k = f' i k) : KTab base w g n m B f' :=
  ⟨h.cell, fun i hi => (h.num i hi).congr (fun k hk => by rw [e i k hi hk]), h.inj, h.far, h.own⟩

theorem KTab.get {base : Nat} {w : World} {g n m : Nat} {B : Nat → Nat} {f : Nat → Nat → Int} (h : KTab base w g n m B f) {i k : Nat} (hi : i < n) (hk : k < m) : w.cell? ⟨B i, k, none⟩ = some (.int .i64 (f i k)) := (h.num i hi).cell hk

theorem KTab.drew {base : Nat} {w : World} {g n m : Nat} {B : Nat → Nat} {f : Nat → Nat → Int} (h : KTab base w g n m B f) : KTab base w.drew g n m B f := ⟨h.cell, h.num, h.inj, h.far, h.own⟩

theorem KTab.fr {base : Nat} {w w' : World} {g n m : Nat} {B : Nat → Nat} {f : Nat → Nat → Int} {M : Nat → Prop} (h : KTab base w g n m B f) (F : Fr M w w') (hg : ¬ M g) (hB : ∀ i, i < n → ¬ M (B i)) : KTab base w' g n m B f :=
  ⟨fun i hi => F.cell (h.cell i hi) hg, fun i hi => F.rowIs (h.num i hi) (hB i hi), h.inj, h.far, h.own⟩

theorem KTab.store {base : Nat} {w : World} {g n m : Nat} {B : Nat → Nat} {f : Nat → Nat → Int} (h : KTab base w g n m B f) {i k : Nat} (hi : i < n) (x : Int) : KTab base (w.setCell ⟨B i, k, none⟩ (.int .i64 x)) g n m B (fun i' k' => if i' = i ∧ k' = k then x else f i' k') := by
  refine ⟨fun j hj => ?_, fun j hj => ?_, h.inj, h.far, h.own⟩
  · exact (Fr.setCell (M := fun k => k = B i) w (a := ⟨B i, k, none⟩) rfl _).cell (h.cell j hj) (fun e => (h.far i hi).2 e.symm)
  · by_cases e : j = i
    · subst e
      refine ((h.num j hj).set k _).congr (fun k' _ => ?_)
      by_cases e2 : k' = k
      · simp [e2]
      · simp [e2]
    · have hne : B j ≠ B i := fun e2 => e (h.inj j i hj hi e2)
      refine ((h.num j hj).setOther (a := ⟨B i, k, none⟩) hne _).congr (fun k' _ => ?_)
      simp [e]

/-- The rows that have been made. -/
def rowsV (m : Nat) (B : Nat → Nat) (i : Nat) : List Value := (List.range i).map (fun j => .slice (some ⟨B j, 0, none⟩) m m)

theorem rowsV_length (m : Nat) (B : Nat → Nat) (i : Nat) : (rowsV m B i).length = i := by simp [rowsV]

theorem rowsV_one (m : Nat) (B : Nat → Nat) (i : Nat) : ∀ u ∈ rowsV m B i, u.oneCell' = true := fun u hu => by
  obtain ⟨z, _, rfl⟩ := List.mem_map.1 hu; rfl

theorem rowsV_get {m : Nat} {B : Nat → Nat} {i j : Nat} (hj : j < i) : (rowsV m B i)[j]? = some (.slice (some ⟨B j, 0, none⟩) m m) := by simp [rowsV, hj]

theorem rowsV_snoc (m : Nat) (B : Nat → Nat) (i b : Nat) : rowsV m (fun j => if j = i then b else B j) (i + 1) = rowsV m B i ++ [.slice (some ⟨b, 0, none⟩) m m] := by
  unfold rowsV
  rw [List.range_succ, List.map_append]
  congr 1
  · refine List.map_congr_left (fun j hj => ?_)
    have : j < i := List.mem_range.1 hj
    simp only
    rw [if_neg (by omega)]
  · simp

/-- i rows of zeros have been made. -/
structure KMade (w0 w : World) (v : Value) (m i : Nat) (B : Nat → Nat) : Prop where
  own : OwnV w0.heap.size w 37 v (rowsV m B i)
  num : ∀ j, j < i → w.rowIs (B j) 3 m (fun _ => .int .i64 0)
  inj : ∀ j k, j < i → k < i → B j = B k → j = k
  far : ∀ j, j < i → w0.heap.size ≤ B j ∧ ¬ Own1 v (B j)
  fr : Fr None' w0 w

theorem KMade.step {w0 w w' : World} {v v' : Value} {m i : Nat} {B : Nat → Nat} (h : KMade w0 w v m i B) (hown : OwnV w0.heap.size w' 37 v' (rowsV m B i ++ [.slice (some ⟨w.heap.size, 0, none⟩) m m]))
    (hf : Fr (Own1 v) ((w.alloc (.cells (madeCells #[.int .i64 0] m) 3)).alloc (.cells #[.slice (some ⟨w.heap.size, 0, none⟩) m m] 37)) w') (ho : v'.ownBlock = v.ownBlock ∨ v'.ownBlock = some ((w.alloc (.cells (madeCells #[.int .i64 0] m) 3)).alloc (.cells #[.slice (some ⟨w.heap.size, 0, none⟩) m m] 37)).heap.size) :
    KMade w0 w' v' m (i + 1) (fun j => if j = i then w.heap.size else B j) := by
  have f2 : Fr None' w ((w.alloc (.cells (madeCells #[.int .i64 0] m) 3)).alloc (.cells #[.slice (some ⟨w.heap.size, 0, none⟩) m m] 37)) := (Fr.alloc None' w _).then (Fr.alloc None' _ _)
  have hs : ((w.alloc (.cells (madeCells #[.int .i64 0] m) 3)).alloc (.cells #[.slice (some ⟨w.heap.size, 0, none⟩) m m] 37)).heap.size = w.heap.size + 2 := by simp
  have hnew : ((w.alloc (.cells (madeCells #[.int .i64 0] m) 3)).alloc (.cells #[.slice (some ⟨w.heap.size, 0, none⟩) m m] 37)).rowIs w.heap.size 3 m (fun _ => .int .i64 0) := (World.rowIs_made w (.int .i64 0) m 3).alloc _
  have hnv : ¬ Own1 v w.heap.size := fun e => by have := (h.own.lt e).2; omega
  have hlt : ∀ j, j < i → B j < w.heap.size := fun j hj => (h.num j hj).lt
  have hb0 := h.fr.size
  refine ⟨by rw [rowsV_snoc]; exact hown, fun j hj => ?_, fun j k hj hk e => ?_, fun j hj => ?_, h.fr.trans (f2.any.then hf) (fun k e => Or.inr (h.own.lt e).1)⟩
  · by_cases e : j = i
    · rw [if_pos e]; exact hf.rowIs hnew hnv
    · rw [if_neg e]
      have hj' : j < i := by omega
      exact hf.rowIs (f2.rowIs (h.num j hj') (fun e => e)) (h.far j hj').2
  · by_cases e1 : j = i <;> by_cases e2 : k = i
    · omega
    · rw [if_pos e1, if_neg e2] at e
      have := hlt k (by omega); omega
    · rw [if_neg e1, if_pos e2] at e
      have := hlt j (by omega); omega
    · rw [if_neg e1, if_neg e2] at e
      exact h.inj j k (by omega) (by omega) e
  · have hn : ∀ b, b < w.heap.size + 2 → ¬ Own1 v b → ¬ Own1 v' b := fun b hb h1 h2 => by
      rcases own_or ho h2 with h3 | h3
      · exact h1 h3
      · rw [hs] at h3; omega
    by_cases e : j = i
    · rw [if_pos e]
      exact ⟨hb0, hn _ (by omega) hnv⟩
    · rw [if_neg e]
      have hj' : j < i := by omega
      have := hlt j hj'
      exact ⟨(h.far j hj').1, hn _ (by omega) (h.far j hj').2⟩

theorem KMade.tab {w0 w : World} {g c m i : Nat} {B : Nat → Nat} (h : KMade w0 w (.slice (some ⟨g, 0, none⟩) i c) m i B) : KTab w0.heap.size w g i m B (fun _ _ => 0) := by
  obtain ⟨va, c', hv, _, _, hr, hx⟩ := h.own.slice
  rw [rowsV_length] at hv
  cases hv
  refine ⟨fun j hj => ?_, h.num, h.inj, fun j hj => ⟨(h.far j hj).1, fun e => (h.far j hj).2 (by rw [e]; rfl)⟩, (hx _ rfl).1⟩
  obtain ⟨g', o', e, hc⟩ := hr j _ (rowsV_get hj)
  cases e
  rw [Nat.zero_add] at hc
  exact hc

/-- What is reckoned: rows behind r, and row r from q on. -/
def kF (a b : List ByteArray) (r q i k : Nat) : Int := if r < i ∨ (i = r ∧ q ≤ k) then (lcs (a.drop i) (b.drop k) : Nat) else 0

theorem kF_start (a b : List ByteArray) (i k : Nat) : (0 : Int) = kF a b a.length 0 i k := by
  unfold kF
  split
  · rw [List.drop_of_length_le (by omega), lcs_nil]; rfl
  · rfl

theorem kF_row (a b : List ByteArray) (r i k : Nat) (hk : k < b.length + 1) : kF a b (r + 1) 0 i k = kF a b r b.length i k := by
  unfold kF
  by_cases h1 : r + 1 ≤ i
  · rw [if_pos (by omega), if_pos (by omega)]
  · rw [if_neg (by omega)]
    split
    · rw [show k = b.length by omega, List.drop_of_length_le (Nat.le_refl _), lcs_nil']; rfl
    · rfl

theorem kF_step (a b : List ByteArray) (r q i k : Nat) : (if i = r ∧ k = q then (lcs (a.drop r) (b.drop q) : Int) else kF a b r (q + 1) i k) = kF a b r q i k := by
  unfold kF
  by_cases h : i = r ∧ k = q
  · rw [if_pos h, if_pos (by omega), h.1, h.2]
  · rw [if_neg h]
    by_cases h2 : r < i ∨ (i = r ∧ q ≤ k)
    · rw [if_pos (by omega), if_pos h2]
    · rw [if_neg (by omega), if_neg h2]

theorem kF_all (a b : List ByteArray) (i k : Nat) : kF a b 0 0 i k = (lcs (a.drop i) (b.drop k) : Nat) := by
  unfold kF
  rw [if_pos (by omega)]

theorem lcs_at {a b : List ByteArray} {r q : Nat} (hr : r < a.length) (hq : q < b.length) : (lcs (a.drop r) (b.drop q) : Nat) = if a[r] = b[q] then max (max (lcs (a.drop (r + 1)) (b.drop q)) (lcs (a.drop r) (b.drop (q + 1)))) (lcs (a.drop (r + 1)) (b.drop (q + 1)) + 1) else max (lcs (a.drop (r + 1)) (b.drop q)) (lcs (a.drop r) (b.drop (q + 1))) := by
  rw [List.drop_eq_getElem_cons hr, List.drop_eq_getElem_cons hq]
  exact lcs_table _ _ _ _

end Go.Proofs.Ytoophkpmbinmlaa
