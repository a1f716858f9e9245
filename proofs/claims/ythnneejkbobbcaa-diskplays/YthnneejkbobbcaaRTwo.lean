/-
  What is proved here: the calls of the program's disk and of the document's, where both lie in one memory. Conditions: as in the texts that this one stands on.
-/
import Derived.Test.YthnneejkbobbcaaRBoth
import Derived.Test.YthnneejkbobbcaaLiveMore
namespace Go.Proofs.Ythnneejkbobbcaa
open Go.RowKit Go.Maps Go.WideMaps
set_option maxRecDepth 100000

/-- In wi lie the program's disk S at p and the document's R at q, both made since w; nothing of w has turned. -/
def Two (w wi : World) (p q : Nat) (S : St) (R : RSt) : Prop :=
  ∃ M N, Disk wi p M S ∧ RDisk wi q N R ∧ Fr None' w wi ∧ (∀ j, M j → w.heap.size ≤ j) ∧ ∀ j, N j → w.heap.size ≤ j

section
variable {w wi wj : World} {p q : Nat} {S : St} {R : RSt}

theorem Two.live (h : Two w wi p q S R) : Live w wi p S := by
  obtain ⟨M, N, h1, h2, h3, h4, h5⟩ := h
  exact ⟨M, h1, h3, h4⟩

theorem Two.fr (h : Two w wi p q S R) : Fr None' w wi := h.live.fr

theorem Two.fresh (h : Two w wi p q S R) (hf : Fr None' wi wj) : Two w wj p q S R := by
  obtain ⟨M, N, h1, h2, h3, h4, h5⟩ := h
  exact ⟨M, N, h1.fresh hf, h2.fresh hf, h3.then hf, h4, h5⟩

theorem Two.does (h : Two w wi p q S R) {k : Nat} (hi : Inv k S) (hk : k ≤ 1000) (o : OpD) (vb vk : Value) (ho : OpVal wi w.heap.size o vb vk) (hb : o.b.length < 200000) :
    Calls Try.prog 9 #[.pointer (some ⟨p, 0, none⟩), .agg #[.int .i64 o.what, .string o.a, .string o.to, vb, .int .i64 o.n, vk]] wi fun e w' => ∃ v, e = .returned (.int .i64 (S.does o v).1) ∧ Two w w' p q (S.does o v).2 R := by
  obtain ⟨M, N, h1, h2, h3, h4, h5⟩ := h
  refine (does_any p w.heap.size M S o vb vk wi h1 (hi.fine hk) h4 ho (h1.used hi hk) (by omega)).mono ?_
  rintro e w' ⟨v, e1, M', a1, a2, a3⟩
  refine ⟨v, e1, M', N, a1, h2.keptD a2 h1.still, h3.trans a2 (fun i e => Or.inr (h4 i e)), fun j hj => ?_, h5⟩
  rcases a3 j hj with e | e
  · exact h4 j e
  · exact Nat.le_trans h3.size e

theorem Rel.small (h : Rel S R) {k : Nat} (hi : Inv k S) (hk : k ≤ 1000) {M : Nat → Prop} (hd : Disk wi p M S) : R.fine ∧ R.Y.length ≤ 100000 ∧ used R.L < 1099511627776 := by
  have hu := hd.used hi hk
  obtain ⟨bf, bs, ca, hd, _⟩ := hd
  have h1 := hd.files.size_le
  have h2 := hd.synced.size_le
  rw [size_toD] at h1 h2
  have h3 := hi.nc
  have h4 := h.F.length
  have h5 := h.Y.length
  have h6 := h.len
  have h7 := hi.a0
  have h8 := hi.a1
  have h9 := hi.f1
  have h10 := h.acts
  refine ⟨⟨by omega, by omega, ?_, ?_, by omega, by omega⟩, by omega, by rw [← h.F.used]; exact hu⟩
  · rcases h.fuse with ⟨_, _, e⟩ | ⟨_, _, e⟩ <;> omega
  · rcases h.fuse with ⟨_, _, e⟩ | ⟨_, _, e⟩ <;> omega

theorem Two.twin {S' : St} (h : Two w wi p q S' R) (hR : R.fine) (hY : R.Y.length ≤ 100000) (hu : used R.L < 1099511627776) (hr0 : 0 ≤ R.room) (hr1 : R.room ≤ 9223372036854775807) (o : OpD) (vb vk : Value) (ho : OpVal wi w.heap.size o vb vk) (hb : o.b.length < 200000) :
    Calls Try.prog 10 #[.pointer (some ⟨q, 0, none⟩), .agg #[.int .i64 o.what, .string o.a, .string o.to, vb, .int .i64 o.n, vk]] wi fun e w' => ∃ v, e = .returned (.int .i64 (R.does o v).1) ∧ Two w w' p q S' (R.does o v).2 := by
  obtain ⟨M, N, h1, h2, h3, h4, h5⟩ := h
  refine (twin_any q w.heap.size N R o vb vk wi h2 hR hY hr0 hr1 h5 ho hu (by omega)).mono ?_
  rintro e w' ⟨v, e1, N', a1, a2, a3⟩
  refine ⟨v, e1, M, N', h1.keptR a2 h2.held, a1, h3.trans a2 (fun i e => Or.inr (h5 i e)), h4, fun j hj => ?_⟩
  rcases a3 j hj with e | e
  · exact h5 j e
  · exact Nat.le_trans h3.size e

theorem Two.rread (h : Two w wi p q S R) (s : ByteArray) (hl : R.L.length ≤ 100000) (hu : used R.L < 1099511627776) :
    Calls Try.prog 12 #[.pointer (some ⟨q, 0, none⟩), .string s] wi fun e w' => ∃ v, e = .returned (.tuple #[v, .int .i64 (R.read s.data.toList).2]) ∧ Bytes w' v (R.read s.data.toList).1 ∧ Fr None' wi w' := by
  obtain ⟨M, N, h1, ⟨vL, vO, vC, h2, _⟩, _⟩ := h
  exact (rread_any q vL vO vC R s wi h2 (by omega) hu).mono fun _ _ ⟨v, e1, hd, hf⟩ => ⟨v, e1, hd.bytes, hf⟩

theorem Two.rused (h : Two w wi p q S R) (hl : R.L.length ≤ 100000) (hu : used R.L < 1099511627776) :
    Calls Try.prog 14 #[.pointer (some ⟨q, 0, none⟩)] wi fun e w' => e = .returned (.int .i64 (used R.L)) ∧ wi = w' := by
  obtain ⟨M, N, h1, ⟨vL, vO, vC, h2, _⟩, _⟩ := h
  exact rused_any q vL vO vC R wi h2 (by omega) hu

theorem Rel.read (h : Rel S R) (k : List UInt8) : S.read k = R.read k := by
  unfold St.read RSt.read
  rw [h.down]
  rcases h.F.get k with ⟨g1, g2⟩ | ⟨t, u, g1, g2, g3⟩
  · rw [g1, g2]
  · rw [g1, g2]; simp only [g3]

/-- The cells of the document's disk that the law reads. -/
theorem Two.cells (h : Two w wi p q S R) : ∃ ra rc la lc, wi.cell? ⟨q, 1, none⟩ = some (.slice la R.L.length lc) ∧ wi.cell? ⟨q, 3, none⟩ = some (.slice ra R.ch.length rc) ∧ wi.cell? ⟨q, 4, none⟩ = some (.int .i64 R.done) ∧ wi.cell? ⟨q, 7, none⟩ = some (.bool R.off) ∧ FilesRes wi (.slice la R.L.length lc) R.L := by
  obtain ⟨M, N, h1, ⟨vL, vO, vC, h2, _⟩, _⟩ := h
  obtain ⟨_, c1, _, c3, c4, _, _, c7, _⟩ := h2.cells
  have hf := h2.files
  obtain ⟨la, lc, rfl⟩ := row_slice h2.files.1
  obtain ⟨ra, rc, rfl⟩ := row_slice h2.row
  exact ⟨ra, rc, la, lc, c1, c3, c4, c7, hf⟩

theorem ne_of_good {L : List FileD} {n : Nat} {T : List Tri} (hg : Good L n) (hb : Built L n T) : NE T := fun t ht => by
  obtain ⟨i, f, h1, h2, h3, _⟩ := hb.only t ht
  rw [h3]
  exact ne_of_right (hg i f h1 h2).1

theorem built_alike {L : List FileD} {n : Nat} {T U : List Tri} (hA : Apart T) (hU : Rising U) (h1 : Built L n T) (h2 : Built L n U) : Alike T U := by
  refine ⟨hA, hU, fun k b => ⟨?_, ?_⟩⟩
  · rintro ⟨t, ht, rfl, rfl⟩
    obtain ⟨i, f, a1, a2, a3, a4⟩ := h1.only t ht
    obtain ⟨u, b1, b2⟩ := h2.has i f a1 a2
    obtain ⟨b3, b4⟩ := get_mem b1
    exact ⟨u, b3, by rw [b4, a3], by rw [b2, a4]⟩
  · rintro ⟨t, ht, rfl, rfl⟩
    obtain ⟨i, f, a1, a2, a3, a4⟩ := h2.only t ht
    obtain ⟨u, b1, b2⟩ := h1.has i f a1 a2
    obtain ⟨b3, b4⟩ := get_mem b1
    exact ⟨u, b3, by rw [b4, a3], by rw [b2, a4]⟩
end
end Go.Proofs.Ythnneejkbobbcaa
