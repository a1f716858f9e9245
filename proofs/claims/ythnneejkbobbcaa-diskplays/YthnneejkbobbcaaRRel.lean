/-
  What is proved here: the program's disk and the document's, as plain data, answer alike and stay alike. No condition.
-/
import Derived.Test.YthnneejkbobbcaaRTwin
namespace Go.Proofs.Ythnneejkbobbcaa
open Go.RowKit Go.Maps Go.WideMaps
set_option maxRecDepth 100000

theorem apart_ins {x : Tri} : ∀ {T : List Tri}, Apart T → (∀ t ∈ T, t.k ≠ x.k) → Apart (ins x T)
  | [], _, _ => by simp [ins, Apart]
  | y :: r, h, hn => by
    obtain ⟨h1, h2⟩ := List.pairwise_cons.1 h
    rw [ins]
    split
    · refine List.pairwise_cons.2 ⟨fun t ht => (hn t ht).symm, h⟩
    · refine List.pairwise_cons.2 ⟨fun t ht => ?_, apart_ins h2 (fun t ht => hn t (List.mem_cons_of_mem _ ht))⟩
      rcases mem_ins.1 ht with rfl | ht
      · exact hn y (List.mem_cons_self ..)
      · exact h1 t ht

theorem apart_put {T : List Tri} (h : Apart T) (x : Tri) : Apart (put T x) :=
  apart_ins (h.filter _) (fun _ ht => (mem_del.1 ht).2)

/-- No name is empty. -/
def NE (T : List Tri) : Prop := ∀ t ∈ T, t.k ≠ []

theorem NE.put {T : List Tri} (h : NE T) {x : Tri} (hx : x.k ≠ []) : NE (put T x) := fun t ht => by
  rcases mem_put.1 ht with rfl | ⟨h1, _⟩
  · exact hx
  · exact h t h1
theorem NE.del {T : List Tri} (h : NE T) (k : List UInt8) : NE (del T k) := fun t ht => h t (mem_del.1 ht).1

/-- The same change. -/
def RelCh (c : Ch) (d : RCh) : Prop :=
  (∃ t, c = Ch.wr t ∧ d.frm.data.toList = [] ∧ d.to.data.toList = t.k ∧ d.b = t.b ∧ t.k ≠ []) ∨
  (∃ a b, c = Ch.mv a b ∧ d.frm.data.toList = a ∧ d.to.data.toList = b ∧ a ≠ [] ∧ b ≠ []) ∨
  ∃ k, c = Ch.rm k ∧ d.frm.data.toList = k ∧ d.to.data.toList = [] ∧ k ≠ []

theorem RelCh.app {c : Ch} {d : RCh} (h : RelCh c d) {T L : List Tri} (hA : Alike T L) (hn : NE T) : Alike (c.app T) (d.app L) ∧ NE (c.app T) := by
  rcases h with ⟨t, rfl, h1, h2, h3, h4⟩ | ⟨a, b, rfl, h1, h2, h3, h4⟩ | ⟨k, rfl, h1, h2, h3⟩
  · refine ⟨?_, hn.put h4⟩
    unfold RCh.app
    rw [if_pos h1]
    exact hA.put (apart_put hA.apart t) h2 h3
  · unfold RCh.app
    rw [if_neg (by rw [h1]; exact h3), h1]
    rcases hA.get a with ⟨g1, g2⟩ | ⟨t, u, g1, g2, g3⟩
    · simp only [Ch.app, g1, g2]
      exact ⟨hA, hn⟩
    · simp only [Ch.app, g1, g2]
      rw [if_neg (by rw [h2]; exact h4), h2]
      exact ⟨(hA.del a).put (apart_put (hA.del a).apart _) rfl g3.symm, (hn.del a).put h4⟩
  · unfold RCh.app
    rw [if_neg (by rw [h1]; exact h3), h1]
    refine ⟨?_, hn.del k⟩
    rcases hA.get k with ⟨g1, g2⟩ | ⟨t, u, g1, g2, g3⟩
    · simp only [g2]
      have e : del T k = T := by
        unfold Go.Proofs.Ythnneejkbobbcaa.del
        refine List.filter_eq_self.2 (fun t ht => ?_)
        have := List.find?_eq_none.1 g1 t ht
        simpa using this
      show Alike (del T k) L
      rw [e]
      exact hA
    · simp only [g2]
      rw [if_pos h2]
      exact hA.del k

/-- The two disks, as plain data. -/
structure Rel (S : St) (R : RSt) : Prop where
  room : S.room = R.room
  r0 : 0 ≤ R.room
  r1 : R.room ≤ 9223372036854775807
  F : Alike S.F R.L
  Y : Alike S.Y R.Y
  neF : NE S.F
  neY : NE S.Y
  len : S.ch.length = R.ch.length
  ch : ∀ (i : Nat) c d, S.ch[i]? = some c → R.ch[i]? = some d → RelCh c d
  acts : S.acts = R.done
  fuse : (S.fuse < 0 ∧ R.fused = false ∧ R.left = 0) ∨ (0 ≤ S.fuse ∧ R.fused = true ∧ R.left = S.fuse)
  down : S.down = R.off

section
variable {S : St} {R : RSt}

theorem Rel.asked (h : Rel S R) : Rel S.asked R.asked := by
  refine ⟨h.room, h.r0, h.r1, h.F, h.Y, h.neF, h.neY, h.len, h.ch, h.acts, h.fuse, ?_⟩
  show (S.down || S.fuse == 0) = (R.off || (R.fused && R.left == 0))
  rw [h.down]
  rcases h.fuse with ⟨h1, h2, _⟩ | ⟨h1, h2, h3⟩
  · have : (S.fuse == 0) = false := by simp; omega
    rw [this, h2]; rfl
  · rw [h2, h3]; rfl

/-- Where the power is on, a fuse has an act left. -/
theorem Rel.on (_ : Rel S R) (hd : S.asked.down = false) : S.fuse ≠ 0 := by
  intro e
  simp [St.asked, e] at hd

theorem Rel.counted (h : Rel S R) (hf : S.fuse ≠ 0) : Rel S.counted R.counted := by
  refine ⟨h.room, h.r0, h.r1, h.F, h.Y, h.neF, h.neY, h.len, h.ch, ?_, ?_, h.down⟩
  · show S.acts + 1 = R.done + 1
    rw [h.acts]
  · show ((if 0 < S.fuse then S.fuse - 1 else S.fuse) < 0 ∧ R.fused = false ∧ (if R.fused then R.left - 1 else R.left) = 0) ∨ (0 ≤ (if 0 < S.fuse then S.fuse - 1 else S.fuse) ∧ R.fused = true ∧ (if R.fused then R.left - 1 else R.left) = (if 0 < S.fuse then S.fuse - 1 else S.fuse))
    rcases h.fuse with ⟨h1, h2, h3⟩ | ⟨h1, h2, h3⟩
    · rw [if_neg (by omega), h2]
      exact Or.inl ⟨h1, rfl, h3⟩
    · rw [if_pos (show 0 < S.fuse by omega), h2, h3]
      exact Or.inr ⟨by omega, rfl, rfl⟩

theorem Rel.did (h : Rel S R) (hf : S.fuse ≠ 0) {c : Ch} {d : RCh} (hc : RelCh c d) : Rel (S.did c) (R.did d) := by
  obtain ⟨h1, h2⟩ := hc.app h.F h.neF
  unfold St.did RSt.did
  refine Rel.counted (S := { S with F := c.app S.F, n := S.n + 1, ch := S.ch ++ [c] }) (R := { R with L := d.app R.L, ch := R.ch ++ [d] }) ⟨h.room, h.r0, h.r1, h1, h.Y, h2, h.neY, ?_, ?_, h.acts, h.fuse, h.down⟩ hf
  · simp [h.len]
  · intro i x y hx hy
    simp only at hx hy
    by_cases hi : i < S.ch.length
    · rw [List.getElem?_append_left hi] at hx
      rw [List.getElem?_append_left (by rw [← h.len]; exact hi)] at hy
      exact h.ch i x y hx hy
    · rw [List.getElem?_append_right (by omega)] at hx
      rw [List.getElem?_append_right (by rw [← h.len]; omega), ← h.len] at hy
      cases hj : i - S.ch.length with
      | zero =>
        rw [hj] at hx hy
        simp at hx hy
        subst hx hy
        exact hc
      | succ j =>
        rw [hj] at hx
        simp at hx

theorem Rel.refuse (h : Rel S R) (k : List UInt8) (n : Nat) : S.refuse k n = R.refuse k n := by
  have hg : (get S.F k = none ↔ get R.L k = none) ∧ lenAt S.F k = lenAt R.L k := by
    unfold lenAt
    rcases h.F.get k with ⟨g1, g2⟩ | ⟨t, u, g1, g2, g3⟩
    · rw [g1, g2]; exact ⟨Iff.rfl, rfl⟩
    · rw [g1, g2]; exact ⟨by simp, by simp [g3]⟩
  unfold St.refuse RSt.refuse
  rw [h.room, h.F.used, h.F.length, hg.2]
  simp only [hg.1]

theorem Rel.some (h : Rel S R) (k : List UInt8) : (get S.F k).isSome = (get R.L k).isSome := by
  rcases h.F.get k with ⟨g1, g2⟩ | ⟨t, u, g1, g2, g3⟩
  · rw [g1, g2]
  · rw [g1, g2]; rfl

theorem ne_of_get {T : List Tri} (h : NE T) {k : List UInt8} (hg : (get T k).isSome = true) : k ≠ [] := by
  obtain ⟨t, ht⟩ := Option.isSome_iff_exists.1 hg
  obtain ⟨h1, h2⟩ := get_mem ht
  rw [← h2]
  exact h t h1

theorem ne_of_right {k : List UInt8} (h : right k = true) : k ≠ [] := by
  rintro rfl
  simp [right] at h

theorem refuse_right {k : List UInt8} {n : Nat} (h : S.refuse k n = 0) : right k = true := by
  unfold St.refuse at h
  cases hr : right k
  · rw [if_pos hr] at h; cases h
  · rfl

theorem Rel.write (h : Rel S R) (s : ByteArray) (v v' : Value) (b : List UInt8) : (S.write ⟨s.data.toList, v, b⟩).1 = (R.write s v' b).1 ∧ Rel (S.write ⟨s.data.toList, v, b⟩).2 (R.write s v' b).2 := by
  have ha := h.asked
  have hd : S.asked.down = R.asked.off := ha.down
  have he : R.refuse s.data.toList b.length = S.asked.refuse s.data.toList b.length := (h.refuse _ _).symm
  unfold St.write RSt.write
  rw [← hd, he]
  cases hdn : S.asked.down
  · by_cases hz : S.asked.refuse s.data.toList b.length = 0
    · simp only [hz, if_pos]
      exact ⟨rfl, ha.did (h.on hdn) (Or.inl ⟨_, rfl, rfl, rfl, rfl, ne_of_right (refuse_right hz)⟩)⟩
    · simp only [hz, if_false]
      exact ⟨rfl, ha⟩
  · exact ⟨rfl, ha⟩

theorem Rel.rename (h : Rel S R) (s s' : ByteArray) : (S.rename s.data.toList s'.data.toList).1 = (R.rename s s').1 ∧ Rel (S.rename s.data.toList s'.data.toList).2 (R.rename s s').2 := by
  have ha := h.asked
  have hd : S.asked.down = R.asked.off := ha.down
  unfold St.rename RSt.rename
  rw [← hd, ← h.some]
  cases hdn : S.asked.down
  · cases hr : right s'.data.toList
    · exact ⟨rfl, ha⟩
    · cases hg : (get S.F s.data.toList).isSome
      · exact ⟨rfl, ha⟩
      · exact ⟨rfl, ha.did (h.on hdn) (Or.inr (Or.inl ⟨_, _, rfl, rfl, rfl, ne_of_get h.neF hg, ne_of_right hr⟩))⟩
  · exact ⟨rfl, ha⟩

theorem Rel.remove (h : Rel S R) (s : ByteArray) : (S.remove s.data.toList).1 = (R.remove s).1 ∧ Rel (S.remove s.data.toList).2 (R.remove s).2 := by
  have ha := h.asked
  have hd : S.asked.down = R.asked.off := ha.down
  unfold St.remove RSt.remove
  rw [← hd, ← h.some]
  cases hdn : S.asked.down
  · cases hg : (get S.F s.data.toList).isSome
    · exact ⟨rfl, ha⟩
    · exact ⟨rfl, ha.did (h.on hdn) (Or.inr (Or.inr ⟨_, rfl, rfl, rfl, ne_of_get h.neF hg⟩))⟩
  · exact ⟨rfl, ha⟩

theorem Rel.sync (h : Rel S R) : S.sync.1 = R.sync.1 ∧ Rel S.sync.2 R.sync.2 := by
  have ha := h.asked
  have hd : S.asked.down = R.asked.off := ha.down
  unfold St.sync RSt.sync
  rw [← hd]
  cases hdn : S.asked.down
  · refine ⟨rfl, Rel.counted (S := S.asked.settled) (R := R.asked.settled) ⟨ha.room, ha.r0, ha.r1, ha.F, ha.F, ha.neF, ha.neF, rfl, fun i c d hc => by simp [St.settled] at hc, ha.acts, ha.fuse, ha.down⟩ (h.on hdn)⟩
  · exact ⟨rfl, ha⟩

theorem Rel.fused (h : Rel S R) (n : Int) : Rel (S.fused n) (R.fuse n) := by
  refine ⟨h.room, h.r0, h.r1, h.F, h.Y, h.neF, h.neY, h.len, h.ch, h.acts, ?_, h.down⟩
  show (max n (-1) < 0 ∧ decide (0 ≤ n) = false ∧ max n 0 = 0) ∨ (0 ≤ max n (-1) ∧ decide (0 ≤ n) = true ∧ max n 0 = max n (-1))
  by_cases hn : 0 ≤ n
  · exact Or.inr ⟨by omega, by simpa using hn, by omega⟩
  · exact Or.inl ⟨by omega, by simpa using hn, by omega⟩

theorem Rel.rep (h : Rel S R) (keep : List Bool) : ∀ k, k ≤ S.ch.length → Alike (rep S.ch keep S.Y k) (rrep R.ch keep R.Y k) ∧ NE (rep S.ch keep S.Y k)
  | 0, _ => ⟨h.Y, h.neY⟩
  | k + 1, hk => by
    obtain ⟨h1, h2⟩ := Rel.rep h keep k (by omega)
    obtain ⟨c, hc⟩ : ∃ c, S.ch[k]? = Option.some c := ⟨S.ch[k]'(by omega), by simp⟩
    have hk' : k < R.ch.length := by rw [← h.len]; omega
    obtain ⟨d, hd⟩ : ∃ d, R.ch[k]? = Option.some d := ⟨R.ch[k], by simp [hk']⟩
    by_cases hb : keep[k]? = Option.some true
    · rw [rep_done hc hb, rrep_done hd hb]
      exact (h.ch k c d hc hd).app h1 h2
    · rw [rep_not hb, rrep_not hb]
      exact ⟨h1, h2⟩

theorem Rel.crash (h : Rel S R) (keep : List Bool) : Rel (S.crash keep) (R.crash keep) := by
  obtain ⟨h1, h2⟩ := h.rep keep S.ch.length (Nat.le_refl _)
  have h1' : Alike (Go.Proofs.Ythnneejkbobbcaa.rep S.ch keep S.Y S.ch.length) (rrep R.ch keep R.Y R.ch.length) := by rw [← h.len]; exact h1
  exact ⟨h.room, h.r0, h.r1, h1', h1', h2, h2, rfl, fun i c d hc => by simp [St.crash] at hc, h.acts, Or.inl ⟨by show (-1 : Int) < 0; decide, rfl, rfl⟩, rfl⟩

/-- A call answers alike, and leaves them alike. -/
theorem Rel.does (h : Rel S R) (o : OpD) (v v' : Value) : (S.does o v).1 = (R.does o v').1 ∧ Rel (S.does o v).2 (R.does o v').2 := by
  unfold St.does RSt.does
  by_cases h0 : o.what = 0 ∨ o.what = 1
  · rw [if_pos h0, if_pos h0]; exact h.write _ _ _ _
  rw [if_neg h0, if_neg h0]
  by_cases h2 : o.what = 2
  · rw [if_pos h2, if_pos h2]; exact h.rename _ _
  rw [if_neg h2, if_neg h2]
  by_cases h3 : o.what = 3
  · rw [if_pos h3, if_pos h3]; exact h.remove _
  rw [if_neg h3, if_neg h3]
  by_cases h4 : o.what = 4
  · rw [if_pos h4, if_pos h4]; exact h.sync
  rw [if_neg h4, if_neg h4]
  by_cases h5 : o.what = 5
  · rw [if_pos h5, if_pos h5]; exact ⟨rfl, h.fused _⟩
  rw [if_neg h5, if_neg h5]
  by_cases h6 : o.what = 6
  · rw [if_pos h6, if_pos h6]; exact ⟨rfl, h.crash _⟩
  rw [if_neg h6, if_neg h6]
  exact ⟨rfl, h⟩
end
end Go.Proofs.Ythnneejkbobbcaa
