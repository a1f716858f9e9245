/-
  What is proved here: what any crash leaves of a root that is being set, as plain data. No condition but those that are named.
-/
import Derived.Test.YtklefjmihapdpaaHead3
namespace Go.Proofs.Ytklefjmihapdpaa
open Go.RowKit Go.Maps Go.WideMaps
set_option maxRecDepth 100000

/-- Whatever a crash keeps, what is left is P; so is what is there. -/
def Reps (P : List Tri → Prop) (S : St) : Prop := P S.F ∧ ∀ keep i, P (rep S.ch keep S.Y i)

theorem rep_succ (ch : List Ch) (keep : List Bool) (Y : List Tri) (i : Nat) : rep ch keep Y (i + 1) = match ch[i]?, keep[i]? with | some c, some true => c.app (rep ch keep Y i) | _, _ => rep ch keep Y i := rfl

theorem rep_nil (keep : List Bool) (Y : List Tri) : ∀ i, rep [] keep Y i = Y
  | 0 => rfl
  | i + 1 => by
    unfold rep
    simp [rep_nil keep Y i]

theorem rep_snoc (ch : List Ch) (c : Ch) (keep : List Bool) (Y : List Tri) : ∀ i, i ≤ ch.length → rep (ch ++ [c]) keep Y i = rep ch keep Y i
  | 0, _ => rfl
  | i + 1, h => by
    unfold rep
    rw [rep_snoc ch c keep Y i (by omega), List.getElem?_append_left (by omega)]

theorem rep_last (ch : List Ch) (c : Ch) (keep : List Bool) (Y : List Tri) : ∀ i, ch.length < i → rep (ch ++ [c]) keep Y i = rep ch keep Y ch.length ∨ rep (ch ++ [c]) keep Y i = c.app (rep ch keep Y ch.length)
  | 0, h => by omega
  | i + 1, h => by
    by_cases hi : i = ch.length
    · subst hi
      rw [rep_succ (ch ++ [c]), rep_snoc ch c keep Y ch.length (Nat.le_refl _), List.getElem?_append_right (Nat.le_refl _)]
      simp only [Nat.sub_self, List.getElem?_cons_zero]
      split
      · rename_i h1 h2 h3
        cases h2
        exact Or.inr rfl
      · exact Or.inl rfl
    · have ih := rep_last ch c keep Y i (by omega)
      have e : (ch ++ [c])[i]? = none := List.getElem?_eq_none (by simp; omega)
      rw [rep_succ (ch ++ [c]), e]
      exact ih

theorem Reps.mono {P P' : List Tri → Prop} {S : St} (h : Reps P S) (hp : ∀ R, P R → P' R) : Reps P' S := ⟨hp _ h.1, fun k i => hp _ (h.2 k i)⟩
theorem Reps.asked {P : List Tri → Prop} {S : St} (h : Reps P S) : Reps P S.asked := h
theorem Reps.fused {P : List Tri → Prop} {S : St} (h : Reps P S) (n : Int) : Reps P { S with fuse := n } := h

theorem Reps.did {P P' : List Tri → Prop} {S : St} {c : Ch} (h : Reps P S) (h1 : ∀ R, P R → P' R) (h2 : ∀ R, P R → P' (c.app R)) : Reps P' (S.did c) := by
  refine ⟨h2 _ h.1, fun keep i => ?_⟩
  show P' (rep (S.ch ++ [c]) keep S.Y i)
  by_cases hi : i ≤ S.ch.length
  · rw [rep_snoc _ _ _ _ i hi]
    exact h1 _ (h.2 keep i)
  · rcases rep_last S.ch c keep S.Y i (by omega) with e | e
    · rw [e]; exact h1 _ (h.2 keep _)
    · rw [e]; exact h2 _ (h.2 keep _)

theorem Reps.settled {P : List Tri → Prop} {S : St} (h : P S.F) : Reps P S.settled.counted := by
  refine ⟨h, fun keep i => ?_⟩
  show P (rep [] keep S.F i)
  rw [rep_nil]
  exact h

theorem Reps.crash {P : List Tri → Prop} {S : St} (h : Reps P S) (keep : List Bool) : P (S.crash keep).F := h.2 keep _

/-- The name k has the bytes b; the root is x, whose file has the bytes b. -/
def Has (k b : List UInt8) (F : List Tri) : Prop := ∃ t, get F k = some t ∧ t.b = b
def RootIs (x b : List UInt8) (F : List Tri) : Prop := Has rootK x F ∧ Has (fileK x) b F

theorem Has.put {k b : List UInt8} {F : List Tri} (h : Has k b F) {t : Tri} (hk : k ≠ t.k) : Has k b (put F t) := by
  obtain ⟨t', h1, h2⟩ := h
  exact ⟨t', by rw [get_put_other hk]; exact h1, h2⟩

theorem RootIs.put {x b : List UInt8} {F : List Tri} (h : RootIs x b F) {t : Tri} (h1 : rootK ≠ t.k) (h2 : fileK x ≠ t.k) : RootIs x b (put F t) := ⟨h.1.put h1, h.2.put h2⟩

theorem read_none {S : St} {k : List UInt8} (h : (S.read k).2 = 12) : get S.F k = none := by
  unfold St.read at h
  split at h
  · simp at h
  · split at h
    · assumption
    · simp at h

theorem read_some {S : St} {k : List UInt8} (h : (S.read k).2 = 0) : Has k (S.read k).1 S.F := by
  unfold St.read at h ⊢
  split at h
  · simp at h
  · rename_i hd
    rw [if_neg hd]
    split at h
    · simp at h
    · rename_i t ht
      exact ⟨t, ht, rfl⟩

/-- A write of a file that was not there leaves the root. -/
theorem Reps.write {x old : List UInt8} {S : St} (h : Reps (RootIs x old) S) (t : Tri) (h1 : rootK ≠ t.k) (h2 : fileK x ≠ t.k) : Reps (RootIs x old) (S.write t).2 := by
  unfold St.write
  split
  · exact h.asked
  · split
    · exact Reps.did (c := Ch.wr t) h.asked (fun _ e => e) (fun R hR => RootIs.put hR h1 h2)
    · exact h.asked

theorem Reps.put {x old : List UInt8} {S : St} (h : Reps (RootIs x old) S) (b : List UInt8) (v : Value) : Reps (RootIs x old) (S.put b v).2.2 := by
  unfold St.put
  split
  · split <;> exact h
  · split
    · rename_i h12
      have hg := read_none h12
      have hne : fileK x ≠ fileK (nm b) := fun e => by
        obtain ⟨_, t, ht, _⟩ := h.1
        rw [e, hg] at ht
        cases ht
      have hw := h.write ⟨fileK (nm b), v, b⟩ (Ne.symm (file_ne_root _)) hne
      split <;> exact hw
    · exact h

/-- Put that answers OK has the bytes be there. -/
theorem put_has {S : St} {b : List UInt8} {v : Value} (h : (S.put b v).2.1 = 0) : (S.put b v).1 = nm b ∧ Has (fileK (nm b)) b (S.put b v).2.2.F := by
  unfold St.put at h ⊢
  split at h
  · rename_i h0
    rw [if_pos h0]
    split at h
    · rename_i h1
      rw [if_pos h1]
      refine ⟨rfl, ?_⟩
      have := read_some h0
      rw [h1] at this
      exact this
    · simp at h
  · rename_i h0
    rw [if_neg h0]
    split at h
    · rename_i h12
      rw [if_pos h12]
      split at h
      · rename_i hw
        rw [if_pos hw]
        refine ⟨rfl, ?_⟩
        unfold St.write at hw ⊢
        split at hw
        · simp at hw
        · rename_i hd
          rw [if_neg hd]
          split at hw
          · rename_i hr
            rw [if_pos hr]
            exact ⟨_, get_put_same _ ⟨fileK (nm b), v, b⟩, rfl⟩
          · rename_i hr
            exact absurd hw hr
      · rename_i hw
        exact absurd h hw
    · exact absurd h h0

theorem put_no {S : St} {b : List UInt8} {v : Value} (h : (S.put b v).2.1 ≠ 0) : (S.put b v).1 = [] := by
  unfold St.put at h ⊢
  split at h
  · rename_i h0
    rw [if_pos h0]
    split at h
    · simp at h
    · rename_i h1
      rw [if_neg h1]
  · rename_i h0
    rw [if_neg h0]
    split at h
    · rename_i h12
      rw [if_pos h12]
      split at h
      · simp at h
      · rename_i hw
        rw [if_neg hw]
    · rename_i h12
      rw [if_neg h12]

theorem sync_cases (S : St) : (S.sync = (13, S.asked)) ∨ S.sync = (0, S.asked.settled.counted) := by
  unfold St.sync
  split
  · exact Or.inl rfl
  · exact Or.inr rfl

theorem write_cases (S : St) (t : Tri) : ((S.write t).1 ≠ 0 ∧ (S.write t).2 = S.asked) ∨ S.write t = (0, S.asked.did (Ch.wr t)) := by
  unfold St.write
  split
  · exact Or.inl ⟨by simp, rfl⟩
  · split
    · exact Or.inr rfl
    · rename_i h
      exact Or.inl ⟨h, rfl⟩

theorem rename_cases (S : St) (a b : List UInt8) : ((S.rename a b).1 ≠ 0 ∧ (S.rename a b).2 = S.asked) ∨ S.rename a b = (0, S.asked.did (Ch.mv a b)) := by
  unfold St.rename
  split
  · exact Or.inl ⟨by simp, rfl⟩
  · split
    · exact Or.inl ⟨by simp, rfl⟩
    · split
      · exact Or.inl ⟨by simp, rfl⟩
      · exact Or.inr rfl

/-- SetRoot, wherever the power goes: behind any crash the root is the one that was, or the new one; the new one, if it answered OK. -/
theorem once {a old x next : List UInt8} {S : St} {v : Value} {r : Int} {T : St} (h : Reps (RootIs a old) S) (hx : Has (fileK x) next S.F) (hE : Ended S x v r T) :
    Reps (fun F => RootIs a old F ∨ RootIs x next F) T ∧ (r = 0 → Reps (RootIs x next) T) := by
  have lift : ∀ {U : St}, Reps (fun F => RootIs a old F ∧ Has (fileK x) next F) U → Reps (fun F => RootIs a old F ∨ RootIs x next F) U := fun hU => hU.mono (fun _ e => Or.inl e.1)
  obtain ⟨j, hj, hall, hend⟩ := hE
  -- the first step
  rcases sync_cases S with s0 | s0
  · have e0 : St.stepAt x v 0 S = (13, S.asked) := s0
    have hj0 : j = 0 := by
      rcases Nat.eq_zero_or_pos j with e | e
      · exact e
      · have := hall 0 e
        rw [show St.after S x v 0 = S from rfl, e0] at this
        simp at this
    subst hj0
    rcases hend with h5 | ⟨_, hr, hr0, rfl⟩
    · omega
    · refine ⟨?_, fun e => absurd e hr0⟩
      show Reps _ (St.stepAt x v 0 S).2
      rw [e0]
      exact h.asked.mono (fun _ e => Or.inl e)
  have a1 : St.after S x v 1 = S.asked.settled.counted := by show (St.stepAt x v 0 S).2 = _; rw [show St.stepAt x v 0 S = S.sync from rfl, s0]
  have R1 : Reps (fun F => RootIs a old F ∧ Has (fileK x) next F) S.asked.settled.counted := Reps.settled (S := S.asked) ⟨h.1, hx⟩
  obtain ⟨S1, hS1⟩ : ∃ S1, S.asked.settled.counted = S1 := ⟨_, rfl⟩
  rw [hS1] at a1 R1
  have nz0 : j ≠ 0 := fun e => by
    subst e
    rcases hend with h5 | ⟨_, hr, hr0, _⟩
    · omega
    · apply hr0; rw [hr]
      show (St.stepAt x v 0 S).1 = 0
      rw [show St.stepAt x v 0 S = S.sync from rfl, s0]
  -- the second
  have keepN : ∀ R, (RootIs a old R ∧ Has (fileK x) next R) → ((RootIs a old (put R ⟨newK, v, x⟩) ∧ Has (fileK x) next (put R ⟨newK, v, x⟩)) ∧ Has newK x (put R ⟨newK, v, x⟩)) := fun R hR =>
    ⟨⟨hR.1.put (Ne.symm new_ne_root) (file_ne_new a), hR.2.put (file_ne_new x)⟩, ⟨_, get_put_same R ⟨newK, v, x⟩, rfl⟩⟩
  rcases write_cases S1 ⟨newK, v, x⟩ with ⟨s1, t1⟩ | s1
  · have e1 : (St.stepAt x v 1 (St.after S x v 1)).1 ≠ 0 := by rw [a1]; exact s1
    have hj1 : j = 1 := by
      rcases Nat.lt_or_ge 1 j with e | e
      · exact absurd (hall 1 e) e1
      · omega
    subst hj1
    rcases hend with h5 | ⟨_, hr, hr0, rfl⟩
    · omega
    · refine ⟨?_, fun e => absurd e hr0⟩
      show Reps _ (St.stepAt x v 1 (St.after S x v 1)).2
      rw [a1, show (St.stepAt x v 1 S1).2 = S1.asked from t1]
      exact lift R1.asked
  have a2 : St.after S x v 2 = S1.asked.did (Ch.wr ⟨newK, v, x⟩) := by show (St.stepAt x v 1 (St.after S x v 1)).2 = _; rw [a1, show St.stepAt x v 1 S1 = S1.write ⟨newK, v, x⟩ from rfl, s1]
  have R2 : Reps (fun F => RootIs a old F ∧ Has (fileK x) next F) (S1.asked.did (Ch.wr ⟨newK, v, x⟩)) := Reps.did R1.asked (fun _ e => e) (fun R hR => (keepN R hR).1)
  have N2 : Has newK x (S1.asked.did (Ch.wr ⟨newK, v, x⟩)).F := (keepN _ R1.1).2
  obtain ⟨S2, hS2⟩ : ∃ S2, S1.asked.did (Ch.wr ⟨newK, v, x⟩) = S2 := ⟨_, rfl⟩
  rw [hS2] at a2 R2 N2
  have nz1 : j ≠ 1 := fun e => by
    subst e
    rcases hend with h5 | ⟨_, hr, hr0, _⟩
    · omega
    · apply hr0; rw [hr, a1, show St.stepAt x v 1 S1 = S1.write ⟨newK, v, x⟩ from rfl, s1]
  -- the third
  rcases sync_cases S2 with s2 | s2
  · have e2 : St.stepAt x v 2 (St.after S x v 2) = (13, S2.asked) := by rw [a2]; exact s2
    have hj2 : j = 2 := by
      rcases Nat.lt_or_ge 2 j with e | e
      · have := hall 2 e
        rw [e2] at this
        simp at this
      · omega
    subst hj2
    rcases hend with h5 | ⟨_, hr, hr0, rfl⟩
    · omega
    · refine ⟨?_, fun e => absurd e hr0⟩
      show Reps _ (St.stepAt x v 2 (St.after S x v 2)).2
      rw [e2]
      exact lift R2.asked
  have a3 : St.after S x v 3 = S2.asked.settled.counted := by show (St.stepAt x v 2 (St.after S x v 2)).2 = _; rw [a2, show St.stepAt x v 2 S2 = S2.sync from rfl, s2]
  have R3 : Reps (fun F => (RootIs a old F ∧ Has (fileK x) next F) ∧ Has newK x F) S2.asked.settled.counted := Reps.settled (S := S2.asked) ⟨R2.1, N2⟩
  obtain ⟨S3, hS3⟩ : ∃ S3, S2.asked.settled.counted = S3 := ⟨_, rfl⟩
  rw [hS3] at a3 R3
  have nz2 : j ≠ 2 := fun e => by
    subst e
    rcases hend with h5 | ⟨_, hr, hr0, _⟩
    · omega
    · apply hr0; rw [hr, a2, show St.stepAt x v 2 S2 = S2.sync from rfl, s2]
  -- the fourth
  have moved : ∀ R, ((RootIs a old R ∧ Has (fileK x) next R) ∧ Has newK x R) → RootIs x next ((Ch.mv newK rootK).app R) := fun R hR => by
    obtain ⟨⟨_, hf⟩, t, ht, htb⟩ := hR
    have e : (Ch.mv newK rootK).app R = put (del R newK) { t with k := rootK } := by
      unfold Ch.app
      simp only
      rw [ht]
    rw [e]
    refine ⟨⟨_, get_put_same _ { t with k := rootK }, htb⟩, ?_⟩
    obtain ⟨u, hu, hub⟩ := hf
    exact ⟨u, by rw [get_put_other (x := { t with k := rootK }) (file_ne_root x), get_del_other (file_ne_new x)]; exact hu, hub⟩
  rcases rename_cases S3 newK rootK with ⟨s3, t3⟩ | s3
  · have e3 : (St.stepAt x v 3 (St.after S x v 3)).1 ≠ 0 := by rw [a3]; exact s3
    have hj3 : j = 3 := by
      rcases Nat.lt_or_ge 3 j with e | e
      · exact absurd (hall 3 e) e3
      · omega
    subst hj3
    rcases hend with h5 | ⟨_, hr, hr0, rfl⟩
    · omega
    · refine ⟨?_, fun e => absurd e hr0⟩
      show Reps _ (St.stepAt x v 3 (St.after S x v 3)).2
      rw [a3, show (St.stepAt x v 3 S3).2 = S3.asked from t3]
      exact R3.asked.mono (fun _ e => Or.inl e.1.1)
  have a4 : St.after S x v 4 = S3.asked.did (Ch.mv newK rootK) := by show (St.stepAt x v 3 (St.after S x v 3)).2 = _; rw [a3, show St.stepAt x v 3 S3 = S3.rename newK rootK from rfl, s3]
  have R4 : Reps (fun F => RootIs a old F ∨ RootIs x next F) (S3.asked.did (Ch.mv newK rootK)) := Reps.did R3.asked (fun _ e => Or.inl e.1.1) (fun R hR => Or.inr (moved R hR))
  have N4 : RootIs x next (S3.asked.did (Ch.mv newK rootK)).F := moved _ R3.1
  obtain ⟨S4, hS4⟩ : ∃ S4, S3.asked.did (Ch.mv newK rootK) = S4 := ⟨_, rfl⟩
  rw [hS4] at a4 R4 N4
  have nz3 : j ≠ 3 := fun e => by
    subst e
    rcases hend with h5 | ⟨_, hr, hr0, _⟩
    · omega
    · apply hr0; rw [hr, a3, show St.stepAt x v 3 S3 = S3.rename newK rootK from rfl, s3]
  -- the last
  rcases hend with ⟨h5, hr, rfl⟩ | ⟨h5, hr, hr0, rfl⟩
  · have e4 := hall 4 (by omega)
    rw [a4, show St.stepAt x v 4 S4 = S4.sync from rfl] at e4
    rcases sync_cases S4 with s4 | s4
    · rw [s4] at e4; simp at e4
    · have a5 : St.after S x v 5 = S4.asked.settled.counted := by show (St.stepAt x v 4 (St.after S x v 4)).2 = _; rw [a4, show St.stepAt x v 4 S4 = S4.sync from rfl, s4]
      rw [a5]
      have R5 : Reps (RootIs x next) S4.asked.settled.counted := Reps.settled (S := S4.asked) N4
      exact ⟨R5.mono (fun _ e => Or.inr e), fun _ => R5⟩
  · have hj4 : j = 4 := by omega
    subst hj4
    refine ⟨?_, fun e => absurd e hr0⟩
    show Reps _ (St.stepAt x v 4 (St.after S x v 4)).2
    rw [a4, show St.stepAt x v 4 S4 = S4.sync from rfl]
    rw [a4, show St.stepAt x v 4 S4 = S4.sync from rfl] at hr
    rcases sync_cases S4 with s4 | s4
    · rw [s4]; exact R4.asked
    · rw [s4] at hr; exact absurd hr hr0
end Go.Proofs.Ytklefjmihapdpaa
