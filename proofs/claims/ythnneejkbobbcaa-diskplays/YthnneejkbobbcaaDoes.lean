/-
  What is proved here: what Remove, Fuse, Down answer, and what one call of a script does to a disk. Condition: the disk lies in memory, its counts are small; what the call hands over is no block of the disk's own.
-/
import Derived.Test.YthnneejkbobbcaaArgs
namespace Go.Proofs.Ythnneejkbobbcaa
open Go.RowKit Go.Maps Go.WideMaps
set_option maxRecDepth 100000

/-- Remove. -/
def St.remove (S : St) (k : List UInt8) : Int × St :=
  if S.asked.down then (13, S.asked) else if (get S.F k).isSome = false then (12, S.asked) else (0, S.asked.did (Ch.rm k))

set_option maxHeartbeats 2000000 in
theorem remove_any (p : Nat) (M : Nat → Prop) (S : St) (s : ByteArray) (w : World) (h : Disk w p M S) (hS : S.fine) (hs : s.size ≤ maxLen) :
    Calls Try.prog 33 #[.pointer (some ⟨p, 0, none⟩), .string s] w fun e w' => e = .returned (.int .i64 (S.remove s.data.toList).1) ∧ Stepped M w p (S.remove s.data.toList).2 w' := by
  obtain ⟨bf, bs, ca, h, rfl⟩ := h
  have hmf := makeFunc_run
  have hmp : ∀ k, k = p → Mut p bf ca k := fun k e => Or.inl e
  obtain ⟨w0, hw0⟩ : ∃ w0, w0 = w.alloc (.cells #[.string s] 9) := ⟨_, rfl⟩
  have f0 : Fr None' w w0 := hw0 ▸ Fr.alloc None' _ _
  have h0 : DiskAt w0 p bf bs ca S := h.fresh f0
  have fM : Fr (Mut p bf ca) w w0 := f0.mono (fun _ e => e.elim)
  have n0 : w0.heap[w.heap.size]? = some (.cells #[.string s] 9) := hw0 ▸ (MapKept.heap_alloc w _).1
  have hA := h0.asked
  unfold St.remove
  cases hd : S.asked.down
  · rw [hd] at hA
    simp only [Bool.false_eq_true, if_false]
    have hH := fun w1 (h1 : DiskAt w1 p bf bs ca S.asked) => has_any p bf bs ca S.asked w1 h1 s hs
    have eF : S.asked.F = S.F := rfl
    rw [eF] at hH
    cases hg : (get S.F s.data.toList).isSome
    · simp only [if_true]
      simp only [hg] at hH
      clear hd hg
      subst hw0
      go_enter Try.func33, Try.ntmps33
      go_wp2_with (first
        | (go_at_call 43; refine hA.mono ?_; rintro e w1 ⟨rfl, h1, f1⟩; have n1 := (f1.mono hmp).cellsAt h0.still n0 (by decide) (by decide); have cn := named_cell' n1)
        | (go_at_call 26; refine (hH _ h1).mono ?_; rintro e w2 ⟨rfl, hw⟩; have hw := hw.symm; subst hw))
      go_ret
      exact ⟨rfl, _, h1.disk, fM.trans (f1.mono hmp) (fun _ e => Or.inl e), fun k hk => Or.inl hk⟩
    · simp only [Bool.true_eq_false, if_false]
      simp only [hg] at hH
      clear hd hg
      subst hw0
      go_enter Try.func33, Try.ntmps33
      go_wp2_with (first
        | (go_at_call 43; refine hA.mono ?_; rintro e w1 ⟨rfl, h1, f1⟩; have n1 := (f1.mono hmp).cellsAt h0.still n0 (by decide) (by decide); have cn := named_cell' n1)
        | (go_at_call 26; refine (hH _ h1).mono ?_; rintro e w2 ⟨rfl, hw⟩; have hw := hw.symm; subst hw)
        | (go_at_call 45; refine (do_any p bf bs ca _ S.asked (Ch.rm s.data.toList) _ h1 ⟨_, rfl, ⟨s, n1, rfl, hs⟩⟩ (fine_asked hS)).mono ?_; rintro e w4 ⟨rfl, ca', h5, f5, g5⟩))
      go_ret
      have hall := fM.trans (f1.mono hmp) (fun _ e => Or.inl e)
      refine ⟨rfl, _, h5.disk, hall.trans f5 (fun _ e => Or.inl e), fun k hk => ?_⟩
      rcases g5 k hk with e | e
      · exact Or.inl e
      · exact Or.inr (Nat.le_trans hall.size e)
  · rw [hd] at hA
    simp only [if_true]
    clear hd
    subst hw0
    go_enter Try.func33, Try.ntmps33
    go_wp2_with (first
      | (go_at_call 43; refine hA.mono ?_; rintro e w1 ⟨rfl, h1, f1⟩))
    go_ret
    exact ⟨rfl, _, h1.disk, fM.trans (f1.mono hmp) (fun _ e => Or.inl e), fun k hk => Or.inl hk⟩

/-- Fuse. -/
def St.fused (S : St) (n : Int) : St := { S with fuse := max n (-1) }

theorem fuse_any (p : Nat) (M : Nat → Prop) (S : St) (n : Int) (w : World) (h : Disk w p M S) :
    Calls Try.prog 34 #[.pointer (some ⟨p, 0, none⟩), .int .i64 n] w fun e w' => e = .returned (.tuple #[]) ∧ Stepped M w p (S.fused n) w' := by
  obtain ⟨bf, bs, ca, h, rfl⟩ := h
  obtain ⟨c0, c1, c2, c3, c4, c5, c6, z⟩ := h.cells
  have z5 := z 5
  clear z c0 c1 c2 c3 c4 c6
  by_cases hn : n < -1
  · have e1 : S.fused n = { S with fuse := -1 } := by unfold St.fused; rw [show max n (-1) = -1 by omega]
    rw [e1]
    go_enter Try.func34, Try.ntmps34
    go_wp2
    go_end0
    exact ⟨rfl, _, (h.field (S' := { S with fuse := -1 }) rfl rfl rfl rfl rfl).disk, Fr.setCell w (a := ⟨p, 5, none⟩) (Or.inl rfl) _, fun k hk => Or.inl hk⟩
  · have e1 : S.fused n = { S with fuse := n } := by unfold St.fused; rw [show max n (-1) = n by omega]
    rw [e1]
    go_enter Try.func34, Try.ntmps34
    go_wp2
    go_end0
    exact ⟨rfl, _, (h.field (S' := { S with fuse := n }) rfl rfl rfl rfl rfl).disk, Fr.setCell w (a := ⟨p, 5, none⟩) (Or.inl rfl) _, fun k hk => Or.inl hk⟩

theorem down_any (p : Nat) (M : Nat → Prop) (S : St) (w : World) (h : Disk w p M S) :
    Calls Try.prog 16 #[.pointer (some ⟨p, 0, none⟩)] w fun e w' => e = .returned (.bool S.down) ∧ w = w' := by
  obtain ⟨bf, bs, ca, h, rfl⟩ := h
  obtain ⟨c0, c1, c2, c3, c4, c5, c6, z⟩ := h.cells
  clear z c0 c1 c2 c3 c4 c5
  go_enter Try.func16, Try.ntmps16
  go_wp2
  go_ret
  exact ⟨rfl, rfl⟩

/-- A call of a script, as plain data. -/
structure OpD where
  what : Int
  a : ByteArray
  to : ByteArray
  b : List UInt8
  n : Int
  keep : List Bool

/-- A slice that lies below block B. -/
def LowN (B : Nat) (v : Value) : Prop := ∀ ad n c, v = .slice (some ad) n c → n ≠ 0 → ad.block < B

theorem LowN.out {B : Nat} {v : Value} {M : Nat → Prop} (h : LowN B v) (hM : ∀ k, M k → B ≤ k) : Out M v := fun ad n c e h0 hm => by
  have h1 := h ad n c e h0
  have h2 := hM _ hm
  omega

/-- The six cells of a call that came in, below block B. -/
def OpVal (w : World) (B : Nat) (o : OpD) (vb vk : Value) : Prop :=
  Bytes w vb o.b ∧ Bools w vk o.keep ∧ LowN B vb ∧ LowN B vk ∧ o.a.size ≤ maxLen ∧ o.to.size ≤ maxLen ∧ -9223372036854775808 ≤ o.n ∧ o.n ≤ 9223372036854775807 ∧ -9223372036854775808 ≤ o.what ∧ o.what ≤ 9223372036854775807

theorem Bools.kept {M : Nat → Prop} {w w' : World} {v : Value} {l : List Bool} (h : Bools w v l) (hf : Fr M w w') (hM : Out M v) : Bools w' v l := by
  rcases h with h | ⟨ad, c, hv, hc⟩
  · exact Or.inl h
  · refine Or.inr ⟨ad, c, hv, fun j u hj => ?_⟩
    obtain ⟨h0, h1⟩ := hc j u hj
    have hlt : ad.block < w.heap.size := by
      unfold World.cell? at h1
      split at h1
      · rename_i hk; exact lt_of_some hk
      · cases h1
    refine ⟨h0, ?_⟩
    rw [World.cell?_of_block (w := w) (a := ⟨ad.block, ad.off + j, none⟩) (hf.block _ hlt (hM ad _ _ hv (fun e0 => by have := (List.getElem?_eq_some_iff.1 hj).1; omega)))]
    exact h1

theorem OpVal.kept {w w' : World} {B : Nat} {M : Nat → Prop} {o : OpD} {vb vk : Value} (h : OpVal w B o vb vk) (hf : Fr M w w') (hM : ∀ k, M k → B ≤ k) : OpVal w' B o vb vk :=
  ⟨h.1.kept hf (h.2.2.1.out hM), h.2.1.kept hf (h.2.2.2.1.out hM), h.2.2⟩

/-- What a call does. -/
def St.does (S : St) (o : OpD) (v : Value) : Int × St :=
  if o.what = 0 ∨ o.what = 1 then S.write ⟨o.a.data.toList, v, o.b⟩
  else if o.what = 2 then S.rename o.a.data.toList o.to.data.toList
  else if o.what = 3 then S.remove o.a.data.toList
  else if o.what = 4 then S.sync
  else if o.what = 5 then (0, S.fused o.n)
  else if o.what = 6 then (0, S.crash o.keep)
  else (0, S)

theorem Stepped.from {M : Nat → Prop} {w w0 w' : World} {p : Nat} {S' : St} (hf : Fr None' w w0) (h : Stepped M w0 p S' w') : Stepped M w p S' w' := by
  obtain ⟨M', h1, h2, h3⟩ := h
  refine ⟨M', h1, (hf.mono (fun _ e => e.elim)).trans h2 (fun _ e => Or.inl e), fun k hk => ?_⟩
  rcases h3 k hk with e | e
  · exact Or.inl e
  · exact Or.inr (Nat.le_trans hf.size e)

theorem Disk.same {M : Nat → Prop} {w w' : World} {p : Nat} {S : St} (h : Disk w p M S) (hf : Fr None' w w') : Stepped M w p S w' := ⟨M, h.fresh hf, hf.mono (fun _ e => e.elim), fun _ hk => Or.inl hk⟩

set_option maxHeartbeats 8000000 in
theorem does_any (p B : Nat) (M : Nat → Prop) (S : St) (o : OpD) (vb vk : Value) (w : World) (h : Disk w p M S) (hS : S.fine) (hM : ∀ k, M k → B ≤ k) (ho : OpVal w B o vb vk) (hu : used S.F < 1099511627776) (hb : o.b.length < 1099511627776) :
    Calls Try.prog 9 #[.pointer (some ⟨p, 0, none⟩), .agg #[.int .i64 o.what, .string o.a, .string o.to, vb, .int .i64 o.n, vk]] w fun e w' => ∃ v, e = .returned (.int .i64 (S.does o v).1) ∧ Stepped M w p (S.does o v).2 w' := by
  obtain ⟨w0, hw0⟩ : ∃ w0, w0 = w.alloc (.cells #[.int .i64 o.what, .string o.a, .string o.to, vb, .int .i64 o.n, vk] 36) := ⟨_, rfl⟩
  have f0 : Fr None' w w0 := hw0 ▸ Fr.alloc None' _ _
  have h0 := h.fresh f0
  have o0 := ho.kept f0 (fun _ e => e.elim)
  obtain ⟨B1, B2, B3, B4, B5, B6, B7, B8, B9, B10⟩ := o0
  obtain ⟨sb, cb, rfl⟩ := bytes_slice B1
  have hvk : ∃ sk ck, vk = .slice sk o.keep.length ck := by
    rcases B2 with ⟨e1, e2⟩ | ⟨ad, c, e1, _⟩
    · exact ⟨none, 0, by rw [e1, e2]; rfl⟩
    · exact ⟨_, _, e1⟩
  obtain ⟨sk, ck, rfl⟩ := hvk
  clear ho
  by_cases k0 : o.what = 0
  · have hd : ∀ v, S.does o v = S.write ⟨o.a.data.toList, v, o.b⟩ := fun v => by simp [St.does, k0]
    simp only [hd]
    have hc := write_any p M S o.a _ o.b w0 h0 hS B5 B1 (B3.out hM) hu hb
    clear hd
    subst hw0
    rw [k0] at hc f0 ⊢
    go_enter Try.func9, Try.ntmps9
    go_wp2_with (first | (go_at_call 21; refine hc.mono ?_; rintro e w1 ⟨v, rfl, hst⟩))
    go_ret
    exact ⟨v, rfl, hst.from f0⟩
  by_cases k1 : o.what = 1
  · have hd : ∀ v, S.does o v = S.write ⟨o.a.data.toList, v, o.b⟩ := fun v => by simp [St.does, k1]
    simp only [hd]
    have hc := write_any p M S o.a _ o.b w0 h0 hS B5 B1 (B3.out hM) hu hb
    clear hd
    subst hw0
    rw [k1] at hc f0 ⊢
    go_enter Try.func9, Try.ntmps9
    go_wp2_with (first | (go_at_call 21; refine hc.mono ?_; rintro e w1 ⟨v, rfl, hst⟩))
    go_ret
    exact ⟨v, rfl, hst.from f0⟩
  by_cases k2 : o.what = 2
  · have hd : ∀ v, S.does o v = S.rename o.a.data.toList o.to.data.toList := fun v => by simp [St.does, k2]
    simp only [hd]
    have hc := rename_any p M S o.a o.to w0 h0 hS B5 B6
    clear hd
    subst hw0
    rw [k2] at hc f0 ⊢
    go_enter Try.func9, Try.ntmps9
    go_wp2_with (first | (go_at_call 23; refine hc.mono ?_; rintro e w1 ⟨rfl, hst⟩))
    go_ret
    exact ⟨.slice none 0 0, rfl, hst.from f0⟩
  by_cases k3 : o.what = 3
  · have hd : ∀ v, S.does o v = S.remove o.a.data.toList := fun v => by simp [St.does, k3]
    simp only [hd]
    have hc := remove_any p M S o.a w0 h0 hS B5
    clear hd
    subst hw0
    rw [k3] at hc f0 ⊢
    go_enter Try.func9, Try.ntmps9
    go_wp2_with (first | (go_at_call 33; refine hc.mono ?_; rintro e w1 ⟨rfl, hst⟩))
    go_ret
    exact ⟨.slice none 0 0, rfl, hst.from f0⟩
  by_cases k4 : o.what = 4
  · have hd : ∀ v, S.does o v = S.sync := fun v => by simp [St.does, k4]
    simp only [hd]
    have hc := sync_any p M S w0 h0 hS
    clear hd
    subst hw0
    rw [k4] at hc f0 ⊢
    go_enter Try.func9, Try.ntmps9
    go_wp2_with (first | (go_at_call 22; refine hc.mono ?_; rintro e w1 ⟨rfl, hst⟩))
    go_ret
    exact ⟨.slice none 0 0, rfl, hst.from f0⟩
  by_cases k5 : o.what = 5
  · have hd : ∀ v, S.does o v = (0, S.fused o.n) := fun v => by simp [St.does, k5]
    simp only [hd]
    have hc := fuse_any p M S o.n w0 h0
    clear hd
    subst hw0
    rw [k5] at hc f0 ⊢
    go_enter Try.func9, Try.ntmps9
    go_wp2_with (first | (go_at_call 34; refine hc.mono ?_; rintro e w1 ⟨rfl, hst⟩))
    go_ret
    exact ⟨.slice none 0 0, rfl, hst.from f0⟩
  by_cases k6 : o.what = 6
  · have hd : ∀ v, S.does o v = (0, S.crash o.keep) := fun v => by simp [St.does, k6]
    simp only [hd]
    have hc := crash_any p M S _ o.keep w0 h0 hS B2 (B4.out hM)
    clear hd
    subst hw0
    rw [k6] at hc f0 ⊢
    go_enter Try.func9, Try.ntmps9
    go_wp2_with (first | (go_at_call 24; refine hc.mono ?_; rintro e w1 ⟨rfl, hst⟩))
    go_ret
    exact ⟨.slice none 0 0, rfl, hst.from f0⟩
  have hd : ∀ v, S.does o v = (0, S) := fun v => by simp [St.does, k0, k1, k2, k3, k4, k5, k6]
  simp only [hd]
  have t0 : (o.what == 0) = false := by simpa using k0
  have t1 : (o.what == 1) = false := by simpa using k1
  have t2 : (o.what == 2) = false := by simpa using k2
  have t3 : (o.what == 3) = false := by simpa using k3
  have t4 : (o.what == 4) = false := by simpa using k4
  have t5 : (o.what == 5) = false := by simpa using k5
  have t6 : (o.what == 6) = false := by simpa using k6
  have hst := h.same f0
  clear hd k0 k1 k2 k3 k4 k5 k6
  subst hw0
  go_enter Try.func9, Try.ntmps9
  go_wp2
  go_ret
  exact ⟨.slice none 0 0, rfl, hst⟩

end Go.Proofs.Ythnneejkbobbcaa
