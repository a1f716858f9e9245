/-
  What is proved here: what twin does, and what the document's New and Of leave. Condition: the disk lies in memory, its counts are small, and its files have fewer than 2^40 bytes.
-/
import Derived.Test.YthnneejkbobbcaaRCrash
namespace Go.Proofs.Ythnneejkbobbcaa
open Go.RowKit Go.Maps Go.WideMaps
set_option maxRecDepth 100000

/-- What a call does to the document's disk. -/
def RSt.does (R : RSt) (o : OpD) (v : Value) : Int × RSt :=
  if o.what = 0 ∨ o.what = 1 then R.write o.a v o.b
  else if o.what = 2 then R.rename o.a o.to
  else if o.what = 3 then R.remove o.a
  else if o.what = 4 then R.sync
  else if o.what = 5 then (0, R.fuse o.n)
  else if o.what = 6 then (0, R.crash o.keep)
  else (0, R)

theorem RStepped.from {M : Nat → Prop} {w w0 w' : World} {p : Nat} {R' : RSt} (hf : Fr None' w w0) (h : RStepped M w0 p R' w') : RStepped M w p R' w' := by
  obtain ⟨M', h1, h2, h3⟩ := h
  refine ⟨M', h1, (hf.mono (fun _ e => e.elim)).trans h2 (fun _ e => Or.inl e), fun k hk => ?_⟩
  rcases h3 k hk with e | e
  · exact Or.inl e
  · exact Or.inr (Nat.le_trans hf.size e)

theorem RDisk.fresh {M : Nat → Prop} {w w' : World} {p : Nat} {R : RSt} (h : RDisk w p M R) (hf : Fr None' w w') : RDisk w' p M R := by
  obtain ⟨vL, vO, vC, h, rfl⟩ := h
  exact ⟨vL, vO, vC, h.fresh hf, rfl⟩

theorem RDisk.same {M : Nat → Prop} {w w' : World} {p : Nat} {R : RSt} (h : RDisk w p M R) (hf : Fr None' w w') : RStepped M w p R w' := ⟨M, h.fresh hf, hf.mono (fun _ e => e.elim), fun _ hk => Or.inl hk⟩

set_option maxHeartbeats 8000000 in
theorem twin_any (p B : Nat) (M : Nat → Prop) (R : RSt) (o : OpD) (vb vk : Value) (w : World) (h : RDisk w p M R) (hR : R.fine) (hY : R.Y.length ≤ 100000) (hr0 : 0 ≤ R.room) (hr1 : R.room ≤ 9223372036854775807) (hM : ∀ k, M k → B ≤ k) (ho : OpVal w B o vb vk) (hu : used R.L < 1099511627776) (hb : o.b.length < 1099511627776) :
    Calls Try.prog 10 #[.pointer (some ⟨p, 0, none⟩), .agg #[.int .i64 o.what, .string o.a, .string o.to, vb, .int .i64 o.n, vk]] w fun e w' => ∃ v, e = .returned (.int .i64 (R.does o v).1) ∧ RStepped M w p (R.does o v).2 w' := by
  obtain ⟨w0, hw0⟩ : ∃ w0, w0 = w.alloc (.cells #[.int .i64 o.what, .string o.a, .string o.to, vb, .int .i64 o.n, vk] 36) := ⟨_, rfl⟩
  have f0 : Fr None' w w0 := hw0 ▸ Fr.alloc None' _ _
  have h0 := h.fresh f0
  have o0 := ho.kept f0 (fun _ e => e.elim)
  obtain ⟨B1, B2, B3, B4, B5, B6, B7, B8, B9, B10⟩ := o0
  obtain ⟨sb, cb, rfl⟩ := bytes_slice B1
  have hvk : ∃ sk ck, vk = .slice sk o.keep.length ck := by
    rcases B2 with ⟨e1, e2⟩ | ⟨ad, c, e1, _⟩
    · exact ⟨none, 0, by rw [e1, e2]; rfl⟩
    · exact ⟨_, _, e1⟩
  obtain ⟨sk, ck, rfl⟩ := hvk
  clear ho
  by_cases k0 : o.what = 0
  · have hd : ∀ v, R.does o v = R.write o.a v o.b := fun v => by simp [RSt.does, k0]
    simp only [hd]
    have hc := rwrite_any p M R o.a _ o.b w0 h0 hR B5 B1 (B3.out hM) hu hb hr0 hr1
    clear hd
    subst hw0
    rw [k0] at hc f0 ⊢
    go_enter Try.func10, Try.ntmps10
    go_wp2_with (first | (go_at_call 35; refine hc.mono ?_; rintro e w1 ⟨v, rfl, hst⟩))
    go_ret
    exact ⟨v, rfl, hst.from f0⟩
  by_cases k1 : o.what = 1
  · have hd : ∀ v, R.does o v = R.write o.a v o.b := fun v => by simp [RSt.does, k1]
    simp only [hd]
    have hc := rwrite_any p M R o.a _ o.b w0 h0 hR B5 B1 (B3.out hM) hu hb hr0 hr1
    clear hd
    subst hw0
    rw [k1] at hc f0 ⊢
    go_enter Try.func10, Try.ntmps10
    go_wp2_with (first | (go_at_call 35; refine hc.mono ?_; rintro e w1 ⟨v, rfl, hst⟩))
    go_ret
    exact ⟨v, rfl, hst.from f0⟩
  by_cases k2 : o.what = 2
  · have hd : ∀ v, R.does o v = R.rename o.a o.to := fun v => by simp [RSt.does, k2]
    simp only [hd]
    have hc := rrename_any p M R o.a o.to w0 h0 hR B6
    clear hd
    subst hw0
    rw [k2] at hc f0 ⊢
    go_enter Try.func10, Try.ntmps10
    go_wp2_with (first | (go_at_call 36; refine hc.mono ?_; rintro e w1 ⟨rfl, hst⟩))
    go_ret
    exact ⟨.slice none 0 0, rfl, hst.from f0⟩
  by_cases k3 : o.what = 3
  · have hd : ∀ v, R.does o v = R.remove o.a := fun v => by simp [RSt.does, k3]
    simp only [hd]
    have hc := rremove_any p M R o.a w0 h0 hR
    clear hd
    subst hw0
    rw [k3] at hc f0 ⊢
    go_enter Try.func10, Try.ntmps10
    go_wp2_with (first | (go_at_call 37; refine hc.mono ?_; rintro e w1 ⟨rfl, hst⟩))
    go_ret
    exact ⟨.slice none 0 0, rfl, hst.from f0⟩
  by_cases k4 : o.what = 4
  · have hd : ∀ v, R.does o v = R.sync := fun v => by simp [RSt.does, k4]
    simp only [hd]
    have hc := rsync_any p M R w0 h0 hR
    clear hd
    subst hw0
    rw [k4] at hc f0 ⊢
    go_enter Try.func10, Try.ntmps10
    go_wp2_with (first | (go_at_call 38; refine hc.mono ?_; rintro e w1 ⟨rfl, hst⟩))
    go_ret
    exact ⟨.slice none 0 0, rfl, hst.from f0⟩
  by_cases k5 : o.what = 5
  · have hd : ∀ v, R.does o v = (0, R.fuse o.n) := fun v => by simp [RSt.does, k5]
    simp only [hd]
    have hc := rfuse_any p M R o.n w0 h0
    clear hd
    subst hw0
    rw [k5] at hc f0 ⊢
    go_enter Try.func10, Try.ntmps10
    go_wp2_with (first | (go_at_call 39; refine hc.mono ?_; rintro e w1 ⟨rfl, hst⟩))
    go_ret
    exact ⟨.slice none 0 0, rfl, hst.from f0⟩
  by_cases k6 : o.what = 6
  · have hd : ∀ v, R.does o v = (0, R.crash o.keep) := fun v => by simp [RSt.does, k6]
    simp only [hd]
    have hc := rcrash_any p M R _ o.keep w0 h0 hR hY B2
    clear hd
    subst hw0
    rw [k6] at hc f0 ⊢
    go_enter Try.func10, Try.ntmps10
    go_wp2_with (first | (go_at_call 40; refine hc.mono ?_; rintro e w1 ⟨rfl, hst⟩))
    go_ret
    exact ⟨.slice none 0 0, rfl, hst.from f0⟩
  have hd : ∀ v, R.does o v = (0, R) := fun v => by simp [RSt.does, k0, k1, k2, k3, k4, k5, k6]
  simp only [hd]
  have t0 : (o.what == 0) = false := by simpa using k0
  have t1 : (o.what == 1) = false := by simpa using k1
  have t2 : (o.what == 2) = false := by simpa using k2
  have t3 : (o.what == 3) = false := by simpa using k3
  have t4 : (o.what == 4) = false := by simpa using k4
  have t5 : (o.what == 5) = false := by simpa using k5
  have t6 : (o.what == 6) = false := by simpa using k6
  have hst := h.same f0
  clear hd k0 k1 k2 k3 k4 k5 k6
  subst hw0
  go_enter Try.func10, Try.ntmps10
  go_wp2
  go_ret
  exact ⟨.slice none 0 0, rfl, hst⟩

end Go.Proofs.Ythnneejkbobbcaa
