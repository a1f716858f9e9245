/-
  What is proved here: what stays small while calls of a script are done on a disk, and what a fuse does. No condition but those that are named.
-/
import Derived.Test.YthnneejkbobbcaaGreat
namespace Go.Proofs.Ythnneejkbobbcaa
open Go.RowKit Go.Maps Go.WideMaps
set_option maxRecDepth 100000

def Small (T : List Tri) : Prop := ∀ t ∈ T, t.b.length ≤ 65536
def SmallCh (c : Ch) : Prop := ∀ t, c = Ch.wr t → t.b.length ≤ 65536

theorem small_app {T : List Tri} {c : Ch} (hT : Small T) (hc : SmallCh c) : Small (c.app T) := by
  intro t ht
  rcases c.three with ⟨x, rfl⟩ | ⟨a, b, rfl⟩ | ⟨k, rfl⟩
  · rcases mem_put.1 ht with rfl | ⟨h1, _⟩
    · exact hc _ rfl
    · exact hT t h1
  · simp only [Ch.app] at ht
    split at ht
    · exact hT t ht
    · rename_i x hx
      rcases mem_put.1 ht with rfl | ⟨h1, _⟩
      · exact hT x (get_mem hx).1
      · exact hT t (mem_del.1 h1).1
  · exact hT t (mem_del.1 ht).1

theorem small_rep {ch : List Ch} {keep : List Bool} {Y : List Tri} (hY : Small Y) (hc : ∀ c ∈ ch, SmallCh c) : ∀ i, Small (rep ch keep Y i)
  | 0 => hY
  | i + 1 => by
    have ih := small_rep (keep := keep) hY hc i
    unfold rep
    split
    · rename_i c h1 h2
      exact small_app ih (hc c (List.mem_of_getElem? h1))
    · exact ih

/-- What k calls leave small. -/
structure Inv (k : Nat) (S : St) : Prop where
  a0 : 0 ≤ S.acts
  a1 : S.acts ≤ k
  f1 : S.fuse ≤ 9223372036854775807
  nc : S.n + S.ch.length ≤ 1000 + 2 * k
  sF : Small S.F
  sY : Small S.Y
  sC : ∀ c ∈ S.ch, SmallCh c

theorem Inv.fine {k : Nat} {S : St} (h : Inv k S) (hk : k ≤ 1000) : S.fine :=
  ⟨h.a0, by have := h.a1; omega, h.f1, by have := h.nc; omega, by have := h.nc; omega⟩

theorem Inv.more {k k' : Nat} {S : St} (h : Inv k S) (hk : k ≤ k') : Inv k' S :=
  ⟨h.a0, by have := h.a1; omega, h.f1, by have := h.nc; omega, h.sF, h.sY, h.sC⟩

theorem Inv.asked {k : Nat} {S : St} (h : Inv k S) : Inv k S.asked := ⟨h.a0, h.a1, h.f1, h.nc, h.sF, h.sY, h.sC⟩

theorem counted_fuse (S : St) : S.counted.fuse ≤ S.fuse := by
  unfold St.counted
  simp only
  split <;> omega

theorem Inv.counted {k : Nat} {S : St} (h : Inv k S) : Inv (k + 1) S.counted :=
  ⟨by have := h.a0; simp [St.counted]; omega, by have := h.a1; simp [St.counted]; omega, Int.le_trans (counted_fuse S) h.f1, by have := h.nc; simp [St.counted]; omega, h.sF, h.sY, h.sC⟩

theorem Inv.did {k : Nat} {S : St} {c : Ch} (h : Inv k S) (hc : SmallCh c) : Inv (k + 1) (S.did c) := by
  have h1 : 0 ≤ S.acts := h.a0
  have h2 := h.a1
  have h3 := h.nc
  refine ⟨by simp [St.did, St.counted]; omega, by simp [St.did, St.counted]; omega, Int.le_trans (counted_fuse _) h.f1, by simp [St.did, St.counted]; omega, small_app h.sF hc, h.sY, ?_⟩
  intro c' hc'
  rcases List.mem_append.1 hc' with h4 | h4
  · exact h.sC c' h4
  · simp at h4; subst h4; exact hc

theorem refuse_small {S : St} {k : List UInt8} {n : Nat} (h : S.refuse k n = 0) : n ≤ 65536 := by
  unfold St.refuse at h
  split at h
  · omega
  · split at h
    · omega
    · rename_i h1 h2
      omega

theorem Inv.does {k : Nat} {S : St} (h : Inv k S) (o : OpD) (v : Value) (hn : o.n ≤ 9223372036854775807) : Inv (k + 1) (S.does o v).2 := by
  have hA := h.asked
  have hA' := hA.more (Nat.le_succ k)
  have none_mv : ∀ a b, SmallCh (Ch.mv a b) := fun a b t e => by cases e
  have none_rm : ∀ a, SmallCh (Ch.rm a) := fun a t e => by cases e
  unfold St.does
  split
  · unfold St.write
    split
    · exact hA'
    · split
      · rename_i hr
        exact hA.did (fun t e => by cases e; exact refuse_small hr)
      · exact hA'
  · split
    · unfold St.rename
      split
      · exact hA'
      · split
        · exact hA'
        · split
          · exact hA'
          · exact hA.did (none_mv _ _)
    · split
      · unfold St.remove
        split
        · exact hA'
        · split
          · exact hA'
          · exact hA.did (none_rm _)
      · split
        · unfold St.sync
          split
          · exact hA'
          · refine Inv.counted (S := S.asked.settled) ⟨h.a0, h.a1, h.f1, by have := h.nc; simp [St.settled, St.asked]; omega, h.sF, h.sF, fun c hc => by simp [St.settled] at hc⟩
        · split
          · exact ⟨h.a0, by have := h.a1; simp [St.fused]; omega, by simp [St.fused]; omega, by have := h.nc; simp [St.fused]; omega, h.sF, h.sY, h.sC⟩
          · split
            · exact ⟨h.a0, by have := h.a1; simp [St.crash]; omega, by simp [St.crash], by have := h.nc; simp [St.crash]; omega, small_rep h.sY h.sC _, small_rep h.sY h.sC _, fun c hc => by simp [St.crash] at hc⟩
            · exact h.more (Nat.le_succ k)

theorem used_small {T : List Tri} (h : Small T) : used T ≤ T.length * 65536 := by
  induction T with
  | nil => simp [used]
  | cons x r ih =>
    have h1 := ih (fun t ht => h t (by simp [ht]))
    have h2 := h x (by simp)
    simp [used] at h1 ⊢
    omega

theorem Disk.used {w : World} {p : Nat} {M : Nat → Prop} {S : St} {k : Nat} (h : Disk w p M S) (hi : Inv k S) (hk : k ≤ 1000) : used S.F < 1099511627776 := by
  obtain ⟨bf, bs, ca, h, _⟩ := h
  have h1 := h.files.size_le
  rw [size_toD] at h1
  have h2 := used_small hi.sF
  have h3 := hi.nc
  have : S.F.length * 65536 ≤ 3000 * 65536 := Nat.mul_le_mul_right _ (by omega)
  omega

theorem Inv.new (room : Int) : Inv 0 (St.new room) :=
  ⟨by simp [St.new], by simp [St.new], by simp [St.new], by simp [St.new], fun t ht => by simp [St.new] at ht, fun t ht => by simp [St.new] at ht, fun c hc => by simp [St.new] at hc⟩

/-! ### a fuse -/
structure Fused (n : Int) (S : St) : Prop where
  sum : S.acts + S.fuse = n
  f0 : 0 ≤ S.fuse
  dn : S.down = true → S.fuse = 0

theorem Fused.asked {n : Int} {S : St} (h : Fused n S) : Fused n S.asked := by
  refine ⟨h.sum, h.f0, fun hd => ?_⟩
  simp [St.asked] at hd
  rcases hd with hd | hd
  · exact h.dn hd
  · exact hd

theorem Fused.counted {n : Int} {S : St} (h : Fused n S) (hd : S.asked.down = false) : Fused n S.counted := by
  have h1 := h.sum
  have h2 := h.f0
  simp [St.asked] at hd
  have h3 : 0 < S.fuse := by have := hd.2; omega
  refine ⟨?_, ?_, fun e => ?_⟩
  · simp [St.counted, h3]; omega
  · simp [St.counted, h3]; omega
  · simp [St.counted, hd.1] at e

theorem asked_asked (S : St) : S.asked.asked.down = S.asked.down := by
  simp [St.asked]

theorem Fused.did {n : Int} {S : St} {c : Ch} (h : Fused n S) (hd : S.asked.down = false) : Fused n (S.did c) :=
  Fused.counted (S := { S with F := c.app S.F, n := S.n + 1, ch := S.ch ++ [c] }) ⟨h.sum, h.f0, h.dn⟩ hd

theorem Fused.does {n : Int} {S : St} (h : Fused n S) (o : OpD) (v : Value) (hw : o.what < 5) : Fused n (S.does o v).2 := by
  have hA := h.asked
  unfold St.does
  split
  · unfold St.write
    split
    · exact hA
    · rename_i hd
      have hd' : S.asked.asked.down = false := by rw [asked_asked]; simpa using hd
      split
      · exact hA.did hd'
      · exact hA
  · split
    · unfold St.rename
      split
      · exact hA
      · rename_i hd
        have hd' : S.asked.asked.down = false := by rw [asked_asked]; simpa using hd
        split
        · exact hA
        · split
          · exact hA
          · exact hA.did hd'
    · split
      · unfold St.remove
        split
        · exact hA
        · rename_i hd
          have hd' : S.asked.asked.down = false := by rw [asked_asked]; simpa using hd
          split
          · exact hA
          · exact hA.did hd'
      · split
        · unfold St.sync
          split
          · exact hA
          · rename_i hd
            have hd' : S.asked.asked.down = false := by rw [asked_asked]; simpa using hd
            exact Fused.counted (S := S.asked.settled) ⟨hA.sum, hA.f0, hA.dn⟩ hd'
        · split
          · omega
          · split
            · omega
            · exact h

end Go.Proofs.Ythnneejkbobbcaa
