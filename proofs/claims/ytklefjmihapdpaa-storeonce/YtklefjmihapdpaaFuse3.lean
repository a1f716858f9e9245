/-
  What is proved here: what Fuse does; and SetRoot of the name that a Put answered, as any crash sees it. Conditions: as in the texts that this one stands on.
-/
import Derived.Test.YtklefjmihapdpaaOnce3
namespace Go.Proofs.Ytklefjmihapdpaa
open Go.RowKit Go.Maps Go.WideMaps
set_option maxRecDepth 100000

def St.fused (S : St) (n : Int) : St := { S with fuse := max n (-1) }

theorem fuse_any (p : Nat) (M : Nat → Prop) (S : St) (n : Int) (w : World) (h : Disk w p M S) :
    Calls Try.prog 10 #[.pointer (some ⟨p, 0, none⟩), .int .i64 n] w fun e w' => e = .returned (.tuple #[]) ∧ Stepped M w p (S.fused n) w' := by
  obtain ⟨bf, bs, ca, h, rfl⟩ := h
  obtain ⟨c0, c1, c2, c3, c4, c5, c6, z⟩ := h.cells
  have z5 := z 5
  clear z c0 c1 c2 c3 c4 c6
  go_enter Try.func10, Try.ntmps10
  go_wp2
  go_end0
  exact ⟨rfl, _, (h.field (S' := S.fused n) rfl rfl rfl rfl rfl).disk, Fr.setCell w (a := ⟨p, 5, none⟩) (Or.inl rfl) _, fun k hk => Or.inl hk⟩

theorem fuse_told {w wi : World} {p : Nat} {S : St} (h : Live w wi p S) (n : Int) :
    Calls Try.prog 10 #[.pointer (some ⟨p, 0, none⟩), .int .i64 n] wi fun e w' => e = .returned (.tuple #[]) ∧ Live w w' p (S.fused n) := by
  obtain ⟨M, h1, h2, h3⟩ := h
  exact (fuse_any p M S n wi h1).mono fun _ _ ⟨e1, hst⟩ => ⟨e1, Live.step h2 h3 hst⟩

theorem Inv.fused {k : Nat} {S : St} (h : Inv k S) (n : Int) (hn : n ≤ 9223372036854775807) : Inv k (S.fused n) :=
  ⟨h.a0, h.a1, by simp [St.fused]; omega, h.nc, h.sF, h.sY, h.sC⟩

theorem namedB_nil : Sha.namedB [] = false := by decide

theorem set_once {w wi : World} {p k : Nat} {S : St} {old next : List UInt8} (h : Live w wi p S) (hi : Inv k S) (hk : k + 5 ≤ 1000) (hR : Reps (RootIs (nm old) old) S) (l : List UInt8) (hl : (l = nm next ∧ Has (fileK (nm next)) next S.F) ∨ l = []) :
    Calls Try.prog 9 #[.pointer (some ⟨p, 0, none⟩), .string ⟨l.toArray⟩] wi fun e w' => ∃ r T, e = .returned (.int .i64 r) ∧ Live w w' p T ∧ Inv (k + 5) T ∧ Reps (fun F => RootIs (nm old) old F ∨ RootIs (nm next) next F) T ∧ (r = 0 → Reps (RootIs (nm next) next) T) := by
  rcases hl with ⟨rfl, hH⟩ | rfl
  · refine (setRoot_yes h hi hk (nm next) (namedB_nm next)).mono ?_
    rintro e w' ⟨v, r, T, rfl, hE, hL, _⟩
    obtain ⟨h1, h2⟩ := once hR hH hE
    refine ⟨r, T, rfl, hL, ?_, h1, h2⟩
    obtain ⟨j, hj, _, h | h⟩ := hE
    · obtain ⟨_, _, rfl⟩ := h
      exact hi.after (nm next) v 5
    · obtain ⟨_, _, _, rfl⟩ := h
      exact (hi.after (nm next) v (j + 1)).more (by omega)
  · refine (setRoot_no h [] (by simp) namedB_nil).mono ?_
    rintro e w' ⟨rfl, hL⟩
    exact ⟨1, S, rfl, hL, hi.more (by omega), hR.mono (fun _ e => Or.inl e), fun e => by omega⟩

/-- Behind the crash. -/
theorem crash_reads {S : St} {keep : List Bool} {b : List UInt8} (h : RootIs (nm b) b (S.crash keep).F) : (S.crash keep).rootB = (nm b, 0) ∧ (S.crash keep).getB (nm b) = (b, 0) := by
  have hc : Calm (S.crash keep) := ⟨rfl, rfl⟩
  obtain ⟨⟨t, h1, h2⟩, u, h3, h4⟩ := h
  refine ⟨?_, ?_⟩
  · rw [← h2]
    exact root_ok hc h1 (by rw [h2]; exact namedB_nm b)
  · have := get_ok hc (namedB_nm b) h3 (by rw [h4])
    rw [h4] at this
    exact this
end Go.Proofs.Ytklefjmihapdpaa
