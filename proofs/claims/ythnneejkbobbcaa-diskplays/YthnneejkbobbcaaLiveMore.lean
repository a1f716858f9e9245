/-
  What is proved here: more of the disk's calls, told by plain states. Conditions: as in the texts that this one stands on.
-/
import Derived.Test.YthnneejkbobbcaaInv
namespace Go.Proofs.Ythnneejkbobbcaa
open Go.RowKit Go.Maps Go.WideMaps
set_option maxRecDepth 100000

theorem live_does {w wi : World} {p k : Nat} {S : St} (h : Live w wi p S) (hi : Inv k S) (hk : k ≤ 1000) (o : OpD) (vb vk : Value) (ho : OpVal wi w.heap.size o vb vk) (hb : o.b.length < 200000) :
    Calls Try.prog 9 #[.pointer (some ⟨p, 0, none⟩), .agg #[.int .i64 o.what, .string o.a, .string o.to, vb, .int .i64 o.n, vk]] wi fun e w' => ∃ v, e = .returned (.int .i64 (S.does o v).1) ∧ Live w w' p (S.does o v).2 := by
  obtain ⟨M, h1, h2, h3⟩ := h
  refine (does_any p w.heap.size M S o vb vk wi h1 (hi.fine hk) h3 ho (h1.used hi hk) (by omega)).mono ?_
  rintro e w' ⟨v, e1, hst⟩
  exact ⟨v, e1, Live.step h2 h3 hst⟩

theorem live_fuse {w wi : World} {p : Nat} {S : St} (h : Live w wi p S) (n : Int) :
    Calls Try.prog 34 #[.pointer (some ⟨p, 0, none⟩), .int .i64 n] wi fun e w' => e = .returned (.tuple #[]) ∧ Live w w' p (S.fused n) := by
  obtain ⟨M, h1, h2, h3⟩ := h
  exact (fuse_any p M S n wi h1).mono fun _ _ ⟨e1, hst⟩ => ⟨e1, Live.step h2 h3 hst⟩

theorem live_down {w wi : World} {p : Nat} {S : St} (h : Live w wi p S) : Calls Try.prog 16 #[.pointer (some ⟨p, 0, none⟩)] wi fun e w' => e = .returned (.bool S.down) ∧ wi = w' := by
  obtain ⟨M, h1, h2, h3⟩ := h
  exact down_any p M S wi h1

theorem Live.fr {w wi : World} {p : Nat} {S : St} (h : Live w wi p S) : Fr None' w wi := by
  obtain ⟨_, _, h2, _⟩ := h
  exact h2

theorem Live.lower {w w1 wi : World} {p : Nat} {S : St} (hf : Fr None' w w1) (h : Live w1 wi p S) : Live w wi p S := by
  obtain ⟨M, h1, h2, h3⟩ := h
  exact ⟨M, h1, hf.then h2, fun k hk => Nat.le_trans hf.size (h3 k hk)⟩

end Go.Proofs.Ythnneejkbobbcaa
