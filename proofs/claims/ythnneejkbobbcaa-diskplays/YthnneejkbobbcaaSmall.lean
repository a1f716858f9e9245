/-
  What is proved here: what the small methods of a disk do to it: power, count, Acts, Loose, has. No condition but that the disk lies in memory.
-/
import Derived.Test.YthnneejkbobbcaaDisk
namespace Go.Proofs.Ythnneejkbobbcaa
open Go.RowKit Go.Maps Go.WideMaps
set_option maxRecDepth 100000

theorem lawS : Keyed Try.prog 9 := string_keyed Try.underlying9
theorem zeroBS (w : World) : (zeroValue 33).run Try.prog w = .ok (.slice none 0 0) w := by kernel_rfl

theorem power_any (p bf bs : Nat) (ca : Value) (S : St) (w : World) (h : DiskAt w p bf bs ca S) :
    Calls Try.prog 43 #[.pointer (some ⟨p, 0, none⟩)] w fun e w' =>
      (S.fuse = 0 ∧ e = .returned (.int .i64 13) ∧ w' = w.setCell ⟨p, 6, none⟩ (.bool true)) ∨
      (S.fuse ≠ 0 ∧ S.down = true ∧ e = .returned (.int .i64 13) ∧ w' = w) ∨
      (S.fuse ≠ 0 ∧ S.down = false ∧ e = .returned (.int .i64 0) ∧ w' = w) := by
  obtain ⟨c0, c1, c2, c3, c4, c5, c6, z⟩ := h.cells
  have z6 := z 6
  clear z h
  by_cases hf : S.fuse = 0
  · have hf' : (S.fuse == 0) = true := by simpa using hf
    go_enter Try.func43, Try.ntmps43
    go_wp2
    go_ret
    exact Or.inl ⟨hf, rfl, rfl⟩
  · have hf' : (S.fuse == 0) = false := by simpa using hf
    cases hd : S.down <;> rw [hd] at c6
    · go_enter Try.func43, Try.ntmps43
      go_wp2
      go_ret
      exact Or.inr (Or.inr ⟨hf, trivial, rfl, rfl⟩)
    · go_enter Try.func43, Try.ntmps43
      go_wp2
      go_ret
      exact Or.inr (Or.inl ⟨hf, trivial, rfl, rfl⟩)

theorem count_any (p bf bs : Nat) (ca : Value) (S : St) (w : World) (h : DiskAt w p bf bs ca S) (ha : 0 ≤ S.acts) (ha' : S.acts < 1000000) (hf2 : S.fuse ≤ 9223372036854775807) :
    Calls Try.prog 47 #[.pointer (some ⟨p, 0, none⟩)] w fun e w' => e = .returned (.tuple #[]) ∧
      w' = if 0 < S.fuse then (w.setCell ⟨p, 4, none⟩ (.int .i64 (S.acts + 1))).setCell ⟨p, 5, none⟩ (.int .i64 (S.fuse - 1)) else w.setCell ⟨p, 4, none⟩ (.int .i64 (S.acts + 1)) := by
  obtain ⟨c0, c1, c2, c3, c4, c5, c6, z⟩ := h.cells
  have z4 := z 4
  have z5 := z 5
  clear z h
  by_cases hf : 0 < S.fuse
  · rw [if_pos hf]
    go_enter Try.func47, Try.ntmps47
    go_wp2
    go_end0
    exact ⟨rfl, rfl⟩
  · rw [if_neg hf]
    go_enter Try.func47, Try.ntmps47
    go_wp2
    go_end0
    exact ⟨rfl, rfl⟩

theorem acts_any (p bf bs : Nat) (ca : Value) (S : St) (w : World) (h : DiskAt w p bf bs ca S) :
    Calls Try.prog 15 #[.pointer (some ⟨p, 0, none⟩)] w fun e w' => e = .returned (.int .i64 S.acts) ∧ w' = w := by
  obtain ⟨c0, c1, c2, c3, c4, c5, c6, z⟩ := h.cells
  go_enter Try.func15, Try.ntmps15
  go_wp2
  go_ret
  exact ⟨rfl, rfl⟩

theorem loose_any (p bf bs : Nat) (ca : Value) (S : St) (w : World) (h : DiskAt w p bf bs ca S) :
    Calls Try.prog 17 #[.pointer (some ⟨p, 0, none⟩)] w fun e w' => e = .returned (.int .i64 S.ch.length) ∧ w' = w := by
  obtain ⟨c0, c1, c2, c3, c4, c5, c6, z⟩ := h.cells
  obtain ⟨fs, hr, _⟩ := h.changes
  have : ∃ a cap, ca = .slice a S.ch.length cap := by
    rcases hr.2 with ⟨hv, h0⟩ | ⟨g, cap, cur, hv, _⟩
    · exact ⟨none, 0, by rw [hv, h0]⟩
    · exact ⟨_, cap, hv⟩
  obtain ⟨a, cap, rfl⟩ := this
  clear hr h
  go_enter Try.func17, Try.ntmps17
  go_wp2
  go_ret
  exact ⟨rfl, rfl⟩

theorem has_any (p bf bs : Nat) (ca : Value) (S : St) (w : World) (h : DiskAt w p bf bs ca S) (s : ByteArray) (hs : s.size ≤ maxLen) :
    Calls Try.prog 26 #[.pointer (some ⟨p, 0, none⟩), .string s] w fun e w' => e = .returned (.bool (get S.F s.data.toList).isSome) ∧ w' = w := by
  obtain ⟨c0, c1, c2, c3, c4, c5, c6, z⟩ := h.cells
  have hown := h.files
  obtain ⟨v, ps, hrun, _⟩ := hown.look_ok lawS Try.underlying56 (zeroBS _) (zd := .held (.slice none 0 0)) (zp := []) rfl (keyOf_string_mk Try.underlying9 hs)
  rw [has_toD] at hrun
  clear hown h z
  go_enter Try.func26, Try.ntmps26
  go_wp2
  go_ret
  exact ⟨rfl, rfl⟩

end Go.Proofs.Ythnneejkbobbcaa
