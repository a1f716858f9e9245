/-
  What is proved here: what refusal answers, whatever the order in which its last test is reckoned. Condition: the disk lies in memory, its counts are small, and its files have fewer than 2^40 bytes.
-/
import Derived.Test.YthnneejkbobbcaaDo
import Derived.Deep.RegionHeld3
namespace Go.Proofs.Ythnneejkbobbcaa
open Go.RowKit Go.Maps Go.WideMaps
set_option maxRecDepth 100000

def lenAt (T : List Tri) (k : List UInt8) : Nat := match get T k with | some t => t.b.length | none => 0

def St.refuse (S : St) (k : List UInt8) (size : Nat) : Int :=
  if right k = false then 1 else if 65536 < size ∨ (get S.F k = none ∧ 512 ≤ S.F.length) then 2 else if S.room < (used S.F : Int) - lenAt S.F k + size then 11 else 0

theorem lenAt_le {T : List Tri} (hA : Apart T) (k : List UInt8) : lenAt T k ≤ used T := by
  have := used_del hA k
  unfold lenAt
  cases hg : get T k <;> simp [hg] at this ⊢
  omega

theorem DiskAt.drew {w : World} {p bf bs : Nat} {ca : Value} {S : St} (h : DiskAt w p bf bs ca S) : DiskAt w.drew p bf bs ca S := h.fresh (Fr.drew _ _)

theorem wrap_small {x : Int} (h0 : -4611686018427387904 ≤ x) (h1 : x ≤ 4611686018427387904) : IntKind.i64.wrap x = x := by
  rw [IntKind.wrap_i64]; omega

/-- The slice at a name. -/
theorem look_any {w : World} {p bf bs : Nat} {ca : Value} {S : St} (h : DiskAt w p bf bs ca S) (s : ByteArray) (hs : s.size ≤ maxLen) :
    ∃ a c, ∀ w', DiskAt w' p bf bs ca S → (Instr.lookup 56 (.map (some bf)) (.string s) false).run Try.prog w' = .ok (.slice a (lenAt S.F s.data.toList) c) w' := by
  have key : ∀ w', DiskAt w' p bf bs ca S → ∃ v ps, (Instr.lookup 56 (.map (some bf)) (.string s) false).run Try.prog w' = .ok v w' ∧ heldR v = some ((match get S.F s.data.toList with | some t => .held t.v | none => .held (.slice none 0 0)), ps) := fun w' h' => by
    obtain ⟨v, ps, hrun, hv⟩ := h'.files.lookup lawS Try.underlying56 (zeroBS _) (zd := .held (.slice none 0 0)) (zp := []) rfl (keyOf_string_mk Try.underlying9 hs)
    rw [atKey_toD] at hv
    exact ⟨v, ps, hrun, hv⟩
  unfold lenAt
  cases hg : get S.F s.data.toList with
  | none =>
    refine ⟨none, 0, fun w' h' => ?_⟩
    obtain ⟨v, ps, hrun, hv⟩ := key w' h'
    have e := heldR_eq hv
    rw [hg] at e; simp at e; subst e; exact hrun
  | some t =>
    obtain ⟨a, c, hvv⟩ := row_slice (h.dataF t (get_mem hg).1)
    refine ⟨a, c, fun w' h' => ?_⟩
    obtain ⟨v, ps, hrun, hv⟩ := key w' h'
    have e := heldR_eq hv
    rw [hg] at e; simp at e
    rw [← e, hvv] at hrun
    exact hrun

set_option maxHeartbeats 2000000 in
theorem refusal_any (p bf bs : Nat) (ca : Value) (S : St) (s : ByteArray) (size : Nat) (w : World) (h : DiskAt w p bf bs ca S) (hs : s.size ≤ maxLen) (hu : used S.F < 1099511627776) (hsz : size < 1099511627776) :
    Calls Try.prog 44 #[.pointer (some ⟨p, 0, none⟩), .string s, .int .i64 size] w fun e w' => e = .returned (.int .i64 (S.refuse s.data.toList size)) ∧ Fr None' w w' := by
  have hN := isName_any s w hs
  cases hr : right s.data.toList
  · have hret : S.refuse s.data.toList size = 1 := by simp [St.refuse, hr]
    rw [hr] at hN
    go_enter Try.func44, Try.ntmps44
    go_wp2_with (first
      | (go_at_call 25; refine hN.mono ?_; rintro e w' ⟨rfl, rfl⟩))
    go_ret
    exact ⟨by first | rfl | (rw [hret]; rfl), Fr.refl _ _⟩
  rw [hr] at hN
  by_cases hbig : 65536 < size
  · have hret : S.refuse s.data.toList size = 2 := by simp [St.refuse, hr, hbig]
    go_enter Try.func44, Try.ntmps44
    go_wp2_with (first
      | (go_at_call 25; refine hN.mono ?_; rintro e w' ⟨rfl, rfl⟩))
    go_ret
    exact ⟨by first | rfl | (rw [hret]; rfl), Fr.refl _ _⟩
  have hH := has_any p bf bs ca S w h s hs
  have hlen := fun ty => h.files.len Try.underlying56 ty
  rw [size_toD] at hlen
  obtain ⟨c0, c1, _⟩ := h.cells
  by_cases hmany : get S.F s.data.toList = none ∧ 512 ≤ S.F.length
  · have hret : S.refuse s.data.toList size = 2 := by simp [St.refuse, hr, hmany.1, hmany.2]
    obtain ⟨hg, hl⟩ := hmany
    rw [hg] at hH
    go_enter Try.func44, Try.ntmps44
    go_wp2_with (first
      | (go_at_call 25; refine hN.mono ?_; rintro e w' ⟨rfl, rfl⟩)
      | (go_at_call 26; refine hH.mono ?_; rintro e w' ⟨rfl, rfl⟩))
    go_ret
    exact ⟨by first | rfl | (rw [hret]; rfl), Fr.refl _ _⟩
  obtain ⟨la, lc, hlook⟩ := look_any h s hs
  have hA := apart_of_tidy (h.files.tidy lawS)
  have hle := lenAt_le hA s.data.toList
  have hret : S.refuse s.data.toList size = if S.room < (used S.F : Int) - lenAt S.F s.data.toList + size then 11 else 0 := by
    unfold St.refuse
    rw [if_neg (by simp [hr]), if_neg (by rintro (h1 | h1); exact hbig h1; exact hmany h1)]
  have hU : ∀ w', DiskAt w' p bf bs ca S → Calls Try.prog 13 #[.pointer (some ⟨p, 0, none⟩)] w' fun e w'' => e = .returned (.int .i64 (used S.F)) ∧ Fr None' w' w'' ∧ DiskAt w'' p bf bs ca S := fun w' h' =>
    (used_any p bf bs ca S w' h' (by omega)).mono fun e w'' ⟨h1, h2⟩ => ⟨h1, h2, h'.fresh h2⟩
  have hcells : ∀ w', DiskAt w' p bf bs ca S → w'.cell? ⟨p, 0, none⟩ = some (.int .i64 S.room) ∧ w'.cell? ⟨p, 1, none⟩ = some (.map (some bf)) := fun w' h' => ⟨h'.cells.1, h'.cells.2.1⟩
  have hK : ∀ w', DiskAt w' p bf bs ca S → DiskAt w' p bf bs ca S ∧ w'.cell? ⟨p, 0, none⟩ = some (.int .i64 S.room) ∧ w'.cell? ⟨p, 1, none⟩ = some (.map (some bf)) ∧ (Instr.lookup 56 (.map (some bf)) (.string s) false).run Try.prog w' = .ok (.slice la (lenAt S.F s.data.toList) lc) w' :=
    fun w' h' => ⟨h', (hcells w' h').1, (hcells w' h').2, hlook w' h'⟩
  clear hcells hlook
  rw [hret]
  clear hret
  generalize hL : lenAt S.F s.data.toList = L at *
  generalize hUU : used S.F = U at *
  have hwrap : IntKind.i64.wrap (IntKind.i64.wrap ((U : Int) - L) + size) = U - L + size := by
    have e1 : IntKind.i64.wrap ((U : Int) - L) = U - L := wrap_small (by omega) (by omega)
    rw [e1]
    exact wrap_small (by omega) (by omega)
  have fin : ∀ w2, Fr None' w.drew w2 → Fr None' w w2 ∧ Fr None' w w2.drew := fun w2 f => ⟨(Fr.drew _ _).trans f (fun _ e => Or.inl e), ((Fr.drew _ _).trans f (fun _ e => Or.inl e)).trans (Fr.drew _ _) (fun _ (e : None' _) => Or.inl e)⟩
  by_cases hroom : S.room < (U : Int) - L + size
  · rw [if_pos hroom]
    cases hg : (get S.F s.data.toList).isSome
    · rw [hg] at hH
      have hl : S.F.length < 512 := by
        rcases Nat.lt_or_ge S.F.length 512 with h1 | h1
        · exact h1
        · exact absurd ⟨by simpa using hg, h1⟩ hmany
      clear hmany hg hL hUU hA
      go_enter Try.func44, Try.ntmps44
      go_wp2_with (first
        | (go_at_call 25; refine hN.mono ?_; rintro e w1 ⟨rfl, hw⟩; have hw := hw.symm; subst hw)
        | (go_at_call 26; refine hH.mono ?_; rintro e w1 ⟨rfl, hw⟩; have hw := hw.symm; subst hw))
      go_region_held3 (fun w' => DiskAt w' p bf bs ca S ∧ w'.cell? ⟨p, 0, none⟩ = some (.int .i64 S.room) ∧ w'.cell? ⟨p, 1, none⟩ = some (.map (some bf)) ∧ (Instr.lookup 56 (.map (some bf)) (.string s) false).run Try.prog w' = .ok (.slice la L lc) w')
        (first | exact hK _ (by assumption) | exact hK _ (DiskAt.drew (by assumption)))
        (first | (go_at_call 13; refine (hU _ ?_).mono ?_; (first | assumption | exact DiskAt.drew (by assumption)); rintro e w2 ⟨rfl, f2, h2⟩))
      all_goals go_wp2
      all_goals go_ret
      all_goals exact ⟨rfl, by first | exact (fin _ f2).1 | exact (fin _ f2).2⟩
    · rw [hg] at hH
      clear hmany hg hL hUU hA
      go_enter Try.func44, Try.ntmps44
      go_wp2_with (first
        | (go_at_call 25; refine hN.mono ?_; rintro e w1 ⟨rfl, hw⟩; have hw := hw.symm; subst hw)
        | (go_at_call 26; refine hH.mono ?_; rintro e w1 ⟨rfl, hw⟩; have hw := hw.symm; subst hw))
      go_region_held3 (fun w' => DiskAt w' p bf bs ca S ∧ w'.cell? ⟨p, 0, none⟩ = some (.int .i64 S.room) ∧ w'.cell? ⟨p, 1, none⟩ = some (.map (some bf)) ∧ (Instr.lookup 56 (.map (some bf)) (.string s) false).run Try.prog w' = .ok (.slice la L lc) w')
        (first | exact hK _ (by assumption) | exact hK _ (DiskAt.drew (by assumption)))
        (first | (go_at_call 13; refine (hU _ ?_).mono ?_; (first | assumption | exact DiskAt.drew (by assumption)); rintro e w2 ⟨rfl, f2, h2⟩))
      all_goals go_wp2
      all_goals go_ret
      all_goals exact ⟨rfl, by first | exact (fin _ f2).1 | exact (fin _ f2).2⟩
  · rw [if_neg hroom]
    cases hg : (get S.F s.data.toList).isSome
    · rw [hg] at hH
      have hl : S.F.length < 512 := by
        rcases Nat.lt_or_ge S.F.length 512 with h1 | h1
        · exact h1
        · exact absurd ⟨by simpa using hg, h1⟩ hmany
      clear hmany hg hL hUU hA
      go_enter Try.func44, Try.ntmps44
      go_wp2_with (first
        | (go_at_call 25; refine hN.mono ?_; rintro e w1 ⟨rfl, hw⟩; have hw := hw.symm; subst hw)
        | (go_at_call 26; refine hH.mono ?_; rintro e w1 ⟨rfl, hw⟩; have hw := hw.symm; subst hw))
      go_region_held3 (fun w' => DiskAt w' p bf bs ca S ∧ w'.cell? ⟨p, 0, none⟩ = some (.int .i64 S.room) ∧ w'.cell? ⟨p, 1, none⟩ = some (.map (some bf)) ∧ (Instr.lookup 56 (.map (some bf)) (.string s) false).run Try.prog w' = .ok (.slice la L lc) w')
        (first | exact hK _ (by assumption) | exact hK _ (DiskAt.drew (by assumption)))
        (first | (go_at_call 13; refine (hU _ ?_).mono ?_; (first | assumption | exact DiskAt.drew (by assumption)); rintro e w2 ⟨rfl, f2, h2⟩))
      all_goals go_wp2
      all_goals go_ret
      all_goals exact ⟨rfl, by first | exact (fin _ f2).1 | exact (fin _ f2).2⟩
    · rw [hg] at hH
      clear hmany hg hL hUU hA
      go_enter Try.func44, Try.ntmps44
      go_wp2_with (first
        | (go_at_call 25; refine hN.mono ?_; rintro e w1 ⟨rfl, hw⟩; have hw := hw.symm; subst hw)
        | (go_at_call 26; refine hH.mono ?_; rintro e w1 ⟨rfl, hw⟩; have hw := hw.symm; subst hw))
      go_region_held3 (fun w' => DiskAt w' p bf bs ca S ∧ w'.cell? ⟨p, 0, none⟩ = some (.int .i64 S.room) ∧ w'.cell? ⟨p, 1, none⟩ = some (.map (some bf)) ∧ (Instr.lookup 56 (.map (some bf)) (.string s) false).run Try.prog w' = .ok (.slice la L lc) w')
        (first | exact hK _ (by assumption) | exact hK _ (DiskAt.drew (by assumption)))
        (first | (go_at_call 13; refine (hU _ ?_).mono ?_; (first | assumption | exact DiskAt.drew (by assumption)); rintro e w2 ⟨rfl, f2, h2⟩))
      all_goals go_wp2
      all_goals go_ret
      all_goals exact ⟨rfl, by first | exact (fin _ f2).1 | exact (fin _ f2).2⟩

end Go.Proofs.Ythnneejkbobbcaa
