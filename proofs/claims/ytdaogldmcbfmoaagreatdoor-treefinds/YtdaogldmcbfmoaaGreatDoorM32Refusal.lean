/-
  What is proved here: the contracts that the statement stands on: Refusal, Write, Rest, Crash. Conditions: as each theorem names them.
-/
import Derived.Test.YtdaogldmcbfmoaaGreatDoorM31Disk
import Derived.Deep.RegionHeld3
namespace Go.Proofs.YtdaogldmcbfmoaaGreatDoor
open Go.RowKit Go.Maps Go.WideMaps
set_option maxRecDepth 100000

def lenAt (T : List Tri) (k : List UInt8) : Nat := match get T k with | some t => t.b.length | none => 0

def St.refuse (S : St) (k : List UInt8) (size : Nat) : Int :=
  if right k = false then 1 else if 65536 < size ∨ (get S.F k = none ∧ 512 ≤ S.F.length) then 2 else if S.room < (used S.F : Int) - lenAt S.F k + size then 11 else 0

theorem lenAt_le {T : List Tri} (hA : Apart T) (k : List UInt8) : lenAt T k ≤ used T := by
  have := used_del hA k
  unfold lenAt
  cases hg : get T k <;> simp [hg] at this ⊢
  omega

theorem DiskAt.drew {w : World} {p bf bs : Nat} {ca : Value} {S : St} (h : DiskAt w p bf bs ca S) : DiskAt w.drew p bf bs ca S := h.fresh (Fr.drew _ _)

theorem wrap_small {x : Int} (h0 : -4611686018427387904 ≤ x) (h1 : x ≤ 4611686018427387904) : IntKind.i64.wrap x = x := by
  rw [IntKind.wrap_i64]; omega

/-- The slice at a name. -/
theorem look_any {w : World} {p bf bs : Nat} {ca : Value} {S : St} (h : DiskAt w p bf bs ca S) (s : ByteArray) (hs : s.size ≤ maxLen) :
    ∃ a c, ∀ w', DiskAt w' p bf bs ca S → (Instr.lookup 62 (.map (some bf)) (.string s) false).run Tryz.prog w' = .ok (.slice a (lenAt S.F s.data.toList) c) w' := by
  have key : ∀ w', DiskAt w' p bf bs ca S → ∃ v ps, (Instr.lookup 62 (.map (some bf)) (.string s) false).run Tryz.prog w' = .ok v w' ∧ heldR v = some ((match get S.F s.data.toList with | some t => .held t.v | none => .held (.slice none 0 0)), ps) := fun w' h' => by
    obtain ⟨v, ps, hrun, hv⟩ := h'.files.lookup lawS Tryz.underlying62 (zeroBS _) (zd := .held (.slice none 0 0)) (zp := []) rfl (keyOf_string_mk Tryz.underlying9 hs)
    rw [atKey_toD] at hv
    exact ⟨v, ps, hrun, hv⟩
  unfold lenAt
  cases hg : get S.F s.data.toList with
  | none =>
    refine ⟨none, 0, fun w' h' => ?_⟩
    obtain ⟨v, ps, hrun, hv⟩ := key w' h'
    have e := heldR_eq hv
    rw [hg] at e; simp at e; subst e; exact hrun
  | some t =>
    obtain ⟨a, c, hvv⟩ := row_slice (h.dataF t (get_mem hg).1)
    refine ⟨a, c, fun w' h' => ?_⟩
    obtain ⟨v, ps, hrun, hv⟩ := key w' h'
    have e := heldR_eq hv
    rw [hg] at e; simp at e
    rw [← e, hvv] at hrun
    exact hrun

set_option maxHeartbeats 2000000 in
theorem refusal_any (p bf bs : Nat) (ca : Value) (S : St) (s : ByteArray) (size : Nat) (w : World) (h : DiskAt w p bf bs ca S) (hs : s.size ≤ maxLen) (hu : used S.F < 1099511627776) (hsz : size < 1099511627776) :
    Calls Tryz.prog 112 #[.pointer (some ⟨p, 0, none⟩), .string s, .int .i64 size] w fun e w' => e = .returned (.int .i64 (S.refuse s.data.toList size)) ∧ Fr None' w w' := by
  have hN := isName_any s w hs
  cases hr : right s.data.toList
  · have hret : S.refuse s.data.toList size = 1 := by simp [St.refuse, hr]
    rw [hr] at hN
    go_enter Tryz.func112, Tryz.ntmps112
    go_wp2_with (first
      | (go_at_call 28; refine hN.mono ?_; rintro e w' ⟨rfl, rfl⟩))
    go_ret
    exact ⟨by first | rfl | (rw [hret]; rfl), Fr.refl _ _⟩
  rw [hr] at hN
  by_cases hbig : 65536 < size
  · have hret : S.refuse s.data.toList size = 2 := by simp [St.refuse, hr, hbig]
    go_enter Tryz.func112, Tryz.ntmps112
    go_wp2_with (first
      | (go_at_call 28; refine hN.mono ?_; rintro e w' ⟨rfl, rfl⟩))
    go_ret
    exact ⟨by first | rfl | (rw [hret]; rfl), Fr.refl _ _⟩
  have hH := has_any p bf bs ca S w h s hs
  have hlen := fun ty => h.files.len Tryz.underlying62 ty
  rw [size_toD] at hlen
  obtain ⟨c0, c1, _⟩ := h.cells
  by_cases hmany : get S.F s.data.toList = none ∧ 512 ≤ S.F.length
  · have hret : S.refuse s.data.toList size = 2 := by simp [St.refuse, hr, hmany.1, hmany.2]
    obtain ⟨hg, hl⟩ := hmany
    rw [hg] at hH
    go_enter Tryz.func112, Tryz.ntmps112
    go_wp2_with (first
      | (go_at_call 28; refine hN.mono ?_; rintro e w' ⟨rfl, rfl⟩)
      | (go_at_call 29; refine hH.mono ?_; rintro e w' ⟨rfl, rfl⟩))
    go_ret
    exact ⟨by first | rfl | (rw [hret]; rfl), Fr.refl _ _⟩
  obtain ⟨la, lc, hlook⟩ := look_any h s hs
  have hA := apart_of_tidy (h.files.tidy lawS)
  have hle := lenAt_le hA s.data.toList
  have hret : S.refuse s.data.toList size = if S.room < (used S.F : Int) - lenAt S.F s.data.toList + size then 11 else 0 := by
    unfold St.refuse
    rw [if_neg (by simp [hr]), if_neg (by rintro (h1 | h1); exact hbig h1; exact hmany h1)]
  have hU : ∀ w', DiskAt w' p bf bs ca S → Calls Tryz.prog 146 #[.pointer (some ⟨p, 0, none⟩)] w' fun e w'' => e = .returned (.int .i64 (used S.F)) ∧ Fr None' w' w'' ∧ DiskAt w'' p bf bs ca S := fun w' h' =>
    (used_any p bf bs ca S w' h' (by omega)).mono fun e w'' ⟨h1, h2⟩ => ⟨h1, h2, h'.fresh h2⟩
  have hcells : ∀ w', DiskAt w' p bf bs ca S → w'.cell? ⟨p, 0, none⟩ = some (.int .i64 S.room) ∧ w'.cell? ⟨p, 1, none⟩ = some (.map (some bf)) := fun w' h' => ⟨h'.cells.1, h'.cells.2.1⟩
  have hK : ∀ w', DiskAt w' p bf bs ca S → DiskAt w' p bf bs ca S ∧ w'.cell? ⟨p, 0, none⟩ = some (.int .i64 S.room) ∧ w'.cell? ⟨p, 1, none⟩ = some (.map (some bf)) ∧ (Instr.lookup 62 (.map (some bf)) (.string s) false).run Tryz.prog w' = .ok (.slice la (lenAt S.F s.data.toList) lc) w' :=
    fun w' h' => ⟨h', (hcells w' h').1, (hcells w' h').2, hlook w' h'⟩
  clear hcells hlook
  rw [hret]
  clear hret
  generalize hL : lenAt S.F s.data.toList = L at *
  generalize hUU : used S.F = U at *
  have hwrap : IntKind.i64.wrap (IntKind.i64.wrap ((U : Int) - L) + size) = U - L + size := by
    have e1 : IntKind.i64.wrap ((U : Int) - L) = U - L := wrap_small (by omega) (by omega)
    rw [e1]
    exact wrap_small (by omega) (by omega)
  have fin : ∀ w2, Fr None' w.drew w2 → Fr None' w w2 ∧ Fr None' w w2.drew := fun w2 f => ⟨(Fr.drew _ _).trans f (fun _ e => Or.inl e), ((Fr.drew _ _).trans f (fun _ e => Or.inl e)).trans (Fr.drew _ _) (fun _ (e : None' _) => Or.inl e)⟩
  by_cases hroom : S.room < (U : Int) - L + size
  · rw [if_pos hroom]
    cases hg : (get S.F s.data.toList).isSome
    · rw [hg] at hH
      have hl : S.F.length < 512 := by
        rcases Nat.lt_or_ge S.F.length 512 with h1 | h1
        · exact h1
        · exact absurd ⟨by simpa using hg, h1⟩ hmany
      clear hmany hg hL hUU hA
      go_enter Tryz.func112, Tryz.ntmps112
      go_wp2_with (first
        | (go_at_call 28; refine hN.mono ?_; rintro e w1 ⟨rfl, hw⟩; have hw := hw.symm; subst hw)
        | (go_at_call 29; refine hH.mono ?_; rintro e w1 ⟨rfl, hw⟩; have hw := hw.symm; subst hw))
      go_region_held3 (fun w' => DiskAt w' p bf bs ca S ∧ w'.cell? ⟨p, 0, none⟩ = some (.int .i64 S.room) ∧ w'.cell? ⟨p, 1, none⟩ = some (.map (some bf)) ∧ (Instr.lookup 62 (.map (some bf)) (.string s) false).run Tryz.prog w' = .ok (.slice la L lc) w')
        (first | exact hK _ (by assumption) | exact hK _ (DiskAt.drew (by assumption)))
        (first | (go_at_call 146; refine (hU _ ?_).mono ?_; (first | assumption | exact DiskAt.drew (by assumption)); rintro e w2 ⟨rfl, f2, h2⟩))
      all_goals go_wp2
      all_goals go_ret
      all_goals exact ⟨rfl, by first | exact (fin _ f2).1 | exact (fin _ f2).2⟩
    · rw [hg] at hH
      clear hmany hg hL hUU hA
      go_enter Tryz.func112, Tryz.ntmps112
      go_wp2_with (first
        | (go_at_call 28; refine hN.mono ?_; rintro e w1 ⟨rfl, hw⟩; have hw := hw.symm; subst hw)
        | (go_at_call 29; refine hH.mono ?_; rintro e w1 ⟨rfl, hw⟩; have hw := hw.symm; subst hw))
      go_region_held3 (fun w' => DiskAt w' p bf bs ca S ∧ w'.cell? ⟨p, 0, none⟩ = some (.int .i64 S.room) ∧ w'.cell? ⟨p, 1, none⟩ = some (.map (some bf)) ∧ (Instr.lookup 62 (.map (some bf)) (.string s) false).run Tryz.prog w' = .ok (.slice la L lc) w')
        (first | exact hK _ (by assumption) | exact hK _ (DiskAt.drew (by assumption)))
        (first | (go_at_call 146; refine (hU _ ?_).mono ?_; (first | assumption | exact DiskAt.drew (by assumption)); rintro e w2 ⟨rfl, f2, h2⟩))
      all_goals go_wp2
      all_goals go_ret
      all_goals exact ⟨rfl, by first | exact (fin _ f2).1 | exact (fin _ f2).2⟩
  · rw [if_neg hroom]
    cases hg : (get S.F s.data.toList).isSome
    · rw [hg] at hH
      have hl : S.F.length < 512 := by
        rcases Nat.lt_or_ge S.F.length 512 with h1 | h1
        · exact h1
        · exact absurd ⟨by simpa using hg, h1⟩ hmany
      clear hmany hg hL hUU hA
      go_enter Tryz.func112, Tryz.ntmps112
      go_wp2_with (first
        | (go_at_call 28; refine hN.mono ?_; rintro e w1 ⟨rfl, hw⟩; have hw := hw.symm; subst hw)
        | (go_at_call 29; refine hH.mono ?_; rintro e w1 ⟨rfl, hw⟩; have hw := hw.symm; subst hw))
      go_region_held3 (fun w' => DiskAt w' p bf bs ca S ∧ w'.cell? ⟨p, 0, none⟩ = some (.int .i64 S.room) ∧ w'.cell? ⟨p, 1, none⟩ = some (.map (some bf)) ∧ (Instr.lookup 62 (.map (some bf)) (.string s) false).run Tryz.prog w' = .ok (.slice la L lc) w')
        (first | exact hK _ (by assumption) | exact hK _ (DiskAt.drew (by assumption)))
        (first | (go_at_call 146; refine (hU _ ?_).mono ?_; (first | assumption | exact DiskAt.drew (by assumption)); rintro e w2 ⟨rfl, f2, h2⟩))
      all_goals go_wp2
      all_goals go_ret
      all_goals exact ⟨rfl, by first | exact (fin _ f2).1 | exact (fin _ f2).2⟩
    · rw [hg] at hH
      clear hmany hg hL hUU hA
      go_enter Tryz.func112, Tryz.ntmps112
      go_wp2_with (first
        | (go_at_call 28; refine hN.mono ?_; rintro e w1 ⟨rfl, hw⟩; have hw := hw.symm; subst hw)
        | (go_at_call 29; refine hH.mono ?_; rintro e w1 ⟨rfl, hw⟩; have hw := hw.symm; subst hw))
      go_region_held3 (fun w' => DiskAt w' p bf bs ca S ∧ w'.cell? ⟨p, 0, none⟩ = some (.int .i64 S.room) ∧ w'.cell? ⟨p, 1, none⟩ = some (.map (some bf)) ∧ (Instr.lookup 62 (.map (some bf)) (.string s) false).run Tryz.prog w' = .ok (.slice la L lc) w')
        (first | exact hK _ (by assumption) | exact hK _ (DiskAt.drew (by assumption)))
        (first | (go_at_call 146; refine (hU _ ?_).mono ?_; (first | assumption | exact DiskAt.drew (by assumption)); rintro e w2 ⟨rfl, f2, h2⟩))
      all_goals go_wp2
      all_goals go_ret
      all_goals exact ⟨rfl, by first | exact (fin _ f2).1 | exact (fin _ f2).2⟩

end Go.Proofs.YtdaogldmcbfmoaaGreatDoor

namespace Go.Proofs.YtdaogldmcbfmoaaGreatDoor
open Go.RowKit Go.Maps Go.WideMaps
set_option maxRecDepth 100000

def Out (M : Nat → Prop) (v : Value) : Prop := ∀ ad n c, v = .slice (some ad) n c → n ≠ 0 → ¬ M ad.block

theorem add_block (a : Addr) (j : Nat) : (a.add j).block = a.block := by unfold Addr.add; split <;> rfl

theorem Bytes.kept {M : Nat → Prop} {w w' : World} {v : Value} {b : List UInt8} (h : Bytes w v b) (hf : Fr M w w') (hM : Out M v) : Bytes w' v b := by
  rcases h with h | ⟨ad, c, hv, hc⟩
  · exact Or.inl h
  · refine Or.inr ⟨ad, c, hv, fun j u hj => ?_⟩
    have h1 := hc j u hj
    have hlt : (ad.add j).block < w.heap.size := by
      unfold World.cell? at h1
      split at h1
      · rename_i hk; exact lt_of_some hk
      · cases h1
    rw [World.cell?_of_block (w := w) (hf.block _ hlt (by rw [add_block]; exact hM ad _ _ hv (fun e0 => by have := (List.getElem?_eq_some_iff.1 hj).1; simp [u8s] at this; omega)))]
    exact h1

/-- Write. -/
def St.write (S : St) (t : Tri) : Int × St :=
  if S.asked.down then (13, S.asked) else if S.asked.refuse t.k t.b.length = 0 then (0, S.asked.did (Ch.wr t)) else (S.asked.refuse t.k t.b.length, S.asked)

theorem makeFunc_run : ∀ (fn : Fn) (first cap : Array Value) (w : World), (Instr.makeFunc fn first cap).run Tryz.prog w = .ok (.func fn first cap) w := fun _ _ _ _ => rfl

theorem named_new (w : World) (s : ByteArray) (hs : s.size ≤ maxLen) : Named (w.alloc (.cells #[.string s] 9)) w.heap.size s.data.toList := ⟨s, (MapKept.heap_alloc w _).1, rfl, hs⟩

theorem named_cell' {w : World} {b : Nat} {s : ByteArray} (h : w.heap[b]? = some (.cells #[.string s] 9)) : w.cell? ⟨b, 0, none⟩ = some (.string s) := by simp [World.cell?, h]

theorem clo_new {w : World} {nb : Nat} (s : ByteArray) (b : List UInt8) (a : Option Addr) (c : Nat) (hs : s.size ≤ maxLen) (hn : w.heap[nb]? = some (.cells #[.string s] 9)) (hd : Data w (.slice a b.length c) b) :
    Clo (w.alloc (.cells #[.slice a b.length c] 57)) (.func (.func 114) #[] #[.pointer (some ⟨w.heap.size, 0, none⟩), .pointer (some ⟨nb, 0, none⟩)]) (Ch.wr ⟨s.data.toList, .slice a b.length c, b⟩) :=
  ⟨_, _, rfl, (MapKept.heap_alloc w _).1, ⟨s, (Fr.alloc None' w _).at hn (fun e => e), rfl, hs⟩, (Fr.alloc None' w _).data (fun _ _ _ _ _ hm => hm.elim) hd⟩

set_option maxHeartbeats 2000000 in
theorem write_any (p : Nat) (M : Nat → Prop) (S : St) (s : ByteArray) (v : Value) (b : List UInt8) (w : World) (h : Disk w p M S) (hS : S.fine) (hs : s.size ≤ maxLen) (hv : Bytes w v b) (hM : Out M v)
    (hu : used S.F < 1099511627776) (hb : b.length < 1099511627776) :
    Calls Tryz.prog 76 #[.pointer (some ⟨p, 0, none⟩), .string s, v] w fun e w' => ∃ v', e = .returned (.int .i64 (S.write ⟨s.data.toList, v', b⟩).1) ∧ Stepped M w p (S.write ⟨s.data.toList, v', b⟩).2 w' := by
  obtain ⟨bf, bs, ca, h, rfl⟩ := h
  have hmf := makeFunc_run
  have hmp : ∀ k, k = p → Mut p bf ca k := fun k e => Or.inl e
  obtain ⟨w0, hw0⟩ : ∃ w0, w0 = w.alloc (.cells #[.string s] 9) := ⟨_, rfl⟩
  have f0 : Fr (Mut p bf ca) w w0 := hw0 ▸ Fr.alloc _ _ _
  have h0 : DiskAt w0 p bf bs ca S := h.fresh (hw0 ▸ Fr.alloc _ _ _)
  have n0 : w0.heap[w.heap.size]? = some (.cells #[.string s] 9) := hw0 ▸ (MapKept.heap_alloc w _).1
  have hA := h0.asked
  have v0 := hv.kept f0 hM
  cases hd : S.asked.down
  · rw [hd] at hA
    obtain ⟨va, vc, hvs⟩ : ∃ va vc, v = .slice va b.length vc := by
      rcases hv with ⟨e1, e2⟩ | ⟨ad, c, e1, _⟩
      · exact ⟨none, 0, by rw [e1, e2]; rfl⟩
      · exact ⟨_, _, e1⟩
    by_cases hr : S.asked.refuse s.data.toList b.length = 0
    · have hw : ∀ v', S.write ⟨s.data.toList, v', b⟩ = (0, S.asked.did (Ch.wr ⟨s.data.toList, v', b⟩)) := fun v' => by simp [St.write, hd, hr]
      simp only [hw]
      have hR := fun w1 (h1 : DiskAt w1 p bf bs ca S.asked) => refusal_any p bf bs ca S.asked s b.length w1 h1 hs hu hb
      simp only [hr] at hR
      subst hvs
      clear hw hv hd hr
      subst hw0
      go_enter Tryz.func76, Tryz.ntmps76
      go_wp2_with (first
        | (go_at_call 111; refine hA.mono ?_; rintro e w1 ⟨rfl, h1, f1⟩; have n1 := (f1.mono hmp).cellsAt h0.still n0 (by decide) (by decide); have cn := named_cell' n1; have v1 := v0.kept (f1.mono hmp) hM)
        | (go_at_call 112; refine (hR w1 h1).mono ?_; rintro e w2 ⟨rfl, f2⟩; have h2 := h1.fresh f2; have n2 := f2.at n1 (fun e => e); have v2 := v1.kept f2 (fun _ _ _ _ _ e => e))
        | (go_at_call 30; refine (bclone_any _ _ _ v2 (by omega)).mono ?_; rintro e w3 ⟨v', rfl, d3, f3⟩; have h3 := h2.fresh f3; have n3 := f3.at n2 (fun e => e); obtain ⟨a3, c3, rfl⟩ := row_slice d3; have h4 : DiskAt (w3.alloc (.cells #[.slice a3 b.length c3] 57)) p bf bs ca S.asked := h3.fresh (Fr.alloc _ _ _); have k4 := clo_new s b a3 c3 hs n3 d3)
        | (go_at_call 113; refine (do_any p bf bs ca _ S.asked _ _ h4 k4 (fine_asked hS)).mono ?_; rintro e w4 ⟨rfl, ca', h5, f5, g5⟩))
      go_ret
      have hall : Fr (Mut p bf ca) w (w3.alloc (.cells #[.slice a3 b.length c3] 57)) :=
        (((f0.trans (f1.mono hmp) (fun _ e => Or.inl e)).trans f2 (fun _ e => e.elim)).trans f3 (fun _ e => e.elim)).trans (Fr.alloc None' _ _) (fun _ e => e.elim)
      exact ⟨_, rfl, _, h5.disk, hall.trans f5 (fun _ e => Or.inl e), fun k hk => (g5 k hk).imp id (fun e => Nat.le_trans hall.size e)⟩
    · have hw : ∀ v', S.write ⟨s.data.toList, v', b⟩ = (S.asked.refuse s.data.toList b.length, S.asked) := fun v' => by simp [St.write, hd, hr]
      simp only [hw]
      have hR := fun w1 (h1 : DiskAt w1 p bf bs ca S.asked) => refusal_any p bf bs ca S.asked s b.length w1 h1 hs hu hb
      generalize S.asked.refuse s.data.toList b.length = r at hr hR ⊢
      have hr' : (r == 0) = false := by simpa using hr
      subst hvs
      clear hw hv hd hr
      subst hw0
      go_enter Tryz.func76, Tryz.ntmps76
      go_wp2_with (first
        | (go_at_call 111; refine hA.mono ?_; rintro e w1 ⟨rfl, h1, f1⟩; have n1 := (f1.mono hmp).cellsAt h0.still n0 (by decide) (by decide); have cn := named_cell' n1; have v1 := v0.kept (f1.mono hmp) hM)
        | (go_at_call 112; refine (hR w1 h1).mono ?_; rintro e w2 ⟨rfl, f2⟩; have h2 := h1.fresh f2))
      go_ret
      exact ⟨.slice none 0 0, rfl, _, h2.disk, (f0.trans (f1.mono hmp) (fun _ e => Or.inl e)).trans f2 (fun _ e => e.elim), fun k hk => Or.inl hk⟩
  · rw [hd] at hA
    have hw : ∀ v', S.write ⟨s.data.toList, v', b⟩ = (13, S.asked) := fun v' => by simp [St.write, hd]
    simp only [hw]
    clear hw hv hd
    subst hw0
    go_enter Tryz.func76, Tryz.ntmps76
    go_wp2_with (first
      | (go_at_call 111; refine hA.mono ?_; rintro e w1 ⟨rfl, h1, f1⟩))
    go_ret
    exact ⟨.slice none 0 0, rfl, _, h1.disk, f0.trans (f1.mono hmp) (fun _ e => Or.inl e), fun k hk => Or.inl hk⟩

end Go.Proofs.YtdaogldmcbfmoaaGreatDoor

namespace Go.Proofs.YtdaogldmcbfmoaaGreatDoor
open Go.RowKit Go.Maps Go.WideMaps
set_option maxRecDepth 100000

/-- Rename. -/
def St.rename (S : St) (a b : List UInt8) : Int × St :=
  if S.asked.down then (13, S.asked) else if right b = false then (1, S.asked) else if (get S.F a).isSome = false then (12, S.asked) else (0, S.asked.did (Ch.mv a b))

/-- Read. -/
def St.read (S : St) (k : List UInt8) : List UInt8 × Int :=
  if S.down then ([], 13) else match get S.F k with
    | none => ([], 12)
    | some t => (t.b, 0)

set_option maxHeartbeats 2000000 in
theorem read_any (p : Nat) (M : Nat → Prop) (S : St) (s : ByteArray) (w : World) (h : Disk w p M S) (hs : s.size ≤ maxLen) (hu : used S.F < 1099511627776) :
    Calls Tryz.prog 73 #[.pointer (some ⟨p, 0, none⟩), .string s] w fun e w' => ∃ v, e = .returned (.tuple #[v, .int .i64 (S.read s.data.toList).2]) ∧ Data w' v (S.read s.data.toList).1 ∧ Fr None' w w' := by
  obtain ⟨bf, bs, ca, h, rfl⟩ := h
  obtain ⟨c0, c1, c2, c3, c4, c5, c6, z⟩ := h.cells
  unfold St.read
  cases hd : S.down <;> rw [hd] at c6
  · simp only [Bool.false_eq_true, if_false]
    obtain ⟨v, ps, hrun, hv⟩ := h.files.look_ok lawS Tryz.underlying62 (zeroBS _) (zd := .held (.slice none 0 0)) (zp := []) rfl (keyOf_string_mk Tryz.underlying9 hs)
    rw [has_toD] at hrun
    rw [atKey_toD] at hv
    have e := heldR_eq hv
    cases hg : get S.F s.data.toList with
    | none =>
      rw [hg] at hrun
      clear hv e hg hd z
      go_enter Tryz.func73, Tryz.ntmps73
      go_wp2
      go_ret2
      exact ⟨_, rfl, Data.nil _, Fr.refl _ _⟩
    | some t =>
      rw [hg] at hrun e
      simp at e
      subst e
      have hd := h.dataF t (get_mem hg).1
      have hlb : t.b.length ≤ used S.F := by
        have := lenAt_le (apart_of_tidy (h.files.tidy lawS)) s.data.toList
        simpa [lenAt, hg] using this
      clear hv hg z
      go_enter Tryz.func73, Tryz.ntmps73
      go_wp2_with (first
        | (go_at_call 30; refine (bclone_any _ _ _ hd.bytes (by omega)).mono ?_; rintro e w3 ⟨v', rfl, d3, f3⟩))
      go_ret2
      exact ⟨_, rfl, d3, f3⟩
  · simp only [if_true]
    clear hd z
    go_enter Tryz.func73, Tryz.ntmps73
    go_wp2
    go_ret2
    exact ⟨_, rfl, Data.nil _, Fr.refl _ _⟩

/-- New. -/
def St.new (room : Int) : St := { room := max room 0, n := 0, F := [], Y := [], ch := [], acts := 0, fuse := -1, down := false }

theorem new_disk (room r : Int) (w : World) (hr : max room 0 = r) :
    let w' := ((w.alloc (.map #[] 0)).alloc (.map #[] 0)).alloc (.cells #[.int .i64 r, .map (some w.heap.size), .map (some (w.heap.size + 1)), .slice none 0 0, .int .i64 0, .int .i64 (-1), .bool false] 65)
    Disk w' (w.heap.size + 1 + 1) (Mut (w.heap.size + 1 + 1) w.heap.size (.slice none 0 0)) (St.new room) ∧ Fr None' w w' ∧ ∀ k, Mut (w.heap.size + 1 + 1) w.heap.size (.slice none 0 0) k → w.heap.size ≤ k := by
  intro w'
  have m1 := World.ownsMap_made w Tryz.prog 9 heldR
  have m2 := World.ownsMap_made (w.alloc (.map #[] 0)) Tryz.prog 9 heldR
  have e : (w.alloc (.map #[] 0)).heap.size = w.heap.size + 1 := by simp
  rw [e] at m2
  refine ⟨⟨w.heap.size, w.heap.size + 1, _, ⟨?_, (m1.alloc _).alloc _, m2.alloc _, by omega, ⟨[], World.ownsRow_nil _ _ _ _, trivial⟩, fun t ht => by simp [St.new] at ht, fun t ht => by simp [St.new] at ht⟩, rfl⟩, ?_, ?_⟩
  · have := (MapKept.heap_alloc ((w.alloc (.map #[] 0)).alloc (.map #[] 0)) (.cells #[.int .i64 r, .map (some w.heap.size), .map (some (w.heap.size + 1)), .slice none 0 0, .int .i64 0, .int .i64 (-1), .bool false] 65)).1
    rw [show ((w.alloc (.map #[] 0)).alloc (.map #[] 0)).heap.size = w.heap.size + 1 + 1 by simp] at this
    rw [this, ← hr]
    rfl
  · exact ((Fr.alloc None' _ _).trans (Fr.alloc None' _ _) (fun _ e => Or.inl e)).trans (Fr.alloc None' _ _) (fun _ e => Or.inl e)
  · rintro k (h | h | h)
    · omega
    · omega
    · cases h

set_option maxHeartbeats 2000000 in
theorem new_any (room : Int) (w : World) :
    Calls Tryz.prog 26 #[.int .i64 room] w fun e w' => ∃ p M, e = .returned (.pointer (some ⟨p, 0, none⟩)) ∧ Disk w' p M (St.new room) ∧ Fr None' w w' ∧ ∀ k, M k → w.heap.size ≤ k := by
  have hmm := @run_makeMap Tryz.prog
  go_enter Tryz.func26, Tryz.ntmps26
  go_wp2
  all_goals go_ret
  · exact ⟨_, rfl, _, new_disk room 0 w (by omega)⟩
  · exact ⟨_, rfl, _, new_disk room room w (by omega)⟩

end Go.Proofs.YtdaogldmcbfmoaaGreatDoor

namespace Go.Proofs.YtdaogldmcbfmoaaGreatDoor
open Go.RowKit Go.Maps Go.WideMaps
set_option maxRecDepth 100000

/-- The slice v holds these truths. -/
def Bools (w : World) (v : Value) (l : List Bool) : Prop :=
  (v = .slice none 0 0 ∧ l = []) ∨ ∃ ad c, v = .slice (some ad) l.length c ∧ ∀ j u, l[j]? = some u → ad.spot = none ∧ w.cell? ⟨ad.block, ad.off + j, none⟩ = some (.bool u)

/-- The first i changes, of which those are done that are kept. -/
def rep (ch : List Ch) (keep : List Bool) (Y : List Tri) : Nat → List Tri
  | 0 => Y
  | i + 1 => match ch[i]?, keep[i]? with
    | some c, some true => c.app (rep ch keep Y i)
    | _, _ => rep ch keep Y i

def St.crash (S : St) (keep : List Bool) : St :=
  { S with F := rep S.ch keep S.Y S.ch.length, Y := rep S.ch keep S.Y S.ch.length, ch := [], fuse := -1, down := false, n := S.n + S.ch.length }

theorem DiskAt.more {w : World} {p bf bs n : Nat} {ca : Value} {S : St} (h : DiskAt w p bf bs ca S) (hn : S.n ≤ n) : DiskAt w p bf bs ca { S with n := n } :=
  ⟨h.own, h.files.mono hn, h.synced.mono hn, h.ne, h.changes, h.dataF, h.dataY⟩

theorem row_cell {w : World} {e : TypeId} {g n cap : Nat} {xs : List Value} (h : w.ownsRow 0 e 1 (.slice (some ⟨g, 0, none⟩) n cap) n xs) {k : Nat} {u : Value} (hk : xs[k]? = some u) : w.cell? ⟨g, k, none⟩ = some u := by
  rcases h.2 with ⟨hv, _⟩ | ⟨g', cap', cur, hv, _, hh, _, _, _, ht⟩
  · cases hv
  · cases hv
    rw [← ht] at hk
    have hk' : cur.toList[k]? = some u := by
      rw [List.getElem?_take] at hk
      split at hk
      · exact hk
      · cases hk
    simp [World.cell?, hh]
    simpa using hk'

/-- The files that were synced are the files. -/
theorem DiskAt.back {w w1 : World} {p bf bs : Nat} {ca : Value} {S : St} (h : DiskAt w p bf bs ca S) (hf : Fr None' w w1) (hm : w1.ownsMap Tryz.prog 9 heldR w.heap.size S.n (toD S.Y)) :
    DiskAt (w1.setCell ⟨p, 1, none⟩ (.map (some w.heap.size))) p w.heap.size bs ca { S with F := S.Y } ∧ Fr (fun k => k = p) w (w1.setCell ⟨p, 1, none⟩ (.map (some w.heap.size))) := by
  have h1 := h.fresh hf
  refine ⟨h1.stored rfl (hm.setCell (h1.p_map hm) _) (h1.synced.setCell (h1.p_map h1.synced) _) (fun e => ?_) ?_ h1.dataY h1.dataY, (hf.mono (fun _ e => e.elim)).trans (Fr.setCell w1 (M := fun k => k = p) (a := ⟨p, 1, none⟩) (by rfl) _) (fun _ e => Or.inl e)⟩
  · have := h.synced.lt; omega
  · obtain ⟨fs, a1, a2⟩ := h1.changes
    exact ⟨fs, (Fr.setCell (M := fun k => k = p) _ (a := ⟨p, 1, none⟩) rfl _).row a1 (fun g e e' => h1.p_row (e' ▸ e)), a2⟩

theorem DiskAt.stillp {w : World} {p bf bs : Nat} {ca : Value} {S : St} (h : DiskAt w p bf bs ca S) : Still (fun k => k = p) w := fun k c e f hk hm => h.still k c e f hk (Or.inl hm)

/-- One change more, done or not. -/
theorem rep_done {ch : List Ch} {keep : List Bool} {Y : List Tri} {k : Nat} {c : Ch} (h1 : ch[k]? = some c) (h2 : keep[k]? = some true) : rep ch keep Y (k + 1) = c.app (rep ch keep Y k) := by
  simp [rep, h1, h2]
theorem rep_not {ch : List Ch} {keep : List Bool} {Y : List Tri} {k : Nat} (h2 : keep[k]? ≠ some true) : rep ch keep Y (k + 1) = rep ch keep Y k := by
  rw [rep]
  split
  · rename_i h; exact absurd h h2
  · rfl

end Go.Proofs.YtdaogldmcbfmoaaGreatDoor
