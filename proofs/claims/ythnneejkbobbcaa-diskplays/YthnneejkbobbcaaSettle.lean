/-
  What is proved here: what maps.Clone, settle and Sync leave. Condition: the disk lies in memory, and its counts are small.
-/
import Derived.Test.YthnneejkbobbcaaName
namespace Go.Proofs.Ythnneejkbobbcaa
open Go.RowKit Go.Maps Go.WideMaps
set_option maxRecDepth 100000

theorem eql_map_nil (w : World) (p : Option Nat) : (binOp .eql 56 (.map p) (.map none)).run Try.prog w = .ok (.bool p.isNone) w :=
  run_eql_map_nil (P := Try.prog) w 56 9 33 p Try.underlying56

theorem assert_map (w : World) (v : Value) : (Instr.typeAssert (.iface 56 v) 20 56 false).run Try.prog w = .ok v w := by
  simp [Instr.typeAssert, run_underlying Try.underlying56, go_sem, Result.andThen]

theorem clone_run {w : World} {r : Nat} {es : Array MapEntry} {clock : Nat} (hb : w.heap[r]? = some (.map es clock)) :
    (Extern.MapsClone.clone #[.iface 56 (.map (some r))]).run Try.prog w = .ok (.iface 56 (.map (some w.heap.size))) (w.alloc (.map es clock)) := by
  obtain ⟨s, e⟩ : ∃ s, Extern.MapsClone.clone #[.iface 56 (.map (some r))] = (getObj r >>= fun o => match o with
      | .map a c => (newObj (.map a c) >>= fun n => pure (.iface 56 (.map (some n))))
      | _ => stuck s) := ⟨_, rfl⟩
  rw [e]
  simp [MapKept.run_getObj_map hb, Result.andThen, go_sem]

set_option maxHeartbeats 1000000 in
theorem mclone_any (b n : Nat) (D : DataW Value) (w : World) (h : w.ownsMap Try.prog 9 heldR b n D) :
    Calls Try.prog 49 #[.map (some b)] w fun e w' => e = .returned (.map (some w.heap.size)) ∧ ∃ o, w' = w.alloc o ∧ w'.ownsMap Try.prog 9 heldR w.heap.size n D := by
  obtain ⟨es, clock, hb, F, hs, hD⟩ := h
  have hq := fun w => eql_map_nil w (some b)
  go_enter Try.func49, Try.ntmps49
  go_wp2
  rw [run_callFunc_extern Try.func60 (by kernel_rfl) (by kernel_rfl) (by kernel_rfl) (e := Extern.MapsClone.clone) (by kernel_rfl), clone_run hb]
  simp only [Result.andThen]
  rw [Oper.upon_value]
  go_wp2
  rw [assert_map]
  simp only [Result.andThen]
  rw [Oper.upon_value]
  go_wp2
  go_ret
  exact ⟨rfl, _, rfl, es, clock, (MapKept.heap_alloc w _).1, F, hs, hD⟩

/-- A disk behind a store into its own block. -/
theorem DiskAt.stored {w : World} {p bf bs bf' bs' : Nat} {ca ca' : Value} {S S' : St} {i : Nat} {u : Value} (h : DiskAt w p bf bs ca S)
    (he : (cellsOf S bf bs ca).setIfInBounds i u = cellsOf S' bf' bs' ca')
    (hf : (w.setCell ⟨p, i, none⟩ u).ownsMap Try.prog 9 heldR bf' S'.n (toD S'.F)) (hy : (w.setCell ⟨p, i, none⟩ u).ownsMap Try.prog 9 heldR bs' S'.n (toD S'.Y)) (hne : bf' ≠ bs')
    (hc : ∃ fs, (w.setCell ⟨p, i, none⟩ u).ownsRow 0 75 1 ca' S'.ch.length fs ∧ Clos w fs S'.ch) (hdF : AllData w S'.F) (hdY : AllData w S'.Y) :
    DiskAt (w.setCell ⟨p, i, none⟩ u) p bf' bs' ca' S' := by
  have hfr : Fr (Mut p bf ca) w (w.setCell ⟨p, i, none⟩ u) := Fr.setCell w (a := ⟨p, i, none⟩) (Or.inl rfl) u
  obtain ⟨fs, h1, h2⟩ := hc
  exact ⟨by rw [heap_setCell_same h.own, he], hf, hy, hne, ⟨fs, h1, hfr.clos h.still h2⟩, hfr.allData h.still hdF, hfr.allData h.still hdY⟩

theorem DiskAt.p_map {w : World} {p bf bs : Nat} {ca : Value} {S : St} (h : DiskAt w p bf bs ca S) {b n : Nat} {D : DataW Value} (hm : w.ownsMap Try.prog 9 heldR b n D) : b ≠ p := by
  intro e
  obtain ⟨es, cl, hb, _⟩ := hm
  rw [e, h.own] at hb
  cases hb

theorem DiskAt.p_row {w : World} {p bf bs : Nat} {ca : Value} {S : St} (h : DiskAt w p bf bs ca S) : ca.ownBlock ≠ some p := by
  intro e
  obtain ⟨fs, hr, _⟩ := h.changes
  rcases hr.2 with ⟨hv, _⟩ | ⟨g, cap, cur, hv, _, hh, _⟩
  · rw [hv] at e; cases e
  · rw [hv] at e; cases e
    rw [h.own] at hh; cases hh

/-- The fields that are no memory are written. -/
theorem DiskAt.field {w : World} {p bf bs : Nat} {ca : Value} {S S' : St} {i : Nat} {u : Value} (h : DiskAt w p bf bs ca S)
    (he : (cellsOf S bf bs ca).setIfInBounds i u = cellsOf S' bf bs ca) (hF : S'.F = S.F) (hY : S'.Y = S.Y) (hch : S'.ch = S.ch) (hn : S'.n = S.n) : DiskAt (w.setCell ⟨p, i, none⟩ u) p bf bs ca S' := by
  refine h.stored he ?_ ?_ h.ne ?_ (hF ▸ h.dataF) (hY ▸ h.dataY)
  · rw [hF, hn]; exact h.files.setCell (h.p_map h.files) _
  · rw [hY, hn]; exact h.synced.setCell (h.p_map h.synced) _
  · obtain ⟨fs, h1, h2⟩ := h.changes
    rw [hch]
    refine ⟨fs, (Fr.setCell (M := fun k => k = p) w (a := ⟨p, i, none⟩) rfl u).row h1 (fun g e e' => h.p_row (e' ▸ e)), h2⟩

/-- Blocks turn that are not the disk's. -/
theorem DiskAt.kept {w w' : World} {p bf bs : Nat} {ca : Value} {S : St} {M : Nat → Prop} (h : DiskAt w p bf bs ca S) (hfr : Fr M w w') (hs : Still M w) (hM : ∀ k, Mut p bf ca k ∨ k = bs → ¬ M k) : DiskAt w' p bf bs ca S := by
  obtain ⟨fs, h1, h2⟩ := h.changes
  exact ⟨hfr.at h.own (hM _ (Or.inl (Or.inl rfl))), hfr.map h.files (hM _ (Or.inl (Or.inr (Or.inl rfl)))), hfr.map h.synced (hM _ (Or.inr rfl)), h.ne,
    ⟨fs, hfr.row h1 (fun g e => hM _ (Or.inl (Or.inr (Or.inr e)))), hfr.clos hs h2⟩, hfr.allData hs h.dataF, hfr.allData hs h.dataY⟩

theorem DiskAt.fresh {w w' : World} {p bf bs : Nat} {ca : Value} {S : St} (h : DiskAt w p bf bs ca S) (hfr : Fr None' w w') : DiskAt w' p bf bs ca S :=
  h.kept hfr (fun _ _ _ _ _ hm => hm.elim) (fun _ _ hm => hm)

def St.settled (S : St) : St := { S with Y := S.F, ch := [] }

set_option maxHeartbeats 1000000 in
theorem settle_any (p bf bs : Nat) (ca : Value) (S : St) (w : World) (h : DiskAt w p bf bs ca S) :
    Calls Try.prog 28 #[.pointer (some ⟨p, 0, none⟩)] w fun e w' => e = .returned (.tuple #[]) ∧ DiskAt w' p bf w.heap.size (.slice none 0 0) S.settled ∧ Fr (fun k => k = p) w w' := by
  obtain ⟨c0, c1, c2, c3, c4, c5, c6, z⟩ := h.cells
  have hp := lt_of_some h.own
  have hown := h.files
  clear z c0 c2 c3 c4 c5 c6
  go_enter Try.func28, Try.ntmps28
  go_wp2_with (go_at_call 49; refine (mclone_any _ _ _ _ hown).mono ?_; rintro e w1 ⟨rfl, o, hw1, hcl⟩; have hf : Fr (fun k => k = p) w w1 := hw1 ▸ Fr.alloc _ _ _; have h1 : DiskAt w1 p bf bs ca S := h.fresh (hw1 ▸ Fr.alloc _ _ _); clear hw1; obtain ⟨_, _, d2, d3, _, _, _, z⟩ := h1.cells; have z2 := z 2; have z3 := z 3; clear z)
  go_end0
  refine ⟨rfl, ?_, (hf.trans (M' := fun k => k = p) (Fr.setCell w1 (a := ⟨p, 2, none⟩) (by rfl) _) (fun _ h => Or.inl h)).trans (M' := fun k => k = p) (Fr.setCell _ (a := ⟨p, 3, none⟩) (by rfl) _) (fun _ h => Or.inl h)⟩
  have hne : bf ≠ w.heap.size := Nat.ne_of_lt hown.lt
  have h2 : DiskAt (w1.setCell ⟨p, 2, none⟩ (.map (some w.heap.size))) p bf w.heap.size ca { S with Y := S.F } :=
    h1.stored rfl (h1.files.setCell (h1.p_map h1.files) _) (hcl.setCell (h1.p_map hcl) _) hne (by
      obtain ⟨fs, a1, a2⟩ := h1.changes
      exact ⟨fs, (Fr.setCell (M := fun k => k = p) _ (a := ⟨p, 2, none⟩) rfl _).row a1 (fun g e e' => h.p_row (e' ▸ e)), a2⟩) h1.dataF h1.dataF
  exact h2.stored rfl (h2.files.setCell (h2.p_map h2.files) _) (h2.synced.setCell (h2.p_map h2.synced) _) hne ⟨[], World.ownsRow_nil _ _ _ _, trivial⟩ h2.dataF h2.dataY

/-! ### Sync -/
def St.counted (S : St) : St := { S with acts := S.acts + 1, fuse := if 0 < S.fuse then S.fuse - 1 else S.fuse }

/-- The power is asked. -/
def St.asked (S : St) : St := { S with down := S.down || S.fuse == 0 }

structure St.fine (S : St) : Prop where
  a0 : 0 ≤ S.acts
  a1 : S.acts < 1000000
  f1 : S.fuse ≤ 9223372036854775807
  n1 : S.n < 1000000
  c1 : S.ch.length < 1000000

theorem DiskAt.counted {w : World} {p bf bs : Nat} {ca : Value} {S : St} (h : DiskAt w p bf bs ca S) (ha0 : 0 ≤ S.acts) (ha1 : S.acts < 1000000) (hf1 : S.fuse ≤ 9223372036854775807) :
    Calls Try.prog 47 #[.pointer (some ⟨p, 0, none⟩)] w fun e w' => e = .returned (.tuple #[]) ∧ DiskAt w' p bf bs ca S.counted ∧ Fr (fun k => k = p) w w' := by
  refine (count_any p bf bs ca S w h ha0 ha1 hf1).mono ?_
  rintro e w' ⟨rfl, rfl⟩
  refine ⟨rfl, ?_⟩
  have h1 : DiskAt (w.setCell ⟨p, 4, none⟩ (.int .i64 (S.acts + 1))) p bf bs ca { S with acts := S.acts + 1 } := h.field rfl rfl rfl rfl rfl
  unfold St.counted
  split
  · exact ⟨h1.field rfl rfl rfl rfl rfl, (Fr.setCell _ (by rfl) _).trans (M' := fun k => k = p) (Fr.setCell _ (by rfl) _) (fun _ h => Or.inl h)⟩
  · exact ⟨h1, Fr.setCell _ (by rfl) _⟩

theorem DiskAt.asked {w : World} {p bf bs : Nat} {ca : Value} {S : St} (h : DiskAt w p bf bs ca S) :
    Calls Try.prog 43 #[.pointer (some ⟨p, 0, none⟩)] w fun e w' => e = .returned (.int .i64 (if S.asked.down then 13 else 0)) ∧ DiskAt w' p bf bs ca S.asked ∧ Fr (fun k => k = p) w w' := by
  refine (power_any p bf bs ca S w h).mono ?_
  rintro e w' (⟨hf, rfl, rfl⟩ | ⟨hf, hd, rfl, rfl⟩ | ⟨hf, hd, rfl, rfl⟩)
  · have e1 : S.asked = { S with down := true } := by simp [St.asked, hf]
    rw [e1]
    exact ⟨rfl, h.field rfl rfl rfl rfl rfl, Fr.setCell _ (by rfl) _⟩
  · have e1 : S.asked = S := by cases S; simp_all [St.asked]
    rw [e1, hd]
    exact ⟨rfl, h, Fr.refl _ _⟩
  · have e1 : S.asked = S := by cases S; simp_all [St.asked]
    rw [e1, hd]
    exact ⟨rfl, h, Fr.refl _ _⟩

/-- Sync. -/
def St.sync (S : St) : Int × St := if S.asked.down then (13, S.asked) else (0, S.asked.settled.counted)

theorem DiskAt.disk {w : World} {p bf bs : Nat} {ca : Value} {S : St} (h : DiskAt w p bf bs ca S) : Disk w p (Mut p bf ca) S := ⟨bf, bs, ca, h, rfl⟩

theorem fine_asked {S : St} (h : S.fine) : S.asked.fine := ⟨h.a0, h.a1, h.f1, h.n1, h.c1⟩
theorem fine_settled {S : St} (h : S.fine) : S.settled.fine := ⟨h.a0, h.a1, h.f1, h.n1, by simp [St.settled]⟩

set_option maxHeartbeats 1000000 in
theorem sync_any (p : Nat) (M : Nat → Prop) (S : St) (w : World) (h : Disk w p M S) (hS : S.fine) :
    Calls Try.prog 22 #[.pointer (some ⟨p, 0, none⟩)] w fun e w' => e = .returned (.int .i64 S.sync.1) ∧ Stepped M w p S.sync.2 w' := by
  obtain ⟨bf, bs, ca, h, rfl⟩ := h
  unfold St.sync
  have hmp : ∀ k, k = p → Mut p bf ca k := fun k e => Or.inl e
  cases hd : S.asked.down
  · have hA := h.asked
    rw [hd] at hA
    go_enter Try.func22, Try.ntmps22
    go_wp2_with (first
      | (go_at_call 43; refine hA.mono ?_; rintro e w1 ⟨rfl, h1, f1⟩)
      | (go_at_call 28; refine (settle_any _ _ _ _ _ _ h1).mono ?_; rintro e w2 ⟨rfl, h2, f2⟩)
      | (go_at_call 47; refine (h2.counted hS.a0 hS.a1 hS.f1).mono ?_; rintro e w3 ⟨rfl, h3, f3⟩))
    go_ret
    refine ⟨rfl, _, h3.disk, ((f1.trans f2 (fun _ h => Or.inl h)).trans f3 (fun _ h => Or.inl h)).mono hmp, ?_⟩
    intro k hk
    rcases hk with hk | hk | hk
    · exact Or.inl (Or.inl hk)
    · exact Or.inl (Or.inr (Or.inl hk))
    · cases hk
  · have hA := h.asked
    rw [hd] at hA
    go_enter Try.func22, Try.ntmps22
    go_wp2_with (first
      | (go_at_call 43; refine hA.mono ?_; rintro e w1 ⟨rfl, h1, f1⟩))
    go_ret
    exact ⟨rfl, _, h1.disk, f1.mono hmp, fun k hk => Or.inl hk⟩

end Go.Proofs.Ythnneejkbobbcaa
