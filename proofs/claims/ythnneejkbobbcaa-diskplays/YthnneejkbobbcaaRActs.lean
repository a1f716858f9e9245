/-
  What is proved here: what the document's Sync, Fuse and change do. Condition: the disk lies in memory, and its counts are small.
-/
import Derived.Test.YthnneejkbobbcaaRMore
import Derived.Deep.RegionWith
import Derived.Deep.RegionLaw
import Derived.Deep.AppendLies
namespace Go.Proofs.Ythnneejkbobbcaa
open Go.RowKit Go.Maps Go.WideMaps
set_option maxRecDepth 100000

structure RSt.fine (R : RSt) : Prop where
  d0 : 0 ≤ R.done
  d1 : R.done < 1000000
  l0 : -1000000 < R.left
  l1 : R.left ≤ 9223372036854775807
  len : R.L.length ≤ 100000
  chs : R.ch.length ≤ 100000

theorem RAt.disk {w : World} {p : Nat} {vL vO vC : Value} {R : RSt} (h : RAt w p vL vO vC R) : RDisk w p (RMut p vC) R := ⟨vL, vO, vC, h, rfl⟩

theorem fr_mut {w w' : World} {p : Nat} {vC : Value} (h : Fr (fun k => k = p) w w') : Fr (RMut p vC) w w' := h.mono (fun _ e => Or.inl e)

/-- Sync. -/
def RSt.settled (R : RSt) : RSt := { R with Y := R.L, ch := [] }
def RSt.sync (R : RSt) : Int × RSt := if R.asked.off then (13, R.asked) else (0, R.asked.settled.counted)

set_option maxHeartbeats 2000000 in
theorem rsync_any (p : Nat) (M : Nat → Prop) (R : RSt) (w : World) (h : RDisk w p M R) (hR : R.fine) :
    Calls Try.prog 38 #[.pointer (some ⟨p, 0, none⟩)] w fun e w' => e = .returned (.int .i64 R.sync.1) ∧ RStepped M w p R.sync.2 w' := by
  obtain ⟨vL, vO, vC, h, rfl⟩ := h
  obtain ⟨la, lc, hvL⟩ := row_slice h.files.1
  obtain ⟨n, hn⟩ : ∃ n, R.L.length = n := ⟨_, rfl⟩
  rw [hn] at hvL
  subst hvL
  clear hn
  have hP := rpower_any p _ vO vC R w h
  unfold RSt.sync
  cases ho : R.asked.off
  · rw [ho] at hP
    have HR : Hid (R.fine) := hR
    clear h hR
    go_enter Try.func38, Try.ntmps38
    go_wp2_with fail
    refine hP.mono ?_
    rintro e w1 ⟨rfl, h1, f1⟩
    clear hP
    obtain ⟨_, c1, c2, c3, _, _, _, _, z⟩ := h1.cells
    have z2 := z 2
    have z3 := z 3
    have h2 : RAt (w1.setCell ⟨p, 2, none⟩ (.slice la n lc)) p (.slice la n lc) (.slice la n lc) vC { R.asked with Y := R.asked.L } := h1.stored rfl h1.files h1.files h1.row h1.data h1.p_row
    have h3 : RAt ((w1.setCell ⟨p, 2, none⟩ (.slice la n lc)).setCell ⟨p, 3, none⟩ (.slice none 0 0)) p (.slice la n lc) (.slice la n lc) (.slice none 0 0) R.asked.settled := h2.stored rfl h2.files h2.old ⟨rfl, Or.inl ⟨rfl, rfl⟩⟩ (fun c hc => by simp [RSt.settled] at hc) (by simp [Value.ownBlock])
    have hD := rdid_any p _ _ (.slice none 0 0) R.asked.settled _ h3 HR.out.d0 HR.out.d1 HR.out.l0 HR.out.l1
    have f3 : Fr (fun k => k = p) w ((w1.setCell ⟨p, 2, none⟩ (.slice la n lc)).setCell ⟨p, 3, none⟩ (.slice none 0 0)) := fr_cells f1 (fr_cells (fr_cell _ _ _ _) (fr_cell _ _ _ _))
    clear z h1 h2 h3 f1
    go_wp2_with fail
    refine hD.mono ?_
    rintro e w2 ⟨rfl, h2, f2⟩
    clear hD
    go_wp2
    go_ret
    refine ⟨rfl, _, h2.disk, fr_mut (fr_cells f3 f2), fun k hk => ?_⟩
    rcases hk with e | e
    · exact Or.inl (Or.inl e)
    · cases e
  · rw [ho] at hP
    clear h hR
    go_enter Try.func38, Try.ntmps38
    go_wp2_with fail
    refine hP.mono ?_
    rintro e w1 ⟨rfl, h1, f1⟩
    clear hP
    go_wp2
    go_ret
    exact ⟨rfl, _, h1.disk, fr_mut f1, fun k hk => Or.inl hk⟩

/-- Fuse. -/
def RSt.fuse (R : RSt) (n : Int) : RSt := { R with fused := decide (0 ≤ n), left := max n 0 }

set_option maxHeartbeats 2000000 in
theorem rfuse_any (p : Nat) (M : Nat → Prop) (R : RSt) (n : Int) (w : World) (h : RDisk w p M R) :
    Calls Try.prog 39 #[.pointer (some ⟨p, 0, none⟩), .int .i64 n] w fun e w' => e = .returned (.tuple #[]) ∧ RStepped M w p (R.fuse n) w' := by
  obtain ⟨vL, vO, vC, h, rfl⟩ := h
  obtain ⟨_, _, _, _, _, c5, c6, _, z⟩ := h.cells
  have z5 := z 5
  have z6 := z 6
  clear z
  go_enter Try.func39, Try.ntmps39
  go_wp2_with fail
  go_end0
  have h1 : RAt (w.setCell ⟨p, 5, none⟩ (.bool (decide (0 ≤ n)))) p vL vO vC { R with fused := decide (0 ≤ n) } := h.field rfl rfl rfl rfl
  exact ⟨rfl, _, (h1.field (R' := R.fuse n) rfl rfl rfl rfl).disk, fr_mut (fr_cells (fr_cell _ _ _ _) (fr_cell _ _ _ _)), fun k hk => Or.inl hk⟩

theorem Try.infoRC : (Try.prog.info? 80).map (fun i => (i.zero, i.size, i.bytes)) = some (some (.agg #[.string ByteArray.empty, .string ByteArray.empty, .slice none 0 0]), 3, 56) := by kernel_rfl

theorem three_new (w : World) (x y u : Value) (t : TypeId) : ∀ j v, [x, y, u][j]? = some v → (w.alloc (.cells #[x, y, u] t)).cell? ((⟨w.heap.size, 0, none⟩ : Addr).add j) = some v := by
  intro j v hj
  have hh := (MapKept.heap_alloc w (.cells #[x, y, u] t)).1
  have e : (⟨w.heap.size, 0, none⟩ : Addr).add j = ⟨w.heap.size, j, none⟩ := by unfold Addr.add; split <;> simp_all
  rw [e]
  unfold World.cell?
  simp only [hh]
  simpa using hj

/-- One change more, as one step of a region that draws its order. -/
theorem step_ch {ops : Array Oper} {o : Oper} {a : Act} {K : Act → World → Prop} {Q : Exit → Act → World → Prop} {E : Prop} {w : World} (hgd : o.guard = none) (s x : Operand)
    (ho : o.op = .call { callee := .builtin .append, args := #[s, x], argTypes := #[41, 41] })
    {v : Value} {n : Nat} {xs : List Value} (hs : a.eval s = v) (hown : w.ownsRow 0 80 3 v n xs) {frm to : ByteArray} {ca : Option Addr} {cn cc : Nat}
    (hx : a.eval x = .slice (some ⟨w.heap.size, 0, none⟩) 1 1) (hb : n ≤ 100000)
    (h : ∀ v' w', w'.ownsRow 0 80 3 v' (n + 1) (xs ++ [.string frm, .string to, .slice ca cn cc]) → (w.alloc (.cells #[.string frm, .string to, .slice ca cn cc] 80)).grownBy w' v.ownBlock → (v'.ownBlock = v.ownBlock ∨ v'.ownBlock = some (w.heap.size + 1)) → K (a.put o.dst v') w') :
    if Region.wanted o (yielded ops a.tmps) = true then Oper.wp Try.prog o a (w.alloc (.cells #[.string frm, .string to, .slice ca cn cc] 80)) K Q else E := by
  obtain ⟨i0, hi, hz0, hz1, hz2⟩ := info_parts Try.infoRC
  refine step_append_lies _ hgd s x 41 ho 0 80 i0 _ 3 56 Try.underlying41 hi hz0 hz1 hz2 rfl (by decide) v n xs hs (hown.alloc _) ⟨w.heap.size, 0, none⟩ 1 1 [.string frm, .string to, .slice ca cn cc] hx rfl (three_new _ _ _ _ _) (fun u hu => by
    simp at hu
    rcases hu with rfl | rfl | rfl <;> rfl) (by decide) (by unfold maxLen; omega) (by omega) (Nat.zero_le _) (w.heap.size + 1) (by exact Array.size_push _) ?_
  intro g cap w' h1 h2 h3 _
  refine h _ w' h1 h2 ?_
  rcases h3 with h3 | h3
  · exact Or.inl h3.symm
  · exact Or.inr (by rw [h3]; rfl)

/-- One change more lies in its row. -/
theorem RAt.appended {w w4 : World} {p : Nat} {vL vO vC v4 : Value} {R : RSt} {c : RCh} {o : Obj} (h : RAt w p vL vO vC R) (hc : Data w c.v c.b) (hg : (w.drew.alloc o).grownBy w4 vC.ownBlock)
    (ho : w4.ownsRow 0 80 3 v4 (R.ch.length + 1) (R.ch.flatMap chCells ++ chCells c)) (hb : v4.ownBlock = vC.ownBlock ∨ v4.ownBlock = some (w.heap.size + 1)) :
    RAt (w4.setCell ⟨p, 3, none⟩ v4) p vL vO v4 { R with ch := R.ch ++ [c] } ∧ Fr (RMut p vC) w (w4.setCell ⟨p, 3, none⟩ v4) ∧ ∀ k, RMut p v4 k → RMut p vC k ∨ w.heap.size ≤ k := by
  have hp := lt_of_some h.own
  have f4 : Fr (fun k => vC.ownBlock = some k) w w4 := (((Fr.drew None' w).then (Fr.alloc None' _ o)).mono (fun _ e => e.elim)).trans (Fr.grown (M := fun k => vC.ownBlock = some k) hg (fun k e => e)) (fun _ e => Or.inl e)
  have st4 : RStill (fun k => vC.ownBlock = some k) w := fun k c e f hk hm => h.still k c e f hk (Or.inr hm)
  have own4 := f4.at h.own h.p_row
  have fp := fr_cell w4 p 3 v4
  have stp : RStill (fun k => k = p) w4 := fun k c e f hk hm => by
    subst hm
    rw [own4] at hk
    cases hk
    exact Or.inl rfl
  have hne : v4.ownBlock ≠ some p := by
    rcases hb with e | e
    · rw [e]; exact h.p_row
    · rw [e]
      intro e'
      injection e' with e'
      omega
  refine ⟨⟨?_, fp.otherFiles stp (f4.otherFiles st4 h.files), fp.otherFiles stp (f4.otherFiles st4 h.old), ?_, ?_⟩, ?_, ?_⟩
  · rw [heap_setCell_same own4]
    rfl
  · refine fp.row ?_ (fun g hg e => hne (e ▸ hg))
    simpa using ho
  · intro d hd
    rcases List.mem_append.1 hd with hd | hd
    · exact fp.otherData stp (f4.otherData st4 (h.data d hd))
    · simp at hd
      subst hd
      exact fp.otherData stp (f4.otherData st4 hc)
  · exact (f4.mono (fun _ e => Or.inr e)).trans fp (fun _ e => Or.inl (Or.inl e))
  · intro k hk
    rcases hk with e | e
    · exact Or.inl (Or.inl e)
    · rcases hb with e' | e'
      · exact Or.inl (Or.inr (e' ▸ e))
      · rw [e'] at e
        injection e with e
        exact Or.inr (by omega)

/-- A change is done. -/
def RSt.did (R : RSt) (c : RCh) : RSt := { R with L := c.app R.L, ch := R.ch ++ [c] }.counted

set_option maxHeartbeats 4000000 in
theorem rchange_any (p : Nat) (vL vO vC : Value) (R : RSt) (c : RCh) (w : World) (h : RAt w p vL vO vC R) (hR : R.fine) (hc : Data w c.v c.b) :
    Calls Try.prog 54 #[.pointer (some ⟨p, 0, none⟩), .agg #[.string c.frm, .string c.to, c.v]] w fun e w' => e = .returned (.int .i64 0) ∧ RStepped (RMut p vC) w p (R.did c) w' := by
  obtain ⟨frm, to, cv, cb⟩ := c
  simp only at hc ⊢
  obtain ⟨ca, cc, rfl⟩ := row_slice hc
  obtain ⟨wA, hwA⟩ : ∃ wA, w.alloc (.cells #[.string frm, .string to, .slice ca cb.length cc] 80) = wA := ⟨_, rfl⟩
  have fA : Fr None' w wA := hwA ▸ Fr.alloc None' _ _
  have nA : wA.heap[w.heap.size]? = some (.cells #[.string frm, .string to, .slice ca cb.length cc] 80) := hwA ▸ (MapKept.heap_alloc w _).1
  have hA := h.fresh fA
  have hcA : Data wA (.slice ca cb.length cc) cb := fA.row hc (fun _ _ e => e)
  have hp := lt_of_some h.own
  have hCh := rchanged_any vL R.L ⟨frm, to, .slice ca cb.length cc, cb⟩ wA.drew (hA.files.kept (Fr.drew None' _) (stillN _)) (by have := hR.len; omega) ((Fr.drew None' wA).row hcA (fun _ _ e => e))
  simp only at hCh
  have HH : Hid (RAt wA p vL vO vC R ∧ R.fine ∧ Data wA (.slice ca cb.length cc) cb ∧ Fr None' w wA ∧ p < w.heap.size) := ⟨hA, hR, hcA, fA, hp⟩
  have hS : ∀ w', Fr (fun k => k = p) wA w' → w'.cell? ⟨w.heap.size, 0, none⟩ = some (.string frm) ∧ w'.cell? ⟨w.heap.size, 1, none⟩ = some (.string to) ∧ w'.cell? ⟨w.heap.size, 2, none⟩ = some (.slice ca cb.length cc) := fun w' f => by
    have n := f.at nA (fun e => by omega)
    refine ⟨?_, ?_, ?_⟩ <;> simp [World.cell?, n]
  obtain ⟨_, c1, _, c3, _, _, _, _, z⟩ := hA.cells
  have a1 : wA.drew.cell? ⟨p, 1, none⟩ = some vL := c1
  have z1 : wA.drew.frozen? ⟨p, 1, none⟩ = false := z 1
  have HS : Hid _ := hS
  clear hS h hA hcA hR hc c1 c3 z nA fA
  obtain ⟨la, lc, hvL⟩ := row_slice HH.out.1.files.1
  obtain ⟨n, hn⟩ : ∃ n, R.L.length = n := ⟨_, rfl⟩
  rw [hn] at hvL
  subst hvL
  clear hn
  obtain ⟨ra, rc, hvC⟩ := row_slice HH.out.1.row
  obtain ⟨m, hm⟩ : ∃ m, R.ch.length = m := ⟨_, rfl⟩
  have HM : Hid (R.ch.length = m) := hm
  rw [hm] at hvC
  subst hvC
  clear hm
  go_enter Try.func54, Try.ntmps54
  go_wp2_with fail
  obtain ⟨x0, x1, x2⟩ := HS.out wA.drew (Fr.drew _ _)
  go_region_with (go_at_call 56; refine hCh.mono ?_; rintro e w2 ⟨v2, rfl, R2, f2⟩; obtain ⟨la2, lc2, hv2⟩ := row_slice R2.1; subst hv2; have b1 := f2.cell a1; have zz : w2.frozen? ⟨p, 1, none⟩ = false := ((HH.out.1.fresh ((Fr.drew None' _).then f2)).cells.2.2.2.2.2.2.2.2 1))
  all_goals
    have h2 := HH.out.1.fresh ((Fr.drew None' wA).then f2)
    have h3 : RAt (w2.setCell ⟨p, 1, none⟩ (.slice la2 (RCh.app ⟨frm, to, .slice ca cb.length cc, cb⟩ R.L).length lc2)) p (.slice la2 (RCh.app ⟨frm, to, .slice ca cb.length cc, cb⟩ R.L).length lc2) vO (.slice ra m rc) { R with L := RCh.app ⟨frm, to, .slice ca cb.length cc, cb⟩ R.L } := h2.stored rfl R2 h2.old h2.row h2.data h2.p_row
    have f3 : Fr (fun k => k = p) wA (w2.setCell ⟨p, 1, none⟩ (.slice la2 (RCh.app ⟨frm, to, .slice ca cb.length cc, cb⟩ R.L).length lc2)) := fr_cells (((Fr.drew None' _).then f2).mono (fun _ e => e.elim)) (fr_cell _ _ _ _)
    generalize w2.setCell ⟨p, 1, none⟩ (.slice la2 (RCh.app ⟨frm, to, .slice ca cb.length cc, cb⟩ R.L).length lc2) = w3 at h3 f3 ⊢
    clear h2 R2 f2 b1 zz a1 z1 hCh
    obtain ⟨y0, y1, y2⟩ := HS.out w3 f3
    obtain ⟨_, d1, d2, d3, _, _, _, _, z⟩ := h3.cells
    have z3 := z 3
    clear x0 x1 x2 z
    go_wp2_with fail
    have hr3 : w3.drew.ownsRow 0 80 3 (.slice ra m rc) R.ch.length (R.ch.flatMap chCells) := (Fr.drew None' w3).row h3.row (fun _ _ e => e)
    have hpr : some p ≠ (Value.slice ra m rc).ownBlock := fun e => h3.p_row e.symm
    have hp3 : p < w3.drew.heap.size := lt_of_some h3.own
    have al : ∀ o, (w3.drew.alloc o).cell? ⟨p, 3, none⟩ = some (.slice ra m rc) := fun o => ((Fr.drew None' w3).then (Fr.alloc None' _ o)).cell d3
    have al' : ∀ o, (w3.alloc o).cell? ⟨p, 3, none⟩ = some (.slice ra m rc) := fun o => (Fr.alloc None' w3 o).cell d3
    have al2 : ∀ o i, (w3.drew.alloc o).frozen? ⟨p, i, none⟩ = false := fun o i => (h3.fresh ((Fr.drew None' w3).then (Fr.alloc None' _ o))).cells.2.2.2.2.2.2.2.2 i
    have d3' : w3.drew.cell? ⟨p, 3, none⟩ = some (.slice ra m rc) := d3
    have y0' : w3.drew.cell? ⟨w.heap.size, 0, none⟩ = some (.string frm) := y0
    have y1' : w3.drew.cell? ⟨w.heap.size, 1, none⟩ = some (.string to) := y1
    have y2' : w3.drew.cell? ⟨w.heap.size, 2, none⟩ = some (.slice ca cb.length cc) := y2
    go_region_law (refine step_ch rfl (.tmp 18) (.tmp 20) rfl (by first | rfl | simp [Act.eval, Act.put]) hr3 (by first | rfl | simp [Act.eval, Act.put]) (by have := HH.out.2.1.chs; omega) ?_; intro v4 w4 own4 g4 o4; obtain ⟨xa, xc, hv4⟩ := row_slice own4; subst hv4; have bp := g4.block p (by rw [show ∀ o, (w3.drew.alloc o).heap.size = w3.drew.heap.size + 1 from fun o => Array.size_push _]; omega) hpr; have e3 : w4.cell? ⟨p, 3, none⟩ = some (.slice ra m rc) := (World.cell?_of_block (a := ⟨p, 3, none⟩) bp).trans (al _); have e4 : w4.frozen? ⟨p, 3, none⟩ = false := (World.frozen?_of_block (a := ⟨p, 3, none⟩) bp).trans (al2 _ 3))
    all_goals
      have hM := HM.out
      have hF := HH.out.2.1
      have hcd : Data w3 (.slice ca cb.length cc) cb := f3.otherData (fun k c e f hk hm => HH.out.1.still k c e f hk (Or.inl hm)) HH.out.2.2.1
      obtain ⟨h5, f5, g5⟩ := h3.appended (c := ⟨frm, to, .slice ca cb.length cc, cb⟩) hcd g4 own4 o4
      have hD := rdid_any p _ _ _ _ _ h5 hF.d0 hF.d1 hF.l0 hF.l1
      have fw3 : Fr (RMut p (.slice ra m rc)) w w3 := (HH.out.2.2.2.1.mono (fun _ e => e.elim)).trans f3 (fun _ e => Or.inl (Or.inl e))
      generalize w4.setCell ⟨p, 3, none⟩ (.slice xa (R.ch.length + 1) xc) = w5 at h5 f5 hD ⊢
      have HZ : Hid (Fr (RMut p (.slice ra m rc)) w w5 ∧ ∀ k, RMut p (.slice xa (R.ch.length + 1) xc) k → RMut p (.slice ra m rc) k ∨ w.heap.size ≤ k) := ⟨fw3.trans f5 (fun _ e => Or.inl e), fun k hk => (g5 k hk).imp id (fun e => Nat.le_trans fw3.size e)⟩
      clear al al' al2 d3' y0' y1' y2' y0 y1 y2 d1 d2 d3 z3 e3 e4 bp own4 g4 o4 hr3 hpr hp3 h3 f3 fw3 f5 g5 hcd hM hF h5
      go_wp2_with fail
      refine hD.mono ?_
      rintro e w6 ⟨rfl, h6, f6⟩
      clear hD
      go_wp2
      go_ret
      exact ⟨rfl, _, h6.disk, HZ.out.1.trans f6 (fun _ e => Or.inl (Or.inl e)), HZ.out.2⟩
end Go.Proofs.Ythnneejkbobbcaa
