/-
  What is proved here: what the document's Crash leaves. Condition: the disk lies in memory, its counts are small, and what is kept is no block of the disk's own.
-/
import Derived.Test.YthnneejkbobbcaaRWrite
import Derived.Test.YthnneejkbobbcaaRPlain
namespace Go.Proofs.Ythnneejkbobbcaa
open Go.RowKit Go.Maps Go.WideMaps
set_option maxRecDepth 100000

theorem place_len (f : Tri) : ∀ W : List Tri, (place f W).length = W.length + 1
  | [] => rfl
  | t :: r => by
    rw [place]
    split
    · rfl
    · simp [place_len f r]

theorem withF_len (L : List Tri) (f : Tri) : (withF L f).length ≤ L.length + 1 := by
  rw [withF_eq, place_len]
  have := without_len L f.k
  omega

theorem app_len (c : RCh) (L : List Tri) : (c.app L).length ≤ L.length + 1 := by
  unfold RCh.app
  split
  · exact withF_len _ _
  · split
    · omega
    · split
      · have := without_len L c.frm.data.toList; omega
      · refine Nat.le_trans (withF_len _ _) ?_
        have := without_len L c.frm.data.toList
        omega

/-- The first i changes, of which those are done that are kept. -/
def rrep (ch : List RCh) (keep : List Bool) (Y : List Tri) : Nat → List Tri
  | 0 => Y
  | i + 1 => match ch[i]?, keep[i]? with
    | some c, some true => c.app (rrep ch keep Y i)
    | _, _ => rrep ch keep Y i

theorem rrep_done {ch : List RCh} {keep : List Bool} {Y : List Tri} {k : Nat} {c : RCh} (h1 : ch[k]? = some c) (h2 : keep[k]? = some true) : rrep ch keep Y (k + 1) = c.app (rrep ch keep Y k) := by
  simp [rrep, h1, h2]
theorem rrep_not {ch : List RCh} {keep : List Bool} {Y : List Tri} {k : Nat} (h2 : keep[k]? ≠ some true) : rrep ch keep Y (k + 1) = rrep ch keep Y k := by
  rw [rrep]
  split
  · rename_i h; exact absurd h h2
  · rfl

theorem rrep_len (ch : List RCh) (keep : List Bool) (Y : List Tri) : ∀ k, (rrep ch keep Y k).length ≤ Y.length + k
  | 0 => Nat.le_refl _
  | k + 1 => by
    have ih := rrep_len ch keep Y k
    rw [rrep]
    split
    · refine Nat.le_trans (app_len _ _) ?_; omega
    · omega

theorem rrep_stop (ch : List RCh) (keep : List Bool) (Y : List Tri) (d : Nat) : rrep ch keep Y (keep.length + d) = rrep ch keep Y keep.length := by
  induction d with
  | zero => rfl
  | succ d ih => rw [← ih]; exact rrep_not (k := keep.length + d) (by simp)

def RSt.crash (R : RSt) (keep : List Bool) : RSt :=
  { R with L := rrep R.ch keep R.Y R.ch.length, Y := rrep R.ch keep R.Y R.ch.length, ch := [], fused := false, left := 0, off := false }

theorem ch_flat : ∀ (L : List RCh) (i : Nat) (c : RCh), L[i]? = some c → (L.flatMap chCells)[i * 3]? = some (.string c.frm) ∧ (L.flatMap chCells)[i * 3 + 1]? = some (.string c.to) ∧ (L.flatMap chCells)[i * 3 + 2]? = some c.v
  | [], i, c, h => by simp at h
  | x :: L, 0, c, h => by
    simp at h
    subst h
    exact ⟨rfl, rfl, rfl⟩
  | x :: L, i + 1, c, h => by
    have ih := ch_flat L i c (by simpa using h)
    rw [List.flatMap_cons]
    have e : ∀ j, (chCells x ++ L.flatMap chCells)[(i + 1) * 3 + j]? = (L.flatMap chCells)[i * 3 + j]? := fun j => by
      rw [List.getElem?_append_right (by simp [chCells]; omega)]
      congr 1
      simp [chCells]
      omega
    exact ⟨(e 0).trans ih.1, (e 1).trans ih.2.1, (e 2).trans ih.2.2⟩

/-- The cells of a change. -/
theorem ch_cells {w : World} {v : Value} {L : List RCh} (h : w.ownsRow 0 80 3 v L.length (L.flatMap chCells)) : ∃ a c, v = .slice a L.length c ∧ ∀ i x, L[i]? = some x → ∃ g, a = some ⟨g, 0, none⟩ ∧ w.cell? ⟨g, i * 3, none⟩ = some (.string x.frm) ∧ w.cell? ⟨g, i * 3 + 1, none⟩ = some (.string x.to) ∧ w.cell? ⟨g, i * 3 + 2, none⟩ = some x.v := by
  rcases h.2 with ⟨hv, h0⟩ | ⟨g, cap, cur, hv, _, hh, _, _, _, ht⟩
  · have hL : L = [] := by simpa using h0
    subst hL
    exact ⟨none, 0, hv, fun i t hi => by simp at hi⟩
  · have key : ∀ j u, (L.flatMap chCells)[j]? = some u → w.cell? ⟨g, j, none⟩ = some u := fun j u hf => by
      rw [← ht, List.getElem?_take] at hf
      split at hf
      · simp [World.cell?, hh]; simpa using hf
      · cases hf
    refine ⟨_, cap, hv, fun i t hi => ?_⟩
    obtain ⟨h1, h2, h3⟩ := ch_flat L i t hi
    exact ⟨g, rfl, key _ _ h1, key _ _ h2, key _ _ h3⟩

/-- What Crash stores. -/
theorem RAt.crashed {w : World} {p : Nat} {vL vO vC v : Value} {R : RSt} {X : List Tri} (h : RAt w p vL vO vC R) (hv : FilesRes w v X) :
    RAt ((((((w.setCell ⟨p, 1, none⟩ v).setCell ⟨p, 2, none⟩ v).setCell ⟨p, 3, none⟩ (.slice none 0 0)).setCell ⟨p, 5, none⟩ (.bool false)).setCell ⟨p, 6, none⟩ (.int .i64 0)).setCell ⟨p, 7, none⟩ (.bool false)) p v v (.slice none 0 0) { R with L := X, Y := X, ch := [], fused := false, left := 0, off := false } ∧
    Fr (fun k => k = p) w ((((((w.setCell ⟨p, 1, none⟩ v).setCell ⟨p, 2, none⟩ v).setCell ⟨p, 3, none⟩ (.slice none 0 0)).setCell ⟨p, 5, none⟩ (.bool false)).setCell ⟨p, 6, none⟩ (.int .i64 0)).setCell ⟨p, 7, none⟩ (.bool false)) := by
  have h1 : RAt (w.setCell ⟨p, 1, none⟩ v) p v vO vC { R with L := X } := h.stored rfl hv h.old h.row h.data h.p_row
  have h2 : RAt ((w.setCell ⟨p, 1, none⟩ v).setCell ⟨p, 2, none⟩ v) p v v vC { R with L := X, Y := X } := h1.stored rfl h1.files h1.files h1.row h1.data h1.p_row
  have h3 : RAt (((w.setCell ⟨p, 1, none⟩ v).setCell ⟨p, 2, none⟩ v).setCell ⟨p, 3, none⟩ (.slice none 0 0)) p v v (.slice none 0 0) { R with L := X, Y := X, ch := [] } := h2.stored rfl h2.files h2.old ⟨rfl, Or.inl ⟨rfl, rfl⟩⟩ (fun c hc => by simp at hc) (by simp [Value.ownBlock])
  have h4 := h3.field (i := 5) (u := .bool false) (R' := { R with L := X, Y := X, ch := [], fused := false }) rfl rfl rfl rfl
  have h5 := h4.field (i := 6) (u := .int .i64 0) (R' := { R with L := X, Y := X, ch := [], fused := false, left := 0 }) rfl rfl rfl rfl
  exact ⟨h5.field rfl rfl rfl rfl, fr_cells (fr_cells (fr_cells (fr_cells (fr_cells (fr_cell _ _ _ _) (fr_cell _ _ _ _)) (fr_cell _ _ _ _)) (fr_cell _ _ _ _)) (fr_cell _ _ _ _)) (fr_cell _ _ _ _)⟩

set_option maxHeartbeats 400000 in
theorem rcrash_any (p : Nat) (M : Nat → Prop) (R : RSt) (v : Value) (keep : List Bool) (w : World) (h : RDisk w p M R) (hR : R.fine) (hY : R.Y.length ≤ 100000) (hv : Bools w v keep) :
    Calls Try.prog 40 #[.pointer (some ⟨p, 0, none⟩), v] w fun e w' => e = .returned (.tuple #[]) ∧ RStepped M w p (R.crash keep) w' := by
  obtain ⟨vL, vO, vC, h, rfl⟩ := h
  obtain ⟨_, _, c2, _⟩ := h.cells
  obtain ⟨va, vc, rfl, hva⟩ : ∃ va vc, v = .slice va keep.length vc ∧ ∀ wr, Fr None' w wr → ∀ k u, keep[k]? = some u → ∃ g off, va = some ⟨g, off, none⟩ ∧ wr.cell? ⟨g, off + k, none⟩ = some (.bool u) := by
    rcases hv with ⟨rfl, rfl⟩ | ⟨ad, c, rfl, hc⟩
    · exact ⟨none, 0, rfl, fun _ _ k u hu => by simp at hu⟩
    · refine ⟨_, c, rfl, fun wr fwr k u hu => ?_⟩
      obtain ⟨h0, h1⟩ := hc k u hu
      exact ⟨ad.block, ad.off, by rw [← h0], fwr.cell h1⟩
  clear hv
  go_enter Try.func40, Try.ntmps40
  go_wp2_with fail
  have HR : Hid (R.ch.length ≤ 100000) := hR.chs
  have HY : Hid (R.Y.length ≤ 100000) := hY
  have hch : (R.ch.length : Int) ≤ 100000 := by have := hR.chs; omega
  clear hR hY c2
  go_loopw [4, 5] (fun l i wr => ∃ k : Nat, k ≤ R.ch.length ∧ k ≤ keep.length ∧ i = .int .i64 k ∧ FilesRes wr l (rrep R.ch keep R.Y k) ∧ Fr None' w wr) (fun _ i _ => R.ch.length - (intOf i).toNat)
  case atStart => exact ⟨0, Nat.zero_le _, Nat.zero_le _, rfl, h.old, Fr.refl _ _⟩
  case round =>
    obtain ⟨k, hk, hkk, rfl, hl, fwr⟩ := hrel
    obtain ⟨xa, xc, rfl⟩ := row_slice hl.1
    have hwr := h.fresh fwr
    obtain ⟨ra, rc, hvC, hcc⟩ := ch_cells hwr.row
    subst hvC
    obtain ⟨_, _, _, c3, _⟩ := hwr.cells
    by_cases hlt : k < R.ch.length
    · by_cases hkl : k < keep.length
      · obtain ⟨c, hc⟩ : ∃ c, R.ch[k]? = some c := ⟨R.ch[k], by simp [hlt]⟩
        obtain ⟨g, rfl, q0, q1, q2⟩ := hcc k c hc
        have hd := hwr.data c (List.mem_of_getElem? hc)
        obtain ⟨ta, tc, htv⟩ := row_slice hd
        rw [htv] at q2
        have k0 : (0 : Int) ≤ (k : Int) := by omega
        have k1 : (k : Int) < (R.ch.length : Int) := by omega
        have k2 : (k : Int) < (keep.length : Int) := by omega
        have hlen := rrep_len R.ch keep R.Y k
        cases hb : keep[k] with
        | true =>
          have hb' : keep[k]? = some true := by rw [List.getElem?_eq_getElem hkl, hb]
          obtain ⟨g2, off2, rfl, hc2⟩ := hva wr fwr k true hb'
          have HS : Hid (rrep R.ch keep R.Y (k + 1) = c.app (rrep R.ch keep R.Y k)) := rrep_done hc hb'
          have hCh := rchanged_any _ _ c wr hl (by have := HR.out; have := HY.out; omega) hd
          rw [htv] at hCh
          generalize rrep R.ch keep R.Y k = X at *
          clear hva hcc hc hb hb' hd htv hlen hl hwr
          go_wp2_with (first
            | (go_at_call 56; refine hCh.mono ?_; rintro e w2 ⟨v2, rfl, R2, f2⟩; obtain ⟨xa2, xc2, hv2⟩ := row_slice R2.1; subst hv2))
          go_roundw
          case rel => exact ⟨k + 1, by omega, by omega, by go_num, by rw [HS.out]; exact R2, fwr.then f2⟩
          case measure => simp [intOf]; omega
        | false =>
          have hb' : keep[k]? = some false := by rw [List.getElem?_eq_getElem hkl, hb]
          obtain ⟨g2, off2, rfl, hc2⟩ := hva wr fwr k false hb'
          have HS : Hid (rrep R.ch keep R.Y (k + 1) = rrep R.ch keep R.Y k) := rrep_not (by rw [hb']; simp)
          generalize rrep R.ch keep R.Y k = X at *
          clear hva hcc hc hb hb' hd htv hlen
          go_wp2
          go_roundw
          case rel => exact ⟨k + 1, by omega, by omega, by go_num, by rw [HS.out]; exact hl, fwr⟩
          case measure => simp [intOf]; omega
      · have hke : k = keep.length := by omega
        have k2 : (keep.length : Int) ≤ (k : Int) := by omega
        have HS : Hid (rrep R.ch keep R.Y R.ch.length = rrep R.ch keep R.Y k) := by
          show _ = _
          have := rrep_stop R.ch keep R.Y (R.ch.length - keep.length)
          rw [show keep.length + (R.ch.length - keep.length) = R.ch.length from by omega] at this
          rw [this, hke]
        obtain ⟨h9, f9⟩ := hwr.crashed hl
        obtain ⟨_, c1', c2', _, _, c5', c6', c7', z⟩ := hwr.cells
        have z1 := z 1
        have z2 := z 2
        have z3 := z 3
        have z5 := z 5
        have z6 := z 6
        have z7 := z 7
        have HE : Hid (RDisk _ p _ _ ∧ Fr _ w _ ∧ ∀ k, RMut p (.slice none 0 0) k → RMut p (.slice ra R.ch.length rc) k ∨ w.heap.size ≤ k) := ⟨h9.disk, fr_mut (vC := .slice ra R.ch.length rc) (fr_cells (fwr.mono (fun _ e => e.elim)) f9), fun k hk => by
          rcases hk with e | e
          · exact Or.inl (Or.inl e)
          · cases e⟩
        generalize rrep R.ch keep R.Y k = X at *
        clear hva hcc z hwr h9 f9 hl
        go_wp2
        go_end0
        unfold RSt.crash
        rw [HS.out]
        exact ⟨rfl, _, HE.out⟩
    · have hke : k = R.ch.length := by omega
      have k2 : (R.ch.length : Int) ≤ (k : Int) := by omega
      have HS : Hid (rrep R.ch keep R.Y R.ch.length = rrep R.ch keep R.Y k) := by rw [hke]; exact rfl
      obtain ⟨h9, f9⟩ := hwr.crashed hl
      obtain ⟨_, c1', c2', _, _, c5', c6', c7', z⟩ := hwr.cells
      have z1 := z 1
      have z2 := z 2
      have z3 := z 3
      have z5 := z 5
      have z6 := z 6
      have z7 := z 7
      have HE : Hid (RDisk _ p _ _ ∧ Fr _ w _ ∧ ∀ k, RMut p (.slice none 0 0) k → RMut p (.slice ra R.ch.length rc) k ∨ w.heap.size ≤ k) := ⟨h9.disk, fr_mut (vC := .slice ra R.ch.length rc) (fr_cells (fwr.mono (fun _ e => e.elim)) f9), fun k hk => by
        rcases hk with e | e
        · exact Or.inl (Or.inl e)
        · cases e⟩
      generalize rrep R.ch keep R.Y k = X at *
      clear hva hcc z hwr h9 f9 hl
      go_wp2
      go_end0
      unfold RSt.crash
      rw [HS.out]
      exact ⟨rfl, _, HE.out⟩
end Go.Proofs.Ythnneejkbobbcaa
