/-
  What is proved here: what the document's changed answers. Condition: the files lie in memory.
-/
import Derived.Test.YthnneejkbobbcaaRWith
namespace Go.Proofs.Ythnneejkbobbcaa
open Go.RowKit Go.Maps Go.WideMaps
set_option maxRecDepth 100000

/-- A change of the document's. -/
structure RCh where
  frm : ByteArray
  to : ByteArray
  v : Value
  b : List UInt8

def RCh.app (c : RCh) (L : List Tri) : List Tri :=
  if c.frm.data.toList = [] then withF L ⟨c.to.data.toList, c.v, c.b⟩ else
  match get L c.frm.data.toList with
  | none => L
  | some t => if c.to.data.toList = [] then without L c.frm.data.toList else withF (without L c.frm.data.toList) { t with k := c.to.data.toList }

theorem find_get (L : List Tri) (k : List UInt8) : (findAt L k = -1 ∧ get L k = none) ∨ ∃ (i : Nat) (t : Tri), findAt L k = i ∧ L[i]? = some t ∧ get L k = some t ∧ t.k = k := by
  cases hg : get L k with
  | none =>
    refine Or.inl ⟨findAt_none (fun t ht => ?_), rfl⟩
    have := List.find?_eq_none.1 hg t ht
    simpa using this
  | some t =>
    obtain ⟨hk, pre, post, hL, hno⟩ := List.find?_eq_some_iff_append.1 hg
    have hk' : t.k = k := by simpa using hk
    have hi : L[pre.length]? = some t := by rw [hL]; simp
    refine Or.inr ⟨pre.length, t, findAt_some hi hk' (fun j u hj hu => ?_), hi, rfl, hk'⟩
    rw [hL, List.getElem?_append_left hj] at hu
    have := hno u (List.mem_of_getElem? hu)
    simpa using this

theorem empty_str (s : ByteArray) : s.toList.isEmpty = decide (s.data.toList = []) := by
  rw [ByteArray.toList_eq]
  cases s.data.toList <;> simp

set_option maxHeartbeats 4000000 in
theorem rchanged_any (v : Value) (L : List Tri) (c : RCh) (w : World) (h : FilesRes w v L) (hl : L.length ≤ 900000) (hc : Data w c.v c.b) :
    Calls Try.prog 56 #[v, .agg #[.string c.frm, .string c.to, c.v]] w fun e w' => ∃ v', e = .returned v' ∧ FilesRes w' v' (c.app L) ∧ Fr None' w w' := by
  obtain ⟨a, cc, rfl, hcl⟩ := h.cells
  obtain ⟨frm, to, v, b⟩ := c
  simp only at hc ⊢
  obtain ⟨fa, fc, rfl⟩ := row_slice hc
  have fA : Fr None' w (w.alloc (.cells #[.string frm, .string to, .slice fa b.length fc] 80)) := Fr.alloc None' _ _
  have nA := (MapKept.heap_alloc w (.cells #[.string frm, .string to, .slice fa b.length fc] 80)).1
  have hE := empty_str frm
  by_cases h0 : frm.data.toList = []
  · have t0 : frm.toList.isEmpty = true := by rw [hE]; simpa using h0
    have HA : Hid (RCh.app ⟨frm, to, .slice fa b.length fc, b⟩ L = withF L ⟨to.data.toList, .slice fa b.length fc, b⟩) := by
      show _ = _
      simp [RCh.app, h0]
    clear hE h0 nA hcl
    go_enter Try.func56, Try.ntmps56
    go_wp2_with fail
    refine (rwith_any _ L to _ b _ (h.kept fA (stillN _)) hl (fA.row hc (fun _ _ e => e))).mono ?_
    rintro e w1 ⟨v1, rfl, R1, F1⟩
    go_wp2
    go_ret
    exact ⟨_, rfl, by rw [HA.out]; exact R1, fA.then F1⟩
  · have t0 : frm.toList.isEmpty = false := by rw [hE]; simpa using h0
    have hF := rfind_any _ L frm _ (h.kept fA (stillN _)) (by omega)
    rcases find_get L frm.data.toList with ⟨e1, e2⟩ | ⟨i, t, e1, e2, e3, e4⟩
    · rw [e1] at hF
      have HA : Hid (RCh.app ⟨frm, to, .slice fa b.length fc, b⟩ L = L) := by
        show _ = _
        simp [RCh.app, h0, e2]
      clear hE h0 nA hcl e1 e2
      go_enter Try.func56, Try.ntmps56
      go_wp2_with fail
      refine hF.mono ?_
      rintro e w1 ⟨rfl, rfl⟩
      go_wp2
      go_ret
      exact ⟨_, rfl, by rw [HA.out]; exact h.kept fA (stillN _), fA⟩
    · rw [e1] at hF
      obtain ⟨g, rfl, c0, c1, hD⟩ := hcl i t e2
      have hlt := (List.getElem?_eq_some_iff.1 e2).1
      have d0 := fA.cell c0
      have d1 := fA.cell c1
      have k0 : (0 : Int) ≤ (i : Int) := by omega
      have k1 : (i : Int) < (L.length : Int) := by omega
      have hDA := fA.row hD (fun _ _ e => e)
      obtain ⟨ta, tc, htv⟩ := row_slice hD
      have hR := fun w1 (h1 : FilesRes w1 (.slice (some ⟨g, 0, none⟩) L.length cc) L) => rwithout_any _ L frm w1 h1 (by omega)
      have hE2 := empty_str to
      obtain ⟨wA, hwA⟩ : ∃ wA, wA = w.alloc (.cells #[.string frm, .string to, .slice fa b.length fc] 80) := ⟨_, rfl⟩
      obtain ⟨wB, hwB⟩ : ∃ wB, wB = wA.alloc (.cells #[.string ⟨t.k.toArray⟩, .slice ta t.b.length tc] 53) := ⟨_, rfl⟩
      have hszA : wA.heap.size = w.heap.size + 1 := by rw [hwA]; exact Array.size_push _
      have fB : Fr None' wA wB := hwB ▸ Fr.alloc None' _ _
      have nB : wB.heap[w.heap.size + 1]? = some (.cells #[.string ⟨t.k.toArray⟩, .slice ta t.b.length tc] 53) := by rw [← hszA, hwB]; exact (MapKept.heap_alloc wA _).1
      have fAB : Fr None' w wB := by rw [← hwA] at fA; exact fA.then fB
      have nAB := fB.at (hwA ▸ nA) (fun e => e)
      have HG : Hid (get L frm.data.toList = some t ∧ frm.data.toList ≠ [] ∧ t.k = frm.data.toList) := ⟨e3, h0, e4⟩
      have HBA : Hid (wA = w.alloc (.cells #[.string frm, .string to, .slice fa b.length fc] 80) ∧ wB = wA.alloc (.cells #[.string ⟨t.k.toArray⟩, .slice ta t.b.length tc] 53)) := ⟨hwA, hwB⟩
      clear hE hcl e1 e2 e3 e4 h0 hwA hwB
      go_enter Try.func56, Try.ntmps56
      go_wp2_with fail
      refine hF.mono ?_
      rintro e w1 ⟨rfl, rfl⟩
      go_wp2_with fail
      rw [← HBA.out.1, ← HBA.out.2]
      refine (hR _ (h.kept fAB (stillN _))).mono ?_
      rintro e w2 ⟨v2, rfl, R2, O2, F2⟩
      obtain ⟨ra, rc, rfl⟩ := row_slice R2.1
      have n2 := F2.at nAB (fun e => e)
      have m2 := F2.at nB (fun e => e)
      have x0 : w2.cell? ⟨w.heap.size, 1, none⟩ = some (.string to) := by simp [World.cell?, n2]
      have y0 : w2.cell? ⟨w.heap.size + 1, 0, none⟩ = some (.string ⟨t.k.toArray⟩) := cell0 m2
      have y1 : w2.cell? ⟨w.heap.size + 1, 1, none⟩ = some (.slice ta t.b.length tc) := cell1 m2
      have z0 : w2.frozen? ⟨w.heap.size + 1, 0, none⟩ = false := by simp [World.frozen?, m2]
      by_cases h2 : to.data.toList = []
      · have t2 : to.toList.isEmpty = true := by rw [hE2]; simpa using h2
        have HA : Hid (RCh.app ⟨frm, to, .slice fa b.length fc, b⟩ L = without L frm.data.toList) := by
          show _ = _
          simp [RCh.app, HG.out.1, HG.out.2.1, h2]
        clear hE2 h2
        go_wp2
        go_ret
        exact ⟨_, rfl, by rw [HA.out]; exact R2, fAB.then F2⟩
      · have t2 : to.toList.isEmpty = false := by rw [hE2]; simpa using h2
        have HA : Hid (RCh.app ⟨frm, to, .slice fa b.length fc, b⟩ L = withF (without L frm.data.toList) { t with k := to.data.toList }) := by
          show _ = _
          simp [RCh.app, HG.out.1, HG.out.2.1, h2]
        have fS : Fr None' w (w2.setCell ⟨w.heap.size + 1, 0, none⟩ (.string to)) := (fAB.then F2).trans (Fr.setCell (M := fun k => k = w.heap.size + 1) w2 rfl _) (fun i e => Or.inr (by omega))
        have hRS : FilesRes (w2.setCell ⟨w.heap.size + 1, 0, none⟩ (.string to)) (.slice ra (without L frm.data.toList).length rc) (without L frm.data.toList) := by
          refine ⟨?_, fun t' ht' => fS.allData (stillN _) h.2 t' (List.mem_filter.1 ht').1⟩
          refine ownsRow_base_a ((Fr.setCell (M := fun k => k = w.heap.size + 1) w2 rfl _).row O2 (fun g' e' em => ?_)) (Nat.zero_le _)
          have hlo : wB.heap.size ≤ g' := by
            rcases O2.2 with ⟨hvv, _⟩ | ⟨g2, cap2, cur2, hvv, hb2, _⟩
            · rw [hvv] at e'; cases e'
            · rw [hvv] at e'; cases e'; exact hb2
          have := lt_of_some nB
          omega
        have hDS : Data (w2.setCell ⟨w.heap.size + 1, 0, none⟩ (.string to)) (.slice ta t.b.length tc) t.b := fS.row (htv ▸ hD) (fun _ _ e => e)
        clear hE2 h2
        go_wp2_with fail
        refine (rwith_any _ _ to _ t.b _ hRS (by have := without_len L frm.data.toList; omega) hDS).mono ?_
        rintro e w4 ⟨v4, rfl, R4, F4⟩
        go_wp2
        go_ret
        exact ⟨_, rfl, by rw [HA.out, htv]; exact R4, fS.then F4⟩

end Go.Proofs.Ythnneejkbobbcaa
