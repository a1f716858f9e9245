/-
  What is proved here: Files, Of, Same, the head, and arguments that are bytes or files. Conditions: as each theorem names them.
-/
import Derived.Test.YtnmghgbpgpaomaaGreatMLay
import Derived.Test.YtnmghgbpgpaomaaGreatMG1
import Derived.Deep.QuietTactic
import Derived.BigQuiet
import Derived.Test.YtnmghgbpgpaomaaGreatMG3
import Derived.Lib.SlBytesConst
import Derived.ProofKit
import Derived.OpenShut
import Derived.ShutString
import Derived.ChangeOld
import Derived.Below
import Derived.ChangeMaps5
import Derived.Deep.RegionHeld3
namespace Go.Proofs.YtnmghgbpgpaomaaGreat
open Go.RowKit Go.Maps Go.Sort Go.Shelf
set_option maxRecDepth 100000

theorem sorts_in (m : Nat) : AnyZ.SortsIn Tryz.prog Tryz.sorted62_ren Fence.wide m :=
  ⟨fun blk off cap ss W hH hblk hsz => callsIn_wide.2 (AnyM.slices_Sort_string Tryz.sort82 blk off cap ss W hH hblk hsz),
   fun p cap W => callsIn_wide.2 (AnyM.slices_Sort_string_none Tryz.sort82 p cap W)⟩

theorem keysOf_any (mb : Option Nat) (W : World) : Calls Tryz.prog 63 #[.map mb] W fun e w' => e = .returned (.func (.func 88) #[] #[.pointer (some ⟨W.heap.size, 0, none⟩)]) ∧ w' = W.alloc (.cells #[.map mb] 64) :=
  callsIn_wide.1 (AnyZ.keys_in Tryz.keys63 Fence.wide 5 trivial rfl mb W)

set_option maxHeartbeats 1000000 in
theorem sortedKeys_any {H : Type} (b nn : Nat) (D0 : DataW H) (R : Value → Option (DataW H × List MemPlace)) (w : World) (hown : w.ownsMap Tryz.prog 9 R b nn D0) (hmax : Maps.size D0 ≤ maxLen) (hbytes : Maps.size D0 * 16 ≤ 140737488355328) :
    Calls Tryz.prog 62 #[.func (.func 88) #[] #[.pointer (some ⟨w.heap.size, 0, none⟩)]] (w.alloc (.cells #[.map (some b)] 64)) fun e w' => ∃ (v : Value) (ss : List (List UInt8)), e = .returned v ∧ ss.Perm (strKeys D0) ∧
      w'.ownsRow 0 9 1 v ss.length ((ss.mergeSort (fun x y => decide (x ≤ y))).map encStr) ∧ Below (w.alloc (.cells #[.map (some b)] 64)).heap.size (w.alloc (.cells #[.map (some b)] 64)) w' := by
  have hbl := hown.lt
  have hseq : SeqGives Fence.wide 2 Tryz.prog 88 #[.pointer (some ⟨w.heap.size, 0, none⟩)] encStr (fun ss => ss.Perm (strKeys D0)) (Maps.size D0) (w.alloc (.cells #[.map (some b)] 64)) :=
    AnyZ.keys_gives (ρ := Tryz.keys63_ren) { Tryz.keys63 with } Fence.wide _ trivial rfl (by omega) w.heap.size b nn D0 _ (by simp) (by simp) (by
      obtain ⟨es, clock, hb, Ft, hs, hD⟩ := hown
      exact ⟨es, clock, (Below.heap_alloc _ _ b hbl).trans hb, Ft, hs, hD⟩)
  have cS := callsIn_wide.1 (AnyZ.sorted_in Tryz.sorted62 Fence.wide 5 trivial trivial trivial trivial rfl (by omega) (sorts_in _) (enters_of Tryz.func82 (by kernel_rfl) rfl) 88 #[.pointer (some ⟨w.heap.size, 0, none⟩)] trivial (enters_of Tryz.func88 (by kernel_rfl) rfl) _ _ hmax hbytes _ hseq)
  refine Calls.mono cS fun e w' h => ?_
  obtain ⟨v, ss, h1, h2, h3, h4, h5⟩ := h
  exact ⟨v, ss, h1, h2, ownsRow_base_a h3 (Nat.zero_le _), h5⟩

end Go.Proofs.YtnmghgbpgpaomaaGreat

namespace Go.Proofs.YtnmghgbpgpaomaaGreat
open Go.RowKit Go.Maps Go.WideMaps Go.Sort
set_option maxRecDepth 100000

/-- The slice v holds these files, in this order. -/
def FilesRes (w : World) (v : Value) (L : List Tri) : Prop := w.ownsRow 0 61 2 v L.length (L.flatMap fun t => [encStr t.k, t.v]) ∧ AllData w L

/-- Names and bytes alone. -/
def kb (L : List Tri) : List (List UInt8 × List UInt8) := L.map fun t => (t.k, t.b)

def bAt (T : List Tri) (k : List UInt8) : List UInt8 := match get T k with | some t => t.b | none => []

/-- All files, by rising names. -/
def sortedNames (T : List Tri) : List (List UInt8) := (T.map fun t => t.k).mergeSort (fun x y => decide (x ≤ y))
def sortedFiles (T : List Tri) : List (List UInt8 × List UInt8) := (sortedNames T).map fun k => (k, bAt T k)

theorem Tryz.infoF : (Tryz.prog.info? 61).map (fun i => (i.zero, i.size, i.bytes)) = some (some (.agg #[.string ByteArray.empty, .slice none 0 0]), 2, 40) := by kernel_rfl

theorem strKeys_toD (T : List Tri) : strKeys (toD T) = T.map fun t => t.k := by
  unfold toD strKeys
  simp only [List.map_map]
  rfl

theorem look_t {w : World} {p bf bs : Nat} {ca : Value} {S : St} {t : Tri} (h : DiskAt w p bf bs ca S) (k : List UInt8) (hk : k.length ≤ maxLen) (hg : get S.F k = some t) :
    (Instr.lookup 64 (.map (some bf)) (encStr k) false).run Tryz.prog w = .ok t.v w := by
  obtain ⟨v, ps, hrun, hv⟩ := h.files.lookup lawS Tryz.underlying64 (zeroBS _) (zd := .held (.slice none 0 0)) (zp := []) rfl (keyOf_string_mk Tryz.underlying9 (s := ⟨k.toArray⟩) hk)
  rw [atKey_toD] at hv
  have e := heldR_eq hv
  rw [show get S.F (⟨k.toArray⟩ : ByteArray).data.toList = some t from by simpa using hg] at e
  simp at e
  rw [e]; exact hrun

theorem two_new (w : World) (x y : Value) (t : TypeId) : ∀ j u, [x, y][j]? = some u → (w.alloc (.cells #[x, y] t)).cell? ((⟨w.heap.size, 0, none⟩ : Addr).add j) = some u := by
  intro j u hj
  have hh := (MapKept.heap_alloc w (.cells #[x, y] t)).1
  have e : (⟨w.heap.size, 0, none⟩ : Addr).add j = ⟨w.heap.size, j, none⟩ := by unfold Addr.add; split <;> simp_all
  rw [e]
  unfold World.cell?
  simp only [hh]
  simpa using hj

theorem FilesRes.kept {M : Nat → Prop} {w w' : World} {v : Value} {L : List Tri} (h : FilesRes w v L) (hf : Fr M w w') (hs : Still M w) : FilesRes w' v L := by
  refine ⟨?_, hf.allData hs h.2⟩
  obtain ⟨h1, h2⟩ := h.1
  refine ⟨h1, ?_⟩
  rcases h2 with h2 | ⟨g, cap, cur, hv, hg, hh, r⟩
  · exact Or.inl h2
  · exact Or.inr ⟨g, cap, cur, hv, hg, hf.cellsAt hs hh (by decide) (by decide), r⟩

theorem stillN (w : World) : Still None' w := fun _ _ _ _ _ hm => hm.elim

theorem lenb {w : World} {T : List Tri} (h : AllData w T) : ∀ t ∈ T, ∃ a c, t.v = .slice a t.b.length c := fun t ht => row_slice (h t ht)

/-- A row of another kind stays while the row v grows. -/
theorem row_kept {w w' : World} {b1 b2 s1 s2 n1 n2 : Nat} {e1 e2 : TypeId} {x v : Value} {xs vs : List Value} (hx : w.ownsRow b1 e1 s1 x n1 xs) (hv : w.ownsRow b2 e2 s2 v n2 vs) (he : e1 ≠ e2) (hg : w.grownBy w' v.ownBlock) : w'.ownsRow b1 e1 s1 x n1 xs := by
  obtain ⟨h1, h2⟩ := hx
  refine ⟨h1, ?_⟩
  rcases h2 with h2 | ⟨g, cap, cur, hxv, hb, hh, r⟩
  · exact Or.inl h2
  · refine Or.inr ⟨g, cap, cur, hxv, hb, ?_, r⟩
    rw [hg.block g (lt_of_some hh) (fun e => ?_)]
    · exact hh
    · rcases hv.2 with ⟨hvv, _⟩ | ⟨g', cap', cur', hvv, _, hh', _⟩
      · rw [hvv] at e; cases e
      · rw [hvv] at e; cases e
        rw [hh] at hh'; cases hh'; exact he rfl

theorem FilesRes.snoc {w' : World} {v' : Value} {L : List Tri} {t : Tri} (hd : AllData w' L) (hx : Data w' t.v t.b) (hr : w'.ownsRow 0 61 2 v' (L.length + 1) ((L.flatMap fun t => [encStr t.k, t.v]) ++ [encStr t.k, t.v])) : FilesRes w' v' (L ++ [t]) := by
  refine ⟨by simpa using hr, fun u hu => ?_⟩
  rcases List.mem_append.1 hu with h | h
  · exact hd u h
  · simp at h; subst h; exact hx

set_option maxHeartbeats 4000000 in
theorem files_any (p : Nat) (M : Nat → Prop) (S : St) (w : World) (h : Disk w p M S) (hS : S.fine) (hu : used S.F < 35184372088832) :
    Calls Tryz.prog 27 #[.pointer (some ⟨p, 0, none⟩)] w fun e w' => ∃ v L, e = .returned v ∧ FilesRes w' v L ∧ kb L = sortedFiles S.F ∧ Fr None' w w' := by
  obtain ⟨bf, bs, ca, h, rfl⟩ := h
  obtain ⟨c0, c1, _⟩ := h.cells
  obtain ⟨i0, hi, hz0, hz1, hz2⟩ := info_parts Tryz.infoF
  have hsize := h.files.size_le
  rw [size_toD] at hsize
  have hn1 := hS.n1
  have hlen := fun ty => h.files.len Tryz.underlying64 ty
  rw [size_toD] at hlen
  obtain ⟨w1, hmk, f1, hr1⟩ : ∃ w1, (Instr.makeSlice 22 (.int .i64 0) (.int .i64 S.F.length)).run Tryz.prog w = .ok (.slice (some ⟨w.heap.size, 0, none⟩) 0 S.F.length) w1 ∧ Fr None' w w1 ∧ w1.ownsRow 0 61 2 (.slice (some ⟨w.heap.size, 0, none⟩) 0 S.F.length) 0 [] := by
    have hmk := run_make (P := Tryz.prog) w 22 61 i0 _ Tryz.underlying22 hi hz0 .i64 .i64 0 (S.F.length : Int) (Int.le_refl _) (by omega) (by rw [hz2]; omega) (by omega)
    refine ⟨_, hmk, Fr.alloc _ _ _, rfl, Or.inr ⟨w.heap.size, S.F.length, _, rfl, Nat.zero_le _, (MapKept.heap_alloc w _).1, Nat.zero_le _, by unfold maxLen; omega, ?_, rfl⟩⟩
    simp [size_madeCells, hz1]
  have h1 := h.fresh f1
  obtain ⟨_, d1, _⟩ := h1.cells
  have cS := sortedKeys_any bf S.n _ _ w1 h1.files (by rw [size_toD]; unfold maxLen; omega) (by rw [size_toD]; omega)
  rw [strKeys_toD] at cS
  go_enter Tryz.func27, Tryz.ntmps27
  go_wp2_with fail
  refine (keysOf_any _ _).mono ?_
  rintro e w2 ⟨rfl, hw2⟩
  subst hw2
  go_wp2_with fail
  refine cS.mono ?_
  rintro e w3 ⟨vk, ss, rfl, hperm, hrow, hbel⟩
  have hks : ss.mergeSort (fun x y => decide (x ≤ y)) = sortedNames S.F := mergeSort_of_perm hperm
  rw [hks] at hrow
  have hkl : (sortedNames S.F).length = ss.length := by rw [← hks]; simp
  have hkm : ∀ k ∈ sortedNames S.F, ∃ t, get S.F k = some t := fun k hk => by
    have h2 : k ∈ S.F.map fun t => t.k := (List.mergeSort_perm _ _).mem_iff.1 hk
    obtain ⟨t, ht, rfl⟩ := List.mem_map.1 h2
    exact ⟨t, get_of_mem (apart_of_tidy (h.files.tidy lawS)) ht⟩
  have hkn : ∀ k ∈ sortedNames S.F, k.length ≤ maxLen := fun k hk => strKeys_le h.files Tryz.underlying9 k (by rw [strKeys_toD]; exact (List.mergeSort_perm _ _).mem_iff.1 hk)
  have f3 : Fr None' w w3 := (f1.then (Fr.alloc _ _ _)).then (Fr.of_below hbel (fun k h1 h2 => by omega))
  have hr3 : w3.ownsRow w.heap.size 61 2 (.slice (some ⟨w.heap.size, 0, none⟩) 0 S.F.length) 0 [] := by
    have ha : Fr None' w1 w3 := (Fr.alloc None' _ _).then (Fr.of_below hbel (fun k h1 h2 => by omega))
    have := ha.row hr1 (fun _ _ e => e)
    exact ⟨rfl, by
      rcases this.2 with ⟨hv, _⟩ | ⟨g, cap, cur, hv, _, r⟩
      · cases hv
      · cases hv; exact Or.inr ⟨_, _, cur, rfl, Nat.le_refl _, r⟩⟩
  have hbb := lenb h.dataF
  have hn3 : S.F.length ≤ 1000000000 := by omega
  have hssl : ss.length = S.F.length := by
    have := hperm.length_eq
    simpa using this
  obtain ⟨ka, kc, rfl⟩ := row_slice hrow
  generalize hK : sortedNames S.F = ks at *
  clear hks hperm cS hmk hlen hr1 d1 c0 c1 h1
  go_wp2_with fail
  go_loopw [3, 19] (fun v i wr => ∃ (j : Nat) (L : List Tri), j ≤ ss.length ∧ i = .int .i64 j ∧ wr.ownsRow w.heap.size 61 2 v L.length (L.flatMap fun t => [encStr t.k, t.v]) ∧ AllData wr L ∧ kb L = (ks.take j).map (fun k => (k, bAt S.F k)) ∧ L.length = j ∧ wr.ownsRow 0 9 1 (.slice ka ss.length kc) ss.length (ks.map encStr) ∧ Fr None' w wr) (fun _ i _ => ss.length - (intOf i).toNat)
  case atStart => exact ⟨0, [], Nat.zero_le _, rfl, hr3, fun t ht => by simp at ht, rfl, rfl, hrow, f3⟩
  case round =>
    obtain ⟨j, L, hj, rfl, hv, hdat, hkb, hLj, hkrow, hfr⟩ := hrel
    obtain ⟨va, vc, rfl⟩ := row_slice hv
    clear hr3 hrow f3 hbel f1
    by_cases hlt : j < ss.length
    · obtain ⟨k, hk⟩ : ∃ k, ks[j]? = some k := ⟨ks[j]'(by omega), by simp⟩
      obtain ⟨t, ht⟩ := hkm k (List.mem_of_getElem? hk)
      have hkl' := hkn k (List.mem_of_getElem? hk)
      have hd := h.fresh hfr
      obtain ⟨_, d1, _⟩ := hd.cells
      have hlook := look_t hd k hkl' ht
      have hdt := hd.dataF t (get_mem ht).1
      have htu : t.b.length ≤ used S.F := by
        have := lenAt_le (apart_of_tidy (h.files.tidy lawS)) k
        simpa [lenAt, ht] using this
      obtain ⟨ta, tc, htv⟩ := row_slice hdt
      have hcl := bclone_any t.v t.b wr hdt.bytes (by omega)
      rw [htv] at hlook hcl
      have hcell : ∃ g, ka = some ⟨g, 0, none⟩ ∧ wr.cell? ⟨g, j, none⟩ = some (encStr k) := by
        have hx : (ks.map encStr)[j]? = some (encStr k) := by simp [hk]
        rcases hkrow.2 with ⟨hv', h0⟩ | ⟨g, cap', cur, hv', _⟩
        · omega
        · cases hv'; exact ⟨g, rfl, row_cell hkrow hx⟩
      obtain ⟨g, rfl, hcell⟩ := hcell
      have hstep : kb (L ++ [⟨k, t.v, t.b⟩]) = (ks.take (j + 1)).map (fun k => (k, bAt S.F k)) := by
        have e1 : ks.take (j + 1) = ks.take j ++ [k] := by
          rw [List.take_add_one, hk]; rfl
        rw [e1, List.map_append, ← hkb]
        simp [kb, bAt, ht]
      have i0' : (0 : Int) ≤ (j : Int) := by omega
      have i1' : (j : Int) < (ss.length : Int) := by omega
      have H : Hid (kb (L ++ [⟨k, t.v, t.b⟩]) = (ks.take (j + 1)).map (fun k => (k, bAt S.F k)) ∧ L.length = j) := ⟨hstep, hLj⟩
      have hLl : L.length ≤ 1000000000 := by omega
      clear hkm hkn hk hstep hkb hLj ht htv
      go_wp2_with (first
        | (go_at_call 31; refine hcl.mono ?_; rintro e w4 ⟨v4, rfl, D4, F4⟩; obtain ⟨a4, c4, rfl⟩ := row_slice D4; have hv4 := F4.row hv (fun _ _ e => e); have hk4 := F4.row hkrow (fun _ _ e => e); have hd4 := F4.allData (stillN _) hdat)
        | (at_builtin; refine wpList_append_own_at _ rfl _ _ 22 rfl w.heap.size 61 i0 _ 2 40 Tryz.underlying22 hi hz0 hz1 hz2 rfl (by decide) _ _ _ rfl (hv4.alloc _) ⟨w4.heap.size, 0, none⟩ 1 1 [encStr k, .slice a4 t.b.length c4] rfl rfl (two_new _ _ _ _) (fun u hu => by simp at hu; rcases hu with rfl | rfl <;> rfl) (by unfold maxLen; omega) (by omega) (by have := hfr.size; have := F4.size; simp; omega) ?_; intro v5 w5 hown5 hg5 hnil hloc)
        | go_in)
      have hlo : ∀ i, (Value.slice va L.length vc).ownBlock = some i → w.heap.size ≤ i := fun i e => by
        rcases hv.2 with ⟨hvv, _⟩ | ⟨g', cap', cur', hvv, hb', _⟩
        · rw [hvv] at e; cases e
        · rw [hvv] at e; cases e; exact hb'
      have hfr5 : Fr None' w w5 := ((hfr.then F4).then (Fr.alloc _ _ _)).trans (Fr.grown (M := fun i => (Value.slice va L.length vc).ownBlock = some i) hg5 (fun k e => e)) (fun i e => Or.inr (hlo i e))
      go_roundw
      case rel =>
        refine ⟨j + 1, L ++ [⟨k, .slice a4 t.b.length c4, t.b⟩], by omega, by go_num, by simpa using hown5, fun u hu => ?_, ?_, by simp [H.out.2], row_kept (hk4.alloc _) (hv4.alloc _) (by decide) hg5, hfr5⟩
        · rcases List.mem_append.1 hu with h' | h'
          · exact row_kept (World.ownsRow.alloc (hd4 u h') _) (hv4.alloc _) (by decide) hg5
          · simp at h'; subst h'
            exact row_kept (World.ownsRow.alloc D4 _) (hv4.alloc _) (by decide) hg5
        · have := H.out.1
          simpa [kb] using this
      case measure => simp [intOf]; omega
    · have hjl : j = ss.length := by omega
      subst hjl
      go_wp2
      go_ret
      refine ⟨_, L, rfl, ⟨ownsRow_base_a hv (Nat.zero_le _), hdat⟩, ?_, hfr⟩
      rw [hkb, List.take_of_length_le (by omega)]
      unfold sortedFiles
      rw [hK]

end Go.Proofs.YtnmghgbpgpaomaaGreat

namespace Go.Proofs.YtnmghgbpgpaomaaGreat
open Go.RowKit Go.Maps Go.WideMaps Go.Sort
set_option maxRecDepth 100000

theorem fr_drewN (w : World) (n : Nat) : Fr None' w (w.drewN n) := ⟨rfl, rfl, rfl, Nat.le_refl _, fun _ _ _ => rfl⟩

theorem flat_at : ∀ (L : List Tri) (i : Nat) (t : Tri), L[i]? = some t → (L.flatMap fun t => [encStr t.k, t.v])[i * 2]? = some (encStr t.k) ∧ (L.flatMap fun t => [encStr t.k, t.v])[i * 2 + 1]? = some t.v
  | [], i, t, h => by simp at h
  | x :: r, 0, t, h => by
    simp at h; subst h
    exact ⟨rfl, rfl⟩
  | x :: r, i + 1, t, h => by
    have ih := flat_at r i t (by simpa using h)
    rw [List.flatMap_cons]
    rw [show (i + 1) * 2 = i * 2 + 1 + 1 by omega]
    exact ⟨by simpa using ih.1, by simpa using ih.2⟩

/-- A file of a row. -/
theorem FilesRes.cells {w : World} {v : Value} {L : List Tri} (h : FilesRes w v L) : ∃ a c, v = .slice a L.length c ∧ ∀ i t, L[i]? = some t → ∃ g, a = some ⟨g, 0, none⟩ ∧ w.cell? ⟨g, i * 2, none⟩ = some (.string ⟨t.k.toArray⟩) ∧ w.cell? ⟨g, i * 2 + 1, none⟩ = some t.v ∧ Data w t.v t.b := by
  obtain ⟨h1, h2⟩ := h
  rcases h1.2 with ⟨hv, h0⟩ | ⟨g, cap, cur, hv, _, hh, _, _, _, ht⟩
  · have hL : L = [] := by simpa using h0
    subst hL
    exact ⟨none, 0, hv, fun i t hi => by simp at hi⟩
  · refine ⟨_, cap, hv, fun i t hi => ⟨g, rfl, ?_, ?_, h2 t (List.mem_of_getElem? hi)⟩⟩
    · have hf := (flat_at L i t hi).1
      rw [← ht, List.getElem?_take] at hf
      split at hf
      · simp [World.cell?, hh]; simpa using hf
      · cases hf
    · have hf := (flat_at L i t hi).2
      rw [← ht, List.getElem?_take] at hf
      split at hf
      · simp [World.cell?, hh]; simpa using hf
      · cases hf

set_option maxHeartbeats 4000000 in
theorem same_any (va vb : Value) (A B : List Tri) (w : World) (hA : FilesRes w va A) (hB : FilesRes w vb B) (he : kb A = kb B) (hl : A.length ≤ 1000000000) :
    Calls Tryz.prog 26 #[va, vb] w fun e w' => e = .returned (.bool true) ∧ Fr None' w w' := by
  obtain ⟨aa, ac, rfl, hca⟩ := hA.cells
  obtain ⟨ba, bc, rfl, hcb⟩ := hB.cells
  have hlen : B.length = A.length := by
    have := congrArg List.length he
    simpa [kb] using this.symm
  rw [hlen]
  have hl' : (A.length : Int) ≤ 1000000000 := by omega
  have HE : Hid (kb A = kb B ∧ B.length = A.length) := ⟨he, hlen⟩
  clear hA hB he hlen
  go_enter Tryz.func26, Tryz.ntmps26
  go_wp2
  go_loopw [5] (fun i wr => ∃ j : Nat, j ≤ A.length ∧ i = .int .i64 j ∧ Fr None' w wr) (fun i _ => A.length - (intOf i).toNat)
  case atStart => exact ⟨0, Nat.zero_le _, rfl, Fr.refl _ _⟩
  case round =>
    obtain ⟨j, hj, rfl, hfr⟩ := hrel
    by_cases hlt : j < A.length
    · obtain ⟨s, hs⟩ : ∃ s, A[j]? = some s := ⟨A[j], by simp [hlt]⟩
      obtain ⟨t, ht⟩ : ∃ t, B[j]? = some t := ⟨B[j]'(by have := HE.out.2; omega), by simp⟩
      have hst : s.k = t.k ∧ s.b = t.b := by
        have h1 : (kb A)[j]? = some (s.k, s.b) := by simp [kb, hs]
        have h2 : (kb B)[j]? = some (t.k, t.b) := by simp [kb, ht]
        rw [HE.out.1, h2] at h1
        simp at h1
        exact ⟨h1.1.symm, h1.2.symm⟩
      obtain ⟨ga, rfl, a0, a1, aD⟩ := hca j s hs
      obtain ⟨gb, rfl, b0, b1, bD⟩ := hcb j t ht
      have hce : ∀ g off u, w.cell? ⟨g, off, none⟩ = some u → wr.cell? ⟨g, off, none⟩ = some u := fun g off u hu => by
        have hlt' : g < w.heap.size := by
          unfold World.cell? at hu
          split at hu
          · rename_i hk; exact lt_of_some hk
          · cases hu
        rw [World.cell?_of_block (w := w) (a := ⟨g, off, none⟩) (hfr.block g hlt' (fun e => e))]
        exact hu
      have a0' := hce _ _ _ a0
      have a1' := hce _ _ _ a1
      have b0' := hce _ _ _ b0
      have b1' := hce _ _ _ b1
      rw [← hst.1] at b0'
      have sA : ∀ n, (convert 31 9 s.v).run Tryz.prog (wr.drewN n) = .ok (.string ⟨s.b.toArray⟩) (wr.drewN n) := fun n => str_any (aD.bytes.kept (hfr.then (fr_drewN wr n)) (fun _ _ _ _ _ e => e))
      have sB : ∀ n, (convert 31 9 t.v).run Tryz.prog (wr.drewN n) = .ok (.string ⟨s.b.toArray⟩) (wr.drewN n) := fun n => by rw [hst.2]; exact str_any (bD.bytes.kept (hfr.then (fr_drewN wr n)) (fun _ _ _ _ _ e => e))
      have i0 : (0 : Int) ≤ (j : Int) := by omega
      have i1 : (j : Int) < (A.length : Int) := by omega
      have HF : Hid (Fr None' w wr) := hfr
      generalize s.k = k at *
      generalize s.b = bb at *
      generalize s.v = x at *
      generalize t.v = y at *
      clear hca hcb hce a0 a1 b0 b1 aD bD hst hs ht hfr HE
      go_wp2_with fail
      go_quiet (fail)
      go_wp2
      go_roundw
      case rel => exact ⟨j + 1, by omega, by go_num, HF.out.then (fr_drewN _ _)⟩
      case measure => simp [intOf]; omega
    · have hjl : j = A.length := by omega
      subst hjl
      clear hca hcb
      go_wp2
      go_ret
      exact ⟨rfl, hfr⟩

end Go.Proofs.YtnmghgbpgpaomaaGreat

namespace Go.Proofs.YtnmghgbpgpaomaaGreat
open Go.RowKit Go.Maps Go.WideMaps
set_option maxRecDepth 100000

theorem right_new : right newK = true := by decide
theorem right_root : right rootK = true := by decide
theorem new_ne_root : newK ≠ rootK := by decide
theorem file_ne_root (x : List UInt8) : fileK x ≠ rootK := by unfold fileK rootK; simp
theorem file_ne_new (x : List UInt8) : fileK x ≠ newK := by unfold fileK newK; simp

theorem okd_okc {c : UInt8} (h : Sha.okd c = true) : okc c = true := by
  unfold Sha.okd at h
  unfold okc
  simp only [decide_eq_true_eq] at h ⊢
  omega

theorem right_file {x : List UInt8} (h : Sha.namedB x = true) : right (fileK x) = true := by
  have hl := namedB_length h
  have ha : x.all Sha.okd = true := by
    unfold Sha.namedB at h
    simp only [Bool.and_eq_true] at h
    exact h.2
  unfold right
  rw [fileK_length hl]
  simp only [Bool.and_eq_true]
  refine ⟨⟨by decide, by decide⟩, ?_⟩
  unfold fileK
  rw [List.all_append]
  have h1 : [(111 : UInt8), 46].all okc = true := by decide
  rw [h1, Bool.true_and, List.all_eq_true]
  intro c hc
  exact okd_okc (List.all_eq_true.1 ha c (List.mem_of_mem_take hc))

/-- The power is there, and no fuse. -/
def Calm (S : St) : Prop := S.down = false ∧ S.fuse = -1

theorem Calm.asked {S : St} (h : Calm S) : S.asked = S := by
  obtain ⟨h1, h2⟩ := h
  cases S
  simp_all [St.asked]

theorem Calm.sync {S : St} (h : Calm S) : S.sync = (0, S.settled.counted) := by
  unfold St.sync
  rw [h.asked, h.1]
  simp

theorem Calm.counted {S : St} (h : Calm S) : Calm S.counted := by
  obtain ⟨h1, h2⟩ := h
  refine ⟨h1, ?_⟩
  show (if 0 < S.fuse then S.fuse - 1 else S.fuse) = -1
  rw [h2]; decide

theorem Calm.write {S : St} (h : Calm S) {t : Tri} (hk : right t.k = true) (hb : t.b.length ≤ 65536) (hF : get S.F t.k ≠ none ∨ S.F.length < 512) (hr : (used S.F : Int) - lenAt S.F t.k + t.b.length ≤ S.room) : S.write t = (0, S.did (Ch.wr t)) := by
  have e : S.refuse t.k t.b.length = 0 := by
    unfold St.refuse
    rw [if_neg (by simp [hk]), if_neg (by
      rintro (h | ⟨h1, h2⟩)
      · omega
      · rcases hF with h | h
        · exact h h1
        · omega), if_neg (by omega)]
  unfold St.write
  rw [h.asked, h.1, e]
  simp

theorem Calm.rename {S : St} (h : Calm S) {a b : List UInt8} (hb : right b = true) (ha : (get S.F a).isSome = true) : S.rename a b = (0, S.did (Ch.mv a b)) := by
  unfold St.rename
  rw [h.asked, h.1, hb, ha]
  simp

theorem Calm.did {S : St} (h : Calm S) (c : Ch) : Calm (S.did c) := Calm.counted (S := { S with F := c.app S.F, n := S.n + 1, ch := S.ch ++ [c] }) h
theorem Calm.settled {S : St} (h : Calm S) : Calm S.settled := h

theorem Calm.read {S : St} (h : Calm S) (k : List UInt8) : S.read k = match get S.F k with | none => ([], 12) | some t => (t.b, 0) := by
  unfold St.read
  rw [h.1]
  rfl

/-- What SetRoot makes of the files. -/
def setF (F : List Tri) (x : List UInt8) (v : Value) : List Tri := put (del (put F ⟨newK, v, x⟩) newK) ⟨rootK, v, x⟩

structure SetOk (S : St) (x : List UInt8) (v : Value) (r : Int) (T : St) : Prop where
  ok : r = 0
  F : T.F = setF S.F x v
  Y : T.Y = T.F
  ch : T.ch = []
  calm : Calm T
  room : T.room = S.room
  acts : T.acts = S.acts + 5

theorem set_ok {S : St} {x : List UInt8} {v : Value} {r : Int} {T : St} (hc : Calm S) (hx : x.length ≤ 65536) (hF : get S.F newK ≠ none ∨ S.F.length < 512) (hr : (used S.F : Int) - lenAt S.F newK + x.length ≤ S.room) (h : Ended S x v r T) : SetOk S x v r T := by
  have a0 : St.stepAt x v 0 S = (0, S.settled.counted) := hc.sync
  have b0 : St.after S x v 1 = S.settled.counted := by show (St.stepAt x v 0 S).2 = _; rw [a0]
  have c0 : Calm S.settled.counted := hc.settled.counted
  have a1 : St.stepAt x v 1 S.settled.counted = (0, S.settled.counted.did (Ch.wr ⟨newK, v, x⟩)) := c0.write right_new hx hF hr
  obtain ⟨S2, hS2⟩ : ∃ S2, S.settled.counted.did (Ch.wr ⟨newK, v, x⟩) = S2 := ⟨_, rfl⟩
  rw [hS2] at a1
  have b1 : St.after S x v 2 = S2 := by show (St.stepAt x v 1 (St.after S x v 1)).2 = _; rw [b0, a1]
  have c1 : Calm S2 := hS2 ▸ c0.did _
  have F2 : S2.F = put S.F ⟨newK, v, x⟩ := by rw [← hS2]; rfl
  have a2 : St.stepAt x v 2 S2 = (0, S2.settled.counted) := c1.sync
  obtain ⟨S3, hS3⟩ : ∃ S3, S2.settled.counted = S3 := ⟨_, rfl⟩
  rw [hS3] at a2
  have b2 : St.after S x v 3 = S3 := by show (St.stepAt x v 2 (St.after S x v 2)).2 = _; rw [b1, a2]
  have c2 : Calm S3 := hS3 ▸ c1.settled.counted
  have F3 : S3.F = put S.F ⟨newK, v, x⟩ := by rw [← hS3]; exact F2
  have a3 : St.stepAt x v 3 S3 = (0, S3.did (Ch.mv newK rootK)) := c2.rename right_root (by rw [F3, get_put_same S.F ⟨newK, v, x⟩]; rfl)
  obtain ⟨S4, hS4⟩ : ∃ S4, S3.did (Ch.mv newK rootK) = S4 := ⟨_, rfl⟩
  rw [hS4] at a3
  have b3 : St.after S x v 4 = S4 := by show (St.stepAt x v 3 (St.after S x v 3)).2 = _; rw [b2, a3]
  have c3 : Calm S4 := hS4 ▸ c2.did _
  have F4 : S4.F = setF S.F x v := by
    rw [← hS4]
    show (Ch.mv newK rootK).app S3.F = _
    unfold Ch.app
    simp only
    rw [F3, get_put_same S.F ⟨newK, v, x⟩]
    rfl
  have a4 : St.stepAt x v 4 S4 = (0, S4.settled.counted) := c3.sync
  have b4 : St.after S x v 5 = S4.settled.counted := by show (St.stepAt x v 4 (St.after S x v 4)).2 = _; rw [b3, a4]
  obtain ⟨j, hj, hall, h | ⟨h1, h2, h3, h4⟩⟩ := h
  · obtain ⟨_, rfl, rfl⟩ := h
    rw [b4]
    refine ⟨rfl, F4, rfl, rfl, c3.settled.counted, ?_, ?_⟩
    · rw [← hS4, ← hS3, ← hS2]; rfl
    · rw [← hS4, ← hS3, ← hS2]
      simp only [St.counted, St.settled, St.did]
      omega
  · exfalso
    apply h3
    rw [h2]
    have : j = 0 ∨ j = 1 ∨ j = 2 ∨ j = 3 ∨ j = 4 := by omega
    rcases this with rfl | rfl | rfl | rfl | rfl
    · show (St.stepAt x v 0 S).1 = 0; rw [a0]
    · rw [b0, a1]
    · rw [b1, a2]
    · rw [b2, a3]
    · rw [b3, a4]

theorem del_put (T : List Tri) (t : Tri) : del (put T t) t.k = del T t.k := by
  unfold put
  have : ∀ L : List Tri, (∀ y ∈ L, y.k ≠ t.k) → del (ins t L) t.k = L := by
    intro L
    induction L with
    | nil => intro _; simp [ins, del]
    | cons y r ih =>
      intro h
      have hy := h y (by simp)
      have hr := ih (fun z hz => h z (by simp [hz]))
      unfold ins
      split
      · have hd : del (y :: r) t.k = y :: r := by
          unfold del
          rw [List.filter_eq_self]
          intro z hz
          simpa using h z hz
        show del (t :: y :: r) t.k = _
        unfold del at hd ⊢
        rw [List.filter_cons_of_neg (by simp)]
        exact hd
      · unfold del at hr ⊢
        rw [List.filter_cons_of_pos (by simpa using hy), hr]
  exact this _ (fun y hy => (mem_del.1 hy).2)

theorem setF_eq (F : List Tri) (x : List UInt8) (v : Value) : setF F x v = put (del F newK) ⟨rootK, v, x⟩ := by
  unfold setF
  rw [del_put F ⟨newK, v, x⟩]

theorem get_setF_root (F : List Tri) (x : List UInt8) (v : Value) : get (setF F x v) rootK = some ⟨rootK, v, x⟩ := get_put_same _ ⟨rootK, v, x⟩
theorem get_setF_other (F : List Tri) (x : List UInt8) (v : Value) {k : List UInt8} (h1 : k ≠ newK) (h2 : k ≠ rootK) : get (setF F x v) k = get F k := by
  rw [setF_eq, get_put_other (x := ⟨rootK, v, x⟩) h2, get_del_other h1]

theorem put_new {S : St} (h : Calm S) (b : List UInt8) (v : Value) (hg : get S.F (fileK (nm b)) = none) (hb : b.length ≤ 65536) (hF : S.F.length < 512) (hr : (used S.F : Int) + b.length ≤ S.room) : S.put b v = (nm b, 0, S.did (Ch.wr ⟨fileK (nm b), v, b⟩)) := by
  have hl : lenAt S.F (fileK (nm b)) = 0 := by unfold lenAt; rw [hg]
  have hw := h.write (t := ⟨fileK (nm b), v, b⟩) (right_file (namedB_nm b)) hb (Or.inr hF) (by rw [hl]; simpa using hr)
  have hR : S.read (fileK (nm b)) = ([], 12) := by rw [h.read, hg]
  unfold St.put
  rw [hR, hw]
  simp

theorem put_same {S : St} (h : Calm S) (b : List UInt8) (v : Value) {t : Tri} (hg : get S.F (fileK (nm b)) = some t) (ht : t.b = b) : S.put b v = (nm b, 0, S) := by
  have hR : S.read (fileK (nm b)) = (b, 0) := by rw [h.read, hg]; show (t.b, 0) = (b, 0); rw [ht]
  unfold St.put
  rw [hR]
  simp

theorem get_ok {S : St} (h : Calm S) {x : List UInt8} {t : Tri} (hx : Sha.namedB x = true) (hg : get S.F (fileK x) = some t) (ht : nm t.b = x) : S.getB x = (t.b, 0) := by
  have hR : S.read (fileK x) = (t.b, 0) := by rw [h.read, hg]
  unfold St.getB
  rw [hR, hx]
  simp [ht]

theorem root_ok {S : St} (h : Calm S) {t : Tri} (hg : get S.F rootK = some t) (ht : Sha.namedB t.b = true) : S.rootB = (t.b, 0) := by
  have hR : S.read rootK = (t.b, 0) := by rw [h.read, hg]
  unfold St.rootB
  rw [hR]
  simp [ht]

theorem arg_new (w : World) (b : List UInt8) (c : Nat) (fr : Nat × Nat) (hc : b.length ≤ c) : Arg (w.alloc (.cells (u8s b).toArray 5 fr)) (.slice (some ⟨w.heap.size, 0, none⟩) b.length c) b := by
  refine ⟨bytes_new w b c fr, _, _, rfl, hc, fun i hi => ⟨_, _, rfl, ?_⟩⟩
  have hh := (MapKept.heap_alloc w (.cells (u8s b).toArray 5 fr)).1
  unfold World.cell?
  simp only [hh, Nat.zero_add]
  unfold mOf
  simp [u8s, List.getElem?_eq_getElem hi]

theorem del_none {T : List Tri} {k : List UInt8} (h : get T k = none) : del T k = T := by
  unfold del
  rw [List.filter_eq_self]
  intro t ht
  unfold get at h
  rw [List.find?_eq_none] at h
  have := h t ht
  simpa using this

theorem ins_length (x : Tri) : ∀ T : List Tri, (ins x T).length = T.length + 1
  | [] => rfl
  | y :: r => by
    unfold ins
    split
    · simp
    · simp [ins_length x r]

theorem put_length {T : List Tri} {x : Tri} (h : get T x.k = none) : (put T x).length = T.length + 1 := by
  unfold put
  rw [ins_length, del_none h]

theorem sortedFiles_length (T : List Tri) : (sortedFiles T).length = T.length := by
  unfold sortedFiles sortedNames
  simp
end Go.Proofs.YtnmghgbpgpaomaaGreat

namespace Go.Proofs.YtnmghgbpgpaomaaGreat
open Go.RowKit Go.Maps Go.WideMaps
set_option maxRecDepth 100000

theorem conv28 (w : World) (C : Array Value) (n c : Nat) : (convert 31 31 (.slice (some ⟨w.heap.size, 0, none⟩) n c)).run Tryz.prog (w.alloc (.cells C 5)) = .ok (.slice (some ⟨w.heap.size, 0, none⟩) n c) (w.alloc (.cells C 5 (C.size, C.size + 1))) :=
  Lib.run_convert_bytes_const (P := Tryz.prog) w 31 5 C n c Tryz.underlying31 Tryz.underlying5

def abc : List UInt8 := [97, 98, 99]

theorem aside_at (w w0 : World) (n c : Nat) : Aside w w0 (.slice (some ⟨w0.heap.size, 0, none⟩) n c) := aside_new w w0 n c

theorem put_told {w w0 wi : World} {p : Nat} {S : St} (h : Live w w0 p S) (hf : Fr None' w0 wi) (hS : S.fine) (v : Value) (b : List UInt8) (hv : Arg wi v b) (hO : Aside w w0 v) (hu : used S.F < 35184372088832) (hb : b.length ≤ 100000)
    {x : List UInt8} {c : Int} {f : Value → St} (hp : ∀ v', S.put b v' = (x, c, f v')) :
    Calls Tryz.prog 10 #[.pointer (some ⟨p, 0, none⟩), v] wi fun e w' => ∃ v', e = .returned (.tuple #[.string ⟨x.toArray⟩, .int .i64 c]) ∧ Live w w' p (f v') := by
  refine (put_any h hf hS v b hv hO hu hb).mono ?_
  rintro e w' ⟨v', h1, h2⟩
  rw [hp v'] at h1 h2
  exact ⟨v', h1, h2⟩

theorem get_told {w wi : World} {p : Nat} {S : St} (h : Live w wi p S) (l : List UInt8) (hl : l.length ≤ maxLen) (hu : used S.F < 35184372088832) (hb : ∀ t ∈ S.F, t.b.length ≤ 100000) {b : List UInt8} {c : Int} (hg : S.getB l = (b, c)) :
    Calls Tryz.prog 12 #[.pointer (some ⟨p, 0, none⟩), .string ⟨l.toArray⟩] wi fun e w' => ∃ v, e = .returned (.tuple #[v, .int .i64 c]) ∧ Data w' v b ∧ Live w w' p S ∧ Fr None' wi w' := by
  have := get_any h l hl hu hb
  rw [hg] at this
  exact this

theorem root_told {w wi : World} {p : Nat} {S : St} (h : Live w wi p S) (hu : used S.F < 35184372088832) (hb : ∀ t ∈ S.F, t.b.length ≤ 100000) {b : List UInt8} {c : Int} (hg : S.rootB = (b, c)) :
    Calls Tryz.prog 16 #[.pointer (some ⟨p, 0, none⟩)] wi fun e w' => e = .returned (.tuple #[.string ⟨b.toArray⟩, .int .i64 c]) ∧ Live w w' p S ∧ Fr None' wi w' := by
  have := root_any h hu hb
  rw [hg] at this
  exact this

theorem files_told {w wi : World} {p : Nat} {S : St} (h : Live w wi p S) (hS : S.fine) (hu : used S.F < 35184372088832) :
    Calls Tryz.prog 27 #[.pointer (some ⟨p, 0, none⟩)] wi fun e w' => ∃ a c, e = .returned (.slice a S.F.length c) ∧ Fr None' wi w' := by
  obtain ⟨M, h1, _, _⟩ := h
  refine (files_any p M S wi h1 hS hu).mono ?_
  rintro e w' ⟨v, L, rfl, hr, hk, hf⟩
  obtain ⟨a, c, hv⟩ := row_slice hr.1
  have hl : L.length = S.F.length := by
    have := congrArg List.length hk
    rw [sortedFiles_length] at this
    simpa [kb] using this
  rw [hl] at hv
  exact ⟨a, c, by rw [hv], hf⟩

theorem calm_new (r : Int) : Calm (St.new r) := ⟨rfl, rfl⟩

set_option maxHeartbeats 8000000 in
theorem head_any (w : World) : Calls Tryz.prog 4 #[] w fun e w' => e = .returned (.bool true) ∧ Fr None' w w' := by
  have hcv := conv28
  have hnil : ∀ (w : World) (p : Nat), (binOp .eql 27 (.pointer (some ⟨p, 0, none⟩)) (.pointer none)).run Tryz.prog w = .ok (.bool false) w := fun w p => by rfl
  go_enter Tryz.func4, Tryz.ntmps4
  go_wp2_with fail
  refine (live_new 1000 w).mono ?_
  rintro e w1 ⟨p, rfl, L1⟩
  have i1 := Inv.new 1000
  have C1 := calm_new 1000
  obtain ⟨x, hx⟩ : ∃ x, nm abc = x := ⟨_, rfl⟩
  have hxn : Sha.namedB x = true := by rw [← hx]; exact namedB_nm abc
  have hp1 : ∀ v', (St.new 1000).put abc v' = (x, 0, (St.new 1000).did (Ch.wr ⟨fileK x, v', abc⟩)) := fun v' => by
    rw [← hx]
    exact put_new C1 abc v' rfl (by decide) (by decide) (by decide)
  have q1 := put_told L1 (Fr.alloc None' w1 _) (i1.fine (by omega)) _ abc (arg_new w1 abc 3 (3, 4) (by decide)) (aside_at w w1 3 3) (by decide) (by decide) hp1
  have HX : Hid (nm abc = x ∧ Sha.namedB x = true) := ⟨hx, hxn⟩
  clear hp1 hx hxn L1
  go_wp2_with fail
  refine q1.mono ?_
  rintro e w2 ⟨v1, rfl, L2⟩
  obtain ⟨S2, hS2⟩ : ∃ S2, (St.new 1000).did (Ch.wr ⟨fileK x, v1, abc⟩) = S2 := ⟨_, rfl⟩
  rw [hS2] at L2
  have i2 : Inv 1 S2 := hS2 ▸ i1.did (fun t e => by cases e; show abc.length ≤ 65536; decide)
  have C2 : Calm S2 := hS2 ▸ C1.did _
  have F2 : S2.F = [⟨fileK x, v1, abc⟩] := by rw [← hS2]; rfl
  have R2 : S2.room = 1000 := by rw [← hS2]; rfl
  have g2 : get S2.F (fileK x) = some ⟨fileK x, v1, abc⟩ := by rw [F2]; unfold get; simp
  have hp2 : ∀ v', S2.put abc v' = (x, 0, S2) := fun v' => by
    obtain ⟨hx, _⟩ := HX.out
    rw [← hx]
    exact put_same C2 abc v' (t := ⟨fileK x, v1, abc⟩) (by rw [hx]; exact g2) rfl
  have q2 := put_told L2 (Fr.alloc None' w2 _) (i2.fine (by omega)) _ abc (arg_new w2 abc 3 (3, 4) (by decide)) (aside_at w w2 3 3) (L2.used i2 (by omega)) (by decide) hp2
  have HS2 : Hid (Inv 1 S2 ∧ Calm S2 ∧ S2.F = [⟨fileK x, v1, abc⟩] ∧ S2.room = 1000 ∧ get S2.F (fileK x) = some ⟨fileK x, v1, abc⟩) := ⟨i2, C2, F2, R2, g2⟩
  clear q1 hS2 i2 C2 F2 R2 g2 hp2 L2 i1 C1
  go_wp2_with fail
  refine q2.mono ?_
  rintro e w3 ⟨_, rfl, L3⟩
  obtain ⟨i2, C2, F2, R2, g2⟩ := HS2.out
  have q3 := get_told L3 x (by rw [namedB_length HX.out.2]; decide) (L3.used i2 (by omega)) i2.len (get_ok C2 HX.out.2 g2 HX.out.1)
  clear q2 i2 C2 F2 R2 g2 L3
  go_wp2_with fail
  refine q3.mono ?_
  rintro e w4 ⟨vs, rfl, A4, L4, f4⟩
  obtain ⟨i2, C2, F2, R2, g2⟩ := HS2.out
  have q4 := setRoot_yes L4 i2 (by omega) x HX.out.2
  have A4' : Hid (Data w4 vs abc) := A4
  clear q3 i2 C2 F2 R2 g2 L4 f4 A4
  go_wp2_with fail
  refine q4.mono ?_
  rintro e w5 ⟨v5, r5, S5, rfl, hE, L5, D5⟩
  obtain ⟨i2, C2, F2, R2, g2⟩ := HS2.out
  have hxl := namedB_length HX.out.2
  have gn : get S2.F newK = none := by
    rw [F2]
    unfold get
    simp [file_ne_new x]
  have gr : get S2.F rootK = none := by
    rw [F2]
    unfold get
    simp [file_ne_root x]
  have hset := set_ok C2 (by omega) (Or.inr (by rw [F2]; show 1 < 512; decide)) (by
    have e1 : used S2.F = 3 := by rw [F2]; rfl
    have e2 : lenAt S2.F newK = 0 := by unfold lenAt; rw [gn]
    rw [e1, e2, R2, hxl]; decide) hE
  obtain ⟨i5, hi5⟩ : ∃ k, Inv k S5 ∧ k ≤ 10 := by
    obtain ⟨j, hj, _, h | h⟩ := hE
    · obtain ⟨_, _, rfl⟩ := h
      exact ⟨_, i2.after x v5 5, by omega⟩
    · obtain ⟨_, _, _, rfl⟩ := h
      exact ⟨_, i2.after x v5 (j + 1), by omega⟩
  have hr5 : r5 = 0 := hset.ok
  subst hr5
  have F5 : S5.F = put S2.F ⟨rootK, v5, x⟩ := by rw [hset.F, setF_eq, del_none gn]
  have len5 : S5.F.length = 2 := by rw [F5, put_length (x := ⟨rootK, v5, x⟩) gr, F2]; rfl
  have gr5 : get S5.F rootK = some ⟨rootK, v5, x⟩ := by rw [hset.F]; exact get_setF_root _ _ _
  have q5 := root_told L5 (L5.used hi5.1 (by omega)) hi5.1.len (root_ok hset.calm gr5 HX.out.2)
  have D5' : Hid (Data w5 vs abc) := D5 vs abc A4'.out
  have H5 : Hid (Inv i5 S5 ∧ i5 ≤ 10 ∧ S5.F.length = 2) := ⟨hi5.1, hi5.2, len5⟩
  have hgx : S5.getB [120] = ([], 1) := rfl
  clear q4 i2 C2 F2 R2 g2 hE L5 D5 hset hi5 F5 len5 gr5 gn gr hxl A4'
  go_wp2_with fail
  refine q5.mono ?_
  rintro e w6 ⟨rfl, L6, f6⟩
  have q6 := get_told L6 [120] (by decide) (L6.used H5.out.1 (by have := H5.out.2.1; omega)) H5.out.1.len hgx
  have D6 : Hid (Data w6 vs abc) := D5'.out.fresh f6
  clear q5 f6 D5' L6
  go_wp2_with fail
  refine q6.mono ?_
  rintro e w7 ⟨v7, rfl, d7, L7, f7⟩
  have D7 := D6.out.fresh f7
  have q7 := files_told L7 (H5.out.1.fine (by have := H5.out.2.1; omega)) (L7.used H5.out.1 (by have := H5.out.2.1; omega))
  rw [H5.out.2.2] at q7
  have hstr := str_any D7.bytes
  have hfr := L7.fresh (Fr.refl None' w7)
  clear q6 d7 f7 D7 D6 hgx
  have hab : (⟨abc.toArray⟩ : ByteArray).toList = [97, 98, 99] := by rw [ByteArray.toList_eq]; rfl
  have hxx : ((⟨x.toArray⟩ : ByteArray).toList == (⟨x.toArray⟩ : ByteArray).toList) = true := by simp
  generalize (⟨x.toArray⟩ : ByteArray) = sx at hxx ⊢
  generalize (⟨abc.toArray⟩ : ByteArray) = sa at hstr hab
  go_wp2_with fail
  refine q7.mono ?_
  rintro e w8 ⟨a8, c8, rfl, f8⟩
  clear q7
  go_wp2
  go_ret
  obtain ⟨_, _, f7, _⟩ := hfr
  exact ⟨rfl, f7.then f8⟩
end Go.Proofs.YtnmghgbpgpaomaaGreat

namespace Go.Proofs.YtnmghgbpgpaomaaGreat
open Go.ChangeShapes Go.WideShapes Go.ChangeAt Go.RowKit Go.Maps
set_option maxRecDepth 100000

theorem own : ownKnob Tryz.prog.godebug = none := by kernel_rfl
theorem laidOut : laidOutB Tryz.prog = true := by kernel_rfl

/-- A slice that lies below w. -/
def Low (w : World) (v : Value) : Prop := ∀ ad n c, v = .slice (some ad) n c → n ≠ 0 → ad.block < w.heap.size

theorem low {w w1 w0 : World} {v : Value} (h : Low w v) (hf : Fr None' w w1) : Aside w1 w0 v := fun ad n c e h0 => Or.inl (Nat.lt_of_lt_of_le (h ad n c e h0) hf.size)

theorem u8_back {z : Int} (h : (Lit.int .u8 z).wf = true) : (((UInt8.ofNat z.toNat).toNat : Nat) : Int) = z := by
  have := bounds_u8 h
  simp
  omega

theorem spot_none {w : World} {a : Addr} {u : Value} (h : w.cell? a = some u) : a.spot = none := by
  unfold World.cell? at h
  split at h
  · split at h
    · cases h
    · rename_i h1; simpa using h1
  · cases h

theorem trod_bytes {H : Type} {enc : TypeId × Value → H} {W : World} {fuel : Nat} {sp : Nat → Bool} {held : Bool} {cs : List Value} {x : DataW H × List MemPlace} (h : DataW.trod enc Tryz.prog W 0 sp held fuel 31 cs = some x) :
    ∃ v b, cs = [v] ∧ Arg W v b ∧ Low W v := by
  rcases open_ints Tryz.underlying31 Tryz.underlying5 (by kernel_rfl) h with ⟨hcs, _⟩ | ⟨a, l, c, zs, hcs, _, hl, hm, hz, _, hcell, hwz⟩
  · exact ⟨_, [], hcs, (Data.nil W).arg, fun _ _ _ e => by cases e⟩
  · have hlz : l ≤ zs.length := by rw [hz]; split <;> omega
    have hlen : ((zs.take l).map (fun z => UInt8.ofNat z.toNat)).length = l := by simp; omega
    have hat : ∀ j, j < l → ((zs.take l).map (fun z => UInt8.ofNat z.toNat))[j]? = some (UInt8.ofNat (zs.getD j 0).toNat) := fun j hj => by
      rw [List.getElem?_map, List.getElem?_take, if_pos hj, List.getElem?_eq_getElem (by omega), List.getD_eq_getElem?_getD, List.getElem?_eq_getElem (by omega)]
      rfl
    have hb : ∀ j, j < l → W.cell? (a.add j) = some (.int .u8 ((UInt8.ofNat (zs.getD j 0).toNat).toNat : Nat)) := fun j hj => by
      rw [u8_back (hwz _ (by
        rw [List.getD_eq_getElem?_getD, List.getElem?_eq_getElem (by omega)]
        exact List.getElem_mem _))]
      exact hcell j (by omega)
    refine ⟨_, (zs.take l).map (fun z => UInt8.ofNat z.toNat), hcs, ⟨Or.inr ⟨a, c, by rw [hlen], fun j u hj => ?_⟩, ?_⟩, fun ad n c' e h0 => ?_⟩
    · have hjl : j < l := by
        have := (List.getElem?_eq_some_iff.1 hj).1
        simp [u8s] at this
        omega
      rw [hb j hjl]
      simp only [u8s, List.getElem?_map] at hj
      have := hat j hjl
      rw [List.getElem?_map] at this
      rw [this] at hj
      simpa using hj
    · rw [hlen]
      refine ⟨_, _, rfl, hl, fun i hi => ⟨a.block, a.off, ?_, ?_⟩⟩
      · have := spot_none (hcell 0 (by omega))
        rw [show a.add 0 = a from rfl] at this
        obtain ⟨b, o, s⟩ := a
        simp_all
      · have h0 := spot_none (hcell 0 (by omega))
        rw [show a.add 0 = a from rfl] at h0
        have e : a.add i = ⟨a.block, a.off + i, none⟩ := by
          obtain ⟨b, o, s⟩ := a
          simp only at h0
          subst h0
          unfold Addr.add
          split <;> simp_all
        rw [← e, hb i hi]
        unfold mOf
        have e2 : ((zs.take l).map (fun z => UInt8.ofNat z.toNat)).getD i 0 = UInt8.ofNat (zs.getD i 0).toNat := by
          rw [List.getD_eq_getElem?_getD, hat i hi]
          rfl
        rw [e2]
    · cases e
      have h1 := hb 0 (by omega)
      rw [show a.add 0 = a from rfl] at h1
      exact Sha.cell_lt h1

theorem trod_arg {H : Type} {enc : TypeId × Value → H} {W : World} {sp : Nat → Bool} {held : Bool} {a : Option Addr} {n c : Nat} {d : DataW H} {ps : List MemPlace} (h : DataW.Trod enc Tryz.prog W 0 sp held 31 (.slice a n c) d ps) :
    ∃ b, Arg W (.slice a n c) b ∧ Low W (.slice a n c) ∧ n = b.length := by
  obtain ⟨fuel, hf⟩ := h
  obtain ⟨v', b, hcs, h1, h2⟩ := trod_bytes hf
  obtain rfl : .slice a n c = v' := by simpa [Value.cells] using hcs
  refine ⟨b, h1, h2, ?_⟩
  obtain ⟨_, _, e, _⟩ := h1.byt
  cases e
  rfl
end Go.Proofs.YtnmghgbpgpaomaaGreat

namespace Go.Proofs.YtnmghgbpgpaomaaGreat
open Go.RowKit Go.Maps Go.WideMaps
set_option maxRecDepth 100000

theorem bytes_slice {w : World} {v : Value} {b : List UInt8} (h : Bytes w v b) : ∃ a c, v = .slice a b.length c := by
  rcases h with ⟨rfl, rfl⟩ | ⟨ad, c, rfl, _⟩
  · exact ⟨none, 0, rfl⟩
  · exact ⟨_, _, rfl⟩

/-- A slice that lies below block B. -/
def LowN (B : Nat) (v : Value) : Prop := ∀ ad n c, v = .slice (some ad) n c → n ≠ 0 → ad.block < B

theorem LowN.out {B : Nat} {v : Value} {M : Nat → Prop} (h : LowN B v) (hM : ∀ k, M k → B ≤ k) : Out M v := fun ad n c e h0 hm => by
  have h1 := h ad n c e h0
  have h2 := hM _ hm
  omega

/-- A file, as plain data. -/
structure FileD where
  name : ByteArray
  b : List UInt8

/-- The data of a file that came in, below block B. -/
def FileVal (w : World) (B : Nat) (f : FileD) (vb : Value) : Prop := Bytes w vb f.b ∧ LowN B vb ∧ f.name.size ≤ maxLen

theorem FileVal.kept {w w' : World} {B : Nat} {M : Nat → Prop} {f : FileD} {vb : Value} (h : FileVal w B f vb) (hf : Fr M w w') (hM : ∀ k, M k → B ≤ k) : FileVal w' B f vb :=
  ⟨h.1.kept hf (h.2.1.out hM), h.2⟩

/-- The slice v holds these files, below block B. -/
def FilesAt (w : World) (B : Nat) (v : Value) (L : List FileD) : Prop :=
  (v = .slice none 0 0 ∧ L = []) ∨ ∃ ad c, v = .slice (some ad) L.length c ∧ ∀ i f, L[i]? = some f → ad.spot = none ∧ ad.block < B ∧ ∃ vb, FileVal w B f vb ∧
    w.cell? ⟨ad.block, ad.off + i * 2, none⟩ = some (.string f.name) ∧ w.cell? ⟨ad.block, ad.off + i * 2 + 1, none⟩ = some vb

theorem FilesAt.kept {w w' : World} {B : Nat} {v : Value} {L : List FileD} {M : Nat → Prop} (h : FilesAt w B v L) (hf : Fr M w w') (hM : ∀ k, M k → B ≤ k) (hB : B ≤ w.heap.size) : FilesAt w' B v L := by
  rcases h with h | ⟨ad, c, hv, hc⟩
  · exact Or.inl h
  · refine Or.inr ⟨ad, c, hv, fun i o hi => ?_⟩
    obtain ⟨h0, h1, vb, h2, c0, c1⟩ := hc i o hi
    have hk : ∀ off, w'.cell? ⟨ad.block, off, none⟩ = w.cell? ⟨ad.block, off, none⟩ := fun off =>
      World.cell?_of_block (w := w) (a := ⟨ad.block, off, none⟩) (hf.block ad.block (by omega) (fun e => by have := hM _ e; omega))
    exact ⟨h0, h1, vb, h2.kept hf hM, (hk _).trans c0, (hk _).trans c1⟩

theorem FilesAt.shape {w : World} {B : Nat} {v : Value} {L : List FileD} (h : FilesAt w B v L) : ∃ va vc, v = .slice va L.length vc ∧ ∀ i f, L[i]? = some f → ∃ g off vb, va = some ⟨g, off, none⟩ ∧ g < B ∧ FileVal w B f vb ∧
    w.cell? ⟨g, off + i * 2, none⟩ = some (.string f.name) ∧ w.cell? ⟨g, off + i * 2 + 1, none⟩ = some vb := by
  rcases h with ⟨rfl, rfl⟩ | ⟨ad, c, rfl, hc⟩
  · exact ⟨none, 0, rfl, fun i o hi => by simp at hi⟩
  · refine ⟨_, c, rfl, fun i o hi => ?_⟩
    obtain ⟨h0, h1, vb, r⟩ := hc i o hi
    exact ⟨ad.block, ad.off, vb, by rw [← h0], h1, r⟩
end Go.Proofs.YtnmghgbpgpaomaaGreat

namespace Go.Proofs.YtnmghgbpgpaomaaGreat
open Go.RowKit Go.Maps Go.WideMaps
set_option maxRecDepth 100000

abbrev FileD.k (f : FileD) : List UInt8 := f.name.data.toList

/-- The first n files may be on a disk. -/
def Good (L : List FileD) (n : Nat) : Prop := ∀ i f, i < n → L[i]? = some f → right f.k = true ∧ f.b.length ≤ 65536 ∧ ∀ j g, j < i → L[j]? = some g → g.k ≠ f.k

/-- T is the first n files. -/
structure Built (L : List FileD) (n : Nat) (T : List Tri) : Prop where
  has : ∀ i f, i < n → L[i]? = some f → ∃ t, get T f.k = some t ∧ t.b = f.b
  only : ∀ t ∈ T, ∃ i f, i < n ∧ L[i]? = some f ∧ t.k = f.k ∧ t.b = f.b

theorem Built.start (L : List FileD) : Built L 0 [] := ⟨fun i f hi => by omega, fun t ht => by simp at ht⟩

theorem Built.step {L : List FileD} {n : Nat} {T : List Tri} {f : FileD} (h : Built L n T) (hf : L[n]? = some f) (hnew : get T f.k = none) (v : Value) : Built L (n + 1) (put T ⟨f.k, v, f.b⟩) := by
  refine ⟨fun i g hi hg => ?_, fun t ht => ?_⟩
  · by_cases e : i = n
    · subst e
      rw [hf] at hg; cases hg
      exact ⟨_, get_put_same T ⟨f.k, v, f.b⟩, rfl⟩
    · obtain ⟨t, h1, h2⟩ := h.has i g (by omega) hg
      refine ⟨t, ?_, h2⟩
      rw [get_put_other (x := ⟨f.k, v, f.b⟩) (fun e' => by rw [e'] at h1; exact absurd (h1.symm.trans hnew) (by simp))]
      exact h1
  · rcases mem_put.1 ht with rfl | ⟨h1, _⟩
    · exact ⟨n, f, by omega, hf, rfl, rfl⟩
    · obtain ⟨i, g, a1, a2, a3⟩ := h.only t h1
      exact ⟨i, g, by omega, a2, a3⟩

theorem Good.step {L : List FileD} {n : Nat} {T : List Tri} {f : FileD} (h : Good L n) (hB : Built L n T) (hf : L[n]? = some f) (hr : right f.k = true) (hb : f.b.length ≤ 65536) (hnew : get T f.k = none) : Good L (n + 1) := by
  intro i g hi hg
  by_cases e : i = n
  · subst e
    rw [hf] at hg; cases hg
    refine ⟨hr, hb, fun j g' hj hg' e' => ?_⟩
    obtain ⟨t, h1, _⟩ := hB.has j g' hj hg'
    rw [e', hnew] at h1
    cases h1
  · exact h i g (by omega) hg

theorem bad_name {L : List FileD} {n : Nat} {f : FileD} (hf : L[n]? = some f) (h : right f.k = false ∨ 65536 < f.b.length) : ¬ Good L L.length := fun hg => by
  obtain ⟨h1, h2, _⟩ := hg n f (List.getElem?_eq_some_iff.1 hf).1 hf
  rcases h with h | h
  · rw [h] at h1; cases h1
  · omega

theorem bad_twice {L : List FileD} {n : Nat} {T : List Tri} {f : FileD} (hB : Built L n T) (hf : L[n]? = some f) (h : (get T f.k).isSome = true) : ¬ Good L L.length := fun hg => by
  obtain ⟨_, _, h3⟩ := hg n f (List.getElem?_eq_some_iff.1 hf).1 hf
  obtain ⟨t, ht⟩ := Option.isSome_iff_exists.1 h
  obtain ⟨htm, htk⟩ := get_mem ht
  obtain ⟨i, g, a1, a2, a3, _⟩ := hB.only t htm
  exact h3 i g a1 a2 (a3.symm.trans htk)

def St.of (room : Int) (T : List Tri) (n : Nat) : St := { St.new room with F := T, Y := T, n := n }

def OfTold (room : Int) (L : List FileD) (w : World) (e : Ending) (w' : World) : Prop :=
  (e = .returned (.pointer none) ∧ ¬ (L.length ≤ 512 ∧ Good L L.length) ∧ Fr None' w w') ∨
  ∃ p T, e = .returned (.pointer (some ⟨p, 0, none⟩)) ∧ L.length ≤ 512 ∧ Good L L.length ∧ Built L L.length T ∧ Live w w' p (St.of room T L.length)

theorem cell0 {w : World} {b : Nat} {x y : Value} {e : TypeId} (h : w.heap[b]? = some (.cells #[x, y] e)) : w.cell? ⟨b, 0, none⟩ = some x := by simp [World.cell?, h]
theorem cell1 {w : World} {b : Nat} {x y : Value} {e : TypeId} (h : w.heap[b]? = some (.cells #[x, y] e)) : w.cell? ⟨b, 1, none⟩ = some y := by simp [World.cell?, h]

/-- The data of a file is cloned, and stored. -/
theorem of_clone {w : World} {p bf bs fb : Nat} {ca : Value} {S : St} {f : FileD} {sb : Option Addr} {cb : Nat} (hd : DiskAt w p bf bs ca S) (hb : Bytes w (.slice sb f.b.length cb) f.b) (nf : w.heap[fb]? = some (.cells #[.string f.name, .slice sb f.b.length cb] 61))
    (hs : f.name.size ≤ maxLen) (hl : f.b.length ≤ 65536) (hn : S.n < maxLen) :
    Calls Tryz.prog 31 #[.slice sb f.b.length cb] w.drew fun e w3 => ∃ a3 c3 w4, e = .returned (.slice a3 f.b.length c3) ∧ (Instr.mapUpdate 64 (.map (some bf)) (.string f.name) (.slice a3 f.b.length c3)).run Tryz.prog w3 = .ok () w4 ∧
      w3.cell? ⟨p, 1, none⟩ = some (.map (some bf)) ∧ w3.cell? ⟨fb, 0, none⟩ = some (.string f.name) ∧ w3.cell? ⟨fb, 1, none⟩ = some (.slice sb f.b.length cb) ∧
      w4.cell? ⟨p, 1, none⟩ = some (.map (some bf)) ∧ w4.cell? ⟨fb, 0, none⟩ = some (.string f.name) ∧ w4.cell? ⟨fb, 1, none⟩ = some (.slice sb f.b.length cb) ∧
      DiskAt w4 p bf bs ca { S with F := put S.F ⟨f.k, .slice a3 f.b.length c3, f.b⟩, n := S.n + 1 } ∧ Fr (fun k => k = bf) w w4 := by
  have fd : Fr None' w w.drew := Fr.drew _ _
  refine (bclone_any _ f.b w.drew (hb.kept fd (fun _ _ _ _ _ e => e)) (by omega)).mono ?_
  rintro e w3 ⟨v', rfl, d3, f3⟩
  obtain ⟨a3, c3, rfl⟩ := row_slice d3
  have h3 := hd.fresh (fd.then f3)
  have n3 := (fd.then f3).at nf (fun e => e)
  obtain ⟨w4, hrun, hm, ht⟩ := h3.files.store (t := 64) (e := 31) lawS Tryz.underlying64 hn (key := .string f.name) (val := .slice a3 f.b.length c3) (keyOf_string_mk Tryz.underlying9 hs) (heldR_data d3)
  have hm' : w4.ownsMap Tryz.prog 9 heldR bf (S.n + 1) (toD (put S.F ⟨f.k, .slice a3 f.b.length c3, f.b⟩)) := toD_put S.F ⟨f.k, .slice a3 f.b.length c3, f.b⟩ ▸ hm
  have h4 := h3.turned ht (Nat.le_succ _) hm' (fun t ht' => by
    rcases mem_put.1 ht' with rfl | ⟨h1, _⟩
    · exact d3
    · exact h3.dataF t h1)
  refine ⟨a3, c3, w4, rfl, hrun, h3.cells.2.1, cell0 n3, cell1 n3, h4.cells.2.1, turned_cell ht (cell0 n3), turned_cell ht (cell1 n3), h4, ?_⟩
  exact ((fd.then f3).mono (fun _ e => e.elim)).trans (Fr.turned (M := fun k => k = bf) ht rfl) (fun _ e => Or.inl e)

set_option maxHeartbeats 4000000 in
theorem of_any (room : Int) (v : Value) (L : List FileD) (w : World) (h : FilesAt w w.heap.size v L) : Calls Tryz.prog 7 #[.int .i64 room, v] w fun e w' => OfTold room L w e w' := by
  obtain ⟨va, vc, rfl, hat⟩ := h.shape
  by_cases hlong : 512 < L.length
  · have hl' : (512 : Int) < L.length := by omega
    go_enter Tryz.func7, Tryz.ntmps7
    go_wp2
    go_ret
    exact Or.inl ⟨rfl, fun e => by omega, Fr.refl _ _⟩
  · have hl' : (L.length : Int) ≤ 512 := by omega
    go_enter Tryz.func7, Tryz.ntmps7
    go_wp2_with fail
    refine (new_any room w).mono ?_
    rintro e w1 ⟨p, M, rfl, hD, F1, hM⟩
    obtain ⟨bf, bs, ca, hD, rfl⟩ := hD
    go_wp2_with fail
    go_loopw [15] (fun i wr => ∃ (k : Nat) (T : List Tri), k ≤ L.length ∧ i = .int .i64 k ∧ DiskAt wr p bf bs ca { St.new room with F := T, n := k } ∧ Good L k ∧ Built L k T ∧ Fr None' w wr) (fun i _ => L.length - (intOf i).toNat)
    case atStart => exact ⟨0, [], Nat.zero_le _, rfl, hD, fun i f hi => by omega, Built.start L, F1⟩
    case round =>
      obtain ⟨k, T, hk, rfl, hd, hgood, hbuilt, hfr⟩ := hrel
      clear hD F1
      by_cases hlt : k < L.length
      · obtain ⟨f, hf⟩ : ∃ f, L[k]? = some f := ⟨L[k], by simp [hlt]⟩
        obtain ⟨g, off, vb, rfl, hgB, hov, c0, c1⟩ := hat k f hf
        obtain ⟨sb, cb, rfl⟩ := bytes_slice hov.1
        have hs := hov.2.2
        have i0 : (0 : Int) ≤ (k : Int) := by omega
        have i1 : (k : Int) < (L.length : Int) := by omega
        have hce : ∀ off, wr.cell? ⟨g, off, none⟩ = w.cell? ⟨g, off, none⟩ := fun off => World.cell?_of_block (w := w) (a := ⟨g, off, none⟩) (hfr.block g hgB (fun e => e))
        have d0 := (hce _).trans c0
        have d1 := (hce _).trans c1
        have hb1 := hov.1.kept hfr (fun _ _ _ _ _ e => e)
        obtain ⟨wf, hwf⟩ : ∃ wf, wf = wr.alloc (.cells #[.string f.name, .slice sb f.b.length cb] 61) := ⟨_, rfl⟩
        have ff : Fr None' wr wf := hwf ▸ Fr.alloc None' _ _
        have hdf := hd.fresh ff
        have hbf := hb1.kept ff (fun _ _ _ _ _ e => e)
        have nf : wf.heap[wr.heap.size]? = some (.cells #[.string f.name, .slice sb f.b.length cb] 61) := hwf ▸ (MapKept.heap_alloc wr _).1
        have hN := isName_any f.name wf hs
        have hH := has_any p bf bs ca _ wf hdf f.name hs
        have hfw := hfr.then ff
        clear hat hce c0 c1 hov hb1 hd hfr h
        cases hr : right f.k
        · rw [show right f.name.data.toList = false from hr] at hN
          subst hwf
          go_wp2_with (first
            | (go_at_call 29; refine hN.mono ?_; rintro e w2 ⟨rfl, hw⟩; have hw := hw.symm; subst hw))
          go_ret
          exact Or.inl ⟨rfl, fun e => bad_name hf (Or.inl hr) e.2, hfw⟩
        · rw [show right f.name.data.toList = true from hr] at hN
          cases hg : (get T f.k).isSome
          · rw [show (get T f.name.data.toList).isSome = false from hg] at hH
            by_cases hbig : 65536 < f.b.length
            · have hbig' : (65536 : Int) < f.b.length := by omega
              subst hwf
              go_wp2_with (first
                | (go_at_call 29; refine hN.mono ?_; rintro e w2 ⟨rfl, hw⟩; have hw := hw.symm; subst hw)
                | (go_at_call 30; refine hH.mono ?_; rintro e w2 ⟨rfl, hw⟩; have hw := hw.symm; subst hw))
              go_ret
              exact Or.inl ⟨rfl, fun e => bad_name hf (Or.inr hbig) e.2, hfw⟩
            · have hbig' : ¬ (65536 : Int) < f.b.length := by omega
              have hnone : get T f.k = none := by simpa using hg
              have hBC := of_clone hdf hbf nf (hs := hs) (by omega) (show k < maxLen by unfold maxLen; omega)
              obtain ⟨_, s1, _⟩ := hdf.cells
              have s2 := cell0 nf
              have s3 := cell1 nf
              have HG : Hid (Good L k ∧ Built L k T ∧ L[k]? = some f ∧ get T f.k = none ∧ right f.k = true ∧ f.b.length ≤ 65536) := ⟨hgood, hbuilt, hf, hnone, hr, by omega⟩
              have HW : Hid (Fr None' w wf) := hfw
              subst hwf
              go_wp2_with (first
                | (go_at_call 29; refine hN.mono ?_; rintro e w2 ⟨rfl, hw⟩; have hw := hw.symm; subst hw)
                | (go_at_call 30; refine hH.mono ?_; rintro e w2 ⟨rfl, hw⟩; have hw := hw.symm; subst hw))
              clear hN hH hgood hbuilt hf hnone hr hfw hg hdf hbf nf ff d0 d1
              go_region_held3 (fun w' => w'.cell? ⟨p, 1, none⟩ = some (.map (some bf)) ∧ w'.cell? ⟨wr.heap.size, 0, none⟩ = some (.string f.name) ∧ w'.cell? ⟨wr.heap.size, 1, none⟩ = some (.slice sb f.b.length cb))
                (first | go_keep | exact ⟨by assumption, by assumption, by assumption⟩)
                (first | (go_at_call 31; refine hBC.mono ?_; rintro e w3 ⟨a3, c3, w4, rfl, hrun4, p3, q3, r3, p4, q4, r4, d4, f4⟩))
              all_goals go_wp2
              obtain ⟨g1, g2, g3, g4, g5, g6⟩ := HG.out
              exact ⟨⟨k + 1, put T ⟨f.k, .slice a3 f.b.length c3, f.b⟩, by omega, by go_num, d4, g1.step g2 g3 g5 g6 g4, g2.step g3 g4 _, HW.out.trans f4 (fun i e => Or.inr (hM i (Or.inr (Or.inl e))))⟩, by simp [intOf]; omega⟩
          · rw [show (get T f.name.data.toList).isSome = true from hg] at hH
            subst hwf
            go_wp2_with (first
              | (go_at_call 29; refine hN.mono ?_; rintro e w2 ⟨rfl, hw⟩; have hw := hw.symm; subst hw)
              | (go_at_call 30; refine hH.mono ?_; rintro e w2 ⟨rfl, hw⟩; have hw := hw.symm; subst hw))
            go_ret
            exact Or.inl ⟨rfl, fun e => bad_twice hbuilt hf hg e.2, hfw⟩
      · have hkL : k = L.length := by omega
        subst hkL
        clear hat
        go_wp2_with fail
        refine (settle_any _ _ _ _ _ _ hd).mono ?_
        rintro e w2 ⟨rfl, h2, f2⟩
        go_wp2
        go_ret
        refine Or.inr ⟨p, T, rfl, by omega, hgood, hbuilt, Mut p bf (.slice none 0 0), h2.disk, hfr.trans f2 (fun i e => Or.inr (hM i (Or.inl e))), ?_⟩
        rintro j (e | e | e)
        · exact hM j (Or.inl e)
        · exact hM j (Or.inr (Or.inl e))
        · cases e

end Go.Proofs.YtnmghgbpgpaomaaGreat

namespace Go.Proofs.YtnmghgbpgpaomaaGreat
open Go.RowKit Go.Maps Go.WideMaps
set_option maxRecDepth 100000

/-- Remove. -/
def St.remove (S : St) (k : List UInt8) : Int × St :=
  if S.asked.down then (13, S.asked) else if (get S.F k).isSome = false then (12, S.asked) else (0, S.asked.did (Ch.rm k))

set_option maxHeartbeats 2000000 in
theorem remove_any (p : Nat) (M : Nat → Prop) (S : St) (s : ByteArray) (w : World) (h : Disk w p M S) (hS : S.fine) (hs : s.size ≤ maxLen) :
    Calls Tryz.prog 58 #[.pointer (some ⟨p, 0, none⟩), .string s] w fun e w' => e = .returned (.int .i64 (S.remove s.data.toList).1) ∧ Stepped M w p (S.remove s.data.toList).2 w' := by
  obtain ⟨bf, bs, ca, h, rfl⟩ := h
  have hmf := makeFunc_run
  have hmp : ∀ k, k = p → Mut p bf ca k := fun k e => Or.inl e
  obtain ⟨w0, hw0⟩ : ∃ w0, w0 = w.alloc (.cells #[.string s] 9) := ⟨_, rfl⟩
  have f0 : Fr None' w w0 := hw0 ▸ Fr.alloc None' _ _
  have h0 : DiskAt w0 p bf bs ca S := h.fresh f0
  have fM : Fr (Mut p bf ca) w w0 := f0.mono (fun _ e => e.elim)
  have n0 : w0.heap[w.heap.size]? = some (.cells #[.string s] 9) := hw0 ▸ (MapKept.heap_alloc w _).1
  have hA := h0.asked
  unfold St.remove
  cases hd : S.asked.down
  · rw [hd] at hA
    simp only [Bool.false_eq_true, if_false]
    have hH := fun w1 (h1 : DiskAt w1 p bf bs ca S.asked) => has_any p bf bs ca S.asked w1 h1 s hs
    have eF : S.asked.F = S.F := rfl
    rw [eF] at hH
    cases hg : (get S.F s.data.toList).isSome
    · simp only [if_true]
      simp only [hg] at hH
      clear hd hg
      subst hw0
      go_enter Tryz.func58, Tryz.ntmps58
      go_wp2_with (first
        | (go_at_call 71; refine hA.mono ?_; rintro e w1 ⟨rfl, h1, f1⟩; have n1 := (f1.mono hmp).cellsAt h0.still n0 (by decide) (by decide); have cn := named_cell' n1)
        | (go_at_call 30; refine (hH _ h1).mono ?_; rintro e w2 ⟨rfl, hw⟩; have hw := hw.symm; subst hw))
      go_ret
      exact ⟨rfl, _, h1.disk, fM.trans (f1.mono hmp) (fun _ e => Or.inl e), fun k hk => Or.inl hk⟩
    · simp only [Bool.true_eq_false, if_false]
      simp only [hg] at hH
      clear hd hg
      subst hw0
      go_enter Tryz.func58, Tryz.ntmps58
      go_wp2_with (first
        | (go_at_call 71; refine hA.mono ?_; rintro e w1 ⟨rfl, h1, f1⟩; have n1 := (f1.mono hmp).cellsAt h0.still n0 (by decide) (by decide); have cn := named_cell' n1)
        | (go_at_call 30; refine (hH _ h1).mono ?_; rintro e w2 ⟨rfl, hw⟩; have hw := hw.symm; subst hw)
        | (go_at_call 73; refine (do_any p bf bs ca _ S.asked (Ch.rm s.data.toList) _ h1 ⟨_, rfl, ⟨s, n1, rfl, hs⟩⟩ (fine_asked hS)).mono ?_; rintro e w4 ⟨rfl, ca', h5, f5, g5⟩))
      go_ret
      have hall := fM.trans (f1.mono hmp) (fun _ e => Or.inl e)
      refine ⟨rfl, _, h5.disk, hall.trans f5 (fun _ e => Or.inl e), fun k hk => ?_⟩
      rcases g5 k hk with e | e
      · exact Or.inl e
      · exact Or.inr (Nat.le_trans hall.size e)
  · rw [hd] at hA
    simp only [if_true]
    clear hd
    subst hw0
    go_enter Tryz.func58, Tryz.ntmps58
    go_wp2_with (first
      | (go_at_call 71; refine hA.mono ?_; rintro e w1 ⟨rfl, h1, f1⟩))
    go_ret
    exact ⟨rfl, _, h1.disk, fM.trans (f1.mono hmp) (fun _ e => Or.inl e), fun k hk => Or.inl hk⟩

/-- Fuse. -/
def St.fused (S : St) (n : Int) : St := { S with fuse := max n (-1) }

theorem fuse_any (p : Nat) (M : Nat → Prop) (S : St) (n : Int) (w : World) (h : Disk w p M S) :
    Calls Tryz.prog 22 #[.pointer (some ⟨p, 0, none⟩), .int .i64 n] w fun e w' => e = .returned (.tuple #[]) ∧ Stepped M w p (S.fused n) w' := by
  obtain ⟨bf, bs, ca, h, rfl⟩ := h
  obtain ⟨c0, c1, c2, c3, c4, c5, c6, z⟩ := h.cells
  have z5 := z 5
  clear z c0 c1 c2 c3 c4 c6
  go_enter Tryz.func22, Tryz.ntmps22
  go_wp2
  go_end0
  exact ⟨rfl, _, (h.field (S' := S.fused n) rfl rfl rfl rfl rfl).disk, Fr.setCell w (a := ⟨p, 5, none⟩) (Or.inl rfl) _, fun k hk => Or.inl hk⟩

theorem down_any (p : Nat) (M : Nat → Prop) (S : St) (w : World) (h : Disk w p M S) :
    Calls Tryz.prog 25 #[.pointer (some ⟨p, 0, none⟩)] w fun e w' => e = .returned (.bool S.down) ∧ w = w' := by
  obtain ⟨bf, bs, ca, h, rfl⟩ := h
  obtain ⟨c0, c1, c2, c3, c4, c5, c6, z⟩ := h.cells
  clear z c0 c1 c2 c3 c4 c5
  go_enter Tryz.func25, Tryz.ntmps25
  go_wp2
  go_ret
  exact ⟨rfl, rfl⟩

theorem Bools.kept {M : Nat → Prop} {w w' : World} {v : Value} {l : List Bool} (h : Bools w v l) (hf : Fr M w w') (hM : Out M v) : Bools w' v l := by
  rcases h with h | ⟨ad, c, hv, hc⟩
  · exact Or.inl h
  · refine Or.inr ⟨ad, c, hv, fun j u hj => ?_⟩
    obtain ⟨h0, h1⟩ := hc j u hj
    have hlt : ad.block < w.heap.size := by
      unfold World.cell? at h1
      split at h1
      · rename_i hk; exact lt_of_some hk
      · cases h1
    refine ⟨h0, ?_⟩
    rw [World.cell?_of_block (w := w) (a := ⟨ad.block, ad.off + j, none⟩) (hf.block _ hlt (hM ad _ _ hv (fun e0 => by have := (List.getElem?_eq_some_iff.1 hj).1; omega)))]
    exact h1

theorem Stepped.from {M : Nat → Prop} {w w0 w' : World} {p : Nat} {S' : St} (hf : Fr None' w w0) (h : Stepped M w0 p S' w') : Stepped M w p S' w' := by
  obtain ⟨M', h1, h2, h3⟩ := h
  refine ⟨M', h1, (hf.mono (fun _ e => e.elim)).trans h2 (fun _ e => Or.inl e), fun k hk => ?_⟩
  rcases h3 k hk with e | e
  · exact Or.inl e
  · exact Or.inr (Nat.le_trans hf.size e)

theorem Disk.same {M : Nat → Prop} {w w' : World} {p : Nat} {S : St} (h : Disk w p M S) (hf : Fr None' w w') : Stepped M w p S w' := ⟨M, h.fresh hf, hf.mono (fun _ e => e.elim), fun _ hk => Or.inl hk⟩

end Go.Proofs.YtnmghgbpgpaomaaGreat
