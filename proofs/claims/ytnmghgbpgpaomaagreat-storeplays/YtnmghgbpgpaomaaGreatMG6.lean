/-
  What is proved here: Sweep, and the document's store. Conditions: as each theorem names them.
-/
import Derived.Test.YtnmghgbpgpaomaaGreatMG3
import Derived.Test.YtnmghgbpgpaomaaGreatMG4
import Derived.Lib.OwnBridge
import Derived.Sort.Walk0
import Derived.Test.YtnmghgbpgpaomaaGreatMG5
import Derived.Test.YtnmghgbpgpaomaaGreatMG2
namespace Go.Proofs.YtnmghgbpgpaomaaGreat
open Go.RowKit Go.Maps Go.WideMaps Go.Sort Go.Shelf
set_option maxRecDepth 100000

/-- The files that a sweep leaves, and the same sorted. -/
def keptL (ns : List (List UInt8)) : List (List UInt8) := rootK :: (ns.filter fun x => Sha.namedB x).map fileK
def keptS (ns : List (List UInt8)) : List (List UInt8) := (keptL ns).mergeSort fun x y => decide (x ≤ y)

theorem Tryz.infoSt : (Tryz.prog.info? 9).map (fun i => (i.zero, i.size, i.bytes)) = some (some (.string ByteArray.empty), 1, 16) := by kernel_rfl

theorem fr_grow (w : World) (os : Array Obj) : Fr None' w (Sort.grow w os) := by
  refine ⟨rfl, rfl, rfl, by simp [Sort.grow], fun k hk _ => ?_⟩
  simp [Sort.grow, Array.getElem?_append, hk]

theorem fr_putRow (w : World) (q g : Nat) (d : Array (List UInt8)) : Fr (fun k => k = g) w (putRow encStr (Sort.ahead w q) g 0 d) := by
  refine ⟨rfl, rfl, rfl, by simp [putRow, mapBlock, Sort.ahead], fun k _ hk => ?_⟩
  simp [putRow, mapBlock, Sort.ahead, Array.getElem?_modify, show g ≠ k from fun e => hk e.symm]

theorem keptL_snoc {ns : List (List UInt8)} {j : Nat} {x : List UInt8} (h : ns[j]? = some x) : keptL (ns.take (j + 1)) = keptL (ns.take j) ++ if Sha.namedB x = true then [fileK x] else [] := by
  have e1 : ns.take (j + 1) = ns.take j ++ [x] := by
    rw [List.take_add_one, h]; rfl
  unfold keptL
  rw [e1, List.filter_append, List.map_append, List.cons_append]
  cases hx : Sha.namedB x <;> simp [hx]

theorem keptL_len (ns : List (List UInt8)) : (keptL ns).length ≤ ns.length + 1 := by
  unfold keptL
  have := List.length_filter_le (fun x => Sha.namedB x) ns
  simp
  omega

/-- The row, sorted. -/
theorem sort_row (w0 W : World) (v : Value) (ss : List (List UInt8)) (hrow : W.ownsRow w0.heap.size 9 1 v ss.length (ss.map encStr)) (h0 : 0 < ss.length) (hb : ss.length < 10000) :
    ∃ g cap, v = .slice (some ⟨g, 0, none⟩) ss.length cap ∧ Calls Tryz.prog 82 #[.slice (some ⟨g, 0, none⟩) ss.length cap] W fun e w' => e = .returned (.tuple #[]) ∧ w'.ownsRow w0.heap.size 9 1 (.slice (some ⟨g, 0, none⟩) ss.length cap) ss.length ((ss.mergeSort fun x y => decide (x ≤ y)).map encStr) ∧ Fr (fun k => k = g) W w' ∧ w0.heap.size ≤ g ∧ g < W.heap.size := by
  obtain ⟨g, cap, rfl, hb1, hb2, hb3, hb4, hb5, hb6⟩ := Lib.holds_of_ownsRow hrow (fun e => by injection (row_slice hrow).choose_spec.choose_spec.symm.trans e with _ e2 _; omega)
  refine ⟨g, cap, rfl, (AnyM.slices_Sort_string Tryz.sort82 g 0 cap ss W hb6 hb2 (by omega)).mono ?_⟩
  rintro e w' ⟨rfl, n, os, rfl⟩
  have h1 := Lib.ownsRow_putRow (q := n) (k := ss.length) (ys := ss.mergeSort fun x y => decide (x ≤ y)) hrow (by simp) (Nat.le_refl _)
  rw [List.take_of_length_le (by simp)] at h1
  exact ⟨rfl, (fr_grow _ _).row h1 (fun _ _ e => e), (fr_putRow W n g _).trans (fr_grow _ _) (fun _ e => e.elim), hb1, hb2⟩

set_option maxHeartbeats 4000000 in
theorem keptFiles_any (g c : Nat) (ns : List (List UInt8)) (w : World) (hc : ∀ j x, ns[j]? = some x → w.cell? ⟨g, j, none⟩ = some (.string ⟨x.toArray⟩)) (hg : g < w.heap.size) (hn : ns.length ≤ 1000) (hm : ∀ x ∈ ns, x.length ≤ maxLen) :
    Calls Tryz.prog 55 #[.slice (some ⟨g, 0, none⟩) ns.length c] w fun e w' => ∃ g' c', e = .returned (.slice (some ⟨g', 0, none⟩) (keptL ns).length c') ∧ (∀ j x, (keptS ns)[j]? = some x → w'.cell? ⟨g', j, none⟩ = some (.string ⟨x.toArray⟩)) ∧ w.heap.size ≤ g' ∧ g' < w'.heap.size ∧ Fr None' w w' := by
  obtain ⟨i0, hi, hz0, hz1, hz2⟩ := info_parts Tryz.infoSt
  go_enter Tryz.func55, Tryz.ntmps55
  go_wp2_with fail
  go_loopw [3, 9] (fun v i wr => ∃ j : Nat, j ≤ ns.length ∧ i = .int .i64 j ∧ wr.ownsRow w.heap.size 9 1 v (keptL (ns.take j)).length ((keptL (ns.take j)).map encStr) ∧ Fr None' w wr) (fun _ i _ => ns.length - (intOf i).toNat)
  case atStart =>
    refine ⟨0, Nat.zero_le _, rfl, ⟨rfl, Or.inr ⟨w.heap.size, 1, _, rfl, Nat.le_refl _, (MapKept.heap_alloc w _).1, Nat.le_refl _, by decide, rfl, rfl⟩⟩, Fr.alloc _ _ _⟩
  case round =>
    obtain ⟨j, hj, rfl, hrow, hfr⟩ := hrel
    by_cases hlt : j < ns.length
    · obtain ⟨x, hx⟩ : ∃ x, ns[j]? = some x := ⟨ns[j], by simp [hlt]⟩
      have hcell : wr.cell? ⟨g, j, none⟩ = some (.string ⟨x.toArray⟩) := (World.cell?_of_block (w := w) (a := ⟨g, j, none⟩) (hfr.block g hg (fun e => e))).trans (hc j x hx)
      have hN := named_is x wr (hm x (List.mem_of_getElem? hx))
      have hsn := keptL_snoc hx
      have hll : (keptL (ns.take j)).length ≤ 1001 := by have := keptL_len (ns.take j); have := List.length_take_le j ns; omega
      have i0' : (0 : Int) ≤ (j : Int) := by omega
      have i1' : (j : Int) < (ns.length : Int) := by omega
      obtain ⟨va, vc, rfl⟩ := row_slice hrow
      have HS : Hid (keptL (ns.take (j + 1)) = keptL (ns.take j) ++ if Sha.namedB x = true then [fileK x] else []) := hsn
      have HJ : Hid (j + 1 ≤ ns.length) := hlt
      clear hc hm hx hsn hlt hj
      cases hb : Sha.namedB x
      · rw [hb] at hN
        go_wp2_with fail
        refine hN.mono ?_
        rintro e w1 ⟨rfl, rfl⟩
        clear hN
        go_wp2_with fail
        go_roundw
        case rel =>
          refine ⟨j + 1, HJ.out, by go_num, ?_, hfr⟩
          rw [HS.out, hb]
          simpa using hrow
        case measure => simp [intOf]; have := HJ.out; omega
      · rw [hb] at hN
        have hxl := namedB_length hb
        go_wp2_with fail
        refine hN.mono ?_
        rintro e w1 ⟨rfl, rfl⟩
        clear hN
        go_wp2_with fail
        refine (fileOf_any x wr hxl).mono ?_
        rintro e w2 ⟨rfl, f2⟩
        have hrow2 := f2.row hrow (fun _ _ e => e)
        go_wp2_with (first
          | (at_builtin; refine wpList_append_own_at _ rfl _ _ 48 rfl w.heap.size 9 i0 (.string ByteArray.empty) 1 16 Tryz.underlying48 hi hz0 hz1 hz2 rfl (by decide) _ _ _ rfl (hrow2.alloc _) ⟨w2.heap.size, 0, none⟩ 1 1 [.string ⟨(fileK x).toArray⟩] rfl rfl (cell_one_new _ _ _) (fun u hu => by simp at hu; subst hu; rfl) (by unfold maxLen; omega) (by omega) (by have := hfr.size; have := f2.size; simp; omega) ?_; intro v5 w5 hown5 hg5 hnil hloc)
          | go_in)
        have hlo : ∀ i, (Value.slice va (keptL (ns.take j)).length vc).ownBlock = some i → w.heap.size ≤ i := fun i e => by
          rcases hrow.2 with ⟨hvv, _⟩ | ⟨g', cap', cur', hvv, hb', _⟩
          · rw [hvv] at e; cases e
          · rw [hvv] at e; cases e; exact hb'
        have hfr5 : Fr None' w w5 := ((hfr.then f2).then (Fr.alloc _ _ _)).trans (Fr.grown (M := fun i => (Value.slice va (keptL (ns.take j)).length vc).ownBlock = some i) hg5 (fun k e => e)) (fun i e => Or.inr (hlo i e))
        go_roundw
        case rel =>
          refine ⟨j + 1, HJ.out, by go_num, ?_, hfr5⟩
          rw [HS.out, hb]
          simpa [encStr] using hown5
        case measure => simp [intOf]; have := HJ.out; omega
    · have hjl : j = ns.length := by omega
      subst hjl
      rw [List.take_of_length_le (Nat.le_refl _)] at hrow
      obtain ⟨g', cap, rfl, hS⟩ := sort_row w wr u3 (keptL ns) hrow (by simp [keptL]) (by have := keptL_len ns; omega)
      clear hlt hj hc hm hrow
      go_wp2_with fail
      refine hS.mono ?_
      rintro e w1 ⟨rfl, r1, f1, b1, b2⟩
      clear hS
      go_wp2
      go_ret
      refine ⟨g', cap, rfl, fun k x hk => ?_, b1, Nat.lt_of_lt_of_le b2 f1.size, hfr.trans f1 (fun i e => Or.inr (by rw [e]; exact b1))⟩
      have hk' : ((keptS ns).map encStr)[k]? = some (encStr x) := by simp [hk]
      rcases r1.2 with ⟨hv', h0⟩ | ⟨g2, cap', cur, hv', _⟩
      · cases hv'
      · exact row_cell (ownsRow_base_a r1 (Nat.zero_le _)) hk'
end Go.Proofs.YtnmghgbpgpaomaaGreat

namespace Go.Proofs.YtnmghgbpgpaomaaGreat
open Go.RowKit Go.Maps Go.WideMaps Go.Sort Go.Shelf
set_option maxRecDepth 100000

theorem keptS_sorted (ns : List (List UInt8)) : (keptS ns).Pairwise (fun a b => a ≤ b) := by
  have := List.pairwise_mergeSort (le := fun x y : List UInt8 => decide (x ≤ y)) (fun a b c h1 h2 => by simp at *; exact List.le_trans h1 h2) (fun a b => by simp; exact List.le_total a b) (keptL ns)
  exact this.imp (fun {a b} h => by simpa using h)

theorem keptS_mem (ns : List (List UInt8)) (x : List UInt8) : x ∈ keptS ns ↔ x ∈ keptL ns := (List.mergeSort_perm _ _).mem_iff

theorem keptS_length (ns : List (List UInt8)) : (keptS ns).length = (keptL ns).length := by simp [keptS]

/-- Where the lesser ones end. -/
theorem cut_at (x : List UInt8) : ∀ {ks : List (List UInt8)}, ks.Pairwise (fun a b => a ≤ b) → ∃ k, k ≤ ks.length ∧ (∀ t y, t < k → ks[t]? = some y → y < x) ∧ ∀ t y, k ≤ t → ks[t]? = some y → ¬ y < x
  | [], _ => ⟨0, Nat.le_refl _, fun t y h => by omega, fun t y _ h => by simp at h⟩
  | z :: r, h => by
    obtain ⟨h1, h2⟩ := List.pairwise_cons.1 h
    by_cases hz : z < x
    · obtain ⟨k, a, b, c⟩ := cut_at x h2
      refine ⟨k + 1, by simp; omega, fun t y ht hy => ?_, fun t y ht hy => ?_⟩
      · cases t with
        | zero => simp at hy; rw [← hy]; exact hz
        | succ t => exact b t y (by omega) (by simpa using hy)
      · cases t with
        | zero => omega
        | succ t => exact c t y (by omega) (by simpa using hy)
    · refine ⟨0, Nat.zero_le _, fun t y h => by omega, fun t y _ hy => ?_⟩
      cases t with
      | zero => simp at hy; rw [← hy]; exact hz
      | succ t =>
        have hm : y ∈ r := List.mem_of_getElem? (by simpa using hy)
        exact List.not_lt.2 (List.le_trans (List.not_lt.1 hz) (h1 y hm))

theorem search_any (g c : Nat) (ks : List (List UInt8)) (x : List UInt8) (w : World) (hs : ks.Pairwise (fun a b => a ≤ b)) (hc : ∀ j y, ks[j]? = some y → w.cell? ⟨g, j, none⟩ = some (.string ⟨y.toArray⟩)) (hl : ks.length < 10000) :
    Calls Tryz.prog 56 #[.slice (some ⟨g, 0, none⟩) ks.length c, .string ⟨x.toArray⟩] w fun e w' => ∃ n : Nat, e = .returned (.tuple #[.int .i64 n, .bool (decide (x ∈ ks))]) ∧ Fr None' w w' := by
  obtain ⟨k, hk, h1, h2⟩ := cut_at x hs
  have hS := Any2.slices_BinarySearch_string Tryz.lays26 g 0 ks.length c (fun t => ⟨(ks[t]?.getD x).toArray⟩) ⟨x.toArray⟩ w (by omega) (fun j hj => by
    have := hc j (ks[j]) (by simp)
    simpa [List.getElem?_eq_getElem hj] using this)
  have hb : Lib.bsGo (fun t => Op.bytesLess (⟨(ks[t]?.getD x).toArray⟩ : ByteArray).toList (⟨x.toArray⟩ : ByteArray).toList) ks.length 0 ks.length = k := by
    refine Lib.bsGo_spec _ k (fun t ht => ?_) (fun t ht => ?_) _ 0 _ (by omega) (Nat.zero_le _) hk
    · rw [ByteArray.toList_eq, ByteArray.toList_eq, bytesLess_eq]
      have hy : ks[t]? = some (ks[t]'(by omega)) := by simp
      rw [hy]
      simpa using h1 t _ ht hy
    · rw [ByteArray.toList_eq, ByteArray.toList_eq, bytesLess_eq]
      cases hy : ks[t]? with
      | none => simp
      | some y => simpa using h2 t y ht hy
  rw [hb] at hS
  refine hS.mono ?_
  rintro e w' ⟨rfl, q, rfl⟩
  suffices hd : (k < ks.length ∧ (⟨(ks[k]?.getD x).toArray⟩ : ByteArray) = ⟨x.toArray⟩) ↔ x ∈ ks from ⟨k, by rw [decide_eq_decide.2 hd], ⟨rfl, rfl, rfl, Nat.le_refl _, fun _ _ _ => rfl⟩⟩
  constructor
  · rintro ⟨a, b⟩
    have hy : ks[k]? = some (ks[k]'a) := by simp
    rw [hy] at b
    have : ks[k]'a = x := by
      have := congrArg (fun s : ByteArray => s.data.toList) b
      simpa using this
    rw [← this]
    exact List.getElem_mem a
  · intro hm
    obtain ⟨t, ht, htx⟩ := List.getElem_of_mem hm
    have hkt : k ≤ t := by
      refine Nat.le_of_not_lt fun hlt => ?_
      exact List.lt_irrefl x (h1 t x hlt (by simp [← htx]))
    refine ⟨by omega, ?_⟩
    have hy : ks[k]? = some (ks[k]'(by omega)) := by simp
    rw [hy]
    have hge : x ≤ ks[k]'(by omega) := List.not_lt.1 (h2 k _ (Nat.le_refl _) hy)
    have hle : ks[k]'(by omega) ≤ x := by
      rcases Nat.lt_or_ge k t with h | h
      · have := List.pairwise_iff_getElem.1 hs k t (by omega) ht h
        rw [htx] at this
        exact this
      · have e : k = t := by omega
        subst e
        rw [htx]
        exact List.le_refl _
    have : ks[k]'(by omega) = x := List.le_antisymm hle hge
    simp [this]
end Go.Proofs.YtnmghgbpgpaomaaGreat

namespace Go.Proofs.YtnmghgbpgpaomaaGreat
open Go.RowKit Go.Maps Go.WideMaps
set_option maxRecDepth 100000

/-- A step: the removal of a file, or a sync; and steps in order. -/
def St.one (S : St) : Option (List UInt8) → Int × St
  | none => S.sync
  | some k => S.remove k

def St.run (S : St) : List (Option (List UInt8)) → Int × St
  | [] => (0, S)
  | o :: r => if (S.one o).1 = 0 then (S.one o).2.run r else S.one o

theorem St.run_snoc {T : St} {o : Option (List UInt8)} : ∀ {os : List (Option (List UInt8))} {S : St}, S.run os = (0, T) → S.run (os ++ [o]) = T.one o
  | [], S, h => by
    have e : S = T := by simpa [St.run] using h
    subst e
    simp only [List.nil_append, St.run]
    split
    · rename_i h0
      rw [← h0]
    · rfl
  | x :: r, S, h => by
    simp only [List.cons_append, St.run] at h ⊢
    split at h
    · rename_i h0
      rw [if_pos h0]
      exact St.run_snoc h
    · rename_i h0
      rw [h] at h0
      exact absurd rfl h0

theorem St.run_stop {T : St} {e : Int} (he : e ≠ 0) (r : List (Option (List UInt8))) : ∀ {os : List (Option (List UInt8))} {S : St}, S.run os = (e, T) → S.run (os ++ r) = (e, T)
  | [], S, h => by
    simp only [St.run, Prod.mk.injEq] at h
    exact absurd h.1.symm he
  | x :: q, S, h => by
    simp only [List.cons_append, St.run] at h ⊢
    split at h
    · rename_i h0
      rw [if_pos h0]
      exact St.run_stop he r h
    · rename_i h0
      rw [if_neg h0]
      exact h

theorem Inv.remove {k : Nat} {S : St} (h : Inv k S) (a : List UInt8) : Inv (k + 1) (S.remove a).2 := by
  have hA := h.asked
  have hA' := hA.more (Nat.le_succ k)
  unfold St.remove
  split
  · exact hA'
  · split
    · exact hA'
    · exact hA.did (fun t e => by cases e)

theorem Inv.one {k : Nat} {S : St} (h : Inv k S) : ∀ o, Inv (k + 1) (S.one o).2
  | none => h.sync
  | some a => h.remove a

theorem Inv.run : ∀ {os : List (Option (List UInt8))} {k : Nat} {S : St}, Inv k S → Inv (k + os.length) (S.run os).2
  | [], _, _, h => h
  | o :: r, k, S, h => by
    simp only [St.run, List.length_cons]
    split
    · have := Inv.run (os := r) (h.one o)
      exact this.more (by omega)
    · exact (h.one o).more (by omega)

/-- The value v is the step o. -/
def StepAt (w : World) (p : Nat) (M : Nat → Prop) (v : Value) : Option (List UInt8) → Prop
  | none => v = .func (.func 49) #[.pointer (some ⟨p, 0, none⟩)] #[]
  | some k => ∃ bd bf fv, v = .func (.func 57) #[] #[.pointer (some ⟨bd, 0, none⟩), .pointer (some ⟨bf, 0, none⟩)] ∧ w.heap[bd]? = some (.cells #[.pointer (some ⟨p, 0, none⟩)] 27) ∧ w.heap[bf]? = some (.cells #[.string ⟨k.toArray⟩, fv] 61) ∧ ¬ M bd ∧ ¬ M bf ∧ k.length ≤ maxLen

set_option maxHeartbeats 2000000 in
theorem sw1_any (p bd bf : Nat) (fv : Value) (M : Nat → Prop) (S : St) (x : List UInt8) (w : World) (h : Disk w p M S) (hS : S.fine) (hx : x.length ≤ maxLen) (h1 : w.heap[bd]? = some (.cells #[.pointer (some ⟨p, 0, none⟩)] 27)) (h2 : w.heap[bf]? = some (.cells #[.string ⟨x.toArray⟩, fv] 61)) :
    Calls Tryz.prog 57 #[.pointer (some ⟨bd, 0, none⟩), .pointer (some ⟨bf, 0, none⟩)] w fun e w' => e = .returned (.int .i64 (S.remove x).1) ∧ Stepped M w p (S.remove x).2 w' := by
  have c1 : w.cell? ⟨bd, 0, none⟩ = some (.pointer (some ⟨p, 0, none⟩)) := by simp [World.cell?, h1]
  have c2 : w.cell? ⟨bf, 0, none⟩ = some (.string ⟨x.toArray⟩) := by simp [World.cell?, h2]
  have c3 : w.cell? ⟨bf, 1, none⟩ = some fv := by simp [World.cell?, h2]
  have hR := remove_any p M S ⟨x.toArray⟩ w h hS (by rw [size_mk]; exact hx)
  rw [toList_mk] at hR
  clear h hS h1 h2 hx
  go_enter Tryz.func57, Tryz.ntmps57
  go_wp2_with fail
  refine hR.mono ?_
  rintro e w2 ⟨rfl, hst⟩
  clear hR
  go_wp2
  go_ret
  exact ⟨rfl, hst⟩

theorem take_next {α : Type} {l : List α} {j : Nat} {x : α} (h : l[j]? = some x) : l.take (j + 1) = l.take j ++ [x] := by
  rw [List.take_add_one, h]; rfl

set_option maxHeartbeats 4000000 in
theorem inOrder_run (p k c : Nat) (ad : Option Addr) (M : Nat → Prop) (S : St) (os : List (Option (List UInt8))) (vs : List Value) (w : World) (h : Disk w p M S) (hi : Inv k S) (hk : k + os.length ≤ 60000000) (hl : vs.length = os.length)
    (hc : ∀ j u, vs[j]? = some u → ∃ g, ad = some ⟨g, 0, none⟩ ∧ w.cell? ⟨g, j, none⟩ = some u ∧ ¬ M g ∧ g < w.heap.size) (hs : ∀ (j : Nat) o u, os[j]? = some o → vs[j]? = some u → StepAt w p M u o) :
    Calls Tryz.prog 48 #[.slice ad os.length c] w fun e w' => e = .returned (.int .i64 (S.run os).1) ∧ Stepped M w p (S.run os).2 w' := by
  have hkk : Hid (k + os.length ≤ 60000000) := hk
  have hol : (os.length : Int) ≤ 60000000 := by omega
  clear hk
  go_enter Tryz.func48, Tryz.ntmps48
  go_wp2_with fail
  go_loopw [8] (fun i wr => ∃ (j : Nat) (T : St), j ≤ os.length ∧ i = .int .i64 j ∧ S.run (os.take j) = (0, T) ∧ Stepped M w p T wr) (fun i _ => os.length - (intOf i).toNat)
  case atStart => exact ⟨0, S, Nat.zero_le _, rfl, rfl, Stepped.start h⟩
  case round =>
    obtain ⟨j, T, hj, rfl, hrun, hst⟩ := hrel
    by_cases hlt : j < os.length
    · obtain ⟨o, ho⟩ : ∃ o, os[j]? = some o := ⟨os[j], by simp [hlt]⟩
      obtain ⟨u, hu⟩ : ∃ u, vs[j]? = some u := ⟨vs[j]'(by omega), by simp⟩
      have hinv : Inv (k + j) T := by
        have := Inv.run (os := os.take j) hi
        rw [hrun] at this
        exact this.more (by simp; omega)
      have hfin := hinv.fine (by have := hkk.out; omega)
      have hsn : S.run (os.take (j + 1)) = T.one o := by rw [take_next ho]; exact St.run_snoc hrun
      have hend : (T.one o).1 ≠ 0 → S.run os = T.one o := fun hne => by
        have := St.run_stop (T := (T.one o).2) hne (os.drop (j + 1)) hsn
        rw [List.take_append_drop] at this
        exact this
      obtain ⟨M1, hd, hf, hM⟩ := hst
      obtain ⟨g, rfl, hgc, hgM, hgl⟩ := hc j u hu
      have hgc' : wr.cell? ⟨g, j, none⟩ = some u := (World.cell?_of_block (w := w) (a := ⟨g, j, none⟩) (hf.block g hgl hgM)).trans hgc
      have hso := hs j o u ho hu
      have hstep : (u = .func (.func 49) #[.pointer (some ⟨p, 0, none⟩)] #[] ∧ o = none) ∨ ∃ x bd bf fv, u = .func (.func 57) #[] #[.pointer (some ⟨bd, 0, none⟩), .pointer (some ⟨bf, 0, none⟩)] ∧ o = some x ∧ wr.heap[bd]? = some (.cells #[.pointer (some ⟨p, 0, none⟩)] 27) ∧ wr.heap[bf]? = some (.cells #[.string ⟨x.toArray⟩, fv] 61) ∧ x.length ≤ maxLen := by
        cases o with
        | none => exact Or.inl ⟨hso, rfl⟩
        | some x =>
          obtain ⟨bd, bf, fv, a1, a2, a3, a4, a5, a6⟩ := hso
          exact Or.inr ⟨x, bd, bf, fv, a1, rfl, hf.at a2 a4, hf.at a3 a5, a6⟩
      have HK : Hid (S.run (os.take (j + 1)) = T.one o ∧ ((T.one o).1 ≠ 0 → S.run os = T.one o) ∧ Fr M w wr ∧ ∀ k, M1 k → M k ∨ w.heap.size ≤ k) := ⟨hsn, hend, hf, hM⟩
      have HJ : Hid (j + 1 ≤ os.length) := hlt
      have i0' : (0 : Int) ≤ (j : Int) := by omega
      have i1' : (j : Int) < (os.length : Int) := by omega
      clear hsn hend hf hM hs hc hso hgc hgM hgl hrun hinv ho hu hlt hj hi h hl
      rcases hstep with ⟨rfl, rfl⟩ | ⟨x, bd, bf, fv, rfl, rfl, a2, a3, a4⟩
      · have hcl := sync_any p M1 T wr hd hfin
        clear hd hfin
        go_wp2_with fail
        refine hcl.mono ?_
        rintro e w2 ⟨rfl, hs2⟩
        clear hcl hgc'
        have hs3 : Stepped M w p (T.one none).2 w2 := Stepped.next HK.out.2.2.1 HK.out.2.2.2 hs2
        have HQ : Hid (Stepped M w p (T.one none).2 w2 ∧ S.run (os.take (j + 1)) = T.one none ∧ ((T.one none).1 ≠ 0 → S.run os = T.one none)) := ⟨hs3, HK.out.1, HK.out.2.1⟩
        obtain ⟨c1, hc1⟩ : ∃ c, (T.one none).1 = c := ⟨_, rfl⟩
        have hc1' : T.sync.1 = c1 := hc1
        rw [hc1']
        clear hs2 hs3 HK hc1'
        by_cases hc0 : c1 = 0
        · subst hc0
          go_wp2_with fail
          go_roundw
          case rel =>
            obtain ⟨q1, q2, _⟩ := HQ.out
            exact ⟨j + 1, (T.one none).2, HJ.out, by go_num, by rw [q2, ← hc1], q1⟩
          case measure => simp [intOf]; have := HJ.out; omega
        · go_wp2_with fail
          go_ret
          obtain ⟨q1, _, q3⟩ := HQ.out
          rw [hc1] at q3
          rw [q3 hc0]
          exact ⟨by rw [hc1]; rfl, q1⟩
      · have hcl := sw1_any p bd bf fv M1 T x wr hd hfin a4 a2 a3
        clear hd hfin a2 a3 a4
        go_wp2_with fail
        refine hcl.mono ?_
        rintro e w2 ⟨rfl, hs2⟩
        clear hcl hgc'
        have hs3 : Stepped M w p (T.one (some x)).2 w2 := Stepped.next HK.out.2.2.1 HK.out.2.2.2 hs2
        have HQ : Hid (Stepped M w p (T.one (some x)).2 w2 ∧ S.run (os.take (j + 1)) = T.one (some x) ∧ ((T.one (some x)).1 ≠ 0 → S.run os = T.one (some x))) := ⟨hs3, HK.out.1, HK.out.2.1⟩
        obtain ⟨c1, hc1⟩ : ∃ c, (T.one (some x)).1 = c := ⟨_, rfl⟩
        have hc1' : (T.remove x).1 = c1 := hc1
        rw [hc1']
        clear hs2 hs3 HK hc1'
        by_cases hc0 : c1 = 0
        · subst hc0
          go_wp2_with fail
          go_roundw
          case rel =>
            obtain ⟨q1, q2, _⟩ := HQ.out
            exact ⟨j + 1, (T.one (some x)).2, HJ.out, by go_num, by rw [q2, ← hc1], q1⟩
          case measure => simp [intOf]; have := HJ.out; omega
        · go_wp2_with fail
          go_ret
          obtain ⟨q1, _, q3⟩ := HQ.out
          rw [hc1] at q3
          rw [q3 hc0]
          exact ⟨by rw [hc1]; rfl, q1⟩
    · have hjl : j = os.length := by omega
      subst hjl
      rw [List.take_of_length_le (Nat.le_refl _)] at hrun
      clear hlt hj hs hc
      go_wp2_with fail
      go_ret
      rw [hrun]
      exact ⟨rfl, hst⟩
end Go.Proofs.YtnmghgbpgpaomaaGreat

namespace Go.Proofs.YtnmghgbpgpaomaaGreat
open Go.RowKit Go.Maps Go.WideMaps
set_option maxRecDepth 100000

/-- The files that go, and what a sweep does. -/
def goneOf (ns ks : List (List UInt8)) : List (List UInt8) := ks.filter fun k => decide (k ∉ keptL ns)
def stepsOf (ns ks : List (List UInt8)) : List (Option (List UInt8)) := if goneOf ns ks = [] then [] else (goneOf ns ks).map some ++ [none]
def St.sweep (S : St) (ns : List (List UInt8)) : Int × St := S.run (stepsOf ns (sortedNames S.F))

theorem Tryz.infoStep : (Tryz.prog.info? 110).map (fun i => (i.zero, i.size, i.bytes)) = some (some .nilFunc, 1, 8) := by kernel_rfl

theorem lt_of_cell {w : World} {b o : Nat} {v : Value} (h : w.cell? ⟨b, o, none⟩ = some v) : b < w.heap.size := by
  refine Nat.lt_of_not_le fun hle => ?_
  simp [World.cell?, Array.getElem?_eq_none hle] at h

theorem gone_snoc {ns : List (List UInt8)} {L : List Tri} {j : Nat} {t : Tri} (h : L[j]? = some t) : goneOf ns ((L.take (j + 1)).map fun t => t.k) = goneOf ns ((L.take j).map fun t => t.k) ++ if t.k ∈ keptS ns then [] else [t.k] := by
  unfold goneOf
  rw [take_next h, List.map_append, List.filter_append]
  congr 1
  by_cases hk : t.k ∈ keptS ns
  · have hk' := (keptS_mem ns _).1 hk
    simp [hk, hk']
  · have hk' : ¬ t.k ∈ keptL ns := fun e => hk ((keptS_mem ns _).2 e)
    simp [hk, hk']

theorem StepAt.fresh {w w' : World} {p : Nat} {M : Nat → Prop} {v : Value} {o : Option (List UInt8)} (h : StepAt w p M v o) (f : Fr None' w w') : StepAt w' p M v o := by
  cases o with
  | none => exact h
  | some k =>
    obtain ⟨bd, bf, fv, a1, a2, a3, a4⟩ := h
    exact ⟨bd, bf, fv, a1, f.at a2 (fun e => e), f.at a3 (fun e => e), a4⟩

/-- What is no step stays while a row of steps grows. -/
theorem at_other {w w' : World} {v : Value} {n base b : Nat} {vs : List Value} {c : Array Value} {e : TypeId} {fz : Nat × Nat} (hr : w.ownsRow base 110 1 v n vs) (hf : Fr (fun i => v.ownBlock = some i) w w') (hb : w.heap[b]? = some (.cells c e fz)) (he : e ≠ 110) : w'.heap[b]? = some (.cells c e fz) := by
  refine hf.at hb (fun e' => ?_)
  rcases hr.2 with ⟨hv, _⟩ | ⟨g, cap, cur, hv, _, hh, _⟩
  · rw [hv] at e'; cases e'
  · rw [hv] at e'; cases e'
    rw [hb] at hh; cases hh; exact he rfl

theorem StepAt.grown {w w' : World} {v u : Value} {n base p : Nat} {M : Nat → Prop} {vs : List Value} {o : Option (List UInt8)} (h : StepAt w p M u o) (hr : w.ownsRow base 110 1 v n vs) (hf : Fr (fun i => v.ownBlock = some i) w w') : StepAt w' p M u o := by
  cases o with
  | none => exact h
  | some k =>
    obtain ⟨bd, bf, fv, a1, a2, a3, a4⟩ := h
    exact ⟨bd, bf, fv, a1, at_other hr hf a2 (by decide), at_other hr hf a3 (by decide), a4⟩

theorem row_low {w : World} {base n : Nat} {e : TypeId} {v : Value} {vs : List Value} (h : w.ownsRow base e 1 v n vs) : ∀ i, v.ownBlock = some i → base ≤ i := fun i e => by
  rcases h.2 with ⟨hvv, _⟩ | ⟨g', cap', cur', hvv, hb', _⟩
  · rw [hvv] at e; cases e
  · rw [hvv] at e; cases e; exact hb'

theorem steps_snoc {w' : World} {p : Nat} {M : Nat → Prop} {us : List (Option (List UInt8))} {vs : List Value} {o : Option (List UInt8)} {u : Value} (hl : vs.length = us.length) (h : ∀ (n : Nat) x y, us[n]? = some x → vs[n]? = some y → StepAt w' p M y x) (hu : StepAt w' p M u o) :
    ∀ (n : Nat) x y, (us ++ [o])[n]? = some x → (vs ++ [u])[n]? = some y → StepAt w' p M y x := by
  intro n x y hx hy
  by_cases hn : n < us.length
  · rw [List.getElem?_append_left hn] at hx
    rw [List.getElem?_append_left (by omega)] at hy
    exact h n x y hx hy
  · rw [List.getElem?_append_right (by omega)] at hx hy
    rw [hl] at hy
    cases hm : n - us.length with
    | zero =>
      rw [hm] at hx hy
      simp at hx hy
      subst hx hy
      exact hu
    | succ m =>
      rw [hm] at hx
      simp at hx

theorem row_told {w : World} {base n c : Nat} {ad : Option Addr} {vs : List Value} {M : Nat → Prop} (h : w.ownsRow base 110 1 (.slice ad n c) n vs) (hM : ∀ k, M k → k < base) : ∀ j u, vs[j]? = some u → ∃ g, ad = some ⟨g, 0, none⟩ ∧ w.cell? ⟨g, j, none⟩ = some u ∧ ¬ M g ∧ g < w.heap.size := by
  intro j u hu
  have hl := h.1
  have hj := (List.getElem?_eq_some_iff.1 hu).1
  rcases h.2 with ⟨hv, h0⟩ | ⟨g, cap, cur, hv, hb, hh, _⟩
  · omega
  · cases hv
    refine ⟨g, rfl, row_cell (ownsRow_base_a h (Nat.zero_le _)) hu, fun e => ?_, lt_of_some hh⟩
    have := hM g e
    omega

set_option maxHeartbeats 4000000 in
theorem sweep_st (p k g c : Nat) (M : Nat → Prop) (S : St) (ns : List (List UInt8)) (w : World) (h : Disk w p M S) (hi : Inv k S) (hk : k + S.F.length + 1 ≤ 60000000) (hu : used S.F < 35184372088832) (hc : ∀ j x, ns[j]? = some x → w.cell? ⟨g, j, none⟩ = some (.string ⟨x.toArray⟩)) (hg : g < w.heap.size) (hn : ns.length ≤ 1000) (hm : ∀ x ∈ ns, x.length ≤ maxLen) :
    Calls Tryz.prog 18 #[.pointer (some ⟨p, 0, none⟩), .slice (some ⟨g, 0, none⟩) ns.length c] w fun e w' => e = .returned (.int .i64 (S.sweep ns).1) ∧ Stepped M w p (S.sweep ns).2 w' := by
  obtain ⟨i0, hi0, hz0, hz1, hz2⟩ := info_parts Tryz.infoStep
  have hmf := makeFunc_run
  obtain ⟨w1, hw1⟩ : ∃ w1, w.alloc (.cells #[.pointer (some ⟨p, 0, none⟩)] 27) = w1 := ⟨_, rfl⟩
  have f1 : Fr None' w w1 := hw1 ▸ Fr.alloc None' _ _
  have b1 : w1.heap[w.heap.size]? = some (.cells #[.pointer (some ⟨p, 0, none⟩)] 27) := hw1 ▸ (MapKept.heap_alloc w _).1
  have hKp := keptFiles_any g c ns w1 (fun j x hj => (World.cell?_of_block (w := w) (a := ⟨g, j, none⟩) (f1.block g hg (fun e => e))).trans (hc j x hj)) (Nat.lt_of_lt_of_le hg f1.size) hn hm
  have hFl := fun wx (fx : Fr None' w1 wx) => files_any p M S wx (h.fresh (f1.then fx)) (hi.fine (by omega)) hu
  have HF : Hid _ := hFl
  have HD : Hid (Disk w p M S ∧ Inv k S ∧ k + S.F.length + 1 ≤ 60000000) := ⟨h, hi, hk⟩
  have hcell : ∀ wx, Fr None' w1 wx → wx.cell? ⟨w.heap.size, 0, none⟩ = some (.pointer (some ⟨p, 0, none⟩)) := fun wx fx => by
    have := fx.at b1 (fun e => e)
    simp [World.cell?, this]
  clear hFl h hi hk hc hm
  go_enter Tryz.func18, Tryz.ntmps18
  go_wp2_with fail
  refine hKp.mono ?_
  rintro e w2 ⟨g2, c2, rfl, hk2, hg2, hg2', f2⟩
  clear hKp
  have d2 := hcell w2 f2
  have hFl := HF.out w2 f2
  clear HF
  go_wp2_with fail
  refine hFl.mono ?_
  rintro e w3 ⟨v3, L, rfl, hres, hkb, f3⟩
  clear hFl d2
  obtain ⟨va, vc, rfl, hcs⟩ := hres.cells
  have hll : L.length ≤ 60000000 := by
    have h1 : (kb L).length = (sortedFiles S.F).length := by rw [hkb]
    have h2 : L.length = S.F.length := by simpa [kb, sortedFiles, sortedNames] using h1
    have := HD.out.2.2
    omega
  have hls : ∀ (i : Nat) (t : Tri), L[i]? = some t → t.k.length ≤ maxLen := fun i t ht => by
    obtain ⟨⟨bf, bs, ca, hd, _⟩, _⟩ := HD.out
    have h1 : (t.k, t.b) ∈ sortedFiles S.F := by rw [← hkb]; exact List.mem_map.2 ⟨t, List.mem_of_getElem? ht, rfl⟩
    obtain ⟨k', hk', he⟩ := List.mem_map.1 h1
    obtain ⟨rfl, _⟩ := Prod.mk.inj he
    exact strKeys_le hd.files Tryz.underlying9 t.k (by rw [strKeys_toD]; exact (List.mergeSort_perm _ _).mem_iff.1 hk')
  have f13 : Fr None' w1 w3 := f2.then f3
  have hkk : ∀ j x, (keptS ns)[j]? = some x → w3.cell? ⟨g2, j, none⟩ = some (.string ⟨x.toArray⟩) := fun j x hj => (World.cell?_of_block (w := w2) (a := ⟨g2, j, none⟩) (f3.block g2 hg2' (fun e => e))).trans (hk2 j x hj)
  have hg3 : g2 < w3.heap.size := Nat.lt_of_lt_of_le hg2' f3.size
  have HL : Hid (kb L = sortedFiles S.F) := hkb
  have bd3 := f13.at b1 (fun e => e)
  have HM : Hid (∀ k, M k → k < w.heap.size) := fun k hk => HD.out.1.lt hk
  have h13 := (f1.then f13).size
  clear hkb hk2 hg2' hres hu hg f2 f3 hg2 hw1
  go_wp2_with fail
  go_loopw [6, 16] (fun v i wr => ∃ (j : Nat) (vs : List Value), j ≤ L.length ∧ i = .int .i64 j ∧ wr.ownsRow w3.heap.size 110 1 v vs.length vs ∧ vs.length = (goneOf ns ((L.take j).map fun t => t.k)).length ∧ (∀ (n : Nat) x u, ((goneOf ns ((L.take j).map fun t => t.k)).map some)[n]? = some x → vs[n]? = some u → StepAt wr p M u x) ∧ Fr None' w3 wr) (fun _ i _ => L.length - (intOf i).toNat)
  case atStart => exact ⟨0, [], Nat.zero_le _, rfl, World.ownsRow_nil _ _ _ _, rfl, fun n x u h => by simp [goneOf] at h, Fr.refl _ _⟩
  case round =>
    obtain ⟨j, vs, hj, rfl, hrow, hvl, hst, hfr⟩ := hrel
    by_cases hlt : j < L.length
    · obtain ⟨t, ht⟩ : ∃ t, L[j]? = some t := ⟨L[j], by simp [hlt]⟩
      obtain ⟨gf, rfl, d1, d2, hdt⟩ := hcs j t ht
      have hgf : gf < w3.heap.size := lt_of_cell d1
      have e1 : wr.cell? ⟨gf, j * 2, none⟩ = some (.string ⟨t.k.toArray⟩) := (World.cell?_of_block (w := w3) (a := ⟨gf, j * 2, none⟩) (hfr.block gf hgf (fun e => e))).trans d1
      have e2 : wr.cell? ⟨gf, j * 2 + 1, none⟩ = some t.v := (World.cell?_of_block (w := w3) (a := ⟨gf, j * 2 + 1, none⟩) (hfr.block gf hgf (fun e => e))).trans d2
      have hkr : ∀ j x, (keptS ns)[j]? = some x → wr.cell? ⟨g2, j, none⟩ = some (.string ⟨x.toArray⟩) := fun j x hj => (World.cell?_of_block (w := w3) (a := ⟨g2, j, none⟩) (hfr.block g2 hg3 (fun e => e))).trans (hkk j x hj)
      have hdr := hfr.cellsAt (stillN _) bd3 (by decide) (by decide)
      obtain ⟨ta, tc, htv⟩ := row_slice hdt
      have i0' : (0 : Int) ≤ (j : Int) := by omega
      have i1' : (j : Int) < (L.length : Int) := by omega
      obtain ⟨va', vc', rfl⟩ := row_slice hrow
      obtain ⟨wA, hwA⟩ : ∃ wA, wr.alloc (.cells #[.string ⟨t.k.toArray⟩, .slice ta t.b.length tc] 61) = wA := ⟨_, rfl⟩
      have fA : Fr None' wr wA := hwA ▸ Fr.alloc None' _ _
      have nA : wA.heap[wr.heap.size]? = some (.cells #[.string ⟨t.k.toArray⟩, .slice ta t.b.length tc] 61) := hwA ▸ (MapKept.heap_alloc wr _).1
      have hS := search_any g2 c2 (keptS ns) t.k wA (keptS_sorted ns) (fun j x hj => (World.cell?_of_block (w := wr) (a := ⟨g2, j, none⟩) (fA.block g2 (Nat.lt_of_lt_of_le hg3 hfr.size) (fun e => e))).trans (hkr j x hj)) (by rw [keptS_length]; have := keptL_len ns; omega)
      rw [keptS_length] at hS
      have hgs := gone_snoc (ns := ns) ht
      have htl := hls j t ht
      have hvb : vs.length ≤ 60000000 := by
        have h1 : (goneOf ns ((L.take j).map fun t => t.k)).length ≤ ((L.take j).map fun t => t.k).length := List.length_filter_le _ _
        rw [List.length_map, List.length_take] at h1
        omega
      have HG : Hid (goneOf ns ((L.take (j + 1)).map fun t => t.k) = goneOf ns ((L.take j).map fun t => t.k) ++ (if t.k ∈ keptS ns then [] else [t.k]) ∧ j + 1 ≤ L.length ∧ t.k.length ≤ maxLen ∧ vs.length = (goneOf ns ((L.take j).map fun t => t.k)).length) := ⟨hgs, hlt, htl, hvl⟩
      have HT : Hid (∀ (n : Nat) x u, ((goneOf ns ((L.take j).map fun t => t.k)).map some)[n]? = some x → vs[n]? = some u → StepAt wr p M u x) := hst
      have HB : Hid (vs.length ≤ 60000000) := hvb
      have hvI : (vs.length : Int) ≤ 60000000 := by omega
      have hlI : (L.length : Int) ≤ 60000000 := by omega
      have fr3A := hfr.then fA
      rw [htv] at e2
      clear hgs htl hvb hcs hkk hkr hls hll htv ht hlt hj d1 d2 hdt hvl hst hgf hn
      subst hwA
      by_cases hin : t.k ∈ keptS ns
      · rw [decide_eq_true hin] at hS
        go_wp2_with fail
        refine hS.mono ?_
        rintro e w4 ⟨n4, rfl, f4⟩
        clear hS
        go_wp2_with fail
        go_roundw
        case rel =>
          obtain ⟨q1, q2, q3, q4⟩ := HG.out
          rw [if_pos hin, List.append_nil] at q1
          refine ⟨j + 1, vs, q2, by go_num, (fA.then f4).row hrow (fun _ _ e => e), by rw [q1]; exact q4, ?_, fr3A.then f4⟩
          rw [q1]
          exact fun n x u hx hu => (HT.out n x u hx hu).fresh (fA.then f4)
        case measure => simp [intOf]; have := HG.out.2.1; omega
      · rw [decide_eq_false hin] at hS
        go_wp2_with fail
        refine hS.mono ?_
        rintro e w4 ⟨n4, rfl, f4⟩
        clear hS
        have hrow4 := (fA.then f4).row hrow (fun _ _ e => e)
        go_wp2_with (first
          | (at_builtin; refine wpList_append_own_at _ rfl _ _ 81 rfl w3.heap.size 110 i0 .nilFunc 1 8 Tryz.underlying81 hi0 hz0 hz1 hz2 rfl (by decide) _ _ _ rfl (hrow4.alloc _) ⟨w4.heap.size, 0, none⟩ 1 1 [.func (.func 57) #[] #[.pointer (some ⟨w.heap.size, 0, none⟩), .pointer (some ⟨wr.heap.size, 0, none⟩)]] rfl rfl (cell_one_new _ _ _) (fun u hu => by simp at hu; subst hu; rfl) (by have := HB.out; unfold maxLen; omega) (by have := HB.out; omega) (by have := fr3A.size; have := f4.size; simp; omega) ?_; intro v5 w5 hown5 hg5 hnil hloc)
          | go_in)
        have hf5 : Fr (fun i => (Value.slice va' vs.length vc').ownBlock = some i) (w4.alloc (.cells #[.func (.func 57) #[] #[.pointer (some ⟨w.heap.size, 0, none⟩), .pointer (some ⟨wr.heap.size, 0, none⟩)]] 110)) w5 := Fr.grown hg5 (fun k e => e)
        have fB : Fr None' w4 (w4.alloc (.cells #[.func (.func 57) #[] #[.pointer (some ⟨w.heap.size, 0, none⟩), .pointer (some ⟨wr.heap.size, 0, none⟩)]] 110)) := Fr.alloc _ _ _
        have hrB := fB.row hrow4 (fun _ _ e => e)
        have fr35 : Fr None' w3 w5 := ((fr3A.then f4).then fB).trans hf5 (fun i e => Or.inr (row_low hrow i e))
        go_roundw
        case rel =>
          obtain ⟨q1, q2, q3, q4⟩ := HG.out
          rw [if_neg hin] at q1
          refine ⟨j + 1, vs ++ [.func (.func 57) #[] #[.pointer (some ⟨w.heap.size, 0, none⟩), .pointer (some ⟨wr.heap.size, 0, none⟩)]], q2, by go_num, by simpa using hown5, by rw [q1]; simp [q4], ?_, fr35⟩
          rw [q1, List.map_append]
          refine steps_snoc (by simp [q4]) (fun n x u hx hu => ((HT.out n x u hx hu).fresh ((fA.then f4).then fB)).grown hrB hf5) ?_
          refine ⟨_, _, _, rfl, ?_, at_other hrB hf5 ((f4.then fB).at nA (fun e => e)) (by decide), fun e => ?_, fun e => ?_, q3⟩
          · exact at_other hrB hf5 (((fA.then f4).then fB).at hdr (fun e => e)) (by decide)
          · have := HM.out _ e; omega
          · have := HM.out _ e; have := hfr.size; omega
        case measure => simp [intOf]; have := HG.out.2.1; omega
    · have hjl : j = L.length := by omega
      subst hjl
      rw [List.take_of_length_le (Nat.le_refl _)] at hvl hst
      have hks : (L.map fun t => t.k) = sortedNames S.F := by
        have h1 : (kb L).map Prod.fst = (sortedFiles S.F).map Prod.fst := by rw [HL.out]
        simpa [kb, sortedFiles, Function.comp_def] using h1
      rw [hks] at hvl hst
      have hgl : (goneOf ns (sortedNames S.F)).length ≤ S.F.length := by
        have h1 : (goneOf ns (sortedNames S.F)).length ≤ (sortedNames S.F).length := List.length_filter_le _ _
        have h2 : (sortedNames S.F).length = S.F.length := by simp [sortedNames]
        omega
      have hD := HD.out.1.fresh ((f1.then f13).then hfr)
      have hMw : ∀ k, M k → k < w3.heap.size := fun k e => Nat.lt_of_lt_of_le (HM.out k e) h13
      have hdc := hcell wr (f13.then hfr)
      obtain ⟨va', vc', rfl⟩ := row_slice hrow
      by_cases hge : goneOf ns (sortedNames S.F) = []
      · have hsw : S.sweep ns = S.run [] := by unfold St.sweep stepsOf; rw [if_pos hge]
        rw [hge] at hvl
        have hv0 : vs = [] := List.length_eq_zero_iff.1 (by simpa using hvl)
        subst hv0
        have hcl := inOrder_run p k vc' va' M S [] [] wr hD HD.out.2.1 (by have := HD.out.2.2; simp; omega) rfl (row_told hrow hMw) (fun j o u h => by simp at h)
        have HFr : Hid (Fr None' w wr) := (f1.then f13).then hfr
        clear hD hdc hst hvl hgl hks hcs hls hkk hll
        go_wp2_with fail
        refine hcl.mono ?_
        rintro e w5 ⟨rfl, hs5⟩
        clear hcl
        go_wp2
        go_ret
        rw [hsw]
        exact ⟨rfl, Stepped.early HFr.out hs5⟩
      · have hsw : S.sweep ns = S.run ((goneOf ns (sortedNames S.F)).map some ++ [none]) := by unfold St.sweep stepsOf; rw [if_neg hge]
        have hvp : 0 < vs.length := by
          rw [hvl]
          exact List.length_pos_iff.2 hge
        have hvI : (vs.length : Int) ≤ 60000000 := by have := HD.out.2.2; omega
        have hvJ : (0 : Int) < (vs.length : Int) := by omega
        have HFr : Hid (Fr None' w wr ∧ Fr None' w3 wr ∧ Disk wr p M S ∧ (∀ k, M k → k < w3.heap.size) ∧ vs.length = (goneOf ns (sortedNames S.F)).length ∧ (goneOf ns (sortedNames S.F)).length ≤ S.F.length) := ⟨(f1.then f13).then hfr, hfr, hD, hMw, hvl, hgl⟩
        have HT : Hid _ := hst
        clear hD hst hvl hgl hks hcs hls hkk hll hMw
        have HC : Hid (∀ (w5 : World) (va5 : Option Addr) (vc5 : Nat), w5.ownsRow w3.heap.size 110 1 (.slice va5 (vs.length + 1) vc5) (vs.length + 1) (vs ++ [.func (.func 49) #[.pointer (some ⟨p, 0, none⟩)] #[]]) → (wr.alloc (.cells #[.func (.func 49) #[.pointer (some ⟨p, 0, none⟩)] #[]] 110)).grownBy w5 (Value.slice va' vs.length vc').ownBlock → Calls Tryz.prog 48 #[.slice va5 (vs.length + 1) vc5] w5 (fun e w' => e = .returned (.int .i64 (S.sweep ns).1) ∧ Stepped M w p (S.sweep ns).2 w')) := by
          intro w5 va5 vc5 hown5 hg5
          have hf5 : Fr (fun i => (Value.slice va' vs.length vc').ownBlock = some i) (wr.alloc (.cells #[.func (.func 49) #[.pointer (some ⟨p, 0, none⟩)] #[]] 110)) w5 := Fr.grown hg5 (fun k e => e)
          have fB : Fr None' wr (wr.alloc (.cells #[.func (.func 49) #[.pointer (some ⟨p, 0, none⟩)] #[]] 110)) := Fr.alloc _ _ _
          have hrB := fB.row hrow (fun _ _ e => e)
          obtain ⟨q1, q2, q3, q4, q5, q6⟩ := HFr.out
          have fr5 : Fr None' w w5 := (q1.then fB).trans hf5 (fun i e => Or.inr (Nat.le_trans h13 (row_low hrow i e)))
          have hln : ((goneOf ns (sortedNames S.F)).map some ++ [none]).length = vs.length + 1 := by simp [q5]
          have hcl := inOrder_run p k vc5 va5 M S ((goneOf ns (sortedNames S.F)).map some ++ [none]) (vs ++ [.func (.func 49) #[.pointer (some ⟨p, 0, none⟩)] #[]]) w5 (HD.out.1.fresh fr5) HD.out.2.1 (by rw [hln]; have := HD.out.2.2; omega) (by rw [hln]; simp) (row_told hown5 q4) (steps_snoc (o := none) (u := .func (.func 49) #[.pointer (some ⟨p, 0, none⟩)] #[]) (by simp [q5]) (fun n x u hx hu => ((HT.out n x u hx hu).fresh fB).grown hrB hf5) rfl)
          rw [hln, ← hsw] at hcl
          exact hcl.mono fun _ _ ⟨e1, hs⟩ => ⟨e1, Stepped.early fr5 hs⟩
        clear hsw
        go_wp2_with (first
          | (at_builtin; refine wpList_append_own_at _ rfl _ _ 81 rfl w3.heap.size 110 i0 .nilFunc 1 8 Tryz.underlying81 hi0 hz0 hz1 hz2 rfl (by decide) _ _ _ rfl (hrow.alloc _) ⟨wr.heap.size, 0, none⟩ 1 1 [.func (.func 49) #[.pointer (some ⟨p, 0, none⟩)] #[]] rfl rfl (cell_one_new _ _ _) (fun u hu => by simp at hu; subst hu; rfl) (by unfold maxLen; omega) (by omega) (by have := hfr.size; simp; omega) ?_; intro v5 w5 hown5 hg5 hnil hloc; obtain ⟨va5, vc5, rfl⟩ := row_slice hown5; have hcl := HC.out w5 va5 vc5 hown5 hg5; clear hnil hloc hown5 hg5)
          | (go_at_call 48; refine hcl.mono ?_; rintro e w6 ⟨rfl, hs6⟩; clear hcl)
          | go_in)
        go_ret
        exact ⟨rfl, hs6⟩
end Go.Proofs.YtnmghgbpgpaomaaGreat

namespace Go.Proofs.YtnmghgbpgpaomaaGreat
open Go.RowKit Go.Maps Go.WideMaps
set_option maxRecDepth 100000

theorem RStepped.fresh {M : Nat → Prop} {w w1 w2 : World} {p : Nat} {S : RSt} (h : RStepped M w p S w1) (f : Fr None' w1 w2) : RStepped M w p S w2 := by
  obtain ⟨M', h1, h2, h3⟩ := h
  exact ⟨M', h1.fresh f, h2.trans f (fun _ e => e.elim), h3⟩

theorem RStepped.next {M : Nat → Prop} {w w1 w2 : World} {p : Nat} {S2 : RSt} {M1 : Nat → Prop} (hf : Fr M w w1) (hM : ∀ k, M1 k → M k ∨ w.heap.size ≤ k) (h : RStepped M1 w1 p S2 w2) : RStepped M w p S2 w2 := by
  obtain ⟨M2, h1, h2, h3⟩ := h
  refine ⟨M2, h1, hf.trans h2 hM, fun k hk => ?_⟩
  rcases h3 k hk with e | e
  · exact hM k e
  · exact Or.inr (Nat.le_trans hf.size e)

theorem RStepped.early {M : Nat → Prop} {w w1 w2 : World} {p : Nat} {S : RSt} (f : Fr None' w w1) (h : RStepped M w1 p S w2) : RStepped M w p S w2 :=
  RStepped.next (f.mono (fun _ e => e.elim)) (fun _ hk => Or.inl hk) h

theorem RStepped.same {M : Nat → Prop} {w w1 : World} {p : Nat} {S : RSt} (h : RDisk w p M S) (f : Fr None' w w1) : RStepped M w p S w1 :=
  ⟨M, h.fresh f, f.mono (fun _ e => e.elim), fun _ e => Or.inl e⟩

theorem rread_st {w : World} {q : Nat} {N : Nat → Prop} {R : RSt} (l : List UInt8) (h : RDisk w q N R) (hl : R.L.length ≤ 1000000000) (hu : used R.L < 35184372088832) :
    Calls Tryz.prog 43 #[.pointer (some ⟨q, 0, none⟩), .string ⟨l.toArray⟩] w fun e w' => ∃ v, e = .returned (.tuple #[v, .int .i64 (R.read l).2]) ∧ Data w' v (R.read l).1 ∧ Fr None' w w' := by
  obtain ⟨vL, vO, vC, h, rfl⟩ := h
  exact rread_any q vL vO vC R ⟨l.toArray⟩ w h hl hu

theorem rname_is {w : World} {v : Value} {b : List UInt8} (h : Arg w v b) (hn : ∀ n c, v = .slice none n c → c = 0) (hb : b.length ≤ 90000) : Calls Tryz.prog 9 #[v] w fun e w' => e = .returned (.string ⟨(nm b).toArray⟩) ∧ Fr None' w w' := by
  obtain ⟨va, c, hv, h1, h2⟩ := h.byt
  subst hv
  exact (Sha.rname_any va b.length c (mOf b) w h.byt (fun e => hn _ _ (by rw [e])) hb).mono fun _ _ ⟨h1, h2⟩ => ⟨h1, fr_of h2⟩

theorem Data.nilcap {w : World} {v : Value} {b : List UInt8} (h : Data w v b) : ∀ n c, v = .slice none n c → c = 0 := fun n c e => by
  rcases h.2 with ⟨hv, h0⟩ | ⟨g, cap, cur, hv, _⟩
  · rw [hv] at e; cases e; rfl
  · rw [hv] at e; cases e

theorem rnamed_is (l : List UInt8) (w : World) (hl : l.length ≤ maxLen) : Calls Tryz.prog 47 #[.string ⟨l.toArray⟩] w fun e w' => e = .returned (.bool (Sha.namedB l)) ∧ Fr None' w w' :=
  (Sha.rnamed_any ⟨l.toArray⟩ w (by rw [size_mk]; exact hl)).mono fun _ _ ⟨h1, h2⟩ => ⟨h1, fr_of h2⟩

theorem rFile_any (l : List UInt8) (w : World) (hl : l.length = 64) : Calls Tryz.prog 44 #[.string ⟨l.toArray⟩] w fun e w' => e = .returned (.string ⟨(fileK l).toArray⟩) ∧ Fr None' w w' := by
  have h2 : (⟨(fileK l).toArray⟩ : ByteArray) = ⟨#[111, 46]⟩ ++ (⟨l.toArray⟩ : ByteArray).extract 0 32 := by
    apply ByteArray.ext
    rw [ByteArray.data_append, ByteArray.data_extract]
    unfold fileK
    simp
  have hz : (⟨l.toArray⟩ : ByteArray).size = 64 := by rw [size_mk, hl]
  rw [h2]
  generalize (⟨l.toArray⟩ : ByteArray) = s at hz ⊢
  clear h2 hl
  go_enter Tryz.func44, Tryz.ntmps44
  go_wp2_with fail
  go_ret
  exact ⟨rfl, Fr.refl _ _⟩

/-- Put, Get and Root. -/
def RSt.put (S : RSt) (b : List UInt8) (v : Value) : List UInt8 × Int × RSt :=
  if (S.read (fileK (nm b))).2 = 0 then (if (S.read (fileK (nm b))).1 = b then (nm b, 0, S) else ([], 31, S))
  else if (S.read (fileK (nm b))).2 = 12 then (if (S.write ⟨(fileK (nm b)).toArray⟩ v b).1 = 0 then (nm b, 0, (S.write ⟨(fileK (nm b)).toArray⟩ v b).2) else ([], (S.write ⟨(fileK (nm b)).toArray⟩ v b).1, (S.write ⟨(fileK (nm b)).toArray⟩ v b).2))
  else ([], (S.read (fileK (nm b))).2, S)

def RSt.getB (S : RSt) (x : List UInt8) : List UInt8 × Int :=
  if Sha.namedB x = false then ([], 1) else if (S.read (fileK x)).2 = 0 then (if nm (S.read (fileK x)).1 = x then ((S.read (fileK x)).1, 0) else ([], 3)) else ([], (S.read (fileK x)).2)

def RSt.rootB (S : RSt) : List UInt8 × Int :=
  if (S.read rootK).2 = 0 then (if Sha.namedB (S.read rootK).1 = true then ((S.read rootK).1, 0) else ([], 3)) else ([], (S.read rootK).2)

set_option maxHeartbeats 2000000 in
theorem rput_st {wi : World} {q : Nat} {N : Nat → Prop} {R : RSt} (h : RDisk wi q N R) (hR : R.fine) (v : Value) (b : List UInt8) (hv : Arg wi v b) (hn : ∀ n c, v = .slice none n c → c = 0) (hO : Out N v) (hu : used R.L < 35184372088832) (hb : b.length ≤ 90000) (hr0 : 0 ≤ R.room) (hr1 : R.room ≤ 9223372036854775807) :
    Calls Tryz.prog 11 #[.pointer (some ⟨q, 0, none⟩), v] wi fun e w' => ∃ v', e = .returned (.tuple #[.string ⟨(R.put b v').1.toArray⟩, .int .i64 (R.put b v').2.1]) ∧ RStepped N wi q (R.put b v').2.2 w' := by
  have hNm := rname_is hv hn hb
  obtain ⟨x, hx⟩ : ∃ x, nm b = x := ⟨_, rfl⟩
  have hxl : x.length = 64 := by rw [← hx]; exact nm_length b
  have hRd := fun wx (hx' : Fr None' wi wx) => rread_st (fileK x) (h.fresh hx') (by have := hR.len; omega) hu
  have hW := fun wx (hx' : Fr None' wi wx) (ha : Arg wx v b) => rwrite_any q N R ⟨(fileK x).toArray⟩ v b wx (h.fresh hx') hR (by rw [size_mk]; have := fileK_length hxl; have := max100; omega) ha.bytes hO hu (by omega) hr0 hr1
  unfold RSt.put
  rw [hx] at hNm ⊢
  obtain ⟨r1, hr1'⟩ : ∃ r, (R.read (fileK x)).1 = r := ⟨_, rfl⟩
  obtain ⟨r2, hr2⟩ : ∃ r, (R.read (fileK x)).2 = r := ⟨_, rfl⟩
  rw [hr1', hr2]
  rw [hr1', hr2] at hRd
  have HR : Hid _ := hRd
  have HW : Hid _ := hW
  clear hr1' hr2 hRd hW hr0 hr1
  have HV : Hid (Arg wi v b) := hv
  have HH : Hid (RDisk wi q N R) := h
  have HX : Hid (x.length = 64) := hxl
  clear hx hv h hR hO hxl hu hb
  go_enter Tryz.func11, Tryz.ntmps11
  go_wp2_with fail
  refine hNm.mono ?_
  rintro e w1 ⟨rfl, f1⟩
  clear hNm
  go_wp2_with fail
  refine (rFile_any x w1 HX.out).mono ?_
  rintro e w2 ⟨rfl, f2⟩
  have f02 := f1.then f2
  have hRd := HR.out w2 f02
  have V2 : Hid (Arg w2 v b) := HV.out.fresh f02
  clear f1 f2 HV HR
  go_wp2_with fail
  refine hRd.mono ?_
  rintro e w3 ⟨v3, rfl, d3, f3⟩
  have f03 := f02.then f3
  have V3 : Hid (Arg w3 v b) := V2.out.fresh f3
  clear hRd f3 V2 f02
  have s1 := str_any d3.bytes
  have s2 := str_any V3.out.bytes
  have hB := beq_lists r1 b
  generalize (⟨r1.toArray⟩ : ByteArray) = sr at s1 hB
  generalize (⟨b.toArray⟩ : ByteArray) = sb at s2 hB
  have HF : Hid (Fr None' wi w3) := f03
  clear d3 f03
  by_cases h0 : r2 = 0
  · subst h0
    by_cases h1 : r1 = b
    · rw [decide_eq_true h1] at hB
      subst h1
      go_wp2_with fail
      go_ret2
      exact ⟨by simp, by simpa using RStepped.same HH.out HF.out⟩
    · rw [decide_eq_false h1] at hB
      go_wp2_with fail
      go_ret2
      exact ⟨by simp, by simpa [h1] using RStepped.same HH.out HF.out⟩
  · clear s1 s2 hB
    by_cases h2 : r2 = 12
    · subst h2
      go_wp2_with fail
      refine (rFile_any x w3 HX.out).mono ?_
      rintro e w4 ⟨rfl, f4⟩
      have hW := HW.out w4 (HF.out.then f4) (V3.out.fresh f4)
      have HF4 : Hid (Fr None' wi w4) := HF.out.then f4
      clear f4 HW
      go_wp2_with fail
      refine hW.mono ?_
      rintro e w5 ⟨v5, rfl, L5⟩
      clear hW
      obtain ⟨c, hc⟩ : ∃ c, (R.write ⟨(fileK x).toArray⟩ v5 b).1 = c := ⟨_, rfl⟩
      rw [hc]
      have L6 : RStepped N wi q (R.write ⟨(fileK x).toArray⟩ v5 b).2 w5 := RStepped.early HF4.out L5
      clear L5
      by_cases hc0 : c = 0
      · subst hc0
        go_wp2
        go_ret2
        refine ⟨v5, ?_, ?_⟩
        · simp [hc]
        · simpa [hc] using L6
      · go_wp2
        go_ret2
        refine ⟨v5, ?_, ?_⟩
        · simp [hc, hc0]
        · simpa [hc, hc0] using L6
    · go_wp2
      go_ret2
      exact ⟨rfl, RStepped.same HH.out HF.out⟩

set_option maxHeartbeats 2000000 in
theorem rget_st {wi : World} {q : Nat} {N : Nat → Prop} {R : RSt} (h : RDisk wi q N R) (l : List UInt8) (hl : l.length ≤ maxLen) (hL : R.L.length ≤ 1000000000) (hu : used R.L < 35184372088832) (hb : ∀ t ∈ R.L, t.b.length ≤ 90000) :
    Calls Tryz.prog 13 #[.pointer (some ⟨q, 0, none⟩), .string ⟨l.toArray⟩] wi fun e w' => ∃ v, e = .returned (.tuple #[v, .int .i64 (R.getB l).2]) ∧ Data w' v (R.getB l).1 ∧ Fr None' wi w' := by
  have hN := rnamed_is l wi hl
  have HNil : ∀ w, Data w (.slice none 0 0) [] := fun w => Data.nil w
  unfold RSt.getB
  cases hnb : Sha.namedB l
  · rw [hnb] at hN
    clear h
    go_enter Tryz.func13, Tryz.ntmps13
    go_wp2_with fail
    refine hN.mono ?_
    rintro e w1 ⟨rfl, f1⟩
    clear hN
    go_wp2
    go_ret2
    exact ⟨_, rfl, HNil _, f1⟩
  · rw [hnb] at hN
    have hxl := namedB_length hnb
    have HX : Hid (l.length = 64) := hxl
    have hR := fun wx (hx' : Fr None' wi wx) => rread_st (fileK l) (h.fresh hx') hL hu
    have hlen : (R.read (fileK l)).1.length ≤ 90000 := by
      unfold RSt.read
      split
      · simp
      · split
        · simp
        · rename_i t ht
          exact hb t (get_mem ht).1
    obtain ⟨r1, hr1⟩ : ∃ r, (R.read (fileK l)).1 = r := ⟨_, rfl⟩
    obtain ⟨r2, hr2⟩ : ∃ r, (R.read (fileK l)).2 = r := ⟨_, rfl⟩
    rw [hr1, hr2]
    rw [hr1, hr2] at hR
    rw [hr1] at hlen
    have HR : Hid _ := hR
    have HE : Hid (r1.length ≤ 90000) := hlen
    clear hr1 hr2 hR hlen hxl
    clear h hu hb hl hnb hL
    go_enter Tryz.func13, Tryz.ntmps13
    go_wp2_with fail
    refine hN.mono ?_
    rintro e w1 ⟨rfl, f1⟩
    clear hN
    go_wp2_with fail
    refine (rFile_any l w1 HX.out).mono ?_
    rintro e w2 ⟨rfl, f2⟩
    have f02 := f1.then f2
    have hR := HR.out w2 f02
    clear f1 f2 HR
    go_wp2_with fail
    refine hR.mono ?_
    rintro e w3 ⟨v3, rfl, d3, f3⟩
    have f03 := f02.then f3
    clear hR f02 f3
    by_cases h0 : r2 = 0
    · subst h0
      have hM := rname_is d3.arg d3.nilcap HE.out
      have hB := beq_lists (nm r1) l
      generalize hsx : (⟨(nm r1).toArray⟩ : ByteArray) = sx at hM hB
      generalize hsl : (⟨l.toArray⟩ : ByteArray) = sl at hB ⊢
      clear hsx hsl
      by_cases h1 : nm r1 = l
      · rw [decide_eq_true h1] at hB
        go_wp2_with fail
        refine hM.mono ?_
        rintro e w4 ⟨rfl, f4⟩
        clear hM
        go_wp2
        go_ret2
        refine ⟨v3, ?_, ?_, f03.then f4⟩
        · simp
        · simpa [h1] using d3.fresh f4
      · rw [decide_eq_false h1] at hB
        go_wp2_with fail
        refine hM.mono ?_
        rintro e w4 ⟨rfl, f4⟩
        clear hM
        go_wp2
        go_ret2
        refine ⟨.slice none 0 0, ?_, ?_, f03.then f4⟩
        · simp
        · simpa [h1] using HNil _
    · go_wp2
      go_ret2
      refine ⟨.slice none 0 0, ?_, ?_, f03⟩
      · simp
      · simpa [h0] using HNil _

set_option maxHeartbeats 2000000 in
theorem rroot_st {wi : World} {q : Nat} {N : Nat → Prop} {R : RSt} (h : RDisk wi q N R) (hL : R.L.length ≤ 1000000000) (hu : used R.L < 35184372088832) (hb : ∀ t ∈ R.L, t.b.length ≤ 90000) :
    Calls Tryz.prog 17 #[.pointer (some ⟨q, 0, none⟩)] wi fun e w' => e = .returned (.tuple #[.string ⟨R.rootB.1.toArray⟩, .int .i64 R.rootB.2]) ∧ Fr None' wi w' := by
  have hR := rread_st rootK h hL hu
  have hlen : (R.read rootK).1.length ≤ 90000 := by
    unfold RSt.read
    split
    · simp
    · split
      · simp
      · rename_i t ht
        exact hb t (get_mem ht).1
  unfold RSt.rootB
  obtain ⟨r1, hr1⟩ : ∃ r, (R.read rootK).1 = r := ⟨_, rfl⟩
  obtain ⟨r2, hr2⟩ : ∃ r, (R.read rootK).2 = r := ⟨_, rfl⟩
  rw [hr1, hr2] at hR
  rw [hr1] at hlen
  rw [hr1, hr2]
  clear h hu hb hr1 hr2 hL
  go_enter Tryz.func17, Tryz.ntmps17
  go_wp2_with fail
  refine hR.mono ?_
  rintro e w1 ⟨v1, rfl, d1, f1⟩
  clear hR
  by_cases h0 : r2 = 0
  · subst h0
    have hC := str_any d1.bytes
    have hN := rnamed_is r1 w1 (by unfold maxLen; omega)
    have HD : Hid (Data w1 v1 r1) := d1
    clear d1
    cases hnb : Sha.namedB r1
    · rw [hnb] at hN
      go_wp2_with fail
      refine hN.mono ?_
      rintro e w2 ⟨rfl, f2⟩
      clear hN
      go_wp2
      go_ret2
      exact ⟨by simp, f1.then f2⟩
    · rw [hnb] at hN
      go_wp2_with fail
      refine hN.mono ?_
      rintro e w2 ⟨rfl, f2⟩
      clear hN hC
      have hC := str_any (HD.out.fresh f2).bytes
      go_wp2
      go_ret2
      exact ⟨by simp, f1.then f2⟩
  · go_wp2
    go_ret2
    exact ⟨by simp, f1⟩
end Go.Proofs.YtnmghgbpgpaomaaGreat

namespace Go.Proofs.YtnmghgbpgpaomaaGreat
open Go.RowKit Go.Maps Go.WideMaps
set_option maxRecDepth 100000

/-- Step j of SetRoot; the disk behind j of them; SetRoot. -/
def RSt.stepAt (x : List UInt8) (v : Value) (j : Nat) (T : RSt) : Int × RSt :=
  match j with
  | 1 => T.write ⟨newK.toArray⟩ v x
  | 3 => T.rename ⟨newK.toArray⟩ ⟨rootK.toArray⟩
  | _ => T.sync

def RSt.after (S : RSt) (x : List UInt8) (v : Value) : Nat → RSt
  | 0 => S
  | j + 1 => (RSt.stepAt x v j (RSt.after S x v j)).2

def REnded (S : RSt) (x : List UInt8) (v : Value) (r : Int) (T : RSt) : Prop :=
  ∃ j, j ≤ 5 ∧ (∀ i, i < j → (RSt.stepAt x v i (RSt.after S x v i)).1 = 0) ∧ ((j = 5 ∧ r = 0 ∧ T = RSt.after S x v 5) ∨ (j < 5 ∧ r = (RSt.stepAt x v j (RSt.after S x v j)).1 ∧ r ≠ 0 ∧ T = RSt.after S x v (j + 1)))

theorem RDisk.lt {w : World} {p : Nat} {M : Nat → Prop} {R : RSt} (h : RDisk w p M R) {k : Nat} (hk : M k) : k < w.heap.size := by
  obtain ⟨c, e, f, h1, _⟩ := h.held k hk
  exact lt_of_some h1

theorem out_newR {w : World} {p : Nat} {M : Nat → Prop} {R : RSt} (h : RDisk w p M R) (n c : Nat) : Out M (.slice (some ⟨w.heap.size, 0, none⟩) n c) := by
  intro ad n' c' e _ hm
  cases e
  have := h.lt hm
  simp at this

/-- A state that the walk may go on from. -/
structure RSt.ready (R : RSt) : Prop where
  fine : R.fine
  used : used R.L < 35184372088832
  r0 : 0 ≤ R.room
  r1 : R.room ≤ 9223372036854775807

/-- One step more. -/
theorem all_next {P : Nat → Prop} {j : Nat} (h : ∀ i, i < j → P i) (hj : P j) : ∀ i, i < j + 1 → P i := fun i hi => by
  by_cases e : i = j
  · subst e; exact hj
  · exact h i (by omega)

set_option maxHeartbeats 2000000 in
theorem rsetNo_st {wi : World} {q : Nat} (l : List UInt8) (hl : l.length ≤ maxLen) (hn : Sha.namedB l = false) :
    Calls Tryz.prog 15 #[.pointer (some ⟨q, 0, none⟩), .string ⟨l.toArray⟩] wi fun e w' => e = .returned (.int .i64 1) ∧ Fr None' wi w' := by
  have hN := rnamed_is l wi hl
  rw [hn] at hN
  generalize (⟨l.toArray⟩ : ByteArray) = s at hN ⊢
  clear hl hn
  go_enter Tryz.func15, Tryz.ntmps15
  go_wp2_with fail
  refine hN.mono ?_
  rintro e w1 ⟨rfl, f1⟩
  clear hN
  go_wp2
  go_ret
  exact ⟨rfl, f1⟩

set_option maxHeartbeats 4000000 in
theorem rsetYes_st {wi : World} {q : Nat} {N : Nat → Prop} {R : RSt} (h : RDisk wi q N R) (l : List UInt8) (hn : Sha.namedB l = true) (hr : ∀ v j, j ≤ 5 → (R.after l v j).ready) :
    Calls Tryz.prog 15 #[.pointer (some ⟨q, 0, none⟩), .string ⟨l.toArray⟩] wi fun e w' => ∃ v r T, e = .returned (.int .i64 r) ∧ REnded R l v r T ∧ RStepped N wi q T w' := by
  have hl := namedB_length hn
  have hN := rnamed_is l wi (by rw [hl]; decide)
  rw [hn] at hN
  have HR : Hid _ := hr
  have HD : Hid (RDisk wi q N R ∧ l.length = 64) := ⟨h, hl⟩
  clear h hr hn hl
  go_enter Tryz.func15, Tryz.ntmps15
  go_wp2_with fail
  refine hN.mono ?_
  rintro e w1 ⟨rfl, f1⟩
  clear hN
  have T0 : Hid (RStepped N wi q (R.after l (.slice none 0 0) 0) w1) := RStepped.same HD.out.1 f1
  have A0 : Hid (∀ i, i < 0 → (RSt.stepAt l (.slice none 0 0) i (R.after l (.slice none 0 0) i)).1 = 0) := fun i hi => by omega
  clear f1
  obtain ⟨N0, d0, g0, m0⟩ := T0.out
  have hc0 := rsync_any q N0 (R.after l (.slice none 0 0) 0) w1 d0 (HR.out (.slice none 0 0) 0 (by omega)).fine
  have G0 : Hid (Fr N wi w1 ∧ ∀ k, N0 k → N k ∨ wi.heap.size ≤ k) := ⟨g0, m0⟩
  clear d0 g0 m0 T0
  go_wp2_with fail
  refine hc0.mono ?_
  rintro e w2 ⟨rfl, s0⟩
  clear hc0
  have T1 : Hid (RStepped N wi q (R.after l (.slice none 0 0) 1) w2) := RStepped.next G0.out.1 G0.out.2 s0
  have B0 := A0
  obtain ⟨c0, hc0⟩ : ∃ c, (RSt.stepAt l (.slice none 0 0) 0 (R.after l (.slice none 0 0) 0)).1 = c := ⟨_, rfl⟩
  have hx0 : ((R.after l (.slice none 0 0) 0).sync).1 = c0 := hc0
  rw [hx0]
  clear s0 hx0 G0 A0
  by_cases z0 : c0 = 0
  case neg =>
    go_wp2
    go_ret
    exact ⟨(.slice none 0 0), c0, _, rfl, ⟨0, by omega, B0.out, Or.inr ⟨by omega, hc0.symm, z0, rfl⟩⟩, T1.out⟩
  subst z0
  have A1 : Hid (∀ i, i < 1 → (RSt.stepAt l (.slice none 0 0) i (R.after l (.slice none 0 0) i)).1 = 0) := all_next B0.out hc0
  clear B0 hc0
  obtain ⟨N1, d1, g1, m1⟩ := T1.out
  obtain ⟨cc, wc, hcv, hb, fc⟩ := conv_str w2 l
  have hc1 := rwrite_any q N1 (R.after l (.slice none 0 0) 1) ⟨newK.toArray⟩ _ l wc (d1.fresh fc) (HR.out (.slice none 0 0) 1 (by omega)).fine (by rw [size_mk]; have := max100; unfold newK; simp; omega) hb (out_newR d1 _ _) (HR.out (.slice none 0 0) 1 (by omega)).used (by have := HD.out.2; omega) (HR.out (.slice none 0 0) 1 (by omega)).r0 (HR.out (.slice none 0 0) 1 (by omega)).r1
  have G1 : Hid (Fr N wi w2 ∧ (∀ k, N1 k → N k ∨ wi.heap.size ≤ k) ∧ Fr None' w2 wc) := ⟨g1, m1, fc⟩
  clear d1 g1 m1 hb fc T1
  go_wp2_with fail
  refine hc1.mono ?_
  rintro e w3 ⟨v', rfl, s1⟩
  clear hc1
  have T2 : Hid (RStepped N wi q (R.after l v' 2) w3) := RStepped.next G1.out.1 G1.out.2.1 (RStepped.early G1.out.2.2 s1)
  have B1 : Hid (∀ i, i < 1 → (RSt.stepAt l v' i (R.after l v' i)).1 = 0) := fun i hi => by
    obtain rfl : i = 0 := by omega
    exact A1.out 0 (by omega)
  obtain ⟨c1, hc1⟩ : ∃ c, (RSt.stepAt l v' 1 (R.after l v' 1)).1 = c := ⟨_, rfl⟩
  have hx1 : ((R.after l (.slice none 0 0) 1).write ⟨newK.toArray⟩ v' l).1 = c1 := hc1
  rw [hx1]
  clear s1 hx1 G1 A1
  by_cases z1 : c1 = 0
  case neg =>
    go_wp2
    go_ret
    exact ⟨v', c1, _, rfl, ⟨1, by omega, B1.out, Or.inr ⟨by omega, hc1.symm, z1, rfl⟩⟩, T2.out⟩
  subst z1
  have A2 : Hid (∀ i, i < 2 → (RSt.stepAt l v' i (R.after l v' i)).1 = 0) := all_next B1.out hc1
  clear B1 hc1
  obtain ⟨N2, d2, g2, m2⟩ := T2.out
  have hc2 := rsync_any q N2 (R.after l v' 2) w3 d2 (HR.out v' 2 (by omega)).fine
  have G2 : Hid (Fr N wi w3 ∧ ∀ k, N2 k → N k ∨ wi.heap.size ≤ k) := ⟨g2, m2⟩
  clear d2 g2 m2 T2
  go_wp2_with fail
  refine hc2.mono ?_
  rintro e w4 ⟨rfl, s2⟩
  clear hc2
  have T3 : Hid (RStepped N wi q (R.after l v' 3) w4) := RStepped.next G2.out.1 G2.out.2 s2
  have B2 := A2
  obtain ⟨c2, hc2⟩ : ∃ c, (RSt.stepAt l v' 2 (R.after l v' 2)).1 = c := ⟨_, rfl⟩
  have hx2 : ((R.after l v' 2).sync).1 = c2 := hc2
  rw [hx2]
  clear s2 hx2 G2 A2
  by_cases z2 : c2 = 0
  case neg =>
    go_wp2
    go_ret
    exact ⟨v', c2, _, rfl, ⟨2, by omega, B2.out, Or.inr ⟨by omega, hc2.symm, z2, rfl⟩⟩, T3.out⟩
  subst z2
  have A3 : Hid (∀ i, i < 3 → (RSt.stepAt l v' i (R.after l v' i)).1 = 0) := all_next B2.out hc2
  clear B2 hc2
  obtain ⟨N3, d3, g3, m3⟩ := T3.out
  have hc3 := rrename_any q N3 (R.after l v' 3) ⟨newK.toArray⟩ ⟨rootK.toArray⟩ w4 d3 (HR.out v' 3 (by omega)).fine (by rw [size_mk]; have := max100; unfold rootK; simp; omega)
  have G3 : Hid (Fr N wi w4 ∧ ∀ k, N3 k → N k ∨ wi.heap.size ≤ k) := ⟨g3, m3⟩
  clear d3 g3 m3 T3
  go_wp2_with fail
  refine hc3.mono ?_
  rintro e w5 ⟨rfl, s3⟩
  clear hc3
  have T4 : Hid (RStepped N wi q (R.after l v' 4) w5) := RStepped.next G3.out.1 G3.out.2 s3
  have B3 := A3
  obtain ⟨c3, hc3⟩ : ∃ c, (RSt.stepAt l v' 3 (R.after l v' 3)).1 = c := ⟨_, rfl⟩
  have hx3 : ((R.after l v' 3).rename ⟨newK.toArray⟩ ⟨rootK.toArray⟩).1 = c3 := hc3
  rw [hx3]
  clear s3 hx3 G3 A3
  by_cases z3 : c3 = 0
  case neg =>
    go_wp2
    go_ret
    exact ⟨v', c3, _, rfl, ⟨3, by omega, B3.out, Or.inr ⟨by omega, hc3.symm, z3, rfl⟩⟩, T4.out⟩
  subst z3
  have A4 : Hid (∀ i, i < 4 → (RSt.stepAt l v' i (R.after l v' i)).1 = 0) := all_next B3.out hc3
  clear B3 hc3
  obtain ⟨N4, d4, g4, m4⟩ := T4.out
  have hc4 := rsync_any q N4 (R.after l v' 4) w5 d4 (HR.out v' 4 (by omega)).fine
  have G4 : Hid (Fr N wi w5 ∧ ∀ k, N4 k → N k ∨ wi.heap.size ≤ k) := ⟨g4, m4⟩
  clear d4 g4 m4 T4
  go_wp2_with fail
  refine hc4.mono ?_
  rintro e w6 ⟨rfl, s4⟩
  clear hc4
  have T5 : Hid (RStepped N wi q (R.after l v' 5) w6) := RStepped.next G4.out.1 G4.out.2 s4
  have B4 := A4
  obtain ⟨c4, hc4⟩ : ∃ c, (RSt.stepAt l v' 4 (R.after l v' 4)).1 = c := ⟨_, rfl⟩
  have hx4 : ((R.after l v' 4).sync).1 = c4 := hc4
  rw [hx4]
  clear s4 hx4 G4 A4
  by_cases z4 : c4 = 0
  case neg =>
    go_wp2
    go_ret
    exact ⟨v', c4, _, rfl, ⟨4, by omega, B4.out, Or.inr ⟨by omega, hc4.symm, z4, rfl⟩⟩, T5.out⟩
  subst z4
  have A5 : Hid (∀ i, i < 5 → (RSt.stepAt l v' i (R.after l v' i)).1 = 0) := all_next B4.out hc4
  clear B4 hc4
  go_wp2
  go_ret
  exact ⟨v', 0, _, rfl, ⟨5, by omega, A5.out, Or.inl ⟨rfl, rfl, rfl⟩⟩, T5.out⟩
end Go.Proofs.YtnmghgbpgpaomaaGreat

namespace Go.Proofs.YtnmghgbpgpaomaaGreat
open Go.RowKit Go.Maps Go.WideMaps
set_option maxRecDepth 100000

def RSt.one (S : RSt) : Option (List UInt8) → Int × RSt
  | none => S.sync
  | some k => S.remove ⟨k.toArray⟩

def RSt.run (S : RSt) : List (Option (List UInt8)) → Int × RSt
  | [] => (0, S)
  | o :: r => if (S.one o).1 = 0 then (S.one o).2.run r else S.one o

def RSt.sweep (S : RSt) (ns : List (List UInt8)) : Int × RSt := S.run (stepsOf ns (S.L.map fun t => t.k))

theorem RSt.run_snoc {T : RSt} {o : Option (List UInt8)} : ∀ {os : List (Option (List UInt8))} {S : RSt}, S.run os = (0, T) → S.run (os ++ [o]) = T.one o
  | [], S, h => by
    have e : S = T := by simpa [RSt.run] using h
    subst e
    simp only [List.nil_append, RSt.run]
    split
    · rename_i h0
      rw [← h0]
    · rfl
  | x :: r, S, h => by
    simp only [List.cons_append, RSt.run] at h ⊢
    split at h
    · rename_i h0
      rw [if_pos h0]
      exact RSt.run_snoc h
    · rename_i h0
      rw [h] at h0
      exact absurd rfl h0

theorem RSt.run_stop {T : RSt} {e : Int} (he : e ≠ 0) (r : List (Option (List UInt8))) : ∀ {os : List (Option (List UInt8))} {S : RSt}, S.run os = (e, T) → S.run (os ++ r) = (e, T)
  | [], S, h => by
    simp only [RSt.run, Prod.mk.injEq] at h
    exact absurd h.1.symm he
  | x :: q, S, h => by
    simp only [List.cons_append, RSt.run] at h ⊢
    split at h
    · rename_i h0
      rw [if_pos h0]
      exact RSt.run_stop he r h
    · rename_i h0
      rw [if_neg h0]
      exact h

/-- Those that go, up to the one that cannot. -/
theorem gone_prefix (ns : List (List UInt8)) (L : List Tri) (j : Nat) : ∃ r, goneOf ns (L.map fun t => t.k) = goneOf ns ((L.take j).map fun t => t.k) ++ r := by
  refine ⟨goneOf ns ((L.drop j).map fun t => t.k), ?_⟩
  unfold goneOf
  rw [← List.filter_append, ← List.map_append, List.take_append_drop]

theorem kept_next {ns : List (List UInt8)} {m : Nat} {x y : List UInt8} (h : ns[m]? = some x) : y ∈ keptL (ns.take (m + 1)) ↔ y ∈ keptL (ns.take m) ∨ (Sha.namedB x = true ∧ fileK x = y) := by
  rw [keptL_snoc h, List.mem_append]
  cases Sha.namedB x <;> simp [eq_comm]

/-- A world in which all of w lies as it was. -/
structure FrW (w : World) where
  to : World
  fr : Fr None' w to

instance (w : World) : Inhabited (FrW w) := ⟨⟨w, Fr.refl _ _⟩⟩

end Go.Proofs.YtnmghgbpgpaomaaGreat

namespace Go.Proofs.YtnmghgbpgpaomaaGreat
open Go.RowKit Go.Maps Go.WideMaps
set_option maxRecDepth 100000

attribute [local irreducible] wpQuiet

set_option maxHeartbeats 8000000 in
theorem rsweep_st (q g c : Nat) (N : Nat → Prop) (R : RSt) (ns : List (List UInt8)) (w : World) (h : RDisk w q N R) (hr : ∀ j, (R.run ((goneOf ns ((R.L.take j).map fun t => t.k)).map some)).2.ready) (hc : ∀ j x, ns[j]? = some x → w.cell? ⟨g, j, none⟩ = some (.string ⟨x.toArray⟩)) (hg : g < w.heap.size) (hN : ¬ N g) (hn : ns.length ≤ 1000) (hm : ∀ x ∈ ns, x.length ≤ maxLen) :
    Calls Tryz.prog 19 #[.pointer (some ⟨q, 0, none⟩), .slice (some ⟨g, 0, none⟩) ns.length c] w fun e w' => e = .returned (.int .i64 (R.sweep ns).1) ∧ RStepped N w q (R.sweep ns).2 w' := by
  have hD := h
  obtain ⟨vL, vO, vC, hA, hNe⟩ := h
  obtain ⟨_, c1, _⟩ := hA.cells
  have hres := hA.files
  obtain ⟨la, lc, rfl, _⟩ := hA.files.cells
  have hlI : (R.L.length : Int) ≤ 400000000 := by have := (hr 0).fine.len; simp [goneOf, RSt.run] at this; omega
  have HR : Hid _ := hr
  have HD : Hid (RDisk w q N R ∧ FilesRes w (.slice la R.L.length lc) R.L) := ⟨hD, hres⟩
  clear hr hA hD hres
  go_enter Tryz.func19, Tryz.ntmps19
  go_wp2_with fail
  go_loopw [6, 7] (fun gn i wr => ∃ (j : Nat) (T : RSt), j ≤ R.L.length ∧ i = .int .i64 j ∧ gn = .bool (decide (goneOf ns ((R.L.take j).map fun t => t.k) ≠ [])) ∧ R.run ((goneOf ns ((R.L.take j).map fun t => t.k)).map some) = (0, T) ∧ RStepped N w q T wr) (fun _ i _ => R.L.length - (intOf i).toNat)
  case atStart => exact ⟨0, R, Nat.zero_le _, rfl, rfl, rfl, RStepped.same HD.out.1 (Fr.refl _ _)⟩
  case round =>
    obtain ⟨j, T, hj, rfl, rfl, hrun, hst⟩ := hrel
    by_cases hlt : j < R.L.length
    · obtain ⟨t, ht⟩ : ∃ t, R.L[j]? = some t := ⟨R.L[j], by simp [hlt]⟩
      obtain ⟨N1, d1, f1, m1⟩ := hst
      obtain ⟨la', lc', hle, hcs⟩ := (f1.otherFiles HD.out.1.held.still HD.out.2).cells
      cases hle
      obtain ⟨gf, rfl, e1, e2, _⟩ := hcs j t ht
      have i0' : (0 : Int) ≤ (j : Int) := by omega
      have i1' : (j : Int) < (R.L.length : Int) := by omega
      have hT : T.ready := by
        have := HR.out j
        rw [hrun] at this
        exact this
      have hgs := gone_snoc (ns := ns) ht
      have hgf := lt_of_cell e1
      have hgw := Nat.lt_of_lt_of_le hg f1.size
      have hcr : ∀ m x, ns[m]? = some x → wr.cell? ⟨g, m, none⟩ = some (.string ⟨x.toArray⟩) := fun m x hx => (World.cell?_of_block (w := w) (a := ⟨g, m, none⟩) (f1.block g hg hN)).trans (hc m x hx)
      have HJ : Hid (j + 1 ≤ R.L.length ∧ goneOf ns ((R.L.take (j + 1)).map fun t => t.k) = goneOf ns ((R.L.take j).map fun t => t.k) ++ (if t.k ∈ keptS ns then [] else [t.k]) ∧ R.run ((goneOf ns ((R.L.take j).map fun t => t.k)).map some) = (0, T)) := ⟨hlt, hgs, hrun⟩
      have HS : Hid (RDisk wr q N1 T ∧ Fr N w wr ∧ (∀ k, N1 k → N k ∨ w.heap.size ≤ k) ∧ T.ready) := ⟨d1, f1, m1, hT⟩
      have HP : Hid (∃ r, goneOf ns (R.L.map fun t => t.k) = goneOf ns ((R.L.take (j + 1)).map fun t => t.k) ++ r) := gone_prefix ns R.L (j + 1)
      clear hcs hrun hgs ht hlt hj d1 f1 m1 hT hc
      obtain ⟨wo, rfl⟩ : ∃ wo, wo = wr := ⟨wr, rfl⟩
      go_wp2_with fail
      go_loopw [8, 9] (fun is k wx => ∃ m : Nat, m ≤ ns.length ∧ k = .int .i64 m ∧ is = .bool (decide (t.k ∈ keptL (ns.take m))) ∧ Fr None' wo wx) (fun _ k _ => ns.length - (intOf k).toNat)
      case atStart =>
        refine ⟨0, Nat.zero_le _, rfl, ?_, Fr.refl _ _⟩
        refine congrArg Value.bool ?_
        rw [Bool.eq_iff_iff]
        simp [keptL, rootK]
      case round =>
        obtain ⟨m, hml, rfl, rfl, fx⟩ := hrel
        by_cases hlm : m < ns.length
        · obtain ⟨x, hx⟩ : ∃ x, ns[m]? = some x := ⟨ns[m], by simp [hlm]⟩
          have cx : wr.cell? ⟨g, m, none⟩ = some (.string ⟨x.toArray⟩) := (World.cell?_of_block (w := wo) (a := ⟨g, m, none⟩) (fx.block g hgw (fun e => e))).trans (hcr m x hx)
          have ex : wr.cell? ⟨gf, j * 2, none⟩ = some (.string ⟨t.k.toArray⟩) := (World.cell?_of_block (w := wo) (a := ⟨gf, j * 2, none⟩) (fx.block gf hgf (fun e => e))).trans e1
          have hkn := kept_next (y := t.k) hx
          have hxm := hm x (List.mem_of_getElem? hx)
          have k0' : (0 : Int) ≤ (m : Int) := by omega
          have k1' : (m : Int) < (ns.length : Int) := by omega
          have HK : Hid ((t.k ∈ keptL (ns.take (m + 1)) ↔ t.k ∈ keptL (ns.take m) ∨ (Sha.namedB x = true ∧ fileK x = t.k)) ∧ m + 1 ≤ ns.length ∧ Fr None' wo wr) := ⟨hkn, hlm, fx⟩
          have hnI : (ns.length : Int) ≤ 1000 := by omega
          have K1 : ∀ y : FrW wr, y.to.cell? ⟨g, m, none⟩ = some (.string ⟨x.toArray⟩) := fun y => y.fr.cell cx
          have K2 : ∀ y : FrW wr, y.to.cell? ⟨gf, j * 2, none⟩ = some (.string ⟨t.k.toArray⟩) := fun y => y.fr.cell ex
          clear hkn hx hml hlm hcr cx ex fx HR HD HJ HS HP hm hN hg hn e1 e2 hgf hgw c1 hNe hlI
          generalize decide (goneOf ns (List.map (fun t => t.k) (List.take j R.L)) ≠ []) = gb
          generalize (t.k == [114, 111, 111, 116]) = eb
          by_cases hin : t.k ∈ keptL (ns.take m)
          · rw [decide_eq_true hin]
            go_wp2_with fail
            refine wp_region_quiet (C := fun w' => ∃ y : FrW wr, w' = y.to) (by kernel_rfl) (by kernel_rfl) ⟨⟨_, Fr.drew None' wr⟩, rfl⟩ ?_
            simp only
            repeat (quiet_step (first | (go_at_call 47; fail)))
            refine wpQuiet_nil ?_
            intro w10 hw10
            obtain ⟨y, rfl⟩ := hw10
            clear K1 K2
            go_wp2_with fail
            go_roundw
            case rel => exact ⟨m + 1, HK.out.2.1, by go_num, by rw [decide_eq_true (HK.out.1.2 (Or.inl hin))], HK.out.2.2.then y.fr⟩
            case measure => simp [intOf]; have := HK.out.2.1; omega
          · rw [decide_eq_false hin]
            cases hb : Sha.namedB x
            · have U1 : ∀ y : FrW wr, Calls Tryz.prog 47 #[.string ⟨x.toArray⟩] y.to fun e w' => e = .returned (.bool false) ∧ ∃ z : FrW wr, w' = z.to := fun y => (rnamed_is x y.to hxm).mono fun _ _ ⟨e1, hf⟩ => ⟨by rw [e1, hb], ⟨⟨_, y.fr.then hf⟩, rfl⟩⟩
              go_wp2_with fail
              refine wp_region_quiet (C := fun w' => ∃ y : FrW wr, w' = y.to) (by kernel_rfl) (by kernel_rfl) ⟨⟨_, Fr.drew None' wr⟩, rfl⟩ ?_
              simp only
              repeat (quiet_step (first | (go_at_call 47; exact U1 _)))
              refine wpQuiet_nil ?_
              intro w10 hw10
              obtain ⟨y, rfl⟩ := hw10
              clear K1 K2 U1
              go_wp2_with fail
              go_roundw
              case rel => exact ⟨m + 1, HK.out.2.1, by go_num, by rw [decide_eq_false (fun e => by rcases HK.out.1.1 e with e | e; exact hin e; rw [hb] at e; cases e.1)], HK.out.2.2.then y.fr⟩
              case measure => simp [intOf]; have := HK.out.2.1; omega
            · have hxl := namedB_length hb
              have U1 : ∀ y : FrW wr, Calls Tryz.prog 47 #[.string ⟨x.toArray⟩] y.to fun e w' => e = .returned (.bool true) ∧ ∃ z : FrW wr, w' = z.to := fun y => (rnamed_is x y.to hxm).mono fun _ _ ⟨e1, hf⟩ => ⟨by rw [e1, hb], ⟨⟨_, y.fr.then hf⟩, rfl⟩⟩
              have U2 : ∀ y : FrW wr, Calls Tryz.prog 44 #[.string ⟨x.toArray⟩] y.to fun e w' => e = .returned (.string ⟨(fileK x).toArray⟩) ∧ ∃ z : FrW wr, w' = z.to := fun y => (rFile_any x y.to hxl).mono fun _ _ ⟨e1, hf⟩ => ⟨e1, ⟨⟨_, y.fr.then hf⟩, rfl⟩⟩
              go_wp2_with fail
              refine wp_region_quiet (C := fun w' => ∃ y : FrW wr, w' = y.to) (by kernel_rfl) (by kernel_rfl) ⟨⟨_, Fr.drew None' wr⟩, rfl⟩ ?_
              simp only
              repeat (quiet_step (first | (go_at_call 47; exact U1 _) | (go_at_call 44; exact U2 _)))
              refine wpQuiet_nil ?_
              intro w10 hw10
              obtain ⟨y, rfl⟩ := hw10
              clear K1 K2 U1 U2
              go_wp2_with fail
              go_roundw
              case rel =>
                refine ⟨m + 1, HK.out.2.1, by go_num, ?_, HK.out.2.2.then y.fr⟩
                refine congrArg Value.bool ?_
                rw [Bool.eq_iff_iff]
                have := HK.out.1
                simp [this, hin, hb]
              case measure => simp [intOf]; have := HK.out.2.1; omega
        · have hml' : m = ns.length := by omega
          subst hml'
          rw [List.take_of_length_le (Nat.le_refl _)]
          obtain ⟨q1, q2, q3⟩ := HJ.out
          have ex : wr.cell? ⟨gf, j * 2, none⟩ = some (.string ⟨t.k.toArray⟩) := (World.cell?_of_block (w := wo) (a := ⟨gf, j * 2, none⟩) (fx.block gf hgf (fun e => e))).trans e1
          obtain ⟨s1, s2, s3, s4⟩ := HS.out
          by_cases hin : t.k ∈ keptL ns
          · rw [decide_eq_true hin]
            rw [if_pos ((keptS_mem ns _).2 hin), List.append_nil] at q2
            have HQ : Hid (j + 1 ≤ R.L.length ∧ goneOf ns ((R.L.take (j + 1)).map fun t => t.k) = goneOf ns ((R.L.take j).map fun t => t.k) ∧ R.run ((goneOf ns ((R.L.take j).map fun t => t.k)).map some) = (0, T) ∧ RStepped N w q T wr) := ⟨q1, q2, q3, N1, s1.fresh fx, s2.trans fx (fun _ e => e.elim), s3⟩
            clear q1 q2 q3 s1 s2 s3 s4
            go_wp2_with fail
            go_roundw
            case rel =>
              obtain ⟨q1, q2, q3, q4⟩ := HQ.out
              exact ⟨j + 1, T, q1, by go_num, by rw [q2], by rw [q2]; exact q3, q4⟩
            case measure => simp [intOf]; have := HQ.out.1; omega
          · rw [decide_eq_false hin]
            rw [if_neg (fun e => hin ((keptS_mem ns _).1 e))] at q2
            have hcl := rremove_any q N1 T ⟨t.k.toArray⟩ wr (s1.fresh fx) s4.fine
            have q5 : R.run ((goneOf ns ((R.L.take (j + 1)).map fun t => t.k)).map some) = T.one (some t.k) := by
              rw [q2, List.map_append]
              exact RSt.run_snoc q3
            have q6 : (T.one (some t.k)).1 ≠ 0 → R.sweep ns = T.one (some t.k) := fun hne => by
              obtain ⟨r, hr⟩ := HP.out
              have h1 : goneOf ns (R.L.map fun t => t.k) ≠ [] := by rw [hr, q2]; simp
              unfold RSt.sweep stepsOf
              rw [if_neg h1, hr, List.map_append, List.append_assoc]
              exact RSt.run_stop (T := (T.one (some t.k)).2) hne _ q5
            have HQ : Hid (j + 1 ≤ R.L.length ∧ goneOf ns ((R.L.take (j + 1)).map fun t => t.k) = goneOf ns ((R.L.take j).map fun t => t.k) ++ [t.k] ∧ R.run ((goneOf ns ((R.L.take (j + 1)).map fun t => t.k)).map some) = T.one (some t.k) ∧ ((T.one (some t.k)).1 ≠ 0 → R.sweep ns = T.one (some t.k)) ∧ Fr N w wr ∧ ∀ k, N1 k → N k ∨ w.heap.size ≤ k) := ⟨q1, q2, q5, q6, s2.trans fx (fun _ e => e.elim), s3⟩
            clear q1 q2 q3 q5 q6 s1 s2 s3 s4
            go_wp2_with fail
            refine hcl.mono ?_
            rintro e w4 ⟨rfl, hs4⟩
            clear hcl
            have hs5 : RStepped N w q (T.one (some t.k)).2 w4 := RStepped.next HQ.out.2.2.2.2.1 HQ.out.2.2.2.2.2 hs4
            clear hs4
            obtain ⟨c4, hc4⟩ : ∃ c, (T.one (some t.k)).1 = c := ⟨_, rfl⟩
            have hx4 : (T.remove ⟨t.k.toArray⟩).1 = c4 := hc4
            rw [hx4]
            clear hx4
            by_cases hz : c4 = 0
            · subst hz
              go_wp2_with fail
              go_roundw
              case rel =>
                obtain ⟨q1, q2, q3, q4, _⟩ := HQ.out
                refine ⟨j + 1, (T.one (some t.k)).2, q1, by go_num, ?_, by rw [q3, ← hc4], hs5⟩
                rw [q2]
                simp
              case measure => simp [intOf]; have := HQ.out.1; omega
            · go_wp2_with fail
              go_ret
              obtain ⟨q1, q2, q3, q4, _⟩ := HQ.out
              rw [hc4] at q4
              rw [q4 hz]
              exact ⟨by rw [hc4]; rfl, hs5⟩
    · have hjl : j = R.L.length := by omega
      subst hjl
      rw [List.take_of_length_le (Nat.le_refl _)] at hrun ⊢
      obtain ⟨N1, d1, f1, m1⟩ := hst
      have hT : T.ready := by
        have := HR.out R.L.length
        rw [List.take_of_length_le (Nat.le_refl _), hrun] at this
        exact this
      by_cases hge : goneOf ns (R.L.map fun t => t.k) = []
      · have hsw : R.sweep ns = (0, T) := by
          unfold RSt.sweep stepsOf
          rw [if_pos hge]
          rw [hge] at hrun
          exact hrun
        have HW : Hid (R.sweep ns = (0, T)) := hsw
        have hdc : decide (goneOf ns (R.L.map fun t => t.k) ≠ []) = false := decide_eq_false (fun e => e hge)
        rw [hdc]
        clear hsw hdc hrun
        go_wp2_with fail
        go_ret
        rw [HW.out]
        exact ⟨rfl, N1, d1, f1, m1⟩
      · have hsw : R.sweep ns = T.sync := by
          unfold RSt.sweep stepsOf
          rw [if_neg hge]
          exact RSt.run_snoc hrun
        have HW : Hid (R.sweep ns = T.sync) := hsw
        have hdc : decide (goneOf ns (R.L.map fun t => t.k) ≠ []) = true := decide_eq_true hge
        rw [hdc]
        have hcl := rsync_any q N1 T wr d1 hT.fine
        clear hsw hdc hrun
        go_wp2_with fail
        refine hcl.mono ?_
        rintro e w4 ⟨rfl, hs4⟩
        clear hcl
        go_wp2
        go_ret
        rw [HW.out]
        exact ⟨rfl, RStepped.next f1 m1 hs4⟩
end Go.Proofs.YtnmghgbpgpaomaaGreat

namespace Go.Proofs.YtnmghgbpgpaomaaGreat
open Go.RowKit Go.Maps Go.WideMaps
set_option maxRecDepth 100000

section
variable {S : St} {R : RSt}

theorem Rel.reads (h : Rel S R) (k : List UInt8) : S.read k = R.read k := by
  unfold St.read RSt.read
  rw [h.down]
  rcases h.F.get k with ⟨g1, g2⟩ | ⟨t, u, g1, g2, g3⟩
  · rw [g1, g2]
  · rw [g1, g2]; simp only [g3]

theorem Rel.put (h : Rel S R) (b : List UInt8) (v v' : Value) : (S.put b v).1 = (R.put b v').1 ∧ (S.put b v).2.1 = (R.put b v').2.1 ∧ Rel (S.put b v).2.2 (R.put b v').2.2 := by
  have hw := h.write ⟨(fileK (nm b)).toArray⟩ v v' b
  rw [toList_mk] at hw
  unfold St.put RSt.put
  rw [h.reads, hw.1]
  split
  · split
    · exact ⟨rfl, rfl, h⟩
    · exact ⟨rfl, rfl, h⟩
  · split
    · split
      · exact ⟨rfl, rfl, hw.2⟩
      · exact ⟨rfl, rfl, hw.2⟩
    · exact ⟨rfl, rfl, h⟩

theorem Rel.getB (h : Rel S R) (x : List UInt8) : S.getB x = R.getB x := by
  unfold St.getB RSt.getB
  rw [h.reads]

theorem Rel.rootB (h : Rel S R) : S.rootB = R.rootB := by
  unfold St.rootB RSt.rootB
  rw [h.reads]

theorem Rel.stepAt (h : Rel S R) (x : List UInt8) (v v' : Value) : ∀ j, (St.stepAt x v j S).1 = (RSt.stepAt x v' j R).1 ∧ Rel (St.stepAt x v j S).2 (RSt.stepAt x v' j R).2
  | 0 => h.sync
  | 1 => h.write ⟨newK.toArray⟩ v v' x
  | 2 => h.sync
  | 3 => h.rename ⟨newK.toArray⟩ ⟨rootK.toArray⟩
  | _ + 4 => h.sync

theorem Rel.after (h : Rel S R) (x : List UInt8) (v v' : Value) : ∀ j, Rel (S.after x v j) (R.after x v' j)
  | 0 => h
  | j + 1 => ((Rel.after h x v v' j).stepAt x v v' j).2

theorem Rel.ended (h : Rel S R) {x : List UInt8} {v v' : Value} {r r' : Int} {T : St} {T' : RSt} (h1 : Ended S x v r T) (h2 : REnded R x v' r' T') : r = r' ∧ Rel T T' := by
  have ha := h.after x v v'
  have hs : ∀ j, (St.stepAt x v j (S.after x v j)).1 = (RSt.stepAt x v' j (R.after x v' j)).1 := fun j => ((ha j).stepAt x v v' j).1
  obtain ⟨j, a1, a2, a3⟩ := h1
  obtain ⟨i, b1, b2, b3⟩ := h2
  rcases a3 with ⟨rfl, rfl, rfl⟩ | ⟨a3, rfl, a4, rfl⟩
  · rcases b3 with ⟨rfl, rfl, rfl⟩ | ⟨b3, rfl, b4, rfl⟩
    · exact ⟨rfl, ha 5⟩
    · exact absurd ((hs i).symm.trans (a2 i b3)) b4
  · rcases b3 with ⟨rfl, rfl, rfl⟩ | ⟨b3, rfl, b4, rfl⟩
    · exact absurd ((hs j).trans (b2 j a3)) a4
    · have hij : i = j := by
        rcases Nat.lt_trichotomy i j with e | e | e
        · exact absurd ((hs i).symm.trans (a2 i e)) b4
        · exact e
        · exact absurd ((hs j).trans (b2 j e)) a4
      subst hij
      exact ⟨hs i, ha (i + 1)⟩

theorem Rel.one (h : Rel S R) : ∀ o, (S.one o).1 = (R.one o).1 ∧ Rel (S.one o).2 (R.one o).2
  | Option.none => h.sync
  | Option.some k => h.remove ⟨k.toArray⟩
end

theorem Rel.run : ∀ {os : List (Option (List UInt8))} {S : St} {R : RSt}, Rel S R → (S.run os).1 = (R.run os).1 ∧ Rel (S.run os).2 (R.run os).2
  | [], _, _, h => ⟨rfl, h⟩
  | o :: r, S, R, h => by
    obtain ⟨h1, h2⟩ := h.one o
    simp only [St.run, RSt.run, ← h1]
    split
    · exact Rel.run h2
    · exact ⟨h1, h2⟩

theorem Rel.names {S : St} {R : RSt} (h : Rel S R) : sortedNames S.F = R.L.map fun t => t.k := by
  have h1 : (sortedFiles S.F).map Prod.fst = (kb R.L).map Prod.fst := by rw [h.F.sorted]
  simpa [kb, sortedFiles, Function.comp_def] using h1

theorem Rel.sweep {S : St} {R : RSt} (h : Rel S R) (ns : List (List UInt8)) : (S.sweep ns).1 = (R.sweep ns).1 ∧ Rel (S.sweep ns).2 (R.sweep ns).2 := by
  unfold St.sweep RSt.sweep
  rw [h.names]
  exact h.run

/-- How many writes there are among changes. -/
def isWr : Ch → Nat
  | Sum.inl _ => 1
  | _ => 0
def wrs (ch : List Ch) : Nat := (ch.map isWr).sum

theorem len_ins (x : Tri) : ∀ T : List Tri, (ins x T).length = T.length + 1
  | [] => rfl
  | y :: r => by
    unfold ins
    split
    · rfl
    · simp [len_ins x r]

theorem len_del (T : List Tri) (k : List UInt8) : (del T k).length ≤ T.length := List.length_filter_le _ _

theorem len_del_has {T : List Tri} {k : List UInt8} {t : Tri} (h : get T k = some t) : (del T k).length + 1 ≤ T.length := by
  obtain ⟨h1, h2⟩ := get_mem h
  have : (del T k).length < T.length := by
    unfold del
    refine Nat.lt_of_le_of_ne (List.length_filter_le _ _) fun e => ?_
    have := List.length_filter_eq_length_iff.1 e t h1
    simp [h2] at this
  omega

theorem len_app (c : Ch) (T : List Tri) : (c.app T).length ≤ T.length + isWr c := by
  rcases c with t | ⟨a, b⟩ | k
  · have := len_del T t.k
    show (Go.Proofs.YtnmghgbpgpaomaaGreat.put T t).length ≤ T.length + 1
    unfold Go.Proofs.YtnmghgbpgpaomaaGreat.put
    rw [len_ins]
    omega
  · show (match Go.Proofs.YtnmghgbpgpaomaaGreat.get T a with | none => T | some t => Go.Proofs.YtnmghgbpgpaomaaGreat.put (del T a) { t with k := b }).length ≤ T.length + 0
    split
    · omega
    · rename_i t ht
      have h1 := len_del_has ht
      have h2 := len_del (del T a) b
      unfold Go.Proofs.YtnmghgbpgpaomaaGreat.put
      rw [len_ins]
      show (del (del T a) b).length + 1 ≤ T.length + 0
      omega
  · exact len_del T k

theorem len_rep (ch : List Ch) (keep : List Bool) (Y : List Tri) : ∀ i, (rep ch keep Y i).length ≤ Y.length + wrs (ch.take i)
  | 0 => by simp [rep]
  | i + 1 => by
    have ih := len_rep ch keep Y i
    have hw : wrs (ch.take i) ≤ wrs (ch.take (i + 1)) := by
      rw [List.take_add_one]
      simp [wrs]
    unfold rep
    split
    · rename_i c h1 h2
      have h3 := len_app c (rep ch keep Y i)
      have h4 : wrs (ch.take (i + 1)) = wrs (ch.take i) + isWr c := by
        rw [List.take_add_one, h1]
        simp [wrs]
      omega
    · omega

/-- What m writes leave few. -/
structure Few (m : Nat) (S : St) : Prop where
  F : S.F.length ≤ 600 + m
  Y : S.Y.length + wrs S.ch ≤ 600 + m

section
variable {m : Nat} {S : St}

theorem Few.more {m' : Nat} (h : Few m S) (hm : m ≤ m') : Few m' S := ⟨by have := h.F; omega, by have := h.Y; omega⟩
theorem Few.asked (h : Few m S) : Few m S.asked := ⟨h.F, h.Y⟩
theorem Few.fused (h : Few m S) (n : Int) : Few m (S.fused n) := ⟨h.F, h.Y⟩

theorem Few.did (h : Few m S) (c : Ch) : Few (m + isWr c) (S.did c) := by
  refine ⟨?_, ?_⟩
  · show (c.app S.F).length ≤ _
    have := len_app c S.F
    have := h.F
    omega
  · show S.Y.length + wrs (S.ch ++ [c]) ≤ _
    have := h.Y
    simp [wrs] at this ⊢
    omega

theorem Few.write (h : Few m S) (t : Tri) : Few (m + 1) (S.write t).2 := by
  have hA := h.asked
  unfold St.write
  split
  · exact hA.more (by omega)
  · split
    · exact hA.did (Ch.wr t)
    · exact hA.more (by omega)

theorem Few.rename (h : Few m S) (a b : List UInt8) : Few m (S.rename a b).2 := by
  have hA := h.asked
  unfold St.rename
  split
  · exact hA
  · split
    · exact hA
    · split
      · exact hA
      · exact hA.did (Ch.mv a b)

theorem Few.remove (h : Few m S) (a : List UInt8) : Few m (S.remove a).2 := by
  have hA := h.asked
  unfold St.remove
  split
  · exact hA
  · split
    · exact hA
    · exact hA.did (Ch.rm a)

theorem Few.sync (h : Few m S) : Few m S.sync.2 := by
  unfold St.sync
  split
  · exact h.asked
  · refine ⟨h.F, ?_⟩
    show S.F.length + wrs [] ≤ _
    have := h.F
    simp [wrs]
    omega

theorem Few.crash (h : Few m S) (keep : List Bool) : Few m (S.crash keep) := by
  have h1 := len_rep S.ch keep S.Y S.ch.length
  rw [List.take_of_length_le (Nat.le_refl _)] at h1
  have h2 := h.Y
  refine ⟨?_, ?_⟩
  · show (rep S.ch keep S.Y S.ch.length).length ≤ _
    omega
  · show (rep S.ch keep S.Y S.ch.length).length + wrs [] ≤ _
    simp [wrs]
    omega

theorem Few.put (h : Few m S) (b : List UInt8) (v : Value) : Few (m + 1) (S.put b v).2.2 := by
  have h' := h.more (Nat.le_succ m)
  unfold St.put
  split
  · split <;> exact h'
  · split
    · split <;> exact h.write _
    · exact h'

theorem Few.after (h : Few m S) (x : List UInt8) (v : Value) : ∀ j, Few (m + if 2 ≤ j then 1 else 0) (S.after x v j)
  | 0 => h
  | 1 => Few.sync (Few.after h x v 0)
  | 2 => Few.write (Few.after h x v 1) _
  | 3 => Few.sync (Few.after h x v 2)
  | 4 => Few.rename (Few.after h x v 3) _ _
  | j + 5 => by
    have e : (if 2 ≤ j + 5 then 1 else 0) = if 2 ≤ j + 4 then 1 else 0 := by rw [if_pos (by omega), if_pos (by omega)]
    rw [e]
    exact Few.sync (Few.after h x v (j + 4))

theorem Few.ended (h : Few m S) {x : List UInt8} {v : Value} {r : Int} {T : St} (h1 : Ended S x v r T) : Few (m + 1) T := by
  obtain ⟨j, _, _, ⟨_, _, rfl⟩ | ⟨_, _, _, rfl⟩⟩ := h1
  · exact h.after x v 5
  · exact (h.after x v (j + 1)).more (by split <;> omega)

theorem Few.one (h : Few m S) : ∀ o, Few m (S.one o).2
  | none => h.sync
  | some k => h.remove k
end

theorem Few.run : ∀ {os : List (Option (List UInt8))} {m : Nat} {S : St}, Few m S → Few m (S.run os).2
  | [], _, _, h => h
  | o :: r, m, S, h => by
    simp only [St.run]
    split
    · exact Few.run (h.one o)
    · exact h.one o

theorem Inv.ended {k : Nat} {S : St} (h : Inv k S) {x : List UInt8} {v : Value} {r : Int} {T : St} (h1 : Ended S x v r T) : Inv (k + 5) T := by
  obtain ⟨j, _, _, ⟨_, _, rfl⟩ | ⟨h2, _, _, rfl⟩⟩ := h1
  · exact h.after x v 5
  · exact (h.after x v (j + 1)).more (by omega)

theorem Inv.fusedN {k : Nat} {S : St} (h : Inv k S) (n : Int) (hn : n ≤ 9223372036854775807) : Inv k (S.fused n) :=
  ⟨h.a0, h.a1, by simp [St.fused]; omega, h.nc, h.sF, h.sY, h.sC⟩

theorem steps_len (ns ks : List (List UInt8)) : (stepsOf ns ks).length ≤ ks.length + 1 := by
  unfold stepsOf
  split
  · simp
  · have : (goneOf ns ks).length ≤ ks.length := List.length_filter_le _ _
    simp
    omega

theorem Inv.sweep {k m : Nat} {S : St} (h : Inv k S) (hf : Few m S) (ns : List (List UInt8)) : Inv (k + 601 + m) (S.sweep ns).2 := by
  unfold St.sweep
  have h1 := Inv.run (os := stepsOf ns (sortedNames S.F)) h
  have h2 := steps_len ns (sortedNames S.F)
  have h3 : (sortedNames S.F).length = S.F.length := by simp [sortedNames]
  have h4 := hf.F
  exact h1.more (by omega)

/-- The bounds that the walks ask for. -/
structure Fit (S : St) (R : RSt) : Prop where
  sfine : S.fine
  sused : used S.F < 35184372088832
  slen : ∀ t ∈ S.F, t.b.length ≤ 100000
  ready : R.ready
  Y : R.Y.length ≤ 400000000
  rlen : ∀ t ∈ R.L, t.b.length ≤ 90000

theorem Rel.fit {S : St} {R : RSt} (h : Rel S R) {k m : Nat} (hi : Inv k S) (hk : k ≤ 60000000) (hf : Few m S) (hm : m ≤ 6000) : Fit S R := by
  have hu : used S.F < 35184372088832 := by
    have h1 := used_small hi.sF
    have h2 := hf.F
    have : S.F.length * 65536 ≤ 6600 * 65536 := Nat.mul_le_mul_right _ (by omega)
    omega
  have h1 := hf.F
  have h2 := hf.Y
  have h3 := hi.nc
  have h4 := h.F.length
  have h5 := h.Y.length
  have h6 := h.len
  have h7 := hi.a0
  have h8 := hi.a1
  have h9 := hi.f1
  have h10 := h.acts
  refine ⟨hi.fine hk, hu, hi.len, ⟨⟨by omega, by omega, ?_, ?_, by omega, by omega⟩, by rw [← h.F.used]; exact hu, h.r0, h.r1⟩, by omega, fun t ht => ?_⟩
  · rcases h.fuse with ⟨_, _, e⟩ | ⟨_, _, e⟩ <;> omega
  · rcases h.fuse with ⟨_, _, e⟩ | ⟨_, _, e⟩ <;> omega
  · obtain ⟨u, hu1, _, hu3⟩ := (h.F.same t.k t.b).2 ⟨t, ht, rfl, rfl⟩
    have := hi.sF u hu1
    rw [hu3] at this
    omega
end Go.Proofs.YtnmghgbpgpaomaaGreat
