/-
  What is proved here: the contracts that the statement stands on: Wri13, WriL13. Conditions: as each theorem names them.
-/
import Derived.Test.YtofpkpomhdhkgaaGreatDoorMBld13
import Derived.Test.YtofpkpomhdhkgaaGreatDoorM8Strs9
import Derived.Lib.ItoaMem
import Derived.Lib.ItoaLen
import Derived.Lib.LaidTab
import Derived.Deep.RegionHeld3
namespace Go.Proofs.YtofpkpomhdhkgaaGreatDoor
open Go.RowKit Go.Shelf
set_option maxRecDepth 100000

abbrev pow10 : String := "internal/strconv.uint64pow10"

/-- The table of powers of ten lies in memory, below B. -/
def T13 (B : Nat) (w : World) : Prop := Lib.TabIs Tryz.prog w pow10 .u64 Lib.pow10Tab ∧ ∀ g, Tryz.prog.globalNamed pow10 = some g → g < B

theorem tab_heap {w w' : World} (h : Lib.TabIs Tryz.prog w pow10 .u64 Lib.pow10Tab) (hk : ∀ g o, w.heap[g]? = some o → Tryz.prog.globalNamed pow10 = some g → w'.heap[g]? = some o) : Lib.TabIs Tryz.prog w' pow10 .u64 Lib.pow10Tab := by
  unfold Lib.TabIs World.var? at h ⊢
  obtain ⟨g, hg, hv⟩ := Option.bind_eq_some_iff.1 h
  rw [hg, Option.bind_some]
  cases e : w.heap[g]? with
  | none => rw [e] at hv; cases hv
  | some o => rw [hk g o e hg]; rw [e] at hv; exact hv

theorem T13.of {w : World} (h : Lib.TabIs Tryz.prog w pow10 .u64 Lib.pow10Tab) : T13 w.heap.size w := ⟨h, fun g hg => by
  unfold Lib.TabIs World.var? at h
  rw [hg, Option.bind_some] at h
  rcases Nat.lt_or_ge g w.heap.size with h1 | h1
  · exact h1
  · rw [Array.getElem?_eq_none h1] at h; cases h⟩

theorem T13.mono {B C : Nat} {w : World} (h : T13 B w) (hl : B ≤ C) : T13 C w := ⟨h.1, fun g hg => Nat.lt_of_lt_of_le (h.2 g hg) hl⟩

theorem T13.kept {B : Nat} {w w' : World} (h : T13 B w) (f : Fr None' w w') : T13 B w' := ⟨tab_heap h.1 (fun _ _ hg _ => f.at hg id), h.2⟩

theorem T13.below {B : Nat} {w w' : World} (h : T13 B w) (f : Below B w w') : T13 B w' := ⟨tab_heap h.1 (fun g _ hg hn => (f.block g (h.2 g hn)).trans hg), h.2⟩

theorem grow_fr (w : World) (k : Nat) (os : Array Obj) : Fr None' w (Go.Sort.grow (w.drewN k) os) := by
  refine ⟨rfl, rfl, rfl, ?_, fun i hi _ => ?_⟩
  · show w.heap.size ≤ (w.heap ++ os).size
    rw [Array.size_append]; omega
  · show (w.heap ++ os)[i]? = w.heap[i]?
    rw [Array.getElem?_append_left hi]

theorem itoa_13 (n B : Nat) (hn : n ≤ top13) (w : World) (h : T13 B w) : Calls Tryz.prog 42 #[.int .i64 n] w fun e w' => e = .returned (.string ⟨(Lib.decDigits n).toArray⟩) ∧ Fr None' w w' := by
  have hn' : n ≤ 9223372036854775807 := hn
  refine (Tryz.strconv_Itoa (n : Int) (by omega) (by omega) w h.1).mono ?_
  rintro e w' ⟨rfl, k, os, rfl⟩
  rw [Lib.itoa_nonneg]
  exact ⟨rfl, grow_fr w k os⟩

theorem bld_fr {B b : Nat} {bs : List Value} {w w' : World} (h : Lib.IsBuilderF 51 5 B b bs w) (f : Fr None' w w') : Lib.IsBuilderF 51 5 B b bs w' := by
  have key : ∀ p, Lib.BuilderAtF 51 5 B b p bs w → Lib.BuilderAtF 51 5 B b p bs w' := by
    rintro p ⟨hB, v, hbk, hown, hne⟩
    refine ⟨hB, v, f.at hbk id, ⟨hown.1, ?_⟩, hne⟩
    rcases hown.2 with hn | ⟨g, cap, cur, fz, hv, hb, hg, rest⟩
    · exact .inl hn
    · exact .inr ⟨g, cap, cur, fz, hv, hb, f.at hg id, rest⟩
  rcases h with h | h
  · exact .inl (key _ h)
  · exact .inr (key _ h)

theorem others_fr {e : TypeId} {b : Option Nat} {w w' : World} (f : Fr None' w w') : Lib.OthersKept e b w w' := fun _ _ hk _ _ => f.at hk id

theorem below_fr {B : Nat} {w w' : World} (f : Fr None' w w') (hB : B ≤ w.heap.size) : Below B w w' := f.below hB (fun _ e => e.elim)

theorem Wrote.early {B b : Nat} {l : List UInt8} {w w1 w2 : World} (f : Fr None' w w1) (hB : B ≤ w.heap.size) (q : Wrote B b l w1 w2) : Wrote B b l w w2 :=
  ⟨q.at', (below_fr f hB).trans q.below, (others_fr f).trans q.others⟩

theorem num13_len {n : Nat} (hn : n ≤ top13) : (num13 n).length ≤ 22 := by
  have hn' : n ≤ 9223372036854775807 := hn
  have h := Lib.itoa_length_le (n : Int) (by omega) (by omega)
  rw [Lib.itoa_nonneg] at h
  unfold num13
  rw [List.length_append, List.length_singleton]
  omega

set_option maxHeartbeats 2000000 in
theorem wnumber_any (B b : Nat) (l : List UInt8) (n : Nat) (w : World) (h : Lib.IsBuilderF 51 5 B b (Lib.byteCells l) w) (hT : T13 B w) (hn : n ≤ top13) (hlen : l.length ≤ 100000000000000) (hBw : B ≤ w.heap.size) :
    Calls Tryz.prog 40 #[.pointer (some ⟨b, 0, none⟩), .int .i64 n] w fun e w' => e = .returned (.tuple #[]) ∧ Wrote B b (l ++ num13 n) w w' := by
  obtain ⟨D, hD⟩ : ∃ D, (⟨(Lib.decDigits n).toArray⟩ : ByteArray) = D := ⟨_, rfl⟩
  have eD : D.data.toList = Lib.decDigits n := by rw [← hD]
  have sD : D.size ≤ 22 := by
    have h1 := num13_len hn
    unfold num13 at h1
    rw [List.length_append, List.length_singleton, ← eD] at h1
    have h2 : D.data.toList.length = D.size := Array.length_toList
    omega
  have cI := toHid8 (fun w' (f : Fr None' w w') => itoa_13 n B hn w' (hT.kept f))
  rw [hD] at cI
  have cW := toHid8 (fun w' (f : Fr None' w w') => writeString_13 B b l D w' (bld_fr h f) (by omega) (Nat.le_trans hBw f.size))
  have HL := toHid8 (show l ++ num13 n = (l ++ D.data.toList) ++ [58] by unfold num13; rw [eD, List.append_assoc])
  have HS := toHid8 (show (l ++ D.data.toList).length + 1 ≤ 140737488355328 by
    have h2 : D.data.toList.length = D.size := Array.length_toList
    rw [List.length_append]; omega)
  have HF := toHid8 (Fr.refl None' w)
  have HB := toHid8 hBw
  rw [HL.out]
  clear h hT hD eD sD hlen hn hBw
  go_enter Tryz.func40, Tryz.ntmps40
  go_wp2_with fail
  go_region_held3 (fun _ => True) (exact trivial)
    (first
      | (go_at_call 42; with_reducible (refine (cI.out _ (by first | with_reducible assumption | exact Fr.refl _ _ | exact Fr.drew None' w)).mono ?_); rintro e w1 ⟨rfl, f1⟩)
      | (go_at_call 61; with_reducible (refine (cW.out _ (by first | with_reducible assumption | exact (Fr.drew None' w).then7 (by assumption))).mono ?_); rintro e w2 ⟨rfl, k2⟩))
  have k3 := Wrote.early (by first | exact f1 | exact (Fr.drew None' w).then7 f1) HB.out k2
  have q2 : Calls Tryz.prog 62 #[.pointer (some ⟨b, 0, none⟩), .int .u8 58] w2 fun e w' => e = .returned .nilIface ∧ Wrote B b ((l ++ D.data.toList) ++ [58]) w2 w' := writeByte_13 B b _ 58 w2 k3.at' HS.out (Nat.le_trans HB.out k3.below.size)
  have HK := toHid8 k3
  clear k2 k3 f1 cI cW HL HS
  go_wp2_with fail
  with_reducible refine q2.mono ?_
  rintro e w3 ⟨rfl, k4⟩
  have HE := toHid8 (HK.out.then k4)
  clear q2 k4
  go_wp2_with fail
  go_end0
  exact ⟨rfl, HE.out⟩

theorem text13_len {s : ByteArray} (hs : s.size ≤ 1000000000) : (text13 (unB s)).length ≤ s.size + 22 := by
  have h := num13_len (n := (unB s).length) (by rw [un_len]; show _ ≤ 9223372036854775807; omega)
  rw [un_len] at h
  unfold text13
  rw [List.length_append, un_len]
  omega

set_option maxHeartbeats 2000000 in
theorem wtext_any (B b : Nat) (l : List UInt8) (s : ByteArray) (w : World) (h : Lib.IsBuilderF 51 5 B b (Lib.byteCells l) w) (hT : T13 B w) (hs : s.size ≤ 1000000000) (hlen : l.length ≤ 90000000000000) (hBw : B ≤ w.heap.size) :
    Calls Tryz.prog 38 #[.pointer (some ⟨b, 0, none⟩), .string s] w fun e w' => e = .returned (.tuple #[]) ∧ Wrote B b (l ++ text13 (unB s)) w w' := by
  have q1 := wnumber_any B b l s.size w h hT (by show _ ≤ 9223372036854775807; omega) (by omega) hBw
  have hn := num13_len (n := s.size) (by show _ ≤ 9223372036854775807; omega)
  have HQ := toHid8 (fun w1 (k : Wrote B b (l ++ num13 s.size) w w1) => writeString_13 B b _ s w1 k.at' (by rw [List.length_append]; omega) (Nat.le_trans hBw k.below.size))
  have HL := toHid8 (show l ++ text13 (unB s) = (l ++ num13 s.size) ++ s.data.toList by unfold text13; rw [un_len, List.append_assoc]; rfl)
  have i1 : (s.size : Int) ≤ 1000000000 := by omega
  rw [HL.out]
  clear h hT hs hlen hBw HL hn
  go_enter Tryz.func38, Tryz.ntmps38
  go_wp2_with fail
  with_reducible refine q1.mono ?_
  rintro e w1 ⟨rfl, k1⟩
  have HK := toHid8 k1
  have q2 := HQ.out w1 k1
  clear q1 k1 HQ
  go_wp2_with fail
  with_reducible refine q2.mono ?_
  rintro e w2 ⟨rfl, k2⟩
  have HE := toHid8 (HK.out.then k2)
  clear q2 k2
  go_wp2_with fail
  go_end0
  exact ⟨rfl, HE.out⟩

end Go.Proofs.YtofpkpomhdhkgaaGreatDoor

namespace Go.Proofs.YtofpkpomhdhkgaaGreatDoor
open Go.RowKit Go.Shelf
set_option maxRecDepth 100000

/-- What is put of a list's first k elements. -/
def pre13 {α : Type} (enc : α → B13) (l : B13) (xs : List α) (k : Nat) : B13 := (l ++ num13 xs.length) ++ ((xs.take k).map enc).flatten

theorem pre_all {α : Type} (enc : α → B13) (l : B13) (xs : List α) : pre13 enc l xs xs.length = l ++ list13 enc xs := by
  unfold pre13 list13
  rw [List.take_length, List.append_assoc]

theorem pre_zero {α : Type} (enc : α → B13) (l : B13) (xs : List α) : pre13 enc l xs 0 = l ++ num13 xs.length := by
  unfold pre13
  rw [List.take_zero, List.map_nil, List.flatten_nil, List.append_nil]

theorem pre_succ {α : Type} (enc : α → B13) (l : B13) (xs : List α) {k : Nat} (hk : k < xs.length) : pre13 enc l xs k ++ enc xs[k] = pre13 enc l xs (k + 1) := by
  unfold pre13
  rw [List.take_succ_eq_append_getElem hk, List.map_append, List.flatten_append, List.append_assoc]
  simp

theorem pre_le {α : Type} (enc : α → B13) (l : B13) (xs : List α) {k : Nat} : (pre13 enc l xs k).length ≤ l.length + (list13 enc xs).length := by
  have h : (xs.map enc).flatten = ((xs.take k).map enc).flatten ++ ((xs.drop k).map enc).flatten := by
    rw [← List.flatten_append, ← List.map_append, List.take_append_drop]
  unfold pre13 list13
  rw [h]
  simp only [List.length_append]
  omega

theorem texts_un (ls : List ByteArray) : list13 (fun x => text13 (unB x)) ls = list13 text13 (ls.map unB) := by
  unfold list13
  rw [List.length_map, List.map_map]
  rfl

set_option maxHeartbeats 2000000 in
theorem wlist_any (B b : Nat) (l : List UInt8) (v : Value) (ls : List ByteArray) (w : World) (h : Lib.IsBuilderF 51 5 B b (Lib.byteCells l) w) (hT : T13 B w) (hA : ∀ w', Below B w w' → StrsAt w' v ls) (hn : ls.length ≤ 1000000) (hs : ∀ x ∈ ls, x.size ≤ 1000000000) (hlen : l.length + (list13 text13 (ls.map unB)).length ≤ 80000000000000) (hBw : B ≤ w.heap.size) :
    Calls Tryz.prog 39 #[.pointer (some ⟨b, 0, none⟩), v] w fun e w' => e = .returned (.tuple #[]) ∧ Wrote B b (l ++ list13 text13 (ls.map unB)) w w' := by
  rw [← texts_un] at hlen ⊢
  obtain ⟨pa, ca, rfl, _⟩ := hA w (Below.refl _ _)
  obtain ⟨n, hna⟩ : ∃ n, ls.length = n := ⟨_, rfl⟩
  have q1 := wnumber_any B b l ls.length w h hT (by show _ ≤ 9223372036854775807; omega) (by omega) hBw
  rw [← pre_zero (fun x => text13 (unB x))] at q1
  have HQ := toHid8 (fun k (hk : k < ls.length) w1 (q : Wrote B b (pre13 (fun x => text13 (unB x)) l ls k) w w1) => wtext_any B b _ ls[k] w1 q.at' (hT.below q.below) (hs _ (List.getElem_mem hk)) (by have := pre_le (fun x => text13 (unB x)) l ls (k := k); omega) (Nat.le_trans hBw q.below.size))
  have HS := toHid8 (fun k (hk : k < ls.length) => pre_succ (fun x => text13 (unB x)) l ls hk)
  have HE := toHid8 (pre_all (fun x => text13 (unB x)) l ls)
  rw [← HE.out]
  generalize pre13 (fun x => text13 (unB x)) l ls = PF at q1 HQ HS HE ⊢
  have HA := toHid8 hna
  have HR := toHid8 hA
  rw [hna] at q1 hn ⊢
  clear h hT hA hs hlen hna HE
  go_enter Tryz.func39, Tryz.ntmps39
  go_wp2_with fail
  with_reducible refine q1.mono ?_
  rintro e w1 ⟨rfl, k1⟩
  have HK := toHid8 k1
  clear q1 k1
  go_wp2_with fail
  go_loopw [12] (fun i wr => ∃ k : Nat, k ≤ n ∧ i = .int .i64 k ∧ Wrote B b (PF k) w wr) (fun i _ => n - (intOf i).toNat)
  case atStart => exact ⟨0, Nat.zero_le _, rfl, HK.out⟩
  case round =>
    obtain ⟨k, hk, rfl, hW⟩ := hrel
    by_cases hlt : k < n
    · have hka : k < ls.length := by rw [HA.out]; exact hlt
      obtain ⟨pa', ca', e, _, _, hrow⟩ := HR.out wr hW.below
      cases e
      obtain ⟨ga, oa, rfl, c1⟩ := hrow.get hka
      have q2 := HQ.out k hka wr hW
      have HSk := toHid8 (HS.out k hka)
      rw [HSk.out] at q2
      have HW := toHid8 hW
      have i2 : (k : Int) < n := by omega
      clear hrow hW
      go_wp2_with fail
      with_reducible refine q2.mono ?_
      rintro e w2 ⟨rfl, k2⟩
      have HW2 := toHid8 (HW.out.then k2)
      clear q2 k2
      go_wp2_with fail
      exact ⟨⟨k + 1, by omega, by go_num, HW2.out⟩, by simp [intOf]; omega⟩
    · obtain rfl : k = n := by omega
      have HW := toHid8 hW
      clear hW
      go_wp2_with fail
      go_end0
      exact ⟨rfl, HW.out⟩

end Go.Proofs.YtofpkpomhdhkgaaGreatDoor
