/-
  What is proved here: which parts strings.SplitSeq gives at a slash, one by one, for whatever a loop does with them; and what Right answers. The text is shorter than 100000000 bytes.
-/
import Derived.Test.YtlmgbcfcikdgpaaGreatDoorPRange
import Derived.Test.YtlmgbcfcikdgpaaGreatDoorPRunes
import Derived.Test.YtlmgbcfcikdgpaaGreatDoorPRRight
import Derived.Shelf.Abstract
import Derived.Shelf.RegionOpen
import Derived.WalkKit
import Derived.OwnWalkIn
import Derived.TacticsInMore
import Derived.LoopNIn
import Derived.LoopIn
namespace Go.Proofs.YtlmgbcfcikdgpaaGreatDoor.Path
open Go.RowKit Go.Shelf
set_option maxRecDepth 100000
attribute [local go_sem] Oper.semAt_some

abbrev slash : ByteArray := ⟨#[47]⟩

/-- The world in which strings.SplitSeq has laid its three boxes. -/
def boxed (w : World) (p : ByteArray) : World := ((w.alloc (.cells #[.string p] 9)).alloc (.cells #[.string slash] 9)).alloc (.cells #[.int .i64 0] 3)

def iter (b : Nat) : Array Value := #[.pointer (some ⟨b + 1, 0, none⟩), .pointer (some ⟨b, 0, none⟩), .pointer (some ⟨b + 2, 0, none⟩)]

set_option maxHeartbeats 1000000 in
theorem splitSeq_any (p : ByteArray) (w : World) : Calls Tryz.prog 110 #[.string p, .string slash, .int .i64 0] w fun e w' => e = .returned (.func (.func 129) #[] (iter w.heap.size)) ∧ w' = boxed w p := by
  go_enter Tryz.func110, Tryz.ntmps110
  go_wp2_with fail
  go_ret
  exact ⟨rfl, rfl⟩

set_option maxHeartbeats 1000000 in
theorem split_any (p : ByteArray) (w : World) : Calls Tryz.prog 86 #[.string p, .string slash] w fun e w' => e = .returned (.func (.func 129) #[] (iter w.heap.size)) ∧ w' = boxed w p := by
  have cC := splitSeq_any p w
  go_enter Tryz.func86, Tryz.ntmps86
  go_wp2_with (go_at_call 110; refine cC.mono ?_; rintro e w' ⟨rfl, hw⟩)
  go_ret
  exact ⟨rfl, rfl⟩

/-- The iterator's three boxes. -/
structure Boxes (b : Nat) (s : ByteArray) (W : World) : Prop where
  s : W.cell? ⟨b, 0, none⟩ = some (.string s)
  sf : W.frozen? ⟨b, 0, none⟩ = false
  sep : W.cell? ⟨b + 1, 0, none⟩ = some (.string slash)
  save : W.cell? ⟨b + 2, 0, none⟩ = some (.int .i64 0)

/-- What a round keeps. -/
def KpB (b : Nat) (A B : World) : Prop := ∀ k, b ≤ k → k ≤ b + 2 → B.heap[k]? = A.heap[k]?

theorem Boxes.kept {b : Nat} {s : ByteArray} {A B : World} (h : Boxes b s A) (k : KpB b A B) : Boxes b s B :=
  ⟨(World.cell?_of_block (k b (Nat.le_refl _) (by omega))).trans h.s, (World.frozen?_of_block (k b (Nat.le_refl _) (by omega))).trans h.sf, (World.cell?_of_block (k (b + 1) (by omega) (by omega))).trans h.sep, (World.cell?_of_block (k (b + 2) (by omega) (by omega))).trans h.save⟩

def leftS (b : Nat) (W : World) : Nat := match W.cell? ⟨b, 0, none⟩ with | some (.string s) => s.size | _ => 0

theorem left_is {b : Nat} {s : ByteArray} {W : World} (h : Boxes b s W) : leftS b W = s.size := by rw [leftS, h.s]

theorem index_none {l : Bs} (h : Lib.indexByte l 47 = -1) : parts l = [l] :=
  parts_one fun hm => by
    obtain ⟨k, hk, e⟩ := List.getElem_of_mem hm
    exact Lib.indexByte_none h k (by rw [List.getElem?_eq_getElem hk, e])

theorem index_some {l : Bs} {i : Nat} (h : Lib.indexByte l 47 = i) : i < l.length ∧ parts l = l.take i :: parts (l.drop (i + 1)) := by
  obtain ⟨h1, h2⟩ := Lib.indexByte_some h
  obtain ⟨hi, e⟩ := List.getElem?_eq_some_iff.1 h1
  refine ⟨hi, ?_⟩
  have e2 := List.take_append_drop i l
  rw [List.drop_eq_getElem_cons hi, e] at e2
  conv => lhs; rw [← e2]
  rw [parts_join, parts_one (fun hm => by
    obtain ⟨k, hk, e⟩ := List.getElem_of_mem hm
    rw [List.length_take] at hk
    refine h2 k (by omega) ?_
    rw [List.getElem_take] at e
    rw [List.getElem?_eq_getElem (by omega), e])]
  rfl

theorem index_is (s : ByteArray) (w : World) : Calls Tryz.prog 131 #[.string s, .string slash] w fun e w' => e = .returned (.int .i64 (Lib.indexByte s.data.toList 47)) ∧ w = w' := (Any.strings_Index_one Tryz.lays143 s 47 w).mono fun _ _ ⟨a, b⟩ => ⟨a, b.symm⟩

theorem Boxes.set {b : Nat} {s : ByteArray} {A : World} (h : Boxes b s A) (t : ByteArray) : Boxes b t (A.setCell ⟨b, 0, none⟩ (.string t)) :=
  ⟨World.cell?_setCell_same' _ _ _ (by rw [h.s]; rfl), by rw [World.frozen?_setCell]; exact h.sf,
    (World.cell?_of_block (Below.heap_setCell _ _ _ _ (by simp))).trans h.sep, (World.cell?_of_block (Below.heap_setCell _ _ _ _ (by simp))).trans h.save⟩

set_option maxHeartbeats 2000000 in
theorem split_seq (p : ByteArray) (b n : Nat) (hp : p.size < 100000000) : SeqM (α := ByteArray) Fence.wide n Tryz.prog 129 (iter b) (fun x => #[.string x]) (fun k => k = b) (KpB b)
    (fun xs => xs.map (·.data.toList) = parts p.data.toList) (fun pre => ∃ t, pre.map (·.data.toList) ++ t = parts p.data.toList) (fun W => Boxes b p W) := fun l J Jx W hB hJ hJx hY h0 => by
  refine callsIn_of_wp Tryz.func129 rfl trivial ?_ rfl
  simp only [iter, Tryz.ntmps129, List.size_toArray, List.length_cons, List.length_nil, Nat.reduceAdd, Nat.reduceSub, Array.replicate_succ, Array.replicate_zero, List.push_toArray, List.append_toArray, List.nil_append, List.cons_append]
  have c1 := hB.s
  have c2 := hB.sep
  have c3 := hB.save
  gi_wp2
  clear c1 c2 c3
  gi_loopw [] (fun wr => ∃ (pre : List ByteArray) (s : ByteArray), Boxes b s wr ∧ s.size < 100000000 ∧ Hid (pre.map (·.data.toList) ++ parts s.data.toList = parts p.data.toList) ∧ Hid (J pre wr)) (fun wr => leftS b wr)
  case atStart => exact ⟨[], p, hB, hp, rfl, h0⟩
  case round =>
    clear h0 hB hp
    obtain ⟨pre, s, hB, hs, hP, hJs⟩ := hrel
    have c1 := hB.s
    have c2 := hB.sep
    have c3 := hB.save
    have cI := index_is s wr
    have hge := Lib.indexByte_ge s.data.toList 47
    by_cases hi : Lib.indexByte s.data.toList 47 = -1
    · rw [hi] at cI
      obtain ⟨fn, tmps, assign, body, hy, hR⟩ := hY pre s wr hJs.out
      have hE := index_none hi
      rw [hE] at hP
      clear hY hi hge hE
      gi_wp2_with fail
      refine ⟨trivial, (fun h => by cases h), (callsIn_wide.2 cI).mono ?_⟩
      rintro e w' ⟨rfl, rfl⟩
      gi_wp2_with fail
      refine ⟨(fun h => by cases h), hR.mono ?_⟩
      rintro e W' (⟨rfl, hJ', _⟩ | ⟨rfl, hJx'⟩)
      · gi_wp2
        go_end0
        exact ⟨⟨_, rfl⟩, .inl ⟨pre ++ [s], by simpa using hP.out, hJ'⟩⟩
      · gi_wp2
        go_end0
        exact ⟨⟨_, rfl⟩, .inr ⟨pre ++ [s], ⟨[], by simpa using hP.out⟩, hJx'⟩⟩
    · obtain ⟨i, hi'⟩ := Int.eq_ofNat_of_zero_le (show 0 ≤ Lib.indexByte s.data.toList 47 by omega)
      rw [hi'] at cI
      obtain ⟨hlt, hE⟩ := index_some hi'
      rw [len_eq] at hlt
      obtain ⟨fn, tmps, assign, body, hy, hR⟩ := hY pre (s.extract 0 i) wr hJs.out
      clear hY hi hi' hge
      gi_wp2_with fail
      refine ⟨trivial, (fun h => by cases h), (callsIn_wide.2 cI).mono ?_⟩
      rintro e w' ⟨rfl, rfl⟩
      gi_wp2_with fail
      refine ⟨(fun h => by cases h), hR.mono ?_⟩
      clear hy hR c1 c2 c3 cI
      have hP' : Hid ((pre ++ [s.extract 0 i]).map (·.data.toList) ++ parts (s.extract (i + 1) s.size).data.toList = parts p.data.toList) := by
        unfold Hid
        rw [← hP.out, hE, List.map_append, List.append_assoc]
        congr 1
        rw [List.map_singleton, extract_list, extract_list, List.drop_zero, ← len_eq s, List.take_length]
        rfl
      rintro e W' (⟨rfl, hJ', hK⟩ | ⟨rfl, hJx'⟩)
      · have hB' := hB.kept hK
        have c1 := hB'.s
        have c2 := hB'.sep
        have c0 := hB'.sf
        have hlt' : i + 1 ≤ s.size := hlt
        have hJ2 : Hid (J (pre ++ [s.extract 0 i]) W') := hJ'
        have hL : Hid (leftS b wr = s.size) := left_is hB
        clear hJ' hP hE hJs hB hK
        gi_wp2_with fail
        go_roundw
        case rel => exact ⟨pre ++ [s.extract 0 i], s.extract (i + 1) s.size, hB'.set _, by simp; omega, hP'.out, hJ _ _ _ hJ2.out (Fr.setCell (M := fun k => k = b) _ (a := ⟨b, 0, none⟩) rfl _)⟩
        case measure => rw [left_is (hB'.set _), hL.out]; simp; omega
      · gi_wp2_with fail
        refine bodyPost_ret (results_none rfl _ _ _) rfl ?_
        exact ⟨⟨_, rfl⟩, .inr ⟨pre ++ [s.extract 0 i], ⟨_, hP'.out⟩, hJx'⟩⟩

end Go.Proofs.YtlmgbcfcikdgpaaGreatDoor.Path
