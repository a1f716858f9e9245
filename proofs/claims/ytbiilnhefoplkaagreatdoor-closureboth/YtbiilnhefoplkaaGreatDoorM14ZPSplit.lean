/-
  What is proved here: the contracts that the statement stands on: ZPSplit, ZPRight. Conditions: as each theorem names them.
-/
import Derived.Test.YtbiilnhefoplkaaGreatDoorM2PBase
import Derived.Test.YtbiilnhefoplkaaGreatDoorM13PRunes
import Derived.Test.YtbiilnhefoplkaaGreatDoorM12PRRest
import Derived.Shelf.Abstract
import Derived.Shelf.RegionOpen
import Derived.WalkKit
import Derived.OwnWalkIn
import Derived.TacticsInMore
import Derived.LoopNIn
import Derived.LoopIn
namespace Go.Proofs.YtbiilnhefoplkaaGreatDoor.Path
open Go.RowKit Go.Shelf
set_option maxRecDepth 100000
attribute [local go_sem] Oper.semAt_some

abbrev slash : ByteArray := ⟨#[47]⟩

/-- The world in which strings.SplitSeq has laid its three boxes. -/
def boxed (w : World) (p : ByteArray) : World := ((w.alloc (.cells #[.string p] 9)).alloc (.cells #[.string slash] 9)).alloc (.cells #[.int .i64 0] 3)

def iter (b : Nat) : Array Value := #[.pointer (some ⟨b + 1, 0, none⟩), .pointer (some ⟨b, 0, none⟩), .pointer (some ⟨b + 2, 0, none⟩)]

set_option maxHeartbeats 1000000 in
theorem splitSeq_any (p : ByteArray) (w : World) : Calls Tryz.prog 140 #[.string p, .string slash, .int .i64 0] w fun e w' => e = .returned (.func (.func 159) #[] (iter w.heap.size)) ∧ w' = boxed w p := by
  go_enter Tryz.func140, Tryz.ntmps140
  go_wp2_with fail
  go_ret
  exact ⟨rfl, rfl⟩

set_option maxHeartbeats 1000000 in
theorem split_any (p : ByteArray) (w : World) : Calls Tryz.prog 117 #[.string p, .string slash] w fun e w' => e = .returned (.func (.func 159) #[] (iter w.heap.size)) ∧ w' = boxed w p := by
  have cC := splitSeq_any p w
  go_enter Tryz.func117, Tryz.ntmps117
  go_wp2_with (go_at_call 140; refine cC.mono ?_; rintro e w' ⟨rfl, hw⟩)
  go_ret
  exact ⟨rfl, rfl⟩

/-- The iterator's three boxes. -/
structure Boxes (b : Nat) (s : ByteArray) (W : World) : Prop where
  s : W.cell? ⟨b, 0, none⟩ = some (.string s)
  sf : W.frozen? ⟨b, 0, none⟩ = false
  sep : W.cell? ⟨b + 1, 0, none⟩ = some (.string slash)
  save : W.cell? ⟨b + 2, 0, none⟩ = some (.int .i64 0)

/-- What a round keeps. -/
def KpB (b : Nat) (A B : World) : Prop := ∀ k, b ≤ k → k ≤ b + 2 → B.heap[k]? = A.heap[k]?

theorem Boxes.kept {b : Nat} {s : ByteArray} {A B : World} (h : Boxes b s A) (k : KpB b A B) : Boxes b s B :=
  ⟨(World.cell?_of_block (k b (Nat.le_refl _) (by omega))).trans h.s, (World.frozen?_of_block (k b (Nat.le_refl _) (by omega))).trans h.sf, (World.cell?_of_block (k (b + 1) (by omega) (by omega))).trans h.sep, (World.cell?_of_block (k (b + 2) (by omega) (by omega))).trans h.save⟩

def leftS (b : Nat) (W : World) : Nat := match W.cell? ⟨b, 0, none⟩ with | some (.string s) => s.size | _ => 0

theorem left_is {b : Nat} {s : ByteArray} {W : World} (h : Boxes b s W) : leftS b W = s.size := by rw [leftS, h.s]

theorem index_none {l : Bs} (h : Lib.indexByte l 47 = -1) : parts l = [l] :=
  parts_one fun hm => by
    obtain ⟨k, hk, e⟩ := List.getElem_of_mem hm
    exact Lib.indexByte_none h k (by rw [List.getElem?_eq_getElem hk, e])

theorem index_some {l : Bs} {i : Nat} (h : Lib.indexByte l 47 = i) : i < l.length ∧ parts l = l.take i :: parts (l.drop (i + 1)) := by
  obtain ⟨h1, h2⟩ := Lib.indexByte_some h
  obtain ⟨hi, e⟩ := List.getElem?_eq_some_iff.1 h1
  refine ⟨hi, ?_⟩
  have e2 := List.take_append_drop i l
  rw [List.drop_eq_getElem_cons hi, e] at e2
  conv => lhs; rw [← e2]
  rw [parts_join, parts_one (fun hm => by
    obtain ⟨k, hk, e⟩ := List.getElem_of_mem hm
    rw [List.length_take] at hk
    refine h2 k (by omega) ?_
    rw [List.getElem_take] at e
    rw [List.getElem?_eq_getElem (by omega), e])]
  rfl

theorem index_is (s : ByteArray) (w : World) : Calls Tryz.prog 160 #[.string s, .string slash] w fun e w' => e = .returned (.int .i64 (Lib.indexByte s.data.toList 47)) ∧ w = w' := (Any.strings_Index_one Tryz.lays143 s 47 w).mono fun _ _ ⟨a, b⟩ => ⟨a, b.symm⟩

theorem Boxes.set {b : Nat} {s : ByteArray} {A : World} (h : Boxes b s A) (t : ByteArray) : Boxes b t (A.setCell ⟨b, 0, none⟩ (.string t)) :=
  ⟨World.cell?_setCell_same' _ _ _ (by rw [h.s]; rfl), by rw [World.frozen?_setCell]; exact h.sf,
    (World.cell?_of_block (Below.heap_setCell _ _ _ _ (by simp))).trans h.sep, (World.cell?_of_block (Below.heap_setCell _ _ _ _ (by simp))).trans h.save⟩

set_option maxHeartbeats 2000000 in
theorem split_seq (p : ByteArray) (b n : Nat) (hp : p.size < 140737488355329) : SeqM (α := ByteArray) Fence.wide n Tryz.prog 159 (iter b) (fun x => #[.string x]) (fun k => k = b) (KpB b)
    (fun xs => xs.map (·.data.toList) = parts p.data.toList) (fun pre => ∃ t, pre.map (·.data.toList) ++ t = parts p.data.toList) (fun W => Boxes b p W) := fun l J Jx W hB hJ hJx hY h0 => by
  refine callsIn_of_wp Tryz.func159 rfl trivial ?_ rfl
  simp only [iter, Tryz.ntmps159, List.size_toArray, List.length_cons, List.length_nil, Nat.reduceAdd, Nat.reduceSub, Array.replicate_succ, Array.replicate_zero, List.push_toArray, List.append_toArray, List.nil_append, List.cons_append]
  have c1 := hB.s
  have c2 := hB.sep
  have c3 := hB.save
  gi_wp2
  clear c1 c2 c3
  gi_loopw [] (fun wr => ∃ (pre : List ByteArray) (s : ByteArray), Boxes b s wr ∧ s.size < 140737488355329 ∧ Hid (pre.map (·.data.toList) ++ parts s.data.toList = parts p.data.toList) ∧ Hid (J pre wr)) (fun wr => leftS b wr)
  case atStart => exact ⟨[], p, hB, hp, rfl, h0⟩
  case round =>
    clear h0 hB hp
    obtain ⟨pre, s, hB, hs, hP, hJs⟩ := hrel
    have c1 := hB.s
    have c2 := hB.sep
    have c3 := hB.save
    have cI := index_is s wr
    have hge := Lib.indexByte_ge s.data.toList 47
    by_cases hi : Lib.indexByte s.data.toList 47 = -1
    · rw [hi] at cI
      obtain ⟨fn, tmps, assign, body, hy, hR⟩ := hY pre s wr hJs.out
      have hE := index_none hi
      rw [hE] at hP
      clear hY hi hge hE
      gi_wp2_with fail
      refine ⟨trivial, (fun h => by cases h), (callsIn_wide.2 cI).mono ?_⟩
      rintro e w' ⟨rfl, rfl⟩
      gi_wp2_with fail
      refine ⟨(fun h => by cases h), hR.mono ?_⟩
      rintro e W' (⟨rfl, hJ', _⟩ | ⟨rfl, hJx'⟩)
      · gi_wp2
        go_end0
        exact ⟨⟨_, rfl⟩, .inl ⟨pre ++ [s], by simpa using hP.out, hJ'⟩⟩
      · gi_wp2
        go_end0
        exact ⟨⟨_, rfl⟩, .inr ⟨pre ++ [s], ⟨[], by simpa using hP.out⟩, hJx'⟩⟩
    · obtain ⟨i, hi'⟩ := Int.eq_ofNat_of_zero_le (show 0 ≤ Lib.indexByte s.data.toList 47 by omega)
      rw [hi'] at cI
      obtain ⟨hlt, hE⟩ := index_some hi'
      rw [len_eq] at hlt
      obtain ⟨fn, tmps, assign, body, hy, hR⟩ := hY pre (s.extract 0 i) wr hJs.out
      clear hY hi hi' hge
      gi_wp2_with fail
      refine ⟨trivial, (fun h => by cases h), (callsIn_wide.2 cI).mono ?_⟩
      rintro e w' ⟨rfl, rfl⟩
      gi_wp2_with fail
      refine ⟨(fun h => by cases h), hR.mono ?_⟩
      clear hy hR c1 c2 c3 cI
      have hP' : Hid ((pre ++ [s.extract 0 i]).map (·.data.toList) ++ parts (s.extract (i + 1) s.size).data.toList = parts p.data.toList) := by
        unfold Hid
        rw [← hP.out, hE, List.map_append, List.append_assoc]
        congr 1
        rw [List.map_singleton, extract_list, extract_list, List.drop_zero, ← len_eq s, List.take_length]
        rfl
      rintro e W' (⟨rfl, hJ', hK⟩ | ⟨rfl, hJx'⟩)
      · have hB' := hB.kept hK
        have c1 := hB'.s
        have c2 := hB'.sep
        have c0 := hB'.sf
        have hlt' : i + 1 ≤ s.size := hlt
        have hJ2 : Hid (J (pre ++ [s.extract 0 i]) W') := hJ'
        have hL : Hid (leftS b wr = s.size) := left_is hB
        clear hJ' hP hE hJs hB hK
        gi_wp2_with fail
        go_roundw
        case rel => exact ⟨pre ++ [s.extract 0 i], s.extract (i + 1) s.size, hB'.set _, by simp; omega, hP'.out, hJ _ _ _ hJ2.out (Fr.setCell (M := fun k => k = b) _ (a := ⟨b, 0, none⟩) rfl _)⟩
        case measure => rw [left_is (hB'.set _), hL.out]; simp; omega
      · gi_wp2_with fail
        refine bodyPost_ret (results_none rfl _ _ _) rfl ?_
        exact ⟨⟨_, rfl⟩, .inr ⟨pre ++ [s.extract 0 i], ⟨_, hP'.out⟩, hJx'⟩⟩

end Go.Proofs.YtbiilnhefoplkaaGreatDoor.Path

namespace Go.Proofs.YtbiilnhefoplkaaGreatDoor.Path
open Go.RowKit Go.Shelf
set_option maxRecDepth 100000
attribute [local go_sem] Oper.semAt_some

/-- What Right's loop has seen. -/
structure Seen (w : World) (pre : List ByteArray) (W : World) : Prop where
  deep : W.cell? ⟨w.heap.size + 1, 0, none⟩ = some (.int .i64 (pre.length : Int))
  df : W.frozen? ⟨w.heap.size + 1, 0, none⟩ = false
  res : W.cell? ⟨w.heap.size, 0, none⟩ = some (.bool false)
  rf : W.frozen? ⟨w.heap.size, 0, none⟩ = false
  le : pre.length ≤ 8
  fine : ∀ x ∈ pre, goodPart x.data.toList = true
  below : Below w.heap.size w W
  room : w.heap.size + 5 ≤ W.heap.size

/-- Right's loop has been left. -/
structure Left (w : World) (pre : List ByteArray) (W : World) : Prop where
  res : W.cell? ⟨w.heap.size, 0, none⟩ = some (.bool false)
  bad : 8 < pre.length ∨ ∃ x ∈ pre, goodPart x.data.toList = false
  below : Below w.heap.size w W

theorem Left.not {w W : World} {pre : List ByteArray} {p : Bs} (h : Left w pre W) (hp : ∃ t, pre.map (·.data.toList) ++ t = parts p) : right p = false := by
  obtain ⟨t, e⟩ := hp
  rcases h.bad with h1 | ⟨x, hx, h2⟩
  · have := congrArg List.length e
    rw [List.length_append, List.length_map] at this
    rw [right, show decide ((parts p).length ≤ 8) = false from decide_eq_false (by omega)]; rfl
  · exact not_right (l := x.data.toList) (by rw [← e, List.mem_append]; exact .inl (List.mem_map.2 ⟨x, hx, rfl⟩)) h2

theorem Seen.yes {w W : World} {pre : List ByteArray} {p : Bs} (h : Seen w pre W) (hp : pre.map (·.data.toList) = parts p) : right p = true := by
  rw [right_iff, ← hp]
  refine ⟨by rw [List.length_map]; exact h.le, fun l hl => ?_⟩
  obtain ⟨x, hx, rfl⟩ := List.mem_map.1 hl
  exact h.fine x hx

theorem Seen.abide (w : World) (B : Nat) (hB : w.heap.size + 1 < B) : Abide (fun k => k = w.heap.size + 2 ∨ B ≤ k) (fun pre W => Seen w pre W) := fun pre A B' h f => by
  have b1 : w.heap.size + 1 < A.heap.size := cell_lt h.deep
  have k1 : B'.heap[w.heap.size + 1]? = A.heap[w.heap.size + 1]? := f.block _ b1 (by omega)
  have k0 : B'.heap[w.heap.size]? = A.heap[w.heap.size]? := f.block _ (by omega) (by omega)
  exact ⟨(World.cell?_of_block k1).trans h.deep, (World.frozen?_of_block k1).trans h.df, (World.cell?_of_block k0).trans h.res, (World.frozen?_of_block k0).trans h.rf, h.le, h.fine,
    h.below.trans ⟨f.os, f.tape, f.output, f.size, fun k hk => f.block k (by have := h.below.size; omega) (by omega)⟩, Nat.le_trans h.room f.size⟩

theorem Left.abide (w : World) (B : Nat) (hB : w.heap.size + 1 < B) : Abide (fun k => k = w.heap.size + 2 ∨ B ≤ k) (fun pre W => Left w pre W) := fun pre A B' h f => by
  have b1 : w.heap.size < A.heap.size := cell_lt h.res
  have k0 : B'.heap[w.heap.size]? = A.heap[w.heap.size]? := f.block _ (by omega) (by omega)
  exact ⟨(World.cell?_of_block k0).trans h.res, h.bad,
    h.below.trans ⟨f.os, f.tape, f.output, f.size, fun k hk => f.block k (by have := h.below.size; omega) (by omega)⟩⟩

theorem lies {W : World} {a : Addr} {v : Value} (h : W.cell? a = some v ∧ W.frozen? a = false) (o : Obj) : (W.alloc o).cell? a = some v ∧ (W.alloc o).frozen? a = false := by
  have k : (W.alloc o).heap[a.block]? = W.heap[a.block]? := Below.heap_alloc _ _ _ (cell_lt h.1)
  exact ⟨(World.cell?_of_block k).trans h.1, (World.frozen?_of_block k).trans h.2⟩

theorem new_box (W : World) (v : Value) (t : TypeId) {k : Nat} (hk : W.heap.size = k) : (W.alloc (.cells #[v] t)).cell? ⟨k, 0, none⟩ = some v ∧ (W.alloc (.cells #[v] t)).frozen? ⟨k, 0, none⟩ = false := by
  rw [← hk]; exact ⟨by simp, by simp⟩

theorem keeps_below {A B : World} (h : Below A.heap.size A B) : KeepsOthers A B := ⟨h.size, fun k _ hk _ => (h.block k (Array.getElem?_eq_some_iff.1 hk).1).trans hk⟩

/-- Behind rightPart, the depth stored. -/
theorem after_part {w W W2 : World} {pre : List ByteArray} {k : Nat} (hS : Seen w pre W)
    (hb : Below (W.setCell ⟨w.heap.size + 1, 0, none⟩ (.int .i64 ((k : Int) + 1))).heap.size (W.setCell ⟨w.heap.size + 1, 0, none⟩ (.int .i64 ((k : Int) + 1))) W2) :
    W2.cell? ⟨w.heap.size, 0, none⟩ = some (.bool false) ∧ W2.frozen? ⟨w.heap.size, 0, none⟩ = false ∧ Below w.heap.size w W2 ∧ KeepsOthers W W2 ∧
      W2.cell? ⟨w.heap.size + 1, 0, none⟩ = some (.int .i64 ((k + 1 : Nat) : Int)) ∧ W2.frozen? ⟨w.heap.size + 1, 0, none⟩ = false ∧ KpB (w.heap.size + 2) W W2 := by
  have hsz : (W.setCell ⟨w.heap.size + 1, 0, none⟩ (.int .i64 ((k : Int) + 1))).heap.size = W.heap.size := by simp [World.setCell]
  have hr := hS.room
  have at0 : W2.heap[w.heap.size]? = W.heap[w.heap.size]? := (hb.block _ (by omega)).trans (Below.heap_setCell _ _ _ _ (by simp))
  refine ⟨(World.cell?_of_block at0).trans hS.res, (World.frozen?_of_block at0).trans hS.rf, ?_, (KeepsOthers.setCell _ _ _).trans (keeps_below hb), ?_, ?_, fun j h1 h2 => (hb.block j (by omega)).trans (Below.heap_setCell _ _ _ _ (by simp; omega))⟩
  · exact (hS.below.setCell (p := ⟨w.heap.size + 1, 0, none⟩) (by simp) _).trans (hb.mono (by omega))
  · rw [hb.cell (p := ⟨w.heap.size + 1, 0, none⟩) (by show w.heap.size + 1 < _; omega)]
    exact World.cell?_setCell_same' _ _ _ (by rw [hS.deep]; rfl)
  · rw [hb.frozen (p := ⟨w.heap.size + 1, 0, none⟩) (by show w.heap.size + 1 < _; omega), World.frozen?_setCell]
    exact hS.df

set_option maxHeartbeats 2000000 in
theorem right_any (p : ByteArray) (w : World) (hp : p.size < 140737488355329) : Calls Tryz.prog 95 #[.string p] w fun e w' => e = .returned (.bool (right p.data.toList)) ∧ Below w.heap.size w w' := by
  refine (callsIn_wide (n := 3)).1 ?_
  refine callsIn_of_wp_marks Tryz.func95 rfl trivial ?_ rfl
  simp only [Tryz.ntmps95, List.size_toArray, List.length_cons, List.length_nil, Nat.reduceAdd, Nat.reduceSub, Array.replicate_succ, Array.replicate_zero, List.push_toArray, List.append_toArray, List.nil_append, List.cons_append]
  gi_wp2_with fail
  refine ⟨trivial, (callsIn_wide.2 (split_any p _)).mono ?_⟩
  rintro e w' ⟨rfl, hw⟩
  have hn : ((w.alloc (.cells #[.bool false] 4)).alloc (.cells #[.int .i64 0] 3)).heap.size = w.heap.size + 2 := by simp
  rw [hn]
  have hsz : w'.heap.size = w.heap.size + 5 := by rw [hw, boxed]; simp
  have n0 := lies (lies (lies (lies (new_box w (.bool false) 4 rfl) (.cells #[.int .i64 0] 3)) (.cells #[.string p] 9)) (.cells #[.string slash] 9)) (.cells #[.int .i64 0] 3)
  have n1 := lies (lies (lies (new_box (w.alloc (.cells #[.bool false] 4)) (.int .i64 0) 3 (k := w.heap.size + 1) (by simp)) (.cells #[.string p] 9)) (.cells #[.string slash] 9)) (.cells #[.int .i64 0] 3)
  have n2 := lies (lies (new_box ((w.alloc (.cells #[.bool false] 4)).alloc (.cells #[.int .i64 0] 3)) (.string p) 9 (k := w.heap.size + 2) (by simp)) (.cells #[.string slash] 9)) (.cells #[.int .i64 0] 3)
  have n3 := lies (new_box (((w.alloc (.cells #[.bool false] 4)).alloc (.cells #[.int .i64 0] 3)).alloc (.cells #[.string p] 9)) (.string slash) 9 (k := w.heap.size + 2 + 1) (by simp)) (.cells #[.int .i64 0] 3)
  have n4 := new_box ((((w.alloc (.cells #[.bool false] 4)).alloc (.cells #[.int .i64 0] 3)).alloc (.cells #[.string p] 9)).alloc (.cells #[.string slash] 9)) (.int .i64 0) 3 (k := w.heap.size + 2 + 2) (by simp)
  have hSeen : Seen w [] w' := by
    rw [hw, boxed]
    exact ⟨n1.1, n1.2, n0.1, n0.2, by simp, by simp, (((((Below.refl _ w).alloc (Nat.le_refl _) _).alloc (by simp) _).alloc (by simp; omega) _).alloc (by simp; omega) _).alloc (by simp; omega) _, by simp⟩
  have hBox : Boxes (w.heap.size + 2) p w' := by
    rw [hw, boxed]
    exact ⟨n2.1, n2.2, n3.1, n4.1⟩
  clear n0 n1 n2 n3 n4
  clear hw hn
  gi_wp2_with fail
  refine range_own (α := ByteArray) rfl (by omega) (gf := 159) (lb := iter (w.heap.size + 2)) rfl trivial (enters_of Tryz.func159 (by kernel_rfl) rfl) (split_seq p (w.heap.size + 2) _ hp)
    (fun k hk => by rw [hk]; omega) (fun W hb => hBox.kept fun k h1 h2 => hb.block k (by omega)) (fun h1 h2 k a b => (h2 k a b).trans (h1 k a b)) (fun W l o' hl k a b => World.putObj_heap_other (by omega)) (fun _ => rfl)
    (fun pre W => Seen w pre W) (fun c pre W => c = .ret ∧ Left w pre W) (Seen.abide w _ (by omega)) (fun c s A B h f => ⟨h.1, Left.abide w _ (by omega) s A B h.2 f⟩) hSeen
    (fun x => { tmps := #[.string p, undef, .pointer (some ⟨w.heap.size, 0, none⟩), .pointer (some ⟨w.heap.size + 1, 0, none⟩), .string x, .string p, .func (.func 159) #[] (iter (w.heap.size + 2)), .string x, undef, undef, undef, undef, undef, undef, undef, undef, undef], defers := [] }) ?assign ?body ?done ?stop
  case assign =>
    intro l x W K hK
    gi_wp2
    exact hK
  case body =>
    rintro l pre x W hS hl
    have c1 := hS.deep
    have c2 := hS.df
    have c3 := hS.res
    have c4 := hS.rf
    have hle := hS.le
    have hszW := hS.below.size
    obtain ⟨k, hk⟩ : ∃ k : Nat, pre.length = k := ⟨_, rfl⟩
    rw [hk] at c1 hle
    by_cases h8 : k = 8
    · subst h8
      gi_wp2_with fail
      refine ⟨trivial, ?_⟩
      gi_wp2_with fail
      refine ⟨(KeepsOthers.setCell _ _ _).trans (KeepsOthers.setCell _ _ _), rfl, World.cell?_setCell_same' _ _ _ ?_, .inl (by simp; omega), (hS.below.setCell (p := ⟨w.heap.size + 1, 0, none⟩) (by simp) _).setCell (p := ⟨w.heap.size, 0, none⟩) (Nat.le_refl _) _⟩
      rw [(World.cell?_of_block (Below.heap_setCell _ _ _ _ (by simp))).trans c3]; rfl
    · have hk1 : (k : Int) + 1 ≤ 8 := by omega
      have cP := rightPart_any x (W.setCell ⟨w.heap.size + 1, 0, none⟩ (.int .i64 ((k : Int) + 1)))
      cases hg : goodPart x.data.toList
      · rw [hg] at cP
        gi_wp2_with fail
        refine ⟨trivial, (CallsIn.inRound l (callsIn_wide.2 cP)).mono ?_⟩
        rintro e W2 ⟨rfl, hb⟩
        obtain ⟨r3, r4, hbel, hke, _, _, _⟩ := after_part hS hb
        clear hb c1 c2 c3 c4 cP
        gi_wp2_with fail
        exact ⟨hke.trans (KeepsOthers.setCell _ _ _), rfl, World.cell?_setCell_same' _ _ _ (by rw [r3]; rfl), .inr ⟨x, by simp, hg⟩, hbel.setCell (p := ⟨w.heap.size, 0, none⟩) (Nat.le_refl _) _⟩
      · rw [hg] at cP
        gi_wp2_with fail
        refine ⟨trivial, (CallsIn.inRound l (callsIn_wide.2 cP)).mono ?_⟩
        rintro e W2 ⟨rfl, hb⟩
        obtain ⟨r3, r4, hbel, hke, r1, r2, hkp⟩ := after_part hS hb
        gi_wp2_with fail
        exact ⟨hke, hkp, by rw [List.length_append, List.length_singleton, hk]; exact r1, r2, r3, r4, by simp; omega, fun y hy => by
          rcases List.mem_append.1 hy with hy | hy
          · exact hS.fine y hy
          · rw [List.mem_singleton.1 hy]; exact hg, hbel, Nat.le_trans hS.room hke.size⟩
  case done =>
    rintro D xs W hxs hS hK hD
    have c3 := hS.res
    have c4 := hS.rf
    have hR : Hid (right p.data.toList = true) := hS.yes hxs
    gi_wp2
    have hK' := (KeepsOthers.setCell W ⟨w.heap.size, 0, none⟩ (.bool true)).same D _ hK rfl
    refine ⟨by simp, .inl ⟨_, _, rfl, run_takeDeferred hK', ?_⟩⟩
    have hc5 : ((W.setCell ⟨w.heap.size, 0, none⟩ (.bool true)).putObj D (.deferred none)).cell? ⟨w.heap.size, 0, none⟩ = some (.bool true) :=
      (World.cell?_of_block (World.putObj_heap_other (by show w.heap.size ≠ D; omega))).trans (World.cell?_setCell_same' _ _ _ (by rw [c3]; rfl))
    refine ⟨.bool true, ?_, by rw [hR.out], (hS.below.setCell (p := ⟨w.heap.size, 0, none⟩) (Nat.le_refl _) _).trans (belowK_b (w := w) (Nat.le_refl _) _ D _ _ (by omega) hK' rfl rfl)⟩
    simp [results, Tryz.f95, go_sem, hc5]
  case stop =>
    rintro D c pre W hpre ⟨rfl, hL⟩ hK hD
    have c3 := hL.res
    have hR : Hid (right p.data.toList = false) := hL.not hpre
    gi_wp2
    refine ⟨by simp, .inl ⟨_, _, rfl, run_takeDeferred hK, ?_⟩⟩
    have hc5 : (W.putObj D (.deferred none)).cell? ⟨w.heap.size, 0, none⟩ = some (.bool false) :=
      (World.cell?_of_block (World.putObj_heap_other (by show w.heap.size ≠ D; omega))).trans c3
    refine ⟨.bool false, ?_, by rw [hR.out], hL.below.trans (belowK_b (w := w) (Nat.le_refl _) _ D _ _ (by omega) hK rfl rfl)⟩
    simp [results, Tryz.f95, go_sem, hc5]

end Go.Proofs.YtbiilnhefoplkaaGreatDoor.Path
