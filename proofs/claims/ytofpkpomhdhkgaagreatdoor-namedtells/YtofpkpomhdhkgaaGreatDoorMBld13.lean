/-
  What is proved here: what is written into a strings.Builder that is part of another struct, and what it tells then. Conditions: it is the call's own, and holds fewer bytes than the machine's limit.
-/
import Derived.Test.YtofpkpomhdhkgaaGreatDoorMLayT
import Derived.Test.YtofpkpomhdhkgaaGreatDoorM8Strs9
import Derived.Lib.FrozenHead2
import Derived.Lib.OthersKept
namespace Go.Proofs.YtofpkpomhdhkgaaGreatDoor
open Go.RowKit Go.Shelf
set_option maxRecDepth 100000

theorem wr_lies : liesAt Tryz.prog Tryz.prog.depth 51 (2 / Tryz.prog.cellsOf 51) 0 49 1 = true := by kernel_rfl
theorem bu_two : (Tryz.prog.info? 49).map (·.size) = some 2 := by kernel_rfl

/-- What a call leaves that writes to the builder at b. -/
structure Wrote (B b : Nat) (l : List UInt8) (w w' : World) : Prop where
  at' : Lib.IsBuilderF 51 5 B b (Lib.byteCells l) w'
  below : Below B w w'
  others : Lib.OthersKept 5 (some b) w w'

theorem Wrote.then {B b : Nat} {l m : List UInt8} {w w1 w2 : World} (h : Wrote B b l w w1) (k : Wrote B b m w1 w2) : Wrote B b m w w2 :=
  ⟨k.at', h.below.trans k.below, h.others.trans k.others⟩

set_option maxHeartbeats 1000000 in
theorem copyCheck_13 (B b : Nat) (bs : List Value) (w : World) (h : Lib.IsBuilderF 51 5 B b bs w) :
    Calls Tryz.prog 86 #[.pointer (some ⟨b, 0, none⟩)] w fun e w' => e = .returned (.tuple #[]) ∧ Lib.BuilderAtF 51 5 B b (.pointer (some ⟨b, 0, none⟩)) bs w' ∧ Below B w w' ∧ Lib.OthersKept 5 (some b) w w' := by
  obtain ⟨j, hj, hjs⟩ := Option.map_eq_some_iff.1 bu_two
  rcases h with h | h
  · have c0 := h.cell0
    have fz := h.frozen0
    have sh := h.shape
    have u1 : (convert 47 132 (.pointer (some ⟨b, 0, none⟩))).run Tryz.prog w = .ok (.pointer (some ⟨b, 0, none⟩)) w := Lib.run_to_unsafe w ⟨b, 0, none⟩ Tryz.underlying47 Tryz.underlying132 hj (by rw [hjs]; decide) sh (Nat.zero_lt_succ 1)
    have u2 : (convert 132 47 (.pointer (some ⟨b, 0, none⟩))).run Tryz.prog w = .ok (.pointer (some ⟨b, 0, none⟩)) w := Lib.run_from_unsafe w ⟨b, 0, none⟩ Tryz.underlying132 Tryz.underlying47 hj sh wr_lies
    have HE := toHid8 (show Lib.BuilderAtF 51 5 B b (.pointer (some ⟨b, 0, none⟩)) bs (w.setCell ⟨b, 0, none⟩ (.pointer (some ⟨b, 0, none⟩))) ∧ Below B w (w.setCell ⟨b, 0, none⟩ (.pointer (some ⟨b, 0, none⟩))) ∧ Lib.OthersKept 5 (some b) w (w.setCell ⟨b, 0, none⟩ (.pointer (some ⟨b, 0, none⟩))) from ⟨h.used _, (Below.refl B w).setCell (p := ⟨b, 0, none⟩) h.1 _, (Lib.OthersKept.refl _ _ w).setCell ⟨b, 0, none⟩ rfl _⟩)
    clear h sh hj hjs
    go_enter Tryz.func86, Tryz.ntmps86
    go_wp2
    rw [run_callFunc_extern Tryz.func111 (by kernel_rfl) (by kernel_rfl) (by kernel_rfl) (e := Extern.AbiNoEscape.same) (by kernel_rfl), Lib.run_noEscape]
    simp only [Result.andThen]
    rw [Oper.upon_value]
    go_wp2
    go_end0
    exact ⟨rfl, HE.out⟩
  · have c0 := h.cell0
    have HE := toHid8 h
    have u3 := Lib.run_neq_ptr_same w ⟨b, 0, none⟩ Tryz.underlying47 hj
    clear h hj hjs
    go_enter Tryz.func86, Tryz.ntmps86
    go_wp2
    go_end0
    exact ⟨rfl, HE.out, Below.refl B _, Lib.OthersKept.refl _ _ _⟩

theorem info8_13 : (Tryz.prog.info? 5).map (fun i => (i.zero, i.size, i.bytes)) = some (some (.int .u8 0), 1, 1) := by kernel_rfl

/-- A builder's two cells, and what its row is. -/
theorem bld_open {B b : Nat} {bs : List Value} {w : World} (h : Lib.BuilderAtF 51 5 B b (.pointer (some ⟨b, 0, none⟩)) bs w) :
    ∃ v, B ≤ b ∧ b < w.heap.size ∧ w.heap[b]? = some (.cells #[.pointer (some ⟨b, 0, none⟩), v] 51 (0, 0)) ∧ w.ownsRowF B 5 1 v bs.length bs ∧ v.ownBlock ≠ some b ∧ w.cell? ⟨b, 0, none⟩ = some (.pointer (some ⟨b, 0, none⟩)) ∧ w.cell? ⟨b, 1, none⟩ = some v := by
  have hl := h.lt
  obtain ⟨h1, v, h2, h3, h4⟩ := h
  exact ⟨v, h1, hl, h2, h3, h4, by rw [Lib.cell_of_heap h2]; rfl, by rw [Lib.cell_of_heap h2]; rfl⟩

/-- The row put back, longer. -/
theorem bld_put {B b : Nat} {bs bs' : List Value} {v v' : Value} {w0 w w2 : World} (hB : B ≤ b) (hlt : b < w.heap.size) (hbk : w.heap[b]? = some (.cells #[.pointer (some ⟨b, 0, none⟩), v] 51 (0, 0))) (hown : w.ownsRowF B 5 1 v bs.length bs) (hne : v.ownBlock ≠ some b) (hown' : w2.ownsRowF B 5 1 v' bs'.length bs') (hg : w.grownBy w2 v.ownBlock) (hb : Below B w0 w) (hk : Lib.OthersKept 5 (some b) w0 w) (hBw : B ≤ w.heap.size) :
    (w2.cell? ⟨b, 0, none⟩ = some (.pointer (some ⟨b, 0, none⟩)) ∧ w2.cell? ⟨b, 1, none⟩ = some v ∧ w2.frozen? ⟨b, 1, none⟩ = false) ∧ Lib.BuilderAtF 51 5 B b (.pointer (some ⟨b, 0, none⟩)) bs' (w2.setCell ⟨b, 1, none⟩ v') ∧ Below B w0 (w2.setCell ⟨b, 1, none⟩ v') ∧ Lib.OthersKept 5 (some b) w0 (w2.setCell ⟨b, 1, none⟩ v') := by
  have hb2 : w2.heap[b]? = some (.cells #[.pointer (some ⟨b, 0, none⟩), v] 51 (0, 0)) := (hg.block b hlt (fun e => hne e.symm)).trans hbk
  refine ⟨⟨by rw [Lib.cell_of_heap hb2]; rfl, by rw [Lib.cell_of_heap hb2]; rfl, Lib.frozen_of_heap hb2 1⟩, Lib.BuilderAtF.put (T := 51) (e := 5) hB hb2 hown' (by decide), ?_, ?_⟩
  · exact (hb.grown hg hBw (fun k hk => (hown.lt k hk).1)).setCell (p := ⟨b, 1, none⟩) hB _
  · exact (hk.grown hg (Lib.ownsRowF_kind hown)).setCell ⟨b, 1, none⟩ rfl _

set_option maxHeartbeats 2000000 in
theorem writeString_13 (B b : Nat) (l : List UInt8) (s : ByteArray) (w : World) (h : Lib.IsBuilderF 51 5 B b (Lib.byteCells l) w) (hlen : l.length + s.size ≤ 140737488355328) (hBw : B ≤ w.heap.size) :
    Calls Tryz.prog 61 #[.pointer (some ⟨b, 0, none⟩), .string s] w fun e w' => e = .returned (.tuple #[.int .i64 s.size, .nilIface]) ∧ Wrote B b (l ++ s.data.toList) w w' := by
  obtain ⟨i0, hi, hz0, hz1, hz2⟩ := info_parts info8_13
  have q1 := copyCheck_13 B b _ w h
  have HL := toHid8 (Lib.byteCells_length l)
  clear h
  go_enter Tryz.func61, Tryz.ntmps61
  go_wp2_with fail
  with_reducible refine q1.mono ?_
  rintro e w1 ⟨rfl, h1, hb1, hk1⟩
  obtain ⟨v, hB, hlt, hbk, hown, hne, c0, c1⟩ := bld_open h1
  have sz := hb1.size
  go_wp2_with (at_builtin; refine Lib.wpList_append_own_stringF _ rfl _ _ 26 9 rfl B 5 i0 Tryz.underlying26 Tryz.underlying9 hi hz0 hz1 hz2 _ _ _ rfl hown s rfl ?c3 ?c4 ?c5 ?_)
  case c3 => rw [HL.out]; unfold maxLen; omega
  case c4 => rw [HL.out]; omega
  case c5 => omega
  intro v' w2 hown' hgrow _
  obtain ⟨⟨d0, d1, f1⟩, e1, e2, e3⟩ := bld_put (bs' := Lib.byteCells l ++ Lib.strCells s) hB hlt hbk hown hne (by simpa [Lib.strCells_length] using hown') hgrow hb1 hk1 (by omega)
  have HE := toHid8 (show Wrote B b (l ++ s.data.toList) w (w2.setCell ⟨b, 1, none⟩ v') from ⟨.inr (by rw [Lib.byteCells_append]; exact e1), e2, e3⟩)
  obtain ⟨ao, n', cap, rfl⟩ : ∃ ao n' cap, v' = .slice ao n' cap := by
    rcases hown'.2 with ⟨hv, _⟩ | ⟨g, cap, cur, fz, hv, _⟩
    · exact ⟨_, _, _, hv⟩
    · exact ⟨_, _, _, hv⟩
  clear q1 hown hown' hgrow hbk h1 e1 e2 e3 hb1 hk1
  go_wp2_with fail
  go_ret2
  exact ⟨rfl, HE.out⟩

set_option maxHeartbeats 2000000 in
theorem writeByte_13 (B b : Nat) (l : List UInt8) (c : UInt8) (w : World) (h : Lib.IsBuilderF 51 5 B b (Lib.byteCells l) w) (hlen : l.length + 1 ≤ 140737488355328) (hBw : B ≤ w.heap.size) :
    Calls Tryz.prog 62 #[.pointer (some ⟨b, 0, none⟩), .int .u8 c.toNat] w fun e w' => e = .returned .nilIface ∧ Wrote B b (l ++ [c]) w w' := by
  obtain ⟨i0, hi, hz0, hz1, hz2⟩ := info_parts info8_13
  have q1 := copyCheck_13 B b _ w h
  have HL := toHid8 (Lib.byteCells_length l)
  obtain ⟨C, hC⟩ : ∃ C, (c.toNat : Int) = C := ⟨_, rfl⟩
  have HC := toHid8 (show Lib.byteCells l ++ [Value.int .u8 C] = Lib.byteCells (l ++ [c]) by rw [Lib.byteCells_append, ← hC]; rfl)
  rw [hC]
  clear h hC
  go_enter Tryz.func62, Tryz.ntmps62
  go_wp2_with fail
  with_reducible refine q1.mono ?_
  rintro e w1 ⟨rfl, h1, hb1, hk1⟩
  obtain ⟨v, hB, hlt, hbk, hown, hne, c0, c1⟩ := bld_open h1
  have sz := hb1.size
  go_wp2_with (at_builtin; refine wpList_append_ownF _ rfl _ _ 26 rfl B 5 i0 (.int .u8 0) 1 1 Tryz.underlying26 hi hz0 hz1 hz2 rfl (by decide) _ _ _ rfl (hown.alloc _) ⟨w1.heap.size, 0, none⟩ 1 1 [.int .u8 C] rfl rfl ?c1 ?c2 ?c3 ?c4 ?c5 ?_)
  case c1 =>
    intro j u hj
    match j, hj with
    | 0, hj => simp at hj; subst hj; simp [Addr.add]
  case c2 => intro u hu; simp at hu; subst hu; rfl
  case c3 => rw [HL.out]; unfold maxLen; omega
  case c4 => rw [HL.out]; omega
  case c5 => simp; omega
  intro v' w2 hown' hgrow _
  have hbk2 : (w1.alloc (.cells #[.int .u8 C] 5)).heap[b]? = some (.cells #[.pointer (some ⟨b, 0, none⟩), v] 51 (0, 0)) := (Lib.alloc_old w1 _ b hlt).trans hbk
  obtain ⟨⟨d0, d1, f1⟩, e1, e2, e3⟩ := bld_put (bs' := Lib.byteCells l ++ [.int .u8 C]) hB (by simp; omega) hbk2 (hown.alloc _) hne (by simpa using hown') hgrow (hb1.alloc (by omega) _) (hk1.alloc _) (by simp; omega)
  rw [HC.out] at e1
  have HE := toHid8 (show Wrote B b (l ++ [c]) w (w2.setCell ⟨b, 1, none⟩ v') from ⟨.inr e1, e2, e3⟩)
  obtain ⟨ao, n', cap, rfl⟩ : ∃ ao n' cap, v' = .slice ao n' cap := by
    rcases hown'.2 with ⟨hv, _⟩ | ⟨g, cap, cur, fz, hv, _⟩
    · exact ⟨_, _, _, hv⟩
    · exact ⟨_, _, _, hv⟩
  clear q1 hown hown' hgrow hbk hbk2 h1 e1 e2 e3 hb1 hk1
  go_wp2_with fail
  go_ret
  exact ⟨rfl, HE.out⟩

theorem cells8_13 : Tryz.prog.cellsOf 5 = 1 := by kernel_rfl

set_option maxHeartbeats 1000000 in
theorem string_13 (B b : Nat) (l : List UInt8) (w : World) (h : Lib.IsBuilderF 51 5 B b (Lib.byteCells l) w) (h0 : l ≠ []) :
    Calls Tryz.prog 23 #[.pointer (some ⟨b, 0, none⟩)] w fun e w' => e = .returned (.string ⟨l.toArray⟩) ∧ Below B w w' := by
  obtain ⟨p, hAt⟩ : ∃ p, Lib.BuilderAtF 51 5 B b p (Lib.byteCells l) w := by
    rcases h with h | h
    · exact ⟨_, h⟩
    · exact ⟨_, h⟩
  obtain ⟨hB, v, hbk, hown, hne⟩ := hAt
  have hl0 : l.length ≠ 0 := by simpa using h0
  rw [Lib.byteCells_length] at hown
  obtain ⟨g, cap, cur, fz, rfl, hbg, hg, hfz, hnc, hcm, hcs, htake⟩ : ∃ g cap cur fz, v = .slice (some ⟨g, 0, none⟩) l.length cap ∧ B ≤ g ∧ w.heap[g]? = some (.cells cur 5 fz) ∧ fz.2 ≤ l.length * 1 ∧ l.length ≤ cap ∧ cap ≤ maxLen ∧ cur.size = cap * 1 ∧ cur.toList.take (l.length * 1) = Lib.byteCells l := by
    rcases hown.2 with ⟨_, hz⟩ | ⟨g, cap, cur, fz, hv, r⟩
    · exact absurd hz hl0
    · exact ⟨g, cap, cur, fz, hv, r⟩
  have c1 : w.drew.cell? ⟨b, 1, none⟩ = some (.slice (some ⟨g, 0, none⟩) l.length cap) := by
    have hbd : w.drew.heap[b]? = some (.cells #[p, .slice (some ⟨g, 0, none⟩) l.length cap] 51 (0, 0)) := hbk
    rw [Lib.cell_of_heap hbd]; rfl
  have hgd : w.drew.heap[g]? = some (.cells cur 5 fz) := hg
  have sd : (Builtin.unsafeSliceData_ #[26] 78 #[.slice (some ⟨g, 0, none⟩) l.length cap]).run Tryz.prog w.drew = .ok (.pointer (some ⟨g, 0, none⟩)) w.drew := Lib.run_unsafeSliceData_row _ _ _ _ _ _ (by omega)
  have us : (Builtin.unsafeString_ #[78, 3] 9 #[.pointer (some ⟨g, 0, none⟩), .int .i64 l.length]).run Tryz.prog w.drew = .ok (.string ⟨l.toArray⟩) (w.drew.freeze ⟨g, 0, none⟩ l.length) :=
    Lib.run_unsafeString_row w.drew 78 3 9 5 Tryz.underlying78 cells8_13 g cur.size (by simp [World.shape?, hgd]) l h0 (by omega) (by unfold maxLen at hcm; omega) (fun j x hx => hown.cells (g := g) rfl j (.int .u8 x.toNat) (by simp [Lib.byteCells, hx]))
  have HE := toHid8 (show Below B w (w.drew.freeze ⟨g, 0, none⟩ l.length) from Lib.below_freeze (Below.drew (Below.refl B w)) (p := ⟨g, 0, none⟩) hbg _)
  have mixed : Tryz.prog.follows .mixedOrders = true := by kernel_rfl
  clear h h0 hl0 hown hg hgd hfz hcm hcs htake hbk hne
  go_enter Tryz.func23, Tryz.ntmps23
  go_wp2
  go_region_o
  all_goals (go_wp2; go_ret; exact ⟨rfl, HE.out⟩)

end Go.Proofs.YtofpkpomhdhkgaaGreatDoor
