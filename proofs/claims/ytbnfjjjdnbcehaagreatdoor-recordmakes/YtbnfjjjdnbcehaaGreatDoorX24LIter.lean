/- What is proved here: contracts for RecordMakes. Conditions: as named. -/
import Derived.Test.YtbnfjjjdnbcehaaGreatDoorX3LPlain
import Derived.Test.YtbnfjjjdnbcehaaGreatDoorX7LStrs
import Derived.Test.YtbnfjjjdnbcehaaGreatDoorXLayT
import Derived.Test.YtbnfjjjdnbcehaaGreatDoorXLay8
import Derived.Shelf.Abstract
import Derived.Shelf.RegionOpen
import Derived.WalkKit
import Derived.OwnWalkIn
import Derived.TacticsInMore
import Derived.LoopNIn
import Derived.LoopIn
set_option maxHeartbeats 16000000
namespace Go.Proofs.YtbnfjjjdnbcehaaGreatDoor.Lines
open Go.RowKit Go.Shelf
set_option maxRecDepth 100000
attribute [local go_sem] Oper.semAt_some
theorem pieces_any (s : ByteArray) (w : World) : Calls Tryz.prog 185 #[.string s] w fun e w' => e = .returned (.func (.func 212) #[] #[.pointer (some ⟨w.heap.size, 0, none⟩)]) ∧ w' = w.alloc (.cells #[.string s] 9) := by
 go_enter Tryz.func185, Tryz.ntmps185
 go_wp2_with fail
 go_ret
 exact ⟨rfl, rfl⟩
def sizeV (v : Value) : Nat := match v with | .string s => s.size | _ => 0
theorem cut_pieces {r : ByteArray} (h0 : 0 < r.size) {pre : List ByteArray} {p : Bs} (e : bs pre ++ pieces r.data.toList = pieces p) :
  0 < Zm r.data.toList ∧ Zm r.data.toList ≤ r.size ∧ bs (pre ++ [r.extract 0 (Zm r.data.toList)]) ++ pieces (r.extract (Zm r.data.toList) r.size).data.toList = pieces p := by
 have hne : r.data.toList ≠ [] := fun e => by have := Z1 r; rw [e] at this; simp at this; omega
 have h1 := firstLen_le r.data.toList
 rw [Z1] at h1
 refine ⟨firstLen_pos hne, h1, ?_⟩
 rw [← e, pieces_cut hne, bs_append, List.append_assoc, show bs [r.extract 0 (Zm r.data.toList)] = [(r.extract 0 (Zm r.data.toList)).data.toList] from rfl, seg_list, seg_list]
 rw [List.drop_zero, Nat.sub_zero, List.take_of_length_le (l := r.data.toList.drop (Zm r.data.toList)) (by rw [List.length_drop, Z1]; omega)]
 rfl
theorem pieces_seq (p : ByteArray) (b n : Nat) (hp : (p.size : Int) < 1000000000) : SeqM (α := ByteArray) Fence.wide n Tryz.prog 212 #[.pointer (some ⟨b, 0, none⟩)] (fun x => #[.string x]) None' (fun _ _ => True)
  (fun xs => bs xs = pieces p.data.toList) (fun pre => ∃ t, bs pre ++ t = pieces p.data.toList) (fun W => W.cell? ⟨b, 0, none⟩ = some (.string p)) := fun l J Jx W hB hJ hJx hY h0 => by
 refine callsIn_of_wp Tryz.func212 rfl trivial ?_ rfl
 simp only [Tryz.ntmps212, List.size_toArray, List.length_cons, List.length_nil, Nat.reduceAdd, Nat.reduceSub, Array.replicate_succ, Array.replicate_zero, List.push_toArray, List.append_toArray, List.nil_append, List.cons_append]
 gi_wp2
 clear hB
 gi_loopw [3] (fun v wr => ∃ (pre : List ByteArray) (r : ByteArray), v = .string r ∧ (r.size : Int) < 1000000000 ∧ Hid (bs pre ++ pieces r.data.toList = pieces p.data.toList) ∧ Hid (J pre wr)) (fun v _ => sizeV v)
 case atStart => exact ⟨[], p, rfl, hp, rfl, h0⟩
 case round =>
  clear h0 hp
  obtain ⟨pre, r, rfl, hr, HP, HJ⟩ := hrel
  by_cases h0 : 0 < r.size
  ·have hne : ¬ r.data.toList = [] := fun e => by have := Z1 r; rw [e] at this; simp at this; omega
   obtain ⟨q1, q2⟩ := asks_no hne
   have q3 : ¬ r = ByteArray.empty := fun e => by rw [e] at hne; exact hne rfl
   obtain ⟨m1, m2, m3⟩ := cut_pieces h0 HP.out
   have cF := first_any r wr h0 hr
   generalize Zm r.data.toList = m at m1 m2 m3 cF
   have HM : Hid _ := m3
   clear hne m3 HP
   gi_wp2_with fail
   refine ⟨trivial, (fun h => by cases h), (callsIn_wide.2 cF).mono ?_⟩
   rintro e w1 ⟨rfl, f1⟩
   have hJ1 := hJ pre wr w1 HJ.out f1
   obtain ⟨fn, tmps, assign, body, hy, hR⟩ := hY pre (r.extract 0 m) w1 hJ1 ⟨_, HM.out⟩
   clear cF hY HJ f1 hJ1 q1 q2 q3
   gi_wp2_with fail
   refine ⟨(fun h => by cases h), hR.mono ?_⟩
   clear hy hR
   rintro e W' (⟨rfl, hJ', _⟩ | ⟨rfl, hJx'⟩)
   ·have HJ' : Hid _ := hJ'
    clear hJ'
    gi_wp2_with fail
    go_roundw
    case rel => exact ⟨_, _, rfl, by simp; omega, HM.out, HJ'.out⟩
    case measure => simp [sizeV]; omega
   ·gi_wp2_with fail
    refine bodyPost_ret (results_none rfl _ _ _) rfl ?_
    exact ⟨⟨_, rfl⟩, .inr ⟨_, ⟨_, HM.out⟩, hJx'⟩⟩
  ·have he : r.data.toList = [] := List.eq_nil_of_length_eq_zero (by rw [Z1]; omega)
   have HE : Hid (bs pre = pieces p.data.toList) := by
    have := HP.out
    rw [he, pieces_nil, List.append_nil] at this
    exact this
   obtain rfl : r = ByteArray.empty := str_of he
   clear he hr h0
   gi_wp2
   go_end0
   exact ⟨⟨_, rfl⟩, .inl ⟨pre, HE.out, HJ.out⟩⟩
end Go.Proofs.YtbnfjjjdnbcehaaGreatDoor.Lines
namespace Go.Proofs.YtbnfjjjdnbcehaaGreatDoor.Lines
open Go.RowKit Go.Shelf
set_option maxRecDepth 100000
theorem index_no10 (x : Bs) : decide (0 ≤ Lib.indexByte x 10) = !no10 x := by
 rw [← no10_is, Bool.not_not, Bool.eq_iff_iff]
 have hge := Lib.indexByte_ge x 10
 simp only [decide_eq_true_eq, List.contains_iff_mem]
 constructor
 ·intro h
  obtain ⟨i, hi⟩ := Int.eq_ofNat_of_zero_le h
  obtain ⟨h1, _⟩ := Lib.indexByte_some hi
  exact List.mem_of_getElem? h1
 ·intro hm
  obtain ⟨k, hk, e⟩ := List.getElem_of_mem hm
  rcases Int.lt_or_le (Lib.indexByte x 10) 0 with h | h
  ·exact absurd (by rw [List.getElem?_eq_getElem hk, e]) (Lib.indexByte_none (show Lib.indexByte x 10 = -1 by omega) k)
  ·exact h
theorem right1_any (x : ByteArray) (w : World) : Calls Tryz.prog 126 #[.string x] w fun e w' => e = .returned (.bool (!no10 x.data.toList)) ∧ w = w' := by
 have cC := (Tryz.strings_Contains_one x 10 w).mono (R' := fun e w' => e = _ ∧ w = w') fun _ _ ⟨a, b⟩ => ⟨a, b.symm⟩
 rw [index_no10] at cC
 generalize (!no10 x.data.toList) = R at cC
 go_enter Tryz.func126, Tryz.ntmps126
 go_wp2_with (go_at_call 127; refine cC.mono ?_; rintro e w' ⟨rfl, rfl⟩)
 go_ret
 exact ⟨rfl, rfl⟩
theorem indexFunc_any (va : Option Addr) (ca : Nat) (l : List ByteArray) (w : World) (ha : Row w va l) (hl : (l.length : Int) < 1000000) :
  Calls Tryz.prog 162 #[.slice va l.length ca, .func (.func 126) #[] #[]] w fun e w' => ∃ z : Int, e = .returned (.int .i64 z) ∧ decide (0 ≤ z) = !right (bs l) ∧ w = w' := by
 obtain ⟨n, hna⟩ : ∃ n, l.length = n := ⟨_, rfl⟩
 have HA : Hid (l.length = n) := hna
 rw [hna] at hl ⊢
 clear hna
 go_enter Tryz.func162, Tryz.ntmps162
 go_wp2_with fail
 go_loopw [8] (fun i wr => ∃ k : Nat, k ≤ n ∧ i = .int .i64 k ∧ wr = w ∧ Hid (right (bs (l.take k)) = true)) (fun i _ => n - (intOf i).toNat)
 case atStart => exact ⟨0, Nat.zero_le _, rfl, rfl, rfl⟩
 case round =>
  obtain ⟨k, hk, rfl, hw, HT⟩ := hrel
  subst hw
  by_cases hlt : k < n
  ·have hka : k < l.length := by rw [HA.out]; exact hlt
   obtain ⟨ga, oa, rfl, c1⟩ := ha.get hka
   obtain ⟨x, hx⟩ : ∃ x, l[k] = x := ⟨_, rfl⟩
   have HX : Hid (l[k] = x) := hx
   rw [hx] at c1
   clear hx ha
   have i2 : (k : Int) < n := by omega
   have cR := right1_any x wr
   cases hb : no10 x.data.toList
   ·rw [hb] at cR
    have HR : Hid (right (bs l) = false) := right_not hka (by rw [HX.out]; exact hb)
    clear HX HT HA hb
    go_wp2_with fail
    refine cR.mono ?_
    rintro e w' ⟨rfl, rfl⟩
    clear cR
    go_wp2_with fail
    go_ret
    exact ⟨_, rfl, by rw [HR.out]; simp, rfl⟩
   ·rw [hb] at cR
    have HR : Hid (right (bs (l.take (k + 1))) = true) := right_step hka HT.out (by rw [HX.out]; exact hb)
    clear HX HT HA hb
    go_wp2_with fail
    refine cR.mono ?_
    rintro e w' ⟨rfl, rfl⟩
    clear cR
    go_wp2_with fail
    exact ⟨⟨k + 1, by omega, by go_num, trivial, HR.out⟩, by simp [intOf]; omega⟩
  ·have HR : Hid (right (bs l) = true) := by
    have := HT.out
    rw [List.take_of_length_le (by rw [HA.out]; omega)] at this
    exact this
   go_wp2_with fail
   go_ret
   exact ⟨_, rfl, by rw [HR.out]; rfl, rfl⟩
theorem right_any (va : Option Addr) (ca : Nat) (l : List ByteArray) (w : World) (ha : Row w va l) (hl : (l.length : Int) < 1000000) :
  Calls Tryz.prog 93 #[.slice va l.length ca] w fun e w' => e = .returned (.bool (right (bs l))) ∧ w = w' := by
 have cI := indexFunc_any va ca l w ha hl
 have cC : Calls Tryz.prog 125 #[.slice va l.length ca, .func (.func 126) #[] #[]] w fun e w' => e = .returned (.bool (!right (bs l))) ∧ w = w' := by
  clear ha hl
  generalize right (bs l) = R at cI
  generalize l.length = n at cI
  go_enter Tryz.func125, Tryz.ntmps125
  go_wp2_with (go_at_call 162; refine cI.mono ?_; rintro e w' ⟨z, rfl, hz, rfl⟩)
  go_ret
  exact ⟨rfl, rfl⟩
 clear ha hl cI
 generalize right (bs l) = R at cC
 generalize l.length = n at cC
 go_enter Tryz.func93, Tryz.ntmps93
 go_wp2_with (go_at_call 125; refine cC.mono ?_; rintro e w' ⟨rfl, rfl⟩)
 go_ret
 exact ⟨ret_bool (by simp), rfl⟩
attribute [local go_sem] Oper.semAt_some
theorem enc_is (x : ByteArray) : encStr x.data.toList = .string x := by show Value.string _ = _; rw [← str_of (s := x) rfl]
theorem pieces_gives (p : ByteArray) (b n : Nat) (w : World) (hp : (p.size : Int) < 1000000000) (hb : w.cell? ⟨b, 0, none⟩ = some (.string p)) :
  SeqGives Fence.wide n Tryz.prog 212 #[.pointer (some ⟨b, 0, none⟩)] encStr (fun xs => xs = pieces p.data.toList) 1000000000 w := fun l J W hbel hJ hY h0 => by
 have hlt : b < w.heap.size := Zq hb
 have habide : ∀ {J' : List ByteArray → World → Prop}, (∀ s A B, J' s A → A.grownBy B none → J' s B) → Abide None' J' := fun h s A B hs f =>
  h s A B hs ⟨f.os, f.tape, f.output, f.size, fun k hk _ => f.block k hk id⟩
 refine (pieces_seq p b n hp l (fun pre W => J (bs pre) W) (fun _ _ => False) W ((hbel.cell (p := ⟨b, 0, none⟩) hlt).trans hb)
  (habide fun s A B hs hg => hJ _ _ _ none hs hg (fun r e => by cases e)) (fun _ _ _ h _ => h.elim) (fun pre x W1 h hsp => ?_) h0).mono ?_
 ·obtain ⟨t, ht⟩ := hsp
  have hlen := congrArg List.length ht
  have hc := pieces_count_le p.data.toList
  rw [List.length_append, bs_length, List.length_append, List.length_singleton] at hlen
  rw [Z1] at hc
  obtain ⟨fn, tmps, assign, body, h1, h2⟩ := hY (bs pre) x.data.toList W1 h (by rw [bs_length]; omega)
  rw [enc_is] at h1
  refine ⟨fn, tmps, assign, body, h1, h2.mono ?_⟩
  rintro e W' ⟨rfl, hj, _⟩
  exact .inl ⟨rfl, by rw [bs_append]; exact hj, trivial⟩
 ·rintro e W' ⟨hv, (⟨xs, hS, hj⟩ | ⟨_, _, h⟩)⟩
  ·exact ⟨hv, _, hS, hj⟩
  ·exact h.elim
theorem tokens_any (s : ByteArray) (w : World) (hs : (s.size : Int) < 1000000000) : Calls Tryz.prog 145 #[.string s] w fun e w' => ∃ v, e = .returned v ∧ Made w (pieces s.data.toList) v w' := by
 have cP := pieces_any s w
 have hb : (w.alloc (.cells #[.string s] 9)).cell? ⟨w.heap.size, 0, none⟩ = some (.string s) := by simp
 have cC : Calls Tryz.prog 100 #[.func (.func 212) #[] #[.pointer (some ⟨w.heap.size, 0, none⟩)]] (w.alloc (.cells #[.string s] 9)) _ := callsIn_wide.1 (AnyZ.collect_in Tryz.coll100 Fence.wide 3 trivial trivial rfl (by omega) 212 _ trivial (enters_of Tryz.func212 (by kernel_rfl) rfl) (fun xs => xs = pieces s.data.toList) 1000000000 (by unfold maxLen; omega) (by omega) _ (pieces_gives s w.heap.size 1 _ hs hb))
 clear hb
 go_enter Tryz.func145, Tryz.ntmps145
 go_wp2_with first
  | (go_at_call 185; refine cP.mono ?_; rintro e w' ⟨rfl, rfl⟩)
  | (go_at_call 100; refine cC.mono ?_; rintro e w' ⟨v, ss, rfl, hS, hrow, _, hbel⟩)
 go_ret
 refine ⟨v, rfl, ?_⟩
 have hrow' : OwnS (w.alloc (.cells #[.string s] 9)) w' v (ss.map fun x => ⟨x.toArray⟩) := by
  unfold OwnS
  rw [List.length_map, List.map_map]
  exact hrow
 have hmade := hrow'.made (t := pieces s.data.toList) (by rw [← hS, bs, List.map_map]; exact List.map_id'' (fun _ => rfl) _) (Grew.of hbel)
 exact ⟨hmade.is, (Fr.alloc None' w _).then (Grew.of hbel), hmade.room, fun k hk => ⟨Nat.le_trans (Fr.alloc None' w _).size (hmade.own k hk).1, (hmade.own k hk).2⟩⟩
end Go.Proofs.YtbnfjjjdnbcehaaGreatDoor.Lines
namespace Go.Proofs.YtbnfjjjdnbcehaaGreatDoor.Lines
open Go.RowKit Go.Shelf
set_option maxRecDepth 100000
theorem builder_cells (l : Bs) (x : ByteArray) : Lib.byteCells l ++ Lib.strCells x = Lib.byteCells (l ++ x.data.toList) := by rw [Lib.byteCells_append]; rfl
theorem Fr.then_below {a b c : World} (h : Fr None' a b) (k : Below a.heap.size b c) : Fr None' a c :=
 ⟨k.os.trans h.os, k.tape.trans h.tape, k.output.trans h.output, Nat.le_trans h.size k.size, fun i hi _ => (k.block i hi).trans (h.block i hi id)⟩
end Go.Proofs.YtbnfjjjdnbcehaaGreatDoor.Lines
