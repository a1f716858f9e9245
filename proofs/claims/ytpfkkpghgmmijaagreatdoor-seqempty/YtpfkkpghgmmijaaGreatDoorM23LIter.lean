/-
  What is proved here: the contracts that the statement stands on: LIter, LRightP, LTok, LJoin, LRep. Conditions: as each theorem names them.
-/
import Derived.Test.YtpfkkpghgmmijaaGreatDoorM3LPlain
import Derived.Test.YtpfkkpghgmmijaaGreatDoorM8LStrs
import Derived.Test.YtpfkkpghgmmijaaGreatDoorMLLay
import Derived.Shelf.Abstract
import Derived.Shelf.RegionOpen
import Derived.WalkKit
import Derived.OwnWalkIn
import Derived.TacticsInMore
import Derived.LoopNIn
import Derived.LoopIn
namespace Go.Proofs.YtpfkkpghgmmijaaGreatDoor.Lines
open Go.RowKit Go.Shelf
set_option maxRecDepth 100000
attribute [local go_sem] Oper.semAt_some

set_option maxHeartbeats 1000000 in
theorem pieces_any (s : ByteArray) (w : World) : Calls Tryz.prog 159 #[.string s] w fun e w' => e = .returned (.func (.func 178) #[] #[.pointer (some ⟨w.heap.size, 0, none⟩)]) ∧ w' = w.alloc (.cells #[.string s] 9) := by
  go_enter Tryz.func159, Tryz.ntmps159
  go_wp2_with fail
  go_ret
  exact ⟨rfl, rfl⟩

def sizeV (v : Value) : Nat := match v with | .string s => s.size | _ => 0

theorem cut_pieces {r : ByteArray} (h0 : 0 < r.size) {pre : List ByteArray} {p : Bs} (e : bs pre ++ pieces r.data.toList = pieces p) :
    0 < firstLen r.data.toList ∧ firstLen r.data.toList ≤ r.size ∧ bs (pre ++ [r.extract 0 (firstLen r.data.toList)]) ++ pieces (r.extract (firstLen r.data.toList) r.size).data.toList = pieces p := by
  have hne : r.data.toList ≠ [] := fun e => by have := len_eq r; rw [e] at this; simp at this; omega
  have h1 := firstLen_le r.data.toList
  rw [len_eq] at h1
  refine ⟨firstLen_pos hne, h1, ?_⟩
  rw [← e, pieces_cut hne, bs_append, List.append_assoc, show bs [r.extract 0 (firstLen r.data.toList)] = [(r.extract 0 (firstLen r.data.toList)).data.toList] from rfl, seg_list, seg_list]
  rw [List.drop_zero, Nat.sub_zero, List.take_of_length_le (l := r.data.toList.drop (firstLen r.data.toList)) (by rw [List.length_drop, len_eq]; omega)]
  rfl

set_option maxHeartbeats 2000000 in
theorem pieces_seq (p : ByteArray) (b n : Nat) (hp : (p.size : Int) < 1000000000) : SeqM (α := ByteArray) Fence.wide n Tryz.prog 178 #[.pointer (some ⟨b, 0, none⟩)] (fun x => #[.string x]) None' (fun _ _ => True)
    (fun xs => bs xs = pieces p.data.toList) (fun pre => ∃ t, bs pre ++ t = pieces p.data.toList) (fun W => W.cell? ⟨b, 0, none⟩ = some (.string p)) := fun l J Jx W hB hJ hJx hY h0 => by
  refine callsIn_of_wp Tryz.func178 rfl trivial ?_ rfl
  simp only [Tryz.ntmps178, List.size_toArray, List.length_cons, List.length_nil, Nat.reduceAdd, Nat.reduceSub, Array.replicate_succ, Array.replicate_zero, List.push_toArray, List.append_toArray, List.nil_append, List.cons_append]
  gi_wp2
  clear hB
  gi_loopw [3] (fun v wr => ∃ (pre : List ByteArray) (r : ByteArray), v = .string r ∧ (r.size : Int) < 1000000000 ∧ Hid (bs pre ++ pieces r.data.toList = pieces p.data.toList) ∧ Hid (J pre wr)) (fun v _ => sizeV v)
  case atStart => exact ⟨[], p, rfl, hp, rfl, h0⟩
  case round =>
    clear h0 hp
    obtain ⟨pre, r, rfl, hr, HP, HJ⟩ := hrel
    by_cases h0 : 0 < r.size
    · have hne : ¬ r.data.toList = [] := fun e => by have := len_eq r; rw [e] at this; simp at this; omega
      obtain ⟨q1, q2⟩ := asks_no hne
      have q3 : ¬ r = ByteArray.empty := fun e => by rw [e] at hne; exact hne rfl
      obtain ⟨m1, m2, m3⟩ := cut_pieces h0 HP.out
      have cF := first_any r wr h0 hr
      generalize firstLen r.data.toList = m at m1 m2 m3 cF
      have HM : Hid _ := m3
      clear hne m3 HP
      gi_wp2_with fail
      refine ⟨trivial, (fun h => by cases h), (callsIn_wide.2 cF).mono ?_⟩
      rintro e w1 ⟨rfl, f1⟩
      have hJ1 := hJ pre wr w1 HJ.out f1
      obtain ⟨fn, tmps, assign, body, hy, hR⟩ := hY pre (r.extract 0 m) w1 hJ1 ⟨_, HM.out⟩
      clear cF hY HJ f1 hJ1 q1 q2 q3
      gi_wp2_with fail
      refine ⟨(fun h => by cases h), hR.mono ?_⟩
      clear hy hR
      rintro e W' (⟨rfl, hJ', _⟩ | ⟨rfl, hJx'⟩)
      · have HJ' : Hid _ := hJ'
        clear hJ'
        gi_wp2_with fail
        go_roundw
        case rel => exact ⟨_, _, rfl, by simp; omega, HM.out, HJ'.out⟩
        case measure => simp [sizeV]; omega
      · gi_wp2_with fail
        refine bodyPost_ret (results_none rfl _ _ _) rfl ?_
        exact ⟨⟨_, rfl⟩, .inr ⟨_, ⟨_, HM.out⟩, hJx'⟩⟩
    · have he : r.data.toList = [] := List.eq_nil_of_length_eq_zero (by rw [len_eq]; omega)
      have HE : Hid (bs pre = pieces p.data.toList) := by
        have := HP.out
        rw [he, pieces_nil, List.append_nil] at this
        exact this
      obtain rfl : r = ByteArray.empty := str_of he
      clear he hr h0
      gi_wp2
      go_end0
      exact ⟨⟨_, rfl⟩, .inl ⟨pre, HE.out, HJ.out⟩⟩

end Go.Proofs.YtpfkkpghgmmijaaGreatDoor.Lines

namespace Go.Proofs.YtpfkkpghgmmijaaGreatDoor.Lines
open Go.RowKit Go.Shelf
set_option maxRecDepth 100000

theorem index_no10 (x : Bs) : decide (0 ≤ Lib.indexByte x 10) = !no10 x := by
  rw [← no10_is, Bool.not_not, Bool.eq_iff_iff]
  have hge := Lib.indexByte_ge x 10
  simp only [decide_eq_true_eq, List.contains_iff_mem]
  constructor
  · intro h
    obtain ⟨i, hi⟩ := Int.eq_ofNat_of_zero_le h
    obtain ⟨h1, _⟩ := Lib.indexByte_some hi
    exact List.mem_of_getElem? h1
  · intro hm
    obtain ⟨k, hk, e⟩ := List.getElem_of_mem hm
    rcases Int.lt_or_le (Lib.indexByte x 10) 0 with h | h
    · exact absurd (by rw [List.getElem?_eq_getElem hk, e]) (Lib.indexByte_none (show Lib.indexByte x 10 = -1 by omega) k)
    · exact h

set_option maxHeartbeats 1000000 in
theorem right1_any (x : ByteArray) (w : World) : Calls Tryz.prog 107 #[.string x] w fun e w' => e = .returned (.bool (!no10 x.data.toList)) ∧ w = w' := by
  have cC := (Tryz.strings_Contains_one x 10 w).mono (R' := fun e w' => e = _ ∧ w = w') fun _ _ ⟨a, b⟩ => ⟨a, b.symm⟩
  rw [index_no10] at cC
  generalize (!no10 x.data.toList) = R at cC
  go_enter Tryz.func107, Tryz.ntmps107
  go_wp2_with (go_at_call 108; refine cC.mono ?_; rintro e w' ⟨rfl, rfl⟩)
  go_ret
  exact ⟨rfl, rfl⟩

set_option maxHeartbeats 2000000 in
theorem indexFunc_any (va : Option Addr) (ca : Nat) (l : List ByteArray) (w : World) (ha : Row w va l) (hl : (l.length : Int) < 1000000) :
    Calls Tryz.prog 142 #[.slice va l.length ca, .func (.func 107) #[] #[]] w fun e w' => ∃ z : Int, e = .returned (.int .i64 z) ∧ decide (0 ≤ z) = !right (bs l) ∧ w = w' := by
  obtain ⟨n, hna⟩ : ∃ n, l.length = n := ⟨_, rfl⟩
  have HA : Hid (l.length = n) := hna
  rw [hna] at hl ⊢
  clear hna
  go_enter Tryz.func142, Tryz.ntmps142
  go_wp2_with fail
  go_loopw [8] (fun i wr => ∃ k : Nat, k ≤ n ∧ i = .int .i64 k ∧ wr = w ∧ Hid (right (bs (l.take k)) = true)) (fun i _ => n - (intOf i).toNat)
  case atStart => exact ⟨0, Nat.zero_le _, rfl, rfl, rfl⟩
  case round =>
    obtain ⟨k, hk, rfl, hw, HT⟩ := hrel
    subst hw
    by_cases hlt : k < n
    · have hka : k < l.length := by rw [HA.out]; exact hlt
      obtain ⟨ga, oa, rfl, c1⟩ := ha.get hka
      obtain ⟨x, hx⟩ : ∃ x, l[k] = x := ⟨_, rfl⟩
      have HX : Hid (l[k] = x) := hx
      rw [hx] at c1
      clear hx ha
      have i2 : (k : Int) < n := by omega
      have cR := right1_any x wr
      cases hb : no10 x.data.toList
      · rw [hb] at cR
        have HR : Hid (right (bs l) = false) := right_not hka (by rw [HX.out]; exact hb)
        clear HX HT HA hb
        go_wp2_with fail
        refine cR.mono ?_
        rintro e w' ⟨rfl, rfl⟩
        clear cR
        go_wp2_with fail
        go_ret
        exact ⟨_, rfl, by rw [HR.out]; simp, rfl⟩
      · rw [hb] at cR
        have HR : Hid (right (bs (l.take (k + 1))) = true) := right_step hka HT.out (by rw [HX.out]; exact hb)
        clear HX HT HA hb
        go_wp2_with fail
        refine cR.mono ?_
        rintro e w' ⟨rfl, rfl⟩
        clear cR
        go_wp2_with fail
        exact ⟨⟨k + 1, by omega, by go_num, trivial, HR.out⟩, by simp [intOf]; omega⟩
    · have HR : Hid (right (bs l) = true) := by
        have := HT.out
        rw [List.take_of_length_le (by rw [HA.out]; omega)] at this
        exact this
      go_wp2_with fail
      go_ret
      exact ⟨_, rfl, by rw [HR.out]; rfl, rfl⟩

set_option maxHeartbeats 1000000 in
theorem right_any (va : Option Addr) (ca : Nat) (l : List ByteArray) (w : World) (ha : Row w va l) (hl : (l.length : Int) < 1000000) :
    Calls Tryz.prog 77 #[.slice va l.length ca] w fun e w' => e = .returned (.bool (right (bs l))) ∧ w = w' := by
  have cI := indexFunc_any va ca l w ha hl
  have cC : Calls Tryz.prog 106 #[.slice va l.length ca, .func (.func 107) #[] #[]] w fun e w' => e = .returned (.bool (!right (bs l))) ∧ w = w' := by
    clear ha hl
    generalize right (bs l) = R at cI
    generalize l.length = n at cI
    go_enter Tryz.func106, Tryz.ntmps106
    go_wp2_with (go_at_call 142; refine cI.mono ?_; rintro e w' ⟨z, rfl, hz, rfl⟩)
    go_ret
    exact ⟨rfl, rfl⟩
  clear ha hl cI
  generalize right (bs l) = R at cC
  generalize l.length = n at cC
  go_enter Tryz.func77, Tryz.ntmps77
  go_wp2_with (go_at_call 106; refine cC.mono ?_; rintro e w' ⟨rfl, rfl⟩)
  go_ret
  exact ⟨ret_bool (by simp), rfl⟩

end Go.Proofs.YtpfkkpghgmmijaaGreatDoor.Lines

namespace Go.Proofs.YtpfkkpghgmmijaaGreatDoor.Lines
open Go.RowKit Go.Shelf
set_option maxRecDepth 100000
attribute [local go_sem] Oper.semAt_some

theorem enc_is (x : ByteArray) : encStr x.data.toList = .string x := by show Value.string _ = _; rw [← str_of (s := x) rfl]

theorem pieces_gives (p : ByteArray) (b n : Nat) (w : World) (hp : (p.size : Int) < 1000000000) (hb : w.cell? ⟨b, 0, none⟩ = some (.string p)) :
    SeqGives Fence.wide n Tryz.prog 178 #[.pointer (some ⟨b, 0, none⟩)] encStr (fun xs => xs = pieces p.data.toList) 1000000000 w := fun l J W hbel hJ hY h0 => by
  have hlt : b < w.heap.size := cell_lt hb
  have habide : ∀ {J' : List ByteArray → World → Prop}, (∀ s A B, J' s A → A.grownBy B none → J' s B) → Abide None' J' := fun h s A B hs f =>
    h s A B hs ⟨f.os, f.tape, f.output, f.size, fun k hk _ => f.block k hk id⟩
  refine (pieces_seq p b n hp l (fun pre W => J (bs pre) W) (fun _ _ => False) W ((hbel.cell (p := ⟨b, 0, none⟩) hlt).trans hb)
    (habide fun s A B hs hg => hJ _ _ _ none hs hg (fun r e => by cases e)) (fun _ _ _ h _ => h.elim) (fun pre x W1 h hsp => ?_) h0).mono ?_
  · obtain ⟨t, ht⟩ := hsp
    have hlen := congrArg List.length ht
    have hc := pieces_count_le p.data.toList
    rw [List.length_append, bs_length, List.length_append, List.length_singleton] at hlen
    rw [len_eq] at hc
    obtain ⟨fn, tmps, assign, body, h1, h2⟩ := hY (bs pre) x.data.toList W1 h (by rw [bs_length]; omega)
    rw [enc_is] at h1
    refine ⟨fn, tmps, assign, body, h1, h2.mono ?_⟩
    rintro e W' ⟨rfl, hj, _⟩
    exact .inl ⟨rfl, by rw [bs_append]; exact hj, trivial⟩
  · rintro e W' ⟨hv, (⟨xs, hS, hj⟩ | ⟨_, _, h⟩)⟩
    · exact ⟨hv, _, hS, hj⟩
    · exact h.elim

set_option maxHeartbeats 2000000 in
theorem tokens_any (s : ByteArray) (w : World) (hs : (s.size : Int) < 1000000000) : Calls Tryz.prog 124 #[.string s] w fun e w' => ∃ v, e = .returned v ∧ Made w (pieces s.data.toList) v w' := by
  have cP := pieces_any s w
  have hb : (w.alloc (.cells #[.string s] 9)).cell? ⟨w.heap.size, 0, none⟩ = some (.string s) := by simp
  have cC : Calls Tryz.prog 79 #[.func (.func 178) #[] #[.pointer (some ⟨w.heap.size, 0, none⟩)]] (w.alloc (.cells #[.string s] 9)) _ := callsIn_wide.1 (AnyZ.collect_in Tryz.coll79 Fence.wide 3 trivial trivial rfl (by omega) 178 _ trivial (enters_of Tryz.func178 (by kernel_rfl) rfl) (fun xs => xs = pieces s.data.toList) 1000000000 (by unfold maxLen; omega) (by omega) _ (pieces_gives s w.heap.size 1 _ hs hb))
  clear hb
  go_enter Tryz.func124, Tryz.ntmps124
  go_wp2_with first
    | (go_at_call 159; refine cP.mono ?_; rintro e w' ⟨rfl, rfl⟩)
    | (go_at_call 79; refine cC.mono ?_; rintro e w' ⟨v, ss, rfl, hS, hrow, _, hbel⟩)
  go_ret
  refine ⟨v, rfl, ?_⟩
  have hrow' : OwnS (w.alloc (.cells #[.string s] 9)) w' v (ss.map fun x => ⟨x.toArray⟩) := by
    unfold OwnS
    rw [List.length_map, List.map_map]
    exact hrow
  have hmade := hrow'.made (t := pieces s.data.toList) (by rw [← hS, bs, List.map_map]; exact List.map_id'' (fun _ => rfl) _) (Grew.of hbel)
  exact ⟨hmade.is, (Fr.alloc None' w _).then (Grew.of hbel), hmade.room, fun k hk => ⟨Nat.le_trans (Fr.alloc None' w _).size (hmade.own k hk).1, (hmade.own k hk).2⟩⟩

end Go.Proofs.YtpfkkpghgmmijaaGreatDoor.Lines

namespace Go.Proofs.YtpfkkpghgmmijaaGreatDoor.Lines
open Go.RowKit Go.Shelf
set_option maxRecDepth 100000

theorem builder_cells (l : Bs) (x : ByteArray) : Lib.byteCells l ++ Lib.strCells x = Lib.byteCells (l ++ x.data.toList) := by rw [Lib.byteCells_append]; rfl

/-- What is kept from w on, where only what lay there must be kept. -/
theorem Fr.then_below {a b c : World} (h : Fr None' a b) (k : Below a.heap.size b c) : Fr None' a c :=
  ⟨k.os.trans h.os, k.tape.trans h.tape, k.output.trans h.output, Nat.le_trans h.size k.size, fun i hi _ => (k.block i hi).trans (h.block i hi id)⟩

end Go.Proofs.YtpfkkpghgmmijaaGreatDoor.Lines

namespace Go.Proofs.YtpfkkpghgmmijaaGreatDoor.Lines
open Go.RowKit Go.Shelf
set_option maxRecDepth 100000
attribute [local go_sem] Oper.semAt_some

/-- A text in a box. -/
def Box (W : World) (b : Nat) (x : ByteArray) : Prop := W.heap[b]? = some (.cells #[.string x] 9 (0, 0))

theorem Box.cell {W : World} {b : Nat} {x : ByteArray} (h : Box W b x) : W.cell? ⟨b, 0, none⟩ = some (.string x) := (cell_of_box_a h).1

theorem Box.new (W : World) (x : ByteArray) : Box (W.alloc (.cells #[.string x] 9)) W.heap.size x := heap_alloc_new W _

theorem Box.fr {W W' : World} {b : Nat} {x : ByteArray} (h : Box W b x) (f : Fr None' W W') : Box W' b x := f.at h id

theorem cells_kept {base : Nat} {M : Nat → Prop} {A B : World} {k : Nat} {c : Array Value} {t : TypeId} {z : Nat × Nat} (h : A.heap[k]? = some (.cells c t z)) (f : Fr (fun k => M k ∨ (base ≤ k ∧ NoCells A k)) A B) (hm : ¬ M k) : B.heap[k]? = some (.cells c t z) :=
  f.at h (fun e => e.elim hm (fun e => e.2 _ _ _ h))

theorem builder_kept {base : Nat} {A B : World} {T e : TypeId} {B0 b : Nat} {l : List Value} (h : Lib.IsBuilderF T e B0 b l A) (f : Fr (fun k => None' k ∨ (base ≤ k ∧ NoCells A k)) A B) : Lib.IsBuilderF T e B0 b l B := by
  have one : ∀ {p : Value}, Lib.BuilderAtF T e B0 b p l A → Lib.BuilderAtF T e B0 b p l B := fun {p} h => by
    obtain ⟨h1, v, h2, h3, h4⟩ := h
    refine ⟨h1, v, cells_kept h2 f id, ⟨h3.1, ?_⟩, h4⟩
    rcases h3.2 with h | ⟨g, cap, cur, fz, hv, hb, hh, hrest⟩
    · exact .inl h
    · exact .inr ⟨g, cap, cur, fz, hv, hb, cells_kept hh f id, hrest⟩
  rcases h with h | h
  · exact .inl (one h)
  · exact .inr (one h)

theorem builder_others {A B : World} {T : TypeId} {B0 b : Nat} {p : Value} {l : List Value} (h : Lib.BuilderAtF T 5 B0 b p l A) (hs : A.heap.size ≤ B.heap.size) (k : Lib.OthersKept 5 (some b) A B) : KeepsOthers A B :=
  ⟨hs, fun i o hi ho => k i o hi (fun e => by
      obtain ⟨_, v, h2, _⟩ := h
      cases e
      rw [h2] at hi
      cases hi
      cases ho) (fun c fz e => by rw [e] at ho; cases ho)⟩

theorem builderF_others {A B : World} {T : TypeId} {B0 b : Nat} {l : List Value} (h : Lib.IsBuilderF T 5 B0 b l A) (hs : A.heap.size ≤ B.heap.size) (k : Lib.OthersKept 5 (some b) A B) : KeepsOthers A B := by
  rcases h with h | h
  · exact builder_others h hs k
  · exact builder_others h hs k

/-- What Replace's loop has made. -/
structure RepAt (w : World) (bf bt bb : Nat) (f u : ByteArray) (pre : List ByteArray) (W : World) : Prop where
  cf : Box W bf f
  cu : Box W bt u
  bu : Lib.IsBuilderF 163 5 bb bb (Lib.byteCells (((bs pre).map (rep f.data.toList u.data.toList)).flatten)) W
  fr : Fr None' w W
  room : bb < W.heap.size

theorem RepAt.abide (w : World) (bf bt bb : Nat) (f u : ByteArray) (base : Nat) (hb : w.heap.size ≤ base) : AbideN base None' (RepAt w bf bt bb f u) := fun pre A B h fr =>
  ⟨cells_kept h.cf fr id, cells_kept h.cu fr id, builder_kept h.bu fr, h.fr.trans (M' := fun k => None' k ∨ (base ≤ k ∧ NoCells A k)) fr (fun i e => e.elim (fun e => e.elim) (fun e => .inr (by omega))), Nat.lt_of_lt_of_le h.room fr.size⟩

theorem rep_bound2 (f u : Bs) : ∀ l : List Bs, ((l.map (rep f u)).flatten).length ≤ l.flatten.length + l.length * u.length
  | [] => by simp
  | p :: l => by
    have ih := rep_bound2 f u l
    have h1 : (rep f u p).length ≤ p.length + u.length := by unfold rep; split <;> omega
    rw [List.map_cons, List.flatten_cons, List.flatten_cons, List.length_append, List.length_append, List.length_cons, Nat.add_mul]
    omega

theorem pre_bound {s : ByteArray} {f u : Bs} {pre t : List Bs} (h : pre ++ t = pieces s.data.toList) : ((pre.map (rep f u)).flatten).length ≤ s.size + s.size * u.length := by
  have h1 := rep_bound2 f u pre
  have h2 := congrArg (fun l => l.flatten.length) h
  simp only [List.flatten_append, List.length_append, (pieces_all s.data.toList).2] at h2
  have h3 := congrArg List.length h
  have h4 := pieces_count_le s.data.toList
  rw [List.length_append] at h3
  rw [len_eq] at h2 h4
  have h5 : pre.length * u.length ≤ s.size * u.length := Nat.mul_le_mul (by omega) (Nat.le_refl _)
  omega

theorem rep_snoc (f u : Bs) (pre : List ByteArray) (x : ByteArray) : (((bs (pre ++ [x])).map (rep f u)).flatten) = (((bs pre).map (rep f u)).flatten) ++ rep f u x.data.toList := by
  rw [bs_append, List.map_append, List.flatten_append, show bs [x] = [x.data.toList] from rfl]
  simp

/-- Behind a round. -/
theorem RepAt.after {w : World} {bf bt bb : Nat} {f u x : ByteArray} {pre : List ByteArray} {W W2 : World} {p : Value} {m : Bs} (h : RepAt w bf bt bb f u pre W) (h1 : Lib.BuilderAtF 163 5 bb bb p (Lib.byteCells m) W2)
    (hp : p = .pointer (some ⟨bb, 0, none⟩)) (b1 : Below bb W W2) (k1 : Lib.OthersKept 5 (some bb) W W2) (n1 : bf ≠ bb) (n2 : bt ≠ bb) (hw : w.heap.size ≤ bb)
    (hm : ((bs (pre ++ [x])).map (rep f.data.toList u.data.toList)).flatten = m) : RepAt w bf bt bb f u (pre ++ [x]) W2 :=
  ⟨k1 _ _ h.cf (fun e => n1 (Option.some.inj e)) (fun c fz e => by cases e), k1 _ _ h.cu (fun e => n2 (Option.some.inj e)) (fun c fz e => by cases e), by rw [hm]; subst hp; exact .inr h1, h.fr.then_below (b1.mono hw), Nat.lt_of_lt_of_le h.room b1.size⟩

set_option maxHeartbeats 2000000 in
theorem replace_any (s f u : ByteArray) (w : World) (hs : (s.size : Int) < 1000000000) (hf : f.size < 90000000) (hB : s.size + s.size * u.size ≤ 10000000000000) :
    Calls Tryz.prog 125 #[.string s, .string f, .string u] w fun e w' => e = .returned (.string ⟨(replace s.data.toList f.data.toList u.data.toList).toArray⟩) ∧ Fr None' w w' := by
  have HB : Hid (s.size + s.size * u.data.toList.length ≤ 10000000000000) := by rw [len_eq]; exact hB
  have cT := token_any f ((w.alloc (.cells #[.string f] 9)).alloc (.cells #[.string u] 9)) hf
  clear hf hB
  unfold replace
  cases ht : tok f.data.toList
  · rw [ht] at cT
    have hS : Hid ((⟨s.data.toList.toArray⟩ : ByteArray) = s) := (str_of rfl).symm
    simp only [Bool.false_eq_true, if_false]
    rw [hS.out]
    clear ht hs
    go_enter Tryz.func125, Tryz.ntmps125
    go_wp2_with (go_at_call 122; refine cT.mono ?_; rintro e w' ⟨rfl, f1⟩)
    go_ret
    exact ⟨rfl, ((Fr.alloc _ _ _).then (Fr.alloc _ _ _)).then f1⟩
  · rw [ht] at cT
    simp only [if_true]
    clear ht
    refine (callsIn_wide (n := 3)).1 ?_
    refine callsIn_of_wp_marks Tryz.func125 rfl trivial ?_ rfl
    simp only [Tryz.ntmps125, List.size_toArray, List.length_cons, List.length_nil, Nat.reduceAdd, Nat.reduceSub, Array.replicate_succ, Array.replicate_zero, List.push_toArray, List.append_toArray, List.nil_append, List.cons_append]
    gi_wp2_with fail
    refine ⟨trivial, (callsIn_wide.2 cT).mono ?_⟩
    rintro e w2 ⟨rfl, f2⟩
    have b1 : Box w2 w.heap.size f := Box.fr (Fr.at (Fr.alloc None' _ _) (Box.new w f) id) f2
    have b2 : Box w2 (w.heap.size + 1) u := by
      have := Box.new (w.alloc (.cells #[.string f] 9)) u
      rw [World.size_alloc] at this
      exact this.fr f2
    have f02 : Fr None' w w2 := ((Fr.alloc _ _ _).then (Fr.alloc _ _ _)).then f2
    have hlt : w.heap.size + 2 ≤ w2.heap.size := by have := f2.size; simp at this; omega
    clear cT f2
    have cP := pieces_any s (w2.alloc (.cells #[.pointer none, .slice none 0 0] 163))
    rw [World.size_alloc] at cP
    gi_wp2_with fail
    refine ⟨trivial, (callsIn_wide.2 cP).mono ?_⟩
    rintro e w3 ⟨rfl, hw3⟩
    clear cP
    have f23 : Fr None' w2 w3 := by rw [hw3]; exact (Fr.alloc _ _ _).then (Fr.alloc _ _ _)
    have hsz : w3.heap.size = w2.heap.size + 2 := by rw [hw3]; simp
    have hbu : Lib.IsBuilderF 163 5 w2.heap.size w2.heap.size (Lib.byteCells []) w3 := by
      rw [hw3]; exact (Lib.IsBuilderF.of (Lib.fresh_isBuilder 163 5 w2)).alloc _
    have hbox : Box w3 (w2.heap.size + 1) s := by
      have := Box.new (w2.alloc (.cells #[.pointer none, .slice none 0 0] 163)) s
      rw [World.size_alloc] at this
      rw [hw3]; exact this
    clear hw3
    have hAt : RepAt w w.heap.size (w.heap.size + 1) w2.heap.size f u [] w3 := ⟨b1.fr f23, b2.fr f23, hbu, f02.then f23, by omega⟩
    clear b1 b2 hbu f02 f23
    gi_wp2_with fail
    refine range_own (α := ByteArray) rfl (by omega) (gf := 178) (lb := #[.pointer (some ⟨w2.heap.size + 1, 0, none⟩)]) rfl trivial (enters_of Tryz.func178 (by kernel_rfl) rfl) (pieces_seq s (w2.heap.size + 1) _ hs)
      (fun k hk => hk.elim) (fun W hb => (Box.fr hbox (Grew.of hb)).cell) (fun _ _ => trivial) (fun _ _ _ _ => trivial) (fun _ => rfl)
      (RepAt w w.heap.size (w.heap.size + 1) w2.heap.size f u) (fun _ _ _ => False) (RepAt.abide _ _ _ _ _ _ _ (by omega)) (fun _ _ _ _ h _ => h) hAt
      (fun x => { tmps := #[.string s, .string f, .string u, undef, .pointer (some ⟨w.heap.size, 0, none⟩), .pointer (some ⟨w.heap.size + 1, 0, none⟩), .string ⟨#[]⟩, .pointer (some ⟨w2.heap.size, 0, none⟩), .string x, .string f, .bool true, .bool false, undef, .string s, .func (.func 178) #[] #[.pointer (some ⟨w2.heap.size + 1, 0, none⟩)], .string x, undef, undef, undef, undef, undef, undef, undef], defers := [] }) ?assign ?body ?done ?stop
    case assign =>
      intro l x W K hK
      gi_wp2
      exact hK
    case body =>
      rintro l pre x W hS ⟨t, ht⟩ hl
      clear hAt hbox
      have c1 := hS.cf.cell
      have c2 := hS.cu.cell
      have hbd := pre_bound (f := f.data.toList) (u := u.data.toList) ht
      rw [rep_snoc, List.length_append] at hbd
      have hroom := hS.room
      by_cases hxf : x = f
      · rw [hxf, rep_yes, len_eq] at hbd
        have cW := Tryz.Builder_WriteString_k w2.heap.size w2.heap.size _ u W hS.bu (by rw [Lib.byteCells_length]; have := HB.out; rw [len_eq] at this; omega) (by omega)
        rw [builder_cells] at cW
        subst hxf
        gi_wp2_with fail
        refine ⟨trivial, (CallsIn.inRound l (callsIn_wide.2 cW)).mono ?_⟩
        rintro e W2 ⟨rfl, h1, b1, k1⟩
        clear cW
        gi_wp2_with fail
        exact ⟨builderF_others hS.bu b1.size k1, trivial, hS.after h1 rfl b1 k1 (by omega) (by omega) (by omega) (by rw [rep_snoc, rep_yes])⟩
      · rw [rep_no (fun e => hxf (by rw [str_of e])), len_eq] at hbd
        obtain ⟨q1, q2⟩ := str_no hxf
        have cW := Tryz.Builder_WriteString_k w2.heap.size w2.heap.size _ x W hS.bu (by rw [Lib.byteCells_length]; have := HB.out; omega) (by omega)
        rw [builder_cells] at cW
        have HX : Hid (¬ x = f) := hxf
        clear hxf
        gi_wp2_with fail
        refine ⟨trivial, (CallsIn.inRound l (callsIn_wide.2 cW)).mono ?_⟩
        rintro e W2 ⟨rfl, h1, b1, k1⟩
        clear cW
        gi_wp2_with fail
        exact ⟨builderF_others hS.bu b1.size k1, trivial, hS.after h1 rfl b1 k1 (by omega) (by omega) (by omega) (by rw [rep_snoc, rep_no (fun e => HX.out (by rw [str_of e]))])⟩
    case done =>
      rintro D xs W hxs hS hK hD
      clear hAt hbox
      have HX : Hid (((bs xs).map (rep f.data.toList u.data.toList)).flatten = ((pieces s.data.toList).map (rep f.data.toList u.data.toList)).flatten) := by rw [hxs]; rfl
      have hbu := hS.bu
      rw [HX.out] at hbu
      have cS := Tryz.Builder_String_any_k w2.heap.size w2.heap.size _ W hbu (by have := hS.room; omega)
      gi_wp2_with fail
      refine ⟨trivial, (callsIn_wide.2 cS).mono ?_⟩
      rintro e W2 ⟨rfl, _, b1, k1⟩
      clear cS
      have hK' := k1 D _ hK (fun e => by cases e; omega) (fun c fz e => by cases e)
      gi_wp2_with fail
      refine ⟨by simp, .inl ⟨_, _, rfl, run_takeDeferred hK', ?_⟩⟩
      exact ⟨_, results_tmp rfl _ _ _, rfl, (hS.fr.then_below (b1.mono (by omega))).trans (Fr.putObj (M := fun k => k = D) _ rfl _) (fun i e => .inr (by omega))⟩
    case stop =>
      rintro D c pre W _ h _ _
      exact h.elim

end Go.Proofs.YtpfkkpghgmmijaaGreatDoor.Lines
