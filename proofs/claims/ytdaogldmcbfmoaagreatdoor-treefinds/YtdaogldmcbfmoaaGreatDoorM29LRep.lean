/-
  What is proved here: the contracts that the statement stands on: LRep, LSplit. Conditions: as each theorem names them.
-/
import Derived.Test.YtdaogldmcbfmoaaGreatDoorM27LIter
import Derived.Test.YtdaogldmcbfmoaaGreatDoorM25LRightP
import Derived.Test.YtdaogldmcbfmoaaGreatDoorMLRTok
namespace Go.Proofs.YtdaogldmcbfmoaaGreatDoor.Lines
open Go.RowKit Go.Shelf
set_option maxRecDepth 100000
attribute [local go_sem] Oper.semAt_some

/-- A text in a box. -/
def Box (W : World) (b : Nat) (x : ByteArray) : Prop := W.heap[b]? = some (.cells #[.string x] 9 (0, 0))

theorem Box.cell {W : World} {b : Nat} {x : ByteArray} (h : Box W b x) : W.cell? ⟨b, 0, none⟩ = some (.string x) := (cell_of_box_a h).1

theorem Box.free {W : World} {b : Nat} {x : ByteArray} (h : Box W b x) : W.frozen? ⟨b, 0, none⟩ = false := (cell_of_box_a h).2

theorem Box.new (W : World) (x : ByteArray) : Box (W.alloc (.cells #[.string x] 9)) W.heap.size x := heap_alloc_new W _

theorem Box.fr {W W' : World} {b : Nat} {x : ByteArray} (h : Box W b x) (f : Fr None' W W') : Box W' b x := f.at h id

theorem cells_kept {base : Nat} {M : Nat → Prop} {A B : World} {k : Nat} {c : Array Value} {t : TypeId} {z : Nat × Nat} (h : A.heap[k]? = some (.cells c t z)) (f : Fr (fun k => M k ∨ (base ≤ k ∧ NoCells A k)) A B) (hm : ¬ M k) : B.heap[k]? = some (.cells c t z) :=
  f.at h (fun e => e.elim hm (fun e => e.2 _ _ _ h))

theorem builder_kept {base : Nat} {A B : World} {T e : TypeId} {B0 b : Nat} {l : List Value} (h : Lib.IsBuilderF T e B0 b l A) (f : Fr (fun k => None' k ∨ (base ≤ k ∧ NoCells A k)) A B) : Lib.IsBuilderF T e B0 b l B := by
  have one : ∀ {p : Value}, Lib.BuilderAtF T e B0 b p l A → Lib.BuilderAtF T e B0 b p l B := fun {p} h => by
    obtain ⟨h1, v, h2, h3, h4⟩ := h
    refine ⟨h1, v, cells_kept h2 f id, ⟨h3.1, ?_⟩, h4⟩
    rcases h3.2 with h | ⟨g, cap, cur, fz, hv, hb, hh, hrest⟩
    · exact .inl h
    · exact .inr ⟨g, cap, cur, fz, hv, hb, cells_kept hh f id, hrest⟩
  rcases h with h | h
  · exact .inl (one h)
  · exact .inr (one h)

theorem builder_others {A B : World} {T : TypeId} {B0 b : Nat} {p : Value} {l : List Value} (h : Lib.BuilderAtF T 5 B0 b p l A) (hs : A.heap.size ≤ B.heap.size) (k : Lib.OthersKept 5 (some b) A B) : KeepsOthers A B :=
  ⟨hs, fun i o hi ho => k i o hi (fun e => by
      obtain ⟨_, v, h2, _⟩ := h
      cases e
      rw [h2] at hi
      cases hi
      cases ho) (fun c fz e => by rw [e] at ho; cases ho)⟩

theorem builderF_others {A B : World} {T : TypeId} {B0 b : Nat} {l : List Value} (h : Lib.IsBuilderF T 5 B0 b l A) (hs : A.heap.size ≤ B.heap.size) (k : Lib.OthersKept 5 (some b) A B) : KeepsOthers A B := by
  rcases h with h | h
  · exact builder_others h hs k
  · exact builder_others h hs k

/-- What Replace's loop has made. -/
structure RepAt (w : World) (bf bt bb : Nat) (f u : ByteArray) (pre : List ByteArray) (W : World) : Prop where
  cf : Box W bf f
  cu : Box W bt u
  bu : Lib.IsBuilderF 139 5 bb bb (Lib.byteCells (((bs pre).map (rep f.data.toList u.data.toList)).flatten)) W
  fr : Fr None' w W
  room : bb < W.heap.size

theorem RepAt.abide (w : World) (bf bt bb : Nat) (f u : ByteArray) (base : Nat) (hb : w.heap.size ≤ base) : AbideN base None' (RepAt w bf bt bb f u) := fun pre A B h fr =>
  ⟨cells_kept h.cf fr id, cells_kept h.cu fr id, builder_kept h.bu fr, h.fr.trans (M' := fun k => None' k ∨ (base ≤ k ∧ NoCells A k)) fr (fun i e => e.elim (fun e => e.elim) (fun e => .inr (by omega))), Nat.lt_of_lt_of_le h.room fr.size⟩

theorem rep_bound2 (f u : Bs) : ∀ l : List Bs, ((l.map (rep f u)).flatten).length ≤ l.flatten.length + l.length * u.length
  | [] => by simp
  | p :: l => by
    have ih := rep_bound2 f u l
    have h1 : (rep f u p).length ≤ p.length + u.length := by unfold rep; split <;> omega
    rw [List.map_cons, List.flatten_cons, List.flatten_cons, List.length_append, List.length_append, List.length_cons, Nat.add_mul]
    omega

theorem pre_bound {s : ByteArray} {f u : Bs} {pre t : List Bs} (h : pre ++ t = pieces s.data.toList) : ((pre.map (rep f u)).flatten).length ≤ s.size + s.size * u.length := by
  have h1 := rep_bound2 f u pre
  have h2 := congrArg (fun l => l.flatten.length) h
  simp only [List.flatten_append, List.length_append, (pieces_all s.data.toList).2] at h2
  have h3 := congrArg List.length h
  have h4 := pieces_count_le s.data.toList
  rw [List.length_append] at h3
  rw [len_eq] at h2 h4
  have h5 : pre.length * u.length ≤ s.size * u.length := Nat.mul_le_mul (by omega) (Nat.le_refl _)
  omega

theorem rep_snoc (f u : Bs) (pre : List ByteArray) (x : ByteArray) : (((bs (pre ++ [x])).map (rep f u)).flatten) = (((bs pre).map (rep f u)).flatten) ++ rep f u x.data.toList := by
  rw [bs_append, List.map_append, List.flatten_append, show bs [x] = [x.data.toList] from rfl]
  simp

/-- Behind a round. -/
theorem RepAt.after {w : World} {bf bt bb : Nat} {f u x : ByteArray} {pre : List ByteArray} {W W2 : World} {p : Value} {m : Bs} (h : RepAt w bf bt bb f u pre W) (h1 : Lib.BuilderAtF 139 5 bb bb p (Lib.byteCells m) W2)
    (hp : p = .pointer (some ⟨bb, 0, none⟩)) (b1 : Below bb W W2) (k1 : Lib.OthersKept 5 (some bb) W W2) (n1 : bf ≠ bb) (n2 : bt ≠ bb) (hw : w.heap.size ≤ bb)
    (hm : ((bs (pre ++ [x])).map (rep f.data.toList u.data.toList)).flatten = m) : RepAt w bf bt bb f u (pre ++ [x]) W2 :=
  ⟨k1 _ _ h.cf (fun e => n1 (Option.some.inj e)) (fun c fz e => by cases e), k1 _ _ h.cu (fun e => n2 (Option.some.inj e)) (fun c fz e => by cases e), by rw [hm]; subst hp; exact .inr h1, h.fr.then_below (b1.mono hw), Nat.lt_of_lt_of_le h.room b1.size⟩

end Go.Proofs.YtdaogldmcbfmoaaGreatDoor.Lines

namespace Go.Proofs.YtdaogldmcbfmoaaGreatDoor.Lines
open Go.RowKit Go.Shelf
set_option maxRecDepth 100000
attribute [local go_sem] Oper.semAt_some

set_option maxHeartbeats 1000000 in
theorem lines_any (s : ByteArray) (w : World) : Calls Tryz.prog 169 #[.string s] w fun e w' => e = .returned (.func (.func 192) #[] #[.pointer (some ⟨w.heap.size, 0, none⟩)]) ∧ w' = w.alloc (.cells #[.string s] 9) := by
  go_enter Tryz.func169, Tryz.ntmps169
  go_wp2_with fail
  go_ret
  exact ⟨rfl, rfl⟩

theorem index_is (s : ByteArray) (w : World) : Calls Tryz.prog 193 #[.string s, .int .u8 10] w fun e w' => e = .returned (.int .i64 (Lib.indexByte s.data.toList 10)) ∧ w = w' := (Tryz.strings_IndexByte s 10 w).mono fun _ _ ⟨a, b⟩ => ⟨a, b.symm⟩

/-- A text that is not empty has a line: up to its first byte 10. -/
theorem line_first {r : ByteArray} (h0 : 0 < r.size) (ht : text r.data.toList = true) : ∃ i : Nat, Lib.indexByte r.data.toList 10 = i ∧ i < r.size ∧ lns r.data.toList = r.data.toList.take i :: lns (r.data.toList.drop (i + 1)) ∧ text (r.data.toList.drop (i + 1)) = true ∧ r.data.toList.take (i + 1) = r.data.toList.take i ++ [10] := by
  have hge := Lib.indexByte_ge r.data.toList 10
  have hl := of_decide_eq_true ((text_last h0).symm.trans ht)
  by_cases hi : Lib.indexByte r.data.toList 10 = -1
  · exact absurd (by
      rw [List.getElem?_eq_getElem (by rw [len_eq]; omega)]
      exact congrArg some (UInt8.toNat_inj.1 hl)) (Lib.indexByte_none hi (r.size - 1))
  · obtain ⟨i, hi'⟩ := Int.eq_ofNat_of_zero_le (show 0 ≤ Lib.indexByte r.data.toList 10 by omega)
    obtain ⟨h1, h2⟩ := Lib.indexByte_some hi'
    obtain ⟨hlt, e⟩ := List.getElem?_eq_some_iff.1 h1
    have hat := lns_at (s := r.data.toList) (a := 0) (b := i) (Nat.zero_le _) hlt (fun j hj _ hji e => h2 j hji (by rw [List.getElem?_eq_getElem hj, e])) e
    rw [List.drop_zero, Nat.sub_zero] at hat
    refine ⟨i, hi', by rw [← len_eq]; exact hlt, hat, ?_, by rw [List.take_succ_eq_append_getElem hlt, e]⟩
    have := List.take_append_drop (i + 1) r.data.toList
    rw [← this] at ht
    exact text_right ht

def ten (x : Bs) : Bs := x ++ [10]

def leftS (b : Nat) (W : World) : Nat := match W.cell? ⟨b, 0, none⟩ with | some (.string s) => s.size | _ => 0

theorem left_is {b : Nat} {s : ByteArray} {W : World} (h : Box W b s) : leftS b W = s.size := by rw [leftS, h.cell]

theorem cut_line {r : ByteArray} {i : Nat} {pre : List ByteArray} {p : Bs} (h1 : lns r.data.toList = r.data.toList.take i :: lns (r.data.toList.drop (i + 1))) (h2 : r.data.toList.take (i + 1) = r.data.toList.take i ++ [10])
    (e : bs pre ++ (lns r.data.toList).map ten = (lns p).map ten) : bs (pre ++ [r.extract 0 (i + 1)]) ++ (lns (r.extract (i + 1) r.size).data.toList).map ten = (lns p).map ten := by
  rw [← e, h1, bs_append, List.append_assoc, show bs [r.extract 0 (i + 1)] = [(r.extract 0 (i + 1)).data.toList] from rfl, seg_list, seg_list, List.drop_zero, Nat.sub_zero, h2,
    List.take_of_length_le (l := r.data.toList.drop (i + 1)) (by rw [List.length_drop, len_eq]; omega)]
  rfl

theorem Box.set {b : Nat} {s : ByteArray} {A : World} (h : Box A b s) (t : ByteArray) : Box (A.setCell ⟨b, 0, none⟩ (.string t)) b t := heap_setCell_box_a _ h

theorem fr_drew (w : World) : Fr None' w w.drew := ⟨rfl, rfl, rfl, Nat.le_refl _, fun _ _ _ => rfl⟩

set_option maxHeartbeats 2000000 in
theorem lines_seq (p : ByteArray) (b n : Nat) (hp : (p.size : Int) < 1000000000) (hT : text p.data.toList = true) : SeqM (α := ByteArray) Fence.wide n Tryz.prog 192 #[.pointer (some ⟨b, 0, none⟩)] (fun x => #[.string x]) (fun k => k = b) (fun A B => B.heap[b]? = A.heap[b]?)
    (fun xs => bs xs = (lns p.data.toList).map ten) (fun pre => ∃ t, bs pre ++ t = (lns p.data.toList).map ten) (fun W => Box W b p) := fun l J Jx W hB hJ hJx hY h0 => by
  refine callsIn_of_wp Tryz.func192 rfl trivial ?_ rfl
  simp only [Tryz.ntmps192, List.size_toArray, List.length_cons, List.length_nil, Nat.reduceAdd, Nat.reduceSub, Array.replicate_succ, Array.replicate_zero, List.push_toArray, List.append_toArray, List.nil_append, List.cons_append]
  gi_wp2
  gi_loopw [] (fun wr => ∃ (pre : List ByteArray) (r : ByteArray), Box wr b r ∧ (r.size : Int) < 1000000000 ∧ Hid (text r.data.toList = true) ∧ Hid (bs pre ++ (lns r.data.toList).map ten = (lns p.data.toList).map ten) ∧ Hid (J pre wr)) (fun wr => leftS b wr)
  case atStart => exact ⟨[], p, hB, hp, hT, rfl, h0⟩
  case round =>
    clear h0 hp hB hT
    obtain ⟨pre, r, hB, hr, HT, HP, HJ⟩ := hrel
    have c1 := hB.cell
    have c2 := hB.free
    by_cases h0 : 0 < r.size
    · obtain ⟨i, hi, hlt, e1, e2, e3⟩ := line_first h0 HT.out
      have cI := index_is r wr
      rw [hi] at cI
      have HP' : Hid _ := cut_line e1 e3 HP.out
      have HT' : Hid (text (r.extract (i + 1) r.size).data.toList = true) := by
        unfold Hid
        rw [seg_list, List.take_of_length_le (by rw [List.length_drop, len_eq]; omega)]; exact e2
      clear hi e1 e2 e3 HP HT
      have i0 : (0 : Int) < r.size := by omega
      gi_wp2_with fail
      refine ⟨trivial, (fun h => by cases h), (callsIn_wide.2 cI).mono ?_⟩
      rintro e w' ⟨rfl, rfl⟩
      gi_wp2_with fail
      have hB2 := (hB.set (r.extract (i + 1) r.size)).fr (fr_drew _)
      have hJ2 : J pre (wr.setCell ⟨b, 0, none⟩ (.string (r.extract (i + 1) r.size))).drew := hJ _ _ _ HJ.out ((Fr.setCell (M := fun k => k = b) _ (a := ⟨b, 0, none⟩) rfl _).then ((fr_drew _).any))
      have HL : Hid (leftS b wr = r.size) := left_is hB
      obtain ⟨fn, tmps, assign, body, hy, hR⟩ := hY pre (r.extract 0 (i + 1)) _ hJ2 ⟨_, HP'.out⟩
      have HB2 : Hid _ := hB2
      clear cI hY HJ hB hJ2 hB2
      gi_region
      gi_wp2_with fail
      refine ⟨(fun h => by cases h), hR.mono ?_⟩
      clear hy hR c1 c2
      rintro e W' (⟨rfl, hJ', hk⟩ | ⟨rfl, hJx'⟩)
      · have HB3 : Hid (Box W' b (r.extract (i + 1) r.size)) := hk.trans HB2.out
        have HJ' : Hid _ := hJ'
        clear hJ' hk
        gi_wp2_with fail
        go_roundw
        case rel => exact ⟨_, _, HB3.out, by simp; omega, HT'.out, HP'.out, HJ'.out⟩
        case measure => rw [left_is HB3.out, HL.out]; simp; omega
      · gi_wp2_with fail
        refine bodyPost_ret (results_none rfl _ _ _) rfl ?_
        exact ⟨⟨_, rfl⟩, .inr ⟨_, ⟨_, HP'.out⟩, hJx'⟩⟩
    · have he : r.data.toList = [] := List.eq_nil_of_length_eq_zero (by rw [len_eq]; omega)
      have HE : Hid (bs pre = (lns p.data.toList).map ten) := by
        have := HP.out
        rw [he, lns, List.map_nil, List.append_nil] at this
        exact this
      obtain rfl : r = ByteArray.empty := str_of he
      clear he hr h0
      gi_wp2
      go_end0
      exact ⟨⟨_, rfl⟩, .inl ⟨pre, HE.out, HJ.out⟩⟩

/-- What Split's loop has made. -/
structure SplAt (w : World) (bl : Nat) (n0 : Nat) (pre : List ByteArray) (W : World) : Prop where
  row : ∃ v l, W.heap[bl]? = some (.cells #[v] 36 (0, 0)) ∧ W.ownsRow n0 9 1 v l.length (l.map Value.string) ∧ (bs l).map ten = bs pre
  fr : Fr None' w W
  room : n0 ≤ W.heap.size

theorem SplAt.abide (w : World) (bl n0 b base : Nat) (h1 : w.heap.size ≤ base) (h2 : bl ≠ b) (h3 : b < n0) (h4 : w.heap.size ≤ b) : AbideN base (fun k => k = b) (SplAt w bl n0) := fun pre A B h fr => by
  obtain ⟨v, l, hv, hrow, e⟩ := h.row
  refine ⟨⟨v, l, cells_kept hv fr (fun e => h2 e), ⟨hrow.1, ?_⟩, e⟩, h.fr.trans (M' := fun k => k = b ∨ (base ≤ k ∧ NoCells A k)) fr (fun i e => .inr (by omega)), Nat.le_trans h.room fr.size⟩
  rcases hrow.2 with h | ⟨g, cap, cur, hv, hb, hh, hrest⟩
  · exact .inl h
  · exact .inr ⟨g, cap, cur, hv, hb, cells_kept hh fr (fun e => by omega), hrest⟩

theorem trim_ten {x : ByteArray} {l : Bs} (h : x.data.toList = ten l) : Lib.trimSuffix x.data.toList [10] = l := by
  rw [h, ten, Lib.trimSuffix, Lib.hasSuffix]
  simp

theorem suffix_text {s : ByteArray} (h0 : 0 < s.size) : Lib.hasSuffix s.data.toList [10] = text s.data.toList := by
  have hne : s.data.toList ≠ [] := fun e => by have := len_eq s; rw [e] at this; simp at this; omega
  rw [Lib.hasSuffix, Bool.eq_iff_iff]
  simp only [List.isSuffixOf_iff_suffix]
  constructor
  · rintro ⟨t, e⟩
    rw [← e]; exact text_snoc t
  · intro h
    have hl := of_decide_eq_true ((text_last h0).symm.trans h)
    refine ⟨s.data.toList.take (s.size - 1), ?_⟩
    have := take_snoc s (s.size - 1) (by omega)
    rw [show s.size - 1 + 1 = s.size by omega, List.take_of_length_le (by rw [len_eq]; omega)] at this
    conv => rhs; rw [this]
    rw [show s[s.size - 1] = 10 from UInt8.toNat_inj.1 hl]

/-- One text more, as one step of a region that draws its order, in a round. -/
theorem step_str {l m : Nat} {ops : Array Oper} {o : Oper} {a : Act} {K : Act → World → Prop} {Q : Exit → Act → World → Prop} {E : Prop} {w : World} (hgd : o.guard = none) (s x : Operand)
    (ho : o.op = .call { callee := .builtin .append, args := #[s, x], argTypes := #[36, 36] })
    {n0 : Nat} {v : Value} {t : List ByteArray} (hs : a.eval s = v) (hown : w.ownsRow n0 9 1 v t.length (t.map Value.string)) (hn0 : n0 ≤ w.heap.size) {b : Nat} {y : ByteArray} (hx : a.eval x = .slice (some ⟨b, 0, none⟩) 1 1) (hl : w.cell? ⟨b, 0, none⟩ = some (.string y)) (hbig : (t.length : Int) ≤ 1000000000)
    (h : ∀ v' w', w'.ownsRow n0 9 1 v' (t ++ [y]).length ((t ++ [y]).map Value.string) → w.grownBy w' v.ownBlock → K (a.put o.dst v') w') : if Region.wanted o (yielded ops a.tmps) = true then o.wpIn (Fence.wide.inRound l) m Tryz.prog a w K Q else E := by
  obtain ⟨i0, hi, hz0, hz1, hz2⟩ := info_parts Tryz.infoS
  obtain ⟨v', w', hr, h2, h3, _, _⟩ := run_append_own_at (P := Tryz.prog) w n0 36 o.type 9 i0 (.string ⟨#[]⟩) 1 16 Tryz.underlying36 hi hz0 hz1 hz2 rfl (by decide) v _ _ hown ⟨b, 0, none⟩ 1 1 [.string y] (by simp) (fun j u hj => by
    have hlt := (List.getElem?_eq_some_iff.1 hj).1
    obtain rfl : j = 0 := by simpa using hlt
    simp at hj
    rw [← hj]
    exact hl) (fun u hu => by simp at hu; subst hu; rfl) (by unfold maxLen; omega) (by omega) hn0
  rw [if_pos (by simp [Region.wanted, hgd])]
  unfold Oper.wpIn
  rw [show (Fence.wide.inRound l).round = some l from rfl, Oper.semAt_some _ _ _ (fun c e => by rw [ho] at e; cases e)]
  refine ⟨fun f hf => ?_, ?_⟩
  · trivial
  unfold execOp
  simp only [ho, resolve, invoke, builtin, Sem.run_bind, Sem.run_pure, Result.andThen_ok, List.map_toArray, List.map_cons, List.map_nil, hs, hx, hr]
  refine h v' w' ?_ h3
  rw [List.length_append, List.map_append]
  exact h2

theorem ten_of {pre : List ByteArray} {x : ByteArray} {t : List Bs} {p : Bs} (h : bs (pre ++ [x]) ++ t = (lns p).map ten) : ∃ y, x.data.toList = ten y := by
  have hm : x.data.toList ∈ (lns p).map ten := by
    rw [← h, bs_append]
    simp [bs]
  obtain ⟨y, _, e⟩ := List.mem_map.1 hm
  exact ⟨y, e.symm⟩

theorem ten_join (l : List Bs) : (l.map ten).flatten = join l := by rw [join, List.flatMap_def]; rfl

theorem ten_le {pre : List ByteArray} {x : ByteArray} {t : List Bs} {p : Bs} {y : Bs} (h : bs (pre ++ [x]) ++ t = (lns p).map ten) (_ : x.data.toList = ten y) (hp : text p = true) : x.size ≤ p.length := by
  have e := congrArg (fun l => l.flatten.length) h
  simp only [ten_join, join_lns p hp] at e
  rw [bs_append, List.flatten_append, List.flatten_append, List.length_append, List.length_append, show bs [x] = [x.data.toList] from rfl] at e
  simp only [List.flatten_cons, List.flatten_nil, List.append_nil] at e
  rw [len_eq] at e
  omega

theorem ten_inj {a b : List Bs} (h : a.map ten = b.map ten) : a = b := List.map_inj_right (fun _ _ e => List.append_cancel_right e) |>.1 h

/-- Behind an append in a round. -/
theorem after_app {w W w1 : World} {v v1 : Value} {ls pre : List ByteArray} {x y : ByteArray} {o : Obj} (hS : SplAt w w.heap.size (w.heap.size + 2) pre W) (hv : W.heap[w.heap.size]? = some (.cells #[v] 36 (0, 0)))
    (hrow : W.ownsRow (w.heap.size + 2) 9 1 v ls.length (ls.map Value.string)) (own1 : w1.ownsRow (w.heap.size + 2) 9 1 v1 (ls ++ [y]).length ((ls ++ [y]).map Value.string)) (g1 : (W.alloc o).drew.grownBy w1 v.ownBlock)
    (hls : ((bs (ls ++ [y])).map ten) = bs (pre ++ [x])) :
    (∃ g' cap', v1 = .slice (some ⟨g', 0, none⟩) (ls.length + 1) cap') ∧ w1.heap[w.heap.size]? = some (.cells #[v] 36 (0, 0)) ∧
      Hid (KeepsOthers W (w1.setCell ⟨w.heap.size, 0, none⟩ v1) ∧ (w1.setCell ⟨w.heap.size, 0, none⟩ v1).heap[w.heap.size + 1]? = W.heap[w.heap.size + 1]? ∧ SplAt w w.heap.size (w.heap.size + 2) (pre ++ [x]) (w1.setCell ⟨w.heap.size, 0, none⟩ v1)) := by
  have hroom := hS.room
  have hown : ∀ k, v.ownBlock = some k → w.heap.size + 2 ≤ k := fun k hk => (hrow.lt k hk).1
  have f0 : Fr None' W (W.alloc o).drew := (Fr.alloc _ _ _).then (fr_drew _)
  have f1 : Fr (fun k => w.heap.size + 2 ≤ k) W w1 := f0.any.then (Fr.grown g1 (fun k e => hown k e))
  have hv1 : w1.heap[w.heap.size]? = some (.cells #[v] 36 (0, 0)) := f1.at hv (by omega)
  have h2 : (w1.setCell ⟨w.heap.size, 0, none⟩ v1).heap[w.heap.size + 1]? = W.heap[w.heap.size + 1]? := (Below.heap_setCell _ _ _ _ (by simp)).trans (f1.block _ (by omega) (by omega))
  have hg : ∀ k, v1.ownBlock = some k → w.heap.size + 2 ≤ k := fun k hk => (own1.lt k hk).1
  have hk0 : KeepsOthers W w1 := ⟨f1.size, fun k o' hk ho => by
    have hlt := (Array.getElem?_eq_some_iff.1 hk).1
    have hne : some k ≠ v.ownBlock := fun e => by
      rcases hrow.2 with ⟨e1, _⟩ | ⟨g, cap, cur, e1, _, hh, _⟩
      · rw [e1] at e; cases e
      · rw [e1] at e; cases e; rw [hh] at hk; cases hk; cases ho
    exact (g1.block k (by have := f0.size; omega) hne).trans ((f0.block k hlt id).trans hk)⟩
  refine ⟨?_, hv1, hk0.trans (KeepsOthers.setCell _ _ _), h2, ⟨v1, ls ++ [y], heap_setCell_box_a _ hv1, ?_, hls⟩, ?_, ?_⟩
  · rcases own1.2 with ⟨_, h0⟩ | ⟨g', cap', cur', e1, _⟩
    · simp at h0
    · exact ⟨g', cap', by rw [e1, List.length_append]; rfl⟩
  · refine ⟨own1.1, ?_⟩
    rcases own1.2 with h | ⟨g', cap', cur', e1, hb, hh, hrest⟩
    · exact .inl h
    · exact .inr ⟨g', cap', cur', e1, hb, (Below.heap_setCell _ _ _ _ (by simp; omega)).trans hh, hrest⟩
  · exact (hS.fr.trans f1 (fun i e => .inr (by omega))).trans (Fr.setCell (M := fun k => k = w.heap.size) _ (a := ⟨w.heap.size, 0, none⟩) rfl _) (fun i e => .inr (by omega))
  · have := f1.size
    simp [World.setCell]
    omega

set_option maxHeartbeats 2000000 in
theorem split_any (s : ByteArray) (w : World) (hs : (s.size : Int) < 1000000000) :
    Calls Tryz.prog 130 #[.string s] w fun e w' => ∃ v, e = .returned (.tuple #[v, .bool (text s.data.toList)]) ∧ Made w (if text s.data.toList then lns s.data.toList else []) v w' := by
  by_cases hT : text s.data.toList = true
  case neg =>
    have h0 : 0 < s.size := by
      rcases Nat.eq_zero_or_pos s.size with h | h
      · exact absurd (by rw [List.eq_nil_of_length_eq_zero ((len_eq s).trans h)]; rfl) hT
      · exact h
    have hne : ¬ s.data.toList = [] := fun e => by have := len_eq s; rw [e] at this; simp at this; omega
    obtain ⟨q1, q2⟩ := asks_no hne
    have q3 : ¬ s = ByteArray.empty := fun e => by rw [e] at hne; exact hne rfl
    have cH := (Tryz.strings_HasSuffix s ⟨#[10]⟩ w (by omega)).mono (R' := fun e w' => e = _ ∧ w = w') fun _ _ ⟨a, b⟩ => ⟨a, b.symm⟩
    rw [Bool.not_eq_true] at hT
    rw [show (⟨#[10]⟩ : ByteArray).data.toList = [10] from rfl, suffix_text h0, hT] at cH
    rw [hT]
    clear hT hne hs h0
    go_enter Tryz.func130, Tryz.ntmps130
    go_wp2_with (go_at_call 168; refine cH.mono ?_; rintro e w' ⟨rfl, rfl⟩)
    go_ret2
    exact ⟨_, rfl, (OwnS.nil w w).made rfl (Fr.refl _ _)⟩
  case pos =>
  rw [hT]
  have HT : Hid (text s.data.toList = true) := hT
  clear hT
  refine (callsIn_wide (n := 3)).1 ?_
  refine callsIn_of_wp_marks Tryz.func130 rfl trivial ?_ rfl
  simp only [Tryz.ntmps130, List.size_toArray, List.length_cons, List.length_nil, Nat.reduceAdd, Nat.reduceSub, Array.replicate_succ, Array.replicate_zero, List.push_toArray, List.append_toArray, List.nil_append, List.cons_append]
  have cL := lines_any s (w.alloc (.cells #[.slice none 0 0] 36))
  rw [World.size_alloc] at cL
  by_cases h0 : 0 < s.size
  case' neg =>
    have he : s.data.toList = [] := List.eq_nil_of_length_eq_zero (by rw [len_eq]; omega)
    obtain ⟨q1, q2⟩ := asks_yes he
    clear he
    gi_wp2_with fail
    refine ⟨trivial, ?_⟩
    gi_wp2_with fail
    clear q1 q2
  case' pos =>
    have hne : ¬ s.data.toList = [] := fun e => by have := len_eq s; rw [e] at this; simp at this; omega
    obtain ⟨q1, q2⟩ := asks_no hne
    have q3 : ¬ s = ByteArray.empty := fun e => by rw [e] at hne; exact hne rfl
    have cH := (Tryz.strings_HasSuffix s ⟨#[10]⟩ w (by omega)).mono (R' := fun e w' => e = _ ∧ w = w') fun _ _ ⟨a, b⟩ => ⟨a, b.symm⟩
    rw [show (⟨#[10]⟩ : ByteArray).data.toList = [10] from rfl, suffix_text h0, HT.out] at cH
    clear hne
    gi_wp2_with fail
    refine ⟨trivial, (callsIn_wide.2 cH).mono ?_⟩
    rintro e w1 ⟨rfl, rfl⟩
    clear cH
    gi_wp2_with fail
    clear q1 q2 q3
  all_goals
    refine ⟨trivial, (callsIn_wide.2 cL).mono ?_⟩
    rintro e w3 ⟨rfl, hw3⟩
    clear cL h0
    have hsz : w3.heap.size = w.heap.size + 2 := by rw [hw3]; simp
    have hbox : Box w3 (w.heap.size + 1) s := by
      have := Box.new (w.alloc (.cells #[.slice none 0 0] 36)) s
      rw [World.size_alloc] at this
      rw [hw3]; exact this
    have hAt : SplAt w w.heap.size (w.heap.size + 2) [] w3 := ⟨⟨.slice none 0 0, [], by rw [hw3]; exact (Below.heap_alloc _ _ _ (by simp)).trans (heap_alloc_new w _), World.ownsRow_nil _ _ _ _, rfl⟩, by rw [hw3]; exact (Fr.alloc _ _ _).then (Fr.alloc _ _ _), by omega⟩
    clear hw3
    gi_wp2_with fail
  all_goals
    refine (show ∀ u7 u8 u9 u10 u11 : Value, Code.wpIn Fence.wide 3 Tryz.prog _ _ { tmps := #[.string s, undef, .slice none 0 0, .bool false, .pointer (some ⟨w.heap.size, 0, none⟩), undef, .string s, u7, u8, u9, u10, u11, .bool false, .string s, .func (.func 192) #[] #[.pointer (some ⟨w.heap.size + 1, 0, none⟩)], undef, undef, undef, undef, undef, undef, undef], defers := [] } w3 from ?_) _ _ _ _ _
    intro u7 u8 u9 u10 u11
    refine range_own (α := ByteArray) rfl (by omega) (gf := 192) (lb := #[.pointer (some ⟨w.heap.size + 1, 0, none⟩)]) rfl trivial (enters_of Tryz.func192 (by kernel_rfl) rfl) (lines_seq s (w.heap.size + 1) _ hs HT.out)
      (fun k hk => by rw [hk]; omega) (fun W hb => Box.fr hbox (Grew.of hb)) (fun h1 h2 => h2.trans h1) (fun W l o' hl => World.putObj_heap_other (by omega)) (fun _ => rfl)
      (SplAt w w.heap.size (w.heap.size + 2)) (fun _ _ _ => False) (SplAt.abide _ _ _ _ _ (by omega) (by omega) (by omega) (by omega)) (fun _ _ _ _ h _ => h) hAt
      (fun x => { tmps := #[.string s, undef, .slice none 0 0, .bool false, .pointer (some ⟨w.heap.size, 0, none⟩), .string x, .string s, u7, u8, u9, u10, u11, .bool false, .string s, .func (.func 192) #[] #[.pointer (some ⟨w.heap.size + 1, 0, none⟩)], .string x, undef, undef, undef, undef, undef, undef], defers := [] }) ?assign ?body ?done ?stop
    case assign =>
      intro l x W K hK
      gi_wp2
      exact hK
    case body =>
      rintro l pre x W hS ⟨t, ht⟩ hl
      clear hAt hbox
      obtain ⟨v, ls, hv, hrow, hls⟩ := hS.row
      obtain ⟨y, hy⟩ := ten_of ht
      have c1 := (cell_of_box_a hv).1
      have c1' : ∀ o, (W.alloc o).cell? ⟨w.heap.size, 0, none⟩ = some v := fun o => (Fr.alloc None' W o).cell c1 id
      have cT := fun u : World => (Tryz.strings_TrimSuffix x ⟨#[10]⟩ u (by have := ten_le ht hy HT.out; rw [len_eq] at this; omega)).mono (R' := fun e w' => e = _ ∧ u = w') fun _ _ ⟨a, b⟩ => ⟨a, b.symm⟩
      rw [show (⟨#[10]⟩ : ByteArray).data.toList = [10] from rfl, trim_ten hy] at cT
      have hbig : (ls.length : Int) ≤ 1000000000 := by
        have h1 := congrArg List.length hls
        have h2 := congrArg List.length ht
        have h3 := lns_count_le s.data.toList
        rw [List.length_map, bs_length, bs_length] at h1
        rw [List.length_append, bs_length, List.length_append, List.length_map] at h2
        rw [len_eq] at h3
        omega
      have HS : Hid _ := hS
      have HV : Hid _ := hv
      have HR : Hid (W.ownsRow (w.heap.size + 2) 9 1 v ls.length (ls.map Value.string)) := hrow
      have HLS : Hid (((bs (ls ++ [⟨y.toArray⟩])).map ten) = bs (pre ++ [x])) := by
        show _ = _
        rw [bs_append, bs_append, List.map_append, hls, show bs [x] = [x.data.toList] from rfl, hy]; rfl
      have HW : Hid (w.heap.size < W.heap.size) := by have := hS.room; show _ < _; omega
      clear hS hv hrow hls ht hy hs
      gi_wp2_with fail
      refine wpIn_region_any (by kernel_rfl) ?_
      change wpAnyIn _ _ _ _ _ _ _ _ _ (World.drew _)
      repeat' (first
        | (refine wpAnyIn_done (by decide +kernel) ?_ _)
        | (refine wpAnyIn_ready (rs := [0, 1]) (by decide +kernel) (by simp) ?_; refine AllReadyIn.cons rfl (fun K hK => ?_) (AllReadyIn.cons rfl (fun K hK => ?_) AllReadyIn.nil))
        | (refine wpAnyIn_ready (rs := [0, 2]) (by decide +kernel) (by simp) ?_; refine AllReadyIn.cons rfl (fun K hK => ?_) (AllReadyIn.cons rfl (fun K hK => ?_) AllReadyIn.nil))
        | (refine wpAnyIn_ready (rs := [0, 3]) (by decide +kernel) (by simp) ?_; refine AllReadyIn.cons rfl (fun K hK => ?_) (AllReadyIn.cons rfl (fun K hK => ?_) AllReadyIn.nil))
        | (refine wpAnyIn_ready (rs := [0]) (by decide +kernel) (by simp) ?_; refine AllReadyIn.cons rfl (fun K hK => ?_) AllReadyIn.nil)
        | (refine wpAnyIn_ready (rs := [1]) (by decide +kernel) (by simp) ?_; refine AllReadyIn.cons rfl (fun K hK => ?_) AllReadyIn.nil)
        | (refine wpAnyIn_ready (rs := [2]) (by decide +kernel) (by simp) ?_; refine AllReadyIn.cons rfl (fun K hK => ?_) AllReadyIn.nil)
        | (refine wpAnyIn_ready (rs := [3]) (by decide +kernel) (by simp) ?_; refine AllReadyIn.cons rfl (fun K hK => ?_) AllReadyIn.nil)
        | (refine wpAnyIn_ready (rs := [4]) (by decide +kernel) (by simp) ?_; refine AllReadyIn.cons rfl (fun K hK => ?_) AllReadyIn.nil)
        | (refine wpAnyIn_ready (rs := [5]) (by decide +kernel) (by simp) ?_; refine AllReadyIn.cons rfl (fun K hK => ?_) AllReadyIn.nil)
        | (refine step_str rfl _ _ rfl (v := v) rfl (t := ls) (n0 := w.heap.size + 2) (ownsRow_fr HR.out (w' := _) ?frame) ?room rfl (y := ⟨y.toArray⟩) ?cell hbig ?_
           case frame => exact (Fr.alloc None' W _).then (fr_drew _)
           case room => have := HW.out; simp; omega
           case cell => simp
           intro v1 w1 own1 g1
           obtain ⟨⟨g', cap', rfl⟩, hv1, HF⟩ := after_app HS.out HV.out HR.out own1 g1 HLS.out
           have c3 := (cell_of_box_a hv1).1
           have c4 := (cell_of_box_a hv1).2
           clear own1 g1 hv1
           refine hK _ _ ?_
           clear hK K)
        | (go_simp
           refine ⟨trivial, (CallsIn.inRound l (callsIn_wide.2 (cT _))).mono ?_⟩
           rintro e w' ⟨rfl, rfl⟩
           refine hK _ _ ?_
           clear hK K)
        | (go_simp; refine hK _ _ ?_; clear hK K))
      all_goals
        gi_wp2_with fail
        exact HF.out
    case done =>
      rintro D xs W hxs hS hK hD
      clear hAt hbox
      obtain ⟨v, ls, hv, hrow, hls⟩ := hS.row
      have c1 := (cell_of_box_a hv).1
      have HX : Hid (bs ls = lns s.data.toList) := ten_inj (hls.trans hxs)
      have own : OwnS w W v ls := ownsRow_base_a hrow (by omega)
      obtain ⟨va, c, rfl, hle, hn, hr⟩ := own.slice
      have HM : Hid (Made w (lns s.data.toList) (.slice va ls.length c) (W.putObj D (.deferred none))) := by
        have f : Fr (fun k => k = D) W (W.putObj D (.deferred none)) := Fr.putObj (M := fun k => k = D) _ rfl _
        refine ⟨⟨ls, HX.out, va, c, rfl, hn, fun j x hj => ?_⟩, hS.fr.trans f (fun i e => .inr (by omega)), fun _ _ _ e => by cases e; exact hle, fun k hk => ⟨(own.block hk).1, Nat.lt_of_lt_of_le (own.block hk).2 f.size⟩⟩
        obtain ⟨g, o, e, hc⟩ := hr j x hj
        refine ⟨g, o, e, f.cell hc (fun e => ?_)⟩
        have e' : g = D := e
        subst e'
        rw [World.cell?, hK] at hc
        cases hc
      clear hls hrow hv hxs hS hs own hn hr hle
      gi_wp2_with fail
      refine ⟨by simp, .inl ⟨_, _, rfl, run_takeDeferred hK, ?_⟩⟩
      exact ⟨_, results_tmp2 rfl _ _ _, _, rfl, HM.out⟩
    case stop =>
      rintro D c pre W _ h _ _
      exact h.elim

end Go.Proofs.YtdaogldmcbfmoaaGreatDoor.Lines
