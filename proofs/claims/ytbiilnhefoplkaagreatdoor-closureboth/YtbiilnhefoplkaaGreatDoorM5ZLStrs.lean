/-
  What is proved here: the contracts that the statement stands on: ZLStrs, ZLRSame. Conditions: as each theorem names them.
-/
import Derived.Test.YtbiilnhefoplkaaGreatDoorMZLSmall
import Derived.Maps.AppendAt
import Derived.Laws.AppendOwnNone
import Derived.OwnWalk
import Derived.Deep.AppendLies
import Derived.Lib.AppendStr
import Derived.Lib.UnsafeStr
namespace Go.Proofs.YtbiilnhefoplkaaGreatDoor.Lines
open Go.RowKit
set_option maxRecDepth 100000

/-- A slice's cells hold these texts. -/
def Row (W : World) (ad : Option Addr) (ss : List ByteArray) : Prop := ∀ j x, ss[j]? = some x → ∃ g o, ad = some ⟨g, o, none⟩ ∧ W.cell? ⟨g, o + j, none⟩ = some (.string x)

theorem Row.fr {W W' : World} {ad : Option Addr} {ss : List ByteArray} (h : Row W ad ss) (f : Fr None' W W') : Row W' ad ss := fun j x hj => by
  obtain ⟨g, o, e, hc⟩ := h j x hj
  exact ⟨g, o, e, f.cell hc id⟩

theorem Row.nil (W : World) (ad : Option Addr) : Row W ad [] := fun j x h => by simp at h

theorem Row.get {W : World} {ad : Option Addr} {ss : List ByteArray} (h : Row W ad ss) {k : Nat} (hk : k < ss.length) : ∃ g o, ad = some ⟨g, o, none⟩ ∧ W.cell? ⟨g, o + k, none⟩ = some (.string ss[k]) := h k _ (List.getElem?_eq_getElem hk)

/-- Texts as lists of bytes. -/
def bs (l : List ByteArray) : List Bs := l.map (·.data.toList)

theorem bs_length (l : List ByteArray) : (bs l).length = l.length := List.length_map ..

theorem bs_inj : ∀ {a b : List ByteArray}, bs a = bs b → a = b := fun {a b} h => List.map_inj_right (fun _ _ e => by rw [str_of e]) |>.1 h

theorem bs_append (a b : List ByteArray) : bs (a ++ b) = bs a ++ bs b := List.map_append ..

/-- v is a row of the texts l, made since w0. -/
def OwnS (w0 w : World) (v : Value) (l : List ByteArray) : Prop := w.ownsRow w0.heap.size 9 1 v l.length (l.map Value.string)

theorem OwnS.slice {w0 w : World} {v : Value} {l : List ByteArray} (h : OwnS w0 w v l) : ∃ va c, v = .slice va l.length c ∧ l.length ≤ c ∧ (va = none → c = 0) ∧ Row w va l := by
  rcases h.2 with ⟨hv, h0⟩ | ⟨g, cap, cur, hv, hb, hh, hc, _, hs, ht⟩
  · refine ⟨none, 0, by rw [hv, h0], by omega, fun _ => rfl, fun j x hj => ?_⟩
    have := (List.getElem?_eq_some_iff.1 hj).1
    omega
  · refine ⟨_, cap, hv, hc, fun e => by simp at e, fun i x hi => ⟨g, 0, rfl, ?_⟩⟩
    have hlt := (List.getElem?_eq_some_iff.1 hi).1
    have hl : (l.map Value.string)[i]? = some (.string x) := by rw [List.getElem?_map, hi]; rfl
    rw [← ht, List.getElem?_take, if_pos (by omega)] at hl
    rw [World.cell?, Nat.zero_add, hh]
    simpa using hl

theorem OwnS.alloc {w0 w : World} {v : Value} {l : List ByteArray} (h : OwnS w0 w v l) (o : Obj) : OwnS w0 (w.alloc o) v l := World.ownsRow.alloc h o

theorem ownsRow_fr {w w' : World} {base : Nat} {e : TypeId} {v : Value} {n : Nat} {xs : List Value} (h : w.ownsRow base e 1 v n xs) (f : Fr None' w w') : w'.ownsRow base e 1 v n xs := by
  refine ⟨h.1, ?_⟩
  rcases h.2 with h | ⟨g, cap, cur, hv, hb, hh, h⟩
  · exact Or.inl h
  · exact Or.inr ⟨g, cap, cur, hv, hb, f.at hh id, h⟩

theorem OwnS.fr {w0 w w' : World} {v : Value} {l : List ByteArray} (h : OwnS w0 w v l) (f : Fr None' w w') : OwnS w0 w' v l := ownsRow_fr h f

theorem OwnS.nil (w0 w : World) : OwnS w0 w (.slice none 0 0) [] := World.ownsRow_nil w _ 9 1

/-- 'append([]string{}, ..)': an empty row of no room. -/
theorem OwnS.empty {w0 w : World} (hb : w0.heap.size ≤ w.heap.size) : OwnS w0 (w.alloc (.cells #[] 9)) (.slice (some ⟨w.heap.size, 0, none⟩) 0 0) [] :=
  ⟨rfl, Or.inr ⟨w.heap.size, 0, #[], rfl, hb, heap_alloc_new w _, Nat.le_refl _, Nat.zero_le _, rfl, rfl⟩⟩

theorem Tryz.infoS : (Tryz.prog.info? 9).map (fun i => (i.zero, i.size, i.bytes)) = some (some (.string ⟨#[]⟩), 1, 16) := by kernel_rfl
theorem Tryz.info8 : (Tryz.prog.info? 5).map (fun i => (i.zero, i.size, i.bytes)) = some (some (.int .u8 0), 1, 1) := by kernel_rfl

theorem grown_fr {w0 w w' : World} {e : TypeId} {v : Value} {n : Nat} {xs : List Value} (hown : w.ownsRow w0.heap.size e 1 v n xs) (hfr : Fr None' w0 w) (h2 : w.grownBy w' v.ownBlock) : Fr None' w0 w' := by
  refine hfr.trans (Fr.grown (M := fun i => v.ownBlock = some i) h2 (fun k e => e)) (fun i e => Or.inr ?_)
  rcases hown.2 with ⟨hvv, _⟩ | ⟨g', cap', cur', hvv, hb', _⟩
  · rw [hvv] at e; cases e
  · rw [hvv] at e; cases e; exact hb'

theorem append_str {ops : Array Oper} {rest : List Oper} {o : Oper} {a : Act} {w : World} {Q : Exit → Act → World → Prop} (hgd : o.guard = none) (s x : Operand)
    (ho : o.op = .call { callee := .builtin .append, args := #[s, x], argTypes := #[23, 23] })
    {w0 : World} {v : Value} {l : List ByteArray} (hs : a.eval s = v) (hown : OwnS w0 w v l) (hfr : Fr None' w0 w) {va : Option Addr} {c : Nat} {m : List ByteArray} (hx : a.eval x = .slice va m.length c) (hl : Row w va m) (hn : va = none → c = 0) (hbig : l.length + m.length ≤ 1000000)
    (h : ∀ v' w', OwnS w0 w' v' (l ++ m) → Fr None' w0 w' → Fr (fun i => v.ownBlock = some i) w w' → wpList Tryz.prog ops Q rest (a.put o.dst v') w') : wpList Tryz.prog ops Q (o :: rest) a w := by
  obtain ⟨i0, hi, hz0, hz1, hz2⟩ := info_parts Tryz.infoS
  cases va with
  | none =>
    obtain rfl := hn rfl
    have hn0 : m = [] := by
      cases m with
      | nil => rfl
      | cons y m => obtain ⟨_, _, e, _⟩ := hl 0 y rfl; cases e
    subst hn0
    refine wpList_append_own_none hgd s x 23 ho w0.heap.size 9 i0 1 Tryz.underlying23 hi v _ _ hs hown hx (h v w ?_ hfr (Fr.refl _ _))
    simpa using hown
  | some ad =>
    have hnews : ∀ j u, (m.map Value.string)[j]? = some u → w.cell? (ad.add j) = some u := fun j u hj => by
      rw [List.getElem?_map] at hj
      cases hm : m[j]? with
      | none => rw [hm] at hj; cases hj
      | some y =>
        rw [hm] at hj
        obtain ⟨b, o, e, hc⟩ := hl j y hm
        cases e
        have hadd : (⟨b, o, none⟩ : Addr).add j = ⟨b, o + j, none⟩ := by unfold Addr.add; split <;> simp_all
        rw [hadd, hc]
        exact hj
    refine wpList_append_own_at _ hgd s x 23 ho w0.heap.size 9 i0 (.string ⟨#[]⟩) 1 16 Tryz.underlying23 hi hz0 hz1 hz2 rfl (by decide) v _ _ hs hown ad m.length c (m.map Value.string) hx (by simp) hnews (fun u hu => by
      obtain ⟨z, _, rfl⟩ := List.mem_map.1 hu; rfl) (by unfold maxLen; omega) (by omega) hfr.size ?_
    intro v' w' h1 h2 _ _
    refine h v' w' ?_ (grown_fr hown hfr h2) (Fr.grown h2 (fun k e => e))
    unfold OwnS
    rw [List.length_append, List.map_append]
    exact h1

/-- One text, in a block of its own. -/
theorem one_row (w : World) (x : ByteArray) : Row (w.alloc (.cells #[.string x] 9)) (some ⟨w.heap.size, 0, none⟩) [x] := fun j y hj => by
  have hlt := (List.getElem?_eq_some_iff.1 hj).1
  obtain rfl : j = 0 := by simpa using hlt
  simp at hj
  subst hj
  exact ⟨_, _, rfl, by simp⟩

/-- v is a row of the bytes l, made since w0. -/
def OwnB (w0 w : World) (v : Value) (l : Bs) : Prop := w.ownsRow w0.heap.size 5 1 v l.length (Lib.byteCells l)

theorem OwnB.nil (w0 w : World) : OwnB w0 w (.slice none 0 0) [] := World.ownsRow_nil w _ 5 1

theorem OwnB.alloc {w0 w : World} {v : Value} {l : Bs} (h : OwnB w0 w v l) (o : Obj) : OwnB w0 (w.alloc o) v l := World.ownsRow.alloc h o

theorem append_text {ops : Array Oper} {rest : List Oper} {o : Oper} {a : Act} {w : World} {Q : Exit → Act → World → Prop} (hgd : o.guard = none) (s x : Operand)
    (ho : o.op = .call { callee := .builtin .append, args := #[s, x], argTypes := #[161, 9] })
    {w0 : World} {v : Value} {l : Bs} (hs : a.eval s = v) (hown : OwnB w0 w v l) (hfr : Fr None' w0 w) {t : ByteArray} (hx : a.eval x = .string t) (hbig : l.length + t.size ≤ 100000000000000)
    (h : ∀ v' w', OwnB w0 w' v' (l ++ t.data.toList) → Fr None' w0 w' → wpList Tryz.prog ops Q rest (a.put o.dst v') w') : wpList Tryz.prog ops Q (o :: rest) a w := by
  obtain ⟨i0, hi, hz0, hz1, hz2⟩ := info_parts Tryz.info8
  refine Lib.wpList_append_own_string w hgd s x 161 9 ho w0.heap.size 5 i0 Tryz.underlying161 Tryz.underlying9 hi hz0 hz1 hz2 v _ _ hs hown t hx (by unfold maxLen; omega) (by omega) hfr.size ?_
  intro v' w' h1 h2 _
  refine h v' w' ?_ (grown_fr hown hfr h2)
  unfold OwnB
  rw [List.length_append, Lib.byteCells_append, len_eq]
  exact h1

theorem append_ten {ops : Array Oper} {rest : List Oper} {o : Oper} {a : Act} {w : World} {Q : Exit → Act → World → Prop} (hgd : o.guard = none) (s x : Operand)
    (ho : o.op = .call { callee := .builtin .append, args := #[s, x], argTypes := #[161, 161] })
    {w0 : World} {v : Value} {l : Bs} (hs : a.eval s = v) (hown : OwnB w0 w v l) (hfr : Fr None' w0 w) (hx : a.eval x = .slice (some ⟨w.heap.size, 0, none⟩) 1 1) (hbig : l.length ≤ 10000000000000)
    (h : ∀ v' w', OwnB w0 w' v' (l ++ [10]) → Fr None' w0 w' → wpList Tryz.prog ops Q rest (a.put o.dst v') w') : wpList Tryz.prog ops Q (o :: rest) a (w.alloc (.cells #[.int .u8 10] 5)) := by
  obtain ⟨i0, hi, hz0, hz1, hz2⟩ := info_parts Tryz.info8
  refine wpList_append_own_at _ hgd s x 161 ho w0.heap.size 5 i0 (.int .u8 0) 1 1 Tryz.underlying161 hi hz0 hz1 hz2 rfl (by decide) v _ _ hs (hown.alloc _) ⟨w.heap.size, 0, none⟩ 1 1 [.int .u8 10] hx rfl (cell_one_new _ _ _) (fun u hu => by simp at hu; subst hu; rfl) (by unfold maxLen; omega) (by omega) (by have := hfr.size; simp; omega) ?_
  intro v' w' h1 h2 _ _
  refine h v' w' ?_ (grown_fr (hown.alloc _) (hfr.then (Fr.alloc _ _ _)) h2)
  unfold OwnB
  rw [List.length_append, Lib.byteCells_append]
  exact h1

/-- The bytes of a row, as a text. -/
theorem conv_row {w0 w : World} {v : Value} {l : Bs} (h : OwnB w0 w v l) : (convert 161 9 v).run Tryz.prog w = .ok (.string ⟨l.toArray⟩) w := by
  rcases h.2 with ⟨hv, h0⟩ | ⟨g, cap, cur, hv, hb, hh, hc, _, hs, ht⟩
  · have hl : l = [] := List.eq_nil_of_length_eq_zero h0
    subst hl
    rw [hv, run_convert_bytes_string w 161 9 5 none 0 0 Tryz.underlying161 Tryz.underlying5 Tryz.underlying9]
    rfl
  · subst hv
    refine run_convert_bytes_back w 161 9 5 ⟨g, 0, none⟩ cap l Tryz.underlying161 Tryz.underlying5 Tryz.underlying9 (fun j hj => ?_)
    have := World.ownsRow.cells h rfl j (.int .u8 (l[j]).toNat) (by simp [Lib.byteCells, List.getElem?_eq_getElem hj])
    exact this

end Go.Proofs.YtbiilnhefoplkaaGreatDoor.Lines

namespace Go.Proofs.YtbiilnhefoplkaaGreatDoor.Lines
open Go.RowKit
set_option maxRecDepth 100000

theorem list_step {a b : List ByteArray} {k : Nat} (hn : a.length = b.length) (hk : k < a.length) (h : a.take k = b.take k) (e : a[k] = b[k]'(hn ▸ hk)) : a.take (k + 1) = b.take (k + 1) := by
  rw [List.take_succ_eq_append_getElem hk, List.take_succ_eq_append_getElem (hn ▸ hk), h, e]

theorem str_no {x y : ByteArray} (h : ¬ x = y) : (¬ x.toList = y.toList) ∧ (x.toList == y.toList) = false := by
  rw [ByteArray.toList_eq, ByteArray.toList_eq]
  have : ¬ x.data.toList = y.data.toList := fun e => h (by rw [str_of e])
  exact ⟨this, by simpa using this⟩

set_option maxHeartbeats 2000000 in
theorem same_any (va vb : Option Addr) (ca cb : Nat) (a b : List ByteArray) (w : World) (ha : Row w va a) (hb : Row w vb b) (hl : a.length < 1000000) :
    Calls Tryz.prog 14 #[.slice va a.length ca, .slice vb b.length cb] w fun e w' => e = .returned (.bool (decide (a = b))) ∧ Fr None' w w' := by
  by_cases hn : a.length = b.length
  case neg =>
    have hR : Hid (decide (a = b) = false) := decide_eq_false (fun e => hn (by rw [e]))
    have i1 : ¬ (a.length : Int) = b.length := by omega
    rw [hR.out]
    clear ha hb hn hR
    go_enter Tryz.func14, Tryz.ntmps14
    go_wp2_with fail
    go_ret
    exact ⟨rfl, Fr.refl _ _⟩
  case pos =>
  have HN : Hid (a.length = b.length) := hn
  obtain ⟨n, hna⟩ : ∃ n, a.length = n := ⟨_, rfl⟩
  have HA : Hid (a.length = n) := hna
  rw [← hn, hna]
  have i1 : (n : Int) < 1000000 := by omega
  clear hl hn hna
  go_enter Tryz.func14, Tryz.ntmps14
  go_wp2_with fail
  go_loopw [5] (fun i wr => ∃ k : Nat, k ≤ n ∧ i = .int .i64 k ∧ Fr None' w wr ∧ Hid (a.take k = b.take k)) (fun i _ => n - (intOf i).toNat)
  case atStart => exact ⟨0, Nat.zero_le _, rfl, Fr.refl _ _, rfl⟩
  case round =>
    obtain ⟨k, hk, rfl, hF, HT⟩ := hrel
    by_cases hlt : k < n
    · have hka : k < a.length := by rw [HA.out]; exact hlt
      have hkb : k < b.length := by rw [← HN.out]; exact hka
      obtain ⟨ga, oa, rfl, c1⟩ := (ha.fr hF).get hka
      obtain ⟨gb, ob, rfl, c2⟩ := (hb.fr hF).get hkb
      obtain ⟨x, hx⟩ : ∃ x, a[k] = x := ⟨_, rfl⟩
      obtain ⟨y, hy⟩ : ∃ y, b[k] = y := ⟨_, rfl⟩
      have HX : Hid (a[k] = x) := hx
      have HY : Hid (b[k] = y) := hy
      rw [hx] at c1
      rw [hy] at c2
      clear hx hy ha hb
      have i2 : (k : Int) < n := by omega
      by_cases hxy : x = y
      · subst hxy
        go_wp2_with fail
        go_quiet (fail)
        go_wp2_with fail
        exact ⟨⟨k + 1, by omega, by go_num, hF.then (Fr.drewN _ _ _), list_step HN.out hka HT.out (by rw [HX.out, HY.out])⟩, by simp [intOf]; omega⟩
      · have HE : Hid (¬ x = y) := hxy
        obtain ⟨q1, q2⟩ := str_no hxy
        clear hxy
        go_wp2_with fail
        go_quiet (fail)
        clear c1 c2
        go_wp2_with fail
        go_ret
        exact ⟨ret_bool (decide_eq_false (fun e => HE.out (by rw [← HX.out, ← HY.out]; subst e; rfl))).symm, hF.then (Fr.drewN _ _ _)⟩
    · go_wp2_with fail
      go_ret
      refine ⟨ret_bool ?_, hF⟩
      have := HT.out
      rw [List.take_of_length_le (by rw [HA.out]; omega), List.take_of_length_le (by rw [← HN.out, HA.out]; omega)] at this
      exact (decide_eq_true this).symm

/-- No line ends in it. -/
def no10 (x : Bs) : Bool := x.all (fun c => decide (c.toNat ≠ 10))

theorem no10_is (x : Bs) : (!x.contains 10) = no10 x := by
  induction x with
  | nil => rfl
  | cons c r ih =>
    rw [no10, List.all_cons, List.contains_cons, Bool.not_or, ih, no10]
    refine congrArg (· && _) ?_
    rw [Bool.eq_iff_iff]
    simp only [Bool.not_eq_true', beq_eq_false_iff_ne, ne_eq, decide_eq_true_eq]
    exact ⟨fun h e => h (UInt8.toNat_inj.1 e).symm, fun h e => h (by rw [← e]; rfl)⟩

theorem right_all (l : List Bs) : right l = l.all no10 := by
  unfold right
  refine congrArg (l.all ·) ?_
  funext x
  exact no10_is x

theorem right_step {l : List ByteArray} {k : Nat} (hk : k < l.length) (h : right (bs (l.take k)) = true) (hx : no10 l[k].data.toList = true) : right (bs (l.take (k + 1))) = true := by
  rw [List.take_succ_eq_append_getElem hk, bs_append, right_all, List.all_append, ← right_all, h]
  simp [bs, hx]

theorem right_not {l : List ByteArray} {k : Nat} (hk : k < l.length) (hx : no10 l[k].data.toList = false) : right (bs l) = false := by
  rw [right_all, List.all_eq_false]
  exact ⟨l[k].data.toList, List.mem_map.2 ⟨_, List.getElem_mem hk, rfl⟩, by simp [hx]⟩

set_option maxHeartbeats 2000000 in
theorem rRight_any (va : Option Addr) (ca : Nat) (l : List ByteArray) (w : World) (ha : Row w va l) (hl : l.length < 1000000) (hb : ∀ x ∈ l, x.size < 90000000) :
    Calls Tryz.prog 56 #[.slice va l.length ca] w fun e w' => e = .returned (.bool (right (bs l))) ∧ Fr None' w w' := by
  obtain ⟨n, hna⟩ : ∃ n, l.length = n := ⟨_, rfl⟩
  have HA : Hid (l.length = n) := hna
  rw [hna]
  have i1 : (n : Int) < 1000000 := by omega
  have HB : Hid (∀ x ∈ l, x.size < 90000000) := hb
  clear hl hna hb
  go_enter Tryz.func56, Tryz.ntmps56
  go_wp2_with fail
  go_loopw [3] (fun i wr => ∃ k : Nat, k ≤ n ∧ i = .int .i64 k ∧ wr = w ∧ Hid (right (bs (l.take k)) = true)) (fun i _ => n - (intOf i).toNat)
  case atStart => exact ⟨0, Nat.zero_le _, rfl, rfl, rfl⟩
  case round =>
    obtain ⟨k, hk, rfl, hw, HT⟩ := hrel
    subst hw
    by_cases hlt : k < n
    · have hka : k < l.length := by rw [HA.out]; exact hlt
      obtain ⟨ga, oa, rfl, c1⟩ := ha.get hka
      obtain ⟨x, hx⟩ : ∃ x, l[k] = x := ⟨_, rfl⟩
      have hxs : x.size < 90000000 := HB.out x (hx ▸ List.getElem_mem hka)
      have HX : Hid (l[k] = x) := hx
      rw [hx] at c1
      clear hx ha
      have i2 : (k : Int) < n := by omega
      go_wp2_with fail
      go_loopw [4] (fun i w2 => ∃ j : Nat, j ≤ x.size ∧ i = .int .i64 j ∧ w2 = wr ∧ Hid (no10 (x.data.toList.take j) = true)) (fun i _ => x.size - (intOf i).toNat)
      case atStart => exact ⟨0, Nat.zero_le _, rfl, rfl, rfl⟩
      case round =>
        obtain ⟨j, hj, rfl, rfl, HJ⟩ := hrel
        by_cases hjt : j < x.size
        · obtain ⟨v, hv⟩ : ∃ v : Nat, (x[j]).toNat = v := ⟨_, rfl⟩
          have HV : Hid (x[j].toNat = v) := hv
          by_cases h10 : v = 10
          · subst h10
            have HR : Hid (right (bs l) = false) := right_not hka (by rw [HX.out]; exact all_no hjt (by rw [HV.out]; rfl))
            clear HX HV HT HJ HA HB
            go_wp2_with fail
            go_ret
            exact ⟨ret_bool HR.out.symm, Fr.refl _ _⟩
          · have i3 : ¬ (v : Int) = 10 := by omega
            have HS : Hid (no10 (x.data.toList.take (j + 1)) = true) := all_step hjt HJ.out (by rw [HV.out]; exact decide_eq_true h10)
            have i5 : (x.size : Int) < 90000000 := by omega
            have i6 : ((v : Int) == 10) = false := by simp; omega
            clear h10 HV HJ HT HX HA HB hxs i3
            go_wp2_with fail
            exact ⟨⟨j + 1, by omega, by go_num, trivial, HS.out⟩, by simp [intOf]; omega⟩
        · have HR : Hid (right (bs (l.take (k + 1))) = true) := right_step hka HT.out (by
            have := HJ.out
            rw [List.take_of_length_le (by rw [len_eq]; omega)] at this
            rw [HX.out]; exact this)
          go_wp2_with fail
          exact ⟨⟨k + 1, by omega, by go_num, trivial, HR.out⟩, by simp [intOf]; omega⟩
    · go_wp2_with fail
      go_ret
      refine ⟨ret_bool ?_, Fr.refl _ _⟩
      have := HT.out
      rw [List.take_of_length_le (by rw [HA.out]; omega)] at this
      exact this.symm

end Go.Proofs.YtbiilnhefoplkaaGreatDoor.Lines
