/-
  What is proved here: rows of texts and of bytes as they lie in memory, and how they grow by append. Conditions: they are the call's own; they are fewer than a million.
-/
import Derived.Test.YtlmgbcfcikdgpaaGreatDoorLSmall
import Derived.Maps.AppendAt
import Derived.Laws.AppendOwnNone
import Derived.OwnWalk
import Derived.Deep.AppendLies
import Derived.Lib.AppendStr
import Derived.Lib.UnsafeStr
namespace Go.Proofs.YtlmgbcfcikdgpaaGreatDoor.Lines
open Go.RowKit
set_option maxRecDepth 100000

/-- A slice's cells hold these texts. -/
def Row (W : World) (ad : Option Addr) (ss : List ByteArray) : Prop := ∀ j x, ss[j]? = some x → ∃ g o, ad = some ⟨g, o, none⟩ ∧ W.cell? ⟨g, o + j, none⟩ = some (.string x)

theorem Row.fr {W W' : World} {ad : Option Addr} {ss : List ByteArray} (h : Row W ad ss) (f : Fr None' W W') : Row W' ad ss := fun j x hj => by
  obtain ⟨g, o, e, hc⟩ := h j x hj
  exact ⟨g, o, e, f.cell hc id⟩

theorem Row.nil (W : World) (ad : Option Addr) : Row W ad [] := fun j x h => by simp at h

theorem Row.get {W : World} {ad : Option Addr} {ss : List ByteArray} (h : Row W ad ss) {k : Nat} (hk : k < ss.length) : ∃ g o, ad = some ⟨g, o, none⟩ ∧ W.cell? ⟨g, o + k, none⟩ = some (.string ss[k]) := h k _ (List.getElem?_eq_getElem hk)

/-- Texts as lists of bytes. -/
def bs (l : List ByteArray) : List Bs := l.map (·.data.toList)

theorem bs_length (l : List ByteArray) : (bs l).length = l.length := List.length_map ..

theorem bs_inj : ∀ {a b : List ByteArray}, bs a = bs b → a = b := fun {a b} h => List.map_inj_right (fun _ _ e => by rw [str_of e]) |>.1 h

theorem bs_append (a b : List ByteArray) : bs (a ++ b) = bs a ++ bs b := List.map_append ..

/-- v is a row of the texts l, made since w0. -/
def OwnS (w0 w : World) (v : Value) (l : List ByteArray) : Prop := w.ownsRow w0.heap.size 9 1 v l.length (l.map Value.string)

theorem OwnS.slice {w0 w : World} {v : Value} {l : List ByteArray} (h : OwnS w0 w v l) : ∃ va c, v = .slice va l.length c ∧ l.length ≤ c ∧ (va = none → c = 0) ∧ Row w va l := by
  rcases h.2 with ⟨hv, h0⟩ | ⟨g, cap, cur, hv, hb, hh, hc, _, hs, ht⟩
  · refine ⟨none, 0, by rw [hv, h0], by omega, fun _ => rfl, fun j x hj => ?_⟩
    have := (List.getElem?_eq_some_iff.1 hj).1
    omega
  · refine ⟨_, cap, hv, hc, fun e => by simp at e, fun i x hi => ⟨g, 0, rfl, ?_⟩⟩
    have hlt := (List.getElem?_eq_some_iff.1 hi).1
    have hl : (l.map Value.string)[i]? = some (.string x) := by rw [List.getElem?_map, hi]; rfl
    rw [← ht, List.getElem?_take, if_pos (by omega)] at hl
    rw [World.cell?, Nat.zero_add, hh]
    simpa using hl

theorem OwnS.alloc {w0 w : World} {v : Value} {l : List ByteArray} (h : OwnS w0 w v l) (o : Obj) : OwnS w0 (w.alloc o) v l := World.ownsRow.alloc h o

theorem ownsRow_fr {w w' : World} {base : Nat} {e : TypeId} {v : Value} {n : Nat} {xs : List Value} (h : w.ownsRow base e 1 v n xs) (f : Fr None' w w') : w'.ownsRow base e 1 v n xs := by
  refine ⟨h.1, ?_⟩
  rcases h.2 with h | ⟨g, cap, cur, hv, hb, hh, h⟩
  · exact Or.inl h
  · exact Or.inr ⟨g, cap, cur, hv, hb, f.at hh id, h⟩

theorem OwnS.fr {w0 w w' : World} {v : Value} {l : List ByteArray} (h : OwnS w0 w v l) (f : Fr None' w w') : OwnS w0 w' v l := ownsRow_fr h f

theorem OwnS.nil (w0 w : World) : OwnS w0 w (.slice none 0 0) [] := World.ownsRow_nil w _ 9 1

/-- 'append([]string{}, ..)': an empty row of no room. -/
theorem OwnS.empty {w0 w : World} (hb : w0.heap.size ≤ w.heap.size) : OwnS w0 (w.alloc (.cells #[] 9)) (.slice (some ⟨w.heap.size, 0, none⟩) 0 0) [] :=
  ⟨rfl, Or.inr ⟨w.heap.size, 0, #[], rfl, hb, heap_alloc_new w _, Nat.le_refl _, Nat.zero_le _, rfl, rfl⟩⟩

theorem Tryz.infoS : (Tryz.prog.info? 9).map (fun i => (i.zero, i.size, i.bytes)) = some (some (.string ⟨#[]⟩), 1, 16) := by kernel_rfl
theorem Tryz.info8 : (Tryz.prog.info? 5).map (fun i => (i.zero, i.size, i.bytes)) = some (some (.int .u8 0), 1, 1) := by kernel_rfl

theorem grown_fr {w0 w w' : World} {e : TypeId} {v : Value} {n : Nat} {xs : List Value} (hown : w.ownsRow w0.heap.size e 1 v n xs) (hfr : Fr None' w0 w) (h2 : w.grownBy w' v.ownBlock) : Fr None' w0 w' := by
  refine hfr.trans (Fr.grown (M := fun i => v.ownBlock = some i) h2 (fun k e => e)) (fun i e => Or.inr ?_)
  rcases hown.2 with ⟨hvv, _⟩ | ⟨g', cap', cur', hvv, hb', _⟩
  · rw [hvv] at e; cases e
  · rw [hvv] at e; cases e; exact hb'

theorem append_str {ops : Array Oper} {rest : List Oper} {o : Oper} {a : Act} {w : World} {Q : Exit → Act → World → Prop} (hgd : o.guard = none) (s x : Operand)
    (ho : o.op = .call { callee := .builtin .append, args := #[s, x], argTypes := #[22, 22] })
    {w0 : World} {v : Value} {l : List ByteArray} (hs : a.eval s = v) (hown : OwnS w0 w v l) (hfr : Fr None' w0 w) {va : Option Addr} {c : Nat} {m : List ByteArray} (hx : a.eval x = .slice va m.length c) (hl : Row w va m) (hn : va = none → c = 0) (hbig : l.length + m.length ≤ 1000000)
    (h : ∀ v' w', OwnS w0 w' v' (l ++ m) → Fr None' w0 w' → Fr (fun i => v.ownBlock = some i) w w' → wpList Tryz.prog ops Q rest (a.put o.dst v') w') : wpList Tryz.prog ops Q (o :: rest) a w := by
  obtain ⟨i0, hi, hz0, hz1, hz2⟩ := info_parts Tryz.infoS
  cases va with
  | none =>
    obtain rfl := hn rfl
    have hn0 : m = [] := by
      cases m with
      | nil => rfl
      | cons y m => obtain ⟨_, _, e, _⟩ := hl 0 y rfl; cases e
    subst hn0
    refine wpList_append_own_none hgd s x 22 ho w0.heap.size 9 i0 1 Tryz.underlying22 hi v _ _ hs hown hx (h v w ?_ hfr (Fr.refl _ _))
    simpa using hown
  | some ad =>
    have hnews : ∀ j u, (m.map Value.string)[j]? = some u → w.cell? (ad.add j) = some u := fun j u hj => by
      rw [List.getElem?_map] at hj
      cases hm : m[j]? with
      | none => rw [hm] at hj; cases hj
      | some y =>
        rw [hm] at hj
        obtain ⟨b, o, e, hc⟩ := hl j y hm
        cases e
        have hadd : (⟨b, o, none⟩ : Addr).add j = ⟨b, o + j, none⟩ := by unfold Addr.add; split <;> simp_all
        rw [hadd, hc]
        exact hj
    refine wpList_append_own_at _ hgd s x 22 ho w0.heap.size 9 i0 (.string ⟨#[]⟩) 1 16 Tryz.underlying22 hi hz0 hz1 hz2 rfl (by decide) v _ _ hs hown ad m.length c (m.map Value.string) hx (by simp) hnews (fun u hu => by
      obtain ⟨z, _, rfl⟩ := List.mem_map.1 hu; rfl) (by unfold maxLen; omega) (by omega) hfr.size ?_
    intro v' w' h1 h2 _ _
    refine h v' w' ?_ (grown_fr hown hfr h2) (Fr.grown h2 (fun k e => e))
    unfold OwnS
    rw [List.length_append, List.map_append]
    exact h1

/-- One text, in a block of its own. -/
theorem one_row (w : World) (x : ByteArray) : Row (w.alloc (.cells #[.string x] 9)) (some ⟨w.heap.size, 0, none⟩) [x] := fun j y hj => by
  have hlt := (List.getElem?_eq_some_iff.1 hj).1
  obtain rfl : j = 0 := by simpa using hlt
  simp at hj
  subst hj
  exact ⟨_, _, rfl, by simp⟩

/-- v is a row of the bytes l, made since w0. -/
def OwnB (w0 w : World) (v : Value) (l : Bs) : Prop := w.ownsRow w0.heap.size 5 1 v l.length (Lib.byteCells l)

theorem OwnB.nil (w0 w : World) : OwnB w0 w (.slice none 0 0) [] := World.ownsRow_nil w _ 5 1

theorem OwnB.alloc {w0 w : World} {v : Value} {l : Bs} (h : OwnB w0 w v l) (o : Obj) : OwnB w0 (w.alloc o) v l := World.ownsRow.alloc h o

theorem append_text {ops : Array Oper} {rest : List Oper} {o : Oper} {a : Act} {w : World} {Q : Exit → Act → World → Prop} (hgd : o.guard = none) (s x : Operand)
    (ho : o.op = .call { callee := .builtin .append, args := #[s, x], argTypes := #[123, 9] })
    {w0 : World} {v : Value} {l : Bs} (hs : a.eval s = v) (hown : OwnB w0 w v l) (hfr : Fr None' w0 w) {t : ByteArray} (hx : a.eval x = .string t) (hbig : l.length + t.size ≤ 100000000000000)
    (h : ∀ v' w', OwnB w0 w' v' (l ++ t.data.toList) → Fr None' w0 w' → wpList Tryz.prog ops Q rest (a.put o.dst v') w') : wpList Tryz.prog ops Q (o :: rest) a w := by
  obtain ⟨i0, hi, hz0, hz1, hz2⟩ := info_parts Tryz.info8
  refine Lib.wpList_append_own_string w hgd s x 123 9 ho w0.heap.size 5 i0 Tryz.underlying123 Tryz.underlying9 hi hz0 hz1 hz2 v _ _ hs hown t hx (by unfold maxLen; omega) (by omega) hfr.size ?_
  intro v' w' h1 h2 _
  refine h v' w' ?_ (grown_fr hown hfr h2)
  unfold OwnB
  rw [List.length_append, Lib.byteCells_append, len_eq]
  exact h1

theorem append_ten {ops : Array Oper} {rest : List Oper} {o : Oper} {a : Act} {w : World} {Q : Exit → Act → World → Prop} (hgd : o.guard = none) (s x : Operand)
    (ho : o.op = .call { callee := .builtin .append, args := #[s, x], argTypes := #[123, 123] })
    {w0 : World} {v : Value} {l : Bs} (hs : a.eval s = v) (hown : OwnB w0 w v l) (hfr : Fr None' w0 w) (hx : a.eval x = .slice (some ⟨w.heap.size, 0, none⟩) 1 1) (hbig : l.length ≤ 10000000000000)
    (h : ∀ v' w', OwnB w0 w' v' (l ++ [10]) → Fr None' w0 w' → wpList Tryz.prog ops Q rest (a.put o.dst v') w') : wpList Tryz.prog ops Q (o :: rest) a (w.alloc (.cells #[.int .u8 10] 5)) := by
  obtain ⟨i0, hi, hz0, hz1, hz2⟩ := info_parts Tryz.info8
  refine wpList_append_own_at _ hgd s x 123 ho w0.heap.size 5 i0 (.int .u8 0) 1 1 Tryz.underlying123 hi hz0 hz1 hz2 rfl (by decide) v _ _ hs (hown.alloc _) ⟨w.heap.size, 0, none⟩ 1 1 [.int .u8 10] hx rfl (cell_one_new _ _ _) (fun u hu => by simp at hu; subst hu; rfl) (by unfold maxLen; omega) (by omega) (by have := hfr.size; simp; omega) ?_
  intro v' w' h1 h2 _ _
  refine h v' w' ?_ (grown_fr (hown.alloc _) (hfr.then (Fr.alloc _ _ _)) h2)
  unfold OwnB
  rw [List.length_append, Lib.byteCells_append]
  exact h1

/-- The bytes of a row, as a text. -/
theorem conv_row {w0 w : World} {v : Value} {l : Bs} (h : OwnB w0 w v l) : (convert 123 9 v).run Tryz.prog w = .ok (.string ⟨l.toArray⟩) w := by
  rcases h.2 with ⟨hv, h0⟩ | ⟨g, cap, cur, hv, hb, hh, hc, _, hs, ht⟩
  · have hl : l = [] := List.eq_nil_of_length_eq_zero h0
    subst hl
    rw [hv, run_convert_bytes_string w 123 9 5 none 0 0 Tryz.underlying123 Tryz.underlying5 Tryz.underlying9]
    rfl
  · subst hv
    refine run_convert_bytes_back w 123 9 5 ⟨g, 0, none⟩ cap l Tryz.underlying123 Tryz.underlying5 Tryz.underlying9 (fun j hj => ?_)
    have := World.ownsRow.cells h rfl j (.int .u8 (l[j]).toNat) (by simp [Lib.byteCells, List.getElem?_eq_getElem hj])
    exact this

end Go.Proofs.YtlmgbcfcikdgpaaGreatDoor.Lines
