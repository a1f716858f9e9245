/-
  What is proved here: rows of numbers that grow by append. Conditions: they are the call's own; they are fewer than a million.
-/
import Derived.Test.YthohblpdibeokaaNames
import Derived.Maps.AppendAt
import Derived.Laws.AppendOwnNone
import Derived.OwnWalk
namespace Go.Proofs.Ythohblpdibeokaa
open Go.RowKit
set_option maxRecDepth 100000

/-- v is a row of the numbers l, made since w0. -/
def Own (e : TypeId) (k : IntKind) (w0 w : World) (v : Value) (l : List Int) : Prop := w.ownsRow w0.heap.size e 1 v l.length (l.map (Value.int k))

/-- The numbers of a slice, as they lie in memory. -/
def Lies (k : IntKind) (w : World) (va : Option Addr) (n : Nat) (m : Nat → Int) : Prop := ∀ i, i < n → ∃ b o, va = some ⟨b, o, none⟩ ∧ w.cell? ⟨b, o + i, none⟩ = some (.int k (m i))

theorem Byt.lies {w : World} {va : Option Addr} {n c : Nat} {m : Nat → Int} (h : Byt w (.slice va n c) n m) : Lies .u8 w va n m := by
  obtain ⟨va', cap, e, _, h⟩ := h
  cases e
  exact h

theorem Own.slice {e : TypeId} {k : IntKind} {w0 w : World} {v : Value} {l : List Int} (h : Own e k w0 w v l) : ∃ va c, v = .slice va l.length c ∧ l.length ≤ c ∧ (va = none → c = 0) ∧ Lies k w va l.length (fun i => l.getD i 0) := by
  rcases h.2 with ⟨hv, h0⟩ | ⟨g, cap, cur, hv, hb, hh, hc, _, hs, ht⟩
  · refine ⟨none, 0, by rw [hv, h0], by omega, fun _ => rfl, fun i hi => by omega⟩
  · refine ⟨_, cap, hv, hc, fun e => by simp at e, fun i hi => ⟨g, 0, rfl, ?_⟩⟩
    have hl : (l.map (Value.int k))[i]? = some (.int k (l.getD i 0)) := by
      rw [List.getElem?_map, List.getElem?_eq_getElem hi, List.getD_eq_getElem?_getD, List.getElem?_eq_getElem hi]
      rfl
    rw [← ht, List.getElem?_take, if_pos (by omega)] at hl
    rw [World.cell?, Nat.zero_add, hh]
    simpa using hl

theorem Own.byt {w0 w : World} {v : Value} {l : List Int} {e : TypeId} (h : Own e .u8 w0 w v l) : Byt w v l.length (fun i => l.getD i 0) := by
  obtain ⟨va, c, e, hc, _, hl⟩ := h.slice
  exact ⟨va, c, e, hc, hl⟩

theorem Own.alloc {e : TypeId} {k : IntKind} {w0 w : World} {v : Value} {l : List Int} (h : Own e k w0 w v l) (o : Obj) : Own e k w0 (w.alloc o) v l := World.ownsRow.alloc h o

theorem Own.fr {e : TypeId} {k : IntKind} {w0 w w' : World} {v : Value} {l : List Int} (h : Own e k w0 w v l) (f : Fr None' w w') : Own e k w0 w' v l := by
  refine ⟨h.1, ?_⟩
  rcases h.2 with h | ⟨g, cap, cur, hv, hb, hh, h⟩
  · exact Or.inl h
  · exact Or.inr ⟨g, cap, cur, hv, hb, f.at hh id, h⟩

theorem Own.nil (e : TypeId) (k : IntKind) (w0 w : World) : Own e k w0 w (.slice none 0 0) [] := World.ownsRow_nil w _ e 1

/-- 'append([]T{}, ..)': an empty row of no room. -/
theorem Own.empty {e : TypeId} {k : IntKind} {w0 w : World} (hb : w0.heap.size ≤ w.heap.size) : Own e k w0 (w.alloc (.cells #[] e)) (.slice (some ⟨w.heap.size, 0, none⟩) 0 0) [] :=
  ⟨rfl, Or.inr ⟨w.heap.size, 0, #[], rfl, hb, heap_alloc_new w _, Nat.le_refl _, Nat.zero_le _, rfl, rfl⟩⟩

theorem append_num {e t : TypeId} {k : IntKind} {by' : Nat} (hu : Try.prog.underlying t = some (.slice e)) (hinfo : (Try.prog.info? e).map (fun i => (i.zero, i.size, i.bytes)) = some (some (.int k 0), 1, by')) (hby : by' ≤ 8)
    {ops : Array Oper} {rest : List Oper} {o : Oper} {a : Act} {w : World} {Q : Exit → Act → World → Prop} (hgd : o.guard = none) (s x : Operand)
    (ho : o.op = .call { callee := .builtin .append, args := #[s, x], argTypes := #[t, t] })
    {w0 : World} {v : Value} {l : List Int} (hs : a.eval s = v) (hown : Own e k w0 w v l) (hfr : Fr None' w0 w) {va : Option Addr} {n c : Nat} {m : Nat → Int} (hx : a.eval x = .slice va n c) (hl : Lies k w va n m) (hn : va = none → c = 0) (hbig : l.length + n ≤ 1000000)
    (h : ∀ v' w', Own e k w0 w' v' (l ++ (List.range n).map m) → Fr None' w0 w' → Fr (fun i => v.ownBlock = some i) w w' → wpList Try.prog ops Q rest (a.put o.dst v') w') : wpList Try.prog ops Q (o :: rest) a w := by
  obtain ⟨i0, hi, hz0, hz1, hz2⟩ := info_parts hinfo
  cases va with
  | none =>
    obtain rfl := hn rfl
    have hn0 : n = 0 := by
      rcases Nat.eq_zero_or_pos n with h | h
      · exact h
      · obtain ⟨b, o, e, _⟩ := hl 0 h
        cases e
    subst hn0
    refine wpList_append_own_none hgd s x t ho w0.heap.size e i0 1 hu hi v _ _ hs hown hx (h v w ?_ hfr (Fr.refl _ _))
    simpa using hown
  | some ad =>
    have hnews : ∀ j u, (((List.range n).map m).map (Value.int k))[j]? = some u → w.cell? (ad.add j) = some u := fun j u hj => by
      have hjn : j < n := by
        have := (List.getElem?_eq_some_iff.1 hj).1
        simpa using this
      obtain ⟨b, o, e, hc⟩ := hl j hjn
      cases e
      have hadd : (⟨b, o, none⟩ : Addr).add j = ⟨b, o + j, none⟩ := by unfold Addr.add; split <;> simp_all
      rw [hadd, hc]
      simp [List.getElem?_map, List.getElem?_range hjn] at hj
      rw [← hj]
    have hm : (l.length + n) * by' ≤ 8000000 := Nat.le_trans (Nat.mul_le_mul hbig hby) (by omega)
    refine wpList_append_own_at _ hgd s x t ho w0.heap.size e i0 (.int k 0) 1 by' hu hi hz0 hz1 hz2 rfl (by decide) v _ _ hs hown ad n c (((List.range n).map m).map (Value.int k)) hx (by simp) hnews (fun u hu => by
      obtain ⟨z, _, rfl⟩ := List.mem_map.1 hu; rfl) (by unfold maxLen; omega) (by omega) hfr.size ?_
    intro v' w' h1 h2 _ _
    refine h v' w' ?_ ?_ (Fr.grown h2 (fun k e => e))
    · unfold Own
      rw [List.length_append, List.map_append, List.length_map, List.length_range]
      exact h1
    · refine hfr.trans (Fr.grown (M := fun i => v.ownBlock = some i) h2 (fun k e => e)) (fun i e => Or.inr ?_)
      rcases hown.2 with ⟨hvv, _⟩ | ⟨g', cap', cur', hvv, hb', _⟩
      · rw [hvv] at e; cases e
      · rw [hvv] at e; cases e; exact hb'

theorem Try.info8 : (Try.prog.info? 5).map (fun i => (i.zero, i.size, i.bytes)) = some (some (.int .u8 0), 1, 1) := by kernel_rfl
theorem Try.info4 : (Try.prog.info? 34).map (fun i => (i.zero, i.size, i.bytes)) = some (some (.int .u32 0), 1, 4) := by kernel_rfl

theorem range_getD (n : Nat) (m : Nat → Int) {i : Nat} (h : i < n) : ((List.range n).map m).getD i 0 = m i := by
  rw [List.getD_eq_getElem?_getD, List.getElem?_map, List.getElem?_range h]; rfl

/-- Sums do not ask what lies past the end. -/
theorem Byt.congr {w : World} {v : Value} {n : Nat} {m m' : Nat → Int} (h : Byt w v n m) (hm : ∀ i, i < n → m i = m' i) : Byt w v n m' := by
  obtain ⟨va, c, e, hc, h⟩ := h
  exact ⟨va, c, e, hc, fun i hi => by rw [← hm i hi]; exact h i hi⟩

theorem range_byt {e : TypeId} {w0 w : World} {v : Value} {n : Nat} {m : Nat → Int} (h : Own e .u8 w0 w v ((List.range n).map m)) : Byt w v n m := by
  have := h.byt
  rw [List.length_map, List.length_range] at this
  exact this.congr (fun i hi => range_getD n m hi)
end Go.Proofs.Ythohblpdibeokaa
