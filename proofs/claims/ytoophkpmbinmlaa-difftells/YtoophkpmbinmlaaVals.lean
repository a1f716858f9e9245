/-
  What is proved here: rows of values as they lie in memory, and how they grow by append. Conditions: they are the call's own; they are fewer than a million.
-/
import Derived.Test.YtoophkpmbinmlaaPlain
import Derived.Test.YtoophkpmbinmlaaProg
import Derived.Test.YtoophkpmbinmlaaBase
import Derived.WalkKit
import Derived.Maps.AppendAt
import Derived.Laws.AppendOwnNone
import Derived.OwnWalk
import Derived.Deep.AppendLies
import Derived.Laws.FloatArith
namespace Go.Proofs.Ytoophkpmbinmlaa
open Go.RowKit
set_option maxRecDepth 100000

theorem ret_int {k : IntKind} {a b : Int} (h : a = b) : Ending.returned (.int k a) = .returned (.int k b) := by rw [h]
theorem ret_bool {a b : Bool} (h : a = b) : Ending.returned (.bool a) = .returned (.bool b) := by rw [h]

theorem len_eq (s : ByteArray) : s.data.toList.length = s.size := by cases s; rfl

theorem str_of {s : ByteArray} {l : List UInt8} (h : s.data.toList = l) : s = ⟨l.toArray⟩ := by
  cases s with | mk d => cases d; simp at h; subst h; rfl

theorem str_no {x y : ByteArray} (h : ¬ x = y) : (¬ x.toList = y.toList) ∧ (x.toList == y.toList) = false := by
  rw [ByteArray.toList_eq, ByteArray.toList_eq]
  have : ¬ x.data.toList = y.data.toList := fun e => h (by rw [str_of e])
  exact ⟨this, by simpa using this⟩

theorem Grew.of {w w' : World} (h : Below w.heap.size w w') : Fr None' w w' := ⟨h.os, h.tape, h.output, h.size, fun k hk _ => h.block k hk⟩

theorem Grew.below {w w' : World} (h : Fr None' w w') : Below w.heap.size w w' := Fr.below h (Nat.le_refl _) (fun _ e => e.elim)

/-- A slice's cells hold these values. -/
def RowV (W : World) (ad : Option Addr) (vs : List Value) : Prop := ∀ j v, vs[j]? = some v → ∃ g o, ad = some ⟨g, o, none⟩ ∧ W.cell? ⟨g, o + j, none⟩ = some v

/-- .. all of them in blocks that M does not name. -/
def Off (M : Nat → Prop) (ad : Option Addr) : Prop := ∀ a, ad = some a → ¬ M a.block

theorem RowV.fr {M : Nat → Prop} {W W' : World} {ad : Option Addr} {vs : List Value} (h : RowV W ad vs) (f : Fr M W W') (hm : Off M ad) : RowV W' ad vs := fun j x hj => by
  obtain ⟨g, o, e, hc⟩ := h j x hj
  exact ⟨g, o, e, f.cell hc (hm ⟨g, o, none⟩ e)⟩

theorem Off.none (M : Nat → Prop) : Off M none := fun _ e => by cases e
theorem Off.no (ad : Option Addr) : Off None' ad := fun _ _ e => e

theorem RowV.nil (W : World) (ad : Option Addr) : RowV W ad [] := fun j x h => by simp at h

theorem RowV.get {W : World} {ad : Option Addr} {vs : List Value} (h : RowV W ad vs) {k : Nat} (hk : k < vs.length) : ∃ g o, ad = some ⟨g, o, none⟩ ∧ W.cell? ⟨g, o + k, none⟩ = some vs[k] := h k _ (List.getElem?_eq_getElem hk)

/-- Texts in a row. -/
def Row (W : World) (ad : Option Addr) (ss : List ByteArray) : Prop := ∀ j x, ss[j]? = some x → ∃ g o, ad = some ⟨g, o, none⟩ ∧ W.cell? ⟨g, o + j, none⟩ = some (.string x)

theorem Row.frM {M : Nat → Prop} {W W' : World} {ad : Option Addr} {ss : List ByteArray} (h : Row W ad ss) (f : Fr M W W') (hm : Off M ad) : Row W' ad ss := fun j x hj => by
  obtain ⟨g, o, e, hc⟩ := h j x hj
  exact ⟨g, o, e, f.cell hc (hm ⟨g, o, none⟩ e)⟩

theorem Row.fr {W W' : World} {ad : Option Addr} {ss : List ByteArray} (h : Row W ad ss) (f : Fr None' W W') : Row W' ad ss := h.frM f (Off.no ad)

theorem Row.nil (W : World) (ad : Option Addr) : Row W ad [] := fun j x h => by simp at h

theorem Row.get {W : World} {ad : Option Addr} {ss : List ByteArray} (h : Row W ad ss) {k : Nat} (hk : k < ss.length) : ∃ g o, ad = some ⟨g, o, none⟩ ∧ W.cell? ⟨g, o + k, none⟩ = some (.string ss[k]) := h k _ (List.getElem?_eq_getElem hk)

theorem Row.vals {W : World} {ad : Option Addr} {ss : List ByteArray} (h : Row W ad ss) : RowV W ad (ss.map .string) := fun j v hj => by
  rw [List.getElem?_map] at hj
  cases hm : ss[j]? with
  | none => rw [hm] at hj; cases hj
  | some y => rw [hm] at hj; cases hj; exact h j y hm

theorem RowV.row {W : World} {ad : Option Addr} {ss : List ByteArray} (h : RowV W ad (ss.map .string)) : Row W ad ss := fun j x hj => h j _ (by rw [List.getElem?_map, hj]; rfl)

/-- A part of a row. -/
theorem RowV.part {W : World} {g o : Nat} {vs : List Value} (h : RowV W (some ⟨g, o, none⟩) vs) (k n : Nat) : RowV W (some ⟨g, o + k, none⟩) ((vs.drop k).take n) := fun j x hj => by
  have hj' : vs[k + j]? = some x := by
    rw [List.getElem?_take] at hj
    split at hj
    · rw [List.getElem?_drop] at hj; exact hj
    · cases hj
  obtain ⟨g', o', e, hc⟩ := h (k + j) x hj'
  cases e
  exact ⟨g, o + k, rfl, by rw [Nat.add_assoc]; exact hc⟩

theorem Row.part {W : World} {g o : Nat} {ss : List ByteArray} (h : Row W (some ⟨g, o, none⟩) ss) (k n : Nat) : Row W (some ⟨g, o + k, none⟩) ((ss.drop k).take n) := by
  have := h.vals.part k n
  rw [← List.map_drop, ← List.map_take] at this
  exact this.row

/-- v is a row of the values vs, in a block of its own at or beyond base. -/
def OwnV (base : Nat) (w : World) (e : TypeId) (v : Value) (vs : List Value) : Prop := w.ownsRow base e 1 v vs.length vs

theorem OwnV.slice {base : Nat} {w : World} {e : TypeId} {v : Value} {vs : List Value} (h : OwnV base w e v vs) : ∃ va c, v = .slice va vs.length c ∧ vs.length ≤ c ∧ (va = none → c = 0) ∧ RowV w va vs ∧ (∀ a, va = some a → base ≤ a.block ∧ a.off = 0 ∧ a.spot = none ∧ a.block < w.heap.size) := by
  rcases h.2 with ⟨hv, h0⟩ | ⟨g, cap, cur, hv, hb, hh, hc, _, hs, ht⟩
  · refine ⟨none, 0, by rw [hv, h0], by omega, fun _ => rfl, fun j x hj => ?_, fun a e => by cases e⟩
    have := (List.getElem?_eq_some_iff.1 hj).1
    omega
  · refine ⟨_, cap, hv, hc, fun e => by simp at e, fun i x hi => ⟨g, 0, rfl, ?_⟩, fun a e => by cases e; exact ⟨hb, rfl, rfl, (Array.getElem?_eq_some_iff.1 hh).1⟩⟩
    have hlt := (List.getElem?_eq_some_iff.1 hi).1
    rw [← ht, List.getElem?_take, if_pos (by omega)] at hi
    rw [World.cell?, Nat.zero_add, hh]
    simpa using hi

/-- The block of v, if it has one. -/
def Own1 (v : Value) : Nat → Prop := fun k => v.ownBlock = some k

theorem OwnV.fr {M : Nat → Prop} {base : Nat} {w w' : World} {e : TypeId} {v : Value} {vs : List Value} (h : OwnV base w e v vs) (f : Fr M w w') (hm : ∀ k, Own1 v k → ¬ M k) : OwnV base w' e v vs := by
  refine ⟨h.1, ?_⟩
  rcases h.2 with h | ⟨g, cap, cur, hv, hb, hh, h⟩
  · exact Or.inl h
  · exact Or.inr ⟨g, cap, cur, hv, hb, f.at hh (hm g (by rw [Own1, hv]; rfl)), h⟩

theorem OwnV.kept {base : Nat} {w w' : World} {e : TypeId} {v : Value} {vs : List Value} (h : OwnV base w e v vs) (f : Fr None' w w') : OwnV base w' e v vs := h.fr f (fun _ _ e => e)

theorem OwnV.nil (base : Nat) (w : World) (e : TypeId) : OwnV base w e (.slice none 0 0) [] := World.ownsRow_nil w _ e 1

theorem OwnV.lt {base : Nat} {w : World} {e : TypeId} {v : Value} {vs : List Value} (h : OwnV base w e v vs) {k : Nat} (hk : Own1 v k) : base ≤ k ∧ k < w.heap.size := by
  rcases h.2 with ⟨hv, _⟩ | ⟨g, cap, cur, hv, hb, hh, _⟩
  · rw [Own1, hv] at hk; cases hk
  · rw [Own1, hv] at hk; cases hk; exact ⟨hb, (Array.getElem?_eq_some_iff.1 hh).1⟩

/-- The row's head of no elements, its room kept. -/
theorem OwnV.zero {base : Nat} {w : World} {e : TypeId} {va : Option Addr} {c : Nat} {vs : List Value} (h : OwnV base w e (.slice va vs.length c) vs) : OwnV base w e (.slice va 0 c) [] := by
  rcases h.2 with ⟨hv, _⟩ | ⟨g, cap, cur, hv, hb, hh, hc, hm, hs, _⟩
  · simp only [Value.slice.injEq] at hv
    obtain ⟨rfl, _, rfl⟩ := hv
    exact OwnV.nil _ _ _
  · simp only [Value.slice.injEq] at hv
    obtain ⟨rfl, _, rfl⟩ := hv
    exact ⟨rfl, Or.inr ⟨g, c, cur, rfl, hb, hh, Nat.zero_le _, hm, hs, by simp⟩⟩

/-- '[]T{}': an empty row of no room. -/
theorem OwnV.empty {base : Nat} {w : World} (e : TypeId) (hb : base ≤ w.heap.size) : OwnV base (w.alloc (.cells #[] e)) e (.slice (some ⟨w.heap.size, 0, none⟩) 0 0) [] :=
  ⟨rfl, Or.inr ⟨w.heap.size, 0, #[], rfl, hb, heap_alloc_new w _, Nat.le_refl _, Nat.zero_le _, rfl, rfl⟩⟩

/-- A type whose values are one cell each. -/
structure One (e t : TypeId) (bytes : Nat) : Prop where
  ty : Try.prog.underlying t = some (.slice e)
  info : ∃ i z, Try.prog.info? e = some i ∧ i.zero = some z ∧ i.size = 1 ∧ i.bytes = bytes ∧ z.cells.size = 1
  small : bytes ≤ 24

theorem one_mk {e t : TypeId} {z : Value} {bytes : Nat} (ht : Try.prog.underlying t = some (.slice e)) (h : (Try.prog.info? e).map (fun i => (i.zero, i.size, i.bytes)) = some (some z, 1, bytes)) (hz : z.cells.size = 1) (hb : bytes ≤ 24) : One e t bytes := by
  obtain ⟨i0, hi, hz0, hz1, hz2⟩ := info_parts h
  exact ⟨ht, ⟨i0, z, hi, hz0, hz1, hz2, hz⟩, hb⟩

theorem oneS : One 9 22 16 := one_mk (z := (.string ⟨#[]⟩)) Try.underlying22 (by kernel_rfl) rfl (by decide)
theorem oneI : One 3 37 8 := one_mk (z := (.int .i64 0)) Try.underlying37 (by kernel_rfl) rfl (by decide)
theorem oneIS : One 37 35 24 := one_mk (z := (.slice none 0 0)) Try.underlying35 (by kernel_rfl) rfl (by decide)
theorem oneF : One 55 64 8 := one_mk (z := (.float .f64 0)) Try.underlying64 (by kernel_rfl) rfl (by decide)
theorem oneFS : One 64 61 24 := one_mk (z := (.slice none 0 0)) Try.underlying61 (by kernel_rfl) rfl (by decide)

/-- 'append(s, x...)', s the call's own. -/
theorem append_run {e t : TypeId} {bytes : Nat} (h1 : One e t bytes) (ty : TypeId) {base : Nat} {w : World} {v : Value} {vs : List Value} (hown : OwnV base w e v vs) {va : Option Addr} {c k : Nat} {m : List Value} (hk : m.length = k) (hl : RowV w va m) (hn : va = none → c = 0) (hm : ∀ u ∈ m, u.oneCell' = true) (hbig : vs.length + m.length ≤ 1000000) (hb : base ≤ w.heap.size) :
    ∃ v' w', (Builtin.append_ #[t, t] ty #[v, .slice va k c]).run Try.prog w = .ok v' w' ∧ OwnV base w' e v' (vs ++ m) ∧ Fr (Own1 v) w w' ∧ (v'.ownBlock = v.ownBlock ∨ v'.ownBlock = some w.heap.size) := by
  obtain ⟨i0, z, hi, hz0, hz1, hz2, hz3⟩ := h1.info
  have hbb := h1.small
  subst hk
  cases va with
  | none =>
    obtain rfl := hn rfl
    have hn0 : m = [] := by
      cases m with
      | nil => rfl
      | cons y m => obtain ⟨_, _, e, _⟩ := hl 0 y rfl; cases e
    subst hn0
    exact ⟨v, w, run_append_owned_none (P := Try.prog) (w := w) base t ty e i0 1 h1.ty hi v _ _ hown, by simpa using hown, Fr.refl _ _, Or.inl rfl⟩
  | some ad =>
    have hnews : ∀ j u, m[j]? = some u → w.cell? (ad.add j) = some u := fun j u hj => by
      obtain ⟨b, o, e, hc⟩ := hl j u hj
      cases e
      have hadd : (⟨b, o, none⟩ : Addr).add j = ⟨b, o + j, none⟩ := by unfold Addr.add; split <;> simp_all
      rw [hadd, hc]
    obtain ⟨v', w', hr, h2, h3, _, h5⟩ := run_append_own_at (P := Try.prog) w base t ty e i0 z 1 bytes h1.ty hi hz0 hz1 hz2 hz3 (by decide) v _ _ hown ad m.length c m (by simp) hnews hm (by unfold maxLen; omega) (by
      have : (vs.length + m.length) * bytes ≤ 1000000 * 24 := Nat.mul_le_mul hbig hbb
      omega) hb
    refine ⟨v', w', hr, ?_, Fr.grown h3 (fun k e => e), h5⟩
    unfold OwnV
    rw [List.length_append]
    exact h2

theorem append_one {e t : TypeId} {bytes : Nat} (h1 : One e t bytes) {ops : Array Oper} {rest : List Oper} {o : Oper} {a : Act} {w : World} {Q : Exit → Act → World → Prop} (hgd : o.guard = none) (s x : Operand)
    (ho : o.op = .call { callee := .builtin .append, args := #[s, x], argTypes := #[t, t] })
    {base : Nat} {v : Value} {vs : List Value} (hs : a.eval s = v) (hown : OwnV base w e v vs) {va : Option Addr} {c k : Nat} {m : List Value} (hx : a.eval x = .slice va k c) (hk : m.length = k) (hl : RowV w va m) (hn : va = none → c = 0) (hm : ∀ u ∈ m, u.oneCell' = true) (hbig : vs.length + m.length ≤ 1000000) (hb : base ≤ w.heap.size)
    (h : ∀ v' w', OwnV base w' e v' (vs ++ m) → Fr (Own1 v) w w' → (v'.ownBlock = v.ownBlock ∨ v'.ownBlock = some w.heap.size) → wpList Try.prog ops Q rest (a.put o.dst v') w') : wpList Try.prog ops Q (o :: rest) a w := by
  refine wpList_plain hgd fun K hK => ?_
  obtain ⟨v', w', hr, h2, h3, h4⟩ := append_run h1 o.type hown hk hl hn hm hbig hb
  unfold Oper.wp execOp
  simp only [ho, resolve, invoke, builtin, Sem.run_bind, Sem.run_pure, Result.andThen_ok, List.map_toArray, List.map_cons, List.map_nil, hs, hx, hr]
  exact hK _ _ (h v' w' h2 h3 h4)

/-- One value, in a block of its own. -/
theorem one_row (w : World) (e : TypeId) (x : Value) : RowV (w.alloc (.cells #[x] e)) (some ⟨w.heap.size, 0, none⟩) [x] := fun j y hj => by
  have hlt := (List.getElem?_eq_some_iff.1 hj).1
  obtain rfl : j = 0 := by simpa using hlt
  simp at hj
  subst hj
  exact ⟨_, _, rfl, by simp⟩

/-- Its own or new. -/
theorem own_or {v v' : Value} {w : World} (h : v'.ownBlock = v.ownBlock ∨ v'.ownBlock = some w.heap.size) {k : Nat} (hk : Own1 v' k) : Own1 v k ∨ k = w.heap.size := by
  unfold Own1 at *
  rcases h with h | h
  · exact Or.inl (h ▸ hk)
  · rw [h] at hk; cases hk; exact Or.inr rfl

theorem own_fr {M : Nat → Prop} {e : TypeId} {v : Value} {vs : List Value} {w wr wx w1 : World} (h : OwnV w.heap.size wr e v vs) (hF : Fr M w wr) (f0 : Fr None' wr wx) (f : Fr (Own1 v) wx w1) : Fr M w w1 ∧ Fr (Own1 v) wr w1 := by
  have f2 : Fr (Own1 v) wr w1 := (f0.mono (fun _ e => e.elim)).then f
  exact ⟨hF.trans f2 (fun i e => Or.inr (h.lt e).1), f2⟩

/-- Numbers in a row. -/
def ints (l : List Int) : List Value := l.map (Value.int .i64)

theorem ints_one (l : List Int) : ∀ u ∈ ints l, u.oneCell' = true := fun u hu => by
  obtain ⟨z, _, rfl⟩ := List.mem_map.1 hu; rfl
theorem strs_one (l : List ByteArray) : ∀ u ∈ l.map Value.string, u.oneCell' = true := fun u hu => by
  obtain ⟨z, _, rfl⟩ := List.mem_map.1 hu; rfl

theorem ints_length (l : List Int) : (ints l).length = l.length := List.length_map ..

theorem ints_get {l : List Int} {k : Nat} (hk : k < l.length) : (ints l)[k]'(by rw [ints_length]; exact hk) = .int .i64 l[k] := by simp [ints]

end Go.Proofs.Ytoophkpmbinmlaa
