/-
  What is proved here: what a row of things is in memory, and how it is kept. No condition.
-/
import Derived.Test.YtdaogldmcbfmoaaGreatDoorM34Plain3
import Derived.Test.YtdaogldmcbfmoaaGreatDoorM19PSplit
import Derived.Test.YtdaogldmcbfmoaaGreatDoorM25LRightP
import Derived.Test.YtdaogldmcbfmoaaGreatDoorM23LStrs
namespace Go.Proofs.YtdaogldmcbfmoaaGreatDoor
open Go.RowKit
set_option maxRecDepth 100000

theorem toL {M : Nat → Prop} {w w' : World} (h : Fr M w w') : Lines.Fr M w w' := ⟨h.os, h.tape, h.output, h.size, h.block⟩
theorem ofL {M : Nat → Prop} {w w' : World} (h : Lines.Fr M w w') : Fr M w w' := ⟨h.os, h.tape, h.output, h.size, h.block⟩
theorem ofLN {w w' : World} (h : Lines.Fr Lines.None' w w') : Fr None' w w' := ofL (M := Lines.None') h |>.mono (fun _ e => e)
theorem toLN {w w' : World} (h : Fr None' w w') : Lines.Fr Lines.None' w w' := toL (h.mono (fun _ e => e))
theorem ofBelow {w w' : World} (h : Below w.heap.size w w') : Fr None' w w' := ⟨h.os, h.tape, h.output, h.size, fun k hk _ => h.block k hk⟩

theorem Fr.keepCell {M : Nat → Prop} {w w' : World} (h : Fr M w w') {a : Addr} {v : Value} (hc : w.cell? a = some v) (hm : ¬ M a.block) : w'.cell? a = some v := (toL h).cell hc hm

/-- A thing. -/
structure En where
  path : ByteArray
  kind : Int
  lines : List ByteArray
  data : ByteArray

/-- A slice of texts. -/
def StrsAt (w : World) (v : Value) (l : List ByteArray) : Prop := ∃ va c, v = .slice va l.length c ∧ (va = none → c = 0) ∧ l.length ≤ c ∧ Lines.Row w va l

theorem StrsAt.fr {M : Nat → Prop} {w w' : World} {v : Value} {l : List ByteArray} (h : StrsAt w v l) (f : Fr M w w') (hm : ∀ k, v.ownBlock = some k → ¬ M k) : StrsAt w' v l := by
  obtain ⟨va, c, rfl, h1, h2, h3⟩ := h
  refine ⟨va, c, rfl, h1, h2, fun j x hj => ?_⟩
  obtain ⟨g, o, e, hc⟩ := h3 j x hj
  exact ⟨g, o, e, f.keepCell hc (hm g (by rw [e]; rfl))⟩

theorem StrsAt.kept {w w' : World} {v : Value} {l : List ByteArray} (h : StrsAt w v l) (f : Fr None' w w') : StrsAt w' v l := h.fr f (fun _ _ e => e)

/-- The thing x lies in the four cells at o of block g. -/
def EnAt (w : World) (g o : Nat) (x : En) : Prop := ∃ vl, w.cell? ⟨g, o, none⟩ = some (.string x.path) ∧ w.cell? ⟨g, o + 1, none⟩ = some (.int .i64 x.kind) ∧ w.cell? ⟨g, o + 2, none⟩ = some vl ∧ w.cell? ⟨g, o + 3, none⟩ = some (.string x.data) ∧ StrsAt w vl x.lines

theorem EnAt.kept {w w' : World} {g o : Nat} {x : En} (h : EnAt w g o x) (f : Fr None' w w') : EnAt w' g o x := by
  obtain ⟨vl, h0, h1, h2, h3, h4⟩ := h
  exact ⟨vl, f.keepCell h0 (fun e => e), f.keepCell h1 (fun e => e), f.keepCell h2 (fun e => e), f.keepCell h3 (fun e => e), h4.kept f⟩

/-- A row of things. -/
def EntsAt (w : World) (va : Option Addr) (L : List En) : Prop := ∀ k x, L[k]? = some x → ∃ g o, va = some ⟨g, o, none⟩ ∧ EnAt w g (o + k * 4) x

theorem EntsAt.kept {w w' : World} {va : Option Addr} {L : List En} (h : EntsAt w va L) (f : Fr None' w w') : EntsAt w' va L := fun k x hk => by
  obtain ⟨g, o, e, h1⟩ := h k x hk
  exact ⟨g, o, e, h1.kept f⟩

theorem EntsAt.get {w : World} {va : Option Addr} {L : List En} (h : EntsAt w va L) {k : Nat} (hk : k < L.length) : ∃ g o, va = some ⟨g, o, none⟩ ∧ EnAt w g (o + k * 4) L[k] := h k _ (List.getElem?_eq_getElem hk)

/-- How much a thing is. -/
def En.weight (x : En) : Nat := 5 + x.lines.length + x.data.size + x.path.size + (x.lines.map (·.size)).sum

def weight (L : List En) : Nat := (L.map En.weight).sum

theorem weight_mem {L : List En} {x : En} (h : x ∈ L) : x.weight ≤ weight L := by
  induction L with
  | nil => cases h
  | cons y L ih =>
    unfold weight at *
    simp only [List.map_cons, List.sum_cons]
    rcases List.mem_cons.1 h with e | e
    · subst e; omega
    · have := ih e; omega

theorem size_mem {l : List ByteArray} {x : ByteArray} (h : x ∈ l) : x.size ≤ (l.map (·.size)).sum := by
  induction l with
  | nil => cases h
  | cons y l ih =>
    simp only [List.map_cons, List.sum_cons]
    rcases List.mem_cons.1 h with e | e
    · subst e; omega
    · have := ih e; omega

theorem weight_len (L : List En) : 5 * L.length ≤ weight L := by
  induction L with
  | nil => exact Nat.zero_le _
  | cons x L ih =>
    unfold weight at *
    simp only [List.map_cons, List.sum_cons, List.length_cons]
    unfold En.weight at *
    omega

end Go.Proofs.YtdaogldmcbfmoaaGreatDoor
