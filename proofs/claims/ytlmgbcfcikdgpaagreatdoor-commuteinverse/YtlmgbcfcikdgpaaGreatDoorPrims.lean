/-
  What is proved here: what a patch, and a row of patches, is in memory, and how it is kept; what undoes it. No condition.
-/
import Derived.Test.YtlmgbcfcikdgpaaGreatDoorStrs9
namespace Go.Proofs.YtlmgbcfcikdgpaaGreatDoor
open Go.RowKit
set_option maxRecDepth 100000

/-- A patch. -/
structure Pr where
  kind : Int
  path : ByteArray
  dst : ByteArray
  src : ByteArray
  pos : Int
  old : List ByteArray
  new : List ByteArray

def zeroP : Pr := ⟨0, ⟨#[]⟩, ⟨#[]⟩, ⟨#[]⟩, 0, [], []⟩

/-- What undoes a patch. -/
def inv (x : Pr) : Pr :=
  if x.kind = 1 ∨ x.kind = 3 ∨ x.kind = 5 then { x with kind := x.kind + 1 }
  else if x.kind = 2 ∨ x.kind = 4 ∨ x.kind = 6 then { x with kind := x.kind - 1 }
  else if x.kind = 7 then { x with old := x.new, new := x.old }
  else if x.kind = 8 ∨ x.kind = 9 then { x with dst := x.src, src := x.dst }
  else if x.kind = 10 then { x with path := x.dst, dst := x.path }
  else zeroP

/-- How much a patch is. -/
def Pr.weight (x : Pr) : Nat := x.path.size + x.dst.size + x.src.size + x.old.length + x.new.length + (x.old.map (·.size)).sum + (x.new.map (·.size)).sum

/-- The cells of a patch, its rows given. -/
def prCells (x : Pr) (vo vn : Value) : List Value := [.int .i64 x.kind, .string x.path, .string x.dst, .string x.src, .int .i64 x.pos, vo, vn]

/-- v is the patch x. -/
def PrVal (w : World) (v : Value) (x : Pr) : Prop := ∃ vo vn, v = .agg #[.int .i64 x.kind, .string x.path, .string x.dst, .string x.src, .int .i64 x.pos, vo, vn] ∧ StrsAt w vo x.old ∧ StrsAt w vn x.new

theorem PrVal.kept {w w' : World} {v : Value} {x : Pr} (h : PrVal w v x) (f : Fr None' w w') : PrVal w' v x := by
  obtain ⟨vo, vn, e, h1, h2⟩ := h
  exact ⟨vo, vn, e, h1.kept f, h2.kept f⟩

/-- .. whose rows were made since w0. -/
def PrNew (w0 w : World) (v : Value) (x : Pr) : Prop := ∃ vo vn, v = .agg #[.int .i64 x.kind, .string x.path, .string x.dst, .string x.src, .int .i64 x.pos, vo, vn] ∧ StrsAt w vo x.old ∧ StrsAt w vn x.new ∧ (∀ k, vo.ownBlock = some k → w0.heap.size ≤ k) ∧ ∀ k, vn.ownBlock = some k → w0.heap.size ≤ k

theorem PrNew.val {w0 w : World} {v : Value} {x : Pr} (h : PrNew w0 w v x) : PrVal w v x := by
  obtain ⟨vo, vn, e, h1, h2, _⟩ := h
  exact ⟨vo, vn, e, h1, h2⟩

/-- The patch x lies in the seven cells at o of block g. -/
def PrAt (w : World) (g o : Nat) (x : Pr) : Prop := ∃ vo vn, w.cell? ⟨g, o, none⟩ = some (.int .i64 x.kind) ∧ w.cell? ⟨g, o + 1, none⟩ = some (.string x.path) ∧ w.cell? ⟨g, o + 2, none⟩ = some (.string x.dst) ∧ w.cell? ⟨g, o + 3, none⟩ = some (.string x.src) ∧ w.cell? ⟨g, o + 4, none⟩ = some (.int .i64 x.pos) ∧ w.cell? ⟨g, o + 5, none⟩ = some vo ∧ w.cell? ⟨g, o + 6, none⟩ = some vn ∧ StrsAt w vo x.old ∧ StrsAt w vn x.new

theorem PrAt.kept {w w' : World} {g o : Nat} {x : Pr} (h : PrAt w g o x) (f : Fr None' w w') : PrAt w' g o x := by
  obtain ⟨vo, vn, h0, h1, h2, h3, h4, h5, h6, h7, h8⟩ := h
  exact ⟨vo, vn, f.keepCell h0 (fun e => e), f.keepCell h1 (fun e => e), f.keepCell h2 (fun e => e), f.keepCell h3 (fun e => e), f.keepCell h4 (fun e => e), f.keepCell h5 (fun e => e), f.keepCell h6 (fun e => e), h7.kept f, h8.kept f⟩

/-- A row of patches. -/
def PrsAt (w : World) (va : Option Addr) (L : List Pr) : Prop := ∀ k x, L[k]? = some x → ∃ g o, va = some ⟨g, o, none⟩ ∧ PrAt w g (o + k * 7) x

theorem PrsAt.kept {w w' : World} {va : Option Addr} {L : List Pr} (h : PrsAt w va L) (f : Fr None' w w') : PrsAt w' va L := fun k x hk => by
  obtain ⟨g, o, e, h1⟩ := h k x hk
  exact ⟨g, o, e, h1.kept f⟩

theorem PrsAt.get {w : World} {va : Option Addr} {L : List Pr} (h : PrsAt w va L) {k : Nat} (hk : k < L.length) : ∃ g o, va = some ⟨g, o, none⟩ ∧ PrAt w g (o + k * 7) L[k] := h k _ (List.getElem?_eq_getElem hk)

/-- Seven cells of a new block. -/
theorem cell7 (w : World) (t : TypeId) (a b c d e f g : Value) : (w.alloc (.cells #[a, b, c, d, e, f, g] t)).cell? ⟨w.heap.size, 0, none⟩ = some a ∧ (w.alloc (.cells #[a, b, c, d, e, f, g] t)).cell? ⟨w.heap.size, 1, none⟩ = some b ∧ (w.alloc (.cells #[a, b, c, d, e, f, g] t)).cell? ⟨w.heap.size, 2, none⟩ = some c ∧ (w.alloc (.cells #[a, b, c, d, e, f, g] t)).cell? ⟨w.heap.size, 3, none⟩ = some d ∧ (w.alloc (.cells #[a, b, c, d, e, f, g] t)).cell? ⟨w.heap.size, 4, none⟩ = some e ∧ (w.alloc (.cells #[a, b, c, d, e, f, g] t)).cell? ⟨w.heap.size, 5, none⟩ = some f ∧ (w.alloc (.cells #[a, b, c, d, e, f, g] t)).cell? ⟨w.heap.size, 6, none⟩ = some g := by
  refine ⟨?_, ?_, ?_, ?_, ?_, ?_, ?_⟩ <;> (rw [World.cell?, heap_alloc_new]; rfl)

end Go.Proofs.YtlmgbcfcikdgpaaGreatDoor
