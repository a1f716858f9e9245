/-
  What is proved here: the contracts that the statement stands on: ZStrs9, ZPrims, ZArgsP, ZBase13, ZBox9, ZKind9, ZRight9, ZPlain13, ZPatch13, ZWhole13, ZPat13, ZArgsN13, ZMaps8, ZMap14, ZOwnP, ZRInv9, ZRAll9, ZBox10. Conditions: as each theorem names them.
-/
import Derived.Test.YtbiilnhefoplkaaGreatDoorM1Base
import Derived.Test.YtbiilnhefoplkaaGreatDoorM5ZLStrs
import Derived.Test.YtbiilnhefoplkaaGreatDoorChecked
import Derived.Deep.Strs
import Derived.Deep.Slices
import Derived.ProofKit
import Derived.OpenShut
import Derived.ShutString
import Derived.ChangeOld
import Derived.ChangeSame
import Derived.SizedLaws
import Derived.Below
import Derived.Laws.ResultCell
import Derived.Test.YtbiilnhefoplkaaGreatDoorM2PBase
import Derived.Test.YtbiilnhefoplkaaGreatDoorM3LPlain
import Derived.Lib.ItoaNum
import Derived.Maps.RangeWalk
import Derived.Maps.AppendAt
import Derived.Maps.Ext
import Derived.Maps.OwnSet
import Derived.Deep.AppendLies
import Derived.Laws.OwnMore
import Derived.Deep.RegionHeld3
namespace Go.Proofs.YtbiilnhefoplkaaGreatDoor
open Go.RowKit
set_option maxRecDepth 100000

theorem toL {M : Nat → Prop} {w w' : World} (h : Fr M w w') : Lines.Fr M w w' := ⟨h.os, h.tape, h.output, h.size, h.block⟩
theorem ofL {M : Nat → Prop} {w w' : World} (h : Lines.Fr M w w') : Fr M w w' := ⟨h.os, h.tape, h.output, h.size, h.block⟩
theorem ofLN {w w' : World} (h : Lines.Fr Lines.None' w w') : Fr None' w w' := ofL (M := Lines.None') h |>.mono (fun _ e => e)
theorem toLN {w w' : World} (h : Fr None' w w') : Lines.Fr Lines.None' w w' := toL (h.mono (fun _ e => e))
theorem ofBelow {w w' : World} (h : Below w.heap.size w w') : Fr None' w w' := ⟨h.os, h.tape, h.output, h.size, fun k hk _ => h.block k hk⟩

theorem Fr.keepCell {M : Nat → Prop} {w w' : World} (h : Fr M w w') {a : Addr} {v : Value} (hc : w.cell? a = some v) (hm : ¬ M a.block) : w'.cell? a = some v := (toL h).cell hc hm

theorem Fr.then7 {a b c : World} (h : Fr None' a b) (k : Fr None' b c) : Fr None' a c := h.trans k (fun _ e => Or.inl e)

theorem Fr.drew (M : Nat → Prop) (w : World) : Fr M w w.drew := ⟨rfl, rfl, rfl, Nat.le_refl _, fun _ _ _ => rfl⟩

/-- A slice of texts. -/
def StrsAt (w : World) (v : Value) (l : List ByteArray) : Prop := ∃ va c, v = .slice va l.length c ∧ (va = none → c = 0) ∧ l.length ≤ c ∧ Lines.Row w va l

theorem StrsAt.fr {M : Nat → Prop} {w w' : World} {v : Value} {l : List ByteArray} (h : StrsAt w v l) (f : Fr M w w') (hm : ∀ k, v.ownBlock = some k → ¬ M k) : StrsAt w' v l := by
  obtain ⟨va, c, rfl, h1, h2, h3⟩ := h
  refine ⟨va, c, rfl, h1, h2, fun j x hj => ?_⟩
  obtain ⟨g, o, e, hc⟩ := h3 j x hj
  exact ⟨g, o, e, f.keepCell hc (hm g (by rw [e]; rfl))⟩

theorem StrsAt.kept {w w' : World} {v : Value} {l : List ByteArray} (h : StrsAt w v l) (f : Fr None' w w') : StrsAt w' v l := h.fr f (fun _ _ e => e)

theorem StrsAt.lt {w : World} {v : Value} {l : List ByteArray} (h : StrsAt w v l) (hl : l ≠ []) {k : Nat} (hk : v.ownBlock = some k) : k < w.heap.size := by
  obtain ⟨va, c, rfl, h1, h2, h3⟩ := h
  cases l with
  | nil => exact absurd rfl hl
  | cons x l =>
    obtain ⟨g, o, e, hc⟩ := h3 0 x rfl
    subst e
    cases hk
    exact cell_lt hc

theorem StrsAt.far {M : Nat → Prop} {w w' : World} {v : Value} {l : List ByteArray} (h : StrsAt w v l) (f : Fr M w w') (hm : l ≠ [] → ∀ k, v.ownBlock = some k → ¬ M k) : StrsAt w' v l := by
  by_cases hl : l = []
  · subst hl
    obtain ⟨va, c, rfl, h1, h2, h3⟩ := h
    exact ⟨va, c, rfl, h1, h2, Lines.Row.nil _ _⟩
  · exact h.fr f (hm hl)

theorem size_mem {l : List ByteArray} {x : ByteArray} (h : x ∈ l) : x.size ≤ (l.map (·.size)).sum := by
  induction l with
  | nil => cases h
  | cons y l ih =>
    simp only [List.map_cons, List.sum_cons]
    rcases List.mem_cons.1 h with e | e
    · subst e; omega
    · have := ih e; omega

theorem own_strs {base : Nat} {w : World} {v : Value} {l : List ByteArray} (h : w.ownsRow base 9 1 v l.length (l.map Value.string)) : StrsAt w v l := by
  rcases h.2 with ⟨hv, h0⟩ | ⟨g, cap, cur, hv, hb, hh, hc, _, hs, ht⟩
  · have e : l = [] := List.length_eq_zero_iff.1 h0
    subst e
    exact ⟨none, 0, hv, fun _ => rfl, Nat.le_refl _, Lines.Row.nil _ _⟩
  · refine ⟨_, cap, hv, fun e => by simp at e, hc, fun j x hj => ⟨g, 0, rfl, ?_⟩⟩
    have hlt := (List.getElem?_eq_some_iff.1 hj).1
    have h1 : (l.map Value.string)[j]? = some (.string x) := by rw [List.getElem?_map, hj]; rfl
    rw [← ht, List.getElem?_take, if_pos (by omega)] at h1
    rw [World.cell?, Nat.zero_add, hh]
    simpa using h1

theorem own_ge {base n : Nat} {w : World} {e : TypeId} {v : Value} {xs : List Value} (h : w.ownsRow base e 1 v n xs) {k : Nat} (hk : v.ownBlock = some k) : base ≤ k := by
  rcases h.2 with ⟨hv, _⟩ | ⟨g, cap, cur, hv, hb, _⟩
  · rw [hv] at hk; cases hk
  · rw [hv] at hk; cases hk; exact hb

theorem sizes_step {l : List ByteArray} {k : Nat} (hk : k < l.length) : ((l.take (k + 1)).map (·.size)).sum = ((l.take k).map (·.size)).sum + l[k].size := by
  rw [List.take_succ_eq_append_getElem hk, List.map_append, List.sum_append]
  simp

theorem ret_bool7 {a b : Bool} (h : a = b) : Ending.returned (.bool a) = .returned (.bool b) := by rw [h]

end Go.Proofs.YtbiilnhefoplkaaGreatDoor

namespace Go.Proofs.YtbiilnhefoplkaaGreatDoor
open Go.RowKit
set_option maxRecDepth 100000

/-- A patch. -/
structure Pr where
  kind : Int
  path : ByteArray
  dst : ByteArray
  src : ByteArray
  pos : Int
  old : List ByteArray
  new : List ByteArray

def zeroP : Pr := ⟨0, ⟨#[]⟩, ⟨#[]⟩, ⟨#[]⟩, 0, [], []⟩

/-- What undoes a patch. -/
def inv (x : Pr) : Pr :=
  if x.kind = 1 ∨ x.kind = 3 ∨ x.kind = 5 then { x with kind := x.kind + 1 }
  else if x.kind = 2 ∨ x.kind = 4 ∨ x.kind = 6 then { x with kind := x.kind - 1 }
  else if x.kind = 7 then { x with old := x.new, new := x.old }
  else if x.kind = 8 ∨ x.kind = 9 then { x with dst := x.src, src := x.dst }
  else if x.kind = 10 then { x with path := x.dst, dst := x.path }
  else zeroP

/-- How much a patch is. -/
def Pr.weight (x : Pr) : Nat := x.path.size + x.dst.size + x.src.size + x.old.length + x.new.length + (x.old.map (·.size)).sum + (x.new.map (·.size)).sum

/-- The cells of a patch, its rows given. -/
def prCells (x : Pr) (vo vn : Value) : List Value := [.int .i64 x.kind, .string x.path, .string x.dst, .string x.src, .int .i64 x.pos, vo, vn]

/-- v is the patch x. -/
def PrVal (w : World) (v : Value) (x : Pr) : Prop := ∃ vo vn, v = .agg #[.int .i64 x.kind, .string x.path, .string x.dst, .string x.src, .int .i64 x.pos, vo, vn] ∧ StrsAt w vo x.old ∧ StrsAt w vn x.new

theorem PrVal.kept {w w' : World} {v : Value} {x : Pr} (h : PrVal w v x) (f : Fr None' w w') : PrVal w' v x := by
  obtain ⟨vo, vn, e, h1, h2⟩ := h
  exact ⟨vo, vn, e, h1.kept f, h2.kept f⟩

/-- .. whose rows were made since w0. -/
def PrNew (w0 w : World) (v : Value) (x : Pr) : Prop := ∃ vo vn, v = .agg #[.int .i64 x.kind, .string x.path, .string x.dst, .string x.src, .int .i64 x.pos, vo, vn] ∧ StrsAt w vo x.old ∧ StrsAt w vn x.new ∧ (∀ k, vo.ownBlock = some k → w0.heap.size ≤ k) ∧ ∀ k, vn.ownBlock = some k → w0.heap.size ≤ k

theorem PrNew.val {w0 w : World} {v : Value} {x : Pr} (h : PrNew w0 w v x) : PrVal w v x := by
  obtain ⟨vo, vn, e, h1, h2, _⟩ := h
  exact ⟨vo, vn, e, h1, h2⟩

/-- The patch x lies in the seven cells at o of block g. -/
def PrAt (w : World) (g o : Nat) (x : Pr) : Prop := ∃ vo vn, w.cell? ⟨g, o, none⟩ = some (.int .i64 x.kind) ∧ w.cell? ⟨g, o + 1, none⟩ = some (.string x.path) ∧ w.cell? ⟨g, o + 2, none⟩ = some (.string x.dst) ∧ w.cell? ⟨g, o + 3, none⟩ = some (.string x.src) ∧ w.cell? ⟨g, o + 4, none⟩ = some (.int .i64 x.pos) ∧ w.cell? ⟨g, o + 5, none⟩ = some vo ∧ w.cell? ⟨g, o + 6, none⟩ = some vn ∧ StrsAt w vo x.old ∧ StrsAt w vn x.new

theorem PrAt.kept {w w' : World} {g o : Nat} {x : Pr} (h : PrAt w g o x) (f : Fr None' w w') : PrAt w' g o x := by
  obtain ⟨vo, vn, h0, h1, h2, h3, h4, h5, h6, h7, h8⟩ := h
  exact ⟨vo, vn, f.keepCell h0 (fun e => e), f.keepCell h1 (fun e => e), f.keepCell h2 (fun e => e), f.keepCell h3 (fun e => e), f.keepCell h4 (fun e => e), f.keepCell h5 (fun e => e), f.keepCell h6 (fun e => e), h7.kept f, h8.kept f⟩

/-- A row of patches. -/
def PrsAt (w : World) (va : Option Addr) (L : List Pr) : Prop := ∀ k x, L[k]? = some x → ∃ g o, va = some ⟨g, o, none⟩ ∧ PrAt w g (o + k * 7) x

theorem PrsAt.kept {w w' : World} {va : Option Addr} {L : List Pr} (h : PrsAt w va L) (f : Fr None' w w') : PrsAt w' va L := fun k x hk => by
  obtain ⟨g, o, e, h1⟩ := h k x hk
  exact ⟨g, o, e, h1.kept f⟩

theorem PrsAt.get {w : World} {va : Option Addr} {L : List Pr} (h : PrsAt w va L) {k : Nat} (hk : k < L.length) : ∃ g o, va = some ⟨g, o, none⟩ ∧ PrAt w g (o + k * 7) L[k] := h k _ (List.getElem?_eq_getElem hk)

/-- Seven cells of a new block. -/
theorem cell7 (w : World) (t : TypeId) (a b c d e f g : Value) : (w.alloc (.cells #[a, b, c, d, e, f, g] t)).cell? ⟨w.heap.size, 0, none⟩ = some a ∧ (w.alloc (.cells #[a, b, c, d, e, f, g] t)).cell? ⟨w.heap.size, 1, none⟩ = some b ∧ (w.alloc (.cells #[a, b, c, d, e, f, g] t)).cell? ⟨w.heap.size, 2, none⟩ = some c ∧ (w.alloc (.cells #[a, b, c, d, e, f, g] t)).cell? ⟨w.heap.size, 3, none⟩ = some d ∧ (w.alloc (.cells #[a, b, c, d, e, f, g] t)).cell? ⟨w.heap.size, 4, none⟩ = some e ∧ (w.alloc (.cells #[a, b, c, d, e, f, g] t)).cell? ⟨w.heap.size, 5, none⟩ = some f ∧ (w.alloc (.cells #[a, b, c, d, e, f, g] t)).cell? ⟨w.heap.size, 6, none⟩ = some g := by
  refine ⟨?_, ?_, ?_, ?_, ?_, ?_, ?_⟩ <;> (rw [World.cell?, heap_alloc_new]; rfl)

end Go.Proofs.YtbiilnhefoplkaaGreatDoor

namespace Go.Proofs.YtbiilnhefoplkaaGreatDoor
open Go.ChangeShapes Go.WideShapes Go.ChangeAt Go.RowKit Go.Deep
set_option maxRecDepth 100000

theorem own : ownKnob Tryz.prog.godebug = none := by kernel_rfl
theorem laidOut : laidOutB Tryz.prog = true := by kernel_rfl

theorem bounds_u8 {n : Int} (h : (Lit.int .u8 n).wf = true) : 0 ≤ n ∧ n < 256 := by
  simp [Lit.wf, IntKind.min, IntKind.max, IntKind.bits, IntKind.signed] at h
  omega

theorem add_none7 {a : Addr} (h : a.spot = none) (i : Nat) : a.add i = ⟨a.block, a.off + i, none⟩ := by
  obtain ⟨b, o, s⟩ := a
  simp only at h
  subst h
  unfold Addr.add
  split <;> simp_all

theorem spot_none7 {w : World} {a : Addr} {u : Value} (h : w.cell? a = some u) : a.spot = none := by
  unfold World.cell? at h
  split at h
  · split at h
    · cases h
    · rename_i h1; simpa using h1
  · cases h

theorem mapM_at7 {α β : Type} (f : α → Option β) : ∀ (l : List α) (r : List β), l.mapM f = some r → ∀ (j : Nat) (u : β), r[j]? = some u → ∃ x, l[j]? = some x ∧ f x = some u
  | [], r, h, j, u, hu => by
    simp at h; subst h; simp at hu
  | a :: l, r, h, j, u, hu => by
    rw [List.mapM_cons] at h
    obtain ⟨y, hy, h⟩ := Option.bind_eq_some_iff.1 h
    obtain ⟨ys, hys, h⟩ := Option.bind_eq_some_iff.1 h
    obtain rfl : y :: ys = r := by simpa using h
    cases j with
    | zero => simp at hu; subst hu; exact ⟨a, rfl, hy⟩
    | succ j => simpa using mapM_at7 f l ys hys j u (by simpa using hu)

theorem cells_at7 {w : World} {a : Addr} {n : Nat} {cs : List Value} (h : w.cells? 0 a n = some cs) (j : Nat) (u : Value) (hj : cs[j]? = some u) : w.cell? (a.add j) = some u := by
  unfold World.cells? at h
  rw [if_pos (Nat.zero_le _)] at h
  obtain ⟨x, h1, h2⟩ := mapM_at7 _ _ _ h j u hj
  have : x = j := by
    obtain ⟨h3, h4⟩ := List.getElem?_eq_some_iff.1 h1
    simpa using h4.symm
  rw [← this]; exact h2

theorem weightsAll_mem {H : Type} {P : Program} {e : TypeId} : ∀ {l : List (DataW H)} {d : DataW H}, d ∈ l → ∀ n ∈ d.weights P e, n ∈ DataW.weightsAll P e l
  | [], _, h, _, _ => by cases h
  | x :: l, d, h, n, hn => by
    rw [DataW.weightsAll]
    rcases List.mem_cons.1 h with rfl | h
    · exact List.mem_append_left _ hn
    · exact List.mem_append_right _ (weightsAll_mem h n hn)

theorem trod_strs9 {H : Type} {enc : TypeId × Value → H} {W : World} {fuel : Nat} {sp : Nat → Bool} {held : Bool} {cs : List Value} {x : DataW H × List MemPlace} (h : DataW.trod enc Tryz.prog W 0 sp held fuel 23 cs = some x) (hr : ∀ n ∈ x.1.weights Tryz.prog 23, n ≤ reachBytes) : ∃ v l, cs = [v] ∧ StrsAt W v l ∧ l.length ≤ reachBytes := by
  have hle : ∀ va len cap, cs = [.slice va len cap] → len ≤ reachBytes := fun va len cap e => by
    rcases open_slice Tryz.underlying23 h with ⟨hcs, _⟩ | ⟨a, len', cap', m, n, D, Pl, hcs, _, hl, hm, hmm, rfl, hx⟩
    · rw [hcs] at e
      injection e with e
      injection e with e1 e2 e3
      omega
    · rw [hcs] at e
      injection e with e
      injection e with e1 e2 e3
      have h1 := hr ((((List.range len').map D).length + ((List.range (m - len')).map fun j => D (len' + j)).length) * Tryz.prog.bytesOf 9) (by simp [DataW.weights, Tryz.underlying23])
      have e16 : Tryz.prog.bytesOf 9 = 16 := by kernel_rfl
      rw [e16] at h1
      simp at h1
      omega
  rcases Deep.open_strs Tryz.underlying23 Tryz.underlying9 (by kernel_rfl) h with ⟨hcs, _⟩ | ⟨ad, len, cap, m, Sx, hcs, _, hl, hm, hmm, _, hcell⟩
  · exact ⟨_, [], hcs, ⟨none, 0, rfl, fun _ => rfl, Nat.le_refl _, fun j x e => by simp at e⟩, Nat.zero_le _⟩
  · have hlm : len ≤ m := by rw [hmm]; split <;> omega
    refine ⟨_, (List.range len).map Sx, hcs, ⟨some ad, cap, by simp, (fun e => by cases e), by simpa using hl, fun j x hj => ?_⟩, by simpa using hle _ _ _ hcs⟩
    have hjn : j < len := by simpa using (List.getElem?_eq_some_iff.1 hj).1
    have hx : Sx j = x := by simpa [hjn] using hj
    have h0 := spot_none7 (hcell 0 (by omega)).1
    rw [show ad.add 0 = ad from rfl] at h0
    refine ⟨ad.block, ad.off, ?_, ?_⟩
    · obtain ⟨b, o, s⟩ := ad
      simp_all
    · rw [← add_none7 h0, ← hx]
      exact (hcell j (by omega)).1

theorem trod_prim {H : Type} {enc : TypeId × Value → H} {W : World} {fuel : Nat} {sp : Nat → Bool} {held : Bool} {cs : List Value} {x : DataW H × List MemPlace} (h : DataW.trod enc Tryz.prog W 0 sp held fuel 67 cs = some x) (hr : ∀ n ∈ x.1.weights Tryz.prog 67, n ≤ reachBytes) :
    ∃ (t : Pr) (vo vn : Value), cs = [.int .i64 t.kind, .string t.path, .string t.dst, .string t.src, .int .i64 t.pos, vo, vn] ∧ StrsAt W vo t.old ∧ StrsAt W vn t.new ∧ t.old.length ≤ reachBytes ∧ t.new.length ≤ reachBytes := by
  obtain ⟨xs, n, _, rfl, hl, hlen, hf⟩ := DataW.trod_struct Tryz.underlying67 h
  have h7 : Tryz.prog.cellsOf 67 = 7 := by kernel_rfl
  have hcI : Tryz.prog.cellsOf 3 = 1 := by kernel_rfl
  have hcS : Tryz.prog.cellsOf 9 = 1 := by kernel_rfl
  have hcL : Tryz.prog.cellsOf 23 = 1 := by kernel_rfl
  rw [h7] at hl
  match cs, hl, xs, hlen with
  | [c0, c1, c2, c3, c4, c5, c6], _, [x0, x1, x2, x3, x4, x5, x6], _ =>
    have f0 := hf 0 _ rfl
    have f1 := hf 1 _ rfl
    have f2 := hf 2 _ rfl
    have f3 := hf 3 _ rfl
    have f4 := hf 4 _ rfl
    have f5 := hf 5 _ rfl
    have f6 := hf 6 _ rfl
    simp [hcI, hcS, hcL] at f0 f1 f2 f3 f4 f5 f6
    obtain ⟨z0, e0, _, _⟩ := DataW.trod_int Tryz.underlying3 f0
    obtain ⟨s1, e1, _, _⟩ := DataW.trod_string Tryz.underlying9 f1
    obtain ⟨s2, e2, _, _⟩ := DataW.trod_string Tryz.underlying9 f2
    obtain ⟨s3, e3, _, _⟩ := DataW.trod_string Tryz.underlying9 f3
    obtain ⟨z4, e4, _, _⟩ := DataW.trod_int Tryz.underlying3 f4
    obtain ⟨vo, lo, e5, t5, l5⟩ := trod_strs9 f5 (fun k hk => hr k (by
      simp [DataW.weights, Tryz.underlying67, DataW.weightsEach]
      simp [hk]))
    obtain ⟨vn, ln, e6, t6, l6⟩ := trod_strs9 f6 (fun k hk => hr k (by
      simp [DataW.weights, Tryz.underlying67, DataW.weightsEach]
      simp [hk]))
    simp only [List.cons.injEq, and_true] at e0 e1 e2 e3 e4 e5 e6
    subst e0 e1 e2 e3 e4 e5 e6
    exact ⟨⟨z0, s1, s2, s3, z4, lo, ln⟩, c5, c6, rfl, t5, t6, l5, l6⟩

/-- A patch as an argument is. -/
theorem arg_prim {H : Type} {enc : TypeId × Value → H} {W : World} {sp : Nat → Bool} {held : Bool} {base : Nat} {v : Value} {d : DataW H} {ps : List MemPlace} (hv : Value.okWide Tryz.prog W .any base 67 v) (h : DataW.Trod enc Tryz.prog W 0 sp held 67 v d ps) (hr : ∀ n ∈ d.weights Tryz.prog 67, n ≤ reachBytes) :
    ∃ (t : Pr) (vo vn : Value), v = .agg #[.int .i64 t.kind, .string t.path, .string t.dst, .string t.src, .int .i64 t.pos, vo, vn] ∧ StrsAt W vo t.old ∧ StrsAt W vn t.new ∧ t.old.length ≤ reachBytes ∧ t.new.length ≤ reachBytes := by
  simp only [Value.okWide, Tryz.underlying67] at hv
  obtain ⟨cs, rfl, _⟩ := hv
  obtain ⟨fuel, hf⟩ := h
  obtain ⟨t, vo, vn, e, h1, h2, h3, h4⟩ := trod_prim hf hr
  refine ⟨t, vo, vn, ?_, h1, h2, h3, h4⟩
  obtain ⟨u⟩ := cs
  have e' : u = [.int .i64 t.kind, .string t.path, .string t.dst, .string t.src, .int .i64 t.pos, vo, vn] := e
  rw [e']

/-- A row of patches as an argument is. -/
theorem trod_prims {H : Type} {enc : TypeId × Value → H} {W : World} {sp : Nat → Bool} {held : Bool} {base : Nat} {v : Value} {d : DataW H} {ps : List MemPlace} (hv : Value.okWide Tryz.prog W .any base 34 v) (h : DataW.Trod enc Tryz.prog W 0 sp held 34 v d ps) (hr : ∀ n ∈ d.weights Tryz.prog 34, n ≤ reachBytes) :
    ∃ a n c L, v = .slice a n c ∧ L.length = n ∧ PrsAt W a L ∧ (a = none → c = 0) ∧ ∀ x ∈ L, x.old.length ≤ reachBytes ∧ x.new.length ≤ reachBytes := by
  obtain ⟨a, n, c, rfl⟩ := okWide_slice Tryz.underlying34 hv
  obtain ⟨fuel, hf⟩ := h
  rcases open_slice Tryz.underlying34 hf with ⟨hcs, _⟩ | ⟨ad, len, cap, m, fu, D, Pl, hcs, _, hl, hm, hmm, hd, hx⟩
  · simp only [Value.cells, List.cons.injEq, Value.slice.injEq, and_true] at hcs
    obtain ⟨rfl, rfl, rfl⟩ := hcs
    exact ⟨none, 0, 0, [], rfl, rfl, (fun k x e => by simp at e), fun _ => rfl, fun x e => by cases e⟩
  · simp only [Value.cells, List.cons.injEq, Value.slice.injEq, and_true] at hcs
    obtain ⟨rfl, rfl, rfl⟩ := hcs
    injection hd with hd1 hd2
    subst hd1
    have hlm : n ≤ m := by rw [hmm]; split <;> omega
    have h7 : Tryz.prog.cellsOf 67 = 7 := by kernel_rfl
    rw [h7] at hx
    have hall : ∀ i, i < n → ∃ t : Pr × Value × Value, ∃ cs', W.cells? 0 (ad.add (i * 7)) 7 = some cs' ∧ cs' = [.int .i64 t.1.kind, .string t.1.path, .string t.1.dst, .string t.1.src, .int .i64 t.1.pos, t.2.1, t.2.2] ∧ StrsAt W t.2.1 t.1.old ∧ StrsAt W t.2.2 t.1.new ∧ t.1.old.length ≤ reachBytes ∧ t.1.new.length ≤ reachBytes := fun i hi => by
      obtain ⟨cs', h1, h2⟩ := hx i (by omega)
      obtain ⟨t, vo, vn, e, s1, s2, s3, s4⟩ := trod_prim h2 (fun k hk => hr k (by
        simp only [DataW.weights, Tryz.underlying34]
        refine List.mem_cons_of_mem _ (List.mem_append_left _ (weightsAll_mem (d := D i) (List.mem_map_of_mem (List.mem_range.2 hi)) k hk))))
      exact ⟨(t, vo, vn), cs', h1, e, s1, s2, s3, s4⟩
    have hin : Inhabited (Pr × Value × Value) := ⟨(⟨0, ⟨#[]⟩, ⟨#[]⟩, ⟨#[]⟩, 0, [], []⟩, .nilFunc, .nilFunc)⟩
    obtain ⟨T, hT⟩ := choose_lt hall
    refine ⟨some ad, n, c, (List.range n).map (fun i => (T i).1), rfl, by simp, fun i t hi => ?_, (fun e => by cases e), fun x hx => ?_⟩
    · have hil : i < n := by simpa using (List.getElem?_eq_some_iff.1 hi).1
      have e : (T i).1 = t := by simpa [hil] using hi
      obtain ⟨cs', h1, h2, s1, s2, _⟩ := hT i hil
      subst h2
      have c0 := cells_at7 h1 0 _ rfl
      have c1 := cells_at7 h1 1 _ rfl
      have c2 := cells_at7 h1 2 _ rfl
      have c3 := cells_at7 h1 3 _ rfl
      have c4 := cells_at7 h1 4 _ rfl
      have c5 := cells_at7 h1 5 _ rfl
      have c6 := cells_at7 h1 6 _ rfl
      have hsp : ad.spot = none := by
        obtain ⟨cs0, g1, g2, _⟩ := hT 0 (by omega)
        subst g2
        have := spot_none7 (cells_at7 g1 0 _ rfl)
        simpa [Addr.add] using this
      have ead : ad.add (i * 7) = ⟨ad.block, ad.off + i * 7, none⟩ := add_none7 hsp _
      rw [ead] at c0 c1 c2 c3 c4 c5 c6
      rw [add_none7 rfl] at c0 c1 c2 c3 c4 c5 c6
      rw [← e]
      refine ⟨ad.block, ad.off, ?_, (T i).2.1, (T i).2.2, c0, c1, c2, c3, c4, c5, c6, s1, s2⟩
      obtain ⟨b, o, s⟩ := ad
      simp_all
    · obtain ⟨i, hi, rfl⟩ := List.mem_map.1 hx
      obtain ⟨_, _, _, _, _, s3, s4⟩ := hT i (List.mem_range.1 hi)
      exact ⟨s3, s4⟩

end Go.Proofs.YtbiilnhefoplkaaGreatDoor

namespace Go.Proofs.YtbiilnhefoplkaaGreatDoor
open Go.RowKit
set_option maxRecDepth 100000

theorem toHid8 {p : Prop} (h : p) : Hid p := h

/-- Are two changes one? -/
def alikeP (p q : Pr) : Bool := decide (p.kind = q.kind) && decide (p.path = q.path) && decide (p.dst = q.dst) && decide (p.src = q.src) && decide (p.pos = q.pos) && decide (p.old = q.old) && decide (p.new = q.new)

theorem alike_iff {p q : Pr} : alikeP p q = true ↔ p = q := by
  obtain ⟨a, b, c, d, e, f, g⟩ := p
  obtain ⟨a', b', c', d', e', f', g'⟩ := q
  simp [alikeP, and_assoc]

theorem nilS8 (w : World) : StrsAt w (.slice none 0 0) [] := ⟨none, 0, rfl, fun _ => rfl, Nat.le_refl _, Lines.Row.nil _ _⟩

end Go.Proofs.YtbiilnhefoplkaaGreatDoor

namespace Go.Proofs.YtbiilnhefoplkaaGreatDoor
open Go.RowKit
set_option maxRecDepth 100000

/-- The seven cells of a patch's box. -/
def Box (w : World) (b : Nat) (y0 y1 y2 y3 y4 y5 y6 : Value) : Prop := w.heap[b]? = some (.cells #[y0, y1, y2, y3, y4, y5, y6] 67)

theorem Box.new (w : World) (y0 y1 y2 y3 y4 y5 y6 : Value) : Box (w.alloc (.cells #[y0, y1, y2, y3, y4, y5, y6] 67)) w.heap.size y0 y1 y2 y3 y4 y5 y6 := heap_alloc_new w _

theorem Box.fr {M : Nat → Prop} {w w' : World} {b : Nat} {y0 y1 y2 y3 y4 y5 y6 : Value} (h : Box w b y0 y1 y2 y3 y4 y5 y6) (f : Fr M w w') (hm : ¬ M b) : Box w' b y0 y1 y2 y3 y4 y5 y6 := f.at h hm

theorem Box.kept {w w' : World} {b : Nat} {y0 y1 y2 y3 y4 y5 y6 : Value} (h : Box w b y0 y1 y2 y3 y4 y5 y6) (f : Fr None' w w') : Box w' b y0 y1 y2 y3 y4 y5 y6 := h.fr f (fun e => e)

theorem Box.cells {w : World} {b : Nat} {y0 y1 y2 y3 y4 y5 y6 : Value} (h : Box w b y0 y1 y2 y3 y4 y5 y6) : w.cell? ⟨b, 0, none⟩ = some y0 ∧ w.cell? ⟨b, 1, none⟩ = some y1 ∧ w.cell? ⟨b, 2, none⟩ = some y2 ∧ w.cell? ⟨b, 3, none⟩ = some y3 ∧ w.cell? ⟨b, 4, none⟩ = some y4 ∧ w.cell? ⟨b, 5, none⟩ = some y5 ∧ w.cell? ⟨b, 6, none⟩ = some y6 := by
  unfold Box at h
  refine ⟨?_, ?_, ?_, ?_, ?_, ?_, ?_⟩ <;> (rw [World.cell?, h]; rfl)

theorem Box.frozen {w : World} {b : Nat} {y0 y1 y2 y3 y4 y5 y6 : Value} (h : Box w b y0 y1 y2 y3 y4 y5 y6) (o : Nat) : w.frozen? ⟨b, o, none⟩ = false := by
  unfold Box at h
  unfold World.frozen?
  rw [h]
  simp

theorem Box.lt {w : World} {b : Nat} {y0 y1 y2 y3 y4 y5 y6 : Value} (h : Box w b y0 y1 y2 y3 y4 y5 y6) : b < w.heap.size := (Array.getElem?_eq_some_iff.1 h).1

theorem Box.set0 {w : World} {b : Nat} {y0 y1 y2 y3 y4 y5 y6 : Value} (h : Box w b y0 y1 y2 y3 y4 y5 y6) (v : Value) : Box (w.setCell ⟨b, 0, none⟩ v) b v y1 y2 y3 y4 y5 y6 := by
  have := Go.heap_setCell_same w b 0 _ _ v h
  unfold Box
  simpa using this
theorem Box.set1 {w : World} {b : Nat} {y0 y1 y2 y3 y4 y5 y6 : Value} (h : Box w b y0 y1 y2 y3 y4 y5 y6) (v : Value) : Box (w.setCell ⟨b, 1, none⟩ v) b y0 v y2 y3 y4 y5 y6 := by
  have := Go.heap_setCell_same w b 1 _ _ v h
  unfold Box
  simpa using this
theorem Box.set2 {w : World} {b : Nat} {y0 y1 y2 y3 y4 y5 y6 : Value} (h : Box w b y0 y1 y2 y3 y4 y5 y6) (v : Value) : Box (w.setCell ⟨b, 2, none⟩ v) b y0 y1 v y3 y4 y5 y6 := by
  have := Go.heap_setCell_same w b 2 _ _ v h
  unfold Box
  simpa using this
theorem Box.set3 {w : World} {b : Nat} {y0 y1 y2 y3 y4 y5 y6 : Value} (h : Box w b y0 y1 y2 y3 y4 y5 y6) (v : Value) : Box (w.setCell ⟨b, 3, none⟩ v) b y0 y1 y2 v y4 y5 y6 := by
  have := Go.heap_setCell_same w b 3 _ _ v h
  unfold Box
  simpa using this
theorem Box.set4 {w : World} {b : Nat} {y0 y1 y2 y3 y4 y5 y6 : Value} (h : Box w b y0 y1 y2 y3 y4 y5 y6) (v : Value) : Box (w.setCell ⟨b, 4, none⟩ v) b y0 y1 y2 y3 v y5 y6 := by
  have := Go.heap_setCell_same w b 4 _ _ v h
  unfold Box
  simpa using this
theorem Box.set5 {w : World} {b : Nat} {y0 y1 y2 y3 y4 y5 y6 : Value} (h : Box w b y0 y1 y2 y3 y4 y5 y6) (v : Value) : Box (w.setCell ⟨b, 5, none⟩ v) b y0 y1 y2 y3 y4 v y6 := by
  have := Go.heap_setCell_same w b 5 _ _ v h
  unfold Box
  simpa using this
theorem Box.set6 {w : World} {b : Nat} {y0 y1 y2 y3 y4 y5 y6 : Value} (h : Box w b y0 y1 y2 y3 y4 y5 y6) (v : Value) : Box (w.setCell ⟨b, 6, none⟩ v) b y0 y1 y2 y3 y4 y5 v := by
  have := Go.heap_setCell_same w b 6 _ _ v h
  unfold Box
  simpa using this

/-- The whole of a box is set. -/
@[reducible] def setP (w : World) (b : Nat) (y0 y1 y2 y3 y4 y5 y6 : Value) : World := ((((((w.setCell ⟨b, 0, none⟩ y0).setCell ⟨b, 1, none⟩ y1).setCell ⟨b, 2, none⟩ y2).setCell ⟨b, 3, none⟩ y3).setCell ⟨b, 4, none⟩ y4).setCell ⟨b, 5, none⟩ y5).setCell ⟨b, 6, none⟩ y6

theorem Box.all {w : World} {b : Nat} {x0 x1 x2 x3 x4 x5 x6 : Value} (h : Box w b x0 x1 x2 x3 x4 x5 x6) (y0 y1 y2 y3 y4 y5 y6 : Value) : Box (setP w b y0 y1 y2 y3 y4 y5 y6) b y0 y1 y2 y3 y4 y5 y6 :=
  ((((((h.set0 y0).set1 y1).set2 y2).set3 y3).set4 y4).set5 y5).set6 y6

theorem Fr.setP {M : Nat → Prop} (w : World) {b : Nat} (hb : M b) (y0 y1 y2 y3 y4 y5 y6 : Value) : Fr M w (setP w b y0 y1 y2 y3 y4 y5 y6) :=
  ((((((Fr.setCell w (a := ⟨b, 0, none⟩) hb y0).then (Fr.setCell _ (a := ⟨b, 1, none⟩) hb y1)).then (Fr.setCell _ (a := ⟨b, 2, none⟩) hb y2)).then (Fr.setCell _ (a := ⟨b, 3, none⟩) hb y3)).then (Fr.setCell _ (a := ⟨b, 4, none⟩) hb y4)).then (Fr.setCell _ (a := ⟨b, 5, none⟩) hb y5)).then (Fr.setCell _ (a := ⟨b, 6, none⟩) hb y6)

theorem Fr.setQ (w : World) (q o : Nat) (u : Value) : Fr (fun k => k = q) w (w.setCell ⟨q, o, none⟩ u) := Fr.setCell (M := fun k => k = q) w (a := ⟨q, o, none⟩) rfl u

/-- The answer's box is set. -/
theorem fin9 {w w3 W : World} {b q : Nat} {x0 x1 x2 x3 x4 x5 x6 : Value} (hf : Fr None' w w3) (hb : Box w3 b x0 x1 x2 x3 x4 x5 x6) (f : Fr (fun k => k = q) w3 W) (hbq : ¬ b = q) (hwb : w.heap.size ≤ b) (hwq : w.heap.size ≤ q) (y0 y1 y2 y3 y4 y5 y6 : Value) :
    Box (setP W b y0 y1 y2 y3 y4 y5 y6) b y0 y1 y2 y3 y4 y5 y6 ∧ Fr None' w (setP W b y0 y1 y2 y3 y4 y5 y6) :=
  ⟨(hb.fr f hbq).all _ _ _ _ _ _ _, (hf.trans f (fun _ e => Or.inr (by omega))).trans (Fr.setP (M := fun k => k = b) W rfl _ _ _ _ _ _ _) (fun _ e => Or.inr (by omega))⟩

theorem Box.load {w : World} {b : Nat} {y0 y1 y2 y3 y4 y5 y6 : Value} (h : Box w b y0 y1 y2 y3 y4 y5 y6) : (loadVar 67 ⟨b, 0, none⟩).run Tryz.prog w = .ok (.agg #[y0, y1, y2, y3, y4, y5, y6]) w :=
  run_loadVar_row w b 67 67 _ (0, 0) _ h Tryz.underlying67 rfl (by kernel_rfl)

/-- A patch is answered. -/
theorem ret_box {fn : Func} {p : Tmp} (hres : fn.results = #[.cell p 67]) {Q : Ending → World → Prop} {a : Act} {w : World} {b : Nat} {y0 y1 y2 y3 y4 y5 y6 : Value} (hd : a.defers = []) (hp : a.tmps.getD p undef = .pointer (some ⟨b, 0, none⟩)) (h : Box w b y0 y1 y2 y3 y4 y5 y6) (hq : Q (.returned (.agg #[y0, y1, y2, y3, y4, y5, y6])) w) : bodyPost Tryz.prog fn Q .ret a w :=
  bodyPost_ret (results_cell_row hres _ _ b 67 _ (0, 0) _ hp h Tryz.underlying67 rfl (by kernel_rfl)) hd hq

end Go.Proofs.YtbiilnhefoplkaaGreatDoor

namespace Go.Proofs.YtbiilnhefoplkaaGreatDoor
open Go.RowKit
set_option maxRecDepth 100000

def undo (k : Int) : Int := if k = 1 ∨ k = 3 ∨ k = 5 then k + 1 else if k = 2 ∨ k = 4 ∨ k = 6 then k - 1 else if k = 7 ∨ k = 8 ∨ k = 9 ∨ k = 10 then k else 0

theorem eleven (k : Int) : k < 0 ∨ 11 ≤ k ∨ k = 0 ∨ k = 1 ∨ k = 2 ∨ k = 3 ∨ k = 4 ∨ k = 5 ∨ k = 6 ∨ k = 7 ∨ k = 8 ∨ k = 9 ∨ k = 10 := by omega

end Go.Proofs.YtbiilnhefoplkaaGreatDoor

namespace Go.Proofs.YtbiilnhefoplkaaGreatDoor
open Go.RowKit
set_option maxRecDepth 100000

def noLines (x : Pr) : Bool := decide (x.pos = 0) && decide (x.old.length = 0) && decide (x.new.length = 0)
def bareP (x : Pr) : Bool := decide (x.dst.data.toList = []) && decide (x.src.data.toList = []) && noLines x
def linesP (x : Pr) : Bool := decide (x.dst.data.toList = []) && decide (x.src.data.toList = []) && decide (0 ≤ x.pos) && decide (x.pos ≤ 1073741824) && Lines.right (Lines.bs x.old) && Lines.right (Lines.bs x.new) && decide (0 < x.old.length + x.new.length)
def tokenP (x : Pr) : Bool := noLines x && Lines.tok x.src.data.toList && Lines.tok x.dst.data.toList && decide (¬ x.src = x.dst)
def bytesP (x : Pr) : Bool := noLines x && decide (¬ x.src = x.dst)
def moveP (x : Pr) : Bool := noLines x && decide (x.src.data.toList = []) && Path.right x.dst.data.toList && Path.apart x.dst.data.toList x.path.data.toList

/-- Is a patch of that kind right, if its path is? -/
def ruleP (x : Pr) : Bool :=
  if x.kind ≤ 6 then bareP x else if x.kind = 7 then linesP x else if x.kind = 8 then tokenP x else if x.kind = 9 then bytesP x else moveP x

/-- May that be a patch? -/
def rightP (x : Pr) : Bool := decide (1 ≤ x.kind ∧ x.kind ≤ 10) && Path.right x.path.data.toList && ruleP x

theorem kinds10 {k : Int} (h : 1 ≤ k ∧ k ≤ 10) : k = 1 ∨ k = 2 ∨ k = 3 ∨ k = 4 ∨ k = 5 ∨ k = 6 ∨ k = 7 ∨ k = 8 ∨ k = 9 ∨ k = 10 := by omega

theorem inv_inv {x : Pr} (h : rightP x = true) : inv (inv x) = x := by
  obtain ⟨K, P, T, F, A, lO, lN⟩ := x
  unfold rightP at h
  simp only [Bool.and_eq_true, decide_eq_true_eq] at h
  rcases kinds10 h.1.1 with rfl | rfl | rfl | rfl | rfl | rfl | rfl | rfl | rfl | rfl <;> simp [inv]

theorem right_inv {x : Pr} (h : rightP x = true) : rightP (inv x) = true := by
  obtain ⟨K, P, T, F, A, lO, lN⟩ := x
  unfold rightP at h
  simp only [Bool.and_eq_true, decide_eq_true_eq] at h
  obtain ⟨⟨hk, hp⟩, hr⟩ := h
  rcases kinds10 hk with rfl | rfl | rfl | rfl | rfl | rfl | rfl | rfl | rfl | rfl
  case inr.inr.inr.inr.inr.inr.inl =>
    simp [ruleP, linesP] at hr
    simp [inv, rightP, ruleP, linesP, hp, hr]
    omega
  case inr.inr.inr.inr.inr.inr.inr.inl =>
    simp [ruleP, tokenP, noLines] at hr
    simp [inv, rightP, ruleP, tokenP, noLines, hp, hr]
    exact fun e => hr.2 e.symm
  case inr.inr.inr.inr.inr.inr.inr.inr.inl =>
    simp [ruleP, bytesP, noLines] at hr
    simp [inv, rightP, ruleP, bytesP, noLines, hp, hr]
    exact fun e => hr.2 e.symm
  case inr.inr.inr.inr.inr.inr.inr.inr.inr =>
    simp [ruleP, moveP, noLines] at hr
    have hc := hr.2
    rw [Path.apart_comm] at hc
    simp [inv, rightP, ruleP, moveP, noLines, hp, hr, hc]
  all_goals
    simp [ruleP, bareP, noLines] at hr
    simp [inv, rightP, ruleP, bareP, noLines, hp, hr]

end Go.Proofs.YtbiilnhefoplkaaGreatDoor

namespace Go.Proofs.YtbiilnhefoplkaaGreatDoor
open Go.RowKit
set_option maxRecDepth 100000

abbrev B13 := List UInt8

/-- The greatest int. -/
abbrev top13 : Nat := 9223372036854775807

/-- The program's loop over a number's bytes: i of them are read, they make n. -/
def numR (i n : Nat) : B13 → Option (Nat × B13)
  | [] => none
  | b :: r => if b = 58 then (if i = 0 then none else some (n, r))
    else if b.toNat < 48 ∨ 57 < b.toNat then none
    else if (top13 - (b.toNat - 48)) / 10 < n then none
    else if 0 < i ∧ n = 0 then none
    else numR (i + 1) (10 * n + (b.toNat - 48)) r

def num13 (n : Nat) : B13 := Lib.decDigits n ++ [58]

/-- What is put can be read, and what is read was put so. -/
structure Code {α : Type} (ok : α → Prop) (enc : α → B13) (dec : B13 → Option (α × B13)) : Prop where
  back : ∀ x r, ok x → dec (enc x ++ r) = some (x, r)
  fwd : ∀ s x r, dec s = some (x, r) → ok x ∧ s = enc x ++ r

theorem dec_step {m d : Nat} (hm : m ≠ 0) (hd : d < 10) : Lib.decDigits (10 * m + d) = Lib.decDigits m ++ [UInt8.ofNat (48 + d)] := by
  rw [Lib.decDigits, dif_neg (by omega)]
  rw [show (10 * m + d) / 10 = m by omega, show (10 * m + d) % 10 = d by omega]

theorem dig_nat {d : Nat} (hd : d < 10) : (UInt8.ofNat (48 + d)).toNat = 48 + d := by
  rw [UInt8.toNat_ofNat']
  omega

theorem dig_ne {d : Nat} (hd : d < 10) : UInt8.ofNat (48 + d) ≠ 58 := fun e => by
  have := congrArg UInt8.toNat e
  rw [dig_nat hd] at this
  have h2 : (58 : UInt8).toNat = 58 := rfl
  omega

theorem dig_of {b : UInt8} (h : ¬ (b.toNat < 48 ∨ 57 < b.toNat)) : UInt8.ofNat (48 + (b.toNat - 48)) = b := by
  apply UInt8.toNat_inj.1
  rw [dig_nat (by omega)]
  omega

theorem num_run : ∀ (k n : Nat), n ≤ k → n ≤ top13 → ∃ i, 0 < i ∧ ∀ rest, numR 0 0 (Lib.decDigits n ++ rest) = numR i n rest
  | k, n, hk, hn => by
    by_cases h : n < 10
    · refine ⟨1, by omega, fun rest => ?_⟩
      rw [Lib.decDigits_one h, List.singleton_append, numR, if_neg (dig_ne h), dig_nat h, if_neg (by omega), if_neg (by omega), if_neg (by omega)]
      rw [show 10 * 0 + (48 + n - 48) = n by omega]
    · cases k with
      | zero => omega
      | succ k =>
        obtain ⟨i, hi, ih⟩ := num_run k (n / 10) (by omega) (by omega)
        refine ⟨i + 1, by omega, fun rest => ?_⟩
        have e : Lib.decDigits n = Lib.decDigits (n / 10) ++ [UInt8.ofNat (48 + n % 10)] := by
          have := dec_step (m := n / 10) (d := n % 10) (by omega) (by omega)
          rwa [show 10 * (n / 10) + n % 10 = n by omega] at this
        rw [e, List.append_assoc, ih, List.singleton_append, numR, if_neg (dig_ne (by omega)), dig_nat (by omega), if_neg (by omega), if_neg (by omega), if_neg (by omega)]
        rw [show 10 * (n / 10) + (48 + n % 10 - 48) = n by omega]

theorem num_back {n : Nat} (hn : n ≤ top13) (r : B13) : numR 0 0 (num13 n ++ r) = some (n, r) := by
  obtain ⟨i, hi, h⟩ := num_run n n (Nat.le_refl _) hn
  unfold num13
  rw [List.append_assoc, h, List.singleton_append, numR, if_pos rfl, if_neg (by omega)]

theorem num_on : ∀ (s : B13) (i m n : Nat) (r : B13), 0 < i → m ≤ top13 → numR i m s = some (n, r) → n ≤ top13 ∧ ∃ ds, s = ds ++ 58 :: r ∧ Lib.decDigits m ++ ds = Lib.decDigits n
  | [], i, m, n, r, _, _, e => by rw [numR] at e; cases e
  | b :: s, i, m, n, r, hi, hm, e => by
    rw [numR] at e
    split at e
    · rename_i hb
      rw [if_neg (by omega)] at e
      cases e
      exact ⟨hm, [], by rw [hb]; rfl, List.append_nil _⟩
    · split at e
      · cases e
      · rename_i hb hd
        split at e
        · cases e
        · rename_i ho
          split at e
          · cases e
          · rename_i hz
            have hm0 : m ≠ 0 := fun h => hz ⟨hi, h⟩
            obtain ⟨h1, ds, h2, h3⟩ := num_on s (i + 1) _ n r (by omega) (by omega) e
            refine ⟨h1, b :: ds, by rw [h2]; rfl, ?_⟩
            rw [dec_step hm0 (by omega), dig_of hd, List.append_assoc] at h3
            exact h3

theorem num_fwd {s : B13} {n : Nat} {r : B13} (e : numR 0 0 s = some (n, r)) : n ≤ top13 ∧ s = num13 n ++ r := by
  cases s with
  | nil => rw [numR] at e; cases e
  | cons b s =>
    rw [numR] at e
    split at e
    · rw [if_pos rfl] at e; cases e
    · split at e
      · cases e
      · rename_i hb hd
        rw [if_neg (by omega), if_neg (by omega)] at e
        obtain ⟨h1, ds, h2, h3⟩ := num_on s (0 + 1) _ n r (by omega) (by show _ ≤ 9223372036854775807; omega) e
        refine ⟨h1, ?_⟩
        rw [show 10 * 0 + (b.toNat - 48) = b.toNat - 48 by omega, Lib.decDigits_one (by omega), dig_of hd] at h3
        unfold num13
        rw [← h3, h2]
        simp

theorem code_num : Code (fun n => n ≤ top13) num13 (numR 0 0) := ⟨fun _ r h => num_back h r, fun _ _ _ e => num_fwd e⟩

/-- A text. -/
def text13 (s : B13) : B13 := num13 s.length ++ s

def textR (s : B13) : Option (B13 × B13) := match numR 0 0 s with
  | none => none
  | some (n, r) => if n ≤ r.length then some (r.take n, r.drop n) else none

theorem code_text : Code (fun s : B13 => s.length ≤ top13) text13 textR := by
  constructor
  · intro s r h
    unfold textR text13
    rw [List.append_assoc, num_back h]
    simp
  · intro s x r e
    unfold textR at e
    split at e
    · cases e
    · rename_i n r' hn
      obtain ⟨h1, h2⟩ := num_fwd hn
      split at e
      · rename_i hl
        cases e
        have hx : (r'.take n).length = n := by rw [List.length_take]; omega
        refine ⟨by rw [hx]; exact h1, ?_⟩
        unfold text13
        rw [hx, h2, List.append_assoc, List.take_append_drop]
      · cases e

/-- As many as is said, one behind the other. -/
def manyR {α : Type} (dec : B13 → Option (α × B13)) : Nat → B13 → Option (List α × B13)
  | 0, s => some ([], s)
  | n + 1, s => match dec s with
    | none => none
    | some (x, r) => match manyR dec n r with
      | none => none
      | some (l, t) => some (x :: l, t)

def list13 {α : Type} (enc : α → B13) (l : List α) : B13 := num13 l.length ++ (l.map enc).flatten

def listR {α : Type} (dec : B13 → Option (α × B13)) (s : B13) : Option (List α × B13) := match numR 0 0 s with
  | none => none
  | some (n, r) => manyR dec n r

theorem many_back {α : Type} {ok : α → Prop} {enc : α → B13} {dec : B13 → Option (α × B13)} (h : Code ok enc dec) : ∀ (l : List α) (r : B13), (∀ x ∈ l, ok x) → manyR dec l.length ((l.map enc).flatten ++ r) = some (l, r)
  | [], r, _ => rfl
  | x :: l, r, hl => by
    rw [List.length_cons, manyR, List.map_cons, List.flatten_cons, List.append_assoc, h.back x _ (hl x (List.mem_cons_self ..))]
    simp only
    rw [many_back h l r (fun y hy => hl y (List.mem_cons_of_mem _ hy))]

theorem many_fwd {α : Type} {ok : α → Prop} {enc : α → B13} {dec : B13 → Option (α × B13)} (h : Code ok enc dec) : ∀ (n : Nat) (s : B13) (l : List α) (r : B13), manyR dec n s = some (l, r) → l.length = n ∧ (∀ x ∈ l, ok x) ∧ s = (l.map enc).flatten ++ r
  | 0, s, l, r, e => by rw [manyR] at e; cases e; exact ⟨rfl, fun x hx => (by cases hx), rfl⟩
  | n + 1, s, l, r, e => by
    rw [manyR] at e
    split at e
    · cases e
    · rename_i x t hx
      split at e
      · cases e
      · rename_i l' r' hl
        cases e
        obtain ⟨h1, h2⟩ := h.fwd _ _ _ hx
        obtain ⟨g1, g2, g3⟩ := many_fwd h n t l' r hl
        refine ⟨by rw [List.length_cons, g1], fun y hy => ?_, ?_⟩
        · rcases List.mem_cons.1 hy with rfl | hy
          · exact h1
          · exact g2 y hy
        · rw [h2, g3, List.map_cons, List.flatten_cons, List.append_assoc]

theorem code_list {α : Type} {ok : α → Prop} {enc : α → B13} {dec : B13 → Option (α × B13)} (h : Code ok enc dec) : Code (fun l : List α => l.length ≤ top13 ∧ ∀ x ∈ l, ok x) (list13 enc) (listR dec) := by
  constructor
  · intro l r hl
    unfold listR list13
    rw [List.append_assoc, num_back hl.1]
    exact many_back h l r hl.2
  · intro s l r e
    unfold listR at e
    split at e
    · cases e
    · rename_i n t hn
      obtain ⟨h1, h2⟩ := num_fwd hn
      obtain ⟨g1, g2, g3⟩ := many_fwd h n t l r e
      refine ⟨⟨by rw [g1]; exact h1, g2⟩, ?_⟩
      unfold list13
      rw [h2, g3, g1, List.append_assoc]

/-- One behind the other. -/
def pairR {α β : Type} (da : B13 → Option (α × B13)) (db : B13 → Option (β × B13)) (s : B13) : Option ((α × β) × B13) := match da s with
  | none => none
  | some (x, r) => match db r with
    | none => none
    | some (y, t) => some ((x, y), t)

theorem code_pair {α β : Type} {oa : α → Prop} {ob : β → Prop} {ea : α → B13} {eb : β → B13} {da : B13 → Option (α × B13)} {db : B13 → Option (β × B13)} (ha : Code oa ea da) (hb : Code ob eb db) :
    Code (fun x : α × β => oa x.1 ∧ ob x.2) (fun x => ea x.1 ++ eb x.2) (pairR da db) := by
  constructor
  · rintro ⟨x, y⟩ r ⟨hx, hy⟩
    simp only at hx hy
    unfold pairR
    simp only [List.append_assoc, ha.back x _ hx, hb.back y _ hy]
  · rintro s ⟨x, y⟩ r e
    unfold pairR at e
    split at e
    · cases e
    · rename_i x' t hx
      split at e
      · cases e
      · rename_i y' t' hy
        cases e
        obtain ⟨h1, h2⟩ := ha.fwd _ _ _ hx
        obtain ⟨g1, g2⟩ := hb.fwd _ _ _ hy
        exact ⟨⟨h1, g1⟩, by rw [h2, g2, List.append_assoc]⟩

/-- What is put has no beginning that is put too, and is unlike what is put of others. -/
theorem Code.inj {α : Type} {ok : α → Prop} {enc : α → B13} {dec : B13 → Option (α × B13)} (h : Code ok enc dec) {x y : α} (hx : ok x) (hy : ok y) {r t : B13} (e : enc x ++ r = enc y ++ t) : x = y ∧ r = t := by
  have h1 := h.back x r hx
  rw [e, h.back y t hy] at h1
  cases h1
  exact ⟨rfl, rfl⟩

end Go.Proofs.YtbiilnhefoplkaaGreatDoor

namespace Go.Proofs.YtbiilnhefoplkaaGreatDoor
open Go.RowKit
set_option maxRecDepth 100000

def isoR {α β : Type} (dec : B13 → Option (α × B13)) (f : α → β) (s : B13) : Option (β × B13) := match dec s with
  | none => none
  | some (x, r) => some (f x, r)

theorem code_iso {α β : Type} {ok : α → Prop} {enc : α → B13} {dec : B13 → Option (α × B13)} (h : Code ok enc dec) (f : α → β) (g : β → α) (hg : ∀ x, g (f x) = x) :
    Code (fun y => ok (g y) ∧ f (g y) = y) (fun y => enc (g y)) (isoR dec f) := by
  constructor
  · intro y r hy
    unfold isoR
    simp only [h.back (g y) r hy.1, hy.2]
  · intro s y r e
    unfold isoR at e
    split at e
    · cases e
    · rename_i x t hx
      cases e
      obtain ⟨h1, h2⟩ := h.fwd _ _ _ hx
      exact ⟨⟨by rw [hg]; exact h1, by rw [hg]⟩, by rw [hg]; exact h2⟩

/-- A text of memory, as a list of bytes, and back. -/
def mkB (l : B13) : ByteArray := ⟨l.toArray⟩
def unB (b : ByteArray) : B13 := b.data.toList

theorem un_mk (l : B13) : unB (mkB l) = l := rfl
theorem mk_un (b : ByteArray) : mkB (unB b) = b := rfl

theorem un_mks (l : List B13) : (l.map mkB).map unB = l := by
  rw [List.map_map]
  exact List.map_id l

theorem mk_uns (l : List ByteArray) : (l.map unB).map mkB = l := by
  rw [List.map_map]
  exact List.map_id l

abbrev Pt := Nat × B13 × B13 × B13 × Nat × List B13 × List B13

def mkP (x : Pt) : Pr := ⟨x.1, mkB x.2.1, mkB x.2.2.1, mkB x.2.2.2.1, x.2.2.2.2.1, x.2.2.2.2.2.1.map mkB, x.2.2.2.2.2.2.map mkB⟩
def unP (p : Pr) : Pt := (p.kind.toNat, unB p.path, unB p.dst, unB p.src, p.pos.toNat, p.old.map unB, p.new.map unB)

theorem un_mkP (x : Pt) : unP (mkP x) = x := by
  obtain ⟨a, b, c, d, e, f, g⟩ := x
  unfold unP mkP
  simp only [un_mks, un_mk, Int.toNat_natCast]

theorem mk_unP {p : Pr} (h1 : 0 ≤ p.kind) (h2 : 0 ≤ p.pos) : mkP (unP p) = p := by
  obtain ⟨a, b, c, d, e, f, g⟩ := p
  unfold unP mkP
  simp only at h1 h2
  simp only [mk_uns, mk_un, Int.toNat_of_nonneg h1, Int.toNat_of_nonneg h2]

/-- The bytes of a change. -/
def prim13 (p : Pr) : B13 := num13 p.kind.toNat ++ (text13 (unB p.path) ++ (text13 (unB p.dst) ++ (text13 (unB p.src) ++ (num13 p.pos.toNat ++ (list13 text13 (p.old.map unB) ++ list13 text13 (p.new.map unB))))))

def okT13 (b : ByteArray) : Prop := b.size ≤ top13

/-- May that be put as bytes? -/
structure OkP13 (p : Pr) : Prop where
  kind : 0 ≤ p.kind ∧ p.kind.toNat ≤ top13
  path : okT13 p.path
  dst : okT13 p.dst
  src : okT13 p.src
  pos : 0 ≤ p.pos ∧ p.pos.toNat ≤ top13
  old : p.old.length ≤ top13 ∧ ∀ x ∈ p.old, okT13 x
  new : p.new.length ≤ top13 ∧ ∀ x ∈ p.new, okT13 x

theorem un_len (b : ByteArray) : (unB b).length = b.size := Array.length_toList

theorem un_ok {l : List ByteArray} (h : l.length ≤ top13 ∧ ∀ x ∈ l, okT13 x) : (l.map unB).length ≤ top13 ∧ ∀ s ∈ l.map unB, s.length ≤ top13 :=
  ⟨by rw [List.length_map]; exact h.1, fun s hs => by obtain ⟨x, hx, rfl⟩ := List.mem_map.1 hs; rw [un_len]; exact h.2 x hx⟩

theorem ok_un {l : List ByteArray} (h : (l.map unB).length ≤ top13 ∧ ∀ s ∈ l.map unB, s.length ≤ top13) : l.length ≤ top13 ∧ ∀ x ∈ l, okT13 x :=
  ⟨by have := h.1; rwa [List.length_map] at this, fun x hx => by have := h.2 (unB x) (List.mem_map.2 ⟨x, hx, rfl⟩); rwa [un_len] at this⟩

/-- The next change of bytes. -/
def primR : B13 → Option (Pr × B13) := isoR (pairR (numR 0 0) (pairR textR (pairR textR (pairR textR (pairR (numR 0 0) (pairR (listR textR) (listR textR))))))) mkP

theorem code_prim : Code OkP13 prim13 primR := by
  have h := code_iso (code_pair code_num (code_pair code_text (code_pair code_text (code_pair code_text (code_pair code_num (code_pair (code_list code_text) (code_list code_text))))))) mkP unP un_mkP
  constructor
  · intro p r hp
    refine h.back p r ⟨⟨hp.kind.2, by show (unB p.path).length ≤ _; rw [un_len]; exact hp.path, by show (unB p.dst).length ≤ _; rw [un_len]; exact hp.dst, by show (unB p.src).length ≤ _; rw [un_len]; exact hp.src, hp.pos.2, un_ok hp.old, un_ok hp.new⟩, mk_unP hp.kind.1 hp.pos.1⟩
  · intro s p r e
    obtain ⟨⟨⟨h1, h2, h3, h4, h5, h6, h7⟩, h8⟩, h9⟩ := h.fwd s p r e
    have hk : p.kind = ((unP p).1 : Int) := (congrArg Pr.kind h8).symm
    have hq : p.pos = ((unP p).2.2.2.2.1 : Int) := (congrArg Pr.pos h8).symm
    exact ⟨⟨⟨by rw [hk]; exact Int.natCast_nonneg _, h1⟩, by have := h2; rwa [show (unP p).2.1 = unB p.path from rfl, un_len] at this, by have := h3; rwa [show (unP p).2.2.1 = unB p.dst from rfl, un_len] at this, by have := h4; rwa [show (unP p).2.2.2.1 = unB p.src from rfl, un_len] at this, ⟨by rw [hq]; exact Int.natCast_nonneg _, h5⟩, ok_un h6, ok_un h7⟩, h9⟩

end Go.Proofs.YtbiilnhefoplkaaGreatDoor

namespace Go.Proofs.YtbiilnhefoplkaaGreatDoor
open Go.RowKit
set_option maxRecDepth 100000

/-- A named patch. -/
structure Pa where
  name : ByteArray
  deps : List ByteArray
  body : List Pr

def mkPa (x : B13 × List B13 × List Pr) : Pa := ⟨mkB x.1, x.2.1.map mkB, x.2.2⟩
def unPa (p : Pa) : B13 × List B13 × List Pr := (unB p.name, p.deps.map unB, p.body)

theorem un_mkPa (x : B13 × List B13 × List Pr) : unPa (mkPa x) = x := by
  obtain ⟨a, b, c⟩ := x
  unfold unPa mkPa
  simp only [un_mks, un_mk]

theorem mk_unPa (p : Pa) : mkPa (unPa p) = p := by
  obtain ⟨a, b, c⟩ := p
  unfold unPa mkPa
  simp only [mk_uns, mk_un]

def patch13 (p : Pa) : B13 := text13 (unB p.name) ++ (list13 text13 (p.deps.map unB) ++ list13 prim13 p.body)

def patchR : B13 → Option (Pa × B13) := isoR (pairR textR (pairR (listR textR) (listR primR))) mkPa

structure OkPa (p : Pa) : Prop where
  name : okT13 p.name
  deps : p.deps.length ≤ top13 ∧ ∀ x ∈ p.deps, okT13 x
  body : p.body.length ≤ top13 ∧ ∀ x ∈ p.body, OkP13 x

theorem code_patch : Code OkPa patch13 patchR := by
  have h := code_iso (code_pair code_text (code_pair (code_list code_text) (code_list code_prim))) mkPa unPa un_mkPa
  constructor
  · intro p r hp
    exact h.back p r ⟨⟨by show (unB p.name).length ≤ _; rw [un_len]; exact hp.name, un_ok hp.deps, hp.body⟩, mk_unPa p⟩
  · intro s p r e
    obtain ⟨⟨⟨h1, h2, h3⟩, _⟩, h9⟩ := h.fwd s p r e
    exact ⟨⟨by have := h1; rwa [show (unPa p).1 = unB p.name from rfl, un_len] at this, ok_un h2, h3⟩, h9⟩

/-- May that byte stand in a label? -/
def letB (b : UInt8) : Bool := b == 46 || b == 45 || (decide (97 ≤ b) && decide (b ≤ 122)) || (decide (48 ≤ b) && decide (b ≤ 57))

def labelB (s : B13) : Bool := decide (0 < s.length) && decide (s.length ≤ 24) && s.all letB

/-- Do labels rise, each unlike a name? -/
def depsB (name : B13) : B13 → List B13 → Bool
  | _, [] => true
  | last, d :: l => labelB d && decide (last < d) && !decide (d = name) && depsB name d l

def rightPa (p : Pa) : Bool := labelB (unB p.name) && (decide (p.deps.length ≤ 256) && depsB (unB p.name) [] (p.deps.map unB)) && (decide (p.body.length ≤ 256) && p.body.all rightP)

/-- The patch of bytes. -/
def getP (b : B13) : Option Pa := match patchR b with
  | none => none
  | some (p, r) => if r = [] ∧ rightPa p = true then some p else none

theorem get_put {p : Pa} (h : OkPa p) (hr : rightPa p = true) : getP (patch13 p) = some p := by
  have e := code_patch.back p [] h
  rw [List.append_nil] at e
  unfold getP
  rw [e]
  simp only
  rw [if_pos ⟨trivial, hr⟩]

theorem put_get {b : B13} {p : Pa} (e : getP b = some p) : OkPa p ∧ rightPa p = true ∧ patch13 p = b := by
  unfold getP at e
  split at e
  · cases e
  · rename_i q r hq
    split at e
    · rename_i h
      cases e
      obtain ⟨h1, h2⟩ := code_patch.fwd _ _ _ hq
      rw [h.1, List.append_nil] at h2
      exact ⟨h1, h.2, h2.symm⟩
    · cases e

theorem get_cut {p : Pa} (h : OkPa p) {k : Nat} (hk : k < (patch13 p).length) : getP ((patch13 p).take k) = none := by
  cases e : getP ((patch13 p).take k) with
  | none => rfl
  | some q =>
    obtain ⟨h1, _, h3⟩ := put_get e
    have h4 : patch13 p ++ [] = patch13 q ++ (patch13 p).drop k := by rw [h3, List.take_append_drop, List.append_nil]
    have h5 := (code_patch.inj h h1 h4).2
    have h6 := congrArg List.length h5
    rw [List.length_drop, List.length_nil] at h6
    omega

theorem get_more {p : Pa} (h : OkPa p) {c : UInt8} : getP (patch13 p ++ [c]) = none := by
  cases e : getP (patch13 p ++ [c]) with
  | none => rfl
  | some q =>
    obtain ⟨h1, _, h3⟩ := put_get e
    have h4 : patch13 p ++ [c] = patch13 q ++ [] := by rw [h3, List.append_nil]
    have h5 := (code_patch.inj h h1 h4).2
    cases h5

theorem put_inj {p q : Pa} (hp : OkPa p) (hq : OkPa q) (e : patch13 p = patch13 q) : p = q :=
  (code_patch.inj hp hq (r := []) (t := []) (by rw [e])).1

end Go.Proofs.YtbiilnhefoplkaaGreatDoor

namespace Go.Proofs.YtbiilnhefoplkaaGreatDoor
open Go.RowKit
set_option maxRecDepth 100000

/-- A block that holds a named patch. -/
def Box3 (w : World) (b : Nat) (y0 y1 y2 : Value) : Prop := w.heap[b]? = some (.cells #[y0, y1, y2] 36)

theorem Box3.new (w : World) (y0 y1 y2 : Value) : Box3 (w.alloc (.cells #[y0, y1, y2] 36)) w.heap.size y0 y1 y2 := heap_alloc_new w _

theorem Box3.fr {M : Nat → Prop} {w w' : World} {b : Nat} {y0 y1 y2 : Value} (h : Box3 w b y0 y1 y2) (f : Fr M w w') (hm : ¬ M b) : Box3 w' b y0 y1 y2 := f.at h hm

theorem Box3.kept {w w' : World} {b : Nat} {y0 y1 y2 : Value} (h : Box3 w b y0 y1 y2) (f : Fr None' w w') : Box3 w' b y0 y1 y2 := h.fr f (fun e => e)

theorem Box3.cells {w : World} {b : Nat} {y0 y1 y2 : Value} (h : Box3 w b y0 y1 y2) : w.cell? ⟨b, 0, none⟩ = some y0 ∧ w.cell? ⟨b, 1, none⟩ = some y1 ∧ w.cell? ⟨b, 2, none⟩ = some y2 := by
  unfold Box3 at h
  simp [World.cell?, h]

theorem Box3.frozen {w : World} {b : Nat} {y0 y1 y2 : Value} (h : Box3 w b y0 y1 y2) (o : Nat) : w.frozen? ⟨b, o, none⟩ = false := by
  unfold Box3 at h
  simp [World.frozen?, h]

theorem Box3.lt {w : World} {b : Nat} {y0 y1 y2 : Value} (h : Box3 w b y0 y1 y2) : b < w.heap.size := (Array.getElem?_eq_some_iff.1 h).1

theorem Box3.set0 {w : World} {b : Nat} {y0 y1 y2 : Value} (h : Box3 w b y0 y1 y2) (v : Value) : Box3 (w.setCell ⟨b, 0, none⟩ v) b v y1 y2 := by
  have := heap_setCell_same w b 0 #[y0, y1, y2] 36 v h
  unfold Box3
  simpa using this

theorem Box3.set1 {w : World} {b : Nat} {y0 y1 y2 : Value} (h : Box3 w b y0 y1 y2) (v : Value) : Box3 (w.setCell ⟨b, 1, none⟩ v) b y0 v y2 := by
  have := heap_setCell_same w b 1 #[y0, y1, y2] 36 v h
  unfold Box3
  simpa using this

theorem Box3.set2 {w : World} {b : Nat} {y0 y1 y2 : Value} (h : Box3 w b y0 y1 y2) (v : Value) : Box3 (w.setCell ⟨b, 2, none⟩ v) b y0 y1 v := by
  have := heap_setCell_same w b 2 #[y0, y1, y2] 36 v h
  unfold Box3
  simpa using this

/-- A named patch as a value. -/
def PaVal (w : World) (v : Value) (p : Pa) : Prop := ∃ vd pb cb, v = .agg #[.string p.name, vd, .slice pb p.body.length cb] ∧ StrsAt w vd p.deps ∧ PrsAt w pb p.body

theorem PaVal.kept {w w' : World} {v : Value} {p : Pa} (h : PaVal w v p) (f : Fr None' w w') : PaVal w' v p := by
  obtain ⟨vd, pb, cb, e, h1, h2⟩ := h
  exact ⟨vd, pb, cb, e, h1.kept f, h2.kept f⟩

/-- v is a slice of these bytes. -/
def ByAt (w : World) (v : Value) (l : B13) : Prop := ∃ ad c, v = .slice ad l.length c ∧ l.length ≤ c ∧ (ad = none → c = 0) ∧ ∀ (j : Nat) (x : UInt8), l[j]? = some x → ∃ g o, ad = some ⟨g, o, none⟩ ∧ w.cell? ⟨g, o + j, none⟩ = some (.int .u8 x.toNat)

theorem ByAt.kept {w w' : World} {v : Value} {l : B13} (h : ByAt w v l) (f : Fr None' w w') : ByAt w' v l := by
  obtain ⟨ad, c, e, h1, h2, h3⟩ := h
  exact ⟨ad, c, e, h1, h2, fun j x hj => by
    obtain ⟨g, o, e1, e2⟩ := h3 j x hj
    exact ⟨g, o, e1, f.keepCell e2 (fun e => e)⟩⟩

end Go.Proofs.YtbiilnhefoplkaaGreatDoor

namespace Go.Proofs.YtbiilnhefoplkaaGreatDoor
open Go.ChangeShapes Go.WideShapes Go.ChangeAt Go.RowKit Go.Deep
set_option maxRecDepth 100000

theorem bounds_u16 {n : Int} (h : (Lit.int .u16 n).wf = true) : 0 ≤ n ∧ n < 65536 := by
  simp [Lit.wf, IntKind.min, IntKind.max, IntKind.bits, IntKind.signed] at h
  omega

/-- A row of changes, as the cells of an argument. -/
theorem prims_cells {H : Type} {enc : TypeId × Value → H} {W : World} {fuel : Nat} {sp : Nat → Bool} {held : Bool} {cs : List Value} {d : DataW H} {ps : List MemPlace} (h : DataW.trod enc Tryz.prog W 0 sp held fuel 34 cs = some (d, ps)) (hr : ∀ n ∈ d.weights Tryz.prog 34, n ≤ reachBytes) :
    ∃ a n c L, cs = [.slice a n c] ∧ L.length = n ∧ PrsAt W a L ∧ (a = none → c = 0) ∧ ∀ x ∈ L, x.old.length ≤ reachBytes ∧ x.new.length ≤ reachBytes := by
  rcases open_slice Tryz.underlying34 h with ⟨hcs, _⟩ | ⟨ad, n, c, m, fu, D, Pl, hcs, _, hl, hm, hmm, hd, hx⟩
  · exact ⟨none, 0, 0, [], hcs, rfl, (fun k x e => by simp at e), fun _ => rfl, fun x e => by cases e⟩
  · injection hd with hd1 hd2
    subst hd1
    have hlm : n ≤ m := by rw [hmm]; split <;> omega
    have h7 : Tryz.prog.cellsOf 67 = 7 := by kernel_rfl
    rw [h7] at hx
    have hall : ∀ i, i < n → ∃ t : Pr × Value × Value, ∃ cs', W.cells? 0 (ad.add (i * 7)) 7 = some cs' ∧ cs' = [.int .i64 t.1.kind, .string t.1.path, .string t.1.dst, .string t.1.src, .int .i64 t.1.pos, t.2.1, t.2.2] ∧ StrsAt W t.2.1 t.1.old ∧ StrsAt W t.2.2 t.1.new ∧ t.1.old.length ≤ reachBytes ∧ t.1.new.length ≤ reachBytes := fun i hi => by
      obtain ⟨cs', h1, h2⟩ := hx i (by omega)
      obtain ⟨t, vo, vn, e, s1, s2, s3, s4⟩ := trod_prim h2 (fun k hk => hr k (by
        simp only [DataW.weights, Tryz.underlying34]
        refine List.mem_cons_of_mem _ (List.mem_append_left _ (weightsAll_mem (d := D i) (List.mem_map_of_mem (List.mem_range.2 hi)) k hk))))
      exact ⟨(t, vo, vn), cs', h1, e, s1, s2, s3, s4⟩
    have hin : Inhabited (Pr × Value × Value) := ⟨(⟨0, ⟨#[]⟩, ⟨#[]⟩, ⟨#[]⟩, 0, [], []⟩, .nilFunc, .nilFunc)⟩
    obtain ⟨T, hT⟩ := choose_lt hall
    refine ⟨some ad, n, c, (List.range n).map (fun i => (T i).1), hcs, by simp, fun i t hi => ?_, (fun e => by cases e), fun x hx => ?_⟩
    · have hil : i < n := by simpa using (List.getElem?_eq_some_iff.1 hi).1
      have e : (T i).1 = t := by simpa [hil] using hi
      obtain ⟨cs', h1, h2, s1, s2, _⟩ := hT i hil
      subst h2
      have c0 := cells_at7 h1 0 _ rfl
      have c1 := cells_at7 h1 1 _ rfl
      have c2 := cells_at7 h1 2 _ rfl
      have c3 := cells_at7 h1 3 _ rfl
      have c4 := cells_at7 h1 4 _ rfl
      have c5 := cells_at7 h1 5 _ rfl
      have c6 := cells_at7 h1 6 _ rfl
      have hsp : ad.spot = none := by
        obtain ⟨cs0, g1, g2, _⟩ := hT 0 (by omega)
        subst g2
        have := spot_none7 (cells_at7 g1 0 _ rfl)
        simpa [Addr.add] using this
      have ead : ad.add (i * 7) = ⟨ad.block, ad.off + i * 7, none⟩ := add_none7 hsp _
      rw [ead] at c0 c1 c2 c3 c4 c5 c6
      rw [add_none7 rfl] at c0 c1 c2 c3 c4 c5 c6
      rw [← e]
      refine ⟨ad.block, ad.off, ?_, (T i).2.1, (T i).2.2, c0, c1, c2, c3, c4, c5, c6, s1, s2⟩
      obtain ⟨b, o, s⟩ := ad
      simp_all
    · obtain ⟨i, hi, rfl⟩ := List.mem_map.1 hx
      obtain ⟨_, _, _, _, _, s3, s4⟩ := hT i (List.mem_range.1 hi)
      exact ⟨s3, s4⟩

theorem trod_patch {H : Type} {enc : TypeId × Value → H} {W : World} {fuel : Nat} {sp : Nat → Bool} {held : Bool} {cs : List Value} {x : DataW H × List MemPlace} (h : DataW.trod enc Tryz.prog W 0 sp held fuel 36 cs = some x) (hr : ∀ n ∈ x.1.weights Tryz.prog 36, n ≤ reachBytes) :
    ∃ (t : Pa) (vd : Value) (pb : Option Addr) (n cb : Nat), cs = [.string t.name, vd, .slice pb n cb] ∧ t.body.length = n ∧ StrsAt W vd t.deps ∧ PrsAt W pb t.body ∧ (pb = none → cb = 0) ∧ t.deps.length ≤ reachBytes ∧ ∀ x ∈ t.body, x.old.length ≤ reachBytes ∧ x.new.length ≤ reachBytes := by
  obtain ⟨xs, n, _, rfl, hl, hlen, hfx⟩ := DataW.trod_struct Tryz.underlying36 h
  have h3 : Tryz.prog.cellsOf 36 = 3 := by kernel_rfl
  have hcS : Tryz.prog.cellsOf 9 = 1 := by kernel_rfl
  have hcL : Tryz.prog.cellsOf 23 = 1 := by kernel_rfl
  have hcP : Tryz.prog.cellsOf 34 = 1 := by kernel_rfl
  rw [h3] at hl
  match cs, hl, xs, hlen with
  | [c0, c1, c2], _, [x0, x1, (x2a, x2b)], _ =>
    have f0 := hfx 0 _ rfl
    have f1 := hfx 1 _ rfl
    have f2 := hfx 2 _ rfl
    simp [hcS, hcL, hcP] at f0 f1 f2
    obtain ⟨s0, e0, _, _⟩ := DataW.trod_string Tryz.underlying9 f0
    obtain ⟨vd, ld, e1, t1, l1⟩ := trod_strs9 f1 (fun k hk => hr k (by
      simp [DataW.weights, Tryz.underlying36, DataW.weightsEach]
      simp [hk]))
    obtain ⟨a, nb, cb, L, e2, z1, z2, z3, z4⟩ := prims_cells f2 (fun k hk => hr k (by
      simp [DataW.weights, Tryz.underlying36, DataW.weightsEach]
      simp [hk]))
    simp only [List.cons.injEq, and_true] at e0 e1 e2
    subst e0 e1 e2
    exact ⟨⟨s0, ld, L⟩, c1, a, nb, cb, rfl, z1, t1, z2, z3, l1, z4⟩

/-- A named patch as an argument is. -/
theorem arg_patch {H : Type} {enc : TypeId × Value → H} {W : World} {sp : Nat → Bool} {held : Bool} {base : Nat} {v : Value} {d : DataW H} {ps : List MemPlace} (hv : Value.okWide Tryz.prog W .any base 36 v) (h : DataW.Trod enc Tryz.prog W 0 sp held 36 v d ps) (hr : ∀ n ∈ d.weights Tryz.prog 36, n ≤ reachBytes) :
    ∃ (t : Pa) (vd : Value) (pb : Option Addr) (n cb : Nat), v = .agg #[.string t.name, vd, .slice pb n cb] ∧ t.body.length = n ∧ StrsAt W vd t.deps ∧ PrsAt W pb t.body ∧ (pb = none → cb = 0) ∧ t.deps.length ≤ reachBytes ∧ ∀ x ∈ t.body, x.old.length ≤ reachBytes ∧ x.new.length ≤ reachBytes := by
  simp only [Value.okWide, Tryz.underlying36] at hv
  obtain ⟨cs, rfl, _⟩ := hv
  obtain ⟨fuel, hf⟩ := h
  obtain ⟨t, vd, pb, n, cb, e, h1⟩ := trod_patch hf hr
  refine ⟨t, vd, pb, n, cb, ?_, h1⟩
  obtain ⟨u⟩ := cs
  have e' : u = [.string t.name, vd, .slice pb n cb] := e
  rw [e']

/-- Bytes as an argument are. -/
theorem arg_by {H : Type} {enc : TypeId × Value → H} {W : World} {sp : Nat → Bool} {held : Bool} {base : Nat} {v : Value} {d : DataW H} {ps : List MemPlace} (hv : Value.okWide Tryz.prog W .any base 161 v) (h : DataW.Trod enc Tryz.prog W 0 sp held 161 v d ps) :
    ∃ l, ByAt W v l := by
  obtain ⟨a, n, c, rfl⟩ := okWide_slice Tryz.underlying161 hv
  obtain ⟨fuel, hf⟩ := h
  rcases open_ints Tryz.underlying161 Tryz.underlying5 (by kernel_rfl) hf with ⟨hcs, _⟩ | ⟨ad, l, c', zs, hcs, _, hl, hm, hz, _, hcell, hwz⟩
  · simp only [Value.cells, List.cons.injEq, Value.slice.injEq, and_true] at hcs
    obtain ⟨rfl, rfl, rfl⟩ := hcs
    exact ⟨[], none, 0, rfl, Nat.le_refl _, fun _ => rfl, fun j x hj => by simp at hj⟩
  · simp only [Value.cells, List.cons.injEq, Value.slice.injEq, and_true] at hcs
    obtain ⟨rfl, rfl, rfl⟩ := hcs
    have hlz : n ≤ zs.length := by rw [hz]; split <;> omega
    have hlen : ((zs.take n).map (fun z => UInt8.ofNat z.toNat)).length = n := by simp; omega
    refine ⟨(zs.take n).map (fun z => UInt8.ofNat z.toNat), some ad, c, by rw [hlen], by rw [hlen]; exact hl, (fun e => by cases e), fun j x hj => ?_⟩
    have hjn := (List.getElem?_eq_some_iff.1 hj).1
    rw [hlen] at hjn
    have h0 := spot_none7 (hcell 0 (by omega))
    rw [show ad.add 0 = ad from rfl] at h0
    refine ⟨ad.block, ad.off, ?_, ?_⟩
    · obtain ⟨b, o, s⟩ := ad
      simp_all
    · rw [← add_none7 h0, hcell j (by omega)]
      have hz1 : zs.getD j 0 = zs[j]'(by omega) := by rw [List.getD_eq_getElem?_getD, List.getElem?_eq_getElem (by omega)]; rfl
      have hb := bounds_u8 (hwz _ (List.getElem_mem (by omega : j < zs.length)))
      rw [List.getElem?_map, List.getElem?_take, if_pos hjn, List.getElem?_eq_getElem (by omega)] at hj
      simp only [Option.map_some, Option.some.injEq] at hj
      rw [hz1, ← hj, UInt8.toNat_ofNat']
      congr 2
      omega

end Go.Proofs.YtbiilnhefoplkaaGreatDoor

namespace Go.Proofs.YtbiilnhefoplkaaGreatDoor
open Go.RowKit Go.Maps Go.WideMaps
set_option maxRecDepth 100000

theorem Fr.turned {M : Nat → Prop} {w w' : World} {b : Nat} (ht : w.mapTurned w' b) (hb : M b) : Fr M w w' :=
  Fr.grown ht.grown (fun k e => by cases e; exact hb)

theorem Fr.map {M : Nat → Prop} {w w' : World} (h : Fr M w w') {H : Type} {P : Program} {k : TypeId} {R : Value → Option (DataW H × List MemPlace)} {b n : Nat} {D : DataW H} (hm : w.ownsMap P k R b n D) (hb : ¬ M b) : w'.ownsMap P k R b n D := by
  obtain ⟨es, clock, h1, h2, h3, h4⟩ := hm
  exact ⟨es, clock, h.at h1 hb, h2, h3, h4⟩

theorem Fr.row {M : Nat → Prop} {w w' : World} (h : Fr M w w') {base : Nat} {e : TypeId} {size : Nat} {v : Value} {n : Nat} {xs : List Value} (hr : w.ownsRow base e size v n xs) (hb : ∀ g, v.ownBlock = some g → ¬ M g) : w'.ownsRow base e size v n xs := by
  obtain ⟨h1, h2⟩ := hr
  refine ⟨h1, ?_⟩
  rcases h2 with h2 | ⟨g, cap, cur, hv, hg, hh, r⟩
  · exact Or.inl h2
  · exact Or.inr ⟨g, cap, cur, hv, hg, h.at hh (hb g (by rw [hv]; rfl)), r⟩

theorem Fr.ranges {M : Nat → Prop} {w w' : World} (h : Fr M w w') {H : Type} {P : Program} {k : TypeId} {R : Value → Option (DataW H × List MemPlace)} {b r n : Nat} {D : DataW H} {left : Lit → Bool} {cnt : Nat} (hm : w.ranges P k R b r n D left cnt) (hb : ¬ M b) (hr : ¬ M r) : w'.ranges P k R b r n D left cnt := by
  obtain ⟨es, clock, since, seen, c0, h1, h2, h3, h4, h5, h6⟩ := hm
  exact ⟨es, clock, since, seen, c0, h.at h1 hb, h2, h3, h4, h.at h5 hr, h6⟩

theorem lt_of_some {w : World} {k : Nat} {o : Obj} (ho : w.heap[k]? = some o) : k < w.heap.size := (Array.getElem?_eq_some_iff.1 ho).1

theorem lawS : Keyed Tryz.prog 9 := string_keyed Tryz.underlying9

theorem keyOf_string_inv {key : Value} {kl : Lit} (h : keyOf Tryz.prog 9 key = some kl) : ∃ x : ByteArray, key = .string x ∧ kl = .string x.data.toList := by
  cases key <;> simp [keyOf, Tryz.underlying9, mapKey] at h
  exact ⟨_, rfl, h.2.symm⟩

theorem turned_cell {w w' : World} {b : Nat} {a : Addr} {u : Value} (ht : w.mapTurned w' b) (h : w.cell? a = some u) : w'.cell? a = some u := by
  have hg := ht.grown
  obtain ⟨es, clock, _, _, hb, _⟩ := ht
  have hk : ∃ o, w.heap[a.block]? = some o ∧ ∀ es c, o ≠ .map es c := by
    unfold World.cell? at h
    split at h
    · rename_i hk; exact ⟨_, hk, by simp⟩
    · cases h
  obtain ⟨o, hk, hne⟩ := hk
  rw [World.cell?_of_block (w := w) (hg.block a.block (lt_of_some hk) (fun e => by
    have e' : a.block = b := by simpa using e
    rw [e', hb] at hk
    cases hk
    exact hne _ _ rfl))]
  exact h

end Go.Proofs.YtbiilnhefoplkaaGreatDoor

namespace Go.Proofs.YtbiilnhefoplkaaGreatDoor
open Go.RowKit Go.Maps Go.WideMaps
set_option maxRecDepth 100000

theorem key14 (s : ByteArray) (h : s.size ≤ maxLen) : keyOf Tryz.prog 9 (.string s) = some (.string (unB s)) := keyOf_string_mk Tryz.underlying9 h

/-- An entry: a key, and what lies there. -/
abbrev Kv (β : Type) := B13 × β

def insM {β : Type} (x : Kv β) : List (Kv β) → List (Kv β)
  | [] => [x]
  | y :: r => if Lit.before (.string x.1) (.string y.1) then x :: y :: r else y :: insM x r
def delM {β : Type} (T : List (Kv β)) (k : B13) : List (Kv β) := T.filter (fun t => !(t.1 == k))
def putM {β : Type} (T : List (Kv β)) (k : B13) (c : β) : List (Kv β) := insM (k, c) (delM T k)
def getM {β : Type} (T : List (Kv β)) (k : B13) : Option β := (T.find? (fun t => t.1 == k)).map (·.2)

/-- Its keys rise. -/
def RiseM {β : Type} (T : List (Kv β)) : Prop := (T.map (·.1)).Pairwise (· < ·)

theorem before_14 : ∀ (a b : List UInt8), bytesBefore a b = true ↔ a < b
  | [], [] => by simp [bytesBefore]
  | [], _ :: _ => by simp [bytesBefore]
  | _ :: _, [] => by simp [bytesBefore]
  | a :: x, b :: y => by
    rw [bytesBefore, List.cons_lt_cons_iff, ← before_14 x y]
    simp

theorem mem_insM {β : Type} {x y : Kv β} : ∀ {T : List (Kv β)}, y ∈ insM x T ↔ y = x ∨ y ∈ T
  | [] => by simp [insM]
  | z :: r => by
    unfold insM
    split
    · simp
    · simp only [List.mem_cons, mem_insM (T := r)]
      constructor
      · rintro (h | h | h)
        · exact Or.inr (Or.inl h)
        · exact Or.inl h
        · exact Or.inr (Or.inr h)
      · rintro (h | h | h)
        · exact Or.inr (Or.inl h)
        · exact Or.inl h
        · exact Or.inr (Or.inr h)

theorem mem_delM {β : Type} {T : List (Kv β)} {k : B13} {y : Kv β} : y ∈ delM T k ↔ y ∈ T ∧ y.1 ≠ k := by simp [delM]

theorem mem_putM {β : Type} {T : List (Kv β)} {k : B13} {c : β} {y : Kv β} : y ∈ putM T k c ↔ y = (k, c) ∨ (y ∈ T ∧ y.1 ≠ k) := by
  unfold putM; rw [mem_insM, mem_delM]

theorem RiseM.get {β : Type} {T : List (Kv β)} (h : RiseM T) {t : Kv β} (ht : t ∈ T) : getM T t.1 = some t.2 := by
  unfold RiseM at h
  rw [List.pairwise_map] at h
  unfold getM
  induction T with
  | nil => cases ht
  | cons x r ih =>
    obtain ⟨a, b⟩ := List.pairwise_cons.1 h
    rw [List.find?_cons]
    rcases List.mem_cons.1 ht with e | e
    · subst e; simp
    · have := a t e
      have hne : (x.1 == t.1) = false := by
        rw [beq_eq_false_iff_ne]
        intro e2
        rw [e2] at this
        exact List.lt_irrefl _ this
      rw [hne]
      exact ih b e

theorem getM_mem {β : Type} {T : List (Kv β)} {k : B13} {c : β} (h : getM T k = some c) : (k, c) ∈ T := by
  unfold getM at h
  cases hf : T.find? (fun t => t.1 == k) with
  | none => rw [hf] at h; cases h
  | some t =>
    rw [hf] at h
    have h1 := List.mem_of_find?_eq_some hf
    have h2 : t.1 = k := by simpa using List.find?_some hf
    obtain ⟨a, b⟩ := t
    cases h
    cases h2
    exact h1

theorem getM_iff {β : Type} {T : List (Kv β)} (h : RiseM T) {k : B13} {c : β} : getM T k = some c ↔ (k, c) ∈ T :=
  ⟨getM_mem, fun hm => h.get hm⟩

theorem rise_ins {β : Type} {x : Kv β} : ∀ {T : List (Kv β)}, RiseM T → (∀ y ∈ T, y.1 ≠ x.1) → RiseM (insM x T)
  | [], _, _ => List.pairwise_singleton ..
  | z :: r, h, hn => by
    unfold RiseM at h ⊢
    rw [List.pairwise_map] at h ⊢
    obtain ⟨a, b⟩ := List.pairwise_cons.1 h
    unfold insM
    split
    · rename_i hb
      have hb := (before_14 _ _).1 hb
      refine List.pairwise_cons.2 ⟨fun y hy => ?_, h⟩
      rcases List.mem_cons.1 hy with e | e
      · subst e; exact hb
      · exact List.lt_trans hb (a y e)
    · rename_i hb
      have hb : ¬ x.1 < z.1 := fun e => hb ((before_14 _ _).2 e)
      have hlt : z.1 < x.1 := by
        rcases Std.lt_trichotomy z.1 x.1 with h | h | h
        · exact h
        · exact absurd h (hn z (List.mem_cons_self ..))
        · exact absurd h hb
      refine List.pairwise_cons.2 ⟨fun y hy => ?_, ?_⟩
      · rcases mem_insM.1 hy with e | e
        · subst e; exact hlt
        · exact a y e
      · have := rise_ins (x := x) (T := r) (by unfold RiseM; rw [List.pairwise_map]; exact b) (fun y hy => hn y (List.mem_cons_of_mem _ hy))
        unfold RiseM at this
        rw [List.pairwise_map] at this
        exact this

theorem rise_del {β : Type} {T : List (Kv β)} (h : RiseM T) (k : B13) : RiseM (delM T k) := by
  unfold RiseM at h ⊢
  rw [List.pairwise_map] at h ⊢
  exact h.filter _

theorem rise_put {β : Type} {T : List (Kv β)} (h : RiseM T) (k : B13) (c : β) : RiseM (putM T k c) :=
  rise_ins (rise_del h k) (fun _ hy => (mem_delM.1 hy).2)

theorem get_putM {β : Type} {T : List (Kv β)} (h : RiseM T) (k q : B13) (c : β) : getM (putM T k c) q = if q = k then some c else getM T q := by
  have hr := rise_put h k c
  by_cases e : q = k
  · subst e
    rw [if_pos rfl]
    exact hr.get (t := (q, c)) (mem_putM.2 (Or.inl rfl))
  · rw [if_neg e]
    cases hg : getM T q with
    | some d => exact hr.get (t := (q, d)) (mem_putM.2 (Or.inr ⟨getM_mem hg, e⟩))
    | none =>
      cases hp : getM (putM T k c) q with
      | none => rfl
      | some d =>
        rcases mem_putM.1 (getM_mem hp) with h1 | ⟨h1, _⟩
        · cases h1; exact absurd rfl e
        · rw [h.get h1] at hg; cases hg

theorem get_delM {β : Type} {T : List (Kv β)} (h : RiseM T) (k q : B13) : getM (delM T k) q = if q = k then none else getM T q := by
  have hr := rise_del h k
  by_cases e : q = k
  · subst e
    rw [if_pos rfl]
    cases hp : getM (delM T q) q with
    | none => rfl
    | some d => exact absurd rfl (mem_delM.1 (getM_mem hp)).2
  · rw [if_neg e]
    cases hg : getM T q with
    | some d => exact hr.get (t := (q, d)) (mem_delM.2 ⟨getM_mem hg, e⟩)
    | none =>
      cases hp : getM (delM T k) q with
      | none => rfl
      | some d => rw [h.get (mem_delM.1 (getM_mem hp)).1] at hg; cases hg

theorem len_insM {β : Type} (x : Kv β) : ∀ T : List (Kv β), (insM x T).length = T.length + 1
  | [] => rfl
  | y :: r => by
    unfold insM
    split
    · rfl
    · rw [List.length_cons, len_insM x r, List.length_cons]

theorem del_none {β : Type} {T : List (Kv β)} {k : B13} (h : getM T k = none) : delM T k = T := by
  unfold delM
  refine List.filter_eq_self.2 fun t ht => ?_
  unfold getM at h
  rw [Option.map_eq_none_iff, List.find?_eq_none] at h
  have := h t ht
  simpa using this

theorem len_put {β : Type} {T : List (Kv β)} {k : B13} (c : β) (h : getM T k = none) : (putM T k c).length = T.length + 1 := by
  unfold putM
  rw [len_insM, del_none h]

section
variable {β : Type} (mk : β → Value)

def entM (t : Kv β) : Lit × DataW Value := (.string t.1, .held (mk t.2))
def toM (T : List (Kv β)) : DataW Value := .map (T.map (entM mk))

open Classical in
noncomputable def heldM (v : Value) : Option (DataW Value × List MemPlace) := if ∃ c, v = mk c then some (.held v, []) else none

theorem heldM_mk (c : β) : heldM mk (mk c) = some (.held (mk c), []) := by
  unfold heldM
  rw [if_pos ⟨c, rfl⟩]

theorem heldM_inv {v : Value} {y : DataW Value × List MemPlace} (h : heldM mk v = some y) : ∃ c, v = mk c := by
  unfold heldM at h
  split at h
  · rename_i hc; exact hc
  · cases h

theorem heldM_eq {v : Value} {d : DataW Value} {ps : List MemPlace} (h : heldM mk v = some (d, ps)) : d = .held v := by
  unfold heldM at h
  split at h
  · cases h; rfl
  · cases h

theorem ent_insM (x : Kv β) : ∀ T : List (Kv β), (insM x T).map (entM mk) = DataW.insert (entM mk x) (T.map (entM mk))
  | [] => rfl
  | y :: r => by
    simp only [insM, List.map_cons, DataW.insert]
    have e : (entM mk x).1.before (entM mk y).1 = Lit.before (.string x.1) (.string y.1) := rfl
    rw [e]
    split
    · rfl
    · simp [ent_insM x r]

theorem ent_delM (T : List (Kv β)) (k : B13) : (delM T k).map (entM mk) = (T.map (entM mk)).filter (fun p => !p.1.sameKey (.string k)) := by
  unfold delM
  rw [List.filter_map]
  rfl

theorem toM_del (T : List (Kv β)) (k : B13) : (toM mk T).del (.string k) = toM mk (delM T k) := by
  unfold toM
  rw [ent_delM]
  rfl

theorem toM_put (T : List (Kv β)) (k : B13) (c : β) : (toM mk T).put (.string k) (.held (mk c)) = toM mk (putM T k c) := by
  unfold toM putM
  rw [ent_insM, ent_delM]
  rfl

theorem has_toM (T : List (Kv β)) (k : B13) : Maps.has (toM mk T) (.string k) = (getM T k).isSome := by
  unfold toM getM
  rw [Maps.has_eq, List.any_map]
  have e : ((fun p : Lit × DataW Value => p.fst.sameKey (Lit.string k)) ∘ entM mk) = fun t : Kv β => t.1 == k := rfl
  rw [e]
  induction T with
  | nil => rfl
  | cons x r ih =>
    rw [List.any_cons, List.find?_cons]
    cases hx : (x.1 == k)
    · simpa using ih
    · simp

theorem find_map14 {α γ : Type} (f : α → γ) (p : γ → Bool) : ∀ l : List α, (l.map f).find? p = (l.find? (fun x => p (f x))).map f
  | [] => rfl
  | x :: r => by
    simp only [List.map_cons, List.find?_cons]
    cases p (f x) <;> simp [find_map14 f p r]

theorem atKey_toM (T : List (Kv β)) (k : B13) (z : DataW Value) : (toM mk T).atKey (.string k) z = (match getM T k with | some c => .held (mk c) | none => z) := by
  unfold toM DataW.atKey getM
  simp only
  rw [find_map14]
  have e : (fun x => (entM mk x).1.sameKey (.string k)) = fun t : Kv β => t.1 == k := rfl
  rw [e]
  cases T.find? (fun t => t.1 == k) <;> rfl

theorem size_toM (T : List (Kv β)) : Maps.size (toM mk T) = T.length := by simp [toM, Maps.size]

/-- The map of block b is T; at most n keys were put into it. -/
abbrev MAt (w : World) (b n : Nat) (T : List (Kv β)) : Prop := w.ownsMap Tryz.prog 9 (heldM mk) b n (toM mk T)

variable {mk}

theorem MAt.rise {w : World} {b n : Nat} {T : List (Kv β)} (h : MAt mk w b n T) : RiseM T := by
  obtain ⟨es, e, hp, _⟩ := World.ownsMap.canon h lawS
  cases e
  unfold RiseM
  rw [List.pairwise_map] at hp ⊢
  exact hp.imp (fun h => (before_14 _ _).1 h)

theorem MAt.kept {w w' : World} {b n : Nat} {T : List (Kv β)} (h : MAt mk w b n T) (f : Fr None' w w') : MAt mk w' b n T := f.map h (fun e => e)

theorem MAt.start (w : World) : MAt mk (w.alloc (.map #[] 0)) w.heap.size 0 [] := World.ownsMap_made _ _ _ _

theorem MAt.look {w : World} {b n : Nat} {T : List (Kv β)} (h : MAt mk w b n T) {t e : TypeId} (ht : Tryz.prog.underlying t = some (.map 9 e)) {z : β} (hz : (zeroValue e).run Tryz.prog w = .ok (mk z) w) (s : ByteArray) (hs : s.size ≤ maxLen) :
    (Instr.lookup t (.map (some b)) (.string s) false).run Tryz.prog w = .ok (mk ((getM T (unB s)).getD z)) w := by
  obtain ⟨v, ps, hrun, hv⟩ := World.ownsMap.lookup h lawS ht hz (zd := .held (mk z)) (zp := []) (heldM_mk mk z) (key14 s hs)
  rw [hrun]
  rw [atKey_toM] at hv
  have e := heldM_eq mk hv
  cases hg : getM T (unB s) with
  | none => rw [hg] at e; injection e with e; rw [← e]; rfl
  | some t => rw [hg] at e; injection e with e; rw [← e]; rfl

theorem MAt.look_ok {w : World} {b n : Nat} {T : List (Kv β)} (h : MAt mk w b n T) {t e : TypeId} (ht : Tryz.prog.underlying t = some (.map 9 e)) {z : β} (hz : (zeroValue e).run Tryz.prog w = .ok (mk z) w) (s : ByteArray) (hs : s.size ≤ maxLen) :
    (Instr.lookup t (.map (some b)) (.string s) true).run Tryz.prog w = .ok (.tuple #[mk ((getM T (unB s)).getD z), .bool (getM T (unB s)).isSome]) w := by
  obtain ⟨v, ps, hrun, hv⟩ := World.ownsMap.look_ok h lawS ht hz (zd := .held (mk z)) (zp := []) (heldM_mk mk z) (key14 s hs)
  rw [hrun, has_toM]
  rw [atKey_toM] at hv
  have e := heldM_eq mk hv
  cases hg : getM T (unB s) with
  | none => rw [hg] at e; injection e with e; rw [← e]; rfl
  | some t => rw [hg] at e; injection e with e; rw [← e]; rfl

/-- What a range over the map has met. -/
theorem hit14 {T : List (Kv β)} {k : B13} {v : Value} {y : DataW Value × List MemPlace} (hv : heldM mk v = some y) (hat : ∀ zd, (toM mk T).atKey (.string k) zd = y.1) : ∃ c, getM T k = some c ∧ mk c = v := by
  have e := heldM_eq mk (hv.trans (show some y = some (y.1, y.2) from rfl))
  have h0 := hat .nil
  rw [atKey_toM] at h0
  cases hg : getM T k with
  | none => rw [hg, e] at h0; simp at h0
  | some t => rw [hg, e] at h0; simp at h0; exact ⟨t, rfl, h0⟩

end

end Go.Proofs.YtbiilnhefoplkaaGreatDoor

namespace Go.Proofs.YtbiilnhefoplkaaGreatDoor
open Go.RowKit
set_option maxRecDepth 100000

/-- The cells of patches, their rows' slices given. -/
def pcells : List Pr → List (Value × Value) → List Value
  | x :: L, u :: V => prCells x u.1 u.2 ++ pcells L V
  | _, _ => []

theorem prCells_length (x : Pr) (vo vn : Value) : (prCells x vo vn).length = 7 := rfl

theorem pcells_length : ∀ (L : List Pr) (V : List (Value × Value)), V.length = L.length → (pcells L V).length = L.length * 7
  | [], _, _ => rfl
  | x :: L, [], e => by cases e
  | x :: L, u :: V, e => by
    simp only [pcells, List.length_cons, List.length_append, prCells_length] at e ⊢
    rw [pcells_length L V (by omega)]
    omega

theorem pcells_append : ∀ (L B : List Pr) (V U : List (Value × Value)), V.length = L.length → pcells (L ++ B) (V ++ U) = pcells L V ++ pcells B U
  | [], B, [], U, _ => rfl
  | [], _, _ :: _, _, e => by cases e
  | _ :: _, _, [], _, e => by cases e
  | x :: L, B, v :: V, U, e => by
    simp only [List.cons_append, pcells, List.append_assoc]
    rw [pcells_append L B V U (by simpa using e)]

theorem pcells_get : ∀ (L : List Pr) (V : List (Value × Value)) (k : Nat) (x : Pr) (u : Value × Value), L[k]? = some x → V[k]? = some u → ∀ j, j < 7 → (pcells L V)[k * 7 + j]? = (prCells x u.1 u.2)[j]?
  | [], _, k, x, vl, e, _ => by simp at e
  | y :: L, [], k, x, vl, _, e => by simp at e
  | y :: L, v :: V, 0, x, u, e1, e2 => fun j hj => by
    simp at e1 e2
    subst e1 e2
    simp only [pcells, Nat.zero_mul, Nat.zero_add]
    exact List.getElem?_append_left (by rw [prCells_length]; exact hj)
  | y :: L, v :: V, k + 1, x, u, e1, e2 => fun j hj => by
    have := pcells_get L V k x u (by simpa using e1) (by simpa using e2) j hj
    simp only [pcells]
    rw [List.getElem?_append_right (by rw [prCells_length]; omega), prCells_length, ← this]
    congr 1
    omega

theorem pcells_one : ∀ (L : List Pr) (V : List (Value × Value)), (∀ u ∈ V, u.1.oneCell' = true ∧ u.2.oneCell' = true) → ∀ c ∈ pcells L V, c.oneCell' = true
  | [], _, _ => fun c hc => by simp [pcells] at hc
  | x :: L, [], _ => fun c hc => by simp [pcells] at hc
  | x :: L, u :: V, h => fun c hc => by
    simp only [pcells, List.mem_append] at hc
    rcases hc with hc | hc
    · simp only [prCells, List.mem_cons, List.not_mem_nil, or_false] at hc
      rcases hc with rfl | rfl | rfl | rfl | rfl | rfl | rfl
      · rfl
      · rfl
      · rfl
      · rfl
      · rfl
      · exact (h u (List.mem_cons_self ..)).1
      · exact (h u (List.mem_cons_self ..)).2
    · exact pcells_one L V (fun u hu => h u (List.mem_cons_of_mem _ hu)) c hc

theorem infoP : (Tryz.prog.info? 67).map (fun i => (i.zero, i.size, i.bytes)) = some (some (.agg #[.int .i64 0, .string ⟨#[]⟩, .string ⟨#[]⟩, .string ⟨#[]⟩, .int .i64 0, .slice none 0 0, .slice none 0 0]), 7, 112) := by kernel_rfl

/-- The texts of the slice s do not lie in v's own row. -/
def Far (v s : Value) (l : List ByteArray) : Prop := l ≠ [] → ∀ k, s.ownBlock = some k → ¬ v.ownBlock = some k

theorem StrsAt.one {w : World} {v : Value} {l : List ByteArray} (h : StrsAt w v l) : v.oneCell' = true := by
  obtain ⟨va, c, rfl, _⟩ := h
  rfl

/-- v is a row of the patches L, in a block of its own from base on. -/
structure OwnP (base : Nat) (w : World) (v : Value) (L : List Pr) (V : List (Value × Value)) : Prop where
  len : V.length = L.length
  row : w.ownsRow base 67 7 v L.length (pcells L V)
  str : ∀ (k : Nat) (x : Pr) (u : Value × Value), L[k]? = some x → V[k]? = some u → StrsAt w u.1 x.old ∧ StrsAt w u.2 x.new ∧ Far v u.1 x.old ∧ Far v u.2 x.new

theorem OwnP.nil (base : Nat) (w : World) : OwnP base w (.slice none 0 0) [] [] := ⟨rfl, World.ownsRow_nil w _ _ 7, fun k x u e => by simp at e⟩

theorem OwnP.ge {base : Nat} {w : World} {v : Value} {L : List Pr} {V : List (Value × Value)} (h : OwnP base w v L V) {k : Nat} (hk : v.ownBlock = some k) : base ≤ k ∧ k < w.heap.size := by
  rcases h.row.2 with ⟨hv, e⟩ | ⟨g, cap, cur, hv, hb, hh, hc, _, hs, ht⟩
  · rw [hv] at hk; cases hk
  · rw [hv] at hk; cases hk; exact ⟨hb, (Array.getElem?_eq_some_iff.1 hh).1⟩

theorem OwnP.kept {base : Nat} {w w' : World} {v : Value} {L : List Pr} {V : List (Value × Value)} (h : OwnP base w v L V) (f : Fr None' w w') : OwnP base w' v L V := by
  refine ⟨h.len, ⟨h.row.1, ?_⟩, fun k x u e1 e2 => ?_⟩
  · rcases h.row.2 with h | ⟨g, cap, cur, hv, hb, hh, h⟩
    · exact Or.inl h
    · exact Or.inr ⟨g, cap, cur, hv, hb, f.at hh (fun e => e), h⟩
  · obtain ⟨h1, h2, h3, h4⟩ := h.str k x u e1 e2
    exact ⟨h1.kept f, h2.kept f, h3, h4⟩

/-- .. or blocks turn that are neither the row's nor its texts'. -/
theorem OwnP.fr {M : Nat → Prop} {base : Nat} {w w' : World} {v : Value} {L : List Pr} {V : List (Value × Value)} (h : OwnP base w v L V) (f : Fr M w w') (hv : ∀ k, v.ownBlock = some k → ¬ M k) (hs : ∀ u ∈ V, ∀ k, (u.1.ownBlock = some k ∨ u.2.ownBlock = some k) → k < w.heap.size → ¬ M k) : OwnP base w' v L V := by
  refine ⟨h.len, ⟨h.row.1, ?_⟩, fun k x u e1 e2 => ?_⟩
  · rcases h.row.2 with h | ⟨g, cap, cur, he, hb, hh, h⟩
    · exact Or.inl h
    · exact Or.inr ⟨g, cap, cur, he, hb, f.at hh (hv g (by rw [he]; rfl)), h⟩
  · obtain ⟨h1, h2, h3, h4⟩ := h.str k x u e1 e2
    have hu := List.mem_of_getElem? e2
    exact ⟨h1.far f (fun hl k e => hs u hu k (Or.inl e) (h1.lt hl e)), h2.far f (fun hl k e => hs u hu k (Or.inr e) (h2.lt hl e)), h3, h4⟩

theorem OwnP.slice {base : Nat} {w : World} {v : Value} {L : List Pr} {V : List (Value × Value)} (h : OwnP base w v L V) : ∃ va c, v = .slice va L.length c ∧ L.length ≤ c ∧ (va = none → c = 0) ∧ PrsAt w va L := by
  rcases h.row.2 with ⟨hv, e⟩ | ⟨g, cap, cur, hv, hb, hh, hc, _, hs, ht⟩
  · have e2 : L = [] := List.length_eq_zero_iff.1 e
    subst e2
    exact ⟨none, 0, hv, Nat.le_refl _, fun _ => rfl, fun k x hk => by simp at hk⟩
  · refine ⟨_, cap, hv, hc, fun e => by simp at e, fun k x hk => ?_⟩
    have hkl := (List.getElem?_eq_some_iff.1 hk).1
    obtain ⟨u, hp⟩ : ∃ u, V[k]? = some u := ⟨_, List.getElem?_eq_getElem (by rw [h.len]; exact hkl)⟩
    have hx := pcells_get L V k x u hk hp
    have hc' : ∀ j u, j < L.length * 7 → (pcells L V)[j]? = some u → w.cell? ⟨g, j, none⟩ = some u := fun j u hj h1 => by
      rw [← ht, List.getElem?_take, if_pos hj] at h1
      rw [World.cell?, hh]
      simpa using h1
    obtain ⟨s1, s2, _, _⟩ := h.str k x u hk hp
    refine ⟨g, 0, rfl, u.1, u.2, ?_, ?_, ?_, ?_, ?_, ?_, ?_, s1, s2⟩
    · rw [Nat.zero_add]; exact hc' _ _ (by omega) (hx 0 (by omega))
    · rw [Nat.zero_add]; exact hc' _ _ (by omega) (hx 1 (by omega))
    · rw [Nat.zero_add]; exact hc' _ _ (by omega) (hx 2 (by omega))
    · rw [Nat.zero_add]; exact hc' _ _ (by omega) (hx 3 (by omega))
    · rw [Nat.zero_add]; exact hc' _ _ (by omega) (hx 4 (by omega))
    · rw [Nat.zero_add]; exact hc' _ _ (by omega) (hx 5 (by omega))
    · rw [Nat.zero_add]; exact hc' _ _ (by omega) (hx 6 (by omega))

/-- The cells of a slice of patches. -/
theorem prs_cells {w : World} {g : Nat} : ∀ (B : List Pr) (o : Nat), PrsAt w (some ⟨g, o, none⟩) B → ∃ U : List (Value × Value), U.length = B.length ∧ (∀ j u, (pcells B U)[j]? = some u → w.cell? ⟨g, o + j, none⟩ = some u) ∧ ∀ (k : Nat) (x : Pr) (u : Value × Value), B[k]? = some x → U[k]? = some u → StrsAt w u.1 x.old ∧ StrsAt w u.2 x.new
  | [], o, _ => ⟨[], rfl, (fun j u e => by simp [pcells] at e), fun k x vl e => by simp at e⟩
  | x :: B, o, h => by
    obtain ⟨g', o', e, vo, vn, c0, c1, c2, c3, c4, c5, c6, hs1, hs2⟩ := h 0 x rfl
    cases e
    obtain ⟨U, h1, h2, h4⟩ := prs_cells B (o + 7) (fun k y hk => by
      obtain ⟨g', o', e, hy⟩ := h (k + 1) y (by simpa using hk)
      cases e
      exact ⟨_, _, rfl, by rw [show o + 7 + k * 7 = o + (k + 1) * 7 from by omega]; exact hy⟩)
    refine ⟨(vo, vn) :: U, by simp [h1], fun j u hj => ?_, fun k y vy e1 e2 => ?_⟩
    · simp only [pcells, prCells, List.cons_append, List.nil_append] at hj
      match j, hj with
      | 0, hj => simp at hj; subst hj; simpa using c0
      | 1, hj => simp at hj; subst hj; simpa using c1
      | 2, hj => simp at hj; subst hj; simpa using c2
      | 3, hj => simp at hj; subst hj; simpa using c3
      | 4, hj => simp at hj; subst hj; simpa using c4
      | 5, hj => simp at hj; subst hj; simpa using c5
      | 6, hj => simp at hj; subst hj; simpa using c6
      | j + 7, hj =>
        have := h2 j u (by simpa using hj)
        rw [show o + (j + 7) = o + 7 + j from by omega]
        exact this
    · cases k with
      | zero => simp at e1 e2; subst e1 e2; exact ⟨hs1, hs2⟩
      | succ k => exact h4 k y vy (by simpa using e1) (by simpa using e2)

/-- 'append(l, b...)', l a row of patches of the call's own. -/
theorem OwnP.append {base : Nat} {w : World} {v : Value} {L : List Pr} {V : List (Value × Value)} (h : OwnP base w v L V) {ad : Addr} {c m : Nat} {B : List Pr} {U : List (Value × Value)} (hm : B.length = m) (h1 : U.length = B.length) (h2 : ∀ j u, (pcells B U)[j]? = some u → w.cell? (ad.add j) = some u) (h4 : ∀ (k : Nat) (x : Pr) (u : Value × Value), B[k]? = some x → U[k]? = some u → StrsAt w u.1 x.old ∧ StrsAt w u.2 x.new ∧ Far v u.1 x.old ∧ Far v u.2 x.new) (hn : L.length + m ≤ 100000000) (hbase : base ≤ w.heap.size) :
    ∃ v' w', (Builtin.append_ #[34, 34] 34 #[v, .slice (some ad) m c]).run Tryz.prog w = .ok v' w' ∧ OwnP base w' v' (L ++ B) (V ++ U) ∧ Fr (fun k => v.ownBlock = some k) w w' ∧ (v'.ownBlock = v.ownBlock ∨ v'.ownBlock = some w.heap.size) := by
  obtain ⟨i0, hi, hz0, hz1, hz2⟩ := info_parts infoP
  obtain ⟨v', w', hr, h5, h6, _, h7⟩ := run_append_own_at (P := Tryz.prog) w base 34 34 67 i0 _ 7 112 Tryz.underlying34 hi hz0 hz1 hz2 rfl (by decide) v L.length (pcells L V) h.row ad m c (pcells B U) (by rw [pcells_length B U h1, hm]) h2 (pcells_one B U (fun u hu => by
      obtain ⟨j, hj, rfl⟩ := List.getElem_of_mem hu
      obtain ⟨s1, s2, _, _⟩ := h4 j (B[j]'(by omega)) U[j] (List.getElem?_eq_getElem (by omega)) (List.getElem?_eq_getElem hj)
      exact ⟨s1.one, s2.one⟩)) (by unfold maxLen; omega) (by omega) hbase
  have hf : Fr (fun k => v.ownBlock = some k) w w' := Fr.grown h6 (fun k e => e)
  refine ⟨v', w', hr, ⟨by simp [h.len, h1], by rw [pcells_append L B V U h.len, List.length_append, hm]; exact h5, fun k x u e1 e2 => ?_⟩, hf, h7⟩
  have key : StrsAt w u.1 x.old ∧ StrsAt w u.2 x.new ∧ Far v u.1 x.old ∧ Far v u.2 x.new := by
    rcases Nat.lt_or_ge k L.length with hk | hk
    · rw [List.getElem?_append_left hk] at e1
      rw [List.getElem?_append_left (by rw [h.len]; exact hk)] at e2
      exact h.str k x u e1 e2
    · rw [List.getElem?_append_right hk] at e1
      rw [List.getElem?_append_right (by rw [h.len]; exact hk), h.len] at e2
      exact h4 _ x u e1 e2
  obtain ⟨s1, s2, f1, f2⟩ := key
  refine ⟨s1.far hf (fun hl k e => f1 hl k e), s2.far hf (fun hl k e => f2 hl k e), fun hl k e e' => ?_, fun hl k e e' => ?_⟩
  · rcases h7 with h7 | h7
    · rw [h7] at e'; exact f1 hl k e e'
    · rw [h7] at e'; cases e'; exact Nat.lt_irrefl _ (s1.lt hl e)
  · rcases h7 with h7 | h7
    · rw [h7] at e'; exact f2 hl k e e'
    · rw [h7] at e'; cases e'; exact Nat.lt_irrefl _ (s2.lt hl e)

/-- 'append(l, b...)', l a row of patches of the call's own, b any slice that lay there ahead. -/
theorem OwnP.addAll {base : Nat} {w0 w : World} {v : Value} {L : List Pr} {V : List (Value × Value)} (h : OwnP base w v L V) {va : Option Addr} {n c : Nat} {B : List Pr} (hB : PrsAt w0 va B) (hn : B.length = n) (hc : va = none → c = 0) (f0 : Fr None' w0 w) (hb0 : w0.heap.size ≤ base) (hbase : base ≤ w.heap.size) (hlen : L.length + n ≤ 100000000) :
    ∃ v' U w', (Builtin.append_ #[34, 34] 34 #[v, .slice va n c]).run Tryz.prog w = .ok v' w' ∧ OwnP base w' v' (L ++ B) (V ++ U) ∧ Fr (fun k => v.ownBlock = some k) w w' := by
  cases va with
  | none =>
    obtain rfl := hc rfl
    cases B with
    | cons x B => obtain ⟨_, _, e, _⟩ := hB 0 x rfl; cases e
    | nil =>
      have hn0 : n = 0 := hn.symm
      subst hn0
      obtain ⟨i0, hi, _⟩ := info_parts infoP
      exact ⟨v, [], w, run_append_owned_none (P := Tryz.prog) (w := w) base 34 34 67 i0 7 Tryz.underlying34 hi v L.length (pcells L V) h.row, by simpa using h, Fr.refl _ _⟩
  | some ad =>
    obtain ⟨U, h1, h2, h4⟩ : ∃ U : List (Value × Value), U.length = B.length ∧ (∀ j u, (pcells B U)[j]? = some u → w0.cell? (ad.add j) = some u) ∧ ∀ (k : Nat) (x : Pr) (u : Value × Value), B[k]? = some x → U[k]? = some u → StrsAt w0 u.1 x.old ∧ StrsAt w0 u.2 x.new := by
      cases B with
      | nil => exact ⟨[], rfl, fun j v h => by simp [pcells] at h, fun k x u e => by simp at e⟩
      | cons x B =>
        obtain ⟨g, o, e, _⟩ := hB 0 x rfl
        cases e
        obtain ⟨U, h1, h2, h3⟩ := prs_cells (x :: B) o hB
        exact ⟨U, h1, fun j v h => by rw [show (⟨g, o, none⟩ : Addr).add j = ⟨g, o + j, none⟩ from Addr.add_lit ..]; exact h2 j v h, h3⟩
    obtain ⟨v', w', r1, r2, r3, _⟩ := h.append (c := c) hn h1 (fun j u hj => f0.keepCell (h2 j u hj) (fun e => e)) (fun k x u e1 e2 => by
      obtain ⟨s1, s2⟩ := h4 k x u e1 e2
      exact ⟨s1.kept f0, s2.kept f0, fun hl k e e' => by have := s1.lt hl e; have := (h.ge e').1; omega, fun hl k e e' => by have := s2.lt hl e; have := (h.ge e').1; omega⟩) hlen hbase
    exact ⟨v', U, w', r1, r2, r3⟩

/-- An empty row of no room. -/
theorem OwnP.empty {base : Nat} {w : World} (hb : base ≤ w.heap.size) : OwnP base (w.alloc (.cells #[] 67)) (.slice (some ⟨w.heap.size, 0, none⟩) 0 0) [] [] :=
  ⟨rfl, ⟨rfl, Or.inr ⟨w.heap.size, 0, #[], rfl, hb, heap_alloc_new w _, Nat.le_refl _, Nat.zero_le _, rfl, rfl⟩⟩, fun k x u e => by simp at e⟩

end Go.Proofs.YtbiilnhefoplkaaGreatDoor

namespace Go.Proofs.YtbiilnhefoplkaaGreatDoor
open Go.RowKit
set_option maxRecDepth 100000

theorem StrsAt.is {w : World} {v : Value} {l : List ByteArray} (h : StrsAt w v l) : ∃ pa ca, v = .slice pa l.length ca := by
  obtain ⟨pa, ca, e, _⟩ := h
  exact ⟨pa, ca, e⟩

end Go.Proofs.YtbiilnhefoplkaaGreatDoor

namespace Go.Proofs.YtbiilnhefoplkaaGreatDoor
open Go.RowKit
set_option maxRecDepth 100000

theorem rev_step {L : List Pr} {k : Nat} (hk : k < L.length) : (L.drop k).reverse.map inv = (L.drop (k + 1)).reverse.map inv ++ [inv L[k]] := by
  rw [List.drop_eq_getElem_cons hk, List.reverse_cons, List.map_append]
  rfl

theorem step_app9 {P : Program} {ops : Array Oper} {o : Oper} {a : Act} {w w' : World} {K : Act → World → Prop} {Q : Exit → Act → World → Prop} {E : Prop} {v : Value} {t : TypeId} (hgd : o.guard = none) (s x : Operand)
    (ho : o.op = .call { callee := .builtin .append, args := #[s, x], argTypes := #[t, t] }) {vs vx : Value} (hs : a.eval s = vs) (hx : a.eval x = vx) (hr : (Builtin.append_ #[t, t] o.type #[vs, vx]).run P w = .ok v w') (h : K (a.put o.dst v) w') :
    if Region.wanted o (yielded ops a.tmps) = true then Oper.wp P o a w K Q else E := by
  have hw : Region.wanted o (yielded ops a.tmps) = true := by simp [Region.wanted, hgd]
  rw [if_pos hw]
  unfold Oper.wp execOp
  simp only [ho, resolve, invoke, builtin, Sem.run_bind, Sem.run_pure, Result.andThen_ok, List.map_toArray, List.map_cons, List.map_nil, hs, hx, hr]
  exact h

theorem app_list9 {ops : Array Oper} {rest : List Oper} {o : Oper} {a : Act} {w w' : World} {Q : Exit → Act → World → Prop} {t : TypeId} (hgd : o.guard = none) (s x : Operand)
    (ho : o.op = .call { callee := .builtin .append, args := #[s, x], argTypes := #[t, t] }) {vs vx v : Value} (hs : a.eval s = vs) (hx : a.eval x = vx) (hr : (Builtin.append_ #[t, t] o.type #[vs, vx]).run Tryz.prog w = .ok v w')
    (h : wpList Tryz.prog ops Q rest (a.put o.dst v) w') : wpList Tryz.prog ops Q (o :: rest) a w := by
  refine wpList_plain hgd fun K hK => ?_
  unfold Oper.wp execOp
  simp only [ho, resolve, invoke, builtin, Sem.run_bind, Sem.run_pure, Result.andThen_ok, List.map_toArray, List.map_cons, List.map_nil, hs, hx, hr]
  exact hK _ _ h

/-- One patch more. -/
theorem OwnP.push {base : Nat} {w : World} {v : Value} {L : List Pr} {V : List (Value × Value)} (h : OwnP base w v L V) {b : Nat} {x : Pr} {vo vn : Value} (hb : Box w b (.int .i64 x.kind) (.string x.path) (.string x.dst) (.string x.src) (.int .i64 x.pos) vo vn) (s1 : StrsAt w vo x.old) (s2 : StrsAt w vn x.new) (f1 : Far v vo x.old) (f2 : Far v vn x.new) (hn : L.length ≤ 90000000) (hbase : base ≤ w.heap.size) :
    ∃ v' w', (Builtin.append_ #[34, 34] 34 #[v, .slice (some ⟨b, 0, none⟩) 1 1]).run Tryz.prog w = .ok v' w' ∧ OwnP base w' v' (L ++ [x]) (V ++ [(vo, vn)]) ∧ Fr (fun k => v.ownBlock = some k) w w' ∧ (v'.ownBlock = v.ownBlock ∨ v'.ownBlock = some w.heap.size) := by
  obtain ⟨c0, c1, c2, c3, c4, c5, c6⟩ := hb.cells
  refine h.append (ad := ⟨b, 0, none⟩) (B := [x]) (U := [(vo, vn)]) rfl rfl (fun j u hj => ?_) (fun k y u e1 e2 => ?_) (by omega) hbase
  · simp only [pcells, prCells, List.cons_append, List.nil_append] at hj
    rw [show (⟨b, 0, none⟩ : Addr).add j = ⟨b, 0 + j, none⟩ from Addr.add_lit .., Nat.zero_add]
    match j, hj with
    | 0, hj => simp at hj; subst hj; exact c0
    | 1, hj => simp at hj; subst hj; exact c1
    | 2, hj => simp at hj; subst hj; exact c2
    | 3, hj => simp at hj; subst hj; exact c3
    | 4, hj => simp at hj; subst hj; exact c4
    | 5, hj => simp at hj; subst hj; exact c5
    | 6, hj => simp at hj; subst hj; exact c6
    | j + 7, hj => simp at hj
  · have hk : k = 0 := by
      have := (List.getElem?_eq_some_iff.1 e1).1
      simpa using this
    subst hk
    simp at e1 e2
    subst e1 e2
    exact ⟨s1, s2, f1, f2⟩

end Go.Proofs.YtbiilnhefoplkaaGreatDoor

namespace Go.Proofs.YtbiilnhefoplkaaGreatDoor
open Go.RowKit
set_option maxRecDepth 100000

theorem results_two {fn : Func} {p q r : Tmp} (hres : fn.results = #[.cell p 67, .cell q 67, .tmp r]) (tmps : Array Value) {w : World} {b c : Nat} {y0 y1 y2 y3 y4 y5 y6 z0 z1 z2 z3 z4 z5 z6 : Value} (hp : tmps.getD p undef = .pointer (some ⟨b, 0, none⟩)) (hq : tmps.getD q undef = .pointer (some ⟨c, 0, none⟩)) (h : Box w b y0 y1 y2 y3 y4 y5 y6) (k : Box w c z0 z1 z2 z3 z4 z5 z6) :
    (results fn tmps).run Tryz.prog w = .ok (.tuple #[.agg #[y0, y1, y2, y3, y4, y5, y6], .agg #[z0, z1, z2, z3, z4, z5, z6], tmps.getD r undef]) w := by
  have hp' : tmps[p]?.getD undef = .pointer (some ⟨b, 0, none⟩) := by simpa using hp
  have hq' : tmps[q]?.getD undef = .pointer (some ⟨c, 0, none⟩) := by simpa using hq
  simp [results, hres, hp', hq', asAddr, h.load, k.load]

/-- Two patches and a bool are answered. -/
theorem ret_two {fn : Func} {p q r : Tmp} (hres : fn.results = #[.cell p 67, .cell q 67, .tmp r]) {Q : Ending → World → Prop} {a : Act} {w : World} {b c : Nat} {y0 y1 y2 y3 y4 y5 y6 z0 z1 z2 z3 z4 z5 z6 u : Value} (hd : a.defers = []) (hp : a.tmps.getD p undef = .pointer (some ⟨b, 0, none⟩)) (hq : a.tmps.getD q undef = .pointer (some ⟨c, 0, none⟩)) (hu : a.tmps.getD r undef = u) (h : Box w b y0 y1 y2 y3 y4 y5 y6) (k : Box w c z0 z1 z2 z3 z4 z5 z6)
    (hQ : Q (.returned (.tuple #[.agg #[y0, y1, y2, y3, y4, y5, y6], .agg #[z0, z1, z2, z3, z4, z5, z6], u])) w) : bodyPost Tryz.prog fn Q .ret a w := by
  subst hu
  exact bodyPost_ret (results_two hres _ hp hq h k) hd hQ

/-- The two boxes of an answer are set, in either order. -/
theorem two_set {w w3 W : World} {b c q : Nat} {x0 x1 x2 x3 x4 x5 x6 u0 u1 u2 u3 u4 u5 u6 : Value} (hf : Fr None' w w3) (hb : Box w3 b x0 x1 x2 x3 x4 x5 x6) (hc : Box w3 c u0 u1 u2 u3 u4 u5 u6) (f : Fr (fun k => k = q) w3 W) (hbq : ¬ b = q) (hcq : ¬ c = q) (hbc : ¬ b = c) (hwb : w.heap.size ≤ b) (hwc : w.heap.size ≤ c) (hwq : w.heap.size ≤ q) (y0 y1 y2 y3 y4 y5 y6 z0 z1 z2 z3 z4 z5 z6 : Value) :
    (Box (setP (setP W b y0 y1 y2 y3 y4 y5 y6) c z0 z1 z2 z3 z4 z5 z6) b y0 y1 y2 y3 y4 y5 y6 ∧ Box (setP (setP W b y0 y1 y2 y3 y4 y5 y6) c z0 z1 z2 z3 z4 z5 z6) c z0 z1 z2 z3 z4 z5 z6 ∧ Fr None' w (setP (setP W b y0 y1 y2 y3 y4 y5 y6) c z0 z1 z2 z3 z4 z5 z6)) :=
  ⟨((hb.fr f hbq).all y0 y1 y2 y3 y4 y5 y6).fr (Fr.setP (M := fun k => k = c) _ rfl _ _ _ _ _ _ _) hbc, (((hc.fr f hcq).fr (Fr.setP (M := fun k => k = b) W rfl y0 y1 y2 y3 y4 y5 y6) (fun e => hbc e.symm))).all _ _ _ _ _ _ _,
   ((hf.trans f (fun _ e => Or.inr (by omega))).trans (Fr.setP (M := fun k => k = b) W rfl _ _ _ _ _ _ _) (fun _ e => Or.inr (by omega))).trans (Fr.setP (M := fun k => k = c) _ rfl _ _ _ _ _ _ _) (fun _ e => Or.inr (by omega))⟩

/-- The two boxes of an answer are set. -/
theorem two_set0 {w W : World} {b c : Nat} {x0 x1 x2 x3 x4 x5 x6 u0 u1 u2 u3 u4 u5 u6 : Value} (hf : Fr None' w W) (hb : Box W b x0 x1 x2 x3 x4 x5 x6) (hc : Box W c u0 u1 u2 u3 u4 u5 u6) (hbc : ¬ b = c) (hwb : w.heap.size ≤ b) (hwc : w.heap.size ≤ c) (y0 y1 y2 y3 y4 y5 y6 z0 z1 z2 z3 z4 z5 z6 : Value) :
    (Box (setP (setP W b y0 y1 y2 y3 y4 y5 y6) c z0 z1 z2 z3 z4 z5 z6) b y0 y1 y2 y3 y4 y5 y6 ∧ Box (setP (setP W b y0 y1 y2 y3 y4 y5 y6) c z0 z1 z2 z3 z4 z5 z6) c z0 z1 z2 z3 z4 z5 z6 ∧ Fr None' w (setP (setP W b y0 y1 y2 y3 y4 y5 y6) c z0 z1 z2 z3 z4 z5 z6) ∧ Fr (fun k => k = b ∨ k = c) W (setP (setP W b y0 y1 y2 y3 y4 y5 y6) c z0 z1 z2 z3 z4 z5 z6)) :=
  ⟨(hb.all y0 y1 y2 y3 y4 y5 y6).fr (Fr.setP (M := fun k => k = c) _ rfl _ _ _ _ _ _ _) hbc, ((hc.fr (Fr.setP (M := fun k => k = b) W rfl y0 y1 y2 y3 y4 y5 y6) (fun e => hbc e.symm))).all _ _ _ _ _ _ _,
   (hf.trans (Fr.setP (M := fun k => k = b) W rfl _ _ _ _ _ _ _) (fun _ e => Or.inr (by omega))).trans (Fr.setP (M := fun k => k = c) _ rfl _ _ _ _ _ _ _) (fun _ e => Or.inr (by omega)),
   (Fr.setP (M := fun k => k = b ∨ k = c) W (Or.inl rfl) _ _ _ _ _ _ _).then (Fr.setP (M := fun k => k = b ∨ k = c) _ (Or.inr rfl) _ _ _ _ _ _ _)⟩

theorem Box.drew {w : World} {b : Nat} {y0 y1 y2 y3 y4 y5 y6 : Value} (h : Box w b y0 y1 y2 y3 y4 y5 y6) : Box w.drew b y0 y1 y2 y3 y4 y5 y6 := h

theorem drewN_box {w : World} {n b : Nat} {y0 y1 y2 y3 y4 y5 y6 : Value} (h : Box w b y0 y1 y2 y3 y4 y5 y6) : Box (w.drewN n) b y0 y1 y2 y3 y4 y5 y6 := h

end Go.Proofs.YtbiilnhefoplkaaGreatDoor
