/-
  What is proved here: the program's sha and the document's: sums and names. Conditions: as each theorem names them.
-/
import Derived.WalkKit
import Derived.WalkSpells
import Derived.Deep.OwnRows
import Derived.Deep.QuietTactic
import Derived.BigQuiet
import Derived.StillTailTactics
import Derived.Laws.Rows
import Derived.Laws.BitsLemmas
import Derived.Test.YtnmghgbpgpaomaaGreatProg
import Derived.Laws.CopyOwn
import Derived.Laws.ResultCell
import Derived.Deep.WholeRow
import Derived.BigRegion
import Derived.Laws.IdiomStrings
import Derived.ChangeKeysEq
import Derived.Laws.StructEq
import Derived.Maps.AppendAt
import Derived.Laws.AppendOwnNone
import Derived.OwnWalk
import Derived.Deep.AppendLies
import Derived.Deep.RegionHeld3
namespace Go.Proofs.YtnmghgbpgpaomaaGreat.Sha
open Go.RowKit

/-- w' is w but for the blocks that M names, and for new ones. -/
structure Fr (M : Nat → Prop) (w w' : World) : Prop where
  os : w'.os = w.os
  tape : w'.tape = w.tape
  output : w'.output = w.output
  size : w.heap.size ≤ w'.heap.size
  block : ∀ k, k < w.heap.size → ¬ M k → w'.heap[k]? = w.heap[k]?

def None' : Nat → Prop := fun _ => False

theorem Fr.refl (M : Nat → Prop) (w : World) : Fr M w w := ⟨rfl, rfl, rfl, Nat.le_refl _, fun _ _ _ => rfl⟩

theorem Fr.trans {M M' : Nat → Prop} {a b c : World} (h : Fr M a b) (k : Fr M' b c) (hs : ∀ i, M' i → M i ∨ a.heap.size ≤ i) : Fr M a c :=
  ⟨k.os.trans h.os, k.tape.trans h.tape, k.output.trans h.output, Nat.le_trans h.size k.size, fun i hi hm =>
    (k.block i (Nat.lt_of_lt_of_le hi h.size) (fun e => by rcases hs i e with h1 | h1; exact hm h1; omega)).trans (h.block i hi hm)⟩

theorem Fr.then {M : Nat → Prop} {a b c : World} (h : Fr M a b) (k : Fr M b c) : Fr M a c := h.trans k (fun _ e => Or.inl e)

theorem Fr.mono {M M' : Nat → Prop} {a b : World} (h : Fr M a b) (hs : ∀ i, M i → M' i) : Fr M' a b :=
  ⟨h.os, h.tape, h.output, h.size, fun i hi hm => h.block i hi (fun e => hm (hs i e))⟩

theorem Fr.any {M : Nat → Prop} {a b : World} (h : Fr None' a b) : Fr M a b := h.mono (fun _ e => e.elim)

theorem Fr.alloc (M : Nat → Prop) (w : World) (o : Obj) : Fr M w (w.alloc o) :=
  ⟨rfl, rfl, rfl, by simp, fun k hk _ => Below.heap_alloc _ _ _ hk⟩

theorem Fr.setCell {M : Nat → Prop} (w : World) {a : Addr} (ha : M a.block) (u : Value) : Fr M w (w.setCell a u) :=
  ⟨rfl, rfl, rfl, by simp [World.setCell], fun k _ hm => Below.heap_setCell _ _ _ _ (fun e => hm (e ▸ ha))⟩

theorem Fr.grown {M : Nat → Prop} {w w' : World} {row : Option Nat} (hg : w.grownBy w' row) (hr : ∀ k, row = some k → M k) : Fr M w w' :=
  ⟨hg.os, hg.tape, hg.output, hg.size, fun k hk hm => hg.block k hk (fun e => hm (hr k e.symm))⟩

theorem Fr.drewN (M : Nat → Prop) (w : World) (n : Nat) : Fr M w (w.drewN n) := ⟨rfl, rfl, rfl, Nat.le_refl _, fun _ _ _ => rfl⟩

theorem Fr.setRow {M : Nat → Prop} (w : World) {g : Nat} (hg : M g) (c : Array Value) : Fr M w (w.setRow g c) :=
  ⟨rfl, rfl, rfl, by simp [World.setRow], fun k _ hm => by
    have hne : g ≠ k := fun e => hm (e ▸ hg)
    simp only [World.setRow]
    rw [Array.getElem?_modify, if_neg hne]⟩

theorem Fr.at {M : Nat → Prop} {w w' : World} (h : Fr M w w') {k : Nat} {o : Obj} (ho : w.heap[k]? = some o) (hm : ¬ M k) : w'.heap[k]? = some o := by
  rw [h.block k (Array.getElem?_eq_some_iff.1 ho).1 hm]; exact ho

theorem Fr.below {M : Nat → Prop} {w w' : World} (h : Fr M w w') {B : Nat} (hB : B ≤ w.heap.size) (hM : ∀ k, M k → B ≤ k) : Below B w w' :=
  ⟨h.os, h.tape, h.output, h.size, fun k hk => h.block k (by omega) (fun e => by have := hM k e; omega)⟩

theorem cell_lt {w : World} {a : Addr} {v : Value} (h : w.cell? a = some v) : a.block < w.heap.size := by
  rcases Nat.lt_or_ge a.block w.heap.size with h1 | h1
  · exact h1
  · rw [World.cell?, Array.getElem?_eq_none h1] at h; cases h

theorem Fr.cell {M : Nat → Prop} {w w' : World} (h : Fr M w w') {a : Addr} {v : Value} (hc : w.cell? a = some v) (hm : ¬ M a.block) : w'.cell? a = some v := by
  have := h.block a.block (cell_lt hc) hm
  unfold World.cell? at hc ⊢
  rw [this]; exact hc

theorem Fr.rowIs {M : Nat → Prop} {w w' : World} (h : Fr M w w') {b : Nat} {t : TypeId} {n : Nat} {f : Nat → Value} (hr : w.rowIs b t n f) (hm : ¬ M b) : w'.rowIs b t n f := hr.of_block (h.block b hr.lt hm)

/-- A region that draws its order and whose first n operations only read. -/
theorem region_tail {P : Program} {id : Nat} {Q : Exit → Act → World → Prop} {a : Act} {w : World} {l : List Oper} (n : Nat) (hm : P.follows .mixedOrders = true) (hB : Region.lexTailB .any l.toArray n = true)
    (h : wpStill P l.toArray w.drew (fun a' => wpList P l.toArray Q (l.drop n) a' w.drew) (l.take n) a) : (Code.region id l.toArray true).wp P Q a w := wp_region_still_tail n hm hB h

/-- n cells, cell i holding f i. -/
def arr (n : Nat) (f : Nat → Value) : Array Value := Array.ofFn (fun i : Fin n => f i)

theorem arr_size (n : Nat) (f : Nat → Value) : (arr n f).size = n := by simp [arr]

theorem arr_get (n : Nat) (f : Nat → Value) {i : Nat} (hi : i < n) : (arr n f)[i]? = some (f i) := by
  unfold arr
  rw [Array.getElem?_eq_getElem (by simpa using hi)]
  simp

theorem eq_arr {n : Nat} {f : Nat → Value} {c : Array Value} (hn : c.size = n) (hc : ∀ i, i < n → c[i]? = some (f i)) : c = arr n f := by
  apply Array.ext_getElem?
  intro i
  by_cases hi : i < n
  · rw [hc i hi, arr_get n f hi]
  · rw [Array.getElem?_eq_none (by omega), Array.getElem?_eq_none (by rw [arr_size]; omega)]

theorem rowIs_block {w : World} {b : Nat} {t : TypeId} {n : Nat} {f : Nat → Value} (h : w.rowIs b t n f) : w.heap[b]? = some (.cells (arr n f) t (0, 0)) := by
  obtain ⟨c, hb, hn, hc⟩ := h
  rw [hb, eq_arr hn hc]

theorem rowIs_of {w : World} {b : Nat} {t : TypeId} {n : Nat} {f : Nat → Value} (h : w.heap[b]? = some (.cells (arr n f) t (0, 0))) : w.rowIs b t n f := ⟨_, h, arr_size _ _, fun _ hi => arr_get n f hi⟩

theorem setRow_at {w : World} {g : Nat} {c c' : Array Value} {t : TypeId} (h : w.heap[g]? = some (.cells c t (0, 0))) : (w.setRow g c').heap[g]? = some (.cells c' t (0, 0)) := by
  simp only [World.setRow]
  rw [Array.getElem?_modify]
  simp [h]

theorem rowIs_setRow {w : World} {g : Nat} {t : TypeId} {n : Nat} {f g' : Nat → Value} (h : w.rowIs g t n f) : (w.setRow g (arr n g')).rowIs g t n g' :=
  rowIs_of (setRow_at (rowIs_block h))

/-- A new block that a whole row is stored into. -/
theorem new_row {w w' : World} {c : Array Value} {t : TypeId} {n : Nat} {f : Nat → Value} (_hc : c.size = n) (h : (w.alloc (.cells c t (0, 0))).setRow w.heap.size (arr n f) = w') : w'.rowIs w.heap.size t n f ∧ Fr None' w w' := by
  have e : (w.alloc (.cells c t (0, 0))).heap[w.heap.size]? = some (.cells c t (0, 0)) := heap_alloc_new w _
  subst h
  refine ⟨rowIs_of (setRow_at e), (Fr.alloc None' w _).trans (Fr.setRow (M := fun i => i = w.heap.size) _ rfl _) (fun i e => Or.inr (by omega))⟩

theorem arr_one {n : Nat} {f : Nat → Value} (h : ∀ i, i < n → (f i).oneCell' = true) : (arr n f).all (·.oneCell') = true := by
  rw [Array.all_eq_true_iff_forall_mem]
  intro v hv
  obtain ⟨i, hi, rfl⟩ := Array.getElem_of_mem hv
  have hi' : i < n := by simpa [arr] using hi
  simpa [arr] using h i hi'

/-- A whole array out of a row, into a row, and out of the answer's row. -/
theorem load_arr {P : Program} {ops : Array Oper} {rest : List Oper} {o : Oper} {a : Act} {w : World} {Q : Exit → Act → World → Prop} {ty e : TypeId} {n : Nat} (hu : P.underlying ty = some (.array n e)) (hi : (P.info? ty).map (·.size) = some n)
    (g : Nat) {t : TypeId} {f : Nat → Value} (hr : w.rowIs g t n f) (x : Operand) (ho : o.op = .load ty x) (hgd : o.guard = none) (hx : a.eval x = .pointer (some ⟨g, 0, none⟩))
    (h : wpList P ops Q rest (a.put o.dst (.agg (arr n f))) w) : wpList P ops Q (o :: rest) a w :=
  wpList_load_row hgd ty x ho g hx t _ (0, 0) _ (rowIs_block hr) hu rfl (by rw [arr_size]; exact hi) h

theorem store_arr {P : Program} {ops : Array Oper} {rest : List Oper} {o : Oper} {a : Act} {w : World} {Q : Exit → Act → World → Prop} {ty : TypeId} {n : Nat} (hi : (P.info? ty).map (·.size) = some n)
    (g : Nat) {t : TypeId} {f0 f : Nat → Value} (hr : w.rowIs g t n f0) (h1 : ∀ i, i < n → (f i).oneCell' = true) (x y : Operand) (ho : o.op = .store ty x y) (hgd : o.guard = none) (hx : a.eval x = .pointer (some ⟨g, 0, none⟩)) (hy : a.eval y = .agg (arr n f)) (hd : o.dst = none)
    (h : wpList P ops Q rest a (w.setRow g (arr n f))) : wpList P ops Q (o :: rest) a w :=
  wpList_store_row hgd ty x y ho g _ hx hy t _ (rowIs_block hr) (by rw [arr_size]; exact hi) (by rw [arr_size, arr_size]) (arr_one h1) (by rw [hd]; exact h)

theorem result_arr {P : Program} {fn : Func} {p : Tmp} {ty e : TypeId} {n : Nat} (hu : P.underlying ty = some (.array n e)) (hi : (P.info? ty).map (·.size) = some n) (h : fn.results = #[.cell p ty]) (tmps : Array Value) {w : World} {g : Nat} {t : TypeId} {f : Nat → Value}
    (hp : tmps.getD p undef = .pointer (some ⟨g, 0, none⟩)) (hr : w.rowIs g t n f) : (results fn tmps).run P w = .ok (.agg (arr n f)) w :=
  results_cell_row h tmps w g t _ (0, 0) _ hp (rowIs_block hr) hu rfl (by rw [arr_size]; exact hi)

/-- Numbers of 32 bits in a row; bytes in a row. -/
def n32 (f : Nat → Int) : Nat → Value := fun i => .int .u32 (f i)
def n8 (f : Nat → Int) : Nat → Value := fun i => .int .u8 (f i)

end Go.Proofs.YtnmghgbpgpaomaaGreat.Sha

namespace Go.Proofs.YtnmghgbpgpaomaaGreat.Sha

/-- r(x, n). -/
def rotr (x : Int) (n : Nat) : Int := bits .or .u32 (x / 2 ^ n) (IntKind.u32.wrap (x * 2 ^ (32 - n)))

/-- A number of four bytes, the highest first. -/
def word4 (x0 x1 x2 x3 : Int) : Int :=
  bits .or .u32 (bits .or .u32 (bits .or .u32 (IntKind.u32.wrap (IntKind.u32.wrap x0 * 16777216)) (IntKind.u32.wrap (IntKind.u32.wrap x1 * 65536))) (IntKind.u32.wrap (IntKind.u32.wrap x2 * 256))) (IntKind.u32.wrap x3)

def xor32 (x y : Int) : Int := bits .xor .u32 x y
def and32 (x y : Int) : Int := bits .and .u32 x y

def s0 (x : Int) : Int := xor32 (xor32 (rotr x 7) (rotr x 18)) (x / 8)
def s1 (y : Int) : Int := xor32 (xor32 (rotr y 17) (rotr y 19)) (y / 1024)

/-- One number more of W, of those that are there. -/
def wNext (m : Nat → Int) (l : List Int) (i : Nat) : Int :=
  if i < 16 then word4 (m (4 * i)) (m (4 * i + 1)) (m (4 * i + 2)) (m (4 * i + 3))
  else (l.getD (i - 16) 0 + s0 (l.getD (i - 15) 0) + l.getD (i - 7) 0 + s1 (l.getD (i - 2) 0)) % 4294967296

/-- The first n numbers of W, of the bytes m. -/
def wList (m : Nat → Int) : Nat → List Int
  | 0 => []
  | n + 1 => wList m n ++ [wNext m (wList m n) n]

/-- W(i). -/
def W (m : Nat → Int) (i : Nat) : Int := wNext m (wList m i) i

theorem wList_length (m : Nat → Int) : ∀ n, (wList m n).length = n
  | 0 => rfl
  | n + 1 => by simp [wList, wList_length m n]

theorem wList_getD (m : Nat → Int) (j : Nat) : ∀ n, j < n → (wList m n).getD j 0 = W m j
  | 0, h => by omega
  | n + 1, h => by
    simp only [wList]
    by_cases e : j = n
    · subst e
      rw [List.getD_eq_getElem?_getD, List.getElem?_append_right (by rw [wList_length]; omega), wList_length]
      simp [W]
    · rw [List.getD_eq_getElem?_getD, List.getElem?_append_left (by rw [wList_length]; omega), ← List.getD_eq_getElem?_getD]
      exact wList_getD m j n (by omega)

theorem W_low (m : Nat → Int) (i : Nat) (h : i < 16) : W m i = word4 (m (4 * i)) (m (4 * i + 1)) (m (4 * i + 2)) (m (4 * i + 3)) := by
  unfold W wNext
  rw [if_pos h]

theorem W_high (m : Nat → Int) (i : Nat) (h : 16 ≤ i) : W m i = (W m (i - 16) + s0 (W m (i - 15)) + W m (i - 7) + s1 (W m (i - 2))) % 4294967296 := by
  rw [W, wNext, if_neg (by omega), wList_getD m _ i (by omega), wList_getD m _ i (by omega), wList_getD m _ i (by omega), wList_getD m _ i (by omega)]

/-- The eight numbers. -/
structure V8 where
  a : Int
  b : Int
  c : Int
  d : Int
  e : Int
  f : Int
  g : Int
  h : Int

def V8.at (x : V8) (i : Nat) : Int :=
  match i with
  | 0 => x.a | 1 => x.b | 2 => x.c | 3 => x.d | 4 => x.e | 5 => x.f | 6 => x.g | _ => x.h

def V8.of (v : Nat → Int) : V8 := ⟨v 0, v 1, v 2, v 3, v 4, v 5, v 6, v 7⟩

theorem V8.at_of (v : Nat → Int) {i : Nat} (hi : i < 8) : (V8.of v).at i = v i := by
  have : i = 0 ∨ i = 1 ∨ i = 2 ∨ i = 3 ∨ i = 4 ∨ i = 5 ∨ i = 6 ∨ i = 7 := by omega
  rcases this with rfl | rfl | rfl | rfl | rfl | rfl | rfl | rfl <;> rfl

def tOf (k w : Int) (x : V8) : Int :=
  (x.h + xor32 (xor32 (rotr x.e 6) (rotr x.e 11)) (rotr x.e 25) + xor32 (and32 x.e x.f) (and32 (xor32 IntKind.u32.max x.e) x.g) + k + w) % 4294967296

def uOf (x : V8) : Int :=
  (xor32 (xor32 (rotr x.a 2) (rotr x.a 13)) (rotr x.a 22) + xor32 (xor32 (and32 x.a x.b) (and32 x.a x.c)) (and32 x.b x.c)) % 4294967296

/-- One round. -/
def rnd (k w : Int) (x : V8) : V8 := ⟨(tOf k w x + uOf x) % 4294967296, x.a, x.b, x.c, (x.d + tOf k w x) % 4294967296, x.e, x.f, x.g⟩

/-- n rounds. -/
def rnds (k w : Nat → Int) (x : V8) : Nat → V8
  | 0 => x
  | n + 1 => rnd (k n) (w n) (rnds k w x n)

/-- The eight numbers behind a block of the bytes m. -/
def blk (k m : Nat → Int) (v : Nat → Int) (i : Nat) : Int := (v i + (rnds k (W m) (V8.of v) 64).at i) % 4294967296

/-- Byte j of a number, the highest first; four bytes laid at o. -/
def bt (x : Int) (j : Nat) : Int := match j with | 0 => x / 16777216 % 256 | 1 => x / 65536 % 256 | 2 => x / 256 % 256 | _ => x % 256

def put4 (o : Nat) (x : Int) (f : Nat → Value) (i : Nat) : Value := if o ≤ i ∧ i < o + 4 then .int .u8 (bt x (i - o)) else f i

theorem put4_eq (o : Nat) (x : Int) (f : Nat → Value) (i : Nat) : (if i = o + 3 then Value.int .u8 (x % 256) else if i = o + 2 then Value.int .u8 (x / 256 % 256) else if i = o + 1 then Value.int .u8 (x / 65536 % 256) else if i = o then Value.int .u8 (x / 16777216 % 256) else f i) = put4 o x f i := by
  unfold put4
  by_cases h : o ≤ i ∧ i < o + 4
  · rw [if_pos h]
    have : i = o ∨ i = o + 1 ∨ i = o + 2 ∨ i = o + 3 := by omega
    rcases this with rfl | rfl | rfl | rfl <;> simp [bt]
  · rw [if_neg h, if_neg (by omega), if_neg (by omega), if_neg (by omega), if_neg (by omega)]

/-- The bytes of the end: of n bytes m, and the length L of all. -/
def lastSize (n : Nat) : Nat := if n ≤ 55 then 64 else 128

def lastF (n : Nat) (m : Nat → Int) (L : Int) : Nat → Value :=
  put4 (lastSize n - 4) (8 * L % 18446744073709551616 % 4294967296) (put4 (lastSize n - 8) (8 * L % 18446744073709551616 / 4294967296 % 4294967296) (fun i => if i = n then .int .u8 128 else if i < n then .int .u8 (m i) else .int .u8 0))

/-- The eight numbers at first; K. -/
def iv (i : Nat) : Int := [0x6a09e667, 0xbb67ae85, 0x3c6ef372, 0xa54ff53a, 0x510e527f, 0x9b05688c, 0x1f83d9ab, 0x5be0cd19].getD i 0

def kc (i : Nat) : Int := [
  0x428a2f98, 0x71374491, 0xb5c0fbcf, 0xe9b5dba5, 0x3956c25b, 0x59f111f1, 0x923f82a4, 0xab1c5ed5,
  0xd807aa98, 0x12835b01, 0x243185be, 0x550c7dc3, 0x72be5d74, 0x80deb1fe, 0x9bdc06a7, 0xc19bf174,
  0xe49b69c1, 0xefbe4786, 0x0fc19dc6, 0x240ca1cc, 0x2de92c6f, 0x4a7484aa, 0x5cb0a9dc, 0x76f988da,
  0x983e5152, 0xa831c66d, 0xb00327c8, 0xbf597fc7, 0xc6e00bf3, 0xd5a79147, 0x06ca6351, 0x14292967,
  0x27b70a85, 0x2e1b2138, 0x4d2c6dfc, 0x53380d13, 0x650a7354, 0x766a0abb, 0x81c2c92e, 0x92722c85,
  0xa2bfe8a1, 0xa81a664b, 0xc24b8b70, 0xc76c51a3, 0xd192e819, 0xd6990624, 0xf40e3585, 0x106aa070,
  0x19a4c116, 0x1e376c08, 0x2748774c, 0x34b0bcb5, 0x391c0cb3, 0x4ed8aa4a, 0x5b9cca4f, 0x682e6ff3,
  0x748f82ee, 0x78a5636f, 0x84c87814, 0x8cc70208, 0x90befffa, 0xa4506ceb, 0xbef9a3f7, 0xc67178f2].getD i 0

/-- The eight numbers behind n blocks of the bytes m. -/
def blks (k m : Nat → Int) (v : Nat → Int) : Nat → Nat → Int
  | 0 => v
  | n + 1 => blk k (fun i => m (64 * n + i)) (blks k m v n)

theorem or_comm32 (x y : Int) : bits .or .u32 x y = bits .or .u32 y x := by
  unfold bits
  simp only
  rw [BitVec.or_comm]

theorem neg31 : ∀ n : Fin 32, n ≠ 0 → bits .and .u64 ((-(n.val : Int)) % 18446744073709551616) 31 = 32 - (n.val : Int) := by decide +kernel

end Go.Proofs.YtnmghgbpgpaomaaGreat.Sha

namespace Go.Proofs.YtnmghgbpgpaomaaGreat.Sha
set_option maxRecDepth 100000

theorem info64 : (Tryz.prog.info? 99).map (·.size) = some 64 := by kernel_rfl
theorem info8 : (Tryz.prog.info? 101).map (·.size) = some 8 := by kernel_rfl
theorem info32 : (Tryz.prog.info? 71).map (·.size) = some 32 := by kernel_rfl
theorem info128 : (Tryz.prog.info? 119).map (·.size) = some 128 := by kernel_rfl
theorem infoN64 : (Tryz.prog.info? 105).map (·.size) = some 64 := by kernel_rfl
theorem mixed : Tryz.prog.follows .mixedOrders = true := by kernel_rfl

theorem rotl_any (x : Int) (n : Nat) (h0 : 0 < n) (hn : n < 32) (w : World) : Calls Tryz.prog 118 #[.int .u32 x, .int .i64 (-n)] w fun e w' => e = .returned (.int .u32 (rotr x n)) ∧ w = w' := by
  have e31 : bits .and .u64 (IntKind.u64.wrap (-(n : Int))) 31 = 32 - (n : Int) := by
    have := neg31 ⟨n, hn⟩ (by intro h; cases h; omega)
    simpa [IntKind.wrap, IntKind.bits, IntKind.signed] using this
  have hR : rotr x n = bits .or .u32 (IntKind.u32.wrap (x * 2 ^ (32 - n))) (x / 2 ^ n) := or_comm32 _ _
  have e1 : (32 - (n : Int)).toNat = 32 - n := by omega
  have hsl : Op.shift .shl .u32 x .u64 (32 - (n : Int)) = pure (.int .u32 (IntKind.u32.wrap (x * 2 ^ (32 - n)))) := by rw [shift_shl .u32 .u64 x _ (by omega) (by show _ ≤ (32 : Int); omega), e1]
  have e2 : (32 - (32 - (n : Int))) = n := by omega
  have e3 : IntKind.u64.wrap (32 - (32 - (n : Int))) = n := by rw [e2]; simp [IntKind.wrap, IntKind.bits, IntKind.signed]; omega
  have hsr : Op.shift .shr .u32 x .u64 (n : Int) = pure (.int .u32 (x / 2 ^ n)) := by rw [shift_shr .u32 .u64 x _ (by omega) (by show _ ≤ (32 : Int); omega)]; rfl
  rw [hR]
  clear hR e1 e2
  go_enter Tryz.func118, Tryz.ntmps118
  go_wp2
  go_ret
  exact ⟨rfl, rfl⟩

theorem right_any (x : Int) (n : Nat) (h0 : 0 < n) (hn : n < 32) (w : World) : Calls Tryz.prog 111 #[.int .u32 x, .int .i64 n] w fun e w' => e = .returned (.int .u32 (rotr x n)) ∧ w = w' := by
  have hc := rotl_any x n h0 hn w
  have hn' : (n : Int) < 32 := by omega
  clear hn
  go_enter Tryz.func111, Tryz.ntmps111
  go_wp2_with fail
  refine hc.mono ?_
  rintro e w' ⟨rfl, rfl⟩
  go_wp2
  go_ret
  exact ⟨rfl, rfl⟩

theorem right_q (x : Int) (n : Nat) (h0 : 0 < n) (hn : n < 32) {w : World} {k : Nat} : Calls Tryz.prog 111 #[.int .u32 x, .int .i64 n] (w.drewN k) fun e w' => e = .returned (.int .u32 (rotr x n)) ∧ ∃ m, w' = w.drewN m :=
  (right_any x n h0 hn _).mono fun _ _ h => ⟨h.1, k, h.2.symm⟩

theorem turned_any (x : Int) (n : Nat) (h0 : 0 < n) (hn : n < 32) (w : World) : Calls Tryz.prog 69 #[.int .u32 x, .int .i64 n] w fun e w' => e = .returned (.int .u32 (rotr x n)) ∧ ∃ k, w' = w.drewN k := by
  have e1 : (32 - (n : Int)).toNat = 32 - n := by omega
  have hsl : Op.shift .shl .u32 x .i64 (32 - (n : Int)) = pure (.int .u32 (IntKind.u32.wrap (x * 2 ^ (32 - n)))) := by rw [shift_shl .u32 .i64 x _ (by omega) (by show _ ≤ (32 : Int); omega), e1]
  have hsr : Op.shift .shr .u32 x .i64 (n : Int) = pure (.int .u32 (x / 2 ^ n)) := by rw [shift_shr .u32 .i64 x _ (by omega) (by show _ ≤ (32 : Int); omega)]; rfl
  have e3 : IntKind.i64.wrap (32 - (n : Int)) = 32 - n := by rw [IntKind.wrap_i64]; omega
  clear hn e1
  unfold rotr
  go_enter Tryz.func69, Tryz.ntmps69
  go_wp2_with fail
  go_quiet (fail)
  go_wp2
  go_ret
  exact ⟨rfl, ⟨_, rfl⟩⟩

theorem turned_q (x : Int) (n : Nat) (h0 : 0 < n) (hn : n < 32) {w : World} {k : Nat} : Calls Tryz.prog 69 #[.int .u32 x, .int .i64 n] (w.drewN k) fun e w' => e = .returned (.int .u32 (rotr x n)) ∧ ∃ m, w' = w.drewN m :=
  Calls.quiet_of (turned_any x n h0 hn _)

theorem right_q2 (x : Int) {w : World} {k : Nat} : Calls Tryz.prog 111 #[.int .u32 x, .int .i64 2] (w.drewN k) fun e w' => e = .returned (.int .u32 (rotr x 2)) ∧ ∃ m, w' = w.drewN m := right_q x 2 (by omega) (by omega)
theorem right_q6 (x : Int) {w : World} {k : Nat} : Calls Tryz.prog 111 #[.int .u32 x, .int .i64 6] (w.drewN k) fun e w' => e = .returned (.int .u32 (rotr x 6)) ∧ ∃ m, w' = w.drewN m := right_q x 6 (by omega) (by omega)
theorem right_q7 (x : Int) {w : World} {k : Nat} : Calls Tryz.prog 111 #[.int .u32 x, .int .i64 7] (w.drewN k) fun e w' => e = .returned (.int .u32 (rotr x 7)) ∧ ∃ m, w' = w.drewN m := right_q x 7 (by omega) (by omega)
theorem right_q11 (x : Int) {w : World} {k : Nat} : Calls Tryz.prog 111 #[.int .u32 x, .int .i64 11] (w.drewN k) fun e w' => e = .returned (.int .u32 (rotr x 11)) ∧ ∃ m, w' = w.drewN m := right_q x 11 (by omega) (by omega)
theorem right_q13 (x : Int) {w : World} {k : Nat} : Calls Tryz.prog 111 #[.int .u32 x, .int .i64 13] (w.drewN k) fun e w' => e = .returned (.int .u32 (rotr x 13)) ∧ ∃ m, w' = w.drewN m := right_q x 13 (by omega) (by omega)
theorem right_q17 (x : Int) {w : World} {k : Nat} : Calls Tryz.prog 111 #[.int .u32 x, .int .i64 17] (w.drewN k) fun e w' => e = .returned (.int .u32 (rotr x 17)) ∧ ∃ m, w' = w.drewN m := right_q x 17 (by omega) (by omega)
theorem right_q18 (x : Int) {w : World} {k : Nat} : Calls Tryz.prog 111 #[.int .u32 x, .int .i64 18] (w.drewN k) fun e w' => e = .returned (.int .u32 (rotr x 18)) ∧ ∃ m, w' = w.drewN m := right_q x 18 (by omega) (by omega)
theorem right_q19 (x : Int) {w : World} {k : Nat} : Calls Tryz.prog 111 #[.int .u32 x, .int .i64 19] (w.drewN k) fun e w' => e = .returned (.int .u32 (rotr x 19)) ∧ ∃ m, w' = w.drewN m := right_q x 19 (by omega) (by omega)
theorem right_q22 (x : Int) {w : World} {k : Nat} : Calls Tryz.prog 111 #[.int .u32 x, .int .i64 22] (w.drewN k) fun e w' => e = .returned (.int .u32 (rotr x 22)) ∧ ∃ m, w' = w.drewN m := right_q x 22 (by omega) (by omega)
theorem right_q25 (x : Int) {w : World} {k : Nat} : Calls Tryz.prog 111 #[.int .u32 x, .int .i64 25] (w.drewN k) fun e w' => e = .returned (.int .u32 (rotr x 25)) ∧ ∃ m, w' = w.drewN m := right_q x 25 (by omega) (by omega)
theorem turned_q2 (x : Int) {w : World} {k : Nat} : Calls Tryz.prog 69 #[.int .u32 x, .int .i64 2] (w.drewN k) fun e w' => e = .returned (.int .u32 (rotr x 2)) ∧ ∃ m, w' = w.drewN m := turned_q x 2 (by omega) (by omega)
theorem turned_q6 (x : Int) {w : World} {k : Nat} : Calls Tryz.prog 69 #[.int .u32 x, .int .i64 6] (w.drewN k) fun e w' => e = .returned (.int .u32 (rotr x 6)) ∧ ∃ m, w' = w.drewN m := turned_q x 6 (by omega) (by omega)
theorem turned_q7 (x : Int) {w : World} {k : Nat} : Calls Tryz.prog 69 #[.int .u32 x, .int .i64 7] (w.drewN k) fun e w' => e = .returned (.int .u32 (rotr x 7)) ∧ ∃ m, w' = w.drewN m := turned_q x 7 (by omega) (by omega)
theorem turned_q11 (x : Int) {w : World} {k : Nat} : Calls Tryz.prog 69 #[.int .u32 x, .int .i64 11] (w.drewN k) fun e w' => e = .returned (.int .u32 (rotr x 11)) ∧ ∃ m, w' = w.drewN m := turned_q x 11 (by omega) (by omega)
theorem turned_q13 (x : Int) {w : World} {k : Nat} : Calls Tryz.prog 69 #[.int .u32 x, .int .i64 13] (w.drewN k) fun e w' => e = .returned (.int .u32 (rotr x 13)) ∧ ∃ m, w' = w.drewN m := turned_q x 13 (by omega) (by omega)
theorem turned_q17 (x : Int) {w : World} {k : Nat} : Calls Tryz.prog 69 #[.int .u32 x, .int .i64 17] (w.drewN k) fun e w' => e = .returned (.int .u32 (rotr x 17)) ∧ ∃ m, w' = w.drewN m := turned_q x 17 (by omega) (by omega)
theorem turned_q18 (x : Int) {w : World} {k : Nat} : Calls Tryz.prog 69 #[.int .u32 x, .int .i64 18] (w.drewN k) fun e w' => e = .returned (.int .u32 (rotr x 18)) ∧ ∃ m, w' = w.drewN m := turned_q x 18 (by omega) (by omega)
theorem turned_q19 (x : Int) {w : World} {k : Nat} : Calls Tryz.prog 69 #[.int .u32 x, .int .i64 19] (w.drewN k) fun e w' => e = .returned (.int .u32 (rotr x 19)) ∧ ∃ m, w' = w.drewN m := turned_q x 19 (by omega) (by omega)
theorem turned_q22 (x : Int) {w : World} {k : Nat} : Calls Tryz.prog 69 #[.int .u32 x, .int .i64 22] (w.drewN k) fun e w' => e = .returned (.int .u32 (rotr x 22)) ∧ ∃ m, w' = w.drewN m := turned_q x 22 (by omega) (by omega)
theorem turned_q25 (x : Int) {w : World} {k : Nat} : Calls Tryz.prog 69 #[.int .u32 x, .int .i64 25] (w.drewN k) fun e w' => e = .returned (.int .u32 (rotr x 25)) ∧ ∃ m, w' = w.drewN m := turned_q x 25 (by omega) (by omega)

theorem word_any (b : Nat) (o len cap : Nat) (x0 x1 x2 x3 : Int) (w : World) (hl : 4 ≤ len)
  (c0 : w.cell? ⟨b, o, none⟩ = some (.int .u8 x0)) (c1 : w.cell? ⟨b, o + 1, none⟩ = some (.int .u8 x1)) (c2 : w.cell? ⟨b, o + 2, none⟩ = some (.int .u8 x2)) (c3 : w.cell? ⟨b, o + 3, none⟩ = some (.int .u8 x3)) :
   Calls Tryz.prog 117 #[.slice (some ⟨b, o, none⟩) len cap] w fun e w' => e = .returned (.int .u32 (word4 x0 x1 x2 x3)) ∧ ∃ k, w' = w.drewN k := by
  have l0 : (0 : Int) < (len : Int) := by omega
  have l1 : (1 : Int) < (len : Int) := by omega
  have l2 : (2 : Int) < (len : Int) := by omega
  have l3 : (3 : Int) < (len : Int) := by omega
  have l00 : 0 < len := by omega
  clear hl
  go_enter Tryz.func117, Tryz.ntmps117
  go_wp2_with fail
  go_quiet (fail)
  go_wp2
  go_ret
  exact ⟨rfl, ⟨_, rfl⟩⟩

end Go.Proofs.YtnmghgbpgpaomaaGreat.Sha

namespace Go.Proofs.YtnmghgbpgpaomaaGreat.Sha
open Go.RowKit
set_option maxRecDepth 100000

theorem spread_any (b : Nat) (o len cap : Nat) (m : Nat → Int) (w : World) (hl : 64 ≤ len) (hcap : len ≤ cap)
  (hc : ∀ i : Nat, i < 64 → w.cell? ⟨b, o + i, none⟩ = some (.int .u8 (m i))) :
   Calls Tryz.prog 110 #[.slice (some ⟨b, o, none⟩) len cap] w fun e w' => e = .returned (.agg (arr 64 (n32 (W m)))) ∧ Fr None' w w' := by
  go_enter Tryz.func110, Tryz.ntmps110
  go_wp2_with fail
  generalize hw1 : World.alloc (World.alloc w _) _ = w1
  have r0 : w1.rowIs w.heap.size 99 64 (n32 fun _ => 0) := by
    rw [← hw1]; exact rowIs_of (heap_alloc2_old w _ _)
  have r1 : w1.rowIs (w.heap.size + 1) 99 64 (n32 fun _ => 0) := by
    rw [← hw1]; exact rowIs_of (heap_alloc2_new w _ _)
  have f1 : Fr None' w w1 := by
    rw [← hw1]; exact (Fr.alloc _ w _).then (Fr.alloc _ _ _)
  clear hw1
  go_loopw [10] (fun i wr => ∃ k : Nat, k ≤ 16 ∧ i = .int .i64 k ∧ wr.rowIs w.heap.size 99 64 (n32 fun _ => 0) ∧ wr.rowIs (w.heap.size + 1) 99 64 (n32 fun j => if j < k then W m j else 0) ∧ Fr None' w wr) (fun i _ => 16 - (intOf i).toNat)
  case atStart => exact ⟨0, by omega, rfl, r0, r1.congr (fun i _ => by simp [n32]), f1⟩
  case round =>
    obtain ⟨k, hk, rfl, q0, q1, fr⟩ := hrel
    clear r0 r1 f1
    by_cases hlt : k < 16
    · have i0 : (k : Int) < 16 := by omega
      have c0 := fr.cell (hc (4 * k) (by omega)) id
      have c1 := fr.cell (hc (4 * k + 1) (by omega)) id
      have c2 := fr.cell (hc (4 * k + 2) (by omega)) id
      have c3 := fr.cell (hc (4 * k + 3) (by omega)) id
      have hw := word_any b (o + 4 * k) (len - 4 * k) (cap - 4 * k) _ _ _ _ _ (by omega) c0 c1 c2 c3
      have z := q1.cell (i := k) (by omega)
      have zf := q1.frozen k
      have l1 : (4 * (k : Int)) ≤ (len : Int) := by omega
      have l2 : (len : Int) ≤ (cap : Int) := by omega
      clear hc
      go_wp2_with fail
      refine hw.mono ?_
      rintro e w2 ⟨rfl, nd, rfl⟩
      have q0' : (wr.drewN nd).rowIs w.heap.size 99 64 (n32 fun _ => 0) := q0
      have q1' : (wr.drewN nd).rowIs (w.heap.size + 1) 99 64 (n32 fun j => if j < k then W m j else 0) := q1
      have fr' : Fr None' w (wr.drewN nd) := fr.then (Fr.drewN _ _ _)
      clear hw c0 c1 c2 c3 q0 q1 fr
      go_wp2
      go_roundw
      case rel =>
        refine ⟨k + 1, by omega, by go_num, q0'.setOther (by simp) _, (q1'.set k _).congr (fun i _ => ?_), fr'.trans (Fr.setCell (M := fun i => i = w.heap.size + 1) _ rfl _) (fun i e => Or.inr (by omega))⟩
        by_cases e : i = k
        · subst e
          simp [n32, W_low m i hlt]
        · simp only [n32, if_neg e]
          by_cases h1 : i < k
          · rw [if_pos h1, if_pos (by omega)]
          · rw [if_neg h1, if_neg (by omega)]
      case measure => simp [intOf]; omega
    · have hk16 : k = 16 := by omega
      have i0 : (16 : Int) ≤ (k : Int) := by omega
      have q1' : wr.rowIs (w.heap.size + 1) 99 64 (n32 fun j => if j < 16 then W m j else 0) := hk16 ▸ q1
      clear q1 hc hk hlt hk16
      go_wp2_with fail
      go_loopw [5] (fun i wr => ∃ k : Nat, 16 ≤ k ∧ k ≤ 64 ∧ i = .int .i64 k ∧ wr.rowIs w.heap.size 99 64 (n32 fun _ => 0) ∧ wr.rowIs (w.heap.size + 1) 99 64 (n32 fun j => if j < k then W m j else 0) ∧ Fr None' w wr) (fun i _ => 64 - (intOf i).toNat)
      case atStart => exact ⟨16, by omega, by omega, rfl, q0, q1', fr⟩
      case round =>
        clear q0 q1' fr i0
        obtain ⟨k, hk, hk2, rfl, q0, q1, fr⟩ := hrel
        by_cases hlt : k < 64
        · have i0 : (k : Int) < 64 := by omega
          have i1 : (16 : Int) ≤ k := by omega
          have hat : ∀ j, j < k → wr.cell? ⟨w.heap.size + 1, j, none⟩ = some (.int .u32 (W m j)) := fun j hj => by
            have := q1.cell (i := j) (by omega)
            simpa [n32, if_pos hj] using this
          have z := q1.cell (i := k) (by omega)
          have zf := q1.frozen k
          have a15 := hat (k - 15) (by omega)
          have a2 := hat (k - 2) (by omega)
          have a16 := hat (k - 16) (by omega)
          have a7 := hat (k - 7) (by omega)
          have t15 : ((k : Int) - 15).toNat = k - 15 := by omega
          have t2 : ((k : Int) - 2).toNat = k - 2 := by omega
          have t7 : ((k : Int) - 7).toNat = k - 7 := by omega
          have t16 : ((k : Int) - 16).toNat = k - 16 := by omega
          have b15 : (k : Int) - 15 < 64 := by omega
          have b2 : (k : Int) - 2 < 64 := by omega
          have b16 : (k : Int) - 16 < 64 := by omega
          have b7 : (k : Int) - 7 < 64 := by omega
          have d15 : 0 ≤ (k : Int) - 15 := by omega
          have d2 : 0 ≤ (k : Int) - 2 := by omega
          have d16 : 0 ≤ (k : Int) - 16 := by omega
          have d7 : 0 ≤ (k : Int) - 7 := by omega
          clear hat hlt
          go_wp2_with fail
          go_quiet (fail)
          go_wp2_with fail
          refine (right_any _ 7 (by omega) (by omega) _).mono ?_
          rintro e w2 ⟨rfl, rfl⟩
          go_wp2_with fail
          refine (right_any _ 18 (by omega) (by omega) _).mono ?_
          rintro e w2 ⟨rfl, rfl⟩
          go_wp2_with fail
          refine (right_any _ 17 (by omega) (by omega) _).mono ?_
          rintro e w2 ⟨rfl, rfl⟩
          go_wp2_with fail
          refine (right_any _ 19 (by omega) (by omega) _).mono ?_
          rintro e w2 ⟨rfl, rfl⟩
          go_wp2_with fail
          have w16 : IntKind.i64.wrap ((k : Int) - 16) = k - 16 := by rw [IntKind.wrap_i64]; omega
          have w7 : IntKind.i64.wrap ((k : Int) - 7) = k - 7 := by rw [IntKind.wrap_i64]; omega
          have g7 : (7 : Int) ≤ k := by omega
          refine region_tail 15 (by kernel_rfl) (by kernel_rfl) ?_
          simp only [List.take_succ_cons, List.take_zero, List.drop_succ_cons, List.drop_zero]
          repeat still_step
          refine wpStill_nil ?_
          have q0' : (wr.drewN nq).drew.rowIs w.heap.size 99 64 (n32 fun _ => 0) := q0
          have q1' : (wr.drewN nq).drew.rowIs (w.heap.size + 1) 99 64 (n32 fun j => if j < k then W m j else 0) := q1
          have fr' : Fr None' w (wr.drewN nq).drew := (fr.then (Fr.drewN _ _ _)).then (Fr.drewN _ _ 1)
          clear q0 q1 fr a15 a2 a16 a7
          go_wp2
          go_roundw
          case rel =>
            refine ⟨k + 1, by omega, by omega, by go_num, q0'.setOther (by simp) _, (q1'.set k _).congr (fun i _ => ?_), fr'.trans (Fr.setCell (M := fun i => i = w.heap.size + 1) _ rfl _) (fun i e => Or.inr (by omega))⟩
            by_cases e : i = k
            · subst e
              simp only [n32, if_true, if_pos (show i < i + 1 by omega)]
              rw [W_high m i (by omega)]
              rfl
            · simp only [n32, if_neg e]
              by_cases h1 : i < k
              · rw [if_pos h1, if_pos (by omega)]
              · rw [if_neg h1, if_neg (by omega)]
          case measure => simp [intOf]; omega
        · have i0 : (64 : Int) ≤ (k : Int) := by omega
          have q1' : wr.rowIs (w.heap.size + 1) 99 64 (n32 (W m)) := q1.congr (fun i hi => by simp only [n32]; rw [if_pos (by omega)])
          clear q1 hk hlt hk2
          go_wp2_with (first
            | refine load_arr Tryz.underlying99 info64 (w.heap.size + 1) q1' _ rfl rfl rfl ?_
            | refine store_arr info64 w.heap.size q0 (fun _ _ => rfl) _ _ rfl rfl rfl rfl rfl ?_)
          refine bodyPost_ret (v := .agg (arr 64 (n32 (W m)))) (result_arr Tryz.underlying99 info64 rfl _ rfl (rowIs_setRow q0)) rfl ⟨rfl, ?_⟩
          exact fr.trans (Fr.setRow (M := fun i => i = w.heap.size) _ rfl _) (fun i e => Or.inr (by omega))
end Go.Proofs.YtnmghgbpgpaomaaGreat.Sha

namespace Go.Proofs.YtnmghgbpgpaomaaGreat.Sha
open Go.RowKit
set_option maxRecDepth 100000

theorem agg32 (f : Nat → Int) (j : Nat) (hj : j < 8) (w : World) : (Instr.index 101 (.agg (arr 8 (n32 f))) (.int .i64 j)).run Tryz.prog w = .ok (.int .u32 (f j)) w := by
  have h0 : (j : Int) < ((8 : Nat) : Int) := by omega
  have h1 : (0 : Int) ≤ j := by omega
  have hg := arr_get 8 (n32 f) hj
  have h2 : (isAgg 98).run Tryz.prog w = .ok false w := by kernel_rfl
  have h3 : (sizeOf 98).run Tryz.prog w = .ok 1 w := by kernel_rfl
  unfold Instr.index
  simp only [Sem.run_bind, asIntOf, run_underlying Tryz.underlying101 w, Sem.run_pure, Result.andThen_ok]
  rw [if_pos ⟨h1, h0⟩]
  unfold part
  simp only [Sem.run_bind, h2, h3, Result.andThen_ok, Int.toNat_natCast, Nat.mul_one, hg]
  rfl

set_option maxHeartbeats 8000000 in
theorem mix_any (ps pr b o len cap : Nat) (v k m : Nat → Int) (w : World) (hl : 64 ≤ len) (hcap : len ≤ cap)
  (hv : w.rowIs ps 101 8 (n32 v)) (hk : w.rowIs pr 99 64 (n32 k))
  (hc : ∀ i : Nat, i < 64 → w.cell? ⟨b, o + i, none⟩ = some (.int .u8 (m i))) :
   Calls Tryz.prog 99 #[.pointer (some ⟨ps, 0, none⟩), .pointer (some ⟨pr, 0, none⟩), .slice (some ⟨b, o, none⟩) len cap] w fun e w' => e = .returned (.tuple #[]) ∧ w'.rowIs ps 101 8 (n32 (blk k m v)) ∧ Fr (fun i => i = ps) w w' := by
  go_enter Tryz.func99, Tryz.ntmps99
  go_wp2_with fail
  refine (spread_any b o len cap m w hl hcap hc).mono ?_
  rintro e w2 ⟨rfl, f2⟩
  have v2 := f2.rowIs hv id
  have k2 := f2.rowIs hk id
  clear hc hv hk
  go_wp2_with (first
    | refine store_arr info64 w2.heap.size (f0 := n32 fun _ => 0) (rowIs_of (heap_alloc_new w2 _)) (fun _ _ => rfl) _ _ rfl rfl rfl rfl rfl ?_)
  generalize hw3 : World.setRow _ _ _ = w3
  obtain ⟨r3, f3⟩ := new_row (n := 64) rfl hw3
  clear hw3
  have v3 := f3.rowIs v2 id
  have k3 := f3.rowIs k2 id
  have c0 := v3.cell (i := 0) (by omega)
  have c1 := v3.cell (i := 1) (by omega)
  have c2 := v3.cell (i := 2) (by omega)
  have c3 := v3.cell (i := 3) (by omega)
  have c4 := v3.cell (i := 4) (by omega)
  have c5 := v3.cell (i := 5) (by omega)
  have c6 := v3.cell (i := 6) (by omega)
  have c7 := v3.cell (i := 7) (by omega)
  simp only [n32] at c0 c1 c2 c3 c4 c5 c6 c7
  have f4 := f2.then f3
  clear f2 f3 v2 k2
  go_quiet (fail)
  clear c0 c1 c2 c3 c4 c5 c6 c7
  go_wp2_with fail
  go_loopw [7, 8, 9, 10, 11, 12, 13, 14, 54] (fun a b c d e f g h i wr => ∃ (n : Nat) (x : V8), n ≤ 64 ∧ i = .int .i64 n ∧ x = rnds k (W m) (V8.of v) n ∧ a = .int .u32 x.a ∧ b = .int .u32 x.b ∧ c = .int .u32 x.c ∧ d = .int .u32 x.d ∧ e = .int .u32 x.e ∧ f = .int .u32 x.f ∧ g = .int .u32 x.g ∧ h = .int .u32 x.h ∧ wr.rowIs w2.heap.size 99 64 (n32 (W m)) ∧ wr.rowIs ps 101 8 (n32 v) ∧ wr.rowIs pr 99 64 (n32 k) ∧ Fr None' w wr) (fun _ _ _ _ _ _ _ _ i _ => 64 - (intOf i).toNat)
  case atStart => exact ⟨0, V8.of v, by omega, rfl, rfl, rfl, rfl, rfl, rfl, rfl, rfl, rfl, rfl, r3, v3, k3, f4.then (Fr.drewN _ _ _)⟩
  case round =>
    obtain ⟨n, x, hn, rfl, hx, rfl, rfl, rfl, rfl, rfl, rfl, rfl, rfl, q1, q2, q3, fr⟩ := hrel
    clear r3 v3 k3 f4
    have HX : Hid (x = rnds k (W m) (V8.of v) n) := hx
    clear hx
    by_cases hlt : n < 64
    · have i0 : (n : Int) < 64 := by omega
      have cw := q1.cell hlt
      have ck := q3.cell hlt
      simp only [n32] at cw ck
      go_wp2_with fail
      go_quiet (with_reducible (first | exact right_q6 _ | exact right_q11 _ | exact right_q25 _))
      go_wp2_with fail
      refine (right_any _ 2 (by omega) (by omega) _).mono ?_
      rintro e w5 ⟨rfl, rfl⟩
      go_wp2_with fail
      refine (right_any _ 13 (by omega) (by omega) _).mono ?_
      rintro e w5 ⟨rfl, rfl⟩
      go_wp2_with fail
      refine (right_any _ 22 (by omega) (by omega) _).mono ?_
      rintro e w5 ⟨rfl, rfl⟩
      go_wp2
      go_roundw
      case rel =>
        refine ⟨n + 1, rnd (k n) (W m n) x, by omega, by go_num, ?_, rfl, rfl, rfl, rfl, rfl, rfl, rfl, rfl, q1, q2, q3, fr.then (Fr.drewN _ _ _)⟩
        rw [HX.out]; rfl
      case measure => simp [intOf]; omega
    · have i0 : (64 : Int) ≤ n := by omega
      have hx64 : Hid (x = rnds k (W m) (V8.of v) 64) := by
        have : n = 64 := by omega
        have h := HX.out
        rw [this] at h; exact h
      clear HX q1 q3 hn hlt
      have fr' : Fr (fun i => i = ps) w wr := fr.any
      clear fr
      go_wp2_with fail
      have ha : #[Value.int .u32 x.a, Value.int .u32 x.b, Value.int .u32 x.c, Value.int .u32 x.d, Value.int .u32 x.e, Value.int .u32 x.f, Value.int .u32 x.g, Value.int .u32 x.h] = arr 8 (n32 x.at) := rfl
      rw [ha]
      clear ha
      go_loopw [128] (fun i wr => ∃ j : Nat, j ≤ 8 ∧ i = .int .i64 j ∧ wr.rowIs ps 101 8 (n32 fun i => if i < j then (v i + x.at i) % 4294967296 else v i) ∧ Fr (fun i => i = ps) w wr) (fun i _ => 8 - (intOf i).toNat)
      case atStart => exact ⟨0, by omega, rfl, q2.congr (fun i _ => by simp [n32]), fr'⟩
      case round =>
        clear q2 fr' i0
        obtain ⟨j, hj, rfl, q2, fr⟩ := hrel
        by_cases hlt : j < 8
        · have i0 : (j : Int) < 8 := by omega
          have i1 : j < 8 := by omega
          have hag := agg32 x.at j hlt
          have cv := q2.cell hlt
          have zf := q2.frozen j
          simp only [n32, Nat.lt_irrefl, if_false] at cv
          go_wp2_with fail
          refine region_tail 9 mixed (by kernel_rfl) ?_
          simp only [List.take_succ_cons, List.take_zero, List.drop_succ_cons, List.drop_zero]
          repeat still_step
          refine wpStill_nil ?_
          go_wp2
          go_roundw
          case rel =>
            refine ⟨j + 1, by omega, by go_num, World.rowIs.drew ((q2.set j _).congr (fun i _ => ?_)), (fr.then (Fr.setCell (M := fun i => i = ps) _ rfl _)).then (Fr.drewN _ _ 1)⟩
            by_cases e : i = j
            · subst e
              simp only [n32, if_true, if_pos (show i < i + 1 by omega)]
            · simp only [n32, if_neg e]
              by_cases h1 : i < j
              · rw [if_pos h1, if_pos (by omega)]
              · rw [if_neg h1, if_neg (by omega)]
          case measure => simp [intOf]; omega
        · have i0 : (8 : Int) ≤ (j : Int) := by omega
          have q2' : wr.rowIs ps 101 8 (n32 (blk k m v)) := q2.congr (fun i hi => by
            simp only [n32]; rw [if_pos (by omega)]; unfold blk; rw [← hx64.out])
          clear q2 hlt hj
          go_wp2
          go_end0
          exact ⟨rfl, q2', fr⟩
end Go.Proofs.YtnmghgbpgpaomaaGreat.Sha

namespace Go.Proofs.YtnmghgbpgpaomaaGreat.Sha
open Go.RowKit
set_option maxRecDepth 100000

theorem starts_any (w : World) : Calls Tryz.prog 89 #[] w fun e w' => e = .returned (.agg (arr 8 (n32 iv))) ∧ Fr None' w w' := by
  go_enter Tryz.func89, Tryz.ntmps89
  go_wp2_with fail
  refine bodyPost_ret (v := .agg (arr 8 (n32 iv))) (result_arr Tryz.underlying101 info8 rfl _ rfl (rowIs_of (heap_alloc_new w _))) rfl ⟨rfl, Fr.alloc _ _ _⟩

set_option maxHeartbeats 4000000 in
theorem consts_any (w : World) : Calls Tryz.prog 90 #[] w fun e w' => e = .returned (.agg (arr 64 (n32 kc))) ∧ Fr None' w w' := by
  go_enter Tryz.func90, Tryz.ntmps90
  go_wp2_with (refine store_arr info64 w.heap.size (f0 := n32 fun _ => 0) (f := n32 kc) (rowIs_of (heap_alloc_new w _)) (fun _ _ => rfl) _ _ rfl rfl rfl rfl rfl ?_)
  generalize hw : World.setRow _ _ _ = w'
  obtain ⟨r, f⟩ := new_row (n := 64) rfl hw
  exact bodyPost_ret (v := .agg (arr 64 (n32 kc))) (result_arr Tryz.underlying99 info64 rfl _ rfl r) rfl ⟨rfl, f⟩

theorem putWord_any (b o len cap : Nat) (x : Int) (w : World) (hl : 4 ≤ len) (t : TypeId) (n : Nat) (f : Nat → Value) (hr : w.rowIs b t n f) (ho : o + 4 ≤ n) :
   Calls Tryz.prog 93 #[.slice (some ⟨b, o, none⟩) len cap, .int .u32 x] w fun e w' => e = .returned (.tuple #[]) ∧ w'.rowIs b t n (put4 o x f) ∧ Fr (fun i => i = b) w w' := by
  have l0 : (0 : Int) < (len : Int) := by omega
  have l1 : (1 : Int) < (len : Int) := by omega
  have l2 : (2 : Int) < (len : Int) := by omega
  have l3 : (3 : Int) < (len : Int) := by omega
  have l00 : 0 < len := by omega
  have c0 := hr.cell (i := o) (by omega)
  have c1 := hr.cell (i := o + 1) (by omega)
  have c2 := hr.cell (i := o + 2) (by omega)
  have c3 := hr.cell (i := o + 3) (by omega)
  have z0 := hr.frozen o
  have z1 := hr.frozen (o + 1)
  have z2 := hr.frozen (o + 2)
  have z3 := hr.frozen (o + 3)
  generalize f o = y0 at c0
  generalize f (o + 1) = y1 at c1
  generalize f (o + 2) = y2 at c2
  generalize f (o + 3) = y3 at c3
  clear hl
  go_enter Tryz.func93, Tryz.ntmps93
  go_wp2
  go_end0
  refine ⟨rfl, ((((hr.set o _).set (o + 1) _).set (o + 2) _).set (o + 3) _).congr (fun i _ => put4_eq o x f i), ?_⟩
  exact (((Fr.setCell (M := fun i => i = b) _ rfl _).then (Fr.setCell (M := fun i => i = b) _ rfl _)).then (Fr.setCell (M := fun i => i = b) _ rfl _)).then (Fr.setCell (M := fun i => i = b) _ rfl _)
end Go.Proofs.YtnmghgbpgpaomaaGreat.Sha

namespace Go.Proofs.YtnmghgbpgpaomaaGreat.Sha
open Go.RowKit
set_option maxRecDepth 100000

set_option maxHeartbeats 4000000 in
theorem mixBlocks_any (ps pr : Nat) (va : Option Addr) (len cap nb : Nat) (v k m : Nat → Int) (w : World) (hl : len = 64 * nb) (hcap : len ≤ cap) (hbig : len ≤ 1000000)
  (hv : w.rowIs ps 101 8 (n32 v)) (hk : w.rowIs pr 99 64 (n32 k)) (hpr : pr ≠ ps)
  (hc : ∀ i : Nat, i < len → ∃ b o, va = some ⟨b, o, none⟩ ∧ b ≠ ps ∧ w.cell? ⟨b, o + i, none⟩ = some (.int .u8 (m i))) :
   Calls Tryz.prog 91 #[.pointer (some ⟨ps, 0, none⟩), .pointer (some ⟨pr, 0, none⟩), .slice va len cap] w fun e w' => e = .returned (.tuple #[]) ∧ w'.rowIs ps 101 8 (n32 (blks k m v nb)) ∧ Fr (fun i => i = ps) w w' := by
  have hq : (len : Int) / 64 = nb := by omega
  have hb : (nb : Int) ≤ 1000000 := by omega
  have HL : Hid (len = 64 * nb) := hl
  clear hl
  go_enter Tryz.func91, Tryz.ntmps91
  go_wp2_with fail
  go_loopw [10] (fun i wr => ∃ j : Nat, j ≤ nb ∧ i = .int .i64 j ∧ wr.rowIs ps 101 8 (n32 (blks k m v j)) ∧ Fr (fun i => i = ps) w wr) (fun i _ => nb - (intOf i).toNat)
  case atStart => exact ⟨0, by omega, rfl, hv, Fr.refl _ _⟩
  case round =>
    obtain ⟨j, hj, rfl, q, fr⟩ := hrel
    have hl := HL.out
    by_cases hlt : j < nb
    · obtain ⟨b, o, rfl, hbs, _⟩ := hc (64 * j) (by omega)
      have i0 : (j : Int) < nb := by omega
      have l1 : (64 * (j : Int)) ≤ (len : Int) := by omega
      have l2 : (len : Int) ≤ (cap : Int) := by omega
      have hm := mix_any ps pr b (o + 64 * j) (len - 64 * j) (cap - 64 * j) (blks k m v j) k (fun i => m (64 * j + i)) wr (by omega) (by omega) q (fr.rowIs hk hpr) (fun i hi => by
        obtain ⟨b', o', e, hb', hcc⟩ := hc (64 * j + i) (by omega)
        cases e
        rw [Nat.add_assoc]
        exact fr.cell hcc hb')
      clear hc hv hk hl
      go_wp2_with fail
      refine hm.mono ?_
      rintro e w2 ⟨rfl, q', f2⟩
      clear hm q
      go_wp2
      go_roundw
      case rel => exact ⟨j + 1, by omega, by go_num, q', fr.then f2⟩
      case measure => simp [intOf]; omega
    · have i0 : (nb : Int) ≤ (j : Int) := by omega
      have hjn : j = nb := by omega
      have q' := hjn ▸ q
      clear hc hv hk hl q hjn hlt
      go_wp2
      go_end0
      exact ⟨rfl, q', fr⟩
end Go.Proofs.YtnmghgbpgpaomaaGreat.Sha

namespace Go.Proofs.YtnmghgbpgpaomaaGreat.Sha
open Go.RowKit
set_option maxRecDepth 100000

theorem copy_arr {P : Program} {w : World} {ops : Array Oper} {rest : List Oper} {o : Oper} {a : Act} {Q : Exit → Act → World → Prop} (hgd : o.guard = none) (d s : Operand) (dT sT : TypeId)
    (ho : o.op = .call { callee := .builtin .copy, args := #[d, s], argTypes := #[dT, sT] }) (elem : TypeId) (hu : P.underlying dT = some (.slice elem)) (hsz : (P.info? elem).map (·.size) = some 1)
    (g dLen dCap : Nat) (sp : Option Addr) (sLen sCap : Nat) (hd : a.eval d = .slice (some ⟨g, 0, none⟩) dLen dCap) (hs : a.eval s = .slice sp sLen sCap)
    {t : TypeId} {n : Nat} {f0 : Nat → Value} (hr : w.rowIs g t n f0) (m : Nat → Value) (hle : sLen ≤ dLen) (hn : sLen ≤ n)
    (hsrc : ∀ i, i < sLen → ∃ b o, sp = some ⟨b, o, none⟩ ∧ w.cell? ⟨b, o + i, none⟩ = some (m i)) (h1 : ∀ i, (m i).oneCell' = true)
    (h : ∀ w', w'.rowIs g t n (fun i => if i < sLen then m i else f0 i) → Fr (fun i => i = g) w w' → wpList P ops Q rest (a.put o.dst (goInt sLen)) w') : wpList P ops Q (o :: rest) a w := by
  have hmin : Nat.min sLen dLen = sLen := Nat.min_eq_left hle
  by_cases h0 : sLen = 0
  · subst h0
    exact wpList_copy_nothing hgd d s dT sT ho elem hu hsz _ _ _ _ _ _ hd hs hmin (h w (hr.congr (fun i _ => by simp)) (Fr.refl _ _))
  · obtain ⟨b, oo, hb, _⟩ := hsrc 0 (by omega)
    have hl : ((List.range sLen).map m).length = sLen := by simp
    refine wpList_copy_own hgd d s dT sT ho elem hu hsz g 0 dLen dCap ⟨b, oo, none⟩ sLen sCap hd (by rw [hs, hb]) _ t (rowIs_block hr) ((List.range sLen).map m) (by rw [hl, hmin]) (fun j v hv => ?_) (by rw [hl, arr_size]; omega) (fun v hv => ?_) ?_
    · have hj : j < sLen := by
        have := (List.getElem?_eq_some_iff.1 hv).1
        simpa using this
      obtain ⟨b', o', e, hc⟩ := hsrc j hj
      rw [hb] at e
      cases e
      have hv' : m j = v := by simpa [hj] using hv
      have hadd : (⟨b, oo, none⟩ : Addr).add j = ⟨b, oo + j, none⟩ := by unfold Addr.add; split <;> simp_all
      rw [hadd, hc, hv']
    · obtain ⟨i, _, rfl⟩ := List.mem_map.1 hv
      exact h1 i
    · rw [hl]
      refine h _ ?_ (Fr.setRow (M := fun i => i = g) _ rfl _)
      refine ⟨_, setRow_at (rowIs_block hr), by simp [arr_size]; omega, fun i hi => ?_⟩
      have ha : (arr n f0).toList[i]? = some (f0 i) := by
        rw [Array.getElem?_toList]; exact arr_get n f0 hi
      simp only [List.getElem?_toArray, List.take_zero, List.nil_append, Nat.zero_add]
      by_cases hlt : i < sLen
      · rw [List.getElem?_append_left (by simpa using hlt), if_pos hlt]
        simp [hlt]
      · rw [List.getElem?_append_right (by simp; omega), if_neg hlt]
        simp only [List.length_map, List.length_range, List.getElem?_drop]
        rw [show sLen + (i - sLen) = i by omega]
        exact ha

theorem zero128 : ∀ w, (zeroValue 119).run Tryz.prog w = .ok (.agg (arr 128 (n8 fun _ => 0))) w :=
  (zero_of_info (P := Tryz.prog) (t := 119) (v := .agg (arr 128 (n8 fun _ => 0))) (n := 128) (by kernel_rfl)).1

theorem info1 : (Tryz.prog.info? 5).map (·.size) = some 1 := by kernel_rfl

theorem wrapU64 (n : Int) : IntKind.u64.wrap n = n % 18446744073709551616 := by simp [IntKind.wrap, IntKind.bits, IntKind.signed]

theorem put4_one {o : Nat} {x : Int} {f : Nat → Value} (hf : ∀ i, (f i).oneCell' = true) (i : Nat) : (put4 o x f i).oneCell' = true := by
  unfold put4; split
  · rfl
  · exact hf i

theorem lastF_one (n : Nat) (m : Nat → Int) (L : Int) (i : Nat) : (lastF n m L i).oneCell' = true :=
  put4_one (put4_one (fun i => by split <;> (try split) <;> rfl)) i

set_option maxHeartbeats 4000000 in
theorem last_any (va : Option Addr) (n cap : Nat) (m : Nat → Int) (L : Int) (w : World) (hn : n < 64) (_hcap : n ≤ cap)
  (hc : ∀ i : Nat, i < n → ∃ b o, va = some ⟨b, o, none⟩ ∧ w.cell? ⟨b, o + i, none⟩ = some (.int .u8 (m i))) :
   Calls Tryz.prog 92 #[.slice va n cap, .int .u64 L] w fun e w' => e = .returned (.tuple #[.agg (arr 128 (lastF n m L)), .int .i64 (lastSize n)]) ∧ Fr None' w w' := by
  have n0 : (n : Int) < 64 := by omega
  have hz := zero128
  have r0 : ((w.alloc (Obj.cells (arr 128 (n8 fun _ => 0)) 119)).alloc (Obj.cells (arr 128 (n8 fun _ => 0)) 119)).rowIs w.heap.size 119 128 (n8 fun _ => 0) := rowIs_of (heap_alloc2_old w _ _)
  have r1 : ((w.alloc (Obj.cells (arr 128 (n8 fun _ => 0)) 119)).alloc (Obj.cells (arr 128 (n8 fun _ => 0)) 119)).rowIs (w.heap.size + 1) 119 128 (n8 fun _ => 0) := rowIs_of (heap_alloc2_new w _ _)
  have f1 : Fr None' w ((w.alloc (Obj.cells (arr 128 (n8 fun _ => 0)) 119)).alloc (Obj.cells (arr 128 (n8 fun _ => 0)) 119)) := (Fr.alloc _ w _).then (Fr.alloc _ _ _)
  have hc' : ∀ i : Nat, i < n → ∃ b o, va = some ⟨b, o, none⟩ ∧ ((w.alloc (Obj.cells (arr 128 (n8 fun _ => 0)) 119)).alloc (Obj.cells (arr 128 (n8 fun _ => 0)) 119)).cell? ⟨b, o + i, none⟩ = some (n8 m i) := fun i hi => by
    obtain ⟨b, o, e, h⟩ := hc i hi
    exact ⟨b, o, e, f1.cell h id⟩
  clear hc
  have hone : ∀ i, i < 128 → (lastF n m L i).oneCell' = true := fun i _ => lastF_one n m L i
  by_cases h55 : (n : Int) ≤ 55
  · have hls : lastSize n = 64 := by unfold lastSize; rw [if_pos (by omega)]
    rw [hls]
    go_enter Tryz.func92, Tryz.ntmps92
    go_wp2_with (first
      | (refine copy_arr rfl _ _ 31 31 rfl 5 Tryz.underlying31 info1 (w.heap.size + 1) 128 128 va n cap rfl rfl r1 (n8 m) (by omega) (by omega) hc' (fun _ => rfl) ?_
         intro w3 r3 f3
         have z3 := r3.cell (i := n) (by omega)
         have y3 := r3.frozen n))
    have r4 := r3.set n (.int .u8 128)
    have f4 := f3.then (Fr.setCell (M := fun i => i = w.heap.size + 1) w3 (a := ⟨w.heap.size + 1, n, none⟩) rfl (.int .u8 128))
    generalize w3.setCell ⟨w.heap.size + 1, n, none⟩ (.int .u8 128) = w4 at r4 f4
    refine (putWord_any (w.heap.size + 1) 56 72 72 _ w4 (by omega) _ _ _ r4 (by omega)).mono ?_
    rintro e w5 ⟨rfl, r5, f5⟩
    clear hc' z3 y3 r3 r4 f3
    go_wp2_with fail
    refine (putWord_any (w.heap.size + 1) 60 68 68 _ w5 (by omega) _ _ _ r5 (by omega)).mono ?_
    rintro e w6 ⟨rfl, r6, f6⟩
    have f46 := (f4.then f5).then f6
    have q0 := f46.rowIs r0 (by omega)
    clear r0 r1 f4 f5 f6 r5
    have r7 : w6.rowIs (w.heap.size + 1) 119 128 (lastF n m L) := r6.congr (fun i _ => by
      unfold lastF
      rw [hls, wrapU64]
      rfl)
    clear r6
    go_wp2_with (first
      | refine load_arr Tryz.underlying119 info128 (w.heap.size + 1) r7 _ rfl rfl rfl ?_
      | refine store_arr info128 w.heap.size q0 hone _ _ rfl rfl rfl rfl rfl ?_)
    have q7 := rowIs_setRow (g' := lastF n m L) q0
    have f7 : Fr None' w (w6.setRow w.heap.size (arr 128 (lastF n m L))) := (f1.trans f46 (fun i e => Or.inr (by omega))).trans (Fr.setRow (M := fun i => i = w.heap.size) _ rfl _) (fun i e => Or.inr (by omega))
    generalize w6.setRow w.heap.size (arr 128 (lastF n m L)) = w7 at q7 f7
    have hld := run_loadVar_row (P := Tryz.prog) w7 w.heap.size 119 119 _ (0, 0) _ (rowIs_block q7) Tryz.underlying119 rfl (by rw [arr_size]; exact info128)
    refine bodyPost_ret (v := .tuple #[.agg (arr 128 (lastF n m L)), .int .i64 64]) (by rw [results_cell_tmp rfl]; simp [asAddr, Result.andThen, hld]) rfl ⟨rfl, f7⟩
  · have hls : lastSize n = 128 := by unfold lastSize; rw [if_neg (by omega)]
    have h55' : (55 : Int) < n := by omega
    rw [hls]
    go_enter Tryz.func92, Tryz.ntmps92
    go_wp2_with (first
      | (refine copy_arr rfl _ _ 31 31 rfl 5 Tryz.underlying31 info1 (w.heap.size + 1) 128 128 va n cap rfl rfl r1 (n8 m) (by omega) (by omega) hc' (fun _ => rfl) ?_
         intro w3 r3 f3
         have z3 := r3.cell (i := n) (by omega)
         have y3 := r3.frozen n))
    have r4 := r3.set n (.int .u8 128)
    have f4 := f3.then (Fr.setCell (M := fun i => i = w.heap.size + 1) w3 (a := ⟨w.heap.size + 1, n, none⟩) rfl (.int .u8 128))
    generalize w3.setCell ⟨w.heap.size + 1, n, none⟩ (.int .u8 128) = w4 at r4 f4
    refine (putWord_any (w.heap.size + 1) 120 8 8 _ w4 (by omega) _ _ _ r4 (by omega)).mono ?_
    rintro e w5 ⟨rfl, r5, f5⟩
    clear hc' z3 y3 r3 r4 f3
    go_wp2_with fail
    refine (putWord_any (w.heap.size + 1) 124 4 4 _ w5 (by omega) _ _ _ r5 (by omega)).mono ?_
    rintro e w6 ⟨rfl, r6, f6⟩
    have f46 := (f4.then f5).then f6
    have q0 := f46.rowIs r0 (by omega)
    clear r0 r1 f4 f5 f6 r5
    have r7 : w6.rowIs (w.heap.size + 1) 119 128 (lastF n m L) := r6.congr (fun i _ => by
      unfold lastF
      rw [hls, wrapU64]
      rfl)
    clear r6
    go_wp2_with (first
      | refine load_arr Tryz.underlying119 info128 (w.heap.size + 1) r7 _ rfl rfl rfl ?_
      | refine store_arr info128 w.heap.size q0 hone _ _ rfl rfl rfl rfl rfl ?_)
    have q7 := rowIs_setRow (g' := lastF n m L) q0
    have f7 : Fr None' w (w6.setRow w.heap.size (arr 128 (lastF n m L))) := (f1.trans f46 (fun i e => Or.inr (by omega))).trans (Fr.setRow (M := fun i => i = w.heap.size) _ rfl _) (fun i e => Or.inr (by omega))
    generalize w6.setRow w.heap.size (arr 128 (lastF n m L)) = w7 at q7 f7
    have hld := run_loadVar_row (P := Tryz.prog) w7 w.heap.size 119 119 _ (0, 0) _ (rowIs_block q7) Tryz.underlying119 rfl (by rw [arr_size]; exact info128)
    refine bodyPost_ret (v := .tuple #[.agg (arr 128 (lastF n m L)), .int .i64 128]) (by rw [results_cell_tmp rfl]; simp [asAddr, Result.andThen, hld]) rfl ⟨rfl, f7⟩
end Go.Proofs.YtnmghgbpgpaomaaGreat.Sha

namespace Go.Proofs.YtnmghgbpgpaomaaGreat.Sha
open Go.RowKit
set_option maxRecDepth 100000

/-- The bytes of a slice, as they lie in memory. -/
def Byt (w : World) (v : Value) (n : Nat) (m : Nat → Int) : Prop :=
  ∃ va cap, v = .slice va n cap ∧ n ≤ cap ∧ ∀ i, i < n → ∃ b o, va = some ⟨b, o, none⟩ ∧ w.cell? ⟨b, o + i, none⟩ = some (.int .u8 (m i))

theorem store_arr2 {P : Program} {ops : Array Oper} {rest : List Oper} {o : Oper} {a : Act} {w : World} {Q : Exit → Act → World → Prop} {ty : TypeId} {n : Nat} (hi : (P.info? ty).map (·.size) = some n)
    (x y : Operand) (ho : o.op = .store ty x y) (hgd : o.guard = none) (hd : o.dst = none) (g : Nat) (hx : a.eval x = .pointer (some ⟨g, 0, none⟩)) {t : TypeId} {f0 f : Nat → Value} (hy : a.eval y = .agg (arr n f)) (h1 : ∀ i, i < n → (f i).oneCell' = true) (hr : w.rowIs g t n f0)
    (h : ∀ w', w'.rowIs g t n f → Fr (fun i => i = g) w w' → wpList P ops Q rest a w') : wpList P ops Q (o :: rest) a w :=
  store_arr hi g hr h1 x y ho hgd hx hy hd (h _ (rowIs_setRow hr) (Fr.setRow (M := fun i => i = g) _ rfl _))

def lastB (n : Nat) (m : Nat → Int) (L : Int) (i : Nat) : Int := intOf (lastF n m L i)

theorem put4_int {o : Nat} {x : Int} {f : Nat → Value} (hf : ∀ i, .int .u8 (intOf (f i)) = f i) (i : Nat) : .int .u8 (intOf (put4 o x f i)) = put4 o x f i := by
  unfold put4; split
  · rfl
  · exact hf i

theorem lastB_eq (n : Nat) (m : Nat → Int) (L : Int) (i : Nat) : Value.int .u8 (lastB n m L i) = lastF n m L i :=
  put4_int (put4_int (fun i => by split <;> (try split) <;> rfl)) i

/-- The eight numbers of n bytes m. -/
def sumV (n : Nat) (m : Nat → Int) : Nat → Int :=
  blks kc (lastB (n % 64) (fun i => m (n - n % 64 + i)) n) (blks kc m iv (n / 64)) (lastSize (n % 64) / 64)

/-- The sum's bytes. -/
def sumB (n : Nat) (m : Nat → Int) (i : Nat) : Int := bt (sumV n m (i / 4)) (i % 4)

theorem sum_step (n : Nat) (m : Nat → Int) (j i : Nat) : put4 (4 * j) (sumV n m j) (fun i => if i < 4 * j then Value.int .u8 (sumB n m i) else .int .u8 0) i = if i < 4 * (j + 1) then Value.int .u8 (sumB n m i) else .int .u8 0 := by
  unfold put4
  by_cases h : 4 * j ≤ i ∧ i < 4 * j + 4
  · rw [if_pos h, if_pos (by omega)]
    unfold sumB
    rw [show i / 4 = j by omega, show i % 4 = i - 4 * j by omega]
  · rw [if_neg h]
    show (if i < 4 * j then Value.int .u8 (sumB n m i) else .int .u8 0) = _
    by_cases h1 : i < 4 * j
    · rw [if_pos h1, if_pos (by omega)]
    · rw [if_neg h1, if_neg (by omega)]

set_option maxHeartbeats 4000000 in
theorem sum_any (v : Value) (n : Nat) (m : Nat → Int) (w : World) (h : Byt w v n m) (hbig : n ≤ 1000000) :
   Calls Tryz.prog 70 #[v] w fun e w' => e = .returned (.agg (arr 32 (n8 (sumB n m)))) ∧ Fr None' w w' := by
  obtain ⟨va, cap, rfl, hcap, hc⟩ := h
  go_enter Tryz.func70, Tryz.ntmps70
  go_wp2_with fail
  have r0 : (w.alloc (.cells (arr 32 (n8 fun _ => 0)) 71)).rowIs w.heap.size 71 32 (n8 fun _ => 0) := rowIs_of (heap_alloc_new w _)
  have f0 : Fr None' w (w.alloc (.cells (arr 32 (n8 fun _ => 0)) 71)) := Fr.alloc _ _ _
  generalize hw0 : w.alloc _ = w0
  replace r0 : w0.rowIs w.heap.size 71 32 (n8 fun _ => 0) := by rw [← hw0]; exact r0
  replace f0 : Fr None' w w0 := by rw [← hw0]; exact f0
  clear hw0
  refine (starts_any _).mono ?_
  rintro e w1 ⟨rfl, f1⟩
  go_wp2_with fail
  refine (consts_any _).mono ?_
  rintro e w2 ⟨rfl, f2⟩
  have f02 := (f0.then f1).then f2
  have s2 := (f1.then f2).rowIs r0 id
  clear f0 f1 f2 r0
  obtain ⟨r, hr⟩ : ∃ r, n % 64 = r := ⟨_, rfl⟩
  obtain ⟨q, hq⟩ : ∃ q, n / 64 = q := ⟨_, rfl⟩
  obtain ⟨wh, hwh⟩ : ∃ wh, n - r = wh := ⟨_, rfl⟩
  have e1 : (n : Int) % 64 = r := by omega
  have e2 : (n : Int) - r = wh := by omega
  have e3 : (wh : Int) ≤ n := by omega
  have e4 : (n : Int) ≤ cap := by omega
  have e5 : (n : Int) ≤ 1000000 := by omega
  have HQ : Hid (n % 64 = r ∧ n / 64 = q ∧ n - r = wh) := ⟨hr, hq, hwh⟩
  clear hr hq hwh
  go_wp2_with (first
    | (refine store_arr2 info8 _ _ rfl rfl rfl w2.heap.size rfl rfl (fun _ _ => rfl) (f0 := n32 fun _ => 0) (rowIs_of (heap_alloc2_old w2 _ _)) ?_
       intro w3 r3 f3)
    | (refine store_arr2 info64 _ _ rfl rfl rfl (w2.heap.size + 1) rfl rfl (fun _ _ => rfl) (f0 := n32 fun _ => 0) (f3.rowIs (rowIs_of (heap_alloc2_new w2 _ _)) (by simp)) ?_
       intro w4 r4 f4))
  have s4 := f4.rowIs r3 (by simp)
  have f24 := (((Fr.alloc None' w2 _).then (Fr.alloc None' _ _)).trans f3 (fun i e => Or.inr (by omega))).trans f4 (fun i e => Or.inr (by omega))
  clear f3 r3 f4
  have hlow : ∀ i, i < n → ∃ b o, va = some ⟨b, o, none⟩ ∧ b < w.heap.size ∧ w.cell? ⟨b, o + i, none⟩ = some (.int .u8 (m i)) := fun i hi => by
    obtain ⟨b, o, e, h⟩ := hc i hi
    exact ⟨b, o, e, cell_lt h, h⟩
  have hsz := f02.size
  have H := HQ.out
  refine (mixBlocks_any w2.heap.size (w2.heap.size + 1) va wh cap q iv kc m w4 (by omega) (by omega) (by omega) s4 r4 (by omega) (fun i hi => by
    obtain ⟨b, o, e, hb, h⟩ := hlow i (by omega)
    exact ⟨b, o, e, by omega, (f02.then f24).cell h id⟩)).mono ?_
  rintro e w5 ⟨rfl, s5, f5⟩
  have k5 := f5.rowIs r4 (by omega)
  have f05 : Fr None' w w5 := (f02.then f24).trans f5 (fun i e => Or.inr (by omega))
  have o5 := f5.rowIs (f24.rowIs s2 id) (by have := s2.lt; intro e; omega)
  have lw := s2.lt
  clear s4 r4 f24 f5 s2 f02 H hc
  have hlast : Hid (∀ va', (cap = wh → va' = va) → (¬ cap = wh → va' = va.map (fun x => x.add wh)) → Calls Tryz.prog 92 #[.slice va' (n - wh) (cap - wh), .int .u64 n] w5 fun e w' => e = .returned (.tuple #[.agg (arr 128 (n8 (lastB r (fun i => m (n - r + i)) n))), .int .i64 (lastSize r)]) ∧ Fr None' w5 w') := fun va' h1 h2 => by
    have H := HQ.out
    have hl := last_any va' (n - wh) (cap - wh) (fun i => m (n - r + i)) n w5 (by omega) (by omega) (fun i hi => by
      obtain ⟨b, o, e, _, h⟩ := hlow (wh + i) (by omega)
      have e' := h2 (by omega)
      refine ⟨b, o + wh, ?_, ?_⟩
      · rw [e', e]
        show some (Addr.add _ _) = _
        unfold Addr.add; split <;> simp_all
      · have := f05.cell h id
        rw [Nat.add_assoc]
        rw [show n - r = wh by omega]
        exact this)
    rw [show n - wh = r by omega] at hl ⊢
    refine hl.mono ?_
    rintro e w' ⟨rfl, f⟩
    refine ⟨?_, f⟩
    have : n8 (lastB r (fun i => m (n - r + i)) n) = lastF r (fun i => m (n - r + i)) n := by
      funext i
      exact lastB_eq _ _ _ _
    rw [this]
  clear hlow
  obtain ⟨sz, hS⟩ : ∃ sz, lastSize r = sz := ⟨_, rfl⟩
  unfold Hid at hlast; rw [hS] at hlast
  have hlast : Hid _ := hlast
  have HS : Hid (lastSize r = sz) := hS
  have sz1 : (sz : Int) ≤ 128 := by
    have : sz ≤ 128 := by rw [← hS]; unfold lastSize; split <;> omega
    omega
  have hS2 : sz = 64 * (sz / 64) := by rw [← hS]; unfold lastSize; split <;> rfl
  have HS2 : Hid (sz = 64 * (sz / 64)) := hS2
  clear hS hS2
  by_cases hcw : cap = wh
  · have hl2 := hlast.out va (fun _ => rfl) (fun h' => absurd hcw h')
    rw [show cap - wh = 0 by omega] at hl2
    clear hlast
    go_wp2_with fail
    refine hl2.mono ?_
    rintro e w6 ⟨rfl, f6⟩
    have s6 := f6.rowIs s5 id
    have k6 := f6.rowIs k5 id
    have o6 := f6.rowIs o5 id
    have f06 := f05.then f6
    have hz := zero128
    clear hl2 f05 s5 k5 o5 f6
    go_wp2_with (refine store_arr2 info128 _ _ rfl rfl rfl w6.heap.size rfl rfl (fun _ _ => rfl) (f0 := n8 fun _ => 0) (rowIs_of (heap_alloc_new w6 _)) ?_; intro w7 r7 f7)
    replace f7 := (Fr.alloc None' w6 _).trans f7 (fun i e => Or.inr (by omega))
    have s7 := f7.rowIs s6 id
    have k7 := f7.rowIs k6 id
    have o7 := f7.rowIs o6 id
    have f07 := f06.then f7
    have l6 := s6.lt
    clear s6 k6 o6 f06 f7 hz
    refine (mixBlocks_any w2.heap.size (w2.heap.size + 1) (some ⟨w6.heap.size, 0, none⟩) sz 128 (sz / 64) (blks kc m iv q) kc (lastB r (fun i => m (n - r + i)) n) w7 HS2.out (by omega) (by omega) s7 k7 (by omega) (fun i hi => ⟨w6.heap.size, 0, rfl, by omega, by
      rw [Nat.zero_add]; exact r7.cell (by omega)⟩)).mono ?_
    rintro e w8 ⟨rfl, s8, f8⟩
    have o8 := f8.rowIs o7 (by omega)
    have f08 : Fr None' w w8 := f07.trans f8 (fun i e => Or.inr (by omega))
    have hV : Hid (blks kc (lastB r (fun i => m (n - r + i)) n) (blks kc m iv q) (sz / 64) = sumV n m) := by
      obtain ⟨h1, h2, h3⟩ := HQ.out
      show _ = _
      unfold sumV
      rw [h1, h2, HS.out]
    rw [hV.out] at s8
    clear r7 s7 k7 o7 f07 f8 hV
    go_wp2_with fail
    have r9 : (w8.alloc (.cells (arr 32 (n8 fun _ => 0)) 71)).rowIs w8.heap.size 71 32 (n8 fun _ => 0) := rowIs_of (heap_alloc_new w8 _)
    have f9 : Fr None' w8 (w8.alloc (.cells (arr 32 (n8 fun _ => 0)) 71)) := Fr.alloc _ _ _
    generalize hw9 : w8.alloc _ = w9
    replace r9 : w9.rowIs w8.heap.size 71 32 (n8 fun _ => 0) := by rw [← hw9]; exact r9
    replace f9 : Fr None' w8 w9 := by rw [← hw9]; exact f9
    have s9 := f9.rowIs s8 id
    have o9 := f9.rowIs o8 id
    have f09 := f08.then f9
    have l8 := s8.lt
    have l8o := o8.lt
    clear hw9 s8 o8 f08 f9
    go_loopw [35] (fun i wr => ∃ j : Nat, j ≤ 8 ∧ i = .int .i64 j ∧ wr.rowIs w8.heap.size 71 32 (fun i => if i < 4 * j then .int .u8 (sumB n m i) else .int .u8 0) ∧ wr.rowIs w2.heap.size 101 8 (n32 (sumV n m)) ∧ wr.rowIs w.heap.size 71 32 (n8 fun _ => 0) ∧ Fr None' w wr) (fun i _ => 8 - (intOf i).toNat)
    case atStart => exact ⟨0, by omega, rfl, r9.congr (fun i _ => by simp [n8]), s9, o9, f09⟩
    case round =>
      clear r9 s9 o9 f09
      obtain ⟨j, hj, rfl, q1, q2, q3, fr⟩ := hrel
      by_cases hlt : j < 8
      · have i0 : (j : Int) < 8 := by omega
        have cs := q2.cell hlt
        simp only [n32] at cs
        have l4 : 4 * (j : Int) ≤ 32 := by omega
        have l5 : ¬ (32 = 4 * j) := by omega
        have d4 : (0 : Int) ≤ 4 * (j : Int) := by omega
        have w4 : IntKind.i64.wrap (4 * (j : Int)) = 4 * j := by rw [IntKind.wrap_i64]; omega
        have t4 : (4 * (j : Int)).toNat = 4 * j := by omega
        go_wp2_with fail
        refine region_tail 6 mixed (by kernel_rfl) ?_
        simp only [List.take_succ_cons, List.take_zero, List.drop_succ_cons, List.drop_zero]
        repeat still_step
        refine wpStill_nil ?_
        go_wp2_with fail
        have q1' : wr.drew.rowIs w8.heap.size 71 32 (fun i => if i < 4 * j then .int .u8 (sumB n m i) else .int .u8 0) := q1
        refine (putWord_any w8.heap.size (4 * j) (32 - 4 * j) (32 - 4 * j) (sumV n m j) wr.drew (by omega) _ _ _ q1' (by omega)).mono ?_
        rintro e wx ⟨rfl, p1, fx⟩
        have p2 := fx.rowIs (World.rowIs.drew q2) (by omega)
        have p3 := fx.rowIs (World.rowIs.drew q3) (by omega)
        have fy : Fr None' w wx := (fr.then (Fr.drewN _ _ 1)).trans fx (fun i e => Or.inr (by omega))
        clear q1 q2 q3 fr q1' fx cs
        go_wp2
        go_roundw
        case rel => exact ⟨j + 1, by omega, by go_num, p1.congr (fun i _ => sum_step n m j i), p2, p3, fy⟩
        case measure => simp [intOf]; omega
      · have i0 : (8 : Int) ≤ (j : Int) := by omega
        have q1' : wr.rowIs w8.heap.size 71 32 (n8 (sumB n m)) := q1.congr (fun i hi => by rw [if_pos (by omega)]; rfl)
        clear q1 q2 hlt hj
        go_wp2_with (first
          | refine load_arr Tryz.underlying71 info32 w8.heap.size q1' _ rfl rfl rfl ?_
          | refine store_arr info32 w.heap.size q3 (fun _ _ => rfl) _ _ rfl rfl rfl rfl rfl ?_)
        refine bodyPost_ret (v := .agg (arr 32 (n8 (sumB n m)))) (result_arr Tryz.underlying71 info32 rfl _ rfl (rowIs_setRow q3)) rfl ⟨rfl, ?_⟩
        exact fr.trans (Fr.setRow (M := fun i => i = w.heap.size) _ rfl _) (fun i e => Or.inr (by omega))
  · have hl2 := hlast.out (va.map (fun x => x.add wh)) (fun h' => absurd h' hcw) (fun _ => rfl)
    clear hlast
    go_wp2_with fail
    refine hl2.mono ?_
    rintro e w6 ⟨rfl, f6⟩
    have s6 := f6.rowIs s5 id
    have k6 := f6.rowIs k5 id
    have o6 := f6.rowIs o5 id
    have f06 := f05.then f6
    have hz := zero128
    clear hl2 f05 s5 k5 o5 f6
    go_wp2_with (refine store_arr2 info128 _ _ rfl rfl rfl w6.heap.size rfl rfl (fun _ _ => rfl) (f0 := n8 fun _ => 0) (rowIs_of (heap_alloc_new w6 _)) ?_; intro w7 r7 f7)
    replace f7 := (Fr.alloc None' w6 _).trans f7 (fun i e => Or.inr (by omega))
    have s7 := f7.rowIs s6 id
    have k7 := f7.rowIs k6 id
    have o7 := f7.rowIs o6 id
    have f07 := f06.then f7
    have l6 := s6.lt
    clear s6 k6 o6 f06 f7 hz
    refine (mixBlocks_any w2.heap.size (w2.heap.size + 1) (some ⟨w6.heap.size, 0, none⟩) sz 128 (sz / 64) (blks kc m iv q) kc (lastB r (fun i => m (n - r + i)) n) w7 HS2.out (by omega) (by omega) s7 k7 (by omega) (fun i hi => ⟨w6.heap.size, 0, rfl, by omega, by
      rw [Nat.zero_add]; exact r7.cell (by omega)⟩)).mono ?_
    rintro e w8 ⟨rfl, s8, f8⟩
    have o8 := f8.rowIs o7 (by omega)
    have f08 : Fr None' w w8 := f07.trans f8 (fun i e => Or.inr (by omega))
    have hV : Hid (blks kc (lastB r (fun i => m (n - r + i)) n) (blks kc m iv q) (sz / 64) = sumV n m) := by
      obtain ⟨h1, h2, h3⟩ := HQ.out
      show _ = _
      unfold sumV
      rw [h1, h2, HS.out]
    rw [hV.out] at s8
    clear r7 s7 k7 o7 f07 f8 hV
    go_wp2_with fail
    have r9 : (w8.alloc (.cells (arr 32 (n8 fun _ => 0)) 71)).rowIs w8.heap.size 71 32 (n8 fun _ => 0) := rowIs_of (heap_alloc_new w8 _)
    have f9 : Fr None' w8 (w8.alloc (.cells (arr 32 (n8 fun _ => 0)) 71)) := Fr.alloc _ _ _
    generalize hw9 : w8.alloc _ = w9
    replace r9 : w9.rowIs w8.heap.size 71 32 (n8 fun _ => 0) := by rw [← hw9]; exact r9
    replace f9 : Fr None' w8 w9 := by rw [← hw9]; exact f9
    have s9 := f9.rowIs s8 id
    have o9 := f9.rowIs o8 id
    have f09 := f08.then f9
    have l8 := s8.lt
    have l8o := o8.lt
    clear hw9 s8 o8 f08 f9
    go_loopw [35] (fun i wr => ∃ j : Nat, j ≤ 8 ∧ i = .int .i64 j ∧ wr.rowIs w8.heap.size 71 32 (fun i => if i < 4 * j then .int .u8 (sumB n m i) else .int .u8 0) ∧ wr.rowIs w2.heap.size 101 8 (n32 (sumV n m)) ∧ wr.rowIs w.heap.size 71 32 (n8 fun _ => 0) ∧ Fr None' w wr) (fun i _ => 8 - (intOf i).toNat)
    case atStart => exact ⟨0, by omega, rfl, r9.congr (fun i _ => by simp [n8]), s9, o9, f09⟩
    case round =>
      clear r9 s9 o9 f09
      obtain ⟨j, hj, rfl, q1, q2, q3, fr⟩ := hrel
      by_cases hlt : j < 8
      · have i0 : (j : Int) < 8 := by omega
        have cs := q2.cell hlt
        simp only [n32] at cs
        have l4 : 4 * (j : Int) ≤ 32 := by omega
        have l5 : ¬ (32 = 4 * j) := by omega
        have d4 : (0 : Int) ≤ 4 * (j : Int) := by omega
        have w4 : IntKind.i64.wrap (4 * (j : Int)) = 4 * j := by rw [IntKind.wrap_i64]; omega
        have t4 : (4 * (j : Int)).toNat = 4 * j := by omega
        go_wp2_with fail
        refine region_tail 6 mixed (by kernel_rfl) ?_
        simp only [List.take_succ_cons, List.take_zero, List.drop_succ_cons, List.drop_zero]
        repeat still_step
        refine wpStill_nil ?_
        go_wp2_with fail
        have q1' : wr.drew.rowIs w8.heap.size 71 32 (fun i => if i < 4 * j then .int .u8 (sumB n m i) else .int .u8 0) := q1
        refine (putWord_any w8.heap.size (4 * j) (32 - 4 * j) (32 - 4 * j) (sumV n m j) wr.drew (by omega) _ _ _ q1' (by omega)).mono ?_
        rintro e wx ⟨rfl, p1, fx⟩
        have p2 := fx.rowIs (World.rowIs.drew q2) (by omega)
        have p3 := fx.rowIs (World.rowIs.drew q3) (by omega)
        have fy : Fr None' w wx := (fr.then (Fr.drewN _ _ 1)).trans fx (fun i e => Or.inr (by omega))
        clear q1 q2 q3 fr q1' fx cs
        go_wp2
        go_roundw
        case rel => exact ⟨j + 1, by omega, by go_num, p1.congr (fun i _ => sum_step n m j i), p2, p3, fy⟩
        case measure => simp [intOf]; omega
      · have i0 : (8 : Int) ≤ (j : Int) := by omega
        have q1' : wr.rowIs w8.heap.size 71 32 (n8 (sumB n m)) := q1.congr (fun i hi => by rw [if_pos (by omega)]; rfl)
        clear q1 q2 hlt hj
        go_wp2_with (first
          | refine load_arr Tryz.underlying71 info32 w8.heap.size q1' _ rfl rfl rfl ?_
          | refine store_arr info32 w.heap.size q3 (fun _ _ => rfl) _ _ rfl rfl rfl rfl rfl ?_)
        refine bodyPost_ret (v := .agg (arr 32 (n8 (sumB n m)))) (result_arr Tryz.underlying71 info32 rfl _ rfl (rowIs_setRow q3)) rfl ⟨rfl, ?_⟩
        exact fr.trans (Fr.setRow (M := fun i => i = w.heap.size) _ rfl _) (fun i e => Or.inr (by omega))
end Go.Proofs.YtnmghgbpgpaomaaGreat.Sha

namespace Go.Proofs.YtnmghgbpgpaomaaGreat.Sha
open Go.RowKit
set_option maxRecDepth 100000

def hexc (x : Int) : Int := if x < 10 then 48 + x else 87 + x

/-- The name's bytes. -/
def nameB (n : Nat) (m : Nat → Int) (i : Nat) : Int := hexc (if i % 2 = 0 then sumB n m (i / 2) / 16 else sumB n m (i / 2) % 16)

def okc (c : UInt8) : Bool := (48 ≤ c.toNat && c.toNat ≤ 57) || (97 ≤ c.toNat && c.toNat ≤ 102)

theorem isDigit_any (c : Int) (w : World) : Calls Tryz.prog 78 #[.int .u8 c] w fun e w' => e = .returned (.bool (decide ((48 ≤ c ∧ c ≤ 57) ∨ (97 ≤ c ∧ c ≤ 102)))) ∧ w = w' := by
  go_enter Tryz.func78, Tryz.ntmps78
  go_wp2
  all_goals
    go_ret
    refine ⟨?_, rfl⟩
    simp <;> first | omega | (rw [Bool.eq_iff_iff]; simp; omega)

theorem hexIdx0 (w : World) : (Instr.index 9 (.string ⟨#[48, 49, 50, 51, 52, 53, 54, 55, 56, 57, 97, 98, 99, 100, 101, 102]⟩) (.int .u8 0)).run Tryz.prog w = .ok (.int .u8 (hexc 0)) w := by kernel_rfl
theorem hexIdx1 (w : World) : (Instr.index 9 (.string ⟨#[48, 49, 50, 51, 52, 53, 54, 55, 56, 57, 97, 98, 99, 100, 101, 102]⟩) (.int .u8 1)).run Tryz.prog w = .ok (.int .u8 (hexc 1)) w := by kernel_rfl
theorem hexIdx2 (w : World) : (Instr.index 9 (.string ⟨#[48, 49, 50, 51, 52, 53, 54, 55, 56, 57, 97, 98, 99, 100, 101, 102]⟩) (.int .u8 2)).run Tryz.prog w = .ok (.int .u8 (hexc 2)) w := by kernel_rfl
theorem hexIdx3 (w : World) : (Instr.index 9 (.string ⟨#[48, 49, 50, 51, 52, 53, 54, 55, 56, 57, 97, 98, 99, 100, 101, 102]⟩) (.int .u8 3)).run Tryz.prog w = .ok (.int .u8 (hexc 3)) w := by kernel_rfl
theorem hexIdx4 (w : World) : (Instr.index 9 (.string ⟨#[48, 49, 50, 51, 52, 53, 54, 55, 56, 57, 97, 98, 99, 100, 101, 102]⟩) (.int .u8 4)).run Tryz.prog w = .ok (.int .u8 (hexc 4)) w := by kernel_rfl
theorem hexIdx5 (w : World) : (Instr.index 9 (.string ⟨#[48, 49, 50, 51, 52, 53, 54, 55, 56, 57, 97, 98, 99, 100, 101, 102]⟩) (.int .u8 5)).run Tryz.prog w = .ok (.int .u8 (hexc 5)) w := by kernel_rfl
theorem hexIdx6 (w : World) : (Instr.index 9 (.string ⟨#[48, 49, 50, 51, 52, 53, 54, 55, 56, 57, 97, 98, 99, 100, 101, 102]⟩) (.int .u8 6)).run Tryz.prog w = .ok (.int .u8 (hexc 6)) w := by kernel_rfl
theorem hexIdx7 (w : World) : (Instr.index 9 (.string ⟨#[48, 49, 50, 51, 52, 53, 54, 55, 56, 57, 97, 98, 99, 100, 101, 102]⟩) (.int .u8 7)).run Tryz.prog w = .ok (.int .u8 (hexc 7)) w := by kernel_rfl
theorem hexIdx8 (w : World) : (Instr.index 9 (.string ⟨#[48, 49, 50, 51, 52, 53, 54, 55, 56, 57, 97, 98, 99, 100, 101, 102]⟩) (.int .u8 8)).run Tryz.prog w = .ok (.int .u8 (hexc 8)) w := by kernel_rfl
theorem hexIdx9 (w : World) : (Instr.index 9 (.string ⟨#[48, 49, 50, 51, 52, 53, 54, 55, 56, 57, 97, 98, 99, 100, 101, 102]⟩) (.int .u8 9)).run Tryz.prog w = .ok (.int .u8 (hexc 9)) w := by kernel_rfl
theorem hexIdx10 (w : World) : (Instr.index 9 (.string ⟨#[48, 49, 50, 51, 52, 53, 54, 55, 56, 57, 97, 98, 99, 100, 101, 102]⟩) (.int .u8 10)).run Tryz.prog w = .ok (.int .u8 (hexc 10)) w := by kernel_rfl
theorem hexIdx11 (w : World) : (Instr.index 9 (.string ⟨#[48, 49, 50, 51, 52, 53, 54, 55, 56, 57, 97, 98, 99, 100, 101, 102]⟩) (.int .u8 11)).run Tryz.prog w = .ok (.int .u8 (hexc 11)) w := by kernel_rfl
theorem hexIdx12 (w : World) : (Instr.index 9 (.string ⟨#[48, 49, 50, 51, 52, 53, 54, 55, 56, 57, 97, 98, 99, 100, 101, 102]⟩) (.int .u8 12)).run Tryz.prog w = .ok (.int .u8 (hexc 12)) w := by kernel_rfl
theorem hexIdx13 (w : World) : (Instr.index 9 (.string ⟨#[48, 49, 50, 51, 52, 53, 54, 55, 56, 57, 97, 98, 99, 100, 101, 102]⟩) (.int .u8 13)).run Tryz.prog w = .ok (.int .u8 (hexc 13)) w := by kernel_rfl
theorem hexIdx14 (w : World) : (Instr.index 9 (.string ⟨#[48, 49, 50, 51, 52, 53, 54, 55, 56, 57, 97, 98, 99, 100, 101, 102]⟩) (.int .u8 14)).run Tryz.prog w = .ok (.int .u8 (hexc 14)) w := by kernel_rfl
theorem hexIdx15 (w : World) : (Instr.index 9 (.string ⟨#[48, 49, 50, 51, 52, 53, 54, 55, 56, 57, 97, 98, 99, 100, 101, 102]⟩) (.int .u8 15)).run Tryz.prog w = .ok (.int .u8 (hexc 15)) w := by kernel_rfl

theorem hexIdx (y : Int) (h0 : 0 ≤ y) (h1 : y < 16) (w : World) : (Instr.index 9 (.string ⟨#[48, 49, 50, 51, 52, 53, 54, 55, 56, 57, 97, 98, 99, 100, 101, 102]⟩) (.int .u8 y)).run Tryz.prog w = .ok (.int .u8 (hexc y)) w := by
  have : y = 0 ∨ y = 1 ∨ y = 2 ∨ y = 3 ∨ y = 4 ∨ y = 5 ∨ y = 6 ∨ y = 7 ∨ y = 8 ∨ y = 9 ∨ y = 10 ∨ y = 11 ∨ y = 12 ∨ y = 13 ∨ y = 14 ∨ y = 15 := by omega
  rcases this with h | h | h | h | h | h | h | h | h | h | h | h | h | h | h | h
  · rw [h]; exact hexIdx0 w
  · rw [h]; exact hexIdx1 w
  · rw [h]; exact hexIdx2 w
  · rw [h]; exact hexIdx3 w
  · rw [h]; exact hexIdx4 w
  · rw [h]; exact hexIdx5 w
  · rw [h]; exact hexIdx6 w
  · rw [h]; exact hexIdx7 w
  · rw [h]; exact hexIdx8 w
  · rw [h]; exact hexIdx9 w
  · rw [h]; exact hexIdx10 w
  · rw [h]; exact hexIdx11 w
  · rw [h]; exact hexIdx12 w
  · rw [h]; exact hexIdx13 w
  · rw [h]; exact hexIdx14 w
  · rw [h]; exact hexIdx15 w

theorem sumB_range (n : Nat) (m : Nat → Int) (i : Nat) : 0 ≤ sumB n m i ∧ sumB n m i ≤ 255 := by
  unfold sumB bt
  split <;> omega

theorem name_step (n : Nat) (m : Nat → Int) (j i : Nat) : (if i = 2 * j + 1 then Value.int .u8 (hexc (sumB n m j % 16)) else if i = 2 * j then Value.int .u8 (hexc (sumB n m j / 16)) else if i < 2 * j then Value.int .u8 (nameB n m i) else .int .u8 0) = if i < 2 * (j + 1) then Value.int .u8 (nameB n m i) else .int .u8 0 := by
  by_cases h1 : i = 2 * j + 1
  · rw [if_pos h1, if_pos (by omega)]
    unfold nameB
    rw [if_neg (by omega), show i / 2 = j by omega]
  · rw [if_neg h1]
    by_cases h2 : i = 2 * j
    · rw [if_pos h2, if_pos (by omega)]
      unfold nameB
      rw [if_pos (by omega), show i / 2 = j by omega]
    · rw [if_neg h2]
      by_cases h3 : i < 2 * j
      · rw [if_pos h3, if_pos (by omega)]
      · rw [if_neg h3, if_neg (by omega)]

/-- The name's text. -/
def nameS (n : Nat) (m : Nat → Int) : List UInt8 := (List.range 64).map (fun i => UInt8.ofNat (nameB n m i).toNat)

theorem nameS_length (n : Nat) (m : Nat → Int) : (nameS n m).length = 64 := by simp [nameS]

theorem nameB_range (n : Nat) (m : Nat → Int) (i : Nat) : 0 ≤ nameB n m i ∧ nameB n m i ≤ 255 := by
  unfold nameB hexc
  have := sumB_range n m (i / 2)
  split <;> split <;> omega

theorem nameS_at (n : Nat) (m : Nat → Int) (i : Nat) (h : i < (nameS n m).length) : (((nameS n m)[i]).toNat : Int) = nameB n m i := by
  have := nameB_range n m i
  simp only [nameS, List.getElem_map, List.getElem_range]
  rw [UInt8.toNat_ofNat']
  omega

set_option maxHeartbeats 4000000 in
theorem name_any (v : Value) (n : Nat) (m : Nat → Int) (w : World) (h : Byt w v n m) (hbig : n ≤ 1000000) :
   Calls Tryz.prog 38 #[v] w fun e w' => e = .returned (.string ⟨(nameS n m).toArray⟩) ∧ Fr None' w w' := by
  have hs := sum_any v n m w h hbig
  obtain ⟨va, cap, rfl, hcap, hc⟩ := h
  go_enter Tryz.func38, Tryz.ntmps38
  go_wp2_with fail
  refine hs.mono ?_
  rintro e w1 ⟨rfl, f1⟩
  clear hs hc
  go_wp2_with (first
    | (refine store_arr2 info32 _ _ rfl rfl rfl w1.heap.size rfl rfl (fun _ _ => rfl) (f0 := n8 fun _ => 0) (rowIs_of (heap_alloc_new w1 _)) ?_
       intro w3 r3 f3))
  have r4 : (w3.alloc (.cells (arr 64 (n8 fun _ => 0)) 105)).rowIs w3.heap.size 105 64 (n8 fun _ => 0) := rowIs_of (heap_alloc_new w3 _)
  have f4 : Fr None' w3 (w3.alloc (.cells (arr 64 (n8 fun _ => 0)) 105)) := Fr.alloc _ _ _
  generalize hw4 : w3.alloc _ = w4
  replace r4 : w4.rowIs w3.heap.size 105 64 (n8 fun _ => 0) := by rw [← hw4]; exact r4
  replace f4 : Fr None' w3 w4 := by rw [← hw4]; exact f4
  have s4 := f4.rowIs r3 id
  have f04 : Fr None' w w4 := ((f1.then (Fr.alloc _ _ _)).trans f3 (fun i e => Or.inr (by have := f1.size; omega))).then f4
  have l3 := r3.lt
  have l1 := f1.size
  have l2 : w.heap.size ≤ w3.heap.size := by omega
  clear hw4 f3 f1 r3 f4
  go_loopw [8] (fun i wr => ∃ j : Nat, j ≤ 32 ∧ i = .int .i64 j ∧ wr.rowIs w3.heap.size 105 64 (fun i => if i < 2 * j then .int .u8 (nameB n m i) else .int .u8 0) ∧ wr.rowIs w1.heap.size 71 32 (n8 (sumB n m)) ∧ Fr None' w wr) (fun i _ => 32 - (intOf i).toNat)
  case atStart => exact ⟨0, by omega, rfl, r4.congr (fun i _ => by simp [n8]), s4, f04⟩
  case round =>
    clear r4 s4 f04
    obtain ⟨j, hj, rfl, q1, q2, fr⟩ := hrel
    by_cases hlt : j < 32
    · have i0 : (j : Int) < 32 := by omega
      obtain ⟨s, hs⟩ : ∃ s, sumB n m j = s := ⟨_, rfl⟩
      have hb := sumB_range n m j
      rw [hs] at hb
      have cs : wr.cell? ⟨w1.heap.size, j, none⟩ = some (.int .u8 s) := by rw [← hs]; exact q2.cell hlt
      have a15 : bits .and .u8 s 15 = s % 16 := u8_and15 s hb.1 (by omega)
      have h1 := hexIdx (s / 16) (by omega) (by omega)
      have h2 := hexIdx (s % 16) (by omega) (by omega)
      have x1 := q1.cell (i := 2 * j) (by omega)
      have x2 := q1.cell (i := 2 * j + 1) (by omega)
      have z1 := q1.frozen (2 * j)
      have z2 := q1.frozen (2 * j + 1)
      have b1 : 2 * (j : Int) < 64 := by omega
      have b2 : 2 * (j : Int) + 1 < 64 := by omega
      have d1 : 0 ≤ 2 * (j : Int) := by omega
      have d2 : 0 ≤ 2 * (j : Int) + 1 := by omega
      have v1 : IntKind.i64.wrap (2 * (j : Int)) = 2 * j := by rw [IntKind.wrap_i64]; omega
      have v2 : IntKind.i64.wrap (2 * (j : Int) + 1) = 2 * j + 1 := by rw [IntKind.wrap_i64]; omega
      have t1 : (2 * (j : Int)).toNat = 2 * j := by omega
      have t2 : (2 * (j : Int) + 1).toNat = 2 * j + 1 := by omega
      have HS : Hid (sumB n m j = s) := hs
      clear hs hb
      go_wp2_with fail
      go_region
      have q2' := World.rowIs.drew q2
      have q1' := World.rowIs.drew q1
      have fr' := fr.then (Fr.drewN None' _ 1)
      clear q1 q2 fr h1 h2 cs
      go_wp2
      go_roundw
      case rel =>
        refine ⟨j + 1, by omega, by go_num, ((q1'.set (2 * j) _).set (2 * j + 1) _).congr (fun i _ => by rw [← HS.out]; exact name_step n m j i), (q2'.setOther (by simp; omega) _).setOther (by simp; omega) _, (fr'.trans (Fr.setCell (M := fun i => i = w3.heap.size) _ rfl _) (fun i e => Or.inr (by omega))).trans (Fr.setCell (M := fun i => i = w3.heap.size) _ rfl _) (fun i e => Or.inr (by omega))⟩
      case measure => simp [intOf]; omega
    · have i0 : (32 : Int) ≤ (j : Int) := by omega
      have q1' : wr.rowIs w3.heap.size 105 64 (n8 (nameB n m)) := q1.congr (fun i hi => by rw [if_pos (by omega)]; rfl)
      clear q1 q2 hlt hj
      have hcv := run_convert_bytes_back (P := Tryz.prog) wr 31 9 5 ⟨w3.heap.size, 0, none⟩ 64 (nameS n m) Tryz.underlying31 Tryz.underlying5 Tryz.underlying9 (fun i hi => by
        rw [nameS_at]
        have hadd : (⟨w3.heap.size, 0, none⟩ : Addr).add i = ⟨w3.heap.size, i, none⟩ := by unfold Addr.add; split <;> simp_all
        rw [hadd]
        exact q1'.cell (by rw [nameS_length] at hi; exact hi))
      rw [nameS_length] at hcv
      go_wp2
      go_ret
      exact ⟨rfl, fr⟩
end Go.Proofs.YtnmghgbpgpaomaaGreat.Sha

namespace Go.Proofs.YtnmghgbpgpaomaaGreat.Sha
open Go.RowKit
set_option maxRecDepth 100000

/-- Is a byte a digit of a name? Are these bytes a name? -/
def okd (c : UInt8) : Bool := decide ((48 ≤ (c.toNat : Int) ∧ (c.toNat : Int) ≤ 57) ∨ (97 ≤ (c.toNat : Int) ∧ (c.toNat : Int) ≤ 102))
def namedB (l : List UInt8) : Bool := decide (l.length = 64) && l.all okd

theorem isDigit_is (c : UInt8) (w : World) : Calls Tryz.prog 78 #[.int .u8 c.toNat] w fun e w' => e = .returned (.bool (okd c)) ∧ w = w' := isDigit_any c.toNat w

theorem take_snoc (s : ByteArray) (k : Nat) (h : k < s.size) : s.data.toList.take (k + 1) = s.data.toList.take k ++ [s[k]] := by
  rw [List.take_succ_eq_append_getElem (by simpa using h)]; rfl

theorem all_step {s : ByteArray} {k : Nat} (h : k < s.size) (ha : (s.data.toList.take k).all okd = true) (hc : okd s[k] = true) : (s.data.toList.take (k + 1)).all okd = true := by
  rw [take_snoc s k h, List.all_append, ha]
  simp [hc]

theorem all_no {s : ByteArray} {k : Nat} (h : k < s.size) (hc : okd s[k] = false) : s.data.toList.all okd = false := by
  rw [List.all_eq_false]
  exact ⟨s[k], List.getElem_mem (l := s.data.toList) (n := k) (by rw [show s.data.toList.length = s.size from by cases s; rfl]; exact h), by simp [hc]⟩

set_option maxHeartbeats 1000000 in
theorem named_any (s : ByteArray) (w : World) (hs : s.size ≤ maxLen) : Calls Tryz.prog 46 #[.string s] w fun e w' => e = .returned (.bool (namedB s.data.toList)) ∧ w = w' := by
  have e : s.data.toList.length = s.size := by cases s; rfl
  unfold maxLen at hs
  by_cases h1 : s.size = 64
  · have hR : Hid (namedB s.data.toList = s.data.toList.all okd) := by
      unfold Hid namedB; rw [e, h1]; simp
    have hsz : (s.size : Int) = 64 := by omega
    have HZ : Hid (s.size = 64) := h1
    clear e h1
    go_enter Tryz.func46, Tryz.ntmps46
    go_wp2_with fail
    go_loop [9] (fun i => ∃ k : Nat, k ≤ s.size ∧ i = .int .i64 k ∧ (s.data.toList.take k).all okd = true) (fun i => s.size - (intOf i).toNat)
    case atStart => exact ⟨0, Nat.zero_le _, rfl, rfl⟩
    case round =>
      obtain ⟨k, hk, rfl, hall⟩ := hrel
      have HA : Hid ((s.data.toList.take k).all okd = true) := hall
      clear hall
      by_cases hlt : k < s.size
      · cases hc : okd s[k]
        · go_wp2_with (go_at_call 78; refine (isDigit_is _ _).mono ?_; rintro e w' ⟨rfl, rfl⟩)
          go_ret
          refine ⟨?_, rfl⟩
          rw [hR.out, all_no hlt hc]
          rfl
        · go_wp2_with (go_at_call 78; refine (isDigit_is _ _).mono ?_; rintro e w' ⟨rfl, rfl⟩)
          go_round
          case rel => exact ⟨k + 1, by omega, by go_num, all_step hlt HA.out hc⟩
          case measure => simp [intOf]; omega
      · go_wp2
        go_ret
        refine ⟨?_, rfl⟩
        have ht := HA.out
        rw [List.take_of_length_le (by rw [show s.data.toList.length = s.size from by cases s; rfl]; omega)] at ht
        rw [hR.out, ht]
        rfl
  · have hR : namedB s.data.toList = false := by
      unfold namedB; rw [e]; simp [h1]
    have hsz : ¬ (s.size : Int) = 64 := by omega
    rw [hR]
    clear e hR
    go_enter Tryz.func46, Tryz.ntmps46
    go_wp2
    go_ret
    exact ⟨rfl, rfl⟩
end Go.Proofs.YtnmghgbpgpaomaaGreat.Sha

namespace Go.Proofs.YtnmghgbpgpaomaaGreat.Sha
open Go.RowKit
set_option maxRecDepth 100000

/-- Are n numbers alike? -/
def sameF (n : Nat) (f g : Nat → Int) : Bool := (List.range n).all fun i => f i == g i

theorem sameF_iff (n : Nat) (f g : Nat → Int) : sameF n f g = true ↔ ∀ i, i < n → f i = g i := by
  simp [sameF, List.all_eq_true]

theorem items_same (d : Nat) (f g : Nat → Int) (w : World) : ∀ l : List Nat, (∀ i ∈ l, i < 32) → (Op.eqItems (d + 1) 5 1 (arr 32 (n8 f)) (arr 32 (n8 g)) l).run Tryz.prog w = .ok (l.all fun i => f i == g i) w
  | [], _ => by simp [Op.eqItems]
  | i :: l, h => by
    have hi := h i (by simp)
    have ih := items_same d f g w l (fun j hj => h j (by simp [hj]))
    have p1 := run_part_plain (P := Tryz.prog) w (e := 5) (by kernel_rfl) (xs := arr 32 (n8 f)) (off := i * 1) (v := n8 f i) (by rw [Nat.mul_one]; exact arr_get _ _ hi)
    have p2 := run_part_plain (P := Tryz.prog) w (e := 5) (by kernel_rfl) (xs := arr 32 (n8 g)) (off := i * 1) (v := n8 g i) (by rw [Nat.mul_one]; exact arr_get _ _ hi)
    have p3 := run_equalIn_int (P := Tryz.prog) w d 5 .u8 .u8 (f i) (g i) Tryz.underlying5
    simp only [Op.eqItems, Sem.run_bind, p1, p2, Result.andThen_ok]
    simp only [n8, p3, Result.andThen_ok]
    cases hfg : f i == g i
    · simp [hfg]
    · simp [hfg, ih]

theorem equal32 (f g : Nat → Int) (w : World) : (Op.equalIn 10000 71 (.agg (arr 32 (n8 f))) (.agg (arr 32 (n8 g)))).run Tryz.prog w = .ok (sameF 32 f g) w := by
  obtain ⟨i, hi⟩ : ∃ i, Tryz.prog.info? 5 = some i := ⟨_, rfl⟩
  have h := run_equalIn_array (P := Tryz.prog) w 9999 (arr 32 (n8 f)) (arr 32 (n8 g)) Tryz.underlying71 hi
  rw [show Tryz.prog.cellsOf 5 = 1 from by kernel_rfl] at h
  rw [show (10000 : Nat) = 9999 + 1 from rfl, h]
  exact items_same 9998 f g w _ (fun i hi => by simpa using hi)

theorem hexc_inj {x y : Int} (hx : 0 ≤ x ∧ x < 16) (hy : 0 ≤ y ∧ y < 16) (h : hexc x = hexc y) : x = y := by
  unfold hexc at h
  split at h <;> split at h <;> omega

/-- Names are alike just if the sums are. -/
theorem nameS_iff (n n' : Nat) (m m' : Nat → Int) : (nameS n m = nameS n' m') ↔ sameF 32 (sumB n m) (sumB n' m') = true := by
  rw [sameF_iff]
  constructor
  · intro h i hi
    have hb : ∀ j, j < 64 → nameB n m j = nameB n' m' j := fun j hj => by
      rw [← nameS_at n m j (by rw [nameS_length]; exact hj), ← nameS_at n' m' j (by rw [nameS_length]; exact hj)]
      simp [h]
    have h0 := hb (2 * i) (by omega)
    have h1 := hb (2 * i + 1) (by omega)
    have r1 := sumB_range n m i
    have r2 := sumB_range n' m' i
    unfold nameB at h0 h1
    rw [if_pos (by omega), if_pos (by omega), show 2 * i / 2 = i by omega] at h0
    rw [if_neg (by omega), if_neg (by omega), show (2 * i + 1) / 2 = i by omega] at h1
    have k0 := hexc_inj (by omega) (by omega) h0
    have k1 := hexc_inj (by omega) (by omega) h1
    omega
  · intro h
    unfold nameS
    apply List.map_congr_left
    intro i hi
    have : i < 64 := by simpa using hi
    unfold nameB
    rw [h (i / 2) (by omega)]

theorem nameS_beq (n n' : Nat) (m m' : Nat → Int) : (nameS n m == nameS n' m') = sameF 32 (sumB n m) (sumB n' m') := by
  rw [Bool.eq_iff_iff, beq_iff_eq]
  exact nameS_iff n n' m m'

theorem okd_name (n : Nat) (m : Nat → Int) : (nameS n m).all okd = true := by
  rw [List.all_eq_true]
  intro c hc
  obtain ⟨i, hi, rfl⟩ := List.getElem_of_mem hc
  have e := nameS_at n m i hi
  unfold okd
  rw [e]
  have := sumB_range n m (i / 2)
  unfold nameB hexc
  simp only [decide_eq_true_eq]
  split <;> split <;> omega

theorem named_name (n : Nat) (m : Nat → Int) : namedB (nameS n m) = true := by
  unfold namedB
  rw [nameS_length, okd_name]
  rfl

theorem named_len {l : List UInt8} (h : l.length ≠ 64) : namedB l = false := by
  unfold namedB; simp [h]

theorem named_G (x y : List UInt8) : namedB (x ++ 71 :: y) = false := by
  unfold namedB
  simp [okd]

theorem Byt.fr {w w' : World} {v : Value} {n : Nat} {m : Nat → Int} (h : Byt w v n m) (f : Fr None' w w') : Byt w' v n m := by
  obtain ⟨va, cap, e, hc, h⟩ := h
  exact ⟨va, cap, e, hc, fun i hi => by obtain ⟨b, o, e, hb⟩ := h i hi; exact ⟨b, o, e, f.cell hb id⟩⟩

theorem one_size (c : UInt8) : (⟨#[c]⟩ : ByteArray).size = 1 := rfl
theorem max1000 : 1000 ≤ maxLen := by decide

theorem namedIs (s : ByteArray) (w : World) (hs : s.size ≤ maxLen) :
   (namedB s.data.toList = false → Calls Tryz.prog 46 #[.string s] w fun e w' => e = .returned (.bool false) ∧ w = w') ∧ (namedB s.data.toList = true → Calls Tryz.prog 46 #[.string s] w fun e w' => e = .returned (.bool true) ∧ w = w') :=
  ⟨fun h => h ▸ named_any s w hs, fun h => h ▸ named_any s w hs⟩
end Go.Proofs.YtnmghgbpgpaomaaGreat.Sha

namespace Go.Proofs.YtnmghgbpgpaomaaGreat.Sha
open Go.RowKit
set_option maxRecDepth 100000

/-- v is a row of the numbers l, made since w0. -/
def Own (e : TypeId) (k : IntKind) (w0 w : World) (v : Value) (l : List Int) : Prop := w.ownsRow w0.heap.size e 1 v l.length (l.map (Value.int k))

/-- The numbers of a slice, as they lie in memory. -/
def Lies (k : IntKind) (w : World) (va : Option Addr) (n : Nat) (m : Nat → Int) : Prop := ∀ i, i < n → ∃ b o, va = some ⟨b, o, none⟩ ∧ w.cell? ⟨b, o + i, none⟩ = some (.int k (m i))

theorem Byt.lies {w : World} {va : Option Addr} {n c : Nat} {m : Nat → Int} (h : Byt w (.slice va n c) n m) : Lies .u8 w va n m := by
  obtain ⟨va', cap, e, _, h⟩ := h
  cases e
  exact h

theorem Own.slice {e : TypeId} {k : IntKind} {w0 w : World} {v : Value} {l : List Int} (h : Own e k w0 w v l) : ∃ va c, v = .slice va l.length c ∧ l.length ≤ c ∧ (va = none → c = 0) ∧ Lies k w va l.length (fun i => l.getD i 0) := by
  rcases h.2 with ⟨hv, h0⟩ | ⟨g, cap, cur, hv, hb, hh, hc, _, hs, ht⟩
  · refine ⟨none, 0, by rw [hv, h0], by omega, fun _ => rfl, fun i hi => by omega⟩
  · refine ⟨_, cap, hv, hc, fun e => by simp at e, fun i hi => ⟨g, 0, rfl, ?_⟩⟩
    have hl : (l.map (Value.int k))[i]? = some (.int k (l.getD i 0)) := by
      rw [List.getElem?_map, List.getElem?_eq_getElem hi, List.getD_eq_getElem?_getD, List.getElem?_eq_getElem hi]
      rfl
    rw [← ht, List.getElem?_take, if_pos (by omega)] at hl
    rw [World.cell?, Nat.zero_add, hh]
    simpa using hl

theorem Own.byt {w0 w : World} {v : Value} {l : List Int} {e : TypeId} (h : Own e .u8 w0 w v l) : Byt w v l.length (fun i => l.getD i 0) := by
  obtain ⟨va, c, e, hc, _, hl⟩ := h.slice
  exact ⟨va, c, e, hc, hl⟩

theorem Own.alloc {e : TypeId} {k : IntKind} {w0 w : World} {v : Value} {l : List Int} (h : Own e k w0 w v l) (o : Obj) : Own e k w0 (w.alloc o) v l := World.ownsRow.alloc h o

theorem Own.fr {e : TypeId} {k : IntKind} {w0 w w' : World} {v : Value} {l : List Int} (h : Own e k w0 w v l) (f : Fr None' w w') : Own e k w0 w' v l := by
  refine ⟨h.1, ?_⟩
  rcases h.2 with h | ⟨g, cap, cur, hv, hb, hh, h⟩
  · exact Or.inl h
  · exact Or.inr ⟨g, cap, cur, hv, hb, f.at hh id, h⟩

theorem Own.nil (e : TypeId) (k : IntKind) (w0 w : World) : Own e k w0 w (.slice none 0 0) [] := World.ownsRow_nil w _ e 1

/-- 'append([]T{}, ..)': an empty row of no room. -/
theorem Own.empty {e : TypeId} {k : IntKind} {w0 w : World} (hb : w0.heap.size ≤ w.heap.size) : Own e k w0 (w.alloc (.cells #[] e)) (.slice (some ⟨w.heap.size, 0, none⟩) 0 0) [] :=
  ⟨rfl, Or.inr ⟨w.heap.size, 0, #[], rfl, hb, heap_alloc_new w _, Nat.le_refl _, Nat.zero_le _, rfl, rfl⟩⟩

theorem append_num {e t : TypeId} {k : IntKind} {by' : Nat} (hu : Tryz.prog.underlying t = some (.slice e)) (hinfo : (Tryz.prog.info? e).map (fun i => (i.zero, i.size, i.bytes)) = some (some (.int k 0), 1, by')) (hby : by' ≤ 8)
    {ops : Array Oper} {rest : List Oper} {o : Oper} {a : Act} {w : World} {Q : Exit → Act → World → Prop} (hgd : o.guard = none) (s x : Operand)
    (ho : o.op = .call { callee := .builtin .append, args := #[s, x], argTypes := #[t, t] })
    {w0 : World} {v : Value} {l : List Int} (hs : a.eval s = v) (hown : Own e k w0 w v l) (hfr : Fr None' w0 w) {va : Option Addr} {n c : Nat} {m : Nat → Int} (hx : a.eval x = .slice va n c) (hl : Lies k w va n m) (hn : va = none → c = 0) (hbig : l.length + n ≤ 1000000)
    (h : ∀ v' w', Own e k w0 w' v' (l ++ (List.range n).map m) → Fr None' w0 w' → Fr (fun i => v.ownBlock = some i) w w' → wpList Tryz.prog ops Q rest (a.put o.dst v') w') : wpList Tryz.prog ops Q (o :: rest) a w := by
  obtain ⟨i0, hi, hz0, hz1, hz2⟩ := info_parts hinfo
  cases va with
  | none =>
    obtain rfl := hn rfl
    have hn0 : n = 0 := by
      rcases Nat.eq_zero_or_pos n with h | h
      · exact h
      · obtain ⟨b, o, e, _⟩ := hl 0 h
        cases e
    subst hn0
    refine wpList_append_own_none hgd s x t ho w0.heap.size e i0 1 hu hi v _ _ hs hown hx (h v w ?_ hfr (Fr.refl _ _))
    simpa using hown
  | some ad =>
    have hnews : ∀ j u, (((List.range n).map m).map (Value.int k))[j]? = some u → w.cell? (ad.add j) = some u := fun j u hj => by
      have hjn : j < n := by
        have := (List.getElem?_eq_some_iff.1 hj).1
        simpa using this
      obtain ⟨b, o, e, hc⟩ := hl j hjn
      cases e
      have hadd : (⟨b, o, none⟩ : Addr).add j = ⟨b, o + j, none⟩ := by unfold Addr.add; split <;> simp_all
      rw [hadd, hc]
      simp [List.getElem?_map, List.getElem?_range hjn] at hj
      rw [← hj]
    have hm : (l.length + n) * by' ≤ 8000000 := Nat.le_trans (Nat.mul_le_mul hbig hby) (by omega)
    refine wpList_append_own_at _ hgd s x t ho w0.heap.size e i0 (.int k 0) 1 by' hu hi hz0 hz1 hz2 rfl (by decide) v _ _ hs hown ad n c (((List.range n).map m).map (Value.int k)) hx (by simp) hnews (fun u hu => by
      obtain ⟨z, _, rfl⟩ := List.mem_map.1 hu; rfl) (by unfold maxLen; omega) (by omega) hfr.size ?_
    intro v' w' h1 h2 _ _
    refine h v' w' ?_ ?_ (Fr.grown h2 (fun k e => e))
    · unfold Own
      rw [List.length_append, List.map_append, List.length_map, List.length_range]
      exact h1
    · refine hfr.trans (Fr.grown (M := fun i => v.ownBlock = some i) h2 (fun k e => e)) (fun i e => Or.inr ?_)
      rcases hown.2 with ⟨hvv, _⟩ | ⟨g', cap', cur', hvv, hb', _⟩
      · rw [hvv] at e; cases e
      · rw [hvv] at e; cases e; exact hb'

/-- One number more, as one step of a region that draws its order. -/
theorem step_num {e t : TypeId} {k : IntKind} {by' : Nat} (hu : Tryz.prog.underlying t = some (.slice e)) (hinfo : (Tryz.prog.info? e).map (fun i => (i.zero, i.size, i.bytes)) = some (some (.int k 0), 1, by')) (hby : by' ≤ 8)
    {ops : Array Oper} {o : Oper} {a : Act} {K : Act → World → Prop} {Q : Exit → Act → World → Prop} {E : Prop} {w : World} (hgd : o.guard = none) (s x : Operand)
    (ho : o.op = .call { callee := .builtin .append, args := #[s, x], argTypes := #[t, t] })
    {w0 : World} {v : Value} {l : List Int} (hs : a.eval s = v) (hown : Own e k w0 w v l) (hfr : Fr None' w0 w) {b : Nat} {z : Int} (hx : a.eval x = .slice (some ⟨b, 0, none⟩) 1 1) (hl : Lies k w (some ⟨b, 0, none⟩) 1 (fun _ => z)) (hbig : l.length ≤ 100000)
    (h : ∀ v' w', Own e k w0 w' v' (l ++ [z]) → Fr None' w0 w' → K (a.put o.dst v') w') : if Region.wanted o (yielded ops a.tmps) = true then Oper.wp Tryz.prog o a w K Q else E := by
  obtain ⟨i0, hi, hz0, hz1, hz2⟩ := info_parts hinfo
  have hm : (l.length + 1) * by' ≤ 100001 * 8 := Nat.mul_le_mul (by omega) hby
  refine step_append_lies _ hgd s x t ho w0.heap.size e i0 (.int k 0) 1 by' hu hi hz0 hz1 hz2 rfl (by decide) v _ _ hs hown ⟨b, 0, none⟩ 1 1 [.int k z] hx (by simp) (fun j u hj => ?_) (fun u hu => by simp at hu; subst hu; rfl) (by decide) (by unfold maxLen; omega) (by omega) hfr.size _ rfl ?_
  · obtain rfl : j = 0 := by
      have := (List.getElem?_eq_some_iff.1 hj).1
      simpa using this
    obtain ⟨b', o', e, hc⟩ := hl 0 (by omega)
    cases e
    simp at hj
    rw [← hj]
    exact hc
  intro g cap w' h1 h2 _ _
  refine h _ w' ?_ ?_
  · unfold Own
    rw [List.length_append, List.map_append]
    exact h1
  · refine hfr.trans (Fr.grown (M := fun i => v.ownBlock = some i) h2 (fun k e => e)) (fun i e => Or.inr ?_)
    rcases hown.2 with ⟨hvv, _⟩ | ⟨g', cap', cur', hvv, hb', _⟩
    · rw [hvv] at e; cases e
    · rw [hvv] at e; cases e; exact hb'

/-- The same where the row lies in memory already: what lay there lies there still. -/
theorem step_num2 {e t : TypeId} {k : IntKind} {by' : Nat} (hu : Tryz.prog.underlying t = some (.slice e)) (hinfo : (Tryz.prog.info? e).map (fun i => (i.zero, i.size, i.bytes)) = some (some (.int k 0), 1, by')) (hby : by' ≤ 8)
    {ops : Array Oper} {o : Oper} {a : Act} {K : Act → World → Prop} {Q : Exit → Act → World → Prop} {E : Prop} {w : World} (hgd : o.guard = none) (s x : Operand)
    (ho : o.op = .call { callee := .builtin .append, args := #[s, x], argTypes := #[t, t] })
    {w0 : World} {g n cap : Nat} {l : List Int} (hs : a.eval s = .slice (some ⟨g, 0, none⟩) n cap) (hn : n = l.length) (hown : Own e k w0 w (.slice (some ⟨g, 0, none⟩) n cap) l) (hfr : Fr None' w0 w) {b : Nat} {z : Int} (hx : a.eval x = .slice (some ⟨b, 0, none⟩) 1 1) (hl : Lies k w (some ⟨b, 0, none⟩) 1 (fun _ => z)) (hbig : l.length ≤ 100000)
    (h : ∀ v' w', Own e k w0 w' v' (l ++ [z]) → Fr None' w0 w' → (∀ j, j < n → w'.cell? ⟨g, j, none⟩ = w.cell? ⟨g, j, none⟩) → K (a.put o.dst v') w') : if Region.wanted o (yielded ops a.tmps) = true then Oper.wp Tryz.prog o a w K Q else E := by
  obtain ⟨i0, hi, hz0, hz1, hz2⟩ := info_parts hinfo
  subst hn
  have hm : (l.length + 1) * by' ≤ 100001 * 8 := Nat.mul_le_mul (by omega) hby
  have hnews : ∀ j u, [Value.int k z][j]? = some u → w.cell? ((⟨b, 0, none⟩ : Addr).add j) = some u := fun j u hj => by
    obtain rfl : j = 0 := by
      have := (List.getElem?_eq_some_iff.1 hj).1
      simpa using this
    obtain ⟨b', o', e, hc⟩ := hl 0 (by omega)
    cases e
    simp at hj
    rw [← hj]
    exact hc
  have h1c : ∀ u ∈ [Value.int k z], u.oneCell' = true := fun u hu => by simp at hu; subst hu; rfl
  obtain ⟨v', w', hr, h2, h3, _, _⟩ := run_append_own_at (P := Tryz.prog) w w0.heap.size t o.type e i0 (.int k 0) 1 by' hu hi hz0 hz1 hz2 rfl (by decide) _ l.length _ hown ⟨b, 0, none⟩ 1 1 [.int k z] (by simp) hnews h1c (by unfold maxLen; omega) (by omega) hfr.size
  have hlt : g < w.heap.size := (World.ownsRow.lt hown g rfl).2
  have hkeep : ∀ j, j < l.length → w'.cell? ⟨g, j, none⟩ = w.cell? ⟨g, j, none⟩ := fun j hj => by
    rcases hown.2 with ⟨hv, _⟩ | ⟨g', cap', cur, hv, _, hh, hcap, hmax, hsz, ht⟩
    · cases hv
    · cases hv
      by_cases hroom : l.length + 1 ≤ cap
      · have hr2 := run_append_room_cells (P := Tryz.prog) w t o.type e i0 hu hi g 0 l.length cap ⟨b, 0, none⟩ 1 1 [.int k z] (by rw [hz1]; rfl) hnews h1c hroom (fun j hj => by
          obtain rfl : j = 0 := by simpa using hj
          rw [hz1, World.cell?, hh]
          simp
          omega) (fun j hj => by
          rw [World.frozen?, hh]
          simp)
        rw [hr] at hr2
        injection hr2 with _ hw
        rw [hw]
        exact World.cell?_setCells_out g _ _ _ _ (fun _ _ => Or.inl (by rw [hz1]; show j < 0 + l.length * 1; omega))
      · obtain ⟨v2, w2, hr2, _, hg2⟩ := run_append_arg_grows (P := Tryz.prog) w t o.type e i0 (.int k 0) 1 by' hu hi hz0 hz1 hz2 rfl (by decide) ⟨g, 0, none⟩ l.length cap (l.map (Value.int k)) (by simp) (fun j u hj => World.ownsRow.cells hown rfl j u hj) ⟨b, 0, none⟩ 1 1 [.int k z] (by simp) hnews (by omega) (by unfold maxLen; omega) (by omega)
        rw [hr] at hr2
        injection hr2 with _ hw
        rw [hw]
        exact World.cell?_of_block (hg2.block g hlt (by simp))
  have hw : Region.wanted o (yielded ops a.tmps) = true := by simp [Region.wanted, hgd]
  rw [if_pos hw]
  unfold Oper.wp execOp
  simp only [ho, resolve, invoke, builtin, Sem.run_bind, Sem.run_pure, Result.andThen_ok, List.map_toArray, List.map_cons, List.map_nil, hs, hx, hr]
  refine h v' w' ?_ ?_ hkeep
  · unfold Own
    rw [List.length_append, List.map_append]
    exact h2
  · refine hfr.trans (Fr.grown (M := fun i => i = g) h3 (fun k e => by cases e; rfl)) (fun i e => Or.inr ?_)
    rw [e]
    exact (World.ownsRow.lt hown g rfl).1

theorem Tryz.info8 : (Tryz.prog.info? 5).map (fun i => (i.zero, i.size, i.bytes)) = some (some (.int .u8 0), 1, 1) := by kernel_rfl
theorem Tryz.info4 : (Tryz.prog.info? 98).map (fun i => (i.zero, i.size, i.bytes)) = some (some (.int .u32 0), 1, 4) := by kernel_rfl

theorem range_getD (n : Nat) (m : Nat → Int) {i : Nat} (h : i < n) : ((List.range n).map m).getD i 0 = m i := by
  rw [List.getD_eq_getElem?_getD, List.getElem?_map, List.getElem?_range h]; rfl

/-- Sums do not ask what lies past the end. -/
theorem Byt.congr {w : World} {v : Value} {n : Nat} {m m' : Nat → Int} (h : Byt w v n m) (hm : ∀ i, i < n → m i = m' i) : Byt w v n m' := by
  obtain ⟨va, c, e, hc, h⟩ := h
  exact ⟨va, c, e, hc, fun i hi => by rw [← hm i hi]; exact h i hi⟩

theorem range_byt {e : TypeId} {w0 w : World} {v : Value} {n : Nat} {m : Nat → Int} (h : Own e .u8 w0 w v ((List.range n).map m)) : Byt w v n m := by
  have := h.byt
  rw [List.length_map, List.length_range] at this
  exact this.congr (fun i hi => range_getD n m hi)
end Go.Proofs.YtnmghgbpgpaomaaGreat.Sha

namespace Go.Proofs.YtnmghgbpgpaomaaGreat.Sha
open Go.RowKit
set_option maxRecDepth 100000

/-- How many zeros stand behind n bytes and 128; the length's eight bytes; all of it. -/
def zs (n : Nat) : Nat := (119 - n % 64) % 64
def lenB (n : Nat) (i : Nat) : Int := (8 * n : Int) / 2 ^ (56 - 8 * i) % 256
def padL (n : Nat) (m : Nat → Int) : List Int := (List.range n).map m ++ [128] ++ List.replicate (zs n) 0 ++ (List.range 8).map (lenB n)

theorem padL_length (n : Nat) (m : Nat → Int) : (padL n m).length = n + 1 + zs n + 8 := by simp [padL]; omega

theorem one_lies (w : World) (k : IntKind) (x : Int) (t : TypeId) : Lies k (w.alloc (.cells #[.int k x] t)) (some ⟨w.heap.size, 0, none⟩) 1 (fun _ => x) := fun i hi => by
  obtain rfl : i = 0 := by omega
  refine ⟨_, _, rfl, ?_⟩
  have hb := heap_alloc_new w (.cells #[.int k x] t)
  unfold World.cell?
  simp only [hb]
  rfl

theorem range_succ_map {α : Type} (f : Nat → α) (n : Nat) : (List.range (n + 1)).map f = (List.range n).map f ++ [f n] := by
  rw [List.range_succ, List.map_append]; rfl

theorem range_one (x : Int) : (List.range 1).map (fun _ => x) = [x] := rfl

def lenOf : Value → Nat
  | .slice _ n _ => n
  | _ => 0

set_option maxHeartbeats 4000000 in
theorem rpadded_any (va : Option Addr) (n c : Nat) (m : Nat → Int) (w : World) (h : Byt w (.slice va n c) n m) (hn : va = none → c = 0) (hbig : n ≤ 100000) :
   Calls Tryz.prog 67 #[.slice va n c] w fun e w' => ∃ v, e = .returned v ∧ Own 5 .u8 w w' v (padL n m) ∧ Fr None' w w' := by
  have lies0 : Lies .u8 (w.alloc (.cells #[] 5)) va n m := Byt.lies (Byt.fr h (Fr.alloc None' w _))
  have own0 := Own.empty (e := 5) (k := .u8) (w0 := w) (Nat.le_refl _)
  have HN : Hid _ := hn
  have i0 : (n : Int) ≤ 100000 := by omega
  clear hn h
  go_enter Tryz.func67, Tryz.ntmps67
  go_wp2_with (first
    | (at_builtin
       refine append_num Tryz.underlying31 Tryz.info8 (by omega) rfl _ _ rfl rfl own0 (Fr.alloc None' w _) rfl lies0 HN.out (by simp; omega) ?_
       intro v1 w1 own1 f1 g1
       clear own0 lies0 g1
       rw [List.nil_append] at own1)
    | (at_builtin
       refine append_num Tryz.underlying31 Tryz.info8 (by omega) rfl _ _ rfl rfl (own1.alloc _) (f1.then (Fr.alloc None' w1 _)) rfl (one_lies w1 .u8 128 _) (fun e => by cases e) (by simp; omega) ?_
       intro v2 w2 own2 f2 g2
       clear own1 f1 g2
       rw [range_one] at own2))
  clear HN
  go_loopw [3] (fun v wr => ∃ k : Nat, k ≤ zs n ∧ Own 5 .u8 w wr v ((List.range n).map m ++ [128] ++ List.replicate k 0) ∧ Fr None' w wr) (fun v _ => 100000 + 200 - lenOf v)
  case atStart => exact ⟨0, by omega, by simpa using own2, f2⟩
  case round =>
    clear own2 f2
    obtain ⟨k, hk, hown, fr⟩ := hrel
    obtain ⟨va', c', hv, _, _, _⟩ := hown.slice
    have hlen : ((List.range n).map m ++ [128] ++ List.replicate k 0).length = n + 1 + k := by simp; omega
    rw [hlen] at hv
    subst hv
    obtain ⟨L, hL⟩ : ∃ L, n + 1 + k = L := ⟨_, rfl⟩
    rw [hL] at hown hlen ⊢
    have hz : zs n < 64 := by unfold zs; omega
    by_cases hlt : k < zs n
    · have i1 : ¬ (L : Int) % 64 = 56 := by unfold zs at hlt; omega
      clear hL
      go_wp2_with (first
        | (at_builtin
           refine append_num Tryz.underlying31 Tryz.info8 (by omega) rfl _ _ rfl rfl (hown.alloc _) (fr.then (Fr.alloc None' wr _)) rfl (one_lies wr .u8 0 _) (fun e => by cases e) (by simp; omega) ?_
           intro v3 w3 own3 f3 g3
           clear hown fr g3
           rw [range_one] at own3))
      have own4 : Own 5 .u8 w w3 v3 ((List.range n).map m ++ [128] ++ List.replicate (k + 1) 0) := by
        rw [List.replicate_succ', ← List.append_assoc]; exact own3
      obtain ⟨va3, c3, hv3, _, _, _⟩ := own4.slice
      refine ⟨⟨k + 1, by omega, own4, f3⟩, ?_⟩
      have h3 : ((List.range n).map m ++ [128] ++ List.replicate (k + 1) 0).length = L + 1 := by rw [← hlen]; simp; omega
      have h4 : L = n + 1 + k := by rw [← hlen]; simp; omega
      rw [hv3, h3]
      show 100200 - (L + 1) < 100200 - L
      omega
    · have i1 : (L : Int) % 64 = 56 := by unfold zs at hlt hk; omega
      have hkz : k = zs n := by omega
      rw [hkz] at hown
      obtain ⟨N, hN⟩ : ∃ N : Nat, n * 8 = N := ⟨_, rfl⟩
      have n1 : IntKind.u64.wrap ((n : Int) * 8) = N := by simp [IntKind.wrap, IntKind.bits, IntKind.signed]; omega
      have hl0 : Hid (lenB n = fun i => (N : Int) / 2 ^ (56 - 8 * i) % 256) := by funext i; unfold lenB; rw [← hN]; push_cast; rw [Int.mul_comm]
      have HZ : Hid (zs n < 64) := hz
      clear hlt hk hkz hz hL hN hlen
      go_wp2_with fail
      go_loopw [3, 5] (fun v i wr => ∃ j : Nat, j ≤ 8 ∧ i = .int .i64 j ∧ Own 5 .u8 w wr v ((List.range n).map m ++ [128] ++ List.replicate (zs n) 0 ++ (List.range j).map (lenB n)) ∧ Fr None' w wr) (fun _ i _ => 8 - (intOf i).toNat)
      case atStart => exact ⟨0, by omega, rfl, by simpa using hown, fr⟩
      case round =>
        clear hown fr i1
        obtain ⟨j, hj, rfl, hown, fr⟩ := hrel
        by_cases hlt : j < 8
        · have w1' : IntKind.i64.wrap (8 * (j : Int)) = 8 * j := by rw [IntKind.wrap_i64]; omega
          have w2' : IntKind.i64.wrap (56 - 8 * (j : Int)) = 56 - 8 * j := by rw [IntKind.wrap_i64]; omega
          have j0 : (j : Int) < 8 := by omega
          have j1 : 8 * (j : Int) ≤ 56 := by omega
          have hx2 : Hid (lenB n j = (N : Int) / 2 ^ (56 - 8 * j) % 256) := by show _ = _; rw [hl0.out]
          go_wp2_with (first
            | (at_builtin
               refine append_num Tryz.underlying31 Tryz.info8 (by omega) rfl _ _ rfl rfl (hown.alloc _) (fr.then (Fr.alloc None' wr _)) rfl (one_lies wr .u8 ((N : Int) / 2 ^ (56 - 8 * j) % 256) _) (fun e => by cases e) (by have := HZ.out; simp; omega) ?_
               intro v3 w3 own3 f3 g3
               clear hown fr g3
               rw [range_one] at own3))
          go_roundw
          case rel =>
            refine ⟨j + 1, by omega, by go_num, ?_, f3⟩
            rw [range_succ_map, ← List.append_assoc, hx2.out]
            exact own3
          case measure => simp [intOf]; omega
        · have j0 : (8 : Int) ≤ j := by omega
          have hj8 : j = 8 := by omega
          rw [hj8] at hown
          clear hlt hj hj8 hl0 n1
          go_wp2
          go_ret
          exact ⟨_, rfl, hown, fr⟩
end Go.Proofs.YtnmghgbpgpaomaaGreat.Sha

namespace Go.Proofs.YtnmghgbpgpaomaaGreat.Sha
open Go.RowKit
set_option maxRecDepth 100000

theorem Own.u32 {w0 w : World} {v : Value} {k : Nat} {f : Nat → Int} (h : Own 98 .u32 w0 w v ((List.range k).map f)) (hk : 0 < k) : ∃ g c, v = .slice (some ⟨g, 0, none⟩) k c ∧ k ≤ c ∧ g < w.heap.size ∧ w0.heap.size ≤ g ∧ ∀ i, i < k → w.cell? ⟨g, i, none⟩ = some (.int .u32 (f i)) := by
  rcases h.2 with ⟨_, h0⟩ | ⟨g, cap, cur, hv, hb, hh, hc, _, hs, ht⟩
  · simp at h0; omega
  · rw [List.length_map, List.length_range] at hv hc ht
    refine ⟨g, cap, hv, hc, (Array.getElem?_eq_some_iff.1 hh).1, hb, fun i hi => ?_⟩
    have hl : (((List.range k).map f).map (Value.int .u32))[i]? = some (.int .u32 (f i)) := by
      rw [List.getElem?_map, List.getElem?_map, List.getElem?_range hi]; rfl
    rw [← ht, List.getElem?_take, if_pos (by omega)] at hl
    rw [World.cell?, hh]
    simpa using hl

theorem wrap3 (a b c d : Int) : IntKind.u32.wrap (IntKind.u32.wrap (IntKind.u32.wrap (a + b) + c) + d) = (a + b + c + d) % 4294967296 := by
  simp only [IntKind.wrap_u32]
  omega

set_option maxHeartbeats 4000000 in
theorem rwords_any (b : Nat) (o len cap : Nat) (m : Nat → Int) (w : World) (hl : 64 ≤ len)
  (hc : ∀ i : Nat, i < 64 → w.cell? ⟨b, o + i, none⟩ = some (.int .u8 (m i))) :
   Calls Tryz.prog 68 #[.slice (some ⟨b, o, none⟩) len cap] w fun e w' => ∃ v, e = .returned v ∧ Own 98 .u32 w w' v ((List.range 64).map (W m)) ∧ Fr None' w w' := by
  go_enter Tryz.func68, Tryz.ntmps68
  go_wp2_with fail
  go_loopw [3, 4] (fun v i wr => ∃ k : Nat, k ≤ 16 ∧ i = .int .i64 k ∧ Own 98 .u32 w wr v ((List.range k).map (W m)) ∧ Fr None' w wr) (fun _ i _ => 16 - (intOf i).toNat)
  case atStart => exact ⟨0, by omega, rfl, Own.nil _ _ _ _, Fr.refl _ _⟩
  case round =>
    obtain ⟨k, hk, rfl, hown, fr⟩ := hrel
    by_cases hlt : k < 16
    · have i0 : (k : Int) < 16 := by omega
      have c0 := fr.cell (hc (4 * k) (by omega)) id
      have c1 := fr.cell (hc (4 * k + 1) (by omega)) id
      have c2 := fr.cell (hc (4 * k + 2) (by omega)) id
      have c3 := fr.cell (hc (4 * k + 3) (by omega)) id
      have hW := W_low m k hlt
      have HW : Hid (W m k = _) := hW
      have l0 : (4 * (k : Int)) < (len : Int) := by omega
      have l1 : (4 * (k : Int)) + 1 < (len : Int) := by omega
      have l2 : (4 * (k : Int)) + 2 < (len : Int) := by omega
      have l3 : (4 * (k : Int)) + 3 < (len : Int) := by omega
      have d0 : 0 ≤ (4 * (k : Int)) := by omega
      have d1 : 0 ≤ (4 * (k : Int)) + 1 := by omega
      have d2 : 0 ≤ (4 * (k : Int)) + 2 := by omega
      have d3 : 0 ≤ (4 * (k : Int)) + 3 := by omega
      have v0 : IntKind.i64.wrap (4 * (k : Int)) = 4 * k := by rw [IntKind.wrap_i64]; omega
      have v1 : IntKind.i64.wrap (4 * (k : Int) + 1) = 4 * k + 1 := by rw [IntKind.wrap_i64]; omega
      have v2 : IntKind.i64.wrap (4 * (k : Int) + 2) = 4 * k + 2 := by rw [IntKind.wrap_i64]; omega
      have v3 : IntKind.i64.wrap (4 * (k : Int) + 3) = 4 * k + 3 := by rw [IntKind.wrap_i64]; omega
      have t0 : (4 * (k : Int)).toNat = 4 * k := by omega
      have t1 : (4 * (k : Int) + 1).toNat = 4 * k + 1 := by omega
      have t2 : (4 * (k : Int) + 2).toNat = 4 * k + 2 := by omega
      have t3 : (4 * (k : Int) + 3).toNat = 4 * k + 3 := by omega
      have hS : Hid (∀ w', Fr None' w w' → w'.cell? ⟨b, o + 4 * k, none⟩ = some (.int .u8 (m (4 * k))) ∧ w'.cell? ⟨b, o + (4 * k + 1), none⟩ = some (.int .u8 (m (4 * k + 1))) ∧ w'.cell? ⟨b, o + (4 * k + 2), none⟩ = some (.int .u8 (m (4 * k + 2))) ∧ w'.cell? ⟨b, o + (4 * k + 3), none⟩ = some (.int .u8 (m (4 * k + 3)))) := fun w' f => ⟨f.cell (hc (4 * k) (by omega)) id, f.cell (hc (4 * k + 1) (by omega)) id, f.cell (hc (4 * k + 2) (by omega)) id, f.cell (hc (4 * k + 3) (by omega)) id⟩
      clear hc hW c0 c1 c2 c3
      go_wp2_with fail
      have hown' : Own 98 .u32 w wr.drew _ ((List.range k).map (W m)) := hown.fr (Fr.drewN None' wr 1)
      have fr' : Fr None' w wr.drew := fr.then (Fr.drewN None' wr 1)
      clear hown fr
      go_region_held3 (fun w' => w'.cell? ⟨b, o + 4 * k, none⟩ = some (.int .u8 (m (4 * k))) ∧ w'.cell? ⟨b, o + (4 * k + 1), none⟩ = some (.int .u8 (m (4 * k + 1))) ∧ w'.cell? ⟨b, o + (4 * k + 2), none⟩ = some (.int .u8 (m (4 * k + 2))) ∧ w'.cell? ⟨b, o + (4 * k + 3), none⟩ = some (.int .u8 (m (4 * k + 3))))
        (first | exact hS.out _ f3 | exact hS.out _ (fr'.then (Fr.alloc None' _ _)) | exact hS.out _ fr')
        (first | (refine step_num Tryz.underlying102 Tryz.info4 (by omega) rfl _ _ rfl rfl (hown'.alloc _) (fr'.then (Fr.alloc None' _ _)) rfl (one_lies _ .u32 _ _) (by simp; omega) ?_; intro v3 w3 own3 f3))
      all_goals go_wp2_with fail
      go_roundw
      case rel =>
        refine ⟨k + 1, by omega, by go_num, ?_, f3⟩
        rw [range_succ_map, HW.out]
        exact own3
      case measure => simp [intOf]; omega
    · have i0 : (16 : Int) ≤ (k : Int) := by omega
      have hk16 : k = 16 := by omega
      rw [hk16] at hown
      clear hc hk hlt hk16
      go_wp2_with fail
      clear i0
      go_loopw [3, 5] (fun v i wr => ∃ k : Nat, 16 ≤ k ∧ k ≤ 64 ∧ i = .int .i64 k ∧ Own 98 .u32 w wr v ((List.range k).map (W m)) ∧ Fr None' w wr) (fun _ i _ => 64 - (intOf i).toNat)
      case atStart => exact ⟨16, by omega, by omega, rfl, hown, fr⟩
      case round =>
        clear hown fr
        obtain ⟨k, hk, hk2, rfl, hown, fr⟩ := hrel
        by_cases hlt : k < 64
        · have i0 : (k : Int) < 64 := by omega
          have i1 : (16 : Int) ≤ k := by omega
          obtain ⟨g, c, rfl, hgc, hg1, hg2, hat⟩ := hown.u32 (by omega)
          have a15 := hat (k - 15) (by omega)
          have a2 := hat (k - 2) (by omega)
          have a16 := hat (k - 16) (by omega)
          have a7 := hat (k - 7) (by omega)
          have t15 : ((k : Int) - 15).toNat = k - 15 := by omega
          have t2 : ((k : Int) - 2).toNat = k - 2 := by omega
          have t7 : ((k : Int) - 7).toNat = k - 7 := by omega
          have t16 : ((k : Int) - 16).toNat = k - 16 := by omega
          have b15 : (k : Int) - 15 < k := by omega
          have b2 : (k : Int) - 2 < k := by omega
          have b16 : (k : Int) - 16 < k := by omega
          have b7 : (k : Int) - 7 < k := by omega
          have d15 : 0 ≤ (k : Int) - 15 := by omega
          have d2 : 0 ≤ (k : Int) - 2 := by omega
          have d16 : 0 ≤ (k : Int) - 16 := by omega
          have d7 : 0 ≤ (k : Int) - 7 := by omega
          have HW : Hid (W m k = _) := W_high m k hk
          have e16 : Hid (wr.cell? ⟨g, k - 16, none⟩ = some (.int .u32 (W m (k - 16)))) := a16
          have e7 : Hid (wr.cell? ⟨g, k - 7, none⟩ = some (.int .u32 (W m (k - 7)))) := a7
          clear hat hlt a16 a7
          go_wp2_with fail
          refine (turned_any _ 7 (by omega) (by omega) _).mono ?_
          rintro e x1 ⟨rfl, n1, hw⟩
          have g1 : Fr None' wr x1 := hw ▸ Fr.drewN None' wr n1
          clear hw
          clear a15 a2
          go_wp2_with fail
          refine (turned_any _ 18 (by omega) (by omega) _).mono ?_
          rintro e x2 ⟨rfl, n2, hw⟩
          have g2 : Fr None' x1 x2 := hw ▸ Fr.drewN None' x1 n2
          clear hw
          go_wp2_with fail
          refine (turned_any _ 17 (by omega) (by omega) _).mono ?_
          rintro e x3 ⟨rfl, n3, hw⟩
          have g3 : Fr None' x2 x3 := hw ▸ Fr.drewN None' x2 n3
          clear hw
          go_wp2_with fail
          refine (turned_any _ 19 (by omega) (by omega) _).mono ?_
          rintro e x4 ⟨rfl, n4, hw⟩
          have g4 : Fr None' x3 x4 := hw ▸ Fr.drewN None' x3 n4
          clear hw
          have g0 := ((g1.then g2).then g3).then g4
          have hown2 := hown.fr g0
          have fr2 := fr.then g0
          have a16 := g0.cell e16.out id
          have a7 := g0.cell e7.out id
          clear g0 g1 g2 g3 g4
          clear hown fr e16 e7 t15 t2 b15 b2 d15 d2 t7 t16 b16 b7 d16 d7
          obtain ⟨p, hp⟩ : ∃ p, k - 16 = p := ⟨_, rfl⟩
          obtain ⟨q, hq⟩ : ∃ q, k - 7 = q := ⟨_, rfl⟩
          have w16 : IntKind.i64.wrap ((k : Int) - 16) = p := by rw [IntKind.wrap_i64]; omega
          have w7 : IntKind.i64.wrap ((k : Int) - 7) = q := by rw [IntKind.wrap_i64]; omega
          have b16 : (p : Int) < k := by omega
          have b7 : (q : Int) < k := by omega
          rw [hp] at a16 HW
          rw [hq] at a7 HW
          have HP : Hid (p < k ∧ q < k) := ⟨by omega, by omega⟩
          clear hp hq
          go_wp2_with fail
          have hown' : Own 98 .u32 w x4.drew _ ((List.range k).map (W m)) := hown2.fr (Fr.drewN None' x4 1)
          have fr' : Fr None' w x4.drew := fr2.then (Fr.drewN None' x4 1)
          have hS : x4.drew.cell? ⟨g, p, none⟩ = some (.int .u32 (W m p)) ∧ x4.drew.cell? ⟨g, q, none⟩ = some (.int .u32 (W m q)) := ⟨a16, a7⟩
          have hS2 : ∀ o, (x4.drew.alloc o).cell? ⟨g, p, none⟩ = some (.int .u32 (W m p)) ∧ (x4.drew.alloc o).cell? ⟨g, q, none⟩ = some (.int .u32 (W m q)) := fun o => ⟨(Fr.alloc None' x4.drew o).cell hS.1 id, (Fr.alloc None' x4.drew o).cell hS.2 id⟩
          have HS : Hid _ := hS
          have HS2 : Hid _ := hS2
          clear hown2 fr2 a16 a7 hS hS2
          go_region_held3 (fun w' => w'.cell? ⟨g, p, none⟩ = some (.int .u32 (W m p)) ∧ w'.cell? ⟨g, q, none⟩ = some (.int .u32 (W m q)))
            (first | exact ⟨(k3 p HP.out.1).trans (HS2.out _).1, (k3 q HP.out.2).trans (HS2.out _).2⟩ | exact HS2.out _ | exact HS.out)
            (first | (refine step_num2 Tryz.underlying102 Tryz.info4 (by omega) rfl _ _ rfl rfl (by simp) (hown'.alloc _) (fr'.then (Fr.alloc None' _ _)) rfl (one_lies _ .u32 _ _) (by simp; omega) ?_; intro v3 w3 own3 f3 k3))
          all_goals go_wp2_with fail
          go_roundw
          case rel =>
            refine ⟨k + 1, by omega, by omega, by go_num, ?_, f3⟩
            rw [range_succ_map, HW.out]
            rw [wrap3] at own3
            exact own3
          case measure => simp [intOf]; omega
        · have i0 : (64 : Int) ≤ (k : Int) := by omega
          have hk64 : k = 64 := by omega
          rw [hk64] at hown
          clear hk hk2 hlt hk64
          go_wp2
          go_ret
          exact ⟨_, rfl, hown, fr⟩
end Go.Proofs.YtnmghgbpgpaomaaGreat.Sha

namespace Go.Proofs.YtnmghgbpgpaomaaGreat.Sha
open Go.RowKit
set_option maxRecDepth 100000

set_option maxHeartbeats 4000000 in
theorem rconsts_any (w : World) : Calls Tryz.prog 66 #[] w fun e w' => e = .returned (.agg (arr 64 (n32 kc))) ∧ Fr None' w w' := by
  go_enter Tryz.func66, Tryz.ntmps66
  go_wp2_with (refine store_arr info64 w.heap.size (f0 := n32 fun _ => 0) (f := n32 kc) (rowIs_of (heap_alloc_new w _)) (fun _ _ => rfl) _ _ rfl rfl rfl rfl rfl ?_)
  generalize hw : World.setRow _ _ _ = w'
  obtain ⟨r, f⟩ := new_row (n := 64) rfl hw
  exact bodyPost_ret (v := .agg (arr 64 (n32 kc))) (result_arr Tryz.underlying99 info64 rfl _ rfl r) rfl ⟨rfl, f⟩

theorem Own.got {e : TypeId} {k : IntKind} {w0 w : World} {v : Value} {l : List Int} (h : Own e k w0 w v l) (hl : 0 < l.length) : ∃ g c, v = .slice (some ⟨g, 0, none⟩) l.length c ∧ l.length ≤ c ∧ w0.heap.size ≤ g ∧ g < w.heap.size ∧ ∀ i, i < l.length → w.cell? ⟨g, i, none⟩ = some (.int k (l.getD i 0)) := by
  rcases h.2 with ⟨_, h0⟩ | ⟨g, cap, cur, hv, hb, hh, hc, _, hs, ht⟩
  · omega
  · refine ⟨g, cap, hv, hc, hb, (Array.getElem?_eq_some_iff.1 hh).1, fun i hi => ?_⟩
    have hl : (l.map (Value.int k))[i]? = some (.int k (l.getD i 0)) := by
      rw [List.getElem?_map, List.getElem?_eq_getElem hi, List.getD_eq_getElem?_getD, List.getElem?_eq_getElem hi]; rfl
    rw [← ht, List.getElem?_take, if_pos (by omega)] at hl
    rw [World.cell?, hh]
    simpa using hl
end Go.Proofs.YtnmghgbpgpaomaaGreat.Sha

namespace Go.Proofs.YtnmghgbpgpaomaaGreat.Sha
open Go.RowKit
set_option maxRecDepth 100000

/-- The eight numbers, and the sum's bytes, as the document reckons them. -/
def rsumV (n : Nat) (m : Nat → Int) : Nat → Int := blks kc (fun i => (padL n m).getD i 0) iv ((n + 1 + zs n + 8) / 64)
def rsumB (n : Nat) (m : Nat → Int) (i : Nat) : Int := bt (rsumV n m (i / 4)) (i % 4)

theorem bt_pow (x : Int) (s : Nat) (h : s < 4) : x / 2 ^ (24 - 8 * s) % 256 = bt x s := by
  have : s = 0 ∨ s = 1 ∨ s = 2 ∨ s = 3 := by omega
  rcases this with rfl | rfl | rfl | rfl <;> simp [bt]

set_option maxHeartbeats 8000000 in
theorem rsum_any (va : Option Addr) (n c : Nat) (m : Nat → Int) (w : World) (h : Byt w (.slice va n c) n m) (hn : va = none → c = 0) (hbig : n ≤ 90000) :
   Calls Tryz.prog 37 #[.slice va n c] w fun e w' => e = .returned (.agg (arr 32 (n8 (rsumB n m)))) ∧ Fr None' w w' := by
  go_enter Tryz.func37, Tryz.ntmps37
  go_wp2_with fail
  have r0 : (w.alloc (.cells (arr 32 (n8 fun _ => 0)) 71)).rowIs w.heap.size 71 32 (n8 fun _ => 0) := rowIs_of (heap_alloc_new w _)
  have f0 : Fr None' w (w.alloc (.cells (arr 32 (n8 fun _ => 0)) 71)) := Fr.alloc _ _ _
  generalize hw0 : w.alloc _ = w0
  replace r0 : w0.rowIs w.heap.size 71 32 (n8 fun _ => 0) := by rw [← hw0]; exact r0
  replace f0 : Fr None' w w0 := by rw [← hw0]; exact f0
  clear hw0
  refine (rconsts_any _).mono ?_
  rintro e w1 ⟨rfl, f1⟩
  have o1 := f1.rowIs r0 id
  have f01 := f0.then f1
  have l0 := r0.lt
  clear r0 f0 f1
  go_wp2_with (first
    | (refine store_arr2 info64 _ _ rfl rfl rfl w1.heap.size rfl rfl (fun _ _ => rfl) (f0 := n32 fun _ => 0) (rowIs_of (heap_alloc_new w1 _)) ?_
       intro w2 r2 f2))
  replace f2 := (Fr.alloc None' w1 _).trans f2 (fun i e => Or.inr (by omega))
  have o2 := f2.rowIs o1 id
  have f02 := f01.then f2
  have l1 := r2.lt
  have l01 := f01.size
  clear o1 f01 f2
  have r3 : (w2.alloc (.cells (arr 8 (n32 iv)) 101)).rowIs w2.heap.size 101 8 (n32 iv) := rowIs_of (heap_alloc_new w2 _)
  have f3 : Fr None' w2 (w2.alloc (.cells (arr 8 (n32 iv)) 101)) := Fr.alloc _ _ _
  generalize hw3 : w2.alloc _ = w3
  replace r3 : w3.rowIs w2.heap.size 101 8 (n32 iv) := by rw [← hw3]; exact r3
  replace f3 : Fr None' w2 w3 := by rw [← hw3]; exact f3
  clear hw3
  have k3 := f3.rowIs r2 id
  have o3 := f3.rowIs o2 id
  have f03 := f02.then f3
  have l3 := r3.lt
  clear r2 o2 f02 f3
  refine (rpadded_any va n c m w3 (h.fr f03) hn (by omega)).mono ?_
  rintro e w4 ⟨v4, rfl, own4, f4⟩
  obtain ⟨g, cg, rfl, hcg, hg1, hg2, hat⟩ := own4.got (by rw [padL_length]; omega)
  have r4 := f4.rowIs r3 id
  have k4 := f4.rowIs k3 id
  have o4 := f4.rowIs o3 id
  have f04 := f03.then f4
  have l4 := f4.size
  clear own4 f4 r3 k3 o3 f03 h hn
  obtain ⟨P, hP⟩ : ∃ P : Nat → Int, (fun i => (padL n m).getD i 0) = P := ⟨_, rfl⟩
  obtain ⟨nb, hnb⟩ : ∃ nb, (n + 1 + zs n + 8) / 64 = nb := ⟨_, rfl⟩
  have hlen : (padL n m).length = 64 * nb := by
    rw [padL_length, ← hnb]; unfold zs; omega
  have hV : Hid (rsumV n m = blks kc P iv nb) := by show _ = _; rw [← hP, ← hnb]; rfl
  have hbig2 : nb ≤ 2000 := by rw [← hnb]; unfold zs; omega
  have hat' : ∀ i, i < 64 * nb → w4.cell? ⟨g, i, none⟩ = some (.int .u8 (P i)) := fun i hi => by rw [← hP]; exact hat i (by omega)
  rw [hlen] at hcg ⊢
  clear hat hlen hnb hP
  have i1 : (nb : Int) ≤ 2000 := by omega
  have HAT : Hid _ := hat'
  clear hat'
  obtain ⟨L, hL⟩ : ∃ L, 64 * nb = L := ⟨_, rfl⟩
  have HL : Hid (64 * nb = L) := hL
  rw [hL] at hcg ⊢
  clear hL
  go_wp2_with fail
  go_loopw [6] (fun at' wr => ∃ j : Nat, j ≤ nb ∧ at' = .int .i64 ((64 * j : Nat) : Int) ∧ wr.rowIs w2.heap.size 101 8 (n32 (blks kc P iv j)) ∧ wr.rowIs w1.heap.size 99 64 (n32 kc) ∧ wr.rowIs w.heap.size 71 32 (n8 fun _ => 0) ∧ Fr (fun i => i = w2.heap.size) w4 wr) (fun at' _ => 64 * nb - (intOf at').toNat)
  case atStart => exact ⟨0, by omega, rfl, r4, k4, o4, Fr.refl _ _⟩
  case round =>
    clear r4 k4 o4
    obtain ⟨j, hj, rfl, rv, rk, ro, fr⟩ := hrel
    obtain ⟨A, hA⟩ : ∃ A, 64 * j = A := ⟨_, rfl⟩
    rw [hA]
    have hL := HL.out
    by_cases hlt : j < nb
    · have a0 : (A : Int) < (L : Int) := by omega
      have a1 : (A : Int) + 64 ≤ (L : Int) := by omega
      have a2 : (L : Int) ≤ (cg : Int) := by omega
      have a3 : IntKind.i64.wrap ((A : Int) + 64) = A + 64 := by rw [IntKind.wrap_i64]; omega
      have a4 : ¬ cg = A := by omega
      have a5 : ((A : Int) + 64).toNat = A + 64 := by omega
      have a6 : A + 64 - A = 64 := by omega
      have hc : ∀ i, i < 64 → wr.cell? ⟨g, A + i, none⟩ = some (.int .u8 (P (64 * j + i))) := fun i hi => by
        rw [hA]; exact fr.cell (HAT.out (A + i) (by omega)) (by show ¬ g = w2.heap.size; omega)
      have hw := fun cap => rwords_any g A 64 cap (fun i => P (64 * j + i)) wr (by omega) hc
      have HJ : Hid (64 * j = A ∧ j < nb) := ⟨hA, hlt⟩
      clear hc hL hA hj hlt
      go_wp2_with fail
      refine (hw (cg - A)).mono ?_
      rintro e w5 ⟨v5, rfl, own5, f5⟩
      obtain ⟨gw, cw, rfl, hcw, hgw1, hgw2, hwat⟩ := own5.u32 (by omega)
      obtain ⟨M, hM⟩ : ∃ M : Nat → Int, (fun i => P (64 * j + i)) = M := ⟨_, rfl⟩
      rw [hM] at hwat own5
      obtain ⟨v, hv⟩ : ∃ v : Nat → Int, blks kc P iv j = v := ⟨_, rfl⟩
      rw [hv] at rv
      have HM : Hid (blks kc P iv (j + 1) = blk kc M v) := by show _ = _; rw [← hM, ← hv]; rfl
      have rv5 := f5.rowIs rv id
      have rk5 := f5.rowIs rk id
      have ro5 := f5.rowIs ro id
      have fr5 : Fr (fun i => i = w2.heap.size) w4 w5 := fr.then f5.any
      have lv5 := rv5.lt
      have l45 := fr5.size
      have HW : Hid (∀ i, i < 64 → w5.cell? ⟨gw, i, none⟩ = some (.int .u32 (W M i))) := hwat
      clear own5 f5 rv rk ro fr hw hwat hM hv a0 a1 a3 a4 a5 a6
      go_wp2_with (first
        | refine load_arr Tryz.underlying101 info8 w2.heap.size rv5 _ rfl rfl rfl ?_
        | (refine store_arr2 info8 _ _ rfl rfl rfl w5.heap.size rfl rfl (fun _ _ => rfl) (f0 := n32 fun _ => 0) (rowIs_of (heap_alloc_new w5 _)) ?_
           intro w6 r6 f6))
      replace f6 := (Fr.alloc None' w5 _).trans f6 (fun i e => Or.inr (by omega))
      have rv6 := f6.rowIs rv5 id
      have rk6 := f6.rowIs rk5 id
      have ro6 := f6.rowIs ro5 id
      have fr6 : Fr (fun i => i = w2.heap.size) w4 w6 := fr5.then f6.any
      have HW6 : Hid (∀ i, i < 64 → w6.cell? ⟨gw, i, none⟩ = some (.int .u32 (W M i))) := fun i hi => f6.cell (HW.out i hi) id
      have l6 := r6.lt
      clear f6 rv5 rk5 ro5 fr5 HW
      go_loopw [9] (fun i wi => ∃ q : Nat, q ≤ 64 ∧ i = .int .i64 q ∧ wi.rowIs w5.heap.size 101 8 (n32 (rnds kc (W M) (V8.of v) q).at) ∧ Fr (fun i => i = w5.heap.size) w6 wi) (fun i _ => 64 - (intOf i).toNat)
      case atStart => exact ⟨0, by omega, rfl, r6.congr (fun i hi => by simp only [n32, rnds, V8.at_of v hi]), Fr.refl _ _⟩
      case round =>
        clear r6
        obtain ⟨q, hq, rfl, rx, fi⟩ := hrel
        by_cases hqlt : q < 64
        · have q0 : (q : Int) < 64 := by omega
          have ck := (fi.rowIs rk6 (by show ¬ w1.heap.size = w5.heap.size; omega)).cell hqlt
          have cw := fi.cell (HW6.out q hqlt) (by show ¬ gw = w5.heap.size; omega)
          obtain ⟨x, hx⟩ : ∃ x, rnds kc (W M) (V8.of v) q = x := ⟨_, rfl⟩
          obtain ⟨T, hT⟩ : ∃ T, tOf (kc q) (W M q) x = T := ⟨_, rfl⟩
          obtain ⟨U, hU⟩ : ∃ U, uOf x = U := ⟨_, rfl⟩
          have HX : Hid (rnds kc (W M) (V8.of v) (q + 1) = ⟨(T + U) % 4294967296, x.a, x.b, x.c, (x.d + T) % 4294967296, x.e, x.f, x.g⟩) := by show _ = _; rw [← hT, ← hU, ← hx]; rfl
          unfold tOf xor32 and32 at hT
          unfold uOf xor32 and32 at hU
          have HT : Hid (_ = T) := hT
          have HU : Hid (_ = U) := hU
          clear hT hU
          rw [hx] at rx
          have c0 := rx.cell (i := 0) (by omega)
          have c1 := rx.cell (i := 1) (by omega)
          have c2 := rx.cell (i := 2) (by omega)
          have c3 := rx.cell (i := 3) (by omega)
          have c4 := rx.cell (i := 4) (by omega)
          have c5 := rx.cell (i := 5) (by omega)
          have c6 := rx.cell (i := 6) (by omega)
          have c7 := rx.cell (i := 7) (by omega)
          simp only [n32, V8.at] at ck c0 c1 c2 c3 c4 c5 c6 c7
          clear hx hqlt
          go_wp2_with fail
          go_quiet (with_reducible (first | exact turned_q6 _ | exact turned_q11 _ | exact turned_q25 _))
          have gq := Fr.drewN None' wr nq
          replace fi : Fr (fun i => i = w5.heap.size) w6 (wr.drewN nq) := fi.then gq.any
          replace rx := gq.rowIs rx id
          clear ck cw gq c0 c1 c2 c3 c4 c5 c6 c7
          generalize wr.drewN nq = wq at fi rx ⊢
          clear nq
          have c0 := rx.cell (i := 0) (by omega)
          have c1 := rx.cell (i := 1) (by omega)
          have c2 := rx.cell (i := 2) (by omega)
          have c3 := rx.cell (i := 3) (by omega)
          have c5 := rx.cell (i := 5) (by omega)
          have c6 := rx.cell (i := 6) (by omega)
          simp only [n32, V8.at] at c0 c1 c2 c3 c5 c6
          go_wp2_with fail
          go_quiet (with_reducible (first | exact turned_q2 _ | exact turned_q13 _ | exact turned_q22 _))
          have gq := Fr.drewN None' wq nq
          replace fi : Fr (fun i => i = w5.heap.size) w6 (wq.drewN nq) := fi.then gq.any
          replace rx := gq.rowIs rx id
          clear gq c0 c1 c2 c3 c5 c6
          generalize wq.drewN nq = wz at fi rx ⊢
          rw [HT.out, HU.out]
          clear nq HT HU
          have c1 := rx.cell (i := 1) (by omega)
          have c2 := rx.cell (i := 2) (by omega)
          have c3 := rx.cell (i := 3) (by omega)
          have c5 := rx.cell (i := 5) (by omega)
          have c6 := rx.cell (i := 6) (by omega)
          simp only [n32, V8.at] at c1 c2 c3 c5 c6
          go_wp2_with (first
            | (refine store_arr2 info8 _ _ rfl rfl rfl w5.heap.size rfl (f := n32 (V8.mk ((T + U) % 4294967296) x.a x.b x.c ((x.d + T) % 4294967296) x.e x.f x.g).at) rfl (fun _ _ => rfl) rx ?_
               intro wy ry fy))
          go_roundw
          case rel => exact ⟨q + 1, by omega, by go_num, by rw [HX.out]; exact ry, fi.then fy⟩
          case measure => simp [intOf]; omega
        · have q0 : (64 : Int) ≤ q := by omega
          have hq64 : q = 64 := by omega
          obtain ⟨x, hx⟩ : ∃ x, rnds kc (W M) (V8.of v) 64 = x := ⟨_, rfl⟩
          rw [hq64, hx] at rx
          have HB : Hid (blk kc M v = fun i => (v i + x.at i) % 4294967296) := by show _ = _; funext i; unfold blk; rw [hx]
          have rv7 := fi.rowIs rv6 (by show ¬ w2.heap.size = w5.heap.size; omega)
          have rk7 := fi.rowIs rk6 (by show ¬ w1.heap.size = w5.heap.size; omega)
          have ro7 := fi.rowIs ro6 (by show ¬ w.heap.size = w5.heap.size; omega)
          have fr7 : Fr (fun i => i = w2.heap.size) w4 wr := fr6.trans fi (fun i e => Or.inr (by omega))
          clear fi rv6 rk6 ro6 fr6 HW6 hx hqlt hq hq64
          go_wp2_with fail
          clear q0
          go_loopw [14] (fun i wi => ∃ t : Nat, t ≤ 8 ∧ i = .int .i64 t ∧ wi.rowIs w2.heap.size 101 8 (n32 fun i => if i < t then (v i + x.at i) % 4294967296 else v i) ∧ wi.rowIs w5.heap.size 101 8 (n32 x.at) ∧ wi.rowIs w1.heap.size 99 64 (n32 kc) ∧ wi.rowIs w.heap.size 71 32 (n8 fun _ => 0) ∧ Fr (fun i => i = w2.heap.size) w4 wi) (fun i _ => 8 - (intOf i).toNat)
          case atStart => exact ⟨0, by omega, rfl, rv7.congr (fun i _ => by simp [n32]), rx, rk7, ro7, fr7⟩
          case round =>
            clear rx rv7 rk7 ro7 fr7
            obtain ⟨t, ht, rfl, rv, rx, rk, ro, fr⟩ := hrel
            by_cases htlt : t < 8
            · have t0 : (t : Int) < 8 := by omega
              have cx := rx.cell htlt
              have cv := rv.cell htlt
              have zf := rv.frozen t
              simp only [n32, Nat.lt_irrefl, if_false] at cv cx
              go_wp2_with fail
              refine region_tail 9 mixed (by kernel_rfl) ?_
              simp only [List.take_succ_cons, List.take_zero, List.drop_succ_cons, List.drop_zero]
              repeat still_step
              refine wpStill_nil ?_
              go_wp2
              go_roundw
              case rel =>
                refine ⟨t + 1, by omega, by go_num, World.rowIs.drew ((rv.set t _).congr (fun i _ => ?_)), World.rowIs.drew (rx.setOther (by simp; omega) _), World.rowIs.drew (rk.setOther (by simp; omega) _), World.rowIs.drew (ro.setOther (by simp; omega) _), (fr.then (Fr.setCell (M := fun i => i = w2.heap.size) _ rfl _)).then (Fr.drewN _ _ 1)⟩
                by_cases e : i = t
                · subst e
                  simp only [n32, if_true, if_pos (show i < i + 1 by omega)]
                · simp only [n32, if_neg e]
                  by_cases h1 : i < t
                  · rw [if_pos h1, if_pos (by omega)]
                  · rw [if_neg h1, if_neg (by omega)]
              case measure => simp [intOf]; omega
            · have t0 : (8 : Int) ≤ t := by omega
              have rv' : wr.rowIs w2.heap.size 101 8 (n32 (blks kc P iv (j + 1))) := rv.congr (fun i hi => by
                simp only [n32]; rw [if_pos (by omega), HM.out, HB.out])
              have hJ := HJ.out
              have a7 : IntKind.i64.wrap ((A : Int) + 64) = ((64 * (j + 1) : Nat) : Int) := by rw [IntKind.wrap_i64]; omega
              clear rv rx htlt ht hJ
              go_wp2_with fail
              have hJ := HJ.out
              refine ⟨⟨j + 1, by omega, by rw [show ((64 * (j + 1) : Nat) : Int) = 64 * ((j : Int) + 1) by omega], rv', rk, ro, fr⟩, ?_⟩
              simp only [intOf]
              omega
    · obtain ⟨wo, rfl⟩ : ∃ wo, wo = wr := ⟨wr, rfl⟩
      have a0 : (L : Int) ≤ (A : Int) := by omega
      have hjn : j = nb := by omega
      have rv' : wo.rowIs w2.heap.size 101 8 (n32 (rsumV n m)) := by rw [hV.out, ← hjn]; exact rv
      have fr0 : Fr None' w wo := f04.trans fr (fun i e => Or.inr (by omega))
      clear rk rv hlt hjn hj hL hA HAT fr f04
      have lo := ro.lt
      have lv := rv'.lt
      go_wp2_with fail
      have r9 : (wo.alloc (.cells (arr 32 (n8 fun _ => 0)) 71)).rowIs wo.heap.size 71 32 (n8 fun _ => 0) := rowIs_of (heap_alloc_new wo _)
      have f9 : Fr None' wo (wo.alloc (.cells (arr 32 (n8 fun _ => 0)) 71)) := Fr.alloc _ _ _
      generalize hw9 : wo.alloc _ = w9
      replace r9 : w9.rowIs wo.heap.size 71 32 (n8 fun _ => 0) := by rw [← hw9]; exact r9
      replace f9 : Fr None' wo w9 := by rw [← hw9]; exact f9
      clear hw9
      have rv9 := f9.rowIs rv' id
      have ro9 := f9.rowIs ro id
      have f09 := fr0.then f9
      clear f9 rv' ro fr0 a0
      have ls := f09.size
      go_loopw [16] (fun i wi => ∃ t : Nat, t ≤ 32 ∧ i = .int .i64 t ∧ wi.rowIs wo.heap.size 71 32 (fun i => if i < t then .int .u8 (rsumB n m i) else .int .u8 0) ∧ wi.rowIs w2.heap.size 101 8 (n32 (rsumV n m)) ∧ wi.rowIs w.heap.size 71 32 (n8 fun _ => 0) ∧ Fr None' w wi) (fun i _ => 32 - (intOf i).toNat)
      case atStart => exact ⟨0, by omega, rfl, r9.congr (fun i _ => by simp [n8]), rv9, ro9, f09⟩
      case round =>
        clear r9 rv9 ro9 f09
        obtain ⟨t, ht, rfl, rs, rv, ro, fr⟩ := hrel
        by_cases htlt : t < 32
        · have t0 : (t : Int) < 32 := by omega
          obtain ⟨p, hp⟩ : ∃ p, t / 4 = p := ⟨_, rfl⟩
          obtain ⟨s, hs⟩ : ∃ s, t % 4 = s := ⟨_, rfl⟩
          have hp2 : (t : Int) / 4 = p := by omega
          have hs2 : (t : Int) % 4 = s := by omega
          have p0 : (p : Int) < 8 := by omega
          have s0' : (s : Int) < 4 := by omega
          have cv := rv.cell (i := p) (by omega)
          have cs := rs.cell htlt
          have zf := rs.frozen t
          simp only [n32, Nat.lt_irrefl, if_false] at cv cs
          have s1' : IntKind.i64.wrap (8 * (s : Int)) = 8 * s := by rw [IntKind.wrap_i64]; omega
          have s2' : IntKind.i64.wrap (24 - 8 * (s : Int)) = 24 - 8 * s := by rw [IntKind.wrap_i64]; omega
          have s3' : 8 * (s : Int) ≤ 24 := by omega
          have s4' : (24 - 8 * (s : Int)).toNat = 24 - 8 * s := by omega
          have HP : Hid (t / 4 = p ∧ t % 4 = s) := ⟨hp, hs⟩
          clear hp hs
          go_wp2_with fail
          have hP := HP.out
          refine ⟨⟨t + 1, by omega, by go_num, (rs.set t _).congr (fun i _ => ?_), rv.setOther (by simp; omega) _, ro.setOther (by simp; omega) _, fr.trans (Fr.setCell (M := fun i => i = wo.heap.size) _ rfl _) (fun i e => Or.inr (by omega))⟩, by simp [intOf]; omega⟩
          by_cases e : i = t
          · subst e
            rw [if_pos rfl, if_pos (by omega)]
            unfold rsumB
            rw [hP.1, hP.2, bt_pow _ s (by omega)]
          · rw [if_neg e]
            by_cases h1 : i < t
            · rw [if_pos h1, if_pos (by omega)]
            · rw [if_neg h1, if_neg (by omega)]
        · have t0 : (32 : Int) ≤ t := by omega
          have q1' : wr.rowIs wo.heap.size 71 32 (n8 (rsumB n m)) := rs.congr (fun i hi => by rw [if_pos (by omega)]; rfl)
          clear rs rv htlt ht
          go_wp2_with (first
            | refine load_arr Tryz.underlying71 info32 wo.heap.size q1' _ rfl rfl rfl ?_
            | refine store_arr info32 w.heap.size ro (fun _ _ => rfl) _ _ rfl rfl rfl rfl rfl ?_)
          refine bodyPost_ret (v := .agg (arr 32 (n8 (rsumB n m)))) (result_arr Tryz.underlying71 info32 rfl _ rfl (rowIs_setRow ro)) rfl ⟨rfl, ?_⟩
          exact fr.trans (Fr.setRow (M := fun i => i = w.heap.size) _ rfl _) (fun i e => Or.inr (by omega))
end Go.Proofs.YtnmghgbpgpaomaaGreat.Sha

namespace Go.Proofs.YtnmghgbpgpaomaaGreat.Sha
set_option maxRecDepth 100000

theorem W_congr {m m' : Nat → Int} (h : ∀ i, i < 64 → m i = m' i) : W m = W m' := by
  funext i
  induction i using Nat.strongRecOn with
  | _ i ih =>
    by_cases hi : i < 16
    · rw [W_low m i hi, W_low m' i hi, h (4 * i) (by omega), h (4 * i + 1) (by omega), h (4 * i + 2) (by omega), h (4 * i + 3) (by omega)]
    · rw [W_high m i (by omega), W_high m' i (by omega), ih (i - 16) (by omega), ih (i - 15) (by omega), ih (i - 7) (by omega), ih (i - 2) (by omega)]

theorem blk_congr {k m m' v : Nat → Int} (h : ∀ i, i < 64 → m i = m' i) : blk k m v = blk k m' v := by
  funext i
  unfold blk
  rw [W_congr h]

theorem blks_congr {k m m' v : Nat → Int} : ∀ b, (∀ i, i < 64 * b → m i = m' i) → blks k m v b = blks k m' v b
  | 0, _ => rfl
  | b + 1, h => by
    show blk k (fun i => m (64 * b + i)) (blks k m v b) = blk k (fun i => m' (64 * b + i)) (blks k m' v b)
    rw [blks_congr b (fun i hi => h i (by omega))]
    exact blk_congr (fun i hi => h (64 * b + i) (by omega))

theorem blks_add (k m v : Nat → Int) (a : Nat) : ∀ b, blks k m v (a + b) = blks k (fun i => m (64 * a + i)) (blks k m v a) b
  | 0 => rfl
  | b + 1 => by
    show blk k (fun i => m (64 * (a + b) + i)) (blks k m v (a + b)) = blk k (fun i => m (64 * a + (64 * b + i))) (blks k (fun i => m (64 * a + i)) (blks k m v a) b)
    rw [blks_add k m v a b]
    exact blk_congr (fun i _ => by rw [Nat.mul_add, Nat.add_assoc])

theorem getD_left (a b : List Int) {i : Nat} (h : i < a.length) : (a ++ b).getD i 0 = a.getD i 0 := by
  rw [List.getD_eq_getElem?_getD, List.getD_eq_getElem?_getD, List.getElem?_append_left h]

theorem getD_right (a b : List Int) {i : Nat} (h : a.length ≤ i) : (a ++ b).getD i 0 = b.getD (i - a.length) 0 := by
  rw [List.getD_eq_getElem?_getD, List.getD_eq_getElem?_getD, List.getElem?_append_right h]

theorem padL_low (n : Nat) (m : Nat → Int) {i : Nat} (h : i < n) : (padL n m).getD i 0 = m i := by
  unfold padL
  rw [getD_left _ _ (by simp; omega), getD_left _ _ (by simp; omega), getD_left _ _ (by simp; omega)]
  exact range_getD n m h

theorem padL_mid (n : Nat) (m : Nat → Int) : (padL n m).getD n 0 = 128 := by
  unfold padL
  rw [getD_left _ _ (by simp <;> omega), getD_left _ _ (by simp), getD_right _ _ (by simp)]
  simp

theorem padL_zero (n : Nat) (m : Nat → Int) {i : Nat} (h : n < i) (h2 : i < n + 1 + zs n) : (padL n m).getD i 0 = 0 := by
  unfold padL
  rw [getD_left _ _ (by simp; omega), getD_right _ _ (by simp; omega)]
  rw [List.getD_eq_getElem?_getD, List.getElem?_replicate]
  split <;> rfl

theorem padL_len (n : Nat) (m : Nat → Int) {k : Nat} (h : k < 8) : (padL n m).getD (n + 1 + zs n + k) 0 = lenB n k := by
  unfold padL
  rw [getD_right _ _ (by simp; omega)]
  have e : n + 1 + zs n + k - ((List.range n).map m ++ [128] ++ List.replicate (zs n) 0).length = k := by simp; omega
  rw [e]
  exact range_getD 8 (lenB n) h

theorem lenB_high (n : Nat) (hn : n ≤ 100000) {k : Nat} (h : k < 4) : lenB n k = 0 := by
  unfold lenB
  have : k = 0 ∨ k = 1 ∨ k = 2 ∨ k = 3 := by omega
  rcases this with rfl | rfl | rfl | rfl <;> simp <;> omega

theorem lenB_low (n : Nat) {k : Nat} (h : k < 4) : lenB n (k + 4) = bt (8 * n) k := by
  unfold lenB
  rw [show 56 - 8 * (k + 4) = 24 - 8 * k by omega]
  exact bt_pow _ k h

theorem put4_in (o : Nat) (x : Int) (f : Nat → Value) {i : Nat} (h : o ≤ i ∧ i < o + 4) : put4 o x f i = .int .u8 (bt x (i - o)) := by unfold put4; rw [if_pos h]
theorem put4_out (o : Nat) (x : Int) (f : Nat → Value) {i : Nat} (h : ¬ (o ≤ i ∧ i < o + 4)) : put4 o x f i = f i := by unfold put4; rw [if_neg h]

theorem bt_zero (k : Nat) : bt 0 k = 0 := by unfold bt; split <;> rfl

/-- The end that is mixed in is the end of what the document pads. -/
theorem end_same (n : Nat) (m : Nat → Int) (hn : n ≤ 100000) {i : Nat} (hi : i < lastSize (n % 64)) : (padL n m).getD (64 * (n / 64) + i) 0 = lastB (n % 64) (fun i => m (n - n % 64 + i)) n i := by
  obtain ⟨r, hr⟩ : ∃ r, n % 64 = r := ⟨_, rfl⟩
  obtain ⟨q, hq⟩ : ∃ q, 64 * (n / 64) = q := ⟨_, rfl⟩
  have hnq : n = q + r := by omega
  have hr64 : r < 64 := by omega
  rw [hr, hq]
  rw [hr] at hi
  obtain ⟨s, hs⟩ : ∃ s, lastSize r = s := ⟨_, rfl⟩
  have hz : n + 1 + zs n = q + (s - 8) ∧ r < s - 8 := by
    unfold zs
    rw [hr, ← hs]
    unfold lastSize
    split <;> omega
  have hs2 : 8 ≤ s := by rw [← hs]; unfold lastSize; split <;> omega
  have hL : (8 * (n : Int)) % 18446744073709551616 % 4294967296 = 8 * n := by omega
  have hH : (8 * (n : Int)) % 18446744073709551616 / 4294967296 % 4294967296 = 0 := by omega
  unfold lastB lastF
  rw [hs, hL, hH]
  rw [hs] at hi
  by_cases h4 : s - 4 ≤ i
  · rw [put4_in _ _ _ ⟨h4, by omega⟩]
    show _ = bt (8 * n) (i - (s - 4))
    rw [show q + i = n + 1 + zs n + (i - (s - 4) + 4) by omega, padL_len n m (by omega), lenB_low n (by omega)]
  · rw [put4_out _ _ _ (by omega)]
    by_cases h8 : s - 8 ≤ i
    · rw [put4_in _ _ _ ⟨h8, by omega⟩]
      show _ = bt 0 (i - (s - 8))
      rw [bt_zero, show q + i = n + 1 + zs n + (i - (s - 8)) by omega, padL_len n m (by omega), lenB_high n hn (by omega)]
    · rw [put4_out _ _ _ (by omega)]
      by_cases h1 : i = r
      · rw [if_pos h1, h1, ← hnq, padL_mid]
        rfl
      · rw [if_neg h1]
        by_cases h2 : i < r
        · rw [if_pos h2, padL_low n m (by omega)]
          show m (q + i) = m (n - r + i)
          rw [show n - r + i = q + i by omega]
        · rw [if_neg h2, padL_zero n m (by omega) (by omega)]
          rfl

theorem rsumV_eq (n : Nat) (m : Nat → Int) (hn : n ≤ 100000) : rsumV n m = sumV n m := by
  unfold rsumV sumV
  have e : (n + 1 + zs n + 8) / 64 = n / 64 + lastSize (n % 64) / 64 := by
    unfold zs lastSize
    split <;> omega
  rw [e, blks_add]
  rw [blks_congr (m' := m) (n / 64) (fun i hi => padL_low n m (by omega))]
  refine blks_congr _ (fun i hi => end_same n m hn ?_)
  have : 64 * (lastSize (n % 64) / 64) = lastSize (n % 64) := by unfold lastSize; split <;> rfl
  omega

theorem rsumB_eq (n : Nat) (m : Nat → Int) (hn : n ≤ 100000) : rsumB n m = sumB n m := by
  funext i
  unfold rsumB sumB
  rw [rsumV_eq n m hn]
end Go.Proofs.YtnmghgbpgpaomaaGreat.Sha

namespace Go.Proofs.YtnmghgbpgpaomaaGreat.Sha
open Go.RowKit
set_option maxRecDepth 100000

theorem two_lies (w : World) (k : IntKind) (x y : Int) (t : TypeId) : Lies k (w.alloc (.cells #[.int k x, .int k y] t)) (some ⟨w.heap.size, 0, none⟩) 2 (fun i => if i = 0 then x else y) := fun i hi => by
  have hb := heap_alloc_new w (.cells #[.int k x, .int k y] t)
  have : i = 0 ∨ i = 1 := by omega
  rcases this with rfl | rfl <;> (refine ⟨_, _, rfl, ?_⟩; unfold World.cell?; simp only [hb]; rfl)

theorem range_two (x y : Int) : (List.range 2).map (fun i => if i = 0 then x else y) = [x, y] := rfl

/-- Some numbers more, as one step of a region that draws its order. -/
theorem step_many {e t : TypeId} {k : IntKind} {by' : Nat} (hu : Tryz.prog.underlying t = some (.slice e)) (hinfo : (Tryz.prog.info? e).map (fun i => (i.zero, i.size, i.bytes)) = some (some (.int k 0), 1, by')) (hby : by' ≤ 8)
    {ops : Array Oper} {o : Oper} {a : Act} {K : Act → World → Prop} {Q : Exit → Act → World → Prop} {E : Prop} {w : World} (hgd : o.guard = none) (s x : Operand)
    (ho : o.op = .call { callee := .builtin .append, args := #[s, x], argTypes := #[t, t] })
    {w0 : World} {v : Value} {l : List Int} (hs : a.eval s = v) (hown : Own e k w0 w v l) (hfr : Fr None' w0 w) {b n : Nat} {m : Nat → Int} (hx : a.eval x = .slice (some ⟨b, 0, none⟩) n n) (h0 : 0 < n) (hl : Lies k w (some ⟨b, 0, none⟩) n m) (hbig : l.length + n ≤ 100000)
    (h : ∀ v' w', Own e k w0 w' v' (l ++ (List.range n).map m) → Fr None' w0 w' → K (a.put o.dst v') w') : if Region.wanted o (yielded ops a.tmps) = true then Oper.wp Tryz.prog o a w K Q else E := by
  obtain ⟨i0, hi, hz0, hz1, hz2⟩ := info_parts hinfo
  have hm : (l.length + n) * by' ≤ 100000 * 8 := Nat.mul_le_mul (by omega) hby
  refine step_append_lies _ hgd s x t ho w0.heap.size e i0 (.int k 0) 1 by' hu hi hz0 hz1 hz2 rfl (by decide) v _ _ hs hown ⟨b, 0, none⟩ n n (((List.range n).map m).map (Value.int k)) hx (by simp) (fun j u hj => ?_) (fun u hu => by obtain ⟨z, _, rfl⟩ := List.mem_map.1 hu; rfl) h0 (by unfold maxLen; omega) (by omega) hfr.size _ rfl ?_
  · have hjn : j < n := by
      have := (List.getElem?_eq_some_iff.1 hj).1
      simpa using this
    obtain ⟨b', o', e, hc⟩ := hl j hjn
    cases e
    have hadd : (⟨b, 0, none⟩ : Addr).add j = ⟨b, 0 + j, none⟩ := by unfold Addr.add; split <;> simp_all
    rw [hadd, hc]
    simp [List.getElem?_map, List.getElem?_range hjn] at hj
    rw [← hj]
  intro g cap w' h1 h2 _ _
  refine h _ w' ?_ ?_
  · unfold Own
    rw [List.length_append, List.map_append, List.length_map, List.length_range]
    exact h1
  · refine hfr.trans (Fr.grown (M := fun i => v.ownBlock = some i) h2 (fun k e => e)) (fun i e => Or.inr ?_)
    rcases hown.2 with ⟨hvv, _⟩ | ⟨g', cap', cur', hvv, hb', _⟩
    · rw [hvv] at e; cases e
    · rw [hvv] at e; cases e; exact hb'

def dig : ByteArray := ⟨#[48, 49, 50, 51, 52, 53, 54, 55, 56, 57, 97, 98, 99, 100, 101, 102]⟩
theorem dig_at (p : Nat) (h : p < dig.size) : ((dig[p]).toNat : Int) = hexc p := by
  have : p < 16 := h
  have : p = 0 ∨ p = 1 ∨ p = 2 ∨ p = 3 ∨ p = 4 ∨ p = 5 ∨ p = 6 ∨ p = 7 ∨ p = 8 ∨ p = 9 ∨ p = 10 ∨ p = 11 ∨ p = 12 ∨ p = 13 ∨ p = 14 ∨ p = 15 := by omega
  rcases this with rfl | rfl | rfl | rfl | rfl | rfl | rfl | rfl | rfl | rfl | rfl | rfl | rfl | rfl | rfl | rfl <;> rfl

theorem name_two (n : Nat) (m : Nat → Int) (j : Nat) : (List.range (2 * (j + 1))).map (nameB n m) = (List.range (2 * j)).map (nameB n m) ++ [hexc (sumB n m j / 16), hexc (sumB n m j % 16)] := by
  rw [show 2 * (j + 1) = 2 * j + 1 + 1 by omega, range_succ_map, range_succ_map, List.append_assoc]
  have e0 : nameB n m (2 * j) = hexc (sumB n m j / 16) := by unfold nameB; rw [if_pos (by omega), show 2 * j / 2 = j by omega]
  have e1 : nameB n m (2 * j + 1) = hexc (sumB n m j % 16) := by unfold nameB; rw [if_neg (by omega), show (2 * j + 1) / 2 = j by omega]
  rw [e0, e1]
  rfl

set_option maxHeartbeats 4000000 in
theorem rname_any (va : Option Addr) (n c : Nat) (m : Nat → Int) (w : World) (h : Byt w (.slice va n c) n m) (hn : va = none → c = 0) (hbig : n ≤ 90000) :
   Calls Tryz.prog 9 #[.slice va n c] w fun e w' => e = .returned (.string ⟨(nameS n m).toArray⟩) ∧ Fr None' w w' := by
  have hs := rsum_any va n c m w h hn hbig
  rw [rsumB_eq n m (by omega)] at hs
  clear h hn
  go_enter Tryz.func9, Tryz.ntmps9
  go_wp2_with fail
  refine hs.mono ?_
  rintro e w1 ⟨rfl, f1⟩
  clear hs
  go_wp2_with (first
    | (refine store_arr2 info32 _ _ rfl rfl rfl w1.heap.size rfl rfl (fun _ _ => rfl) (f0 := n8 fun _ => 0) (rowIs_of (heap_alloc_new w1 _)) ?_
       intro w3 r3 f3))
  replace f3 := f1.then ((Fr.alloc None' w1 _).trans f3 (fun i e => Or.inr (by omega)))
  have l3 := r3.lt
  have l1 := f1.size
  clear f1
  generalize hD : (⟨#[48, 49, 50, 51, 52, 53, 54, 55, 56, 57, 97, 98, 99, 100, 101, 102]⟩ : ByteArray) = D
  have hD1 : D.size = 16 := by rw [← hD]; rfl
  have HD : Hid (D = dig) := hD.symm
  clear hD
  go_loopw [5, 6] (fun v i wr => ∃ j : Nat, j ≤ 32 ∧ i = .int .i64 j ∧ Own 5 .u8 w3 wr v ((List.range (2 * j)).map (nameB n m)) ∧ Fr None' w3 wr) (fun _ i _ => 32 - (intOf i).toNat)
  case atStart => exact ⟨0, by omega, rfl, Own.nil _ _ _ _, Fr.refl _ _⟩
  case round =>
    obtain ⟨j, hj, rfl, hown, fr⟩ := hrel
    by_cases hlt : j < 32
    · have i0 : (j : Int) < 32 := by omega
      obtain ⟨s, hs⟩ : ∃ s, sumB n m j = s := ⟨_, rfl⟩
      have hb := sumB_range n m j
      have hnt := name_two n m j
      rw [hs] at hb hnt
      have hS : Hid (∀ w', Fr None' w3 w' → w'.cell? ⟨w1.heap.size, j, none⟩ = some (.int .u8 s)) := fun w' f => by rw [← hs]; exact (f.rowIs r3 id).cell hlt
      obtain ⟨p, hp⟩ : ∃ p : Nat, s / 16 = p := ⟨(s / 16).toNat, by omega⟩
      obtain ⟨q, hq⟩ : ∃ q : Nat, s % 16 = q := ⟨(s % 16).toNat, by omega⟩
      have b0 : 0 ≤ s := by omega
      have b1 : s ≤ 255 := by omega
      have p0 : p < D.size := by omega
      have q0 : q < D.size := by omega
      have p1 : (p : Int) < 16 := by omega
      have q1 : (q : Int) < 16 := by omega
      have e1 : Int.tdiv s 16 = p := by rw [Int.tdiv_eq_ediv_of_nonneg b0]; exact hp
      have e2 : Int.tmod s 16 = q := by rw [Int.tmod_eq_emod_of_nonneg b0]; exact hq
      have e3 : IntKind.u8.wrap (p : Int) = p := by rw [IntKind.wrap_u8]; omega
      have e4 : IntKind.u8.wrap (q : Int) = q := by rw [IntKind.wrap_u8]; omega
      have HP : Hid (((D[p]).toNat : Int) = hexc p ∧ ((D[q]).toNat : Int) = hexc q) := by
        have hd := HD.out
        subst hd
        exact ⟨dig_at p p0, dig_at q q0⟩
      rw [hp, hq] at hnt
      have HN : Hid (_ = _) := hnt
      clear hs hb hnt r3
      go_wp2_with fail
      have hown' : Own 5 .u8 w3 wr.drew _ ((List.range (2 * j)).map (nameB n m)) := hown.fr (Fr.drewN None' wr 1)
      have fr' : Fr None' w3 wr.drew := fr.then (Fr.drewN None' wr 1)
      clear hown fr
      go_region_held3 (fun w' => w'.cell? ⟨w1.heap.size, j, none⟩ = some (.int .u8 s))
        (first | exact hS.out _ f4 | exact hS.out _ (fr'.then (Fr.alloc None' _ _)) | exact hS.out _ fr')
        (first | (refine step_many Tryz.underlying31 Tryz.info8 (by omega) rfl _ _ rfl rfl (hown'.alloc _) (fr'.then (Fr.alloc None' _ _)) rfl (by omega) (two_lies _ .u8 _ _ _) (by simp; omega) ?_; intro v4 w4 own4 f4))
      all_goals go_wp2_with fail
      all_goals
        refine ⟨⟨j + 1, by omega, by go_num, ?_, f4⟩, by simp [intOf]; omega⟩
        rw [HN.out, ← HP.out.1, ← HP.out.2]
        exact own4
    · have i0 : (32 : Int) ≤ (j : Int) := by omega
      have hj32 : j = 32 := by omega
      rw [hj32] at hown
      obtain ⟨g, cg, rfl, hcg, hg1, hg2, hat⟩ := hown.got (by simp)
      have hlen : ((List.range (2 * 32)).map (nameB n m)).length = 64 := by simp
      rw [hlen] at hcg hat ⊢
      have hcv := fun wx (hx : wx = wr) => run_convert_bytes_back (P := Tryz.prog) wx 31 9 5 ⟨g, 0, none⟩ cg (nameS n m) Tryz.underlying31 Tryz.underlying5 Tryz.underlying9 (fun i hi => by
        subst hx
        rw [nameS_at]
        have hadd : (⟨g, 0, none⟩ : Addr).add i = ⟨g, i, none⟩ := by unfold Addr.add; split <;> simp_all
        rw [nameS_length] at hi
        rw [hadd, hat i hi, range_getD 64 (nameB n m) hi])
      replace hcv := hcv wr rfl
      rw [nameS_length] at hcv
      have f0 := f3.then fr
      clear r3 hown hat hlt hj hj32 hlen fr f3
      go_wp2
      go_ret
      exact ⟨rfl, f0⟩

theorem okd_is (c : UInt8) : okd c = !(((decide ((c.toNat : Int) < 48) || decide ((57 : Int) < c.toNat)) && (decide ((c.toNat : Int) < 97) || decide ((102 : Int) < c.toNat)))) := by
  unfold okd
  rw [Bool.eq_iff_iff]
  simp <;> omega

set_option maxHeartbeats 1000000 in
theorem rnamed_any (s : ByteArray) (w : World) (hs : s.size ≤ maxLen) : Calls Tryz.prog 47 #[.string s] w fun e w' => e = .returned (.bool (namedB s.data.toList)) ∧ Fr None' w w' := by
  have e : s.data.toList.length = s.size := by cases s; rfl
  unfold maxLen at hs
  have hR : Hid (namedB s.data.toList = (decide (s.size = 64) && s.data.toList.all okd)) := by
    unfold Hid namedB; rw [e]
  clear e
  go_enter Tryz.func47, Tryz.ntmps47
  go_wp2_with fail
  go_loopw [3] (fun i wr => ∃ k : Nat, k ≤ s.size ∧ i = .int .i64 k ∧ (s.data.toList.take k).all okd = true ∧ Fr None' w wr) (fun i _ => s.size - (intOf i).toNat)
  case atStart => exact ⟨0, Nat.zero_le _, rfl, rfl, Fr.refl _ _⟩
  case round =>
    obtain ⟨k, hk, rfl, hall, fr⟩ := hrel
    have HA : Hid ((s.data.toList.take k).all okd = true) := hall
    clear hall
    by_cases hlt : k < s.size
    · obtain ⟨c, hc⟩ : ∃ c : Nat, (s[k]).toNat = c := ⟨_, rfl⟩
      have hd := okd_is s[k]
      rw [hc] at hd
      have i0 : (k : Int) < s.size := by omega
      have hcs : (c : Int) < 48 ∨ (48 ≤ (c : Int) ∧ (c : Int) ≤ 57) ∨ (57 < (c : Int) ∧ (c : Int) < 97) ∨ (97 ≤ (c : Int) ∧ (c : Int) ≤ 102) ∨ 102 < (c : Int) := by omega
      rcases hcs with g1 | ⟨g1, g2⟩ | ⟨g1, g2⟩ | ⟨g1, g2⟩ | g1
      · have g3 : (c : Int) < 97 := by omega
        have hd2 : Hid (okd s[k] = false) := by show _ = _; rw [hd]; simp; omega
        clear hd
        go_wp2_with fail
        go_ret
        refine ⟨?_, fr⟩
        rw [hR.out, all_no hlt hd2.out, Bool.and_false]
        rfl
      · have g3 : (c : Int) < 97 := by omega
        have hd2 : Hid (okd s[k] = true) := by show _ = _; rw [hd]; simp; omega
        clear hd
        go_wp2_with fail
        exact ⟨⟨k + 1, by omega, by go_num, all_step hlt HA.out hd2.out, fr⟩, by simp [intOf]; omega⟩
      · have g3 : (48 : Int) ≤ c := by omega
        have hd2 : Hid (okd s[k] = false) := by show _ = _; rw [hd]; simp; omega
        clear hd
        go_wp2_with fail
        go_ret
        refine ⟨?_, fr⟩
        rw [hR.out, all_no hlt hd2.out, Bool.and_false]
        rfl
      · have g3 : (48 : Int) ≤ c := by omega
        have g4 : (57 : Int) < c := by omega
        have hd2 : Hid (okd s[k] = true) := by show _ = _; rw [hd]; simp; omega
        clear hd
        go_wp2_with fail
        exact ⟨⟨k + 1, by omega, by go_num, all_step hlt HA.out hd2.out, fr⟩, by simp [intOf]; omega⟩
      · have g3 : (48 : Int) ≤ c := by omega
        have g4 : (57 : Int) < c := by omega
        have g5 : (97 : Int) ≤ c := by omega
        have hd2 : Hid (okd s[k] = false) := by show _ = _; rw [hd]; simp; omega
        clear hd
        go_wp2_with fail
        go_ret
        refine ⟨?_, fr⟩
        rw [hR.out, all_no hlt hd2.out, Bool.and_false]
        rfl
    · have i0 : (s.size : Int) ≤ k := by omega
      go_wp2
      go_ret
      refine ⟨?_, fr⟩
      have ht := HA.out
      rw [List.take_of_length_le (by rw [show s.data.toList.length = s.size from by cases s; rfl]; omega)] at ht
      rw [hR.out, ht, Bool.and_true]
      have e64 : ((s.size : Int) == 64) = decide (s.size = 64) := by
        rw [Bool.eq_iff_iff]
        simp
        omega
      rw [← e64]
      rfl
end Go.Proofs.YtnmghgbpgpaomaaGreat.Sha
