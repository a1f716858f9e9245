/-
  What is proved here: small facts on SHA-256 as plain functions on numbers. No condition.
-/
import Derived.Test.YtdaogldmcbfmoaaGreatDoorMSBase
import Derived.Laws.BitsLemmas
namespace Go.Proofs.YtdaogldmcbfmoaaGreatDoor.Sha

/-- r(x, n). -/
def rotr (x : Int) (n : Nat) : Int := bits .or .u32 (x / 2 ^ n) (IntKind.u32.wrap (x * 2 ^ (32 - n)))

/-- A number of four bytes, the highest first. -/
def word4 (x0 x1 x2 x3 : Int) : Int :=
  bits .or .u32 (bits .or .u32 (bits .or .u32 (IntKind.u32.wrap (IntKind.u32.wrap x0 * 16777216)) (IntKind.u32.wrap (IntKind.u32.wrap x1 * 65536))) (IntKind.u32.wrap (IntKind.u32.wrap x2 * 256))) (IntKind.u32.wrap x3)

def xor32 (x y : Int) : Int := bits .xor .u32 x y
def and32 (x y : Int) : Int := bits .and .u32 x y

def s0 (x : Int) : Int := xor32 (xor32 (rotr x 7) (rotr x 18)) (x / 8)
def s1 (y : Int) : Int := xor32 (xor32 (rotr y 17) (rotr y 19)) (y / 1024)

/-- One number more of W, of those that are there. -/
def wNext (m : Nat → Int) (l : List Int) (i : Nat) : Int :=
  if i < 16 then word4 (m (4 * i)) (m (4 * i + 1)) (m (4 * i + 2)) (m (4 * i + 3))
  else (l.getD (i - 16) 0 + s0 (l.getD (i - 15) 0) + l.getD (i - 7) 0 + s1 (l.getD (i - 2) 0)) % 4294967296

/-- The first n numbers of W, of the bytes m. -/
def wList (m : Nat → Int) : Nat → List Int
  | 0 => []
  | n + 1 => wList m n ++ [wNext m (wList m n) n]

/-- W(i). -/
def W (m : Nat → Int) (i : Nat) : Int := wNext m (wList m i) i

theorem wList_length (m : Nat → Int) : ∀ n, (wList m n).length = n
  | 0 => rfl
  | n + 1 => by simp [wList, wList_length m n]

theorem wList_getD (m : Nat → Int) (j : Nat) : ∀ n, j < n → (wList m n).getD j 0 = W m j
  | 0, h => by omega
  | n + 1, h => by
    simp only [wList]
    by_cases e : j = n
    · subst e
      rw [List.getD_eq_getElem?_getD, List.getElem?_append_right (by rw [wList_length]; omega), wList_length]
      simp [W]
    · rw [List.getD_eq_getElem?_getD, List.getElem?_append_left (by rw [wList_length]; omega), ← List.getD_eq_getElem?_getD]
      exact wList_getD m j n (by omega)

theorem W_low (m : Nat → Int) (i : Nat) (h : i < 16) : W m i = word4 (m (4 * i)) (m (4 * i + 1)) (m (4 * i + 2)) (m (4 * i + 3)) := by
  unfold W wNext
  rw [if_pos h]

theorem W_high (m : Nat → Int) (i : Nat) (h : 16 ≤ i) : W m i = (W m (i - 16) + s0 (W m (i - 15)) + W m (i - 7) + s1 (W m (i - 2))) % 4294967296 := by
  rw [W, wNext, if_neg (by omega), wList_getD m _ i (by omega), wList_getD m _ i (by omega), wList_getD m _ i (by omega), wList_getD m _ i (by omega)]

/-- The eight numbers. -/
structure V8 where
  a : Int
  b : Int
  c : Int
  d : Int
  e : Int
  f : Int
  g : Int
  h : Int

def V8.at (x : V8) (i : Nat) : Int :=
  match i with
  | 0 => x.a | 1 => x.b | 2 => x.c | 3 => x.d | 4 => x.e | 5 => x.f | 6 => x.g | _ => x.h

def V8.of (v : Nat → Int) : V8 := ⟨v 0, v 1, v 2, v 3, v 4, v 5, v 6, v 7⟩

theorem V8.at_of (v : Nat → Int) {i : Nat} (hi : i < 8) : (V8.of v).at i = v i := by
  have : i = 0 ∨ i = 1 ∨ i = 2 ∨ i = 3 ∨ i = 4 ∨ i = 5 ∨ i = 6 ∨ i = 7 := by omega
  rcases this with rfl | rfl | rfl | rfl | rfl | rfl | rfl | rfl <;> rfl

def tOf (k w : Int) (x : V8) : Int :=
  (x.h + xor32 (xor32 (rotr x.e 6) (rotr x.e 11)) (rotr x.e 25) + xor32 (and32 x.e x.f) (and32 (xor32 IntKind.u32.max x.e) x.g) + k + w) % 4294967296

def uOf (x : V8) : Int :=
  (xor32 (xor32 (rotr x.a 2) (rotr x.a 13)) (rotr x.a 22) + xor32 (xor32 (and32 x.a x.b) (and32 x.a x.c)) (and32 x.b x.c)) % 4294967296

/-- One round. -/
def rnd (k w : Int) (x : V8) : V8 := ⟨(tOf k w x + uOf x) % 4294967296, x.a, x.b, x.c, (x.d + tOf k w x) % 4294967296, x.e, x.f, x.g⟩

/-- n rounds. -/
def rnds (k w : Nat → Int) (x : V8) : Nat → V8
  | 0 => x
  | n + 1 => rnd (k n) (w n) (rnds k w x n)

/-- The eight numbers behind a block of the bytes m. -/
def blk (k m : Nat → Int) (v : Nat → Int) (i : Nat) : Int := (v i + (rnds k (W m) (V8.of v) 64).at i) % 4294967296

/-- Byte j of a number, the highest first; four bytes laid at o. -/
def bt (x : Int) (j : Nat) : Int := match j with | 0 => x / 16777216 % 256 | 1 => x / 65536 % 256 | 2 => x / 256 % 256 | _ => x % 256

def put4 (o : Nat) (x : Int) (f : Nat → Value) (i : Nat) : Value := if o ≤ i ∧ i < o + 4 then .int .u8 (bt x (i - o)) else f i

theorem put4_eq (o : Nat) (x : Int) (f : Nat → Value) (i : Nat) : (if i = o + 3 then Value.int .u8 (x % 256) else if i = o + 2 then Value.int .u8 (x / 256 % 256) else if i = o + 1 then Value.int .u8 (x / 65536 % 256) else if i = o then Value.int .u8 (x / 16777216 % 256) else f i) = put4 o x f i := by
  unfold put4
  by_cases h : o ≤ i ∧ i < o + 4
  · rw [if_pos h]
    have : i = o ∨ i = o + 1 ∨ i = o + 2 ∨ i = o + 3 := by omega
    rcases this with rfl | rfl | rfl | rfl <;> simp [bt]
  · rw [if_neg h, if_neg (by omega), if_neg (by omega), if_neg (by omega), if_neg (by omega)]

/-- The bytes of the end: of n bytes m, and the length L of all. -/
def lastSize (n : Nat) : Nat := if n ≤ 55 then 64 else 128

def lastF (n : Nat) (m : Nat → Int) (L : Int) : Nat → Value :=
  put4 (lastSize n - 4) (8 * L % 18446744073709551616 % 4294967296) (put4 (lastSize n - 8) (8 * L % 18446744073709551616 / 4294967296 % 4294967296) (fun i => if i = n then .int .u8 128 else if i < n then .int .u8 (m i) else .int .u8 0))

/-- The eight numbers at first; K. -/
def iv (i : Nat) : Int := [0x6a09e667, 0xbb67ae85, 0x3c6ef372, 0xa54ff53a, 0x510e527f, 0x9b05688c, 0x1f83d9ab, 0x5be0cd19].getD i 0

def kc (i : Nat) : Int := [
  0x428a2f98, 0x71374491, 0xb5c0fbcf, 0xe9b5dba5, 0x3956c25b, 0x59f111f1, 0x923f82a4, 0xab1c5ed5,
  0xd807aa98, 0x12835b01, 0x243185be, 0x550c7dc3, 0x72be5d74, 0x80deb1fe, 0x9bdc06a7, 0xc19bf174,
  0xe49b69c1, 0xefbe4786, 0x0fc19dc6, 0x240ca1cc, 0x2de92c6f, 0x4a7484aa, 0x5cb0a9dc, 0x76f988da,
  0x983e5152, 0xa831c66d, 0xb00327c8, 0xbf597fc7, 0xc6e00bf3, 0xd5a79147, 0x06ca6351, 0x14292967,
  0x27b70a85, 0x2e1b2138, 0x4d2c6dfc, 0x53380d13, 0x650a7354, 0x766a0abb, 0x81c2c92e, 0x92722c85,
  0xa2bfe8a1, 0xa81a664b, 0xc24b8b70, 0xc76c51a3, 0xd192e819, 0xd6990624, 0xf40e3585, 0x106aa070,
  0x19a4c116, 0x1e376c08, 0x2748774c, 0x34b0bcb5, 0x391c0cb3, 0x4ed8aa4a, 0x5b9cca4f, 0x682e6ff3,
  0x748f82ee, 0x78a5636f, 0x84c87814, 0x8cc70208, 0x90befffa, 0xa4506ceb, 0xbef9a3f7, 0xc67178f2].getD i 0

/-- The eight numbers behind n blocks of the bytes m. -/
def blks (k m : Nat → Int) (v : Nat → Int) : Nat → Nat → Int
  | 0 => v
  | n + 1 => blk k (fun i => m (64 * n + i)) (blks k m v n)

theorem or_comm32 (x y : Int) : bits .or .u32 x y = bits .or .u32 y x := by
  unfold bits
  simp only
  rw [BitVec.or_comm]

theorem neg31 : ∀ n : Fin 32, n ≠ 0 → bits .and .u64 ((-(n.val : Int)) % 18446744073709551616) 31 = 32 - (n.val : Int) := by decide +kernel

end Go.Proofs.YtdaogldmcbfmoaaGreatDoor.Sha
