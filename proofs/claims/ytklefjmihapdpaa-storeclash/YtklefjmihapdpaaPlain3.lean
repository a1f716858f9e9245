/-
  What is proved here: small facts on the store as plain functions, and on what fileOf and bytes.Equal answer. No condition but those that are named.
-/
import Derived.Test.YtklefjmihapdpaaLive
import Derived.Test.YtklefjmihapdpaaSNamed
import Derived.Test.YtklefjmihapdpaaSEq
namespace Go.Proofs.Ytklefjmihapdpaa
open Go.RowKit Go.Maps Go.WideMaps
set_option maxRecDepth 100000

/-- Bytes as sha sees them; their name; the file of a name; the two files of the root. -/
def mOf (b : List UInt8) (i : Nat) : Int := ((b.getD i 0).toNat : Int)
def nm (b : List UInt8) : List UInt8 := Sha.nameS b.length (mOf b)
def fileK (x : List UInt8) : List UInt8 := [111, 46] ++ x.take 32
def rootK : List UInt8 := [114, 111, 111, 116]
def newK : List UInt8 := [114, 111, 111, 116, 46, 110, 101, 119]

theorem Fr.toSha {M : Nat → Prop} {w w' : World} (h : Fr M w w') : Sha.Fr M w w' := ⟨h.os, h.tape, h.output, h.size, h.block⟩
theorem Sha.Fr.ofSha {M : Nat → Prop} {w w' : World} (h : Sha.Fr M w w') : Fr M w w' := ⟨h.os, h.tape, h.output, h.size, h.block⟩
theorem fr_of {w w' : World} (h : Sha.Fr Sha.None' w w') : Fr None' w w' := ⟨h.os, h.tape, h.output, h.size, fun k hk hm => h.block k hk hm⟩
theorem fr_to {w w' : World} (h : Fr None' w w') : Sha.Fr Sha.None' w w' := ⟨h.os, h.tape, h.output, h.size, fun k hk hm => h.block k hk hm⟩

/-- A slice that holds the bytes b, as both sides see it. -/
structure Arg (w : World) (v : Value) (b : List UInt8) : Prop where
  bytes : Bytes w v b
  byt : Sha.Byt w v b.length (mOf b)

theorem Data.arg {w : World} {v : Value} {b : List UInt8} (h : Data w v b) : Arg w v b := by
  refine ⟨h.bytes, ?_⟩
  rcases h.2 with ⟨hv, h0⟩ | ⟨g, cap, cur, hv, _, hh, hc, _, _, ht⟩
  · exact ⟨none, 0, by rw [hv, h0], by omega, fun i hi => by omega⟩
  · refine ⟨_, _, hv, hc, fun i hi => ⟨g, 0, rfl, ?_⟩⟩
    have hl : (u8s b)[i]? = some (.int .u8 (mOf b i)) := by
      unfold mOf
      simp [u8s, List.getElem?_map, List.getElem?_eq_getElem hi]
    rw [← ht, List.getElem?_take, if_pos (by omega)] at hl
    rw [World.cell?, Nat.zero_add, hh]
    simpa using hl

theorem nm_length (b : List UInt8) : (nm b).length = 64 := Sha.nameS_length _ _

/-- Name, told by lists. -/
theorem name_is {w : World} {v : Value} {b : List UInt8} (h : Arg w v b) (hb : b.length ≤ 100000) : Calls Try.prog 21 #[v] w fun e w' => e = .returned (.string ⟨(nm b).toArray⟩) ∧ Fr None' w w' :=
  (Sha.name_any v b.length (mOf b) w h.byt (by omega)).mono fun _ _ ⟨h1, h2⟩ => ⟨h1, fr_of h2⟩

theorem toList_mk (l : List UInt8) : (⟨l.toArray⟩ : ByteArray).data.toList = l := rfl
theorem size_mk (l : List UInt8) : (⟨l.toArray⟩ : ByteArray).size = l.length := by simp [ByteArray.size]

theorem named_is (l : List UInt8) (w : World) (hl : l.length ≤ maxLen) : Calls Try.prog 25 #[.string ⟨l.toArray⟩] w fun e w' => e = .returned (.bool (Sha.namedB l)) ∧ w = w' :=
  Sha.named_any ⟨l.toArray⟩ w (by rw [size_mk]; exact hl)

theorem namedB_nm (b : List UInt8) : Sha.namedB (nm b) = true := Sha.named_name _ _

theorem namedB_length {l : List UInt8} (h : Sha.namedB l = true) : l.length = 64 := by
  unfold Sha.namedB at h
  simp at h
  exact h.1

/-- fileOf. -/
theorem fileOf_any (l : List UInt8) (w : World) (hl : l.length = 64) : Calls Try.prog 23 #[.string ⟨l.toArray⟩] w fun e w' => e = .returned (.string ⟨(fileK l).toArray⟩) ∧ Fr None' w w' := by
  have h2 : (⟨(fileK l).toArray⟩ : ByteArray) = ⟨#[111, 46]⟩ ++ (⟨l.toArray⟩ : ByteArray).extract 0 32 := by
    apply ByteArray.ext
    rw [ByteArray.data_append, ByteArray.data_extract]
    unfold fileK
    simp
  have hz : (⟨l.toArray⟩ : ByteArray).size = 64 := by rw [size_mk, hl]
  rw [h2]
  generalize (⟨l.toArray⟩ : ByteArray) = s at hz ⊢
  clear h2 hl
  go_enter Try.func23, Try.ntmps23
  go_wp2_with fail
  go_ret
  exact ⟨rfl, Fr.refl _ _⟩

theorem beq_lists (a b : List UInt8) : ((⟨a.toArray⟩ : ByteArray).toList == (⟨b.toArray⟩ : ByteArray).toList) = decide (a = b) := by
  rw [ByteArray.toList_eq, ByteArray.toList_eq, Bool.eq_iff_iff]
  simp

/-- bytes.Equal. -/
theorem equal_any {w : World} {v v' : Value} {b b' : List UInt8} (h : Bytes w v b) (h' : Bytes w v' b') : Calls Try.prog 24 #[v, v'] w fun e w' => e = .returned (.bool (decide (b = b'))) ∧ w = w' := by
  have h1 := str_any h
  have h2 := str_any h'
  have h3 := beq_lists b b'
  generalize (⟨b.toArray⟩ : ByteArray) = x at h1 h3
  generalize (⟨b'.toArray⟩ : ByteArray) = y at h2 h3
  clear h h'
  go_enter Try.func24, Try.ntmps24
  go_wp2_with fail
  go_ret
  exact ⟨by rw [← h3]; rfl, rfl⟩
end Go.Proofs.Ytklefjmihapdpaa
