/-
  What is proved here: the contracts that the statement stands on: Plain3, Ops3, Inv3. Conditions: as each theorem names them.
-/
import Derived.Test.YtdaogldmcbfmoaaGreatDoorMLive
import Derived.Test.YtdaogldmcbfmoaaGreatDoorM8SName
import Derived.Test.YtdaogldmcbfmoaaGreatDoorMSEq
namespace Go.Proofs.YtdaogldmcbfmoaaGreatDoor
open Go.RowKit Go.Maps Go.WideMaps
set_option maxRecDepth 100000

/-- Bytes as sha sees them; their name; the file of a name; the two files of the root. -/
def mOf (b : List UInt8) (i : Nat) : Int := ((b.getD i 0).toNat : Int)
def nm (b : List UInt8) : List UInt8 := Sha.nameS b.length (mOf b)
def fileK (x : List UInt8) : List UInt8 := [111, 46] ++ x.take 32
def rootK : List UInt8 := [114, 111, 111, 116]
def newK : List UInt8 := [114, 111, 111, 116, 46, 110, 101, 119]

theorem Fr.toSha {M : Nat → Prop} {w w' : World} (h : Fr M w w') : Sha.Fr M w w' := ⟨h.os, h.tape, h.output, h.size, h.block⟩
theorem Sha.Fr.ofSha {M : Nat → Prop} {w w' : World} (h : Sha.Fr M w w') : Fr M w w' := ⟨h.os, h.tape, h.output, h.size, h.block⟩
theorem fr_of {w w' : World} (h : Sha.Fr Sha.None' w w') : Fr None' w w' := ⟨h.os, h.tape, h.output, h.size, fun k hk hm => h.block k hk hm⟩
theorem fr_to {w w' : World} (h : Fr None' w w') : Sha.Fr Sha.None' w w' := ⟨h.os, h.tape, h.output, h.size, fun k hk hm => h.block k hk hm⟩

/-- A slice that holds the bytes b, as both sides see it. -/
structure Arg (w : World) (v : Value) (b : List UInt8) : Prop where
  bytes : Bytes w v b
  byt : Sha.Byt w v b.length (mOf b)

theorem Data.arg {w : World} {v : Value} {b : List UInt8} (h : Data w v b) : Arg w v b := by
  refine ⟨h.bytes, ?_⟩
  rcases h.2 with ⟨hv, h0⟩ | ⟨g, cap, cur, hv, _, hh, hc, _, _, ht⟩
  · exact ⟨none, 0, by rw [hv, h0], by omega, fun i hi => by omega⟩
  · refine ⟨_, _, hv, hc, fun i hi => ⟨g, 0, rfl, ?_⟩⟩
    have hl : (u8s b)[i]? = some (.int .u8 (mOf b i)) := by
      unfold mOf
      simp [u8s, List.getElem?_map, List.getElem?_eq_getElem hi]
    rw [← ht, List.getElem?_take, if_pos (by omega)] at hl
    rw [World.cell?, Nat.zero_add, hh]
    simpa using hl

theorem nm_length (b : List UInt8) : (nm b).length = 64 := Sha.nameS_length _ _

/-- Name, told by lists. -/
theorem name_is {w : World} {v : Value} {b : List UInt8} (h : Arg w v b) (hb : b.length ≤ 100000) : Calls Tryz.prog 38 #[v] w fun e w' => e = .returned (.string ⟨(nm b).toArray⟩) ∧ Fr None' w w' :=
  (Sha.name_any v b.length (mOf b) w h.byt (by omega)).mono fun _ _ ⟨h1, h2⟩ => ⟨h1, fr_of h2⟩

theorem toList_mk (l : List UInt8) : (⟨l.toArray⟩ : ByteArray).data.toList = l := rfl
theorem size_mk (l : List UInt8) : (⟨l.toArray⟩ : ByteArray).size = l.length := by simp [ByteArray.size]

theorem named_is (l : List UInt8) (w : World) (hl : l.length ≤ maxLen) : Calls Tryz.prog 189 #[.string ⟨l.toArray⟩] w fun e w' => e = .returned (.bool (Sha.namedB l)) ∧ w = w' :=
  Sha.named_any ⟨l.toArray⟩ w (by rw [size_mk]; exact hl)

theorem namedB_nm (b : List UInt8) : Sha.namedB (nm b) = true := Sha.named_name _ _

theorem namedB_length {l : List UInt8} (h : Sha.namedB l = true) : l.length = 64 := by
  unfold Sha.namedB at h
  simp at h
  exact h.1

/-- fileOf. -/
theorem fileOf_any (l : List UInt8) (w : World) (hl : l.length = 64) : Calls Tryz.prog 74 #[.string ⟨l.toArray⟩] w fun e w' => e = .returned (.string ⟨(fileK l).toArray⟩) ∧ Fr None' w w' := by
  have h2 : (⟨(fileK l).toArray⟩ : ByteArray) = ⟨#[111, 46]⟩ ++ (⟨l.toArray⟩ : ByteArray).extract 0 32 := by
    apply ByteArray.ext
    rw [ByteArray.data_append, ByteArray.data_extract]
    unfold fileK
    simp
  have hz : (⟨l.toArray⟩ : ByteArray).size = 64 := by rw [size_mk, hl]
  rw [h2]
  generalize (⟨l.toArray⟩ : ByteArray) = s at hz ⊢
  clear h2 hl
  go_enter Tryz.func74, Tryz.ntmps74
  go_wp2_with fail
  go_ret
  exact ⟨rfl, Fr.refl _ _⟩

theorem beq_lists (a b : List UInt8) : ((⟨a.toArray⟩ : ByteArray).toList == (⟨b.toArray⟩ : ByteArray).toList) = decide (a = b) := by
  rw [ByteArray.toList_eq, ByteArray.toList_eq, Bool.eq_iff_iff]
  simp

/-- bytes.Equal. -/
theorem equal_any {w : World} {v v' : Value} {b b' : List UInt8} (h : Bytes w v b) (h' : Bytes w v' b') : Calls Tryz.prog 75 #[v, v'] w fun e w' => e = .returned (.bool (decide (b = b'))) ∧ w = w' := by
  have h1 := str_any h
  have h2 := str_any h'
  have h3 := beq_lists b b'
  generalize (⟨b.toArray⟩ : ByteArray) = x at h1 h3
  generalize (⟨b'.toArray⟩ : ByteArray) = y at h2 h3
  clear h h'
  go_enter Tryz.func75, Tryz.ntmps75
  go_wp2_with fail
  go_ret
  exact ⟨by rw [← h3]; rfl, rfl⟩
end Go.Proofs.YtdaogldmcbfmoaaGreatDoor

namespace Go.Proofs.YtdaogldmcbfmoaaGreatDoor
open Go.RowKit Go.Maps Go.WideMaps
set_option maxRecDepth 100000

/-- Put, Get and Root. -/
def St.put (S : St) (b : List UInt8) (v : Value) : List UInt8 × Int × St :=
  if (S.read (fileK (nm b))).2 = 0 then (if (S.read (fileK (nm b))).1 = b then (nm b, 0, S) else ([], 31, S))
  else if (S.read (fileK (nm b))).2 = 12 then (if (S.write ⟨fileK (nm b), v, b⟩).1 = 0 then (nm b, 0, (S.write ⟨fileK (nm b), v, b⟩).2) else ([], (S.write ⟨fileK (nm b), v, b⟩).1, (S.write ⟨fileK (nm b), v, b⟩).2))
  else ([], (S.read (fileK (nm b))).2, S)

def St.getB (S : St) (x : List UInt8) : List UInt8 × Int :=
  if Sha.namedB x = false then ([], 1) else if (S.read (fileK x)).2 = 0 then (if nm (S.read (fileK x)).1 = x then ((S.read (fileK x)).1, 0) else ([], 3)) else ([], (S.read (fileK x)).2)

def St.rootB (S : St) : List UInt8 × Int :=
  if (S.read rootK).2 = 0 then (if Sha.namedB (S.read rootK).1 = true then ((S.read rootK).1, 0) else ([], 3)) else ([], (S.read rootK).2)

theorem read_arg {w wi : World} {p : Nat} {S : St} (h : Live w wi p S) (l : List UInt8) (hs : l.length ≤ maxLen) (hu : used S.F < 1099511627776) :
    Calls Tryz.prog 73 #[.pointer (some ⟨p, 0, none⟩), .string ⟨l.toArray⟩] wi fun e w' => ∃ v, e = .returned (.tuple #[v, .int .i64 (S.read l).2]) ∧ Data w' v (S.read l).1 ∧ Live w w' p S ∧ Fr None' wi w' := by
  have hL := h
  obtain ⟨M, h1, h2, h3⟩ := h
  exact (read_any p M S ⟨l.toArray⟩ wi h1 (by rw [size_mk]; exact hs) hu).mono fun _ _ ⟨v, e1, hd, hf⟩ => ⟨v, e1, hd, hL.fresh hf, hf⟩

theorem Bytes.fresh {w w' : World} {v : Value} {b : List UInt8} (h : Bytes w v b) (f : Fr None' w w') : Bytes w' v b := h.kept f (fun _ _ _ _ _ e => e)
theorem Data.fresh {w w' : World} {v : Value} {b : List UInt8} (h : Data w v b) (f : Fr None' w w') : Data w' v b := f.data (fun _ _ _ _ _ hm => hm.elim) h
theorem Arg.fresh {w w' : World} {v : Value} {b : List UInt8} (h : Arg w v b) (f : Fr None' w w') : Arg w' v b := ⟨h.bytes.fresh f, h.byt.fr (fr_to f)⟩

theorem fileK_length {x : List UInt8} (h : x.length = 64) : (fileK x).length = 34 := by unfold fileK; simp [h]
theorem max100 : 100 ≤ maxLen := by decide

set_option maxHeartbeats 2000000 in
theorem put_any {w w0 wi : World} {p : Nat} {S : St} (h : Live w w0 p S) (hf : Fr None' w0 wi) (hS : S.fine) (v : Value) (b : List UInt8) (hv : Arg wi v b) (hO : Aside w w0 v) (hu : used S.F < 1099511627776) (hb : b.length ≤ 100000) :
    Calls Tryz.prog 41 #[.pointer (some ⟨p, 0, none⟩), v] wi fun e w' => ∃ v', e = .returned (.tuple #[.string ⟨(S.put b v').1.toArray⟩, .int .i64 (S.put b v').2.1]) ∧ Live w w' p (S.put b v').2.2 := by
  have hN := name_is hv (by omega)
  obtain ⟨x, hx⟩ : ∃ x, nm b = x := ⟨_, rfl⟩
  have hxl : x.length = 64 := by rw [← hx]; exact nm_length b
  have hR := fun wx (hx' : Live w wx p S) => read_arg hx' (fileK x) (by have := fileK_length hxl; have := max100; omega) hu
  unfold St.put
  rw [hx] at hN ⊢
  obtain ⟨r1, hr1⟩ : ∃ r, (S.read (fileK x)).1 = r := ⟨_, rfl⟩
  obtain ⟨r2, hr2⟩ : ∃ r, (S.read (fileK x)).2 = r := ⟨_, rfl⟩
  rw [hr1, hr2] at hR ⊢
  have HR : Hid _ := hR
  clear hr1 hr2 hR
  have HV : Hid (Arg wi v b) := hv
  have HH : Hid (Live w w0 p S ∧ Fr None' w0 wi ∧ S.fine ∧ Aside w w0 v) := ⟨h, hf, hS, hO⟩
  have HX : Hid (x.length = 64) := hxl
  have HU : Hid (used S.F < 1099511627776) := hu
  clear hx hv h hf hS hO hxl hu
  go_enter Tryz.func41, Tryz.ntmps41
  go_wp2_with fail
  refine hN.mono ?_
  rintro e w1 ⟨rfl, f1⟩
  clear hN
  go_wp2_with fail
  refine (fileOf_any x w1 HX.out).mono ?_
  rintro e w2 ⟨rfl, f2⟩
  have f02 := HH.out.2.1.then (f1.then f2)
  have hR := HR.out w2 (HH.out.1.fresh f02)
  have V2 : Hid (Arg w2 v b) := HV.out.fresh (f1.then f2)
  clear f1 f2 HV
  go_wp2_with fail
  refine hR.mono ?_
  rintro e w3 ⟨v3, rfl, d3, L3, f3⟩
  have f03 := f02.then f3
  have V3 : Hid (Arg w3 v b) := V2.out.fresh f3
  clear hR f3 V2 f02
  have hE := equal_any d3.bytes V3.out.bytes
  have HF : Hid (Live w w0 p S ∧ Fr None' w0 w3) := ⟨HH.out.1, f03⟩
  have HS : Hid (S.fine ∧ Aside w w0 v) := HH.out.2.2
  clear HH d3 f03
  by_cases h0 : r2 = 0
  · subst h0
    by_cases h1 : r1 = b
    · subst h1
      rw [decide_eq_true rfl] at hE
      go_wp2_with fail
      refine hE.mono ?_
      rintro e w4 ⟨rfl, rfl⟩
      clear hE
      go_wp2
      go_ret2
      exact ⟨rfl, L3⟩
    · rw [decide_eq_false h1] at hE
      go_wp2_with fail
      refine hE.mono ?_
      rintro e w4 ⟨rfl, rfl⟩
      clear hE
      go_wp2
      go_ret2
      exact ⟨rfl, L3⟩
  · clear hE
    by_cases h2 : r2 = 12
    · subst h2
      go_wp2_with fail
      refine (fileOf_any x w3 HX.out).mono ?_
      rintro e w4 ⟨rfl, f4⟩
      have hW := live_write HF.out.1 (HF.out.2.then f4) HS.out.1 ⟨(fileK x).toArray⟩ (by rw [size_mk]; have := fileK_length HX.out; have := max100; omega) v b (V3.out.bytes.fresh f4) HS.out.2 HU.out (by omega)
      rw [toList_mk] at hW
      clear f4 L3
      go_wp2_with fail
      refine hW.mono ?_
      rintro e w5 ⟨v5, rfl, L5⟩
      clear hW
      obtain ⟨c, hc⟩ : ∃ c, (S.write ⟨fileK x, v5, b⟩).1 = c := ⟨_, rfl⟩
      rw [hc]
      by_cases hc0 : c = 0
      · subst hc0
        go_wp2
        go_ret2
        refine ⟨v5, ?_, ?_⟩
        · simp [hc]
        · simpa [hc] using L5
      · go_wp2
        go_ret2
        refine ⟨v5, ?_, ?_⟩
        · simp [hc, hc0]
        · simpa [hc, hc0] using L5
    · go_wp2
      go_ret2
      exact ⟨rfl, L3⟩

set_option maxHeartbeats 2000000 in
theorem get_any {w wi : World} {p : Nat} {S : St} (h : Live w wi p S) (l : List UInt8) (hl : l.length ≤ maxLen) (hu : used S.F < 1099511627776) (hb : ∀ t ∈ S.F, t.b.length ≤ 100000) :
    Calls Tryz.prog 166 #[.pointer (some ⟨p, 0, none⟩), .string ⟨l.toArray⟩] wi fun e w' => ∃ v, e = .returned (.tuple #[v, .int .i64 (S.getB l).2]) ∧ Data w' v (S.getB l).1 ∧ Live w w' p S ∧ Fr None' wi w' := by
  have hN := named_is l wi hl
  have HNil : ∀ w, Data w (.slice none 0 0) [] := fun w => Data.nil w
  unfold St.getB
  cases hnb : Sha.namedB l
  · rw [hnb] at hN
    have HH : Hid (Live w wi p S) := h
    clear h
    go_enter Tryz.func166, Tryz.ntmps166
    go_wp2_with fail
    refine hN.mono ?_
    rintro e w1 ⟨rfl, rfl⟩
    clear hN
    go_wp2
    go_ret2
    exact ⟨_, rfl, HNil _, HH.out, Fr.refl _ _⟩
  · rw [hnb] at hN
    have hxl := namedB_length hnb
    have HX : Hid (l.length = 64) := hxl
    have hR := fun wx (hx' : Live w wx p S) => read_arg hx' (fileK l) (by have := fileK_length hxl; have := max100; omega) hu
    have hlen : (S.read (fileK l)).1.length ≤ 100000 := by
      unfold St.read
      split
      · simp
      · split
        · simp
        · rename_i t ht
          exact hb t (get_mem ht).1
    obtain ⟨r1, hr1⟩ : ∃ r, (S.read (fileK l)).1 = r := ⟨_, rfl⟩
    obtain ⟨r2, hr2⟩ : ∃ r, (S.read (fileK l)).2 = r := ⟨_, rfl⟩
    rw [hr1, hr2] at hR ⊢
    rw [hr1] at hlen
    have HR : Hid _ := hR
    have HE : Hid (r1.length ≤ 100000) := hlen
    clear hr1 hr2 hR hlen hxl
    have HL : Hid (Live w wi p S ∧ used S.F < 1099511627776 ∧ ∀ t ∈ S.F, t.b.length ≤ 100000) := ⟨h, hu, hb⟩
    clear h hu hb hl hnb
    go_enter Tryz.func166, Tryz.ntmps166
    go_wp2_with fail
    refine hN.mono ?_
    rintro e w1 ⟨rfl, rfl⟩
    clear hN
    go_wp2_with fail
    refine (fileOf_any l wi HX.out).mono ?_
    rintro e w2 ⟨rfl, f2⟩
    have hR := HR.out w2 (HL.out.1.fresh f2)
    go_wp2_with fail
    refine hR.mono ?_
    rintro e w3 ⟨v3, rfl, d3, L3, f3⟩
    have f03 := f2.then f3
    clear hR f2 f3
    by_cases h0 : r2 = 0
    · subst h0
      have hM := name_is d3.arg HE.out
      have hB := beq_lists (nm r1) l
      generalize hsx : (⟨(nm r1).toArray⟩ : ByteArray) = sx at hM hB
      generalize hsl : (⟨l.toArray⟩ : ByteArray) = sl at hB ⊢
      clear hsx hsl
      by_cases h1 : nm r1 = l
      · rw [decide_eq_true h1] at hB
        go_wp2_with fail
        refine hM.mono ?_
        rintro e w4 ⟨rfl, f4⟩
        clear hM
        go_wp2
        go_ret2
        refine ⟨v3, ?_, ?_, L3.fresh f4, f03.then f4⟩
        · simp
        · simpa [h1] using d3.fresh f4
      · rw [decide_eq_false h1] at hB
        go_wp2_with fail
        refine hM.mono ?_
        rintro e w4 ⟨rfl, f4⟩
        clear hM
        go_wp2
        go_ret2
        refine ⟨.slice none 0 0, ?_, ?_, L3.fresh f4, f03.then f4⟩
        · simp
        · simpa [h1] using HNil _
    · go_wp2
      go_ret2
      refine ⟨.slice none 0 0, ?_, ?_, L3, f03⟩
      · simp
      · simpa [h0] using HNil _

end Go.Proofs.YtdaogldmcbfmoaaGreatDoor

namespace Go.Proofs.YtdaogldmcbfmoaaGreatDoor
open Go.RowKit Go.Maps Go.WideMaps
set_option maxRecDepth 100000

def Small (T : List Tri) : Prop := ∀ t ∈ T, t.b.length ≤ 65536
def SmallCh (c : Ch) : Prop := ∀ t, c = Ch.wr t → t.b.length ≤ 65536

theorem small_app {T : List Tri} {c : Ch} (hT : Small T) (hc : SmallCh c) : Small (c.app T) := by
  intro t ht
  rcases c.three with ⟨x, rfl⟩ | ⟨a, b, rfl⟩ | ⟨k, rfl⟩
  · rcases mem_put.1 ht with rfl | ⟨h1, _⟩
    · exact hc _ rfl
    · exact hT t h1
  · simp only [Ch.app] at ht
    split at ht
    · exact hT t ht
    · rename_i x hx
      rcases mem_put.1 ht with rfl | ⟨h1, _⟩
      · exact hT x (get_mem hx).1
      · exact hT t (mem_del.1 h1).1
  · exact hT t (mem_del.1 ht).1

theorem small_rep {ch : List Ch} {keep : List Bool} {Y : List Tri} (hY : Small Y) (hc : ∀ c ∈ ch, SmallCh c) : ∀ i, Small (rep ch keep Y i)
  | 0 => hY
  | i + 1 => by
    have ih := small_rep (keep := keep) hY hc i
    unfold rep
    split
    · rename_i c h1 h2
      exact small_app ih (hc c (List.mem_of_getElem? h1))
    · exact ih

/-- What k calls leave small. -/
structure Inv (k : Nat) (S : St) : Prop where
  a0 : 0 ≤ S.acts
  a1 : S.acts ≤ k
  f1 : S.fuse ≤ 9223372036854775807
  nc : S.n + S.ch.length ≤ 1000 + 2 * k
  sF : Small S.F
  sY : Small S.Y
  sC : ∀ c ∈ S.ch, SmallCh c

theorem Inv.fine {k : Nat} {S : St} (h : Inv k S) (hk : k ≤ 1000) : S.fine :=
  ⟨h.a0, by have := h.a1; omega, h.f1, by have := h.nc; omega, by have := h.nc; omega⟩

theorem Inv.more {k k' : Nat} {S : St} (h : Inv k S) (hk : k ≤ k') : Inv k' S :=
  ⟨h.a0, by have := h.a1; omega, h.f1, by have := h.nc; omega, h.sF, h.sY, h.sC⟩

theorem Inv.asked {k : Nat} {S : St} (h : Inv k S) : Inv k S.asked := ⟨h.a0, h.a1, h.f1, h.nc, h.sF, h.sY, h.sC⟩

theorem counted_fuse (S : St) : S.counted.fuse ≤ S.fuse := by
  unfold St.counted
  simp only
  split <;> omega

theorem Inv.counted {k : Nat} {S : St} (h : Inv k S) : Inv (k + 1) S.counted :=
  ⟨by have := h.a0; simp [St.counted]; omega, by have := h.a1; simp [St.counted]; omega, Int.le_trans (counted_fuse S) h.f1, by have := h.nc; simp [St.counted]; omega, h.sF, h.sY, h.sC⟩

theorem Inv.did {k : Nat} {S : St} {c : Ch} (h : Inv k S) (hc : SmallCh c) : Inv (k + 1) (S.did c) := by
  have h1 : 0 ≤ S.acts := h.a0
  have h2 := h.a1
  have h3 := h.nc
  refine ⟨by simp [St.did, St.counted]; omega, by simp [St.did, St.counted]; omega, Int.le_trans (counted_fuse _) h.f1, by simp [St.did, St.counted]; omega, small_app h.sF hc, h.sY, ?_⟩
  intro c' hc'
  rcases List.mem_append.1 hc' with h4 | h4
  · exact h.sC c' h4
  · simp at h4; subst h4; exact hc

theorem refuse_small {S : St} {k : List UInt8} {n : Nat} (h : S.refuse k n = 0) : n ≤ 65536 := by
  unfold St.refuse at h
  split at h
  · omega
  · split at h
    · omega
    · rename_i h1 h2
      omega

theorem used_small {T : List Tri} (h : Small T) : used T ≤ T.length * 65536 := by
  induction T with
  | nil => simp [used]
  | cons x r ih =>
    have h1 := ih (fun t ht => h t (by simp [ht]))
    have h2 := h x (by simp)
    simp [used] at h1 ⊢
    omega

theorem Disk.used {w : World} {p : Nat} {M : Nat → Prop} {S : St} {k : Nat} (h : Disk w p M S) (hi : Inv k S) (hk : k ≤ 1000) : used S.F < 1099511627776 := by
  obtain ⟨bf, bs, ca, h, _⟩ := h
  have h1 := h.files.size_le
  rw [size_toD] at h1
  have h2 := used_small hi.sF
  have h3 := hi.nc
  have : S.F.length * 65536 ≤ 3000 * 65536 := Nat.mul_le_mul_right _ (by omega)
  omega

theorem Inv.new (room : Int) : Inv 0 (St.new room) :=
  ⟨by simp [St.new], by simp [St.new], by simp [St.new], by simp [St.new], fun t ht => by simp [St.new] at ht, fun t ht => by simp [St.new] at ht, fun c hc => by simp [St.new] at hc⟩

theorem Inv.write {k : Nat} {S : St} (h : Inv k S) (t : Tri) : Inv (k + 1) (S.write t).2 := by
  have hA := h.asked
  have hA' := hA.more (Nat.le_succ k)
  unfold St.write
  split
  · exact hA'
  · split
    · rename_i hr
      exact hA.did (fun t' e => by cases e; exact refuse_small hr)
    · exact hA'

theorem Inv.rename {k : Nat} {S : St} (h : Inv k S) (a b : List UInt8) : Inv (k + 1) (S.rename a b).2 := by
  have hA := h.asked
  have hA' := hA.more (Nat.le_succ k)
  unfold St.rename
  split
  · exact hA'
  · split
    · exact hA'
    · split
      · exact hA'
      · exact hA.did (fun t e => by cases e)

theorem Inv.sync {k : Nat} {S : St} (h : Inv k S) : Inv (k + 1) S.sync.2 := by
  unfold St.sync
  split
  · exact h.asked.more (Nat.le_succ k)
  · exact Inv.counted (S := S.asked.settled) ⟨h.a0, h.a1, h.f1, by have := h.nc; simp [St.settled, St.asked]; omega, h.sF, h.sF, fun c hc => by simp [St.settled] at hc⟩

theorem Inv.crash {k : Nat} {S : St} (h : Inv k S) (keep : List Bool) : Inv (k + 1) (S.crash keep) :=
  ⟨h.a0, by have := h.a1; simp [St.crash]; omega, by simp [St.crash], by have := h.nc; simp [St.crash]; omega, small_rep h.sY h.sC _, small_rep h.sY h.sC _, fun c hc => by simp [St.crash] at hc⟩

theorem Inv.put {k : Nat} {S : St} (h : Inv k S) (b : List UInt8) (v : Value) : Inv (k + 1) (S.put b v).2.2 := by
  have h' := h.more (Nat.le_succ k)
  unfold St.put
  split
  · split <;> exact h'
  · split
    · split <;> exact h.write _
    · exact h'

theorem Live.used {w wi : World} {p : Nat} {S : St} {k : Nat} (h : Live w wi p S) (hi : Inv k S) (hk : k ≤ 1000) : Go.Proofs.YtdaogldmcbfmoaaGreatDoor.used S.F < 1099511627776 := by
  obtain ⟨M, h1, _, _⟩ := h
  exact h1.used hi hk

theorem Inv.len {k : Nat} {S : St} (h : Inv k S) : ∀ t ∈ S.F, t.b.length ≤ 100000 := fun t ht => by have := h.sF t ht; omega

end Go.Proofs.YtdaogldmcbfmoaaGreatDoor
