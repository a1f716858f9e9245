/-
  What is proved here: what Put, Get and Root answer, told by plain states, of a disk that was made behind a world w of which nothing turns. Conditions: as in the texts that this one stands on.
-/
import Derived.Test.YtklefjmihapdpaaPlain3
namespace Go.Proofs.Ytklefjmihapdpaa
open Go.RowKit Go.Maps Go.WideMaps
set_option maxRecDepth 100000

/-- Put, Get and Root. -/
def St.put (S : St) (b : List UInt8) (v : Value) : List UInt8 × Int × St :=
  if (S.read (fileK (nm b))).2 = 0 then (if (S.read (fileK (nm b))).1 = b then (nm b, 0, S) else ([], 31, S))
  else if (S.read (fileK (nm b))).2 = 12 then (if (S.write ⟨fileK (nm b), v, b⟩).1 = 0 then (nm b, 0, (S.write ⟨fileK (nm b), v, b⟩).2) else ([], (S.write ⟨fileK (nm b), v, b⟩).1, (S.write ⟨fileK (nm b), v, b⟩).2))
  else ([], (S.read (fileK (nm b))).2, S)

def St.getB (S : St) (x : List UInt8) : List UInt8 × Int :=
  if Sha.namedB x = false then ([], 1) else if (S.read (fileK x)).2 = 0 then (if nm (S.read (fileK x)).1 = x then ((S.read (fileK x)).1, 0) else ([], 3)) else ([], (S.read (fileK x)).2)

def St.rootB (S : St) : List UInt8 × Int :=
  if (S.read rootK).2 = 0 then (if Sha.namedB (S.read rootK).1 = true then ((S.read rootK).1, 0) else ([], 3)) else ([], (S.read rootK).2)

theorem read_arg {w wi : World} {p : Nat} {S : St} (h : Live w wi p S) (l : List UInt8) (hs : l.length ≤ maxLen) (hu : used S.F < 1099511627776) :
    Calls Try.prog 22 #[.pointer (some ⟨p, 0, none⟩), .string ⟨l.toArray⟩] wi fun e w' => ∃ v, e = .returned (.tuple #[v, .int .i64 (S.read l).2]) ∧ Data w' v (S.read l).1 ∧ Live w w' p S ∧ Fr None' wi w' := by
  have hL := h
  obtain ⟨M, h1, h2, h3⟩ := h
  exact (read_any p M S ⟨l.toArray⟩ wi h1 (by rw [size_mk]; exact hs) hu).mono fun _ _ ⟨v, e1, hd, hf⟩ => ⟨v, e1, hd, hL.fresh hf, hf⟩

theorem Bytes.fresh {w w' : World} {v : Value} {b : List UInt8} (h : Bytes w v b) (f : Fr None' w w') : Bytes w' v b := h.kept f (fun _ _ _ _ _ e => e)
theorem Data.fresh {w w' : World} {v : Value} {b : List UInt8} (h : Data w v b) (f : Fr None' w w') : Data w' v b := f.data (fun _ _ _ _ _ hm => hm.elim) h
theorem Arg.fresh {w w' : World} {v : Value} {b : List UInt8} (h : Arg w v b) (f : Fr None' w w') : Arg w' v b := ⟨h.bytes.fresh f, h.byt.fr (fr_to f)⟩

theorem fileK_length {x : List UInt8} (h : x.length = 64) : (fileK x).length = 34 := by unfold fileK; simp [h]
theorem max100 : 100 ≤ maxLen := by decide

set_option maxHeartbeats 2000000 in
theorem put_any {w w0 wi : World} {p : Nat} {S : St} (h : Live w w0 p S) (hf : Fr None' w0 wi) (hS : S.fine) (v : Value) (b : List UInt8) (hv : Arg wi v b) (hO : Aside w w0 v) (hu : used S.F < 1099511627776) (hb : b.length ≤ 100000) :
    Calls Try.prog 8 #[.pointer (some ⟨p, 0, none⟩), v] wi fun e w' => ∃ v', e = .returned (.tuple #[.string ⟨(S.put b v').1.toArray⟩, .int .i64 (S.put b v').2.1]) ∧ Live w w' p (S.put b v').2.2 := by
  have hN := name_is hv (by omega)
  obtain ⟨x, hx⟩ : ∃ x, nm b = x := ⟨_, rfl⟩
  have hxl : x.length = 64 := by rw [← hx]; exact nm_length b
  have hR := fun wx (hx' : Live w wx p S) => read_arg hx' (fileK x) (by have := fileK_length hxl; have := max100; omega) hu
  unfold St.put
  rw [hx] at hN ⊢
  obtain ⟨r1, hr1⟩ : ∃ r, (S.read (fileK x)).1 = r := ⟨_, rfl⟩
  obtain ⟨r2, hr2⟩ : ∃ r, (S.read (fileK x)).2 = r := ⟨_, rfl⟩
  rw [hr1, hr2] at hR ⊢
  have HR : Hid _ := hR
  clear hr1 hr2 hR
  have HV : Hid (Arg wi v b) := hv
  have HH : Hid (Live w w0 p S ∧ Fr None' w0 wi ∧ S.fine ∧ Aside w w0 v) := ⟨h, hf, hS, hO⟩
  have HX : Hid (x.length = 64) := hxl
  have HU : Hid (used S.F < 1099511627776) := hu
  clear hx hv h hf hS hO hxl hu
  go_enter Try.func8, Try.ntmps8
  go_wp2_with fail
  refine hN.mono ?_
  rintro e w1 ⟨rfl, f1⟩
  clear hN
  go_wp2_with fail
  refine (fileOf_any x w1 HX.out).mono ?_
  rintro e w2 ⟨rfl, f2⟩
  have f02 := HH.out.2.1.then (f1.then f2)
  have hR := HR.out w2 (HH.out.1.fresh f02)
  have V2 : Hid (Arg w2 v b) := HV.out.fresh (f1.then f2)
  clear f1 f2 HV
  go_wp2_with fail
  refine hR.mono ?_
  rintro e w3 ⟨v3, rfl, d3, L3, f3⟩
  have f03 := f02.then f3
  have V3 : Hid (Arg w3 v b) := V2.out.fresh f3
  clear hR f3 V2 f02
  have hE := equal_any d3.bytes V3.out.bytes
  have HF : Hid (Live w w0 p S ∧ Fr None' w0 w3) := ⟨HH.out.1, f03⟩
  have HS : Hid (S.fine ∧ Aside w w0 v) := HH.out.2.2
  clear HH d3 f03
  by_cases h0 : r2 = 0
  · subst h0
    by_cases h1 : r1 = b
    · subst h1
      rw [decide_eq_true rfl] at hE
      go_wp2_with fail
      refine hE.mono ?_
      rintro e w4 ⟨rfl, rfl⟩
      clear hE
      go_wp2
      go_ret2
      exact ⟨rfl, L3⟩
    · rw [decide_eq_false h1] at hE
      go_wp2_with fail
      refine hE.mono ?_
      rintro e w4 ⟨rfl, rfl⟩
      clear hE
      go_wp2
      go_ret2
      exact ⟨rfl, L3⟩
  · clear hE
    by_cases h2 : r2 = 12
    · subst h2
      go_wp2_with fail
      refine (fileOf_any x w3 HX.out).mono ?_
      rintro e w4 ⟨rfl, f4⟩
      have hW := live_write HF.out.1 (HF.out.2.then f4) HS.out.1 ⟨(fileK x).toArray⟩ (by rw [size_mk]; have := fileK_length HX.out; have := max100; omega) v b (V3.out.bytes.fresh f4) HS.out.2 HU.out (by omega)
      rw [toList_mk] at hW
      clear f4 L3
      go_wp2_with fail
      refine hW.mono ?_
      rintro e w5 ⟨v5, rfl, L5⟩
      clear hW
      obtain ⟨c, hc⟩ : ∃ c, (S.write ⟨fileK x, v5, b⟩).1 = c := ⟨_, rfl⟩
      rw [hc]
      by_cases hc0 : c = 0
      · subst hc0
        go_wp2
        go_ret2
        refine ⟨v5, ?_, ?_⟩
        · simp [hc]
        · simpa [hc] using L5
      · go_wp2
        go_ret2
        refine ⟨v5, ?_, ?_⟩
        · simp [hc, hc0]
        · simpa [hc, hc0] using L5
    · go_wp2
      go_ret2
      exact ⟨rfl, L3⟩

set_option maxHeartbeats 2000000 in
theorem get_any {w wi : World} {p : Nat} {S : St} (h : Live w wi p S) (l : List UInt8) (hl : l.length ≤ maxLen) (hu : used S.F < 1099511627776) (hb : ∀ t ∈ S.F, t.b.length ≤ 100000) :
    Calls Try.prog 13 #[.pointer (some ⟨p, 0, none⟩), .string ⟨l.toArray⟩] wi fun e w' => ∃ v, e = .returned (.tuple #[v, .int .i64 (S.getB l).2]) ∧ Data w' v (S.getB l).1 ∧ Live w w' p S ∧ Fr None' wi w' := by
  have hN := named_is l wi hl
  have HNil : ∀ w, Data w (.slice none 0 0) [] := fun w => Data.nil w
  unfold St.getB
  cases hnb : Sha.namedB l
  · rw [hnb] at hN
    have HH : Hid (Live w wi p S) := h
    clear h
    go_enter Try.func13, Try.ntmps13
    go_wp2_with fail
    refine hN.mono ?_
    rintro e w1 ⟨rfl, rfl⟩
    clear hN
    go_wp2
    go_ret2
    exact ⟨_, rfl, HNil _, HH.out, Fr.refl _ _⟩
  · rw [hnb] at hN
    have hxl := namedB_length hnb
    have HX : Hid (l.length = 64) := hxl
    have hR := fun wx (hx' : Live w wx p S) => read_arg hx' (fileK l) (by have := fileK_length hxl; have := max100; omega) hu
    have hlen : (S.read (fileK l)).1.length ≤ 100000 := by
      unfold St.read
      split
      · simp
      · split
        · simp
        · rename_i t ht
          exact hb t (get_mem ht).1
    obtain ⟨r1, hr1⟩ : ∃ r, (S.read (fileK l)).1 = r := ⟨_, rfl⟩
    obtain ⟨r2, hr2⟩ : ∃ r, (S.read (fileK l)).2 = r := ⟨_, rfl⟩
    rw [hr1, hr2] at hR ⊢
    rw [hr1] at hlen
    have HR : Hid _ := hR
    have HE : Hid (r1.length ≤ 100000) := hlen
    clear hr1 hr2 hR hlen hxl
    have HL : Hid (Live w wi p S ∧ used S.F < 1099511627776 ∧ ∀ t ∈ S.F, t.b.length ≤ 100000) := ⟨h, hu, hb⟩
    clear h hu hb hl hnb
    go_enter Try.func13, Try.ntmps13
    go_wp2_with fail
    refine hN.mono ?_
    rintro e w1 ⟨rfl, rfl⟩
    clear hN
    go_wp2_with fail
    refine (fileOf_any l wi HX.out).mono ?_
    rintro e w2 ⟨rfl, f2⟩
    have hR := HR.out w2 (HL.out.1.fresh f2)
    go_wp2_with fail
    refine hR.mono ?_
    rintro e w3 ⟨v3, rfl, d3, L3, f3⟩
    have f03 := f2.then f3
    clear hR f2 f3
    by_cases h0 : r2 = 0
    · subst h0
      have hM := name_is d3.arg HE.out
      have hB := beq_lists (nm r1) l
      generalize hsx : (⟨(nm r1).toArray⟩ : ByteArray) = sx at hM hB
      generalize hsl : (⟨l.toArray⟩ : ByteArray) = sl at hB ⊢
      clear hsx hsl
      by_cases h1 : nm r1 = l
      · rw [decide_eq_true h1] at hB
        go_wp2_with fail
        refine hM.mono ?_
        rintro e w4 ⟨rfl, f4⟩
        clear hM
        go_wp2
        go_ret2
        refine ⟨v3, ?_, ?_, L3.fresh f4, f03.then f4⟩
        · simp
        · simpa [h1] using d3.fresh f4
      · rw [decide_eq_false h1] at hB
        go_wp2_with fail
        refine hM.mono ?_
        rintro e w4 ⟨rfl, f4⟩
        clear hM
        go_wp2
        go_ret2
        refine ⟨.slice none 0 0, ?_, ?_, L3.fresh f4, f03.then f4⟩
        · simp
        · simpa [h1] using HNil _
    · go_wp2
      go_ret2
      refine ⟨.slice none 0 0, ?_, ?_, L3, f03⟩
      · simp
      · simpa [h0] using HNil _

set_option maxHeartbeats 2000000 in
theorem root_any {w wi : World} {p : Nat} {S : St} (h : Live w wi p S) (hu : used S.F < 1099511627776) (hb : ∀ t ∈ S.F, t.b.length ≤ 100000) :
    Calls Try.prog 12 #[.pointer (some ⟨p, 0, none⟩)] wi fun e w' => e = .returned (.tuple #[.string ⟨S.rootB.1.toArray⟩, .int .i64 S.rootB.2]) ∧ Live w w' p S ∧ Fr None' wi w' := by
  have hR := read_arg h rootK (by have := max100; unfold rootK; simp; omega) hu
  have hlen : (S.read rootK).1.length ≤ 100000 := by
    unfold St.read
    split
    · simp
    · split
      · simp
      · rename_i t ht
        exact hb t (get_mem ht).1
  unfold St.rootB
  obtain ⟨r1, hr1⟩ : ∃ r, (S.read rootK).1 = r := ⟨_, rfl⟩
  obtain ⟨r2, hr2⟩ : ∃ r, (S.read rootK).2 = r := ⟨_, rfl⟩
  rw [hr1, hr2] at hR
  rw [hr1] at hlen
  rw [hr1, hr2]
  clear h hu hb hr1 hr2
  go_enter Try.func12, Try.ntmps12
  go_wp2_with fail
  refine hR.mono ?_
  rintro e w1 ⟨v1, rfl, d1, L1, f1⟩
  clear hR
  by_cases h0 : r2 = 0
  · subst h0
    have hC := str_any d1.bytes
    have hN := named_is r1 w1 (by unfold maxLen; omega)
    clear d1
    cases hnb : Sha.namedB r1
    · rw [hnb] at hN
      go_wp2_with fail
      refine hN.mono ?_
      rintro e w2 ⟨rfl, rfl⟩
      clear hN
      go_wp2
      go_ret2
      exact ⟨by simp, L1, f1⟩
    · rw [hnb] at hN
      go_wp2_with fail
      refine hN.mono ?_
      rintro e w2 ⟨rfl, rfl⟩
      clear hN
      go_wp2
      go_ret2
      exact ⟨by simp, L1, f1⟩
  · go_wp2
    go_ret2
    exact ⟨by simp, L1, f1⟩
end Go.Proofs.Ytklefjmihapdpaa
