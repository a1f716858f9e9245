/-
  What is proved here: the question that each law asks first is answered true, and turns nothing that was there. No condition.
-/
import Derived.Test.YtklefjmihapdpaaCalm3
import Derived.Lib.SlBytesConst
namespace Go.Proofs.Ytklefjmihapdpaa
open Go.RowKit Go.Maps Go.WideMaps
set_option maxRecDepth 100000

theorem conv28 (w : World) (C : Array Value) (n c : Nat) : (convert 22 22 (.slice (some ⟨w.heap.size, 0, none⟩) n c)).run Try.prog (w.alloc (.cells C 5)) = .ok (.slice (some ⟨w.heap.size, 0, none⟩) n c) (w.alloc (.cells C 5 (C.size, C.size + 1))) :=
  Lib.run_convert_bytes_const (P := Try.prog) w 22 5 C n c Try.underlying22 Try.underlying5

def abc : List UInt8 := [97, 98, 99]

theorem aside_at (w w0 : World) (n c : Nat) : Aside w w0 (.slice (some ⟨w0.heap.size, 0, none⟩) n c) := aside_new w w0 n c

theorem put_told {w w0 wi : World} {p : Nat} {S : St} (h : Live w w0 p S) (hf : Fr None' w0 wi) (hS : S.fine) (v : Value) (b : List UInt8) (hv : Arg wi v b) (hO : Aside w w0 v) (hu : used S.F < 1099511627776) (hb : b.length ≤ 100000)
    {x : List UInt8} {c : Int} {f : Value → St} (hp : ∀ v', S.put b v' = (x, c, f v')) :
    Calls Try.prog 8 #[.pointer (some ⟨p, 0, none⟩), v] wi fun e w' => ∃ v', e = .returned (.tuple #[.string ⟨x.toArray⟩, .int .i64 c]) ∧ Live w w' p (f v') := by
  refine (put_any h hf hS v b hv hO hu hb).mono ?_
  rintro e w' ⟨v', h1, h2⟩
  rw [hp v'] at h1 h2
  exact ⟨v', h1, h2⟩

theorem get_told {w wi : World} {p : Nat} {S : St} (h : Live w wi p S) (l : List UInt8) (hl : l.length ≤ maxLen) (hu : used S.F < 1099511627776) (hb : ∀ t ∈ S.F, t.b.length ≤ 100000) {b : List UInt8} {c : Int} (hg : S.getB l = (b, c)) :
    Calls Try.prog 13 #[.pointer (some ⟨p, 0, none⟩), .string ⟨l.toArray⟩] wi fun e w' => ∃ v, e = .returned (.tuple #[v, .int .i64 c]) ∧ Data w' v b ∧ Live w w' p S ∧ Fr None' wi w' := by
  have := get_any h l hl hu hb
  rw [hg] at this
  exact this

theorem root_told {w wi : World} {p : Nat} {S : St} (h : Live w wi p S) (hu : used S.F < 1099511627776) (hb : ∀ t ∈ S.F, t.b.length ≤ 100000) {b : List UInt8} {c : Int} (hg : S.rootB = (b, c)) :
    Calls Try.prog 12 #[.pointer (some ⟨p, 0, none⟩)] wi fun e w' => e = .returned (.tuple #[.string ⟨b.toArray⟩, .int .i64 c]) ∧ Live w w' p S ∧ Fr None' wi w' := by
  have := root_any h hu hb
  rw [hg] at this
  exact this

theorem files_told {w wi : World} {p : Nat} {S : St} (h : Live w wi p S) (hS : S.fine) (hu : used S.F < 1099511627776) :
    Calls Try.prog 20 #[.pointer (some ⟨p, 0, none⟩)] wi fun e w' => ∃ a c, e = .returned (.slice a S.F.length c) ∧ Fr None' wi w' := by
  obtain ⟨M, h1, _, _⟩ := h
  refine (files_any p M S wi h1 hS hu).mono ?_
  rintro e w' ⟨v, L, rfl, hr, hk, hf⟩
  obtain ⟨a, c, hv⟩ := row_slice hr.1
  have hl : L.length = S.F.length := by
    have := congrArg List.length hk
    rw [sortedFiles_length] at this
    simpa [kb] using this
  rw [hl] at hv
  exact ⟨a, c, by rw [hv], hf⟩

theorem calm_new (r : Int) : Calm (St.new r) := ⟨rfl, rfl⟩

set_option maxHeartbeats 8000000 in
theorem head_any (w : World) : Calls Try.prog 6 #[] w fun e w' => e = .returned (.bool true) ∧ Fr None' w w' := by
  have hcv := conv28
  have hnil : ∀ (w : World) (p : Nat), (binOp .eql 26 (.pointer (some ⟨p, 0, none⟩)) (.pointer none)).run Try.prog w = .ok (.bool false) w := fun w p => by rfl
  go_enter Try.func6, Try.ntmps6
  go_wp2_with fail
  refine (live_new 1000 w).mono ?_
  rintro e w1 ⟨p, rfl, L1⟩
  have i1 := Inv.new 1000
  have C1 := calm_new 1000
  obtain ⟨x, hx⟩ : ∃ x, nm abc = x := ⟨_, rfl⟩
  have hxn : Sha.namedB x = true := by rw [← hx]; exact namedB_nm abc
  have hp1 : ∀ v', (St.new 1000).put abc v' = (x, 0, (St.new 1000).did (Ch.wr ⟨fileK x, v', abc⟩)) := fun v' => by
    rw [← hx]
    exact put_new C1 abc v' rfl (by decide) (by decide) (by decide)
  have q1 := put_told L1 (Fr.alloc None' w1 _) (i1.fine (by omega)) _ abc (arg_new w1 abc 3 (3, 4) (by decide)) (aside_at w w1 3 3) (by decide) (by decide) hp1
  have HX : Hid (nm abc = x ∧ Sha.namedB x = true) := ⟨hx, hxn⟩
  clear hp1 hx hxn L1
  go_wp2_with fail
  refine q1.mono ?_
  rintro e w2 ⟨v1, rfl, L2⟩
  obtain ⟨S2, hS2⟩ : ∃ S2, (St.new 1000).did (Ch.wr ⟨fileK x, v1, abc⟩) = S2 := ⟨_, rfl⟩
  rw [hS2] at L2
  have i2 : Inv 1 S2 := hS2 ▸ i1.did (fun t e => by cases e; show abc.length ≤ 65536; decide)
  have C2 : Calm S2 := hS2 ▸ C1.did _
  have F2 : S2.F = [⟨fileK x, v1, abc⟩] := by rw [← hS2]; rfl
  have R2 : S2.room = 1000 := by rw [← hS2]; rfl
  have g2 : get S2.F (fileK x) = some ⟨fileK x, v1, abc⟩ := by rw [F2]; unfold get; simp
  have hp2 : ∀ v', S2.put abc v' = (x, 0, S2) := fun v' => by
    obtain ⟨hx, _⟩ := HX.out
    rw [← hx]
    exact put_same C2 abc v' (t := ⟨fileK x, v1, abc⟩) (by rw [hx]; exact g2) rfl
  have q2 := put_told L2 (Fr.alloc None' w2 _) (i2.fine (by omega)) _ abc (arg_new w2 abc 3 (3, 4) (by decide)) (aside_at w w2 3 3) (L2.used i2 (by omega)) (by decide) hp2
  have HS2 : Hid (Inv 1 S2 ∧ Calm S2 ∧ S2.F = [⟨fileK x, v1, abc⟩] ∧ S2.room = 1000 ∧ get S2.F (fileK x) = some ⟨fileK x, v1, abc⟩) := ⟨i2, C2, F2, R2, g2⟩
  clear q1 hS2 i2 C2 F2 R2 g2 hp2 L2 i1 C1
  go_wp2_with fail
  refine q2.mono ?_
  rintro e w3 ⟨_, rfl, L3⟩
  obtain ⟨i2, C2, F2, R2, g2⟩ := HS2.out
  have q3 := get_told L3 x (by rw [namedB_length HX.out.2]; decide) (L3.used i2 (by omega)) i2.len (get_ok C2 HX.out.2 g2 HX.out.1)
  clear q2 i2 C2 F2 R2 g2 L3
  go_wp2_with fail
  refine q3.mono ?_
  rintro e w4 ⟨vs, rfl, A4, L4, f4⟩
  obtain ⟨i2, C2, F2, R2, g2⟩ := HS2.out
  have q4 := setRoot_yes L4 i2 (by omega) x HX.out.2
  have A4' : Hid (Data w4 vs abc) := A4
  clear q3 i2 C2 F2 R2 g2 L4 f4 A4
  go_wp2_with fail
  refine q4.mono ?_
  rintro e w5 ⟨v5, r5, S5, rfl, hE, L5, D5⟩
  obtain ⟨i2, C2, F2, R2, g2⟩ := HS2.out
  have hxl := namedB_length HX.out.2
  have gn : get S2.F newK = none := by
    rw [F2]
    unfold get
    simp [file_ne_new x]
  have gr : get S2.F rootK = none := by
    rw [F2]
    unfold get
    simp [file_ne_root x]
  have hset := set_ok C2 (by omega) (Or.inr (by rw [F2]; show 1 < 512; decide)) (by
    have e1 : used S2.F = 3 := by rw [F2]; rfl
    have e2 : lenAt S2.F newK = 0 := by unfold lenAt; rw [gn]
    rw [e1, e2, R2, hxl]; decide) hE
  obtain ⟨i5, hi5⟩ : ∃ k, Inv k S5 ∧ k ≤ 10 := by
    obtain ⟨j, hj, _, h | h⟩ := hE
    · obtain ⟨_, _, rfl⟩ := h
      exact ⟨_, i2.after x v5 5, by omega⟩
    · obtain ⟨_, _, _, rfl⟩ := h
      exact ⟨_, i2.after x v5 (j + 1), by omega⟩
  have hr5 : r5 = 0 := hset.ok
  subst hr5
  have F5 : S5.F = put S2.F ⟨rootK, v5, x⟩ := by rw [hset.F, setF_eq, del_none gn]
  have len5 : S5.F.length = 2 := by rw [F5, put_length (x := ⟨rootK, v5, x⟩) gr, F2]; rfl
  have gr5 : get S5.F rootK = some ⟨rootK, v5, x⟩ := by rw [hset.F]; exact get_setF_root _ _ _
  have q5 := root_told L5 (L5.used hi5.1 (by omega)) hi5.1.len (root_ok hset.calm gr5 HX.out.2)
  have D5' : Hid (Data w5 vs abc) := D5 vs abc A4'.out
  have H5 : Hid (Inv i5 S5 ∧ i5 ≤ 10 ∧ S5.F.length = 2) := ⟨hi5.1, hi5.2, len5⟩
  have hgx : S5.getB [120] = ([], 1) := rfl
  clear q4 i2 C2 F2 R2 g2 hE L5 D5 hset hi5 F5 len5 gr5 gn gr hxl A4'
  go_wp2_with fail
  refine q5.mono ?_
  rintro e w6 ⟨rfl, L6, f6⟩
  have q6 := get_told L6 [120] (by decide) (L6.used H5.out.1 (by have := H5.out.2.1; omega)) H5.out.1.len hgx
  have D6 : Hid (Data w6 vs abc) := D5'.out.fresh f6
  clear q5 f6 D5' L6
  go_wp2_with fail
  refine q6.mono ?_
  rintro e w7 ⟨v7, rfl, d7, L7, f7⟩
  have D7 := D6.out.fresh f7
  have q7 := files_told L7 (H5.out.1.fine (by have := H5.out.2.1; omega)) (L7.used H5.out.1 (by have := H5.out.2.1; omega))
  rw [H5.out.2.2] at q7
  have hstr := str_any D7.bytes
  have hfr := L7.fresh (Fr.refl None' w7)
  clear q6 d7 f7 D7 D6 hgx
  have hab : (⟨abc.toArray⟩ : ByteArray).toList = [97, 98, 99] := by rw [ByteArray.toList_eq]; rfl
  have hxx : ((⟨x.toArray⟩ : ByteArray).toList == (⟨x.toArray⟩ : ByteArray).toList) = true := by simp
  generalize (⟨x.toArray⟩ : ByteArray) = sx at hxx ⊢
  generalize (⟨abc.toArray⟩ : ByteArray) = sa at hstr hab
  go_wp2_with fail
  refine q7.mono ?_
  rintro e w8 ⟨a8, c8, rfl, f8⟩
  clear q7
  go_wp2
  go_ret
  obtain ⟨_, _, f7, _⟩ := hfr
  exact ⟨rfl, f7.then f8⟩
end Go.Proofs.Ytklefjmihapdpaa
