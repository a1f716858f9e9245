/-
  What is proved here: what the document's Same and SameList answer of patches that are alike. Conditions: they lie in memory, and are of bounded size.
-/
import Derived.Test.YtlmgbcfcikdgpaaGreatDoorBox9
import Derived.Deep.RegionHeld3
namespace Go.Proofs.YtlmgbcfcikdgpaaGreatDoor
open Go.RowKit
set_option maxRecDepth 100000

set_option maxHeartbeats 4000000 in
theorem psame_any (x : Pr) (vo vn uo un : Value) (w : World) (ho : StrsAt w vo x.old) (hn : StrsAt w vn x.new) (go : StrsAt w uo x.old) (gn : StrsAt w un x.new) (lo : x.old.length ≤ 900000) (ln : x.new.length ≤ 900000) :
    Calls Tryz.prog 15 #[.agg #[.int .i64 x.kind, .string x.path, .string x.dst, .string x.src, .int .i64 x.pos, vo, vn], .agg #[.int .i64 x.kind, .string x.path, .string x.dst, .string x.src, .int .i64 x.pos, uo, un]] w fun e w' => e = .returned (.bool true) ∧ Fr None' w w' := by
  obtain ⟨K, P, T, F, A, lO, lN⟩ := x
  simp only at ho hn go gn lo ln ⊢
  obtain ⟨pa, ca, rfl, _, _, r1⟩ := ho
  obtain ⟨pb, cb, rfl, _, _, r2⟩ := hn
  obtain ⟨qa, da, rfl, _, _, r3⟩ := go
  obtain ⟨qb, db, rfl, _, _, r4⟩ := gn
  obtain ⟨w1, hw1⟩ : ∃ w1, w.alloc (.cells #[.int .i64 K, .string P, .string T, .string F, .int .i64 A, .slice pa lO.length ca, .slice pb lN.length cb] 24) = w1 := ⟨_, rfl⟩
  obtain ⟨w2, hw2⟩ : ∃ w2, w1.alloc (.cells #[.int .i64 K, .string P, .string T, .string F, .int .i64 A, .slice qa lO.length da, .slice qb lN.length db] 24) = w2 := ⟨_, rfl⟩
  have F1 : Fr None' w w1 := hw1 ▸ Fr.alloc None' w _
  have F2 : Fr None' w1 w2 := hw2 ▸ Fr.alloc None' w1 _
  have HF : Hid (Fr None' w w2) := F1.then7 F2
  have B1 : Box w2 w.heap.size (.int .i64 K) (.string P) (.string T) (.string F) (.int .i64 A) (.slice pa lO.length ca) (.slice pb lN.length cb) := (hw1 ▸ Box.new w _ _ _ _ _ _ _ : Box w1 _ _ _ _ _ _ _ _).kept F2
  have B2 : Box w2 w1.heap.size (.int .i64 K) (.string P) (.string T) (.string F) (.int .i64 A) (.slice qa lO.length da) (.slice qb lN.length db) := hw2 ▸ Box.new w1 _ _ _ _ _ _ _
  have cO : ∀ w', Fr None' w2 w' → Calls Tryz.prog 37 #[.slice pa lO.length ca, .slice qa lO.length da] w' fun e w'' => e = .returned (.bool true) ∧ Fr None' w2 w'' := fun w' f => by
    have h := Lines.same_any pa qa ca da lO lO w' (r1.fr (toLN (HF.out.then7 f))) (r3.fr (toLN (HF.out.then7 f))) (by omega)
    rw [decide_eq_true rfl] at h
    exact h.mono fun _ _ h => ⟨h.1, f.then7 (ofLN h.2)⟩
  have cN : ∀ w', Fr None' w2 w' → Calls Tryz.prog 37 #[.slice pb lN.length cb, .slice qb lN.length db] w' fun e w'' => e = .returned (.bool true) ∧ Fr None' w2 w'' := fun w' f => by
    have h := Lines.same_any pb qb cb db lN lN w' (r2.fr (toLN (HF.out.then7 f))) (r4.fr (toLN (HF.out.then7 f))) (by omega)
    rw [decide_eq_true rfl] at h
    exact h.mono fun _ _ h => ⟨h.1, f.then7 (ofLN h.2)⟩
  obtain ⟨no, hno⟩ : ∃ n, lO.length = n := ⟨_, rfl⟩
  obtain ⟨nn, hnn⟩ : ∃ n, lN.length = n := ⟨_, rfl⟩
  rw [hno] at cO B1 B2 hw1 hw2
  rw [hnn] at cN B1 B2 hw1 hw2
  rw [hno, hnn]
  have HK : Hid (∀ w', Fr None' w2 w' → w'.cell? ⟨w.heap.size, 5, none⟩ = some (.slice pa no ca) ∧ w'.cell? ⟨w.heap.size, 6, none⟩ = some (.slice pb nn cb) ∧ w'.cell? ⟨w1.heap.size, 5, none⟩ = some (.slice qa no da) ∧ w'.cell? ⟨w1.heap.size, 6, none⟩ = some (.slice qb nn db)) := fun w' f => ⟨(B1.kept f).cells.2.2.2.2.2.1, (B1.kept f).cells.2.2.2.2.2.2, (B2.kept f).cells.2.2.2.2.2.1, (B2.kept f).cells.2.2.2.2.2.2⟩
  obtain ⟨a0, a1, a2, a3, a4, a5, a6⟩ := B1.cells
  obtain ⟨b0, b1, b2, b3, b4, b5, b6⟩ := B2.cells
  clear hno hnn F1 F2 B1 B2 r1 r2 r3 r4 lo ln
  have q1 := cO w2 (Fr.refl _ _)
  go_enter Tryz.func15, Tryz.ntmps15
  go_wp2_with fail
  with_reducible refine q1.mono ?_
  rintro e w3 ⟨rfl, F3⟩
  have q2 := cN w3 F3
  obtain ⟨_, k6, _, j6⟩ := HK.out w3 F3
  clear q1 F3 a0 a1 a2 a3 a4 a5 a6 b0 b1 b2 b3 b4 b5 b6 cO cN
  go_wp2_with fail
  with_reducible refine q2.mono ?_
  rintro e w4 ⟨rfl, F4⟩
  have HX : Hid (Fr None' w w4) := HF.out.then7 F4
  clear q2 F4 k6 j6
  go_wp2_with fail
  go_ret
  exact ⟨rfl, HX.out⟩

set_option maxHeartbeats 4000000 in
theorem psames_any (va vb : Option Addr) (n c d : Nat) (L : List Pr) (w : World) (hl : L.length = n) (ha : PrsAt w va L) (hb : PrsAt w vb L) (hn : n ≤ 100000) (hs : ∀ x ∈ L, x.old.length ≤ 900000 ∧ x.new.length ≤ 900000) :
    Calls Tryz.prog 16 #[.slice va n c, .slice vb n d] w fun e w' => e = .returned (.bool true) ∧ Fr None' w w' := by
  have HL : Hid (L.length = n) := hl
  have HA : Hid (PrsAt w va L) := ha
  have HB : Hid (PrsAt w vb L) := hb
  have HS : Hid (∀ x ∈ L, x.old.length ≤ 900000 ∧ x.new.length ≤ 900000) := hs
  have i1 : (n : Int) ≤ 100000 := by omega
  clear hl ha hb hn hs
  go_enter Tryz.func16, Tryz.ntmps16
  go_wp2_with fail
  go_loopw [5] (fun vi wr => ∃ k : Nat, k ≤ n ∧ vi = .int .i64 k ∧ Hid (Fr None' w wr)) (fun vi _ => n - (intOf vi).toNat)
  case atStart => exact ⟨0, Nat.zero_le _, rfl, Fr.refl _ _⟩
  case round =>
    obtain ⟨k, hk, rfl, HF⟩ := hrel
    by_cases hlt : k < n
    · have hkL : k < L.length := by rw [HL.out]; exact hlt
      obtain ⟨g, o, rfl, vo, vn, d0, d1, d2, d3, d4, d5, d6, s1, s2⟩ := (HA.out.kept HF.out).get hkL
      obtain ⟨g2, o2, rfl, uo, un, e0, e1, e2, e3, e4, e5, e6, s3, s4⟩ := (HB.out.kept HF.out).get hkL
      obtain ⟨z1, z2⟩ := HS.out _ (List.getElem_mem hkL)
      obtain ⟨x, hxe⟩ : ∃ x, L[k] = x := ⟨_, rfl⟩
      rw [hxe] at d0 d1 d2 d3 d4 e0 e1 e2 e3 e4 s1 s2 s3 s4 z1 z2
      have cS : ∀ w', Fr None' wr w' → Calls Tryz.prog 15 #[.agg #[.int .i64 x.kind, .string x.path, .string x.dst, .string x.src, .int .i64 x.pos, vo, vn], .agg #[.int .i64 x.kind, .string x.path, .string x.dst, .string x.src, .int .i64 x.pos, uo, un]] w' fun e w'' => e = .returned (.bool true) ∧ Fr None' w' w'' := fun w' f => psame_any x vo vn uo un w' (s1.kept f) (s2.kept f) (s3.kept f) (s4.kept f) z1 z2
      obtain ⟨pa, ca, rfl, _⟩ := s1
      obtain ⟨pb, cb, rfl, _⟩ := s2
      obtain ⟨qa, da, rfl, _⟩ := s3
      obtain ⟨qb, db, rfl, _⟩ := s4
      obtain ⟨K, P, T, F, A, lO, lN⟩ := x
      simp only at d0 d1 d2 d3 d4 d5 d6 e0 e1 e2 e3 e4 e5 e6 cS
      have i2 : (k : Int) < (n : Int) := by omega
      have i3 : (0 : Int) ≤ (k : Int) := by omega
      clear hxe z1 z2
      have HK : Hid (∀ w', Fr None' wr w' → Fr None' wr w' ∧ w'.cell? ⟨g, o + k * 7, none⟩ = some (.int .i64 K) ∧ w'.cell? ⟨g, o + k * 7 + 1, none⟩ = some (.string P) ∧ w'.cell? ⟨g, o + k * 7 + 2, none⟩ = some (.string T) ∧ w'.cell? ⟨g, o + k * 7 + 3, none⟩ = some (.string F) ∧ w'.cell? ⟨g, o + k * 7 + 4, none⟩ = some (.int .i64 A) ∧ w'.cell? ⟨g, o + k * 7 + 5, none⟩ = some (.slice pa lO.length ca) ∧ w'.cell? ⟨g, o + k * 7 + 6, none⟩ = some (.slice pb lN.length cb) ∧ w'.cell? ⟨g2, o2 + k * 7, none⟩ = some (.int .i64 K) ∧ w'.cell? ⟨g2, o2 + k * 7 + 1, none⟩ = some (.string P) ∧ w'.cell? ⟨g2, o2 + k * 7 + 2, none⟩ = some (.string T) ∧ w'.cell? ⟨g2, o2 + k * 7 + 3, none⟩ = some (.string F) ∧ w'.cell? ⟨g2, o2 + k * 7 + 4, none⟩ = some (.int .i64 A) ∧ w'.cell? ⟨g2, o2 + k * 7 + 5, none⟩ = some (.slice qa lO.length da) ∧ w'.cell? ⟨g2, o2 + k * 7 + 6, none⟩ = some (.slice qb lN.length db)) := fun w' f => ⟨f, f.keepCell d0 (fun e => e), f.keepCell d1 (fun e => e), f.keepCell d2 (fun e => e), f.keepCell d3 (fun e => e), f.keepCell d4 (fun e => e), f.keepCell d5 (fun e => e), f.keepCell d6 (fun e => e), f.keepCell e0 (fun e => e), f.keepCell e1 (fun e => e), f.keepCell e2 (fun e => e), f.keepCell e3 (fun e => e), f.keepCell e4 (fun e => e), f.keepCell e5 (fun e => e), f.keepCell e6 (fun e => e)⟩
      clear d0 d1 d2 d3 d4 d5 d6 e0 e1 e2 e3 e4 e5 e6
      go_wp2_with fail
      go_region_held3 (fun w' => Fr None' wr w' ∧ w'.cell? ⟨g, o + k * 7, none⟩ = some (.int .i64 K) ∧ w'.cell? ⟨g, o + k * 7 + 1, none⟩ = some (.string P) ∧ w'.cell? ⟨g, o + k * 7 + 2, none⟩ = some (.string T) ∧ w'.cell? ⟨g, o + k * 7 + 3, none⟩ = some (.string F) ∧ w'.cell? ⟨g, o + k * 7 + 4, none⟩ = some (.int .i64 A) ∧ w'.cell? ⟨g, o + k * 7 + 5, none⟩ = some (.slice pa lO.length ca) ∧ w'.cell? ⟨g, o + k * 7 + 6, none⟩ = some (.slice pb lN.length cb) ∧ w'.cell? ⟨g2, o2 + k * 7, none⟩ = some (.int .i64 K) ∧ w'.cell? ⟨g2, o2 + k * 7 + 1, none⟩ = some (.string P) ∧ w'.cell? ⟨g2, o2 + k * 7 + 2, none⟩ = some (.string T) ∧ w'.cell? ⟨g2, o2 + k * 7 + 3, none⟩ = some (.string F) ∧ w'.cell? ⟨g2, o2 + k * 7 + 4, none⟩ = some (.int .i64 A) ∧ w'.cell? ⟨g2, o2 + k * 7 + 5, none⟩ = some (.slice qa lO.length da) ∧ w'.cell? ⟨g2, o2 + k * 7 + 6, none⟩ = some (.slice qb lN.length db))
        (exact HK.out _ (by first | exact Fr.drew None' wr | assumption | exact Fr.then7 (Fr.drew None' wr) (by assumption)))
        (first | (go_at_call 15; with_reducible (refine (cS _ (Fr.drew None' wr)).mono ?_); rintro e w6 ⟨rfl, F6⟩))
      have HX : Hid (Fr None' w w6) := HF.out.then7 ((Fr.drew None' wr).then7 F6)
      clear cS F6 HK
      go_wp2_with fail
      exact ⟨⟨k + 1, by omega, by go_num, HX.out⟩, by simp [intOf]; omega⟩
    · go_wp2_with fail
      go_ret
      exact ⟨rfl, HF.out⟩

end Go.Proofs.YtlmgbcfcikdgpaaGreatDoor
