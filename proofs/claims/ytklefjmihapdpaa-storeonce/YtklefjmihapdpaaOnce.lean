/-
  What is proved here: StoreOnce answers true. Condition: its arguments lie in memory.
-/
import Derived.Test.YtklefjmihapdpaaFuse3
import Derived.Test.YtklefjmihapdpaaArgsM
namespace Go.Proofs.Ytklefjmihapdpaa
open Go.RowKit Go.Maps Go.WideMaps
set_option maxRecDepth 100000

theorem Live.fr {w wi : World} {p : Nat} {S : St} (h : Live w wi p S) : Fr None' w wi := by
  obtain ⟨_, _, h2, _⟩ := h
  exact h2

theorem Bools.fresh {w w' : World} {v : Value} {l : List Bool} (h : Bools w v l) (f : Fr None' w w') : Bools w' v l := by
  rcases h with h | ⟨ad, c, hv, hc⟩
  · exact Or.inl h
  · exact Or.inr ⟨ad, c, hv, fun j u hj => ⟨(hc j u hj).1, Sha.Fr.cell (fr_to f) (hc j u hj).2 id⟩⟩

set_option maxHeartbeats 8000000 in
theorem once_walk (ao an am ak : Option Addr) (no co nn cn cm nk ck : Nat) (old next : List UInt8) (L : List (List UInt8)) (fz : Nat) (keep : List Bool) (w : World)
    (hold : Arg w (.slice ao no co) old) (lold : Low w (.slice ao no co)) (eo : no = old.length) (hnext : Arg w (.slice an nn cn) next) (lnext : Low w (.slice an nn cn)) (en : nn = next.length) (hmore : MoreAt w am L) (hkeep : Bools w (.slice ak nk ck) keep) (lkeep : Low w (.slice ak nk ck)) (hfz : fz ≤ 255) :
    Calls Try.prog 3 #[.slice ao no co, .slice an nn cn, .slice am L.length cm, .int .u8 fz, .slice ak nk ck] w fun e w' => e = .returned (.bool true) ∧ Fr None' w w' := by
  have hnil : ∀ (w : World) (p : Nat), (binOp .eql 26 (.pointer (some ⟨p, 0, none⟩)) (.pointer none)).run Try.prog w = .ok (.bool false) w := fun w p => by rfl
  have hnil2 : ∀ (w : World) (p : Nat), (binOp .neq 26 (.pointer (some ⟨p, 0, none⟩)) (.pointer none)).run Try.prog w = .ok (.bool true) w := fun w p => by rfl
  have HA : Hid (Arg w (.slice ao no co) old ∧ Low w (.slice ao no co)) := ⟨hold, lold⟩
  have HB : Hid (Arg w (.slice an nn cn) next ∧ Low w (.slice an nn cn)) := ⟨hnext, lnext⟩
  have HM : Hid (MoreAt w am L) := hmore
  have HK : Hid (Bools w (.slice ak nk ck) keep ∧ Low w (.slice ak nk ck)) := ⟨hkeep, lkeep⟩
  clear hold lold hnext lnext hmore hkeep lkeep
  subst eo
  subst en
  by_cases hg : old.length ≤ 1000 ∧ next.length ≤ 1000 ∧ L.length ≤ 20
  rotate_left
  · have hcs : (1000 : Int) < old.length ∨ ((old.length : Int) ≤ 1000 ∧ (1000 : Int) < next.length) ∨ ((old.length : Int) ≤ 1000 ∧ (next.length : Int) ≤ 1000 ∧ (20 : Int) < L.length) := by omega
    clear hg
    rcases hcs with g1 | ⟨g1, g2⟩ | ⟨g1, g2, g3⟩
    all_goals
      go_enter Try.func3, Try.ntmps3
      go_wp2_with fail
      refine (head_any _).mono ?_
      rintro e w1 ⟨rfl, f1⟩
      go_wp2_with fail
      refine (live_new 1048576 w1).mono ?_
      rintro e w2 ⟨p, rfl, L2⟩
      have f2 := f1.then L2.fr
      clear L2
      go_wp2
      go_ret
      exact ⟨rfl, f2⟩
  obtain ⟨g1, g2, g3⟩ := hg
  have j1 : (old.length : Int) ≤ 1000 := by omega
  have j2 : (next.length : Int) ≤ 1000 := by omega
  have j3 : (L.length : Int) ≤ 20 := by omega
  have HG : Hid (old.length ≤ 1000 ∧ next.length ≤ 1000 ∧ L.length ≤ 20) := ⟨g1, g2, g3⟩
  clear g1 g2 g3
  obtain ⟨F, hF⟩ : ∃ F, fz % 30 = F := ⟨_, rfl⟩
  have j4 : (fz : Int) % 30 = F := by omega
  have j5 : (F : Int) < 30 := by omega
  have HF : Hid (F < 30) := by show F < 30; omega
  clear hF
  go_enter Try.func3, Try.ntmps3
  go_wp2_with fail
  refine (head_any _).mono ?_
  rintro e w1 ⟨rfl, f1⟩
  go_wp2_with fail
  refine (live_new 1048576 w1).mono ?_
  rintro e w2 ⟨p, rfl, L2⟩
  have i2 := Inv.new 1048576
  have C2 := calm_new 1048576
  have hp : ∀ v', (St.new 1048576).put old v' = (nm old, 0, (St.new 1048576).did (Ch.wr ⟨fileK (nm old), v', old⟩)) := fun v' => put_new C2 old v' rfl (by have := HG.out; omega) (by decide) (by
    have := HG.out
    show (0 : Int) + old.length ≤ 1048576
    omega)
  have q1 := put_told L2 (Fr.refl None' w2) (i2.fine (by omega)) _ old (HA.out.1.fresh (f1.then L2.fr)) (low HA.out.2 f1) (by decide) (by have := HG.out; omega) hp
  clear hp L2
  go_wp2_with fail
  refine q1.mono ?_
  rintro e w3 ⟨v3, rfl, L3⟩
  obtain ⟨S3, hS3⟩ : ∃ S3, (St.new 1048576).did (Ch.wr ⟨fileK (nm old), v3, old⟩) = S3 := ⟨_, rfl⟩
  rw [hS3] at L3
  have i3 : Inv 1 S3 := hS3 ▸ i2.did (fun t e => by cases e; have := HG.out; show old.length ≤ 65536; omega)
  have C3 : Calm S3 := hS3 ▸ C2.did _
  have F3 : S3.F = [⟨fileK (nm old), v3, old⟩] := by rw [← hS3]; rfl
  have R3 : S3.room = 1048576 := by rw [← hS3]; rfl
  have q2 := setRoot_yes L3 i3 (by omega) (nm old) (namedB_nm old)
  have H3 : Hid (Inv 1 S3 ∧ Calm S3 ∧ S3.F = [⟨fileK (nm old), v3, old⟩] ∧ S3.room = 1048576) := ⟨i3, C3, F3, R3⟩
  clear q1 hS3 i3 C3 F3 R3 L3 i2 C2
  go_wp2_with fail
  refine q2.mono ?_
  rintro e w4 ⟨v4, r4, S4, rfl, hE, L4, _⟩
  obtain ⟨i4, R4, hr4⟩ : Inv 6 S4 ∧ Reps (RootIs (nm old) old) S4 ∧ r4 = 0 := by
    obtain ⟨i3, C3, F3, R3⟩ := H3.out
    have hset := set_ok C3 (by rw [nm_length]; omega) (Or.inr (by rw [F3]; show 1 < 512; decide)) (by
      have e1 : used S3.F = old.length := by rw [F3]; simp [used]
      rw [e1, R3, nm_length]
      have := HG.out
      omega) hE
    refine ⟨?_, ?_, hset.ok⟩
    · obtain ⟨j, hj, _, h | h⟩ := hE
      · obtain ⟨_, _, rfl⟩ := h
        exact i3.after (nm old) v4 5
      · obtain ⟨_, _, _, rfl⟩ := h
        exact (i3.after (nm old) v4 (j + 1)).more (by omega)
    · have hRI : RootIs (nm old) old S4.F := by
        rw [hset.F]
        refine ⟨⟨_, get_setF_root _ _ _, rfl⟩, ⟨⟨fileK (nm old), v3, old⟩, ?_, rfl⟩⟩
        rw [get_setF_other _ _ _ (file_ne_new _) (file_ne_root _), F3]
        unfold get
        simp
      refine ⟨hRI, fun keep i => ?_⟩
      rw [hset.ch, rep_nil, hset.Y]
      exact hRI
  subst hr4
  have q3 := fuse_told L4 F
  have H4 : Hid (Inv 6 (S4.fused F) ∧ Reps (RootIs (nm old) old) (S4.fused F)) := ⟨i4.fused F (by omega), R4⟩
  clear q2 hE L4 i4 R4 H3
  go_wp2_with fail
  refine q3.mono ?_
  rintro e w5 ⟨rfl, L5⟩
  clear q3
  go_wp2_with fail
  go_loopw [16] (fun i wr => ∃ (j : Nat) (S : St), j ≤ L.length ∧ i = .int .i64 j ∧ Live w1 wr p S ∧ Inv (6 + j) S ∧ Reps (RootIs (nm old) old) S) (fun i _ => L.length - (intOf i).toNat)
  case atStart => exact ⟨0, _, by omega, rfl, L5, H4.out.1, H4.out.2⟩
  case round =>
    clear L5
    obtain ⟨j, S, hj, rfl, LS, iS, RS⟩ := hrel
    have hg := HG.out
    by_cases hlt : j < L.length
    · have i0 : (j : Int) < L.length := by omega
      obtain ⟨b, hb⟩ : ∃ b, L[j]? = some b := ⟨_, List.getElem?_eq_getElem hlt⟩
      obtain ⟨g, off, sv, ham, hgw, hcell, hsv, hlow⟩ := HM.out j b hb
      subst ham
      have fw := f1.then LS.fr
      have hc := Sha.Fr.cell (fr_to fw) hcell id
      obtain ⟨sa, sn, sc, hs⟩ : ∃ sa sn sc, sv = .slice sa sn sc := by
        rcases hsv.bytes with ⟨h, _⟩ | ⟨ad, c, h, _⟩
        · exact ⟨_, _, _, h⟩
        · exact ⟨_, _, _, h⟩
      have hsn : sn = b.length := by
        obtain ⟨_, _, e, _⟩ := hsv.byt
        rw [hs] at e
        cases e
        rfl
      subst hs
      subst hsn
      by_cases hbl : b.length ≤ 1000
      · have i1 : (b.length : Int) ≤ 1000 := by omega
        have q := put_any LS (Fr.refl None' wr) (iS.fine (by omega)) _ b (hsv.fresh fw) (low hlow f1) (LS.used iS (by omega)) (by omega)
        have HS : Hid (Inv (6 + j) S ∧ Reps (RootIs (nm old) old) S) := ⟨iS, RS⟩
        clear hsv hlow hcell hgw iS RS LS fw hb hg
        go_wp2_with fail
        refine q.mono ?_
        rintro e w6 ⟨v6, rfl, L6⟩
        clear q
        go_wp2_with fail
        exact ⟨⟨j + 1, _, by omega, by go_num, L6, HS.out.1.put b v6, HS.out.2.put b v6⟩, by simp [intOf]; omega⟩
      · have i1 : (1000 : Int) < b.length := by omega
        clear hsv hlow hcell hgw iS RS hb hg LS
        go_wp2
        go_ret
        exact ⟨rfl, fw⟩
    · have i0 : (L.length : Int) ≤ j := by omega
      have fw := f1.then LS.fr
      have q := put_any LS (Fr.refl None' wr) (iS.fine (by omega)) _ next (HB.out.1.fresh fw) (low HB.out.2 f1) (LS.used iS (by omega)) (by omega)
      have HS : Hid (Inv (6 + j) S ∧ Reps (RootIs (nm old) old) S ∧ j ≤ 20) := ⟨iS, RS, by omega⟩
      clear iS RS LS fw hlt hj hg H4
      go_wp2_with fail
      refine q.mono ?_
      rintro e w6 ⟨v6, rfl, L6⟩
      clear q
      obtain ⟨iS, RS, hj⟩ := HS.out
      have q := set_once (next := next) L6 (iS.put next v6) (by omega) (RS.put next v6) (S.put next v6).1 (by
        by_cases h0 : (S.put next v6).2.1 = 0
        · exact Or.inl (put_has h0)
        · exact Or.inr (put_no h0))
      obtain ⟨l, hl⟩ : ∃ l, (S.put next v6).1 = l := ⟨_, rfl⟩
      obtain ⟨c, hc⟩ : ∃ c, (S.put next v6).2.1 = c := ⟨_, rfl⟩
      rw [hl] at q
      rw [hl, hc]
      clear iS RS hj L6 hl hc
      go_wp2_with fail
      refine q.mono ?_
      rintro e w7 ⟨r, T, rfl, L7, i7, R7, R7'⟩
      clear q
      obtain ⟨_, _, hj⟩ := HS.out
      have f7 := f1.then L7.fr
      have q := live_crash L7 (Fr.refl None' w7) (i7.fine (by omega)) _ keep (HK.out.1.fresh f7) (low HK.out.2 f1)
      obtain ⟨b, hb, hb2⟩ : ∃ b, RootIs (nm b) b (T.crash keep).F ∧ (b = next ∨ (r ≠ 0 ∧ b = old)) := by
        by_cases h0 : r = 0
        · exact ⟨next, (R7' h0).crash keep, Or.inl rfl⟩
        · rcases R7.crash keep with h | h
          · exact ⟨old, h, Or.inr ⟨h0, rfl⟩⟩
          · exact ⟨next, h, Or.inl rfl⟩
      obtain ⟨hr1, hr2⟩ := crash_reads hb
      have H7 : Hid (Inv (6 + j + 1 + 5 + 1) (T.crash keep) ∧ j ≤ 20 ∧ (T.crash keep).rootB = (nm b, 0) ∧ (T.crash keep).getB (nm b) = (b, 0) ∧ (b = next ∨ (r ≠ 0 ∧ b = old))) := ⟨i7.crash keep, hj, hr1, hr2, hb2⟩
      clear L7 i7 R7 R7' hj f7 hb hb2 hr1 hr2
      go_wp2_with fail
      refine q.mono ?_
      rintro e w8 ⟨rfl, L8⟩
      clear q
      obtain ⟨i8, hj, hr1, hr2, hb2⟩ := H7.out
      have q := root_told L8 (L8.used i8 (by omega)) i8.len hr1
      clear i8 hj hr1 hr2 hb2 L8
      go_wp2_with fail
      refine q.mono ?_
      rintro e w9 ⟨rfl, L9, _⟩
      clear q
      obtain ⟨i8, hj, hr1, hr2, hb2⟩ := H7.out
      have q := get_told L9 (nm b) (by rw [nm_length]; decide) (L9.used i8 (by omega)) i8.len hr2
      clear i8 hj hr1 hr2 hb2 L9
      go_wp2_with fail
      refine q.mono ?_
      rintro e w10 ⟨vs, rfl, d10, L10, _⟩
      clear q
      have f10 := f1.then L10.fr
      have hs1 := str_any d10.bytes
      have hs2 := str_any (HA.out.1.fresh f10).bytes
      have hs3 := str_any (HB.out.1.fresh f10).bytes
      have hq1 := beq_lists b old
      have hq2 := beq_lists b next
      generalize (⟨b.toArray⟩ : ByteArray) = sb at hs1 hq1 hq2
      generalize (⟨old.toArray⟩ : ByteArray) = so at hs2 hq1
      generalize (⟨next.toArray⟩ : ByteArray) = sn at hs3 hq2
      obtain ⟨_, _, _, _, hb2⟩ := H7.out
      clear d10 L10
      by_cases h0 : r = 0
      · have e2 : b = next := by
          rcases hb2 with h | h
          · exact h
          · exact absurd h0 h.1
        rw [decide_eq_true e2] at hq2
        clear hq1 hb2 e2
        subst h0
        go_wp2
        go_ret
        exact ⟨rfl, f10⟩
      · by_cases e1 : b = old
        · rw [decide_eq_true e1] at hq1
          clear hq2 hb2 e1
          go_wp2
          go_ret
          exact ⟨rfl, f10⟩
        · rw [decide_eq_false e1] at hq1
          have e2 : b = next := by
            rcases hb2 with h | h
            · exact h
            · exact absurd h.2 e1
          rw [decide_eq_true e2] at hq2
          clear hb2 e1 e2
          go_wp2
          go_ret
          exact ⟨rfl, f10⟩
end Go.Proofs.Ytklefjmihapdpaa
