/-
  What is proved here: the contracts that the statement stands on: RightT2, RightT3, RFindE, FindT, FindT2, SameE, OwnE, ChildE, ByParent, Great7. Conditions: as each theorem names them.
-/
import Derived.Test.YtdaogldmcbfmoaaGreatDoorMRightT
import Derived.Test.YtdaogldmcbfmoaaGreatDoorM19PSplit
import Derived.Test.YtdaogldmcbfmoaaGreatDoorMPRRest
import Derived.Laws.ResultCell
import Derived.Test.YtdaogldmcbfmoaaGreatDoorMLayT
import Derived.Test.YtdaogldmcbfmoaaGreatDoorM23LStrs
import Derived.BigQuiet
import Derived.Deep.AppendLies
import Derived.Maps.AppendAt
import Derived.Test.YtdaogldmcbfmoaaGreatDoorMEnts
import Derived.Deep.RegionHeld3
namespace Go.Proofs.YtdaogldmcbfmoaaGreatDoor
open Go.RowKit Go.Maps Go.WideMaps
set_option maxRecDepth 100000

/-- The last path. -/
def lastP (seen : List En) : List UInt8 := match seen.getLast? with
  | none => []
  | some y => bl y.path

theorem lastP_snoc (seen : List En) (x : En) : lastP (seen ++ [x]) = bl x.path := by
  unfold lastP
  rw [List.getLast?_concat]

/-- Is a path not above the last one? -/
theorem not_above {P la : ByteArray} {seen : List En} {x : En} (hx : x.path = P) (hl : bl la = lastP seen) (hr : Path.right (bl P) = true) : (rises seen x = true → Op.bytesLess P.toList la.toList = false ∧ (P.toList == la.toList) = false ∧ ¬ P.toList = la.toList) ∧ (rises seen x = false → Op.bytesLess P.toList la.toList = true ∨ (Op.bytesLess P.toList la.toList = false ∧ P = la)) := by
  subst hx
  have eb : Op.bytesLess x.path.toList la.toList = decide (bl x.path < bl la) := by rw [ByteArray.toList_eq, ByteArray.toList_eq, Go.Proofs.bytesLess_eq]; rfl
  have et : x.path.toList = bl x.path ∧ la.toList = bl la := ⟨by rw [ByteArray.toList_eq]; rfl, by rw [ByteArray.toList_eq]; rfl⟩
  rw [eb, et.1, et.2]
  have ne : bl x.path ≠ [] := fun e => by rw [e] at hr; simp [Path.right, Path.parts, Path.goodPart] at hr
  have key : rises seen x = decide (bl la < bl x.path) := by
    unfold rises
    rw [hl]
    unfold lastP
    cases seen.getLast? with
    | some y => rfl
    | none =>
      cases h : bl x.path with
      | nil => exact absurd h ne
      | cons c r => simp
  rw [key]
  constructor
  · intro h
    have h1 : bl la < bl x.path := by simpa using h
    have h2 : ¬ bl x.path < bl la := fun h3 => List.lt_irrefl _ (List.lt_trans h1 h3)
    have h3 : ¬ bl x.path = bl la := fun h3 => by rw [h3] at h1; exact List.lt_irrefl _ h1
    exact ⟨decide_eq_false h2, by simpa using h3, h3⟩
  · intro h
    have h1 : ¬ bl la < bl x.path := by simpa using h
    by_cases h2 : bl x.path < bl la
    · exact Or.inl (decide_eq_true h2)
    · refine Or.inr ⟨decide_eq_false h2, ?_⟩
      have h3 : bl x.path = bl la := List.le_antisymm h1 h2
      have : x.path.data.toList = la.data.toList := h3
      cases hx : x.path with | mk a => cases la with | mk b =>
        rw [hx] at this
        cases a; cases b
        simp at this
        rw [this]

theorem cell4 (w : World) (e : TypeId) (x y z u : Value) : (w.alloc (.cells #[x, y, z, u] e)).cell? ⟨w.heap.size, 0, none⟩ = some x ∧ (w.alloc (.cells #[x, y, z, u] e)).cell? ⟨w.heap.size, 1, none⟩ = some y ∧ (w.alloc (.cells #[x, y, z, u] e)).cell? ⟨w.heap.size, 2, none⟩ = some z ∧ (w.alloc (.cells #[x, y, z, u] e)).cell? ⟨w.heap.size, 3, none⟩ = some u := by simp

theorem zeroU (w : World) : (zeroValue 80).run Tryz.prog w = .ok (.agg #[]) w := by kernel_rfl

theorem Fr.then7 {a b c : World} (h : Fr None' a b) (k : Fr None' b c) : Fr None' a c := h.trans k (fun _ e => Or.inl e)

theorem keyS (s : ByteArray) (h : s.size ≤ maxLen) : keyOf Tryz.prog 9 (.string s) = some (.string (bl s)) := keyOf_string_mk Tryz.underlying9 h

/-- What has been asked of k things, and all was well. -/
structure RT (L : List En) (k : Nat) (D : DataW Unit) (la : ByteArray) : Prop where
  ok : ∀ j (h : j < L.length), j < k → okAt (L.take j) L[j] = true
  dirs : ∀ p, Maps.has D (.string p) = isDir (L.take k) p
  last : bl la = lastP (L.take k)
  map : IsMap D

theorem RT.start (L : List En) : RT L 0 (.map []) ⟨#[]⟩ := ⟨fun j _ h => by omega, fun p => by simp [isDir, Maps.has], rfl, ⟨_, rfl⟩⟩

theorem RT.next {L : List En} {k : Nat} {D : DataW Unit} {la : ByteArray} (h : RT L k D la) (hk : k < L.length) (ok : okAt (L.take k) L[k] = true) : RT L (k + 1) (if L[k].kind = 1 then D.put (.string (bl L[k].path)) (.agg []) else D) L[k].path := by
  refine ⟨fun j hj hlt => ?_, fun p => ?_, ?_, ?_⟩
  · by_cases e : j = k
    · subst e; exact ok
    · exact h.ok j hj (by omega)
  · rw [List.take_succ_eq_append_getElem hk, isDir_snoc, ← h.dirs p]
    by_cases e : L[k].kind = 1
    · rw [if_pos e]
      by_cases e2 : bl L[k].path = p
      · subst e2
        rw [has_put_same h.map (by trivial)]
        simp [e]
      · rw [has_put_other (fun e3 => e2 (by injection e3 with e3; exact e3.symm))]
        simp [e2]
    · rw [if_neg e]
      simp [e]
  · rw [List.take_succ_eq_append_getElem hk, lastP_snoc]
  · by_cases e : L[k].kind = 1
    · rw [if_pos e]; exact h.map.put _ _
    · rw [if_neg e]; exact h.map

theorem okAt_parts {seen : List En} {x : En} : okAt seen x = true ↔ Path.right (bl x.path) = true ∧ rises seen x = true ∧ thing x = true ∧ parentOk seen x = true := by
  unfold okAt
  simp only [Bool.and_eq_true, and_assoc]

end Go.Proofs.YtdaogldmcbfmoaaGreatDoor

namespace Go.Proofs.YtdaogldmcbfmoaaGreatDoor
open Go.RowKit Go.Maps Go.WideMaps
set_option maxRecDepth 100000

theorem parent_len {P : ByteArray} {p : List UInt8} (h : Path.parent P.data.toList = some p) : (⟨p.toArray⟩ : ByteArray).size ≤ P.size := by
  obtain ⟨b, e, _⟩ := Path.parent_some h
  have h1 : P.data.toList.length = P.size := by cases P; rfl
  have h2 : (⟨p.toArray⟩ : ByteArray).size = p.length := rfl
  rw [e, List.length_append] at h1
  omega

/-- Things of bounded size. -/
def SmallE (L : List En) : Prop := ∀ x ∈ L, x.path.size < 10000000 ∧ x.data.size < 10000000 ∧ x.lines.length < 900000 ∧ ∀ y ∈ x.lines, y.size < 900000

set_option maxHeartbeats 8000000 in
theorem tright_any (va : Option Addr) (n c : Nat) (L : List En) (w : World) (hl : L.length = n) (h : EntsAt w va L) (hn : n ≤ 100000) (hs : SmallE L) :
    Calls Tryz.prog 17 #[.slice va n c] w fun e w' => e = .returned (.bool (treeRight L)) ∧ Fr None' w w' := by
  have HL : Hid (L.length = n) := hl
  have HS : Hid (SmallE L) := hs
  have HE : Hid (EntsAt w va L) := h
  have hmm := @run_makeMap Tryz.prog
  have i1 : (n : Int) ≤ 100000 := by omega
  by_cases hbig : 1024 < n
  · have e : treeRight L = false := treeRight_long (by rw [hl]; exact hbig)
    rw [e]
    have q : (1024 : Int) < (n : Int) := by omega
    clear hl h hs hmm
    go_enter Tryz.func17, Tryz.ntmps17
    go_wp2_with fail
    go_ret
    exact ⟨rfl, Fr.refl _ _⟩
  · obtain ⟨R, hR⟩ : ∃ R, treeRight L = R := ⟨_, rfl⟩
    have HR : Hid (treeRight L = R) := hR
    rw [hR]
    have q : ¬ (1024 : Int) < (n : Int) := by omega
    have HNB : Hid (n ≤ 1024) := by show _ ≤ _; omega
    have M0 : Hid ((w.alloc (.map #[] 0)).ownsMap Tryz.prog 9 (unitElem (H := Unit)) w.heap.size 0 (.map [])) := World.ownsMap_made _ _ _ _
    clear hl h hs hR hbig hn
    go_enter Tryz.func17, Tryz.ntmps17
    go_wp2_with fail
    clear hmm q
    go_loopw [4, 17] (fun vl vi wr => ∃ (k m : Nat) (D : DataW Unit) (la : ByteArray), k ≤ n ∧ m ≤ k ∧ vi = .int .i64 k ∧ vl = .string la ∧ Hid (wr.ownsMap Tryz.prog 9 unitElem w.heap.size m D) ∧ Hid (RT L k D la) ∧ Hid (Fr None' w wr)) (fun _ vi _ => n - (intOf vi).toNat)
    case atStart => exact ⟨0, 0, .map [], ⟨#[]⟩, Nat.zero_le _, Nat.le_refl _, rfl, rfl, M0.out, RT.start L, Fr.alloc None' w _⟩
    case round =>
      clear M0
      obtain ⟨k, m, D, la, hk, hm, rfl, rfl, HM, HT, HF⟩ := hrel
      by_cases hlt : k < n
      · have hkL : k < L.length := by rw [HL.out]; exact hlt
        obtain ⟨g, o, rfl, vl, d0, d1, d2, d3, hs1⟩ := (HE.out.kept HF.out).get hkL
        obtain ⟨pl, cl, rfl, _, _, hr⟩ := hs1
        obtain ⟨z1, z2, z3, z4⟩ := HS.out _ (List.getElem_mem hkL)
        have HN := HT.out.next hkL
        have HNo : Hid (okAt (L.take k) L[k] = false → R = false) := fun h => by rw [← HR.out]; exact treeRight_no hkL h
        obtain ⟨x, hxe⟩ : ∃ x, L[k] = x := ⟨_, rfl⟩
        rw [hxe] at d0 d1 d2 d3 hr z1 z2 z3 z4 HN HNo
        obtain ⟨P, K, l, Da⟩ := x
        simp only at d0 d1 d2 d3 hr z1 z2 z3 z4 HN
        obtain ⟨nl, hnl⟩ : ∃ m, l.length = m := ⟨_, rfl⟩
        rw [hnl] at d2 z3
        have HRW : Hid (Lines.Row wr pl l ∧ l.length = nl) := ⟨hr, hnl⟩
        have HNX : Hid (okAt (L.take k) ⟨P, K, l, Da⟩ = true → RT L (k + 1) (if K = 1 then D.put (.string (bl P)) (.agg []) else D) P) := HN
        have HZ : Hid (P.size < 10000000 ∧ nl < 900000) := ⟨z1, z3⟩
        have i2 : (k : Int) < (n : Int) := by omega
        have i3 : (0 : Int) ≤ (k : Int) := by omega
        clear hxe hnl hr HN z1 z2 z3 z4
        go_wp2_with fail
        refine (Path.right_any P _ (by have := HZ.out.1; omega)).mono ?_
        rintro e w2 ⟨rfl, hb⟩
        have f2 := ofBelow hb
        obtain ⟨b0, b1, b2, b3⟩ := cell4 wr 38 (.string P) (.int .i64 K) (.slice pl nl cl) (.string Da)
        replace b0 := f2.keepCell b0 (fun e => e)
        replace b1 := f2.keepCell b1 (fun e => e)
        replace b2 := f2.keepCell b2 (fun e => e)
        replace b3 := f2.keepCell b3 (fun e => e)
        have F2 : Fr None' wr w2 := (Fr.alloc None' wr _).then7 f2
        have HF2 : Hid (Fr None' wr w2) := F2
        have HM2 : Hid (w2.ownsMap Tryz.prog 9 unitElem w.heap.size m D) := F2.map HM.out (fun e => e)
        clear hb f2 F2 d0 d1 d2 d3 HM
        have HOK : Hid (okAt (L.take k) ⟨P, K, l, Da⟩ = true ↔ Path.right (bl P) = true ∧ rises (L.take k) ⟨P, K, l, Da⟩ = true ∧ thing ⟨P, K, l, Da⟩ = true ∧ parentOk (L.take k) ⟨P, K, l, Da⟩ = true) := okAt_parts
        cases hpr : Path.right (bl P) with
        | false =>
          have e : R = false := HNo.out (by
            cases h : okAt (L.take k) ⟨P, K, l, Da⟩ with
            | false => rfl
            | true => have := (HOK.out.1 h).1; rw [hpr] at this; cases this)
          subst e
          have hpr' : Path.right P.data.toList = false := hpr
          rw [hpr']
          go_wp2_with fail
          go_ret
          exact ⟨rfl, HF.out.then7 HF2.out⟩
        | true =>
          have hpr' : Path.right P.data.toList = true := hpr
          rw [hpr']
          have hna := not_above (x := ⟨P, K, l, Da⟩) rfl HT.out.last hpr
          have hno : ∀ {b : Bool}, (okAt (L.take k) ⟨P, K, l, Da⟩ = true → b = true) → b = false → R = false := fun {b} h hb => HNo.out (by
            cases h2 : okAt (L.take k) ⟨P, K, l, Da⟩ with
            | false => rfl
            | true => rw [h h2] at hb; cases hb)
          cases hri : rises (L.take k) ⟨P, K, l, Da⟩ with
          | false =>
            have e : R = false := hno (fun h => (HOK.out.1 h).2.1) hri
            subst e
            rcases hna.2 hri with e1 | ⟨e1, rfl⟩
            · clear hna hno
              go_wp2_with fail
              go_ret
              exact ⟨rfl, HF.out.then7 HF2.out⟩
            · clear hna hno
              go_wp2_with fail
              go_ret
              exact ⟨rfl, HF.out.then7 HF2.out⟩
          | true =>
            obtain ⟨e1, e2, e3⟩ := hna.1 hri
            have cT := rightThing_any P Da K l pl nl cl w2 HRW.out.2 (HRW.out.1.fr (toLN HF2.out)) (by have := HZ.out.2; omega)
            clear hna
            go_wp2_with fail
            refine cT.mono ?_
            rintro e w3 ⟨rfl, f3⟩
            replace b0 := f3.keepCell b0 (fun e => e)
            replace b1 := f3.keepCell b1 (fun e => e)
            have HF3 : Hid (Fr None' wr w3) := HF2.out.then7 f3
            have HM3 : Hid (w3.ownsMap Tryz.prog 9 unitElem w.heap.size m D) := f3.map HM2.out (fun e => e)
            clear cT f3 HM2 b2 b3 e1 e2 e3
            cases hth : thing ⟨P, K, l, Da⟩ with
            | false =>
              have e : R = false := hno (fun h => (HOK.out.1 h).2.2.1) hth
              subst e
              clear hno
              go_wp2_with fail
              go_ret
              exact ⟨rfl, HF.out.then7 HF3.out⟩
            | true =>
              have cP := Path.parent_any P w3 (by have := HZ.out.1; omega)
              unfold Path.parentS at cP
              have HPO : Hid (parentOk (L.take k) ⟨P, K, l, Da⟩ = (match Path.parent (bl P) with | none => true | some p => isDir (L.take k) p)) := rfl
              have HNX2 : Hid (parentOk (L.take k) ⟨P, K, l, Da⟩ = true → RT L (k + 1) (if K = 1 then D.put (.string (bl P)) (.agg []) else D) P) := fun h => HNX.out (HOK.out.2 ⟨hpr, hri, hth, h⟩)
              have hkP := keyS P (by have := HZ.out.1; unfold maxLen; omega)
              clear HNX hri hth
              cases hpa : Path.parent (bl P) with
              | none =>
                rw [hpa] at HPO
                have hpa' : Path.parent P.data.toList = none := hpa
                rw [hpa'] at cP
                have hpo : parentOk (L.take k) ⟨P, K, l, Da⟩ = true := HPO.out
                clear hno
                go_wp2_with fail
                refine cP.mono ?_
                rintro e w4 ⟨rfl, rfl⟩
                clear cP
                have HNX3 : RT L (k + 1) (if K = 1 then D.put (.string (bl P)) (.agg []) else D) P := HNX2.out hpo
                by_cases hK : K = 1
                · subst hK
                  rw [if_pos rfl] at HNX3
                  have HNX4 : Hid (RT L (k + 1) (D.put (.string (bl P)) (.agg [])) P) := HNX3
                  clear HNX3 HNX2 hpo
                  go_wp2_with (first
                    | (at_mapUpdate; refine wpList_mapUpdate_in _ rfl _ _ _ 77 rfl 9 80 lawS Tryz.underlying77 (unitElem (H := Unit)) w.heap.size m _ rfl HM3.out (by unfold maxLen; omega) _ _ _ rfl rfl hkP _ [] unitElem_mk ?_; intro w5 hown5 hturn5; have c5 := turned_cell hturn5 b0; have HF5 : Hid (Fr None' w w5) := (HF.out.then7 HF3.out).trans (Fr.turned (M := fun x => x = w.heap.size) hturn5 rfl) (fun i e => Or.inr (by have e' : i = w.heap.size := e; omega)))
                    | go_in)
                  exact ⟨⟨k + 1, m + 1, _, P, by omega, by omega, by go_num, rfl, hown5, HNX4.out, HF5.out⟩, by simp [intOf]; omega⟩
                · rw [if_neg hK] at HNX3
                  have HNX4 : Hid (RT L (k + 1) D P) := HNX3
                  have z1 : (K == 1) = false := by simpa using hK
                  clear HNX3 HNX2 hpo
                  go_wp2_with fail
                  exact ⟨⟨k + 1, m, D, P, by omega, by omega, by go_num, rfl, HM3.out, HNX4.out, HF.out.then7 HF3.out⟩, by simp [intOf]; omega⟩
              | some p =>
                rw [hpa] at HPO
                have hpa' : Path.parent P.data.toList = some p := hpa
                rw [hpa'] at cP
                have hkp := keyS ⟨p.toArray⟩ (by have := HZ.out.1; have hl := parent_len hpa'; unfold maxLen; omega)
                have hkp2 : keyOf Tryz.prog 9 (.string ⟨p.toArray⟩) = some (.string p) := hkp
                have hdp := HT.out.dirs p
                have HPO2 : Hid (parentOk (L.take k) ⟨P, K, l, Da⟩ = isDir (L.take k) p) := HPO.out
                cases hdi : isDir (L.take k) p with
                | false =>
                  rw [hdi] at HPO2 hdp
                  have e : R = false := hno (fun h => (HOK.out.1 h).2.2.2) HPO2.out
                  subst e
                  clear hno
                  go_wp2_with fail
                  refine cP.mono ?_
                  rintro e w4 ⟨rfl, rfl⟩
                  clear cP
                  go_wp2_with (first
                    | (at_lookup; refine wpList_lookup_own_unit _ rfl _ _ 77 rfl 9 80 lawS Tryz.underlying77 (zeroU _) w.heap.size m _ rfl HM3.out _ _ rfl hkp2 ?_; rw [hdp])
                    | go_in)
                  go_ret
                  exact ⟨rfl, (HF.out.then7 HF3.out).then7 (Fr.alloc None' _ _)⟩
                | true =>
                  rw [hdi] at HPO2 hdp
                  have hpo : parentOk (L.take k) ⟨P, K, l, Da⟩ = true := HPO2.out
                  clear hno
                  go_wp2_with fail
                  refine cP.mono ?_
                  rintro e w4 ⟨rfl, rfl⟩
                  clear cP
                  have b0w := (Fr.alloc None' w3 (.cells #[] 80)).keepCell b0 (fun e => e)
                  have b1w := (Fr.alloc None' w3 (.cells #[] 80)).keepCell b1 (fun e => e)
                  have HM4 : Hid ((w3.alloc (.cells #[] 80)).ownsMap Tryz.prog 9 unitElem w.heap.size m D) := (Fr.alloc None' w3 _).map HM3.out (fun e => e)
                  have HF4 : Hid (Fr None' w (w3.alloc (.cells #[] 80))) := (HF.out.then7 HF3.out).then7 (Fr.alloc None' _ _)
                  have HNX3 : RT L (k + 1) (if K = 1 then D.put (.string (bl P)) (.agg []) else D) P := HNX2.out hpo
                  by_cases hK : K = 1
                  · subst hK
                    rw [if_pos rfl] at HNX3
                    have HNX4 : Hid (RT L (k + 1) (D.put (.string (bl P)) (.agg [])) P) := HNX3
                    clear HNX3 HNX2 hpo
                    go_wp2_with (first
                      | (at_lookup; refine wpList_lookup_own_unit _ rfl _ _ 77 rfl 9 80 lawS Tryz.underlying77 (zeroU _) w.heap.size m _ rfl HM3.out _ _ rfl hkp2 ?_; rw [hdp])
                      | (at_mapUpdate; refine wpList_mapUpdate_in _ rfl _ _ _ 77 rfl 9 80 lawS Tryz.underlying77 (unitElem (H := Unit)) w.heap.size m _ rfl HM4.out (by unfold maxLen; omega) _ _ _ rfl rfl hkP _ [] unitElem_mk ?_; intro w5 hown5 hturn5; have c5 := turned_cell hturn5 b0w; have HF5 : Hid (Fr None' w w5) := HF4.out.trans (Fr.turned (M := fun x => x = w.heap.size) hturn5 rfl) (fun i e => Or.inr (by have e' : i = w.heap.size := e; omega)))
                      | go_in)
                    exact ⟨⟨k + 1, m + 1, _, P, by omega, by omega, by go_num, rfl, hown5, HNX4.out, HF5.out⟩, by simp [intOf]; omega⟩
                  · rw [if_neg hK] at HNX3
                    have HNX4 : Hid (RT L (k + 1) D P) := HNX3
                    have z1 : (K == 1) = false := by simpa using hK
                    clear HNX3 HNX2 hpo
                    go_wp2_with (first
                      | (at_lookup; refine wpList_lookup_own_unit _ rfl _ _ 77 rfl 9 80 lawS Tryz.underlying77 (zeroU _) w.heap.size m _ rfl HM3.out _ _ rfl hkp2 ?_; rw [hdp])
                      | go_in)
                    exact ⟨⟨k + 1, m, D, P, by omega, by omega, by go_num, rfl, HM4.out, HNX4.out, HF4.out⟩, by simp [intOf]; omega⟩
      · have e : k = n := by omega
        subst e
        have e : R = true := by
          rw [← HR.out]
          exact (treeRight_iff L).2 ⟨by rw [HL.out]; exact HNB.out, fun j hj => HT.out.ok j hj (by rw [← HL.out]; exact hj)⟩
        subst e
        go_wp2_with fail
        go_ret
        exact ⟨rfl, HF.out⟩

end Go.Proofs.YtdaogldmcbfmoaaGreatDoor

namespace Go.Proofs.YtdaogldmcbfmoaaGreatDoor
open Go.RowKit
set_option maxRecDepth 100000

def FindPost (w : World) (r : Option En) : Ending → World → Prop := fun e w' => Fr None' w w' ∧ match r with
  | none => e = .returned (.tuple #[.agg #[.string ⟨#[]⟩, .int .i64 0, .slice none 0 0, .string ⟨#[]⟩], .bool false])
  | some x => ∃ vl, e = .returned (.tuple #[.agg #[.string x.path, .int .i64 x.kind, vl, .string x.data], .bool true]) ∧ StrsAt w' vl x.lines

theorem bl_inj {a b : ByteArray} (h : bl a = bl b) : a = b := by
  have h' : a.data.toList = b.data.toList := h
  cases a with | mk a => cases b with | mk b =>
    cases a; cases b
    simp at h'
    rw [h']

theorem findE_none {L : List En} {p : List UInt8} (h : ∀ j (hj : j < L.length), ¬ bl L[j].path = p) : findE L p = none := by
  unfold findE
  rw [List.find?_eq_none]
  intro x hx
  obtain ⟨j, hj, rfl⟩ := List.getElem_of_mem hx
  simpa using h j hj

theorem findE_some {L : List En} {p : List UInt8} {k : Nat} (hk : k < L.length) (h : ∀ j (hj : j < L.length), j < k → ¬ bl L[j].path = p) (e : bl L[k].path = p) : findE L p = some L[k] := by
  unfold findE
  rw [List.find?_eq_some_iff_getElem]
  refine ⟨by simpa using e, k, hk, rfl, fun j hj => ?_⟩
  simpa using h j (by omega) hj

theorem store4 {w : World} {b : Nat} {x0 x1 x2 x3 y0 y1 y2 y3 : Value} {e : TypeId} (h : w.heap[b]? = some (.cells #[x0, x1, x2, x3] e)) : ((((w.setCell ⟨b, 0, none⟩ y0).setCell ⟨b, 1, none⟩ y1).setCell ⟨b, 2, none⟩ y2).setCell ⟨b, 3, none⟩ y3).heap[b]? = some (.cells #[y0, y1, y2, y3] e) := by
  have h1 := heap_setCell_same (i := 3) (heap_setCell_same (i := 2) (heap_setCell_same (i := 1) (heap_setCell_same (i := 0) h y0) y1) y2) y3
  simpa using h1

theorem loadE {w : World} {b : Nat} {y0 y1 y2 y3 : Value} (h : w.heap[b]? = some (.cells #[y0, y1, y2, y3] 38)) : (loadVar 38 ⟨b, 0, none⟩).run Tryz.prog w = .ok (.agg #[y0, y1, y2, y3]) w :=
  run_loadVar_row w b 38 38 _ (0, 0) _ h Tryz.underlying38 rfl (by kernel_rfl)

set_option maxHeartbeats 4000000 in
theorem efind_any (va : Option Addr) (n c : Nat) (L : List En) (p : ByteArray) (w : World) (hl : L.length = n) (h : EntsAt w va L) (hn : n ≤ 140737488355328) :
    Calls Tryz.prog 16 #[.slice va n c, .string p] w (FindPost w (findE L (bl p))) := by
  have HL : Hid (L.length = n) := hl
  have HE : Hid (EntsAt w va L) := h
  have i1 : (n : Int) ≤ 140737488355328 := by omega
  obtain ⟨R, hR⟩ : ∃ R, findE L (bl p) = R := ⟨_, rfl⟩
  have HR : Hid (findE L (bl p) = R) := hR
  rw [hR]
  obtain ⟨w1, hw1⟩ : ∃ w1, w.alloc (.cells #[.string ⟨#[]⟩, .int .i64 0, .slice none 0 0, .string ⟨#[]⟩] 38) = w1 := ⟨_, rfl⟩
  have F1 : Fr None' w w1 := hw1 ▸ Fr.alloc None' w _
  obtain ⟨b0, b1, b2, b3⟩ := cell4 w 38 (.string ⟨#[]⟩) (.int .i64 0) (.slice none 0 0) (.string ⟨#[]⟩)
  rw [hw1] at b0 b1 b2 b3
  have z : ∀ o, w1.frozen? ⟨w.heap.size, o, none⟩ = false := fun o => by
    rw [← hw1]
    unfold World.frozen?
    rw [heap_alloc_new]
    simp
  have HB : Hid (w1.heap[w.heap.size]? = some (.cells #[.string ⟨#[]⟩, .int .i64 0, .slice none 0 0, .string ⟨#[]⟩] 38)) := by show _ = _; rw [← hw1]; exact heap_alloc_new w _
  clear hl h hn hR
  go_enter Tryz.func16, Tryz.ntmps16
  go_wp2_with fail
  clear hw1
  go_loopw [6] (fun vi wr => ∃ k : Nat, k ≤ n ∧ vi = .int .i64 k ∧ wr = w1 ∧ Hid (∀ j (hj : j < L.length), j < k → ¬ bl L[j].path = bl p)) (fun vi _ => n - (intOf vi).toNat)
  case atStart => exact ⟨0, Nat.zero_le _, rfl, rfl, fun j _ h => by omega⟩
  case round =>
    obtain ⟨k, hk, rfl, hw, HT⟩ := hrel
    subst hw
    by_cases hlt : k < n
    · have hkL : k < L.length := by rw [HL.out]; exact hlt
      obtain ⟨g, o, rfl, vl, d0, d1, d2, d3, hs1⟩ := HE.out.get hkL
      obtain ⟨pl, cl, rfl, h1, h2, hr⟩ := hs1
      replace d0 := F1.keepCell d0 (fun e => e)
      replace d1 := F1.keepCell d1 (fun e => e)
      replace d2 := F1.keepCell d2 (fun e => e)
      replace d3 := F1.keepCell d3 (fun e => e)
      have HS : Hid (StrsAt w (.slice pl L[k].lines.length cl) L[k].lines) := ⟨pl, cl, rfl, h1, h2, hr⟩
      have HY : Hid (bl L[k].path = bl p → R = some L[k]) := fun e => by rw [← HR.out]; exact findE_some hkL HT.out e
      have HNx : Hid (¬ bl L[k].path = bl p → ∀ j (hj : j < L.length), j < k + 1 → ¬ bl L[j].path = bl p) := fun h j hj hlt => by
        by_cases e : j = k
        · subst e; exact h
        · exact HT.out j hj (by omega)
      obtain ⟨x, hxe⟩ : ∃ x, L[k] = x := ⟨_, rfl⟩
      rw [hxe] at d0 d1 d2 d3 HS HY HNx
      obtain ⟨P, K, l, Da⟩ := x
      simp only at d0 d1 d2 d3 HS HY HNx
      obtain ⟨nl, hnl⟩ : ∃ m, l.length = m := ⟨_, rfl⟩
      rw [hnl] at d2 HS
      have i2 : (k : Int) < (n : Int) := by omega
      have i3 : (0 : Int) ≤ (k : Int) := by omega
      clear hxe hnl hr h1 h2 HT
      by_cases hp : P = p
      · subst hp
        have e := HY.out rfl
        have HE2 : Hid (R = some ⟨P, K, l, Da⟩) := e
        clear HY HNx e
        go_wp2_with fail
        have hb := store4 (y0 := .string P) (y1 := .int .i64 K) (y2 := .slice pl nl cl) (y3 := .string Da) HB.out
        have hld := loadE hb
        refine bodyPost_ret (v := .tuple #[.agg #[.string P, .int .i64 K, .slice pl nl cl, .string Da], .bool true]) (by rw [results_cell_tmp rfl]; simp [asAddr, Result.andThen, hld]) rfl ?_
        have fs : Fr (fun k => k = w.heap.size) wr ((((wr.setCell ⟨w.heap.size, 0, none⟩ (.string P)).setCell ⟨w.heap.size, 1, none⟩ (.int .i64 K)).setCell ⟨w.heap.size, 2, none⟩ (.slice pl nl cl)).setCell ⟨w.heap.size, 3, none⟩ (.string Da)) :=
          (((Fr.setCell (M := fun k => k = w.heap.size) _ (a := ⟨w.heap.size, _, none⟩) rfl _).trans (Fr.setCell (M := fun k => k = w.heap.size) _ (a := ⟨w.heap.size, _, none⟩) rfl _) (fun _ e => Or.inl e)).trans (Fr.setCell (M := fun k => k = w.heap.size) _ (a := ⟨w.heap.size, _, none⟩) rfl _) (fun _ e => Or.inl e)).trans (Fr.setCell (M := fun k => k = w.heap.size) _ (a := ⟨w.heap.size, _, none⟩) rfl _) (fun _ e => Or.inl e)
        have ff := F1.trans fs (fun i e => Or.inr (by have e' : i = w.heap.size := e; omega))
        refine ⟨ff, ?_⟩
        rw [HE2.out]
        exact ⟨_, rfl, HS.out.kept ff⟩
      · obtain ⟨s1, s2⟩ := str_no7 hp
        have HN2 : Hid (∀ j (hj : j < L.length), j < k + 1 → ¬ bl L[j].path = bl p) := HNx.out (fun e => hp (bl_inj e))
        clear hp HY HNx
        go_wp2_with fail
        exact ⟨⟨k + 1, by omega, by go_num, trivial, HN2.out⟩, by simp [intOf]; omega⟩
    · have e : R = none := by rw [← HR.out]; exact findE_none (fun j hj => HT.out j hj (by have := HL.out; omega))
      subst e
      go_wp2_with fail
      have hb := store4 (y0 := .string ⟨#[]⟩) (y1 := .int .i64 0) (y2 := .slice none 0 0) (y3 := .string ⟨#[]⟩) HB.out
      have hld := loadE hb
      refine bodyPost_ret (v := .tuple #[.agg #[.string ⟨#[]⟩, .int .i64 0, .slice none 0 0, .string ⟨#[]⟩], .bool false]) (by rw [results_cell_tmp rfl]; simp [asAddr, Result.andThen, hld]) rfl ?_
      have fs : Fr (fun k => k = w.heap.size) wr ((((wr.setCell ⟨w.heap.size, 0, none⟩ (.string ⟨#[]⟩)).setCell ⟨w.heap.size, 1, none⟩ (.int .i64 0)).setCell ⟨w.heap.size, 2, none⟩ (.slice none 0 0)).setCell ⟨w.heap.size, 3, none⟩ (.string ⟨#[]⟩)) :=
        (((Fr.setCell (M := fun k => k = w.heap.size) _ (a := ⟨w.heap.size, _, none⟩) rfl _).trans (Fr.setCell (M := fun k => k = w.heap.size) _ (a := ⟨w.heap.size, _, none⟩) rfl _) (fun _ e => Or.inl e)).trans (Fr.setCell (M := fun k => k = w.heap.size) _ (a := ⟨w.heap.size, _, none⟩) rfl _) (fun _ e => Or.inl e)).trans (Fr.setCell (M := fun k => k = w.heap.size) _ (a := ⟨w.heap.size, _, none⟩) rfl _) (fun _ e => Or.inl e)
      exact ⟨F1.trans fs (fun i e => Or.inr (by have e' : i = w.heap.size := e; omega)), rfl⟩

end Go.Proofs.YtdaogldmcbfmoaaGreatDoor

namespace Go.Proofs.YtdaogldmcbfmoaaGreatDoor
open Go.RowKit
set_option maxRecDepth 100000

theorem own_strs {base : Nat} {w : World} {v : Value} {l : List ByteArray} (h : w.ownsRow base 9 1 v l.length (l.map Value.string)) : StrsAt w v l := by
  rcases h.2 with ⟨hv, h0⟩ | ⟨g, cap, cur, hv, hb, hh, hc, _, hs, ht⟩
  · have e : l = [] := List.length_eq_zero_iff.1 h0
    subst e
    exact ⟨none, 0, hv, fun _ => rfl, Nat.le_refl _, Lines.Row.nil _ _⟩
  · refine ⟨_, cap, hv, fun e => by simp at e, hc, fun j x hj => ⟨g, 0, rfl, ?_⟩⟩
    have hlt := (List.getElem?_eq_some_iff.1 hj).1
    have h1 : (l.map Value.string)[j]? = some (.string x) := by rw [List.getElem?_map, hj]; rfl
    rw [← ht, List.getElem?_take, if_pos (by omega)] at h1
    rw [World.cell?, Nat.zero_add, hh]
    simpa using h1

theorem own_ge {base n : Nat} {w : World} {e : TypeId} {v : Value} {xs : List Value} (h : w.ownsRow base e 1 v n xs) {k : Nat} (hk : v.ownBlock = some k) : base ≤ k := by
  rcases h.2 with ⟨hv, _⟩ | ⟨g, cap, cur, hv, hb, _⟩
  · rw [hv] at hk; cases hk
  · rw [hv] at hk; cases hk; exact hb

theorem clone_any (v : Value) (l : List ByteArray) (w : World) (h : StrsAt w v l) (hl : l.length ≤ 900000) :
    Calls Tryz.prog 45 #[v] w fun e w' => ∃ v', e = .returned v' ∧ StrsAt w' v' l ∧ Fr None' w w' ∧ ∀ k, v'.ownBlock = some k → w.heap.size ≤ k := by
  obtain ⟨va, c, rfl, h1, h2, h3⟩ := h
  cases va with
  | none =>
    have e : l = [] := by
      cases l with
      | nil => rfl
      | cons x l => obtain ⟨_, _, e, _⟩ := h3 0 x rfl; cases e
    subst e
    exact (Tryz.slices_Clone_string_nil 0 c w).mono fun e w' ⟨e1, e2⟩ => ⟨_, e1, ⟨none, 0, rfl, fun _ => rfl, Nat.le_refl _, Lines.Row.nil _ _⟩, e2 ▸ Fr.refl _ _, fun k e => by cases e⟩
  | some a =>
    by_cases h0 : l = []
    · subst h0
      exact (Tryz.slices_Clone_string_zero a c w).mono fun e w' ⟨v', e1, e2, _, e3⟩ => ⟨v', e1, own_strs (l := []) e2, ofBelow e3, fun k e => own_ge e2 e⟩
    · have hp : 0 < l.length := Nat.pos_of_ne_zero (fun e => h0 (List.length_eq_zero_iff.1 e))
      obtain ⟨g, o, e, _⟩ := h3.get hp
      cases e
      refine (Tryz.slices_Clone_string g o l.length c l w (Nat.le_refl _) (by omega) (fun j hj => ?_)).mono fun e w' ⟨v', e1, e2, _, e3⟩ => ⟨v', e1, own_strs (by rw [List.take_length] at e2; exact e2), ofBelow e3, fun k e => own_ge e2 e⟩
      obtain ⟨g', o', e, hc⟩ := h3.get hj
      cases e
      rw [List.getD_eq_getElem?_getD, List.getElem?_eq_getElem hj]
      exact hc

set_option maxHeartbeats 1000000 in
theorem find1_any (P D p : ByteArray) (K : Int) (vl : Value) (b : Nat) (w : World) (pl : Option Addr) (nl cl : Nat) (hv : vl = .slice pl nl cl) (hb : w.cell? ⟨b, 0, none⟩ = some (.string p)) :
    Calls Tryz.prog 44 #[.agg #[.string P, .int .i64 K, vl, .string D], .pointer (some ⟨b, 0, none⟩)] w fun e w' => e = .returned (.bool (decide (P = p))) ∧ Fr None' w w' := by
  subst hv
  have hb2 := (Fr.alloc None' w (.cells #[.string P, .int .i64 K, .slice pl nl cl, .string D] 38)).keepCell hb (fun e => e)
  by_cases hp : P = p
  · subst hp
    rw [decide_eq_true rfl]
    go_enter Tryz.func44, Tryz.ntmps44
    go_wp2_with fail
    go_ret
    exact ⟨rfl, Fr.alloc None' w _⟩
  · rw [decide_eq_false hp]
    obtain ⟨s1, s2⟩ := str_no7 hp
    clear hp
    go_enter Tryz.func44, Tryz.ntmps44
    go_wp2_with fail
    go_ret
    exact ⟨rfl, Fr.alloc None' w _⟩

/-- Where the first thing with that path stands. -/
def At (L : List En) (p : ByteArray) (z : Int) : Prop := (z = -1 ∧ findE L (bl p) = none) ∨ ∃ k, ∃ h : k < L.length, z = (k : Int) ∧ findE L (bl p) = some L[k]

set_option maxHeartbeats 4000000 in
theorem indexE_any (va : Option Addr) (n c : Nat) (L : List En) (p : ByteArray) (b : Nat) (w : World) (hl : L.length = n) (h : EntsAt w va L) (hn : n ≤ 140737488355328) (hb : w.cell? ⟨b, 0, none⟩ = some (.string p)) :
    Calls Tryz.prog 43 #[.slice va n c, .func (.func 44) #[] #[.pointer (some ⟨b, 0, none⟩)]] w fun e w' => ∃ z, e = .returned (.int .i64 z) ∧ At L p z ∧ Fr None' w w' := by
  have HL : Hid (L.length = n) := hl
  have HE : Hid (EntsAt w va L) := h
  have i1 : (n : Int) ≤ 140737488355328 := by omega
  clear hl h hn
  go_enter Tryz.func43, Tryz.ntmps43
  go_wp2_with fail
  go_loopw [8] (fun vi wr => ∃ k : Nat, k ≤ n ∧ vi = .int .i64 k ∧ Hid (Fr None' w wr) ∧ Hid (∀ j (hj : j < L.length), j < k → ¬ bl L[j].path = bl p)) (fun vi _ => n - (intOf vi).toNat)
  case atStart => exact ⟨0, Nat.zero_le _, rfl, Fr.refl _ _, fun j _ h => by omega⟩
  case round =>
    obtain ⟨k, hk, rfl, HF, HT⟩ := hrel
    by_cases hlt : k < n
    · have hkL : k < L.length := by rw [HL.out]; exact hlt
      obtain ⟨g, o, rfl, vl, d0, d1, d2, d3, hs1⟩ := (HE.out.kept HF.out).get hkL
      obtain ⟨pl, cl, rfl, _⟩ := hs1
      have cF := find1_any L[k].path L[k].data p L[k].kind _ b wr pl L[k].lines.length cl rfl (HF.out.keepCell hb (fun e => e))
      have HY : Hid (L[k].path = p → At L p (k : Int)) := fun e => Or.inr ⟨k, hkL, rfl, findE_some hkL HT.out (by rw [e])⟩
      have HNx : Hid (¬ L[k].path = p → ∀ j (hj : j < L.length), j < k + 1 → ¬ bl L[j].path = bl p) := fun h j hj hlt => by
        by_cases e : j = k
        · subst e; exact fun e => h (bl_inj e)
        · exact HT.out j hj (by omega)
      obtain ⟨x, hxe⟩ : ∃ x, L[k] = x := ⟨_, rfl⟩
      rw [hxe] at d0 d1 d2 d3 HY HNx cF
      obtain ⟨P, K, l, Da⟩ := x
      simp only at d0 d1 d2 d3 HY HNx cF
      obtain ⟨nl, hnl⟩ : ∃ m, l.length = m := ⟨_, rfl⟩
      rw [hnl] at d2 cF
      have i2 : (k : Int) < (n : Int) := by omega
      have i3 : (0 : Int) ≤ (k : Int) := by omega
      clear hxe hnl HT
      by_cases hp : P = p
      · rw [decide_eq_true hp] at cF
        have HY2 : Hid (At L p (k : Int)) := HY.out hp
        clear HY HNx hp
        go_wp2_with fail
        refine cF.mono ?_
        rintro e w2 ⟨rfl, f2⟩
        have HF2 : Hid (Fr None' w w2) := HF.out.then7 f2
        clear cF f2
        go_wp2_with fail
        go_ret
        exact ⟨_, rfl, HY2.out, HF2.out⟩
      · rw [decide_eq_false hp] at cF
        have HN2 : Hid (∀ j (hj : j < L.length), j < k + 1 → ¬ bl L[j].path = bl p) := HNx.out hp
        clear HY HNx hp
        go_wp2_with fail
        refine cF.mono ?_
        rintro e w2 ⟨rfl, f2⟩
        have HF2 : Hid (Fr None' w w2) := HF.out.then7 f2
        clear cF f2
        go_wp2_with fail
        exact ⟨⟨k + 1, by omega, by go_num, HF2.out, HN2.out⟩, by simp [intOf]; omega⟩
    · have HNo : Hid (At L p (-1)) := Or.inl ⟨rfl, findE_none (fun j hj => HT.out j hj (by have := HL.out; omega))⟩
      go_wp2_with fail
      go_ret
      exact ⟨_, rfl, HNo.out, HF.out⟩

end Go.Proofs.YtdaogldmcbfmoaaGreatDoor

namespace Go.Proofs.YtdaogldmcbfmoaaGreatDoor
open Go.RowKit
set_option maxRecDepth 100000

theorem cell4_at {w : World} {b : Nat} {x0 x1 x2 x3 : Value} {e : TypeId} (h : w.heap[b]? = some (.cells #[x0, x1, x2, x3] e)) : w.cell? ⟨b, 0, none⟩ = some x0 ∧ w.cell? ⟨b, 1, none⟩ = some x1 ∧ w.cell? ⟨b, 2, none⟩ = some x2 ∧ w.cell? ⟨b, 3, none⟩ = some x3 ∧ ∀ o, w.frozen? ⟨b, o, none⟩ = false := by
  refine ⟨?_, ?_, ?_, ?_, fun o => ?_⟩
  · simp [World.cell?, h]
  · simp [World.cell?, h]
  · simp [World.cell?, h]
  · simp [World.cell?, h]
  · simp [World.frozen?, h]

theorem stores4 {b : Nat} (w : World) (y0 y1 y2 y3 : Value) : Fr (fun k => k = b) w ((((w.setCell ⟨b, 0, none⟩ y0).setCell ⟨b, 1, none⟩ y1).setCell ⟨b, 2, none⟩ y2).setCell ⟨b, 3, none⟩ y3) :=
  (((Fr.setCell (M := fun k => k = b) _ (a := ⟨b, _, none⟩) rfl _).trans (Fr.setCell (M := fun k => k = b) _ (a := ⟨b, _, none⟩) rfl _) (fun _ e => Or.inl e)).trans (Fr.setCell (M := fun k => k = b) _ (a := ⟨b, _, none⟩) rfl _) (fun _ e => Or.inl e)).trans (Fr.setCell (M := fun k => k = b) _ (a := ⟨b, _, none⟩) rfl _) (fun _ e => Or.inl e)

set_option maxHeartbeats 4000000 in
theorem tfind_any (va : Option Addr) (n c : Nat) (L : List En) (p : ByteArray) (w : World) (hl : L.length = n) (h : EntsAt w va L) (hn : n ≤ 140737488355328) (hs : SmallE L) :
    Calls Tryz.prog 15 #[.slice va n c, .string p] w (FindPost w (findE L (bl p))) := by
  have HL : Hid (L.length = n) := hl
  have HE : Hid (EntsAt w va L) := h
  have HS : Hid (SmallE L) := hs
  have i1 : (n : Int) ≤ 140737488355328 := by omega
  obtain ⟨w1, hw1⟩ : ∃ w1, (w.alloc (.cells #[.string p] 9)).alloc (.cells #[.string ⟨#[]⟩, .int .i64 0, .slice none 0 0, .string ⟨#[]⟩] 38) = w1 := ⟨_, rfl⟩
  have F1 : Fr None' w w1 := hw1 ▸ (Fr.alloc None' w _).then7 (Fr.alloc None' _ _)
  have hB : w1.heap[w.heap.size + 1]? = some (.cells #[.string ⟨#[]⟩, .int .i64 0, .slice none 0 0, .string ⟨#[]⟩] 38) := by
    rw [← hw1]
    have h2 := heap_alloc_new (w.alloc (.cells #[.string p] 9)) (.cells #[.string ⟨#[]⟩, .int .i64 0, .slice none 0 0, .string ⟨#[]⟩] 38)
    simpa using h2
  have hp0 : w1.cell? ⟨w.heap.size, 0, none⟩ = some (.string p) := by rw [← hw1]; simp
  have hsz : w1.heap.size = w.heap.size + 2 := by rw [← hw1]; simp
  have cI := indexE_any va n c L p w.heap.size w1 hl (h.kept F1) hn hp0
  obtain ⟨R, hR⟩ : ∃ R, findE L (bl p) = R := ⟨_, rfl⟩
  have HR : Hid (findE L (bl p) = R) := hR
  rw [hR]
  clear hl h hn hs hR
  go_enter Tryz.func15, Tryz.ntmps15
  go_wp2_with fail
  refine cI.mono ?_
  rintro e w2 ⟨z, rfl, hAt, f2⟩
  have hB2 := f2.at hB (fun e => e)
  have HF2 : Hid (Fr None' w w2) := F1.then7 f2
  have HZ2 : Hid (w.heap.size + 2 ≤ w2.heap.size) := by have := f2.size; show _ ≤ _; omega
  have HB2 : Hid (w2.heap[w.heap.size + 1]? = some (.cells #[.string ⟨#[]⟩, .int .i64 0, .slice none 0 0, .string ⟨#[]⟩] 38)) := hB2
  obtain ⟨b0, b1, b2, b3, bz⟩ := cell4_at hB2
  clear hw1 hB hB2 hp0 hsz cI f2 F1
  rcases hAt with ⟨rfl, hf⟩ | ⟨k, hk, rfl, hf⟩
  · have e : R = none := by rw [← HR.out]; exact hf
    subst e
    go_wp2_with fail
    have hld := loadE (store4 (y0 := .string ⟨#[]⟩) (y1 := .int .i64 0) (y2 := .slice none 0 0) (y3 := .string ⟨#[]⟩) HB2.out)
    refine bodyPost_ret (v := .tuple #[.agg #[.string ⟨#[]⟩, .int .i64 0, .slice none 0 0, .string ⟨#[]⟩], .bool false]) (by rw [results_cell_tmp rfl]; simp [asAddr, Result.andThen, hld]) rfl ?_
    exact ⟨HF2.out.trans (stores4 _ _ _ _ _) (fun i e => Or.inr (by have e' : i = w.heap.size + 1 := e; omega)), rfl⟩
  · have HE2 : Hid (R = some L[k]) := by show _ = _; rw [← HR.out]; exact hf
    obtain ⟨g, o, rfl, vl, d0, d1, d2, d3, hs1⟩ := (HE.out.kept HF2.out).get hk
    obtain ⟨z1, z2, z3, z4⟩ := HS.out _ (List.getElem_mem hk)
    obtain ⟨x, hxe⟩ : ∃ x, L[k] = x := ⟨_, rfl⟩
    rw [hxe] at d0 d1 d3 hs1 z3 HE2
    obtain ⟨P, K, l, Da⟩ := x
    simp only at d0 d1 d3 hs1 z3
    have HST : Hid (StrsAt w2 vl l) := hs1
    obtain ⟨pl, cl, rfl, _⟩ := hs1
    obtain ⟨nl, hnl⟩ : ∃ m, l.length = m := ⟨_, rfl⟩
    rw [hnl] at d2 HST
    have i2 : (k : Int) < (n : Int) := by rw [← HL.out]; omega
    have i3 : (0 : Int) ≤ (k : Int) := by omega
    have HLL : Hid (l.length ≤ 900000) := by show _ ≤ _; omega
    obtain ⟨w3, hw3⟩ : ∃ w3, w2.alloc (.cells #[.string P, .int .i64 K, .slice pl nl cl, .string Da] 38) = w3 := ⟨_, rfl⟩
    have F3 : Fr None' w2 w3 := hw3 ▸ Fr.alloc None' w2 _
    have hB3 : w3.heap[w2.heap.size]? = some (.cells #[.string P, .int .i64 K, .slice pl nl cl, .string Da] 38) := by rw [← hw3]; exact heap_alloc_new w2 _
    have hs3 : w3.heap.size = w2.heap.size + 1 := by rw [← hw3]; simp
    obtain ⟨a0, a1, a2, a3, az⟩ := cell4_at hB3
    have cC := clone_any _ l w3 (HST.out.kept F3) HLL.out
    clear hxe hnl z1 z2 z3 z4 hf
    go_wp2_with fail
    refine cC.mono ?_
    rintro e w4 ⟨v', rfl, hst, f4, hge⟩
    have HGE : Hid (∀ k, v'.ownBlock = some k → w2.heap.size + 1 ≤ k) := fun k e => by have := hge k e; omega
    clear hge
    have HST4 : Hid (StrsAt w4 v' l) := hst
    obtain ⟨pv, cv, rfl, _⟩ := hst
    obtain ⟨nl2, hnl2⟩ : ∃ m, l.length = m := ⟨_, rfl⟩
    rw [hnl2] at HST4 HGE ⊢
    replace a0 := f4.keepCell a0 (fun e => e)
    replace a1 := f4.keepCell a1 (fun e => e)
    replace a2 := f4.keepCell a2 (fun e => e)
    replace a3 := f4.keepCell a3 (fun e => e)
    have hB4 := f4.at hB3 (fun e => e)
    have az4 := (cell4_at hB4).2.2.2.2
    have HF4 : Hid (Fr None' w2 w4) := F3.then7 f4
    have hBB := HF4.out.at HB2.out (fun e => e)
    have HBB : Hid (w4.heap[w.heap.size + 1]? = some (.cells #[.string ⟨#[]⟩, .int .i64 0, .slice none 0 0, .string ⟨#[]⟩] 38)) := hBB
    obtain ⟨c0, c1, c2, c3, cz⟩ := cell4_at hBB
    have HB4 : Hid (w4.heap[w2.heap.size]? = some (.cells #[.string P, .int .i64 K, .slice pl nl cl, .string Da] 38)) := hB4
    have hne : ¬ w.heap.size + 1 = w2.heap.size := by have := HZ2.out; omega
    clear hw3 hB3 hs3 F3 f4 hB4 hBB az cC hnl2 b0 b1 b2 b3 bz d0 d1 d2 d3
    go_wp2_with fail
    have fs1 : Fr (fun k => k = w2.heap.size) w4 (w4.setCell ⟨w2.heap.size, 2, none⟩ (.slice pv nl2 cv)) := Fr.setCell (M := fun k => k = w2.heap.size) w4 (a := ⟨w2.heap.size, 2, none⟩) rfl _
    have hld := loadE (store4 (y0 := .string P) (y1 := .int .i64 K) (y2 := .slice pv nl2 cv) (y3 := .string Da) (fs1.at HBB.out hne))
    refine bodyPost_ret (v := .tuple #[.agg #[.string P, .int .i64 K, .slice pv nl2 cv, .string Da], .bool true]) (by rw [results_cell_tmp rfl]; simp [asAddr, Result.andThen, hld]) rfl ?_
    have fs2 := stores4 (b := w.heap.size + 1) (w4.setCell ⟨w2.heap.size, 2, none⟩ (.slice pv nl2 cv)) (.string P) (.int .i64 K) (.slice pv nl2 cv) (.string Da)
    have ff := ((HF2.out.then7 HF4.out).trans fs1 (fun i e => Or.inr (by have e' : i = w2.heap.size := e; have := HZ2.out; omega))).trans fs2 (fun i e => Or.inr (by have e' : i = w.heap.size + 1 := e; omega))
    refine ⟨ff, ?_⟩
    rw [HE2.out]
    refine ⟨_, rfl, (HST4.out.fr fs1 (fun k e e2 => ?_)).fr fs2 (fun k e e2 => ?_)⟩
    · have := HGE.out k e
      have e' : k = w2.heap.size := e2
      omega
    · have := HGE.out k e
      have e' : k = w.heap.size + 1 := e2
      have := HZ2.out
      omega

end Go.Proofs.YtdaogldmcbfmoaaGreatDoor

namespace Go.Proofs.YtdaogldmcbfmoaaGreatDoor
open Go.RowKit
set_option maxRecDepth 100000
attribute [local irreducible] wpQuiet

/-- A world behind w in which nothing of w has turned. -/
structure FrE (w : World) where
  to : World
  fr : Fr None' w to

instance (w : World) : Inhabited (FrE w) := ⟨⟨w, Fr.refl _ _⟩⟩

set_option maxHeartbeats 4000000 in
theorem esame_any (va vb : Option Addr) (n c d : Nat) (L : List En) (w : World) (hl : L.length = n) (ha : EntsAt w va L) (hb : EntsAt w vb L) (hn : n ≤ 100000) (hs : SmallE L) :
    Calls Tryz.prog 21 #[.slice va n c, .slice vb n d] w fun e w' => e = .returned (.bool true) ∧ Fr None' w w' := by
  have HL : Hid (L.length = n) := hl
  have HA : Hid (EntsAt w va L) := ha
  have HB : Hid (EntsAt w vb L) := hb
  have HS : Hid (SmallE L) := hs
  have i1 : (n : Int) ≤ 100000 := by omega
  clear hl ha hb hn hs
  go_enter Tryz.func21, Tryz.ntmps21
  go_wp2_with fail
  go_loopw [5] (fun vi wr => ∃ k : Nat, k ≤ n ∧ vi = .int .i64 k ∧ Hid (Fr None' w wr)) (fun vi _ => n - (intOf vi).toNat)
  case atStart => exact ⟨0, Nat.zero_le _, rfl, Fr.refl _ _⟩
  case round =>
    obtain ⟨k, hk, rfl, HF⟩ := hrel
    by_cases hlt : k < n
    · have hkL : k < L.length := by rw [HL.out]; exact hlt
      obtain ⟨g, o, rfl, vl, d0, d1, d2, d3, hs1⟩ := (HA.out.kept HF.out).get hkL
      obtain ⟨g2, o2, rfl, vl2, e0, e1, e2, e3, hs2⟩ := (HB.out.kept HF.out).get hkL
      obtain ⟨z1, z2, z3, z4⟩ := HS.out _ (List.getElem_mem hkL)
      obtain ⟨pl, cl, rfl, _, _, r1⟩ := hs1
      obtain ⟨pl2, cl2, rfl, _, _, r2⟩ := hs2
      have cS : ∀ x : FrE wr, Calls Tryz.prog 54 #[.slice pl L[k].lines.length cl, .slice pl2 L[k].lines.length cl2] x.to fun e w' => e = .returned (.bool true) ∧ ∃ y : FrE wr, w' = y.to := fun x => by
        have h := Lines.same_any pl pl2 cl cl2 L[k].lines L[k].lines x.to (r1.fr (toLN x.fr)) (r2.fr (toLN x.fr)) (by omega)
        rw [decide_eq_true rfl] at h
        exact h.mono fun _ _ h => ⟨h.1, ⟨_, x.fr.then7 (ofLN h.2)⟩, rfl⟩
      obtain ⟨x, hxe⟩ : ∃ x, L[k] = x := ⟨_, rfl⟩
      rw [hxe] at d0 d1 d2 d3 e0 e1 e2 e3 cS
      obtain ⟨P, K, l, Da⟩ := x
      simp only at d0 d1 d2 d3 e0 e1 e2 e3 cS
      obtain ⟨nl, hnl⟩ : ∃ m, l.length = m := ⟨_, rfl⟩
      rw [hnl] at d2 e2 cS
      have K0 : ∀ x : FrE wr, x.to.cell? ⟨g, o + k * 4, none⟩ = some (.string P) := fun x => x.fr.keepCell d0 (fun e => e)
      have K1 : ∀ x : FrE wr, x.to.cell? ⟨g, o + k * 4 + 1, none⟩ = some (.int .i64 K) := fun x => x.fr.keepCell d1 (fun e => e)
      have K2 : ∀ x : FrE wr, x.to.cell? ⟨g, o + k * 4 + 2, none⟩ = some (.slice pl nl cl) := fun x => x.fr.keepCell d2 (fun e => e)
      have K3 : ∀ x : FrE wr, x.to.cell? ⟨g, o + k * 4 + 3, none⟩ = some (.string Da) := fun x => x.fr.keepCell d3 (fun e => e)
      have J0 : ∀ x : FrE wr, x.to.cell? ⟨g2, o2 + k * 4, none⟩ = some (.string P) := fun x => x.fr.keepCell e0 (fun e => e)
      have J1 : ∀ x : FrE wr, x.to.cell? ⟨g2, o2 + k * 4 + 1, none⟩ = some (.int .i64 K) := fun x => x.fr.keepCell e1 (fun e => e)
      have J2 : ∀ x : FrE wr, x.to.cell? ⟨g2, o2 + k * 4 + 2, none⟩ = some (.slice pl2 nl cl2) := fun x => x.fr.keepCell e2 (fun e => e)
      have J3 : ∀ x : FrE wr, x.to.cell? ⟨g2, o2 + k * 4 + 3, none⟩ = some (.string Da) := fun x => x.fr.keepCell e3 (fun e => e)
      have i2 : (k : Int) < (n : Int) := by omega
      have i3 : (0 : Int) ≤ (k : Int) := by omega
      clear hxe hnl d0 d1 d2 d3 e0 e1 e2 e3 z1 z2 z3 z4 r1 r2
      go_wp2_with fail
      refine wp_region_quiet (C := fun w' => ∃ x : FrE wr, w' = x.to) (by kernel_rfl) (by kernel_rfl) ⟨⟨_, Fr.drew None' wr⟩, rfl⟩ ?_
      simp only
      repeat (quiet_step ((go_at_call 54; exact cS _)))
      refine wpQuiet_nil ?_
      intro w10 hw10
      obtain ⟨x, rfl⟩ := hw10
      have HX : Hid (Fr None' w x.to) := HF.out.then7 x.fr
      clear K0 K1 K2 K3 J0 J1 J2 J3 cS
      go_wp2_with fail
      exact ⟨⟨k + 1, by omega, by go_num, HX.out⟩, by simp [intOf]; omega⟩
    · go_wp2_with fail
      go_ret
      exact ⟨rfl, HF.out⟩

end Go.Proofs.YtdaogldmcbfmoaaGreatDoor

namespace Go.Proofs.YtdaogldmcbfmoaaGreatDoor
open Go.RowKit
set_option maxRecDepth 100000

/-- The cells of things, their lines' slices given. -/
def ecells : List En → List Value → List Value
  | x :: L, vl :: V => .string x.path :: .int .i64 x.kind :: vl :: .string x.data :: ecells L V
  | _, _ => []

theorem ecells_length : ∀ (L : List En) (V : List Value), V.length = L.length → (ecells L V).length = L.length * 4
  | [], _, _ => rfl
  | x :: L, [], e => by cases e
  | x :: L, vl :: V, e => by
    simp only [ecells, List.length_cons] at e ⊢
    rw [ecells_length L V (by omega)]
    omega

theorem ecells_snoc : ∀ (L : List En) (V : List Value) (x : En) (vl : Value), V.length = L.length → ecells (L ++ [x]) (V ++ [vl]) = ecells L V ++ [.string x.path, .int .i64 x.kind, vl, .string x.data]
  | [], [], x, vl, _ => rfl
  | [], _ :: _, x, vl, e => by cases e
  | y :: L, [], x, vl, e => by cases e
  | y :: L, v :: V, x, vl, e => by
    simp only [List.cons_append, ecells]
    rw [ecells_snoc L V x vl (by simpa using e)]

theorem ecells_get : ∀ (L : List En) (V : List Value) (k : Nat) (x : En) (vl : Value), L[k]? = some x → V[k]? = some vl → (ecells L V)[k * 4]? = some (.string x.path) ∧ (ecells L V)[k * 4 + 1]? = some (.int .i64 x.kind) ∧ (ecells L V)[k * 4 + 2]? = some vl ∧ (ecells L V)[k * 4 + 3]? = some (.string x.data)
  | [], _, k, x, vl, e, _ => by simp at e
  | y :: L, [], k, x, vl, _, e => by simp at e
  | y :: L, v :: V, 0, x, vl, e1, e2 => by
    simp at e1 e2
    subst e1 e2
    exact ⟨rfl, rfl, rfl, rfl⟩
  | y :: L, v :: V, k + 1, x, vl, e1, e2 => by
    have := ecells_get L V k x vl (by simpa using e1) (by simpa using e2)
    simp only [ecells]
    rw [Nat.succ_mul]
    exact this

theorem infoE : (Tryz.prog.info? 38).map (fun i => (i.zero, i.size, i.bytes)) = some (some (.agg #[.string ⟨#[]⟩, .int .i64 0, .slice none 0 0, .string ⟨#[]⟩]), 4, 64) := by kernel_rfl

/-- v is a row of the things L, in a block of its own from base on; their lines lie as they did in w0. -/
structure OwnE (base : Nat) (w0 w : World) (v : Value) (L : List En) (V : List Value) : Prop where
  len : V.length = L.length
  row : w.ownsRow base 38 4 v L.length (ecells L V)
  str : ∀ (k : Nat) (x : En) (vl : Value), L[k]? = some x → V[k]? = some vl → StrsAt w0 vl x.lines

theorem OwnE.nil (base : Nat) (w0 w : World) : OwnE base w0 w (.slice none 0 0) [] [] := ⟨rfl, World.ownsRow_nil w _ _ 4, fun k x vl e => by simp at e⟩

theorem OwnE.fr {base : Nat} {w0 w w' : World} {v : Value} {L : List En} {V : List Value} (h : OwnE base w0 w v L V) {M : Nat → Prop} (f : Fr M w w') (hm : ∀ k, v.ownBlock = some k → ¬ M k) : OwnE base w0 w' v L V := ⟨h.len, f.row h.row hm, h.str⟩

theorem OwnE.kept {base : Nat} {w0 w w' : World} {v : Value} {L : List En} {V : List Value} (h : OwnE base w0 w v L V) (f : Fr None' w w') : OwnE base w0 w' v L V := h.fr f (fun _ _ e => e)

theorem OwnE.slice {base : Nat} {w0 w : World} {v : Value} {L : List En} {V : List Value} (h : OwnE base w0 w v L V) (f : Fr None' w0 w) : ∃ va c, v = .slice va L.length c ∧ L.length ≤ c ∧ (va = none → c = 0) ∧ EntsAt w va L ∧ ∀ k, v.ownBlock = some k → base ≤ k ∧ k < w.heap.size := by
  rcases h.row.2 with ⟨hv, e⟩ | ⟨g, cap, cur, hv, hb, hh, hc, _, hs, ht⟩
  · have e2 : L = [] := List.length_eq_zero_iff.1 e
    subst e2
    exact ⟨none, 0, hv, Nat.le_refl _, fun _ => rfl, fun k x hk => by simp at hk, fun k e => by rw [hv] at e; cases e⟩
  · refine ⟨_, cap, hv, hc, fun e => by simp at e, fun k x hk => ?_, fun k e => by rw [hv] at e; cases e; exact ⟨hb, (Array.getElem?_eq_some_iff.1 hh).1⟩⟩
    have hkl := (List.getElem?_eq_some_iff.1 hk).1
    obtain ⟨vl, hp⟩ : ∃ vl, V[k]? = some vl := ⟨_, List.getElem?_eq_getElem (by rw [h.len]; exact hkl)⟩
    have hx := ecells_get L V k x vl hk hp
    have hc' : ∀ j u, j < L.length * 4 → (ecells L V)[j]? = some u → w.cell? ⟨g, j, none⟩ = some u := fun j u hj h1 => by
      rw [← ht, List.getElem?_take, if_pos hj] at h1
      rw [World.cell?, hh]
      simpa using h1
    refine ⟨g, 0, rfl, vl, ?_, ?_, ?_, ?_, (h.str k x vl hk hp).kept f⟩
    · rw [Nat.zero_add]; exact hc' _ _ (by omega) hx.1
    · rw [Nat.zero_add]; exact hc' _ _ (by omega) hx.2.1
    · rw [Nat.zero_add]; exact hc' _ _ (by omega) hx.2.2.1
    · rw [Nat.zero_add]; exact hc' _ _ (by omega) hx.2.2.2

/-- 'append(l, x)', l a row of things of the call's own. -/
theorem OwnE.append {base : Nat} {w0 w : World} {v : Value} {L : List En} {V : List Value} (h : OwnE base w0 w v L V) {b : Nat} {x : En} {vl : Value} (hb : w.heap[b]? = some (.cells #[.string x.path, .int .i64 x.kind, vl, .string x.data] 38 (0, 0))) (h1 : vl.oneCell' = true) (hs : StrsAt w0 vl x.lines) (hn : L.length ≤ 100000) (hbase : base ≤ w.heap.size) :
    ∃ g c w', (Builtin.append_ #[22, 22] 22 #[v, .slice (some ⟨b, 0, none⟩) 1 1]).run Tryz.prog w = .ok (.slice (some ⟨g, 0, none⟩) (L.length + 1) c) w' ∧ OwnE base w0 w' (.slice (some ⟨g, 0, none⟩) (L.length + 1) c) (L ++ [x]) (V ++ [vl]) ∧ Fr (fun k => v.ownBlock = some k) w w' ∧ (v.ownBlock = some g ∨ g = w.heap.size) := by
  obtain ⟨i0, hi, hz0, hz1, hz2⟩ := info_parts infoE
  obtain ⟨v', w', hr, h4, h5, _, h6⟩ := run_append_own_at (P := Tryz.prog) w base 22 22 38 i0 _ 4 64 Tryz.underlying22 hi hz0 hz1 hz2 rfl (by decide) v L.length (ecells L V) h.row ⟨b, 0, none⟩ 1 1 [.string x.path, .int .i64 x.kind, vl, .string x.data] rfl (World.news_of_block hb) (fun u hu => by
    simp at hu
    rcases hu with rfl | rfl | rfl | rfl
    · rfl
    · rfl
    · exact h1
    · rfl) (by unfold maxLen; omega) (by omega) hbase
  rcases h4.2 with ⟨_, e⟩ | ⟨g, cap, cur, hv, _⟩
  · omega
  · subst hv
    refine ⟨g, cap, w', hr, ⟨by simp [h.len], by rw [ecells_snoc L V x vl h.len, List.length_append]; exact h4, fun k y vy e1 e2 => ?_⟩, Fr.grown h5 (fun k e => e), ?_⟩
    · rcases Nat.lt_or_ge k L.length with hk | hk
      · rw [List.getElem?_append_left hk] at e1
        rw [List.getElem?_append_left (by rw [h.len]; exact hk)] at e2
        exact h.str k y vy e1 e2
      · rw [List.getElem?_append_right hk] at e1
        rw [List.getElem?_append_right (by rw [h.len]; exact hk), h.len] at e2
        have e0 : k - L.length = 0 := by
          have := (List.getElem?_eq_some_iff.1 e1).1
          simpa using this
        rw [e0] at e1 e2
        simp at e1 e2
        subst e1 e2
        exact hs
    · rcases h6 with h6 | h6
      · exact Or.inl h6.symm
      · exact Or.inr (by injection h6)

end Go.Proofs.YtdaogldmcbfmoaaGreatDoor

namespace Go.Proofs.YtdaogldmcbfmoaaGreatDoor
open Go.RowKit
set_option maxRecDepth 100000

/-- Does a thing lie in a directory (in the tree itself: no path)? -/
def isChild (d : List UInt8) (x : En) : Bool := match Path.parent (bl x.path) with
  | none => decide (d = [])
  | some p => !decide (d = []) && decide (p = d)

def children (L : List En) (d : List UInt8) : List En := L.filter (isChild d)

theorem children_step {L : List En} {k : Nat} (hk : k < L.length) (d : List UInt8) : (isChild d L[k] = true → children (L.take (k + 1)) d = children (L.take k) d ++ [L[k]]) ∧ (isChild d L[k] = false → children (L.take (k + 1)) d = children (L.take k) d) := by
  unfold children
  rw [List.take_succ_eq_append_getElem hk, List.filter_append]
  constructor
  · intro h
    simp [h]
  · intro h
    simp [h]

theorem app_list7 {ops : Array Oper} {rest : List Oper} {o : Oper} {a : Act} {w w' : World} {Q : Exit → Act → World → Prop} {t : TypeId} (hgd : o.guard = none) (s x : Operand)
    (ho : o.op = .call { callee := .builtin .append, args := #[s, x], argTypes := #[t, t] }) {vs vx v : Value} (hs : a.eval s = vs) (hx : a.eval x = vx) (hr : (Builtin.append_ #[t, t] o.type #[vs, vx]).run Tryz.prog w = .ok v w')
    (h : wpList Tryz.prog ops Q rest (a.put o.dst v) w') : wpList Tryz.prog ops Q (o :: rest) a w := by
  refine wpList_plain hgd fun K hK => ?_
  unfold Oper.wp execOp
  simp only [ho, resolve, invoke, builtin, Sem.run_bind, Sem.run_pure, Result.andThen_ok, List.map_toArray, List.map_cons, List.map_nil, hs, hx, hr]
  exact hK _ _ h

set_option maxHeartbeats 4000000 in
theorem echildren_any (va : Option Addr) (n c : Nat) (L : List En) (d : ByteArray) (w : World) (hl : L.length = n) (h : EntsAt w va L) (hn : n ≤ 100000) (hs : SmallE L) :
    Calls Tryz.prog 25 #[.slice va n c, .string d] w fun e w' => ∃ v V, e = .returned v ∧ OwnE w.heap.size w w' v (children L (bl d)) V ∧ Fr None' w w' := by
  have HL : Hid (L.length = n) := hl
  have HE : Hid (EntsAt w va L) := h
  have HS : Hid (SmallE L) := hs
  have i1 : (n : Int) ≤ 100000 := by omega
  clear hl h hn hs
  go_enter Tryz.func25, Tryz.ntmps25
  go_wp2_with fail
  go_loopw [5, 6] (fun vo vi wr => ∃ (k : Nat) (v' : Value) (V : List Value), k ≤ n ∧ vi = .int .i64 k ∧ v' = vo ∧ Hid (OwnE w.heap.size w wr v' (children (L.take k) (bl d)) V) ∧ Hid (Fr None' w wr)) (fun _ vi _ => n - (intOf vi).toNat)
  case atStart => exact ⟨0, _, [], Nat.zero_le _, rfl, rfl, OwnE.nil _ _ _, Fr.refl _ _⟩
  case round =>
    obtain ⟨k, v0, V, hk, rfl, rfl, HO, HF⟩ := hrel
    by_cases hlt : k < n
    · have hkL : k < L.length := by rw [HL.out]; exact hlt
      obtain ⟨g, o, rfl, vl, d0, d1, d2, d3, hs1⟩ := HE.out.get hkL
      obtain ⟨z1, z2, z3, z4⟩ := HS.out _ (List.getElem_mem hkL)
      have HCS : Hid ((isChild (bl d) L[k] = true → children (L.take (k + 1)) (bl d) = children (L.take k) (bl d) ++ [L[k]]) ∧ (isChild (bl d) L[k] = false → children (L.take (k + 1)) (bl d) = children (L.take k) (bl d))) := children_step hkL (bl d)
      have HLN : Hid ((children (L.take k) (bl d)).length ≤ 100000) := by
        have h1 : (children (L.take k) (bl d)).length ≤ (L.take k).length := List.length_filter_le _ _
        rw [List.length_take] at h1
        show _ ≤ _
        omega
      obtain ⟨x, hxe⟩ : ∃ x, L[k] = x := ⟨_, rfl⟩
      rw [hxe] at d0 d1 d3 hs1 z1 HCS
      obtain ⟨P, K, l, Da⟩ := x
      simp only at d0 d1 d3 hs1 z1
      have HST0 : Hid (StrsAt w vl l) := hs1
      obtain ⟨pl, cl, rfl, _⟩ := hs1
      obtain ⟨nl, hnl⟩ : ∃ m, l.length = m := ⟨_, rfl⟩
      rw [hnl] at d2 HST0
      have HST : Hid (StrsAt w (.slice pl nl cl) l) := HST0.out
      replace d0 := HF.out.keepCell d0 (fun e => e)
      replace d1 := HF.out.keepCell d1 (fun e => e)
      replace d2 := HF.out.keepCell d2 (fun e => e)
      replace d3 := HF.out.keepCell d3 (fun e => e)
      have i2 : (k : Int) < (n : Int) := by omega
      have i3 : (0 : Int) ≤ (k : Int) := by omega
      have cP := Path.rparent_any P wr (by omega)
      unfold Path.parentS at cP
      clear hxe hnl z1 z2 z3 z4 HST0
      by_cases hd : d.size = 0
      · have hde := empty_of hd
        subst hde
        cases hpa : Path.parent (bl P) with
        | none =>
          have hpa' : Path.parent P.data.toList = none := hpa
          rw [hpa'] at cP
          have hch : isChild (bl ⟨#[]⟩) ⟨P, K, l, Da⟩ = true := by unfold isChild; simp only [hpa]; rfl
          have HC : Hid (children (L.take (k + 1)) (bl ⟨#[]⟩) = children (L.take k) (bl ⟨#[]⟩) ++ [⟨P, K, l, Da⟩]) := HCS.out.1 hch
          obtain ⟨va1, ca1, hv1, hle1, hno1, _, hlt1⟩ := HO.out.slice HF.out
          obtain ⟨m, hm⟩ : ∃ m, (children (L.take k) (bl ⟨#[]⟩)).length = m := ⟨_, rfl⟩
          rw [hm] at hv1
          subst hv1
          obtain ⟨g3, c3, w3, hr3, O3, f3, _⟩ := (HO.out.kept (Fr.alloc None' wr (.cells #[.string P, .int .i64 K, .slice pl nl cl, .string Da] 38))).append (b := wr.heap.size) (x := ⟨P, K, l, Da⟩) (vl := .slice pl nl cl) (heap_alloc_new wr _) rfl HST.out (by have := HLN.out; rw [hm]; omega) (by have := HF.out.size; simp; omega)
          rw [hm] at hr3 O3
          have HF3 : Hid (Fr None' w w3) := (HF.out.then7 (Fr.alloc None' wr _)).trans f3 (fun i e => Or.inr (hlt1 i e).1)
          have HO3 : Hid (OwnE w.heap.size w w3 (.slice (some ⟨g3, 0, none⟩) (m + 1) c3) (children (L.take (k + 1)) (bl ⟨#[]⟩)) (V ++ [.slice pl nl cl])) := by rw [HC.out]; exact O3
          have HR3 : Hid ((Builtin.append_ #[22, 22] 22 #[.slice va1 m ca1, .slice (some ⟨wr.heap.size, 0, none⟩) 1 1]).run Tryz.prog (wr.alloc (.cells #[.string P, .int .i64 K, .slice pl nl cl, .string Da] 38)) = .ok (.slice (some ⟨g3, 0, none⟩) (m + 1) c3) w3) := hr3
          clear hr3 O3 f3 hm hle1 hno1 hlt1 HCS hch
          go_wp2_with fail
          refine cP.mono ?_
          rintro e w2 ⟨rfl, rfl⟩
          clear cP
          go_wp2_with (at_builtin
                       refine app_list7 rfl _ _ rfl rfl rfl HR3.out ?_)
          exact ⟨⟨k + 1, _, V ++ [Value.slice pl nl cl], by omega, by go_num, rfl, HO3.out, HF3.out⟩, by simp [intOf]; omega⟩
        | some p =>
          have hpa' : Path.parent P.data.toList = some p := hpa
          rw [hpa'] at cP
          have hch : isChild (bl ⟨#[]⟩) ⟨P, K, l, Da⟩ = false := by unfold isChild; simp only [hpa]; rfl
          have HC : Hid (children (L.take (k + 1)) (bl ⟨#[]⟩) = children (L.take k) (bl ⟨#[]⟩)) := HCS.out.2 hch
          have HO3 : Hid (OwnE w.heap.size w wr v0 (children (L.take (k + 1)) (bl ⟨#[]⟩)) V) := by rw [HC.out]; exact HO.out
          clear HCS hch
          go_wp2_with fail
          refine cP.mono ?_
          rintro e w2 ⟨rfl, rfl⟩
          clear cP
          go_wp2_with fail
          exact ⟨⟨k + 1, v0, V, by omega, by go_num, rfl, HO3.out, HF.out⟩, by simp [intOf]; omega⟩
      · have yd := isEmpty_no hd
        have hdn : ¬ bl d = [] := fun e => hd (by have h2 : d.data.toList.length = d.size := by cases d; rfl
                                                  rw [← h2]; exact congrArg List.length e)
        cases hpa : Path.parent (bl P) with
        | none =>
          have hpa' : Path.parent P.data.toList = none := hpa
          rw [hpa'] at cP
          have hch : isChild (bl d) ⟨P, K, l, Da⟩ = false := by unfold isChild; simp only [hpa]; exact decide_eq_false hdn
          have HC : Hid (children (L.take (k + 1)) (bl d) = children (L.take k) (bl d)) := HCS.out.2 hch
          have HO3 : Hid (OwnE w.heap.size w wr v0 (children (L.take (k + 1)) (bl d)) V) := by rw [HC.out]; exact HO.out
          clear HCS hch
          go_wp2_with fail
          refine cP.mono ?_
          rintro e w2 ⟨rfl, rfl⟩
          clear cP
          go_wp2_with fail
          exact ⟨⟨k + 1, v0, V, by omega, by go_num, rfl, HO3.out, HF.out⟩, by simp [intOf]; omega⟩
        | some p =>
          have hpa' : Path.parent P.data.toList = some p := hpa
          rw [hpa'] at cP
          obtain ⟨q, hq⟩ : ∃ q : ByteArray, (⟨p.toArray⟩ : ByteArray) = q := ⟨_, rfl⟩
          simp only [Option.getD_some, Option.isSome_some, hq] at cP
          by_cases hpd : q = d
          · have hch : isChild (bl d) ⟨P, K, l, Da⟩ = true := by unfold isChild; simp only [hpa]; rw [decide_eq_false hdn, ← hpd, ← hq]; exact decide_eq_true rfl
            subst hpd
            clear hq
            have HC : Hid (children (L.take (k + 1)) (bl q) = children (L.take k) (bl q) ++ [⟨P, K, l, Da⟩]) := HCS.out.1 hch
            obtain ⟨va1, ca1, hv1, hle1, hno1, _, hlt1⟩ := HO.out.slice HF.out
            obtain ⟨m, hm⟩ : ∃ m, (children (L.take k) (bl q)).length = m := ⟨_, rfl⟩
            rw [hm] at hv1
            subst hv1
            obtain ⟨g3, c3, w3, hr3, O3, f3, _⟩ := (HO.out.kept (Fr.alloc None' wr (.cells #[.string P, .int .i64 K, .slice pl nl cl, .string Da] 38))).append (b := wr.heap.size) (x := ⟨P, K, l, Da⟩) (vl := .slice pl nl cl) (heap_alloc_new wr _) rfl HST.out (by have := HLN.out; rw [hm]; omega) (by have := HF.out.size; simp; omega)
            rw [hm] at hr3 O3
            have HF3 : Hid (Fr None' w w3) := (HF.out.then7 (Fr.alloc None' wr _)).trans f3 (fun i e => Or.inr (hlt1 i e).1)
            have HO3 : Hid (OwnE w.heap.size w w3 (.slice (some ⟨g3, 0, none⟩) (m + 1) c3) (children (L.take (k + 1)) (bl q)) (V ++ [.slice pl nl cl])) := by rw [HC.out]; exact O3
            have HR3 : Hid ((Builtin.append_ #[22, 22] 22 #[.slice va1 m ca1, .slice (some ⟨wr.heap.size, 0, none⟩) 1 1]).run Tryz.prog (wr.alloc (.cells #[.string P, .int .i64 K, .slice pl nl cl, .string Da] 38)) = .ok (.slice (some ⟨g3, 0, none⟩) (m + 1) c3) w3) := hr3
            clear hr3 O3 f3 hm hle1 hno1 hlt1 HCS hch
            go_wp2_with fail
            refine cP.mono ?_
            rintro e w2 ⟨rfl, rfl⟩
            clear cP
            go_wp2_with (at_builtin
                         refine app_list7 rfl _ _ rfl rfl rfl HR3.out ?_)
            exact ⟨⟨k + 1, _, V ++ [Value.slice pl nl cl], by omega, by go_num, rfl, HO3.out, HF3.out⟩, by simp [intOf]; omega⟩
          · have hch : isChild (bl d) ⟨P, K, l, Da⟩ = false := by
              unfold isChild
              simp only [hpa]
              rw [decide_eq_false hdn, decide_eq_false (fun e => hpd (bl_inj (by rw [← e, ← hq]; rfl)))]
              rfl
            obtain ⟨s1, s2⟩ := str_no7 hpd
            clear hq hpd
            have HC : Hid (children (L.take (k + 1)) (bl d) = children (L.take k) (bl d)) := HCS.out.2 hch
            have HO3 : Hid (OwnE w.heap.size w wr v0 (children (L.take (k + 1)) (bl d)) V) := by rw [HC.out]; exact HO.out
            clear HCS hch
            go_wp2_with fail
            refine cP.mono ?_
            rintro e w2 ⟨rfl, rfl⟩
            clear cP
            go_wp2_with fail
            exact ⟨⟨k + 1, v0, V, by omega, by go_num, rfl, HO3.out, HF.out⟩, by simp [intOf]; omega⟩
    · have e : k = n := by omega
      subst e
      have HO2 : Hid (OwnE w.heap.size w wr v0 (children L (bl d)) V) := by
        have h := HO.out
        rw [List.take_of_length_le (by rw [HL.out]; exact Nat.le_refl _)] at h
        exact h
      go_wp2_with fail
      go_ret
      exact ⟨_, V, rfl, HO2.out, HF.out⟩

end Go.Proofs.YtdaogldmcbfmoaaGreatDoor

namespace Go.Proofs.YtdaogldmcbfmoaaGreatDoor
open Go.RowKit Go.Maps Go.WideMaps
set_option maxRecDepth 100000

/-- Under which path a thing lies; nothing is the tree's own. -/
def keyOfE (x : En) : List UInt8 := (Path.parent (bl x.path)).getD []

def byKey (L : List En) (p : List UInt8) : List En := L.filter (fun x => decide (keyOfE x = p))

theorem byKey_step {L : List En} {k : Nat} (hk : k < L.length) (p : List UInt8) : byKey (L.take (k + 1)) p = if keyOfE L[k] = p then byKey (L.take k) p ++ [L[k]] else byKey (L.take k) p := by
  unfold byKey
  rw [List.take_succ_eq_append_getElem hk, List.filter_append]
  by_cases h : keyOfE L[k] = p
  · rw [if_pos h]; simp [h]
  · rw [if_neg h]; simp [h]

/-- The map of block b has, under each path p, the row f p of the things that lie there. -/
structure GP (base : Nat) (w0 w : World) (b m : Nat) (L : List En) (f : List UInt8 → Value) (V : List UInt8 → List Value) : Prop where
  map : ∃ D, w.ownsMap Tryz.prog 9 heldR b m D ∧ IsMap D ∧ ∀ p, D.atKey (.string p) (.held (.slice none 0 0)) = .held (f p)
  own : ∀ p, OwnE base w0 w (f p) (byKey L p) (V p)
  apart : ∀ p q k, p ≠ q → (f p).ownBlock = some k → ¬ (f q).ownBlock = some k

theorem row_cells {base n s : Nat} {w : World} {e : TypeId} {v : Value} {xs : List Value} (h : w.ownsRow base e s v n xs) {k : Nat} (hk : v.ownBlock = some k) : ∃ c, w.heap[k]? = some (.cells c e (0, 0)) := by
  rcases h.2 with ⟨hv, _⟩ | ⟨g, cap, cur, hv, hb, hh, _⟩
  · rw [hv] at hk; cases hk
  · rw [hv] at hk; cases hk; exact ⟨_, hh⟩

theorem map_not_row {base n s m b : Nat} {w : World} {e : TypeId} {v : Value} {xs : List Value} {D : DataW Value} (h : w.ownsRow base e s v n xs) (hm : w.ownsMap Tryz.prog 9 heldR b m D) : ¬ v.ownBlock = some b := fun hk => by
  obtain ⟨c, hc⟩ := row_cells h hk
  obtain ⟨es, cl, hb, _⟩ := hm
  rw [hb] at hc
  cases hc

theorem GP.kept {base : Nat} {w0 w w' : World} {b m : Nat} {L : List En} {f : List UInt8 → Value} {V : List UInt8 → List Value} (h : GP base w0 w b m L f V) (F : Fr None' w w') : GP base w0 w' b m L f V := by
  obtain ⟨D, h1, h2, h3⟩ := h.map
  exact ⟨⟨D, F.map h1 (fun e => e), h2, h3⟩, fun p => (h.own p).kept F, h.apart⟩

theorem GP.start (base : Nat) (w0 w : World) (L : List En) : GP base w0 (w.alloc (.map #[] 0)) w.heap.size 0 (L.take 0) (fun _ => .slice none 0 0) (fun _ => []) :=
  ⟨⟨.map [], World.ownsMap_made _ _ _ _, ⟨_, rfl⟩, fun p => rfl⟩, fun p => by simpa [byKey] using OwnE.nil base w0 _, fun p q k _ e => by cases e⟩

theorem zeroES (w : World) : (zeroValue 22).run Tryz.prog w = .ok (.slice none 0 0) w := by kernel_rfl

/-- What is asked of the map. -/
theorem GP.look {base : Nat} {w0 w : World} {b m : Nat} {L : List En} {f : List UInt8 → Value} {V : List UInt8 → List Value} (h : GP base w0 w b m L f V) (s : ByteArray) (hs : s.size ≤ maxLen) : (Instr.lookup 102 (.map (some b)) (.string s) false).run Tryz.prog w = .ok (f (bl s)) w := by
  obtain ⟨D, h1, h2, h3⟩ := h.map
  obtain ⟨v, ps, hrun, hv⟩ := h1.lookup lawS Tryz.underlying102 (zeroES _) (zd := .held (.slice none 0 0)) (zp := []) rfl (keyS s hs)
  rw [h3] at hv
  have e := heldR_eq hv
  injection e with e
  rw [hrun, e]

/-- A thing more. -/
theorem GP.put {base : Nat} {w0 w : World} {b m : Nat} {L : List En} {f : List UInt8 → Value} {V : List UInt8 → List Value} {k : Nat} (h : GP base w0 w b m (L.take k) f V) (hk : k < L.length) (F0 : Fr None' w0 w) (hbase : base ≤ w.heap.size) (hb : base ≤ b) (hn : ∀ p, (byKey (L.take k) p).length ≤ 100000) {x : En} (hx : L[k] = x) {vl : Value} (h1 : vl.oneCell' = true) (hs : StrsAt w0 vl x.lines) (s : ByteArray) (hks : bl s = keyOfE x) :
    ∃ g c w3 D, (Builtin.append_ #[22, 22] 22 #[f (bl s), .slice (some ⟨w.heap.size, 0, none⟩) 1 1]).run Tryz.prog (w.alloc (.cells #[.string x.path, .int .i64 x.kind, vl, .string x.data] 38)) = .ok (.slice (some ⟨g, 0, none⟩) ((byKey (L.take k) (bl s)).length + 1) c) w3 ∧ w3.ownsMap Tryz.prog 9 heldR b m D ∧
      ∀ w4, w4.ownsMap Tryz.prog 9 heldR b (m + 1) (D.put (.string (bl s)) (.held (.slice (some ⟨g, 0, none⟩) ((byKey (L.take k) (bl s)).length + 1) c))) → w3.mapTurned w4 b → (∃ f' V', GP base w0 w4 b (m + 1) (L.take (k + 1)) f' V') ∧ Fr (fun i => base ≤ i) w w4 := by
  obtain ⟨D, m1, m2, m3⟩ := h.map
  have hlt : ∀ q i, (f q).ownBlock = some i → base ≤ i ∧ i < w.heap.size := fun q => by
    obtain ⟨_, _, _, _, _, _, h7⟩ := (h.own q).slice F0
    exact h7
  have FA : Fr None' w (w.alloc (.cells #[.string x.path, .int .i64 x.kind, vl, .string x.data] 38)) := Fr.alloc None' w _
  obtain ⟨g, c, w3, hr, O3, f3, hg⟩ := ((h.own (bl s)).kept FA).append (b := w.heap.size) (x := x) (vl := vl) (heap_alloc_new w _) h1 hs (hn _) (by simp; omega)
  have hs1 : (w.alloc (.cells #[.string x.path, .int .i64 x.kind, vl, .string x.data] 38)).heap.size = w.heap.size + 1 := by simp
  have nb : ∀ q, ¬ (f q).ownBlock = some b := fun q => map_not_row (h.own q).row m1
  have F3 : Fr (fun i => (f (bl s)).ownBlock = some i) w w3 := (FA.mono (fun _ e => e.elim)).trans f3 (fun _ e => Or.inl e)
  have M3 : w3.ownsMap Tryz.prog 9 heldR b m D := F3.map m1 (nb _)
  refine ⟨g, c, w3, D, hr, M3, fun w4 hm4 ht => ?_⟩
  have F4 : Fr (fun i => i = b) w3 w4 := Fr.turned ht rfl
  have gl : ∀ q, ¬ q = bl s → ¬ (f q).ownBlock = some g := fun q hq e => by
    rcases hg with hg | hg
    · exact h.apart q (bl s) g hq e hg
    · have := (hlt q g e).2; omega
  have hkey : keyOfE L[k] = bl s := by rw [hx, hks]
  refine ⟨⟨fun q => if q = bl s then .slice (some ⟨g, 0, none⟩) ((byKey (L.take k) (bl s)).length + 1) c else f q, fun q => if q = bl s then V (bl s) ++ [vl] else V q, ⟨_, hm4, m2.put _ _, fun q => ?_⟩, fun q => ?_, fun q r i hqr e1 e2 => ?_⟩, ?_⟩
  · by_cases e : q = bl s
    · subst e
      rw [if_pos rfl]
      exact atKey_put_same m2 (by trivial) _ _
    · rw [if_neg e, atKey_put_other (fun e2 => e (by injection e2)), m3]
  · by_cases e : q = bl s
    · subst e
      rw [if_pos rfl, if_pos rfl, byKey_step hk, if_pos hkey, hx]
      exact O3.fr F4 (fun i e e2 => map_not_row O3.row M3 (e2 ▸ e))
    · rw [if_neg e, if_neg e, byKey_step hk, if_neg (fun e2 => e (by rw [← e2, hkey]))]
      exact ((h.own q).fr F3 (fun i e1 e2 => h.apart q (bl s) i e e1 e2)).fr F4 (fun i e1 e2 => nb q (e2 ▸ e1))
  · by_cases a1 : q = bl s
    · rw [if_pos a1] at e1
      by_cases a2 : r = bl s
      · exact hqr (a1.trans a2.symm)
      · rw [if_neg a2] at e2
        have e3 : i = g := by cases e1; rfl
        subst e3
        exact gl r a2 e2
    · rw [if_neg a1] at e1
      by_cases a2 : r = bl s
      · rw [if_pos a2] at e2
        have e3 : i = g := by cases e2; rfl
        subst e3
        exact gl q a1 e1
      · rw [if_neg a2] at e2
        exact h.apart q r i hqr e1 e2
  · exact (F3.mono (fun i e => (hlt (bl s) i e).1)).trans F4 (fun i e => Or.inl (by have e' : i = b := e; omega))

set_option maxHeartbeats 4000000 in
theorem byParent_any (va : Option Addr) (n c : Nat) (L : List En) (wA w : World) (hl : L.length = n) (h : EntsAt wA va L) (FA : Fr None' wA w) (hn : n ≤ 100000) (hs : SmallE L) :
    Calls Tryz.prog 65 #[.slice va n c] w fun e w' => ∃ b m f V, e = .returned (.map (some b)) ∧ GP w.heap.size wA w' b m L f V ∧ Fr None' w w' ∧ w.heap.size ≤ b := by
  have HL : Hid (L.length = n) := hl
  have HE : Hid (EntsAt wA va L) := h
  have HA : Hid (Fr None' wA w) := FA
  have HS : Hid (SmallE L) := hs
  have hmm := @run_makeMap Tryz.prog
  have i1 : (n : Int) ≤ 100000 := by omega
  have G0 : Hid (GP w.heap.size wA (w.alloc (.map #[] 0)) w.heap.size 0 (L.take 0) (fun _ => .slice none 0 0) (fun _ => [])) := GP.start _ _ _ _
  clear hl h hs FA
  go_enter Tryz.func65, Tryz.ntmps65
  go_wp2_with fail
  clear hmm
  go_loopw [11] (fun vi wr => ∃ (k : Nat) (f : List UInt8 → Value) (V : List UInt8 → List Value), k ≤ n ∧ vi = .int .i64 k ∧ Hid (GP w.heap.size wA wr w.heap.size k (L.take k) f V) ∧ Hid (Fr None' w wr)) (fun vi _ => n - (intOf vi).toNat)
  case atStart => exact ⟨0, _, _, Nat.zero_le _, rfl, G0.out, Fr.alloc None' w _⟩
  case round =>
    clear G0
    obtain ⟨k, f, V, hk, rfl, HG, HF⟩ := hrel
    by_cases hlt : k < n
    · have hkL : k < L.length := by rw [HL.out]; exact hlt
      obtain ⟨g, o, rfl, vl, d0, d1, d2, d3, hs1⟩ := HE.out.get hkL
      obtain ⟨z1, z2, z3, z4⟩ := HS.out _ (List.getElem_mem hkL)
      obtain ⟨x, hxe⟩ : ∃ x, L[k] = x := ⟨_, rfl⟩
      have HXE : Hid (L[k] = x) := hxe
      rw [hxe] at d0 d1 d3 hs1 z1
      obtain ⟨P, K, l, Da⟩ := x
      simp only at d0 d1 d3 hs1 z1
      have HST : Hid (StrsAt wA vl l) := hs1
      obtain ⟨pl, cl, rfl, _⟩ := hs1
      obtain ⟨nl, hnl⟩ : ∃ m, l.length = m := ⟨_, rfl⟩
      rw [hnl] at d2 HST
      replace d0 := (HA.out.then7 HF.out).keepCell d0 (fun e => e)
      replace d1 := (HA.out.then7 HF.out).keepCell d1 (fun e => e)
      replace d2 := (HA.out.then7 HF.out).keepCell d2 (fun e => e)
      replace d3 := (HA.out.then7 HF.out).keepCell d3 (fun e => e)
      have i2 : (k : Int) < (n : Int) := by omega
      have i3 : (0 : Int) ≤ (k : Int) := by omega
      obtain ⟨w1, hw1⟩ : ∃ w1, wr.alloc (.cells #[.string P, .int .i64 K, .slice pl nl cl, .string Da] 38) = w1 := ⟨_, rfl⟩
      have F1 : Fr None' wr w1 := hw1 ▸ Fr.alloc None' wr _
      obtain ⟨b0, b1, b2, b3⟩ := cell4 wr 38 (.string P) (.int .i64 K) (.slice pl nl cl) (.string Da)
      rw [hw1] at b0 b1 b2 b3
      have cP := Path.parent_any P w1 (by omega)
      unfold Path.parentS at cP
      obtain ⟨s, hse⟩ : ∃ s : ByteArray, (⟨((Path.parent P.data.toList).getD []).toArray⟩ : ByteArray) = s := ⟨_, rfl⟩
      rw [hse] at cP
      have hsk : bl s = keyOfE ⟨P, K, l, Da⟩ := by rw [← hse]; rfl
      have hss : s.size ≤ maxLen := by
        have h1 : s.size ≤ P.size := by
          rw [← hse]
          cases hp : Path.parent P.data.toList with
          | none => exact Nat.zero_le _
          | some p => exact parent_len hp
        unfold maxLen
        omega
      have G1 := HG.out.kept F1
      obtain ⟨g3, c3, w3, D, hr3, M3, hnext⟩ := G1.put hkL ((HA.out.then7 HF.out).then7 F1) (HF.out.then7 F1).size (Nat.le_refl _) (fun p => by
        have h1 : (byKey (L.take k) p).length ≤ (L.take k).length := List.length_filter_le _ _
        rw [List.length_take] at h1
        omega) hxe (vl := .slice pl nl cl) rfl HST.out s hsk
      have hlook := G1.look s hss
      obtain ⟨va1, ca1, hv1, _, _, _, _⟩ := (G1.own (bl s)).slice ((HA.out.then7 HF.out).then7 F1)
      obtain ⟨m, hm⟩ : ∃ m, (byKey (L.take k) (bl s)).length = m := ⟨_, rfl⟩
      have HM3 : Hid (w3.ownsMap Tryz.prog 9 heldR w.heap.size k D) := M3
      rw [hv1, hm] at hr3 hlook
      rw [hm] at hnext
      have HR3 : Hid ((Builtin.append_ #[22, 22] 22 #[.slice va1 m ca1, .slice (some ⟨w1.heap.size, 0, none⟩) 1 1]).run Tryz.prog (w1.alloc (.cells #[.string P, .int .i64 K, .slice pl nl cl, .string Da] 38)) = .ok (.slice (some ⟨g3, 0, none⟩) (m + 1) c3) w3) := hr3
      have HNX : Hid (∀ w4, w4.ownsMap Tryz.prog 9 heldR w.heap.size (k + 1) (D.put (.string (bl s)) (.held (.slice (some ⟨g3, 0, none⟩) (m + 1) c3))) → w3.mapTurned w4 w.heap.size → (∃ f' V', GP w.heap.size wA w4 w.heap.size (k + 1) (L.take (k + 1)) f' V') ∧ Fr None' w w4) := fun w4 a b => by
        obtain ⟨h1, h2⟩ := hnext w4 a b
        exact ⟨h1, (HF.out.then7 F1).trans h2 (fun i e => Or.inr e)⟩
      have hkS := keyS s hss
      have i9 : (k : Int) ≤ 100000 := by omega
      clear hr3 M3 hnext hv1 hm hse hsk hss G1 hxe hnl z1 z2 z3 z4 F1
      go_wp2_with fail
      refine cP.mono ?_
      rintro e w2 ⟨rfl, rfl⟩
      clear cP d0 d1 d2 d3
      go_wp2_with (first
        | (at_builtin; refine app_list7 rfl _ _ rfl rfl rfl HR3.out ?_)
        | (at_mapUpdate; refine wpList_mapUpdate_in _ rfl _ _ _ 102 rfl 9 22 lawS Tryz.underlying102 heldR w.heap.size k _ rfl HM3.out (by unfold maxLen; omega) _ _ _ rfl rfl hkS _ [] rfl ?_; intro w5 hown5 hturn5)
        | go_in)
      obtain ⟨⟨f', V', hG'⟩, hF'⟩ := HNX.out w5 hown5 hturn5
      exact ⟨⟨k + 1, f', V', by omega, by go_num, hG', hF'⟩, by simp [intOf]; omega⟩
    · have e : k = n := by omega
      subst e
      have HG2 : Hid (GP w.heap.size wA wr w.heap.size k L f V) := by
        have h := HG.out
        rw [List.take_of_length_le (by rw [HL.out]; exact Nat.le_refl _)] at h
        exact h
      go_wp2_with fail
      go_ret
      exact ⟨_, _, f, V, rfl, HG2.out, HF.out, Nat.le_refl _⟩

end Go.Proofs.YtdaogldmcbfmoaaGreatDoor

namespace Go.Proofs.YtdaogldmcbfmoaaGreatDoor
open Go.RowKit
set_option maxRecDepth 100000

theorem ofS {M : Nat → Prop} {w w' : World} (h : Sha.Fr M w w') : Fr M w w' := ⟨h.os, h.tape, h.output, h.size, h.block⟩

theorem ret_bool7 {a b : Bool} (h : a = b) : Ending.returned (.bool a) = .returned (.bool b) := by rw [h]

/-- What k things are, but for their five. -/
def body (L : List En) (k : Nat) : Nat := ((L.take k).map (fun x => x.lines.length + x.data.size + x.path.size + (x.lines.map (·.size)).sum)).sum

theorem body_step {L : List En} {k : Nat} (hk : k < L.length) : body L (k + 1) = body L k + (L[k].lines.length + L[k].data.size + L[k].path.size + (L[k].lines.map (·.size)).sum) := by
  unfold body
  rw [List.take_succ_eq_append_getElem hk, List.map_append, List.sum_append]
  simp

theorem body_weight (L : List En) : 5 * L.length + body L L.length = weight L := by
  unfold body weight
  rw [List.take_length]
  induction L with
  | nil => rfl
  | cons x L ih =>
    simp only [List.map_cons, List.sum_cons, List.length_cons] at ih ⊢
    simp only [En.weight] at ih ⊢
    omega

theorem sizes_step {l : List ByteArray} {k : Nat} (hk : k < l.length) : ((l.take (k + 1)).map (·.size)).sum = ((l.take k).map (·.size)).sum + l[k].size := by
  rw [List.take_succ_eq_append_getElem hk, List.map_append, List.sum_append]
  simp

def GreatPost (L : List En) (w : World) (e : Ending) (w' : World) : Prop := ∃ g, e = .returned (.bool g) ∧ (g = false → weight L < 4000) ∧ Fr None' w w'

set_option maxHeartbeats 4000000 in
theorem great_any (va : Option Addr) (n c : Nat) (L : List En) (w : World) (hl : L.length = n) (h : EntsAt w va L) (hn : n ≤ 140737488355328) (hx : ∀ x ∈ L, x.lines.length ≤ 140737488355328) :
    Calls Tryz.prog 7 #[.slice va n c] w fun e w' => GreatPost L w e w' := by
  have HL : Hid (L.length = n) := hl
  have HX : Hid (∀ x ∈ L, x.lines.length ≤ 140737488355328) := hx
  have i1 : (n : Int) ≤ 140737488355328 := by omega
  have HE : Hid (EntsAt w va L) := h
  clear hl hn h hx
  go_enter Tryz.func7, Tryz.ntmps7
  go_wp2_with fail
  go_loopw [3, 4] (fun vn vi wr => ∃ k N : Nat, k ≤ n ∧ vi = .int .i64 k ∧ vn = .int .i64 N ∧ (N : Int) ≤ 1125899906842624 ∧ Hid (N < 4000 → N = 5 * n + body L k) ∧ Hid (Fr None' w wr)) (fun _ vi _ => n - (intOf vi).toNat)
  case atStart => exact ⟨0, 5 * n, Nat.zero_le _, rfl, by go_num, by omega, fun _ => rfl, Fr.refl _ _⟩
  case round =>
    obtain ⟨k, N, hk, rfl, rfl, hN, HN, HF⟩ := hrel
    by_cases hlt : k < n
    · by_cases hs : N < 4000
      · have hkL : k < L.length := by rw [HL.out]; exact hlt
        obtain ⟨g, o, rfl, vl, d0, d1, d2, d3, hs1⟩ := (HE.out.kept HF.out).get hkL
        obtain ⟨pl, cl, rfl, _, _, hr⟩ := hs1
        have HB : Hid (body L (k + 1) = body L k + (L[k].lines.length + L[k].data.size + L[k].path.size + (L[k].lines.map (·.size)).sum)) := body_step hkL
        have hxl := HX.out _ (List.getElem_mem hkL)
        obtain ⟨x, hxe⟩ : ∃ x, L[k] = x := ⟨_, rfl⟩
        rw [hxe] at d0 d2 d3 hr HB hxl
        obtain ⟨P, K, l, D⟩ := x
        simp only at d0 d2 d3 hr HB hxl
        obtain ⟨nl, hnl⟩ : ∃ m, l.length = m := ⟨_, rfl⟩
        rw [hnl] at d2 HB hxl
        have HNL : Hid (l.length = nl) := hnl
        obtain ⟨sD, hsD⟩ : ∃ m, D.size = m := ⟨_, rfl⟩
        obtain ⟨sP, hsP⟩ : ∃ m, P.size = m := ⟨_, rfl⟩
        have i2 : (nl : Int) ≤ 140737488355328 := by omega
        have i3 : (0 : Int) ≤ (k : Int) := by omega
        have i4 : (k : Int) < (n : Int) := by omega
        have i5 : (N : Int) < 4000 := by omega
        obtain ⟨mD, hmD⟩ : ∃ m : Nat, min D.size 4000 = m := ⟨_, rfl⟩
        obtain ⟨mP, hmP⟩ : ∃ m : Nat, min P.size 4000 = m := ⟨_, rfl⟩
        have eD : min (D.size : Int) 4000 = (mD : Int) := by omega
        have eP : min (P.size : Int) 4000 = (mP : Int) := by omega
        have HM : Hid ((mD < 4000 → mD = D.size) ∧ (mP < 4000 → mP = P.size)) := ⟨by omega, by omega⟩
        have i6 : (mD : Int) ≤ 4000 := by omega
        have i7 : (mP : Int) ≤ 4000 := by omega
        have HRW : Hid (Lines.Row wr pl l) := hr
        have r1 : IntKind.i64.wrap ((N : Int) + (nl : Int)) = (N : Int) + (nl : Int) := by rw [IntKind.wrap_i64]; omega
        have r2 : IntKind.i64.wrap ((N : Int) + (nl : Int) + (mD : Int)) = (N : Int) + (nl : Int) + (mD : Int) := by rw [IntKind.wrap_i64]; omega
        have r3 : IntKind.i64.wrap ((N : Int) + (nl : Int) + (mD : Int) + (mP : Int)) = ((N + nl + mD + mP : Nat) : Int) := by rw [IntKind.wrap_i64]; omega
        obtain ⟨N1, hN1⟩ : ∃ N1, N + nl + mD + mP = N1 := ⟨_, rfl⟩
        rw [hN1] at r3
        have HN1 : Hid (N1 < 4000 → N1 = 5 * n + (body L k + (nl + D.size + P.size))) := fun hh => by
          have h1 := HN.out (by omega)
          have h2 := HM.out.1 (by omega)
          have h3 := HM.out.2 (by omega)
          omega
        have i8 : (N1 : Int) ≤ 281474976710656 := by omega
        clear hxe hnl hsD hsP hmD hmP hr hN1 HN hN hs
        go_wp2_with fail
        go_quiet (fail)
        go_wp2_with fail
        clear r1 r2 r3 eD eP i6 i7
        obtain ⟨wd, hwd⟩ : ∃ x, wr.drewN nq = x := ⟨_, rfl⟩
        have HW : Hid (Fr None' w wd) := by rw [← hwd]; exact HF.out.trans (Sha.Fr.drewN None' wr nq |> ofS) (fun _ e => Or.inl e)
        have fd : Fr None' wr wd := by rw [← hwd]; exact Sha.Fr.drewN None' wr nq |> ofS
        have HC : Hid (∀ w2, Fr None' wd w2 → w2.cell? ⟨g, o + k * 4 + 2, none⟩ = some (.slice pl nl cl) ∧ Lines.Row w2 pl l) := fun w2 f => ⟨(fd.trans f (fun _ e => Or.inl e)).keepCell d2 (fun e => e), HRW.out.fr (toLN (fd.trans f (fun _ e => Or.inl e)))⟩
        rw [hwd]
        clear hwd d0 d1 d2 d3 HF HRW fd
        go_loopw [3, 5] (fun vn vi w2 => ∃ q M : Nat, q ≤ nl ∧ vi = .int .i64 q ∧ vn = .int .i64 M ∧ (M : Int) ≤ 562949953421312 ∧ Hid (M < 4000 → M = 5 * n + (body L k + (nl + D.size + P.size)) + ((l.take q).map (·.size)).sum) ∧ Hid (Fr None' wd w2)) (fun _ vi _ => nl - (intOf vi).toNat)
        case atStart => exact ⟨0, N1, Nat.zero_le _, rfl, rfl, by omega, fun h => by have := HN1.out h; simpa using this, Fr.refl _ _⟩
        case round =>
          clear HN1
          obtain ⟨q, M, hq, rfl, rfl, hM, HMM, HF2⟩ := hrel
          obtain ⟨d2, hr⟩ := HC.out wr HF2.out
          by_cases hqt : q < nl
          · by_cases hs : M < 4000
            · have hql : q < l.length := by rw [HNL.out]; exact hqt
              obtain ⟨gl, ol, rfl, e1⟩ := hr.get hql
              have HZ : Hid (((l.take (q + 1)).map (·.size)).sum = ((l.take q).map (·.size)).sum + l[q].size) := sizes_step hql
              obtain ⟨s, hse⟩ : ∃ s, l[q] = s := ⟨_, rfl⟩
              rw [hse] at e1 HZ
              obtain ⟨mS, hmS⟩ : ∃ m : Nat, min s.size 4000 = m := ⟨_, rfl⟩
              have eS : min (s.size : Int) 4000 = (mS : Int) := by omega
              have HM2 : Hid (mS < 4000 → mS = s.size) := by show _ → _; omega
              have u1 : (mS : Int) ≤ 4000 := by omega
              have u2 : (M : Int) < 4000 := by omega
              have u3 : (q : Int) < (nl : Int) := by omega
              have u4 : (0 : Int) ≤ (q : Int) := by omega
              clear hse hmS hr hs hM
              go_wp2_with fail
              refine ⟨⟨q + 1, M + mS, by omega, by go_num, by go_num, by omega, fun hh => ?_, HF2.out⟩, by simp [intOf]; omega⟩
              have h1 := HMM.out (by omega)
              have h2 := HM2.out (by omega)
              rw [HZ.out]
              omega
            · have u2 : ¬ (M : Int) < 4000 := by omega
              have u3 : (q : Int) < (nl : Int) := by omega
              have HM4 : Hid (¬ M < 4000) := hs
              have HFW : Hid (Fr None' w wr) := HW.out.trans HF2.out (fun _ e => Or.inl e)
              clear hr hs
              go_wp2_with fail
              exact ⟨⟨k + 1, M, by omega, by go_num, rfl, by omega, fun h => absurd h HM4.out, HFW.out⟩, by simp [intOf]; omega⟩
          · have e : q = nl := by omega
            subst e
            have HFW : Hid (Fr None' w wr) := HW.out.trans HF2.out (fun _ e => Or.inl e)
            have HQ : Hid (M < 4000 → M = 5 * n + body L (k + 1)) := fun h => by
              have h1 := HMM.out h
              rw [List.take_of_length_le (by rw [HNL.out]; exact Nat.le_refl _)] at h1
              rw [HB.out]
              omega
            clear hr hqt
            go_wp2_with fail
            exact ⟨⟨k + 1, M, by omega, by go_num, rfl, by omega, HQ.out, HFW.out⟩, by simp [intOf]; omega⟩
      · have u2 : ¬ (N : Int) < 4000 := by omega
        have u3 : (4000 : Int) ≤ (N : Int) := by omega
        clear hs
        go_wp2_with fail
        go_ret
        exact ⟨true, rfl, fun h => (by cases h), HF.out⟩
    · have e : k = n := by omega
      subst e
      by_cases hs : N < 4000
      · have HQ : Hid (weight L < 4000) := by
          have h1 := HN.out hs
          have h2 := body_weight L
          rw [HL.out] at h2
          show _ < _
          omega
        have u3 : (N : Int) < 4000 := by omega
        clear hs hN
        go_wp2_with fail
        go_ret
        exact ⟨false, by first | rfl | exact ret_bool7 (by simp; omega), fun _ => HQ.out, HF.out⟩
      · have u3 : (4000 : Int) ≤ (N : Int) := by omega
        clear hs hN
        go_wp2_with fail
        go_ret
        exact ⟨true, by first | rfl | exact ret_bool7 (by simp; omega), fun h => (by cases h), HF.out⟩

end Go.Proofs.YtdaogldmcbfmoaaGreatDoor
