/-
  What is proved here: the contracts that the statement stands on: ZSorted14, ZHeads14, ZRange14, ZAbove14, ZTell14, ZTellW14, ZReach14. Conditions: as each theorem names them.
-/
import Derived.Test.YtbiilnhefoplkaaGreatDoorMZOwnA14
import Derived.Test.YtbiilnhefoplkaaGreatDoorM6ZStrs9
namespace Go.Proofs.YtbiilnhefoplkaaGreatDoor
open Go.RowKit Go.Maps Go.WideMaps
set_option maxRecDepth 100000

theorem setGo_mem : ∀ {Z : List Pv} {T0 T : List (Kv Pv)}, setGo T0 Z = some T → ∀ t ∈ T, t ∈ T0 ∨ (t.2 ∈ Z ∧ t.1 = unB t.2.x.name)
  | [], T0, T, h, t, ht => by
    rw [setGo] at h
    cases h
    exact .inl ht
  | c :: Z, T0, T, h, t, ht => by
    rw [setGo] at h
    split at h
    · cases h
    · rcases setGo_mem h t ht with h1 | ⟨h1, h2⟩
      · rcases mem_putM.1 h1 with rfl | ⟨h1, _⟩
        · exact .inr ⟨List.mem_cons_self .., rfl⟩
        · exact .inl h1
      · exact .inr ⟨List.mem_cons_of_mem _ h1, h2⟩

theorem setV_mem {Z : List Pv} {T : List (Kv Pv)} (h : setV Z = some T) : ∀ t ∈ T, t.2 ∈ Z ∧ t.1 = unB t.2.x.name := fun t ht => by
  unfold setV at h
  split at h
  · rcases setGo_mem h t ht with h1 | h1
    · cases h1
    · exact h1
  · cases h

theorem setGo_len : ∀ {Z : List Pv} {T0 T : List (Kv Pv)}, setGo T0 Z = some T → T.length = T0.length + Z.length
  | [], T0, T, h => by rw [setGo] at h; cases h; rfl
  | c :: Z, T0, T, h => by
    rw [setGo] at h
    split at h
    · cases h
    · rename_i hn
      have hg : getM T0 (unB c.x.name) = none := by
        cases e : getM T0 (unB c.x.name) with
        | none => rfl
        | some d => exact absurd (.inl (by rw [e]; rfl)) hn
      rw [setGo_len h, len_put _ hg, List.length_cons]
      omega

theorem setV_len {Z : List Pv} {T : List (Kv Pv)} (h : setV Z = some T) : T.length ≤ 256 := by
  unfold setV at h
  split at h
  · rename_i hz
    rw [setGo_len h]
    simpa using hz
  · cases h

/-- What Sorted hands back. -/
def SortedPost (w : World) (R : Option (List (Kv Pv))) (e : Ending) (w' : World) : Prop :=
  (∀ T, R = some T → ∃ va ca Z', e = .returned (.tuple #[.slice va T.length ca, .int .i64 0]) ∧ (va = none → ca = 0) ∧ Z'.map (·.x) = T.map (·.2.x) ∧ RowV w' va Z') ∧ (R = none → e = .returned (.tuple #[.slice none 0 0, .int .i64 1])) ∧ Fr None' w w'

set_option maxHeartbeats 8000000 in
theorem sorted14_any (va : Option Addr) (n c : Nat) (Z : List Pv) (w : World) (hn : Z.length = n) (hr : RowV w va Z) (hN : n ≤ 1000000) (hs : ∀ d ∈ Z, SmallPa d.x) (hz : ∀ d ∈ Z, d.x.deps.length ≤ 900000 ∧ d.x.body.length ≤ 90000) :
    Calls Tryz.prog 9 #[.slice va n c] w fun e w' => SortedPost w (setV Z) e w' := by
  have q1 := setOf_any va n c Z w hn hr (Nat.le_trans hN (by decide)) (fun d hd => (hs d hd).big)
  obtain ⟨R, hR⟩ : ∃ R, setV Z = R := ⟨_, rfl⟩
  have HR := toHid8 hR
  have HRow := toHid8 hr
  have HS := toHid8 hs
  have HZ := toHid8 hz
  rw [hR] at q1 ⊢
  clear hr hs hz hR
  go_enter Tryz.func9, Tryz.ntmps9
  go_wp2_with fail
  with_reducible refine q1.mono ?_
  rintro e w1 ⟨hT, hNo, f1⟩
  have HF1 := toHid8 f1
  clear q1 f1
  cases R with
  | none =>
    obtain rfl := hNo rfl
    clear hT hNo
    go_wp2_with fail
    go_ret2
    exact ⟨fun T e => (by cases e), fun _ => rfl, HF1.out⟩
  | some T =>
    obtain ⟨b, nn, rfl, hb, hnn, hm⟩ := hT T rfl
    have HM := toHid8 hm
    have HRise := toHid8 hm.rise
    have HLen := toHid8 (setV_len HR.out)
    have HMem := toHid8 (setV_mem HR.out)
    have q2 := risingP_any mkV b nn T w1 hm (Nat.le_trans HLen.out (by decide))
    clear hT hNo hm hb hnn
    go_wp2_with fail
    with_reducible refine q2.mono ?_
    rintro e w2 ⟨v2, rfl, hst, f2⟩
    have HSt := toHid8 hst
    obtain ⟨pk, ck, rfl, -, -, hkr⟩ := hst
    have HKr := toHid8 hkr
    have HF2 := toHid8 f2
    obtain ⟨m, hm⟩ : ∃ m, T.length = m := ⟨_, rfl⟩
    have HMl := toHid8 hm
    rw [List.length_map, List.length_map, hm]
    have i0 : (m : Int) ≤ 256 := by have := HLen.out; omega
    clear q2 hkr f2 hm
    go_wp2_with fail
    go_loopw [6, 19] (fun vo vi wr => ∃ (k : Nat) (Y : List Pv), k ≤ m ∧ vi = .int .i64 k ∧ Hid (OwnA w2.heap.size wr vo Y) ∧ Hid (Y.map (·.x) = (T.take k).map (·.2.x)) ∧ Hid (Fr None' w2 wr)) (fun _ vi _ => m - (intOf vi).toNat)
    case atStart => exact ⟨0, [], Nat.zero_le _, rfl, OwnA.nil _ _, rfl, Fr.refl _ _⟩
    case round =>
      obtain ⟨k, Y, hk, rfl, HO, HY, HF⟩ := hrel
      have hyl : Y.length = k := by
        have h := congrArg List.length HY.out
        rw [List.length_map, List.length_map, List.length_take, HMl.out] at h
        omega
      have HYl := toHid8 hyl
      by_cases hlt : k < m
      case neg =>
        have hkm : k = m := by omega
        have i3 : ¬ (k : Int) < (m : Int) := by omega
        have HRows := toHid8 HO.out.rows
        obtain ⟨va', ca', rfl, hnil, hrw⟩ := HO.out.rows
        have HRw := toHid8 hrw
        have HNil := toHid8 hnil
        rw [hyl]
        have HKm := toHid8 hkm
        clear hlt hkm hrw hnil hyl HRows
        go_wp2_with fail
        go_ret2
        refine ⟨fun T' e => ?_, fun e => (by cases e), (HF1.out.then7 HF2.out).then7 HF.out⟩
        cases e
        exact ⟨va', ca', Y, by rw [HMl.out, HKm.out]; rfl, HNil.out, by rw [HY.out, List.take_of_length_le (by rw [HMl.out, HKm.out]; exact Nat.le_refl _)], HRw.out⟩
      case pos =>
        have hkT : k < T.length := by rw [HMl.out]; exact hlt
        obtain ⟨t, ht⟩ : ∃ t, T[k]? = some t := ⟨T[k], List.getElem?_eq_getElem hkT⟩
        have htm := List.mem_of_getElem? ht
        obtain ⟨htz, htk⟩ := HMem.out t htm
        have HTk := toHid8 (show (T.take (k + 1)).map (·.2.x) = (T.take k).map (·.2.x) ++ [t.2.x] by
          rw [List.take_succ_eq_append_getElem hkT, List.map_append]
          rw [List.getElem?_eq_getElem hkT] at ht
          cases ht
          rfl)
        obtain ⟨g, o, rfl, hc⟩ := HKr.out k (mkB t.1) (by rw [List.getElem?_map, List.getElem?_map, ht]; rfl)
        have hcell := HF.out.keepCell hc (fun e => e)
        have hmr := HM.out.kept (HF2.out.then7 HF.out)
        have hlook := hmr.look Tryz.underlying44 (zeroPa _) (mkB t.1) (by
          rw [htk, mk_un]
          exact Nat.le_trans (HS.out _ htz).name (by decide))
        rw [un_mk, HRise.out.get htm] at hlook
        simp only [Option.getD_some, mkV] at hlook
        obtain ⟨zi, hzi⟩ := List.getElem?_of_mem htz
        obtain ⟨_, _, -, -, -, -, hin⟩ := HRow.out.kept ((HF1.out.then7 HF2.out).then7 HF.out) zi _ hzi
        have q3 := copied14_any t.2.x t.2.pu t.2.cu t.2.pb t.2.cb _ hin (HZ.out _ htz).1 (HZ.out _ htz).2 (fun y hy => by
          have h := (HS.out _ htz).body.2 y hy
          exact ⟨Nat.le_of_lt h.old, Nat.le_of_lt h.new⟩)
        have i3 : (k : Int) < (m : Int) := by omega
        have i4 : (0 : Int) ≤ (k : Int) := by omega
        have HLt := toHid8 hlt
        generalize mkB t.1 = kb at hlook hcell
        clear hc hmr hin htk htm htz ht hkT hzi hlt hyl
        go_wp2_with fail
        with_reducible refine q3.mono ?_
        rintro e w4 ⟨d, rfl, hd, hnv, f4⟩
        have hO4 := HO.out.fr f4
        obtain ⟨w5, hw5⟩ : ∃ y, w4.alloc (.cells #[.string d.x.name, .slice d.pu d.x.deps.length d.cu, .slice d.pb d.x.body.length d.cb] 36) = y := ⟨_, rfl⟩
        have F5 : Fr None' w4 w5 := hw5 ▸ Fr.alloc None' w4 _
        have B5 : Box3 w5 w4.heap.size (.string d.x.name) (.slice d.pu d.x.deps.length d.cu) (.slice d.pb d.x.body.length d.cb) := hw5 ▸ Box3.new w4 _ _ _
        obtain ⟨v6, w6, hr6, hO6, f6⟩ := (hO4.fr F5).push B5 (fun w' f => hnv.2 _ w' ((F5.mono (M' := fun k => _) (fun _ e => e.elim)).then f) (fun j e => (HO.out.own e).2)) (by rw [HYl.out]; omega) (by have := HF.out.size; have := f4.size; have := F5.size; omega)
        have HO6 := toHid8 hO6
        have HY6 := toHid8 (show (Y ++ [d]).map (·.x) = (T.take (k + 1)).map (·.2.x) by rw [HTk.out, List.map_append, HY.out, List.map_cons, List.map_nil, hd])
        have HF6 := toHid8 (show Fr None' w2 w6 from ((HF.out.then7 f4).then7 F5).trans f6 (fun i e => Or.inr (HO.out.own e).1))
        clear q3 hd hnv f4 hO4 F5 B5 hO6 f6 hlook hcell
        unfold mkV
        go_wp2_with (at_builtin
                     refine app_list9 rfl _ _ rfl rfl rfl hr6 ?_)
        exact ⟨⟨k + 1, Y ++ [d], by have := HLt.out; omega, by go_num, HO6.out, HY6.out, HF6.out⟩, by simp [intOf]; have := HLt.out; omega⟩

end Go.Proofs.YtbiilnhefoplkaaGreatDoor

namespace Go.Proofs.YtbiilnhefoplkaaGreatDoor
open Go.RowKit Go.Maps Go.WideMaps
set_option maxRecDepth 100000

theorem MAt.fr {β : Type} {mk : β → Value} {M : Nat → Prop} {w w' : World} {b n : Nat} {T : List (Kv β)} (h : MAt mk w b n T) (f : Fr M w w') (hm : ¬ M b) : MAt mk w' b n T := f.map h hm

theorem MAt.del {β : Type} {mk : β → Value} {w' : World} {b n : Nat} {T : List (Kv β)} {k : B13} (hown : w'.ownsMap Tryz.prog 9 (heldM mk) b n ((toM mk T).del (.string k))) : MAt mk w' b n (delM T k) := by
  unfold MAt
  rw [← toM_del]
  exact hown

theorem MAt.lt {β : Type} {mk : β → Value} {w : World} {b n : Nat} {T : List (Kv β)} (h : MAt mk w b n T) : b < w.heap.size := World.ownsMap.lt h

/-- A map without some keys. -/
def delAll {β : Type} (T : List (Kv β)) (D : List ByteArray) : List (Kv β) := D.foldl (fun T d => delM T (unB d)) T

theorem delAll_snoc {β : Type} (T : List (Kv β)) {D : List ByteArray} {k : Nat} (h : k < D.length) : delAll T (D.take (k + 1)) = delM (delAll T (D.take k)) (unB D[k]) := by
  unfold delAll
  rw [List.take_succ_eq_append_getElem h, List.foldl_append]
  rfl

theorem delAll_app {β : Type} (T : List (Kv β)) (D E : List ByteArray) : delAll T (D ++ E) = delAll (delAll T D) E := by
  unfold delAll
  rw [List.foldl_append]

/-- All that the patches stand on. -/
def depsV (Z : List Pv) : List ByteArray := Z.flatMap (·.x.deps)

theorem depsV_snoc {Z : List Pv} {k : Nat} (h : k < Z.length) : depsV (Z.take (k + 1)) = depsV (Z.take k) ++ Z[k].x.deps := by
  unfold depsV
  rw [List.take_succ_eq_append_getElem h, List.flatMap_append]
  simp

theorem delAll_len {β : Type} : ∀ (D : List ByteArray) (T : List (Kv β)), (delAll T D).length ≤ T.length
  | [], T => Nat.le_refl _
  | d :: D, T => by
    have h := delAll_len D (delM T (unB d))
    have h2 : (delM T (unB d)).length ≤ T.length := List.length_filter_le _ _
    exact Nat.le_trans h h2

/-- What Heads hands back. -/
def NamesPost (w : World) (R : Option (List B13)) (err : Int) (e : Ending) (w' : World) : Prop :=
  (∀ K, R = some K → ∃ v, e = .returned (.tuple #[v, .int .i64 0]) ∧ StrsAt w' v (K.map mkB)) ∧ (R = none → e = .returned (.tuple #[.slice none 0 0, .int .i64 err])) ∧ Fr None' w w'

def headsV (Z : List Pv) : Option (List B13) := (setV Z).map (fun T => (delAll T (depsV Z)).map (·.1))

set_option maxHeartbeats 8000000 in
theorem heads14_any (va : Option Addr) (n c : Nat) (Z : List Pv) (w : World) (hn : Z.length = n) (hr : RowV w va Z) (hN : n ≤ 1000000) (hs : ∀ d ∈ Z, SmallPa d.x) :
    Calls Tryz.prog 19 #[.slice va n c] w fun e w' => NamesPost w (headsV Z) 1 e w' := by
  have q1 := setOf_any va n c Z w hn hr (Nat.le_trans hN (by decide)) (fun d hd => (hs d hd).big)
  obtain ⟨R, hR⟩ : ∃ R, setV Z = R := ⟨_, rfl⟩
  have HR := toHid8 hR
  have HRow := toHid8 hr
  have HS := toHid8 hs
  have HL := toHid8 hn
  have i0 : (n : Int) ≤ 1000000 := by omega
  have hH : headsV Z = R.map (fun T => (delAll T (depsV Z)).map (·.1)) := by unfold headsV; rw [hR]
  rw [hR] at q1
  rw [hH]
  clear hr hs hR hH hn
  go_enter Tryz.func19, Tryz.ntmps19
  go_wp2_with fail
  with_reducible refine q1.mono ?_
  rintro e w1 ⟨hT, hNo, f1⟩
  have HF1 := toHid8 f1
  clear q1 f1
  cases R with
  | none =>
    obtain rfl := hNo rfl
    clear hT hNo
    go_wp2_with fail
    go_ret2
    exact ⟨fun T e => (by cases e), fun _ => rfl, HF1.out⟩
  | some T =>
    obtain ⟨b, nn, rfl, hb, hnn, hm⟩ := hT T rfl
    have HM := toHid8 hm
    have HNn := toHid8 hnn
    have HBw := toHid8 hb
    have HLen := toHid8 (setV_len HR.out)
    clear hT hNo hm hb hnn
    go_wp2_with fail
    go_loopw [19] (fun vi wr => ∃ (k : Nat), k ≤ n ∧ vi = .int .i64 k ∧ Hid (MAt mkV wr b nn (delAll T (depsV (Z.take k)))) ∧ Hid (Fr (fun i => i = b) w1 wr)) (fun vi _ => n - (intOf vi).toNat)
    case atStart => exact ⟨0, Nat.zero_le _, rfl, HM.out, Fr.refl _ _⟩
    case round =>
      obtain ⟨k, hk, rfl, HK, HF⟩ := hrel
      have HFw := toHid8 (show Fr None' w wr from HF1.out.trans HF.out (fun i e => Or.inr (by have := HBw.out; omega)))
      by_cases hlt : k < n
      case neg =>
        have HE := toHid8 (show MAt mkV wr b nn (delAll T (depsV Z)) from by
          have h := HK.out
          rwa [List.take_of_length_le (by rw [HL.out]; omega)] at h)
        have q2 := risingP_any mkV b nn _ wr HE.out (Nat.le_trans (delAll_len _ _) (Nat.le_trans HLen.out (by decide)))
        have i3 : ¬ (k : Int) < (n : Int) := by omega
        clear hlt
        go_wp2_with fail
        with_reducible refine q2.mono ?_
        rintro e w3 ⟨v3, rfl, hst, f3⟩
        have hst' := hst
        have HF3 := toHid8 f3
        obtain ⟨pk, ck, rfl, -, -, -⟩ := hst
        have HSt := toHid8 (show StrsAt w3 (.slice pk (delAll T (depsV Z)).length ck) (((delAll T (depsV Z)).map (·.1)).map mkB) from by simpa only [List.length_map] using hst')
        clear q2 f3 hst'
        go_wp2_with fail
        go_ret2
        exact ⟨fun K e => (by cases e; exact ⟨_, rfl, HSt.out⟩), fun e => (by cases e), HFw.out.then7 HF3.out⟩
      case pos =>
        have hka : k < Z.length := by rw [HL.out]; exact hlt
        have HSn := toHid8 (depsV_snoc hka)
        have hsz := HS.out _ (List.getElem_mem hka)
        obtain ⟨_, _, -, -, -, -, hin⟩ := HRow.out k _ (List.getElem?_eq_getElem hka)
        obtain ⟨g, o, rfl, c0, c1, c2, -⟩ := HRow.out.kept HFw.out k _ (List.getElem?_eq_getElem hka)
        obtain ⟨d, hd⟩ : ∃ d, Z[k] = d := ⟨_, rfl⟩
        rw [hd] at HSn hsz c0 c1 c2 hin
        have i3 : (k : Int) < (n : Int) := by omega
        have i4 : (0 : Int) ≤ (k : Int) := by omega
        have HD := toHid8 hin.deps
        obtain ⟨nd, hnd⟩ : ∃ y, d.x.deps.length = y := ⟨_, rfl⟩
        have HNd := toHid8 hnd
        rw [hnd] at c1
        have HZs := toHid8 hsz
        have HLt := toHid8 hlt
        have i5 : (nd : Int) ≤ 1000000 := by have := hsz.deps.1; omega
        obtain ⟨w2, hw2⟩ : ∃ y, wr.alloc (.cells #[.string d.x.name, .slice d.pu nd d.cu, .slice d.pb d.x.body.length d.cb] 36) = y := ⟨_, rfl⟩
        have F2 : Fr None' wr w2 := hw2 ▸ Fr.alloc None' wr _
        have B2 : Box3 w2 wr.heap.size (.string d.x.name) (.slice d.pu nd d.cu) (.slice d.pb d.x.body.length d.cb) := hw2 ▸ Box3.new wr _ _ _
        obtain ⟨b0, b1, b2⟩ := B2.cells
        have HF2 := toHid8 F2
        have HM2 := toHid8 (HK.out.kept F2)
        clear hd hin hsz F2 B2 hlt hnd
        go_wp2_with fail
        clear b0 b1 b2 c0 c1 c2
        obtain ⟨wo, rfl⟩ : ∃ y, y = wr := ⟨_, rfl⟩
        go_loopw [26] (fun vj wx => ∃ (j : Nat), j ≤ nd ∧ vj = .int .i64 j ∧ Hid (MAt mkV wx b nn (delAll T (depsV (Z.take k) ++ d.x.deps.take j))) ∧ Hid (Fr (fun i => i = b) w2 wx)) (fun vj _ => nd - (intOf vj).toNat)
        case atStart => exact ⟨0, Nat.zero_le _, rfl, by rw [List.take_zero, List.append_nil]; exact HM2.out, Fr.refl _ _⟩
        case round =>
          obtain ⟨j, hj, rfl, HJ, HFj⟩ := hrel
          by_cases hjt : j < nd
          case neg =>
            have HE := toHid8 (show MAt mkV wr b nn (delAll T (depsV (Z.take (k + 1)))) from by
              have h := HJ.out
              have ht : d.x.deps.take j = d.x.deps := List.take_of_length_le (by rw [HNd.out]; omega)
              rw [ht] at h
              rw [HSn.out]
              exact h)
            have i6 : ¬ (j : Int) < (nd : Int) := by omega
            have HFn := toHid8 (show Fr (fun i => i = b) w1 wr from (HF.out.trans HF2.out (fun _ e => e.elim)).then HFj.out)
            clear hjt
            go_wp2_with fail
            exact ⟨⟨k + 1, by have := HLt.out; omega, by go_num, HE.out, HFn.out⟩, by simp [intOf]; have := HLt.out; omega⟩
          case pos =>
            have hjd : j < d.x.deps.length := by rw [HNd.out]; exact hjt
            have hsn := delAll_snoc (delAll T (depsV (Z.take k))) hjd
            rw [← delAll_app, ← delAll_app] at hsn
            have HSj := toHid8 hsn
            have hds := HZs.out.deps.2 _ (List.getElem_mem hjd)
            obtain ⟨pd, cd, e, -, -, hrow⟩ := HD.out
            obtain ⟨gd, od, hpd, hcd⟩ := hrow.get hjd
            have hlt0 := cell_lt hcd
            have fw : Fr (fun i => i = b) w wr := ((HF1.out.mono (M' := fun i => i = b) (fun _ e => e.elim)).then ((HF.out.trans HF2.out (fun _ e => e.elim)).then HFj.out))
            have hcd' := fw.keepCell hcd (fun e => by have h1 := HBw.out; have h2 : gd < w.heap.size := hlt0; omega)
            have hpu : d.pu = some ⟨gd, od, none⟩ := by cases e; exact hpd
            obtain ⟨x, hx⟩ : ∃ x, d.x.deps[j] = x := ⟨_, rfl⟩
            rw [hx] at hcd' hds HSj
            rw [hpu]
            have hkS := key14 x (Nat.le_trans hds (by decide))
            have hown := HJ.out
            have i6 : (j : Int) < (nd : Int) := by omega
            have i7 : (0 : Int) ≤ (j : Int) := by omega
            have HJt := toHid8 hjt
            clear hsn hrow e hcd hlt0 fw hpd hx hds hpu
            unfold MAt at hown
            go_wp2_with (at_delete; refine wpList_delete_own _ rfl _ _ 44 9 rfl 36 lawS Tryz.underlying44 (heldM mkV) b nn _ rfl hown _ _ rfl hkS ?_; intro w4 hown4 hturn4)
            have HN := toHid8 (show MAt mkV w4 b nn (delAll T (depsV (Z.take k) ++ d.x.deps.take (j + 1))) from by rw [HSj.out]; exact MAt.del hown4)
            have HFn := toHid8 (show Fr (fun i => i = b) w2 w4 from HFj.out.then (Fr.turned (M := fun i => i = b) hturn4 rfl))
            clear hown4 hturn4 hown
            exact ⟨⟨j + 1, by have := HJt.out; omega, by go_num, HN.out, HFn.out⟩, by simp [intOf]; have := HJt.out; omega⟩

end Go.Proofs.YtbiilnhefoplkaaGreatDoor

namespace Go.Proofs.YtbiilnhefoplkaaGreatDoor
open Go.RowKit Go.Maps Go.WideMaps
set_option maxRecDepth 100000

/-- What a range over the map has met. -/
structure Gath14 {β : Type} (T : List (Kv β)) (left : Lit → Bool) (V : List (Kv β)) : Prop where
  mem : ∀ t, t ∈ V ↔ t ∈ T ∧ left (.string t.1) = false
  nod : V.Pairwise (fun a b => a.1 ≠ b.1)

theorem Gath14.start {β : Type} {mk : β → Value} {T : List (Kv β)} (hS : RiseM T) : Gath14 T (Maps.has (toM mk T)) [] := by
  refine ⟨fun t => ⟨fun h => (by cases h), fun ⟨h1, h3⟩ => ?_⟩, List.Pairwise.nil⟩
  rw [has_toM, hS.get h1] at h3
  cases h3

theorem left14 {left : Lit → Bool} {k s : B13} : (left (.string s) && !(Lit.string s).sameKey (.string k)) = false ↔ left (.string s) = false ∨ s = k := by
  have : (Lit.string s).sameKey (.string k) = (s == k) := rfl
  rw [this]
  by_cases e : s = k <;> simp [e]

theorem Gath14.more {β : Type} {T : List (Kv β)} {left : Lit → Bool} {V : List (Kv β)} (h : Gath14 T left V) {t : Kv β} (ht : getM T t.1 = some t.2) (hS : RiseM T) (hl : left (.string t.1) = true) : Gath14 T (fun z => left z && !z.sameKey (.string t.1)) (V ++ [t]) := by
  have hm : t ∈ T := getM_mem ht
  refine ⟨fun s => ?_, ?_⟩
  · rw [List.mem_append, List.mem_singleton, h.mem]
    show _ ↔ s ∈ T ∧ (left (.string s.1) && !(Lit.string s.1).sameKey (.string t.1)) = false
    rw [left14]
    constructor
    · rintro (⟨a, c⟩ | rfl)
      · exact ⟨a, Or.inl c⟩
      · exact ⟨hm, Or.inr rfl⟩
    · rintro ⟨a, c | c⟩
      · exact Or.inl ⟨a, c⟩
      · have h1 := hS.get a
        rw [c, ht] at h1
        obtain ⟨s1, s2⟩ := s
        obtain ⟨t1, t2⟩ := t
        simp only at c h1
        cases h1
        cases c
        exact Or.inr rfl
  · rw [List.pairwise_append]
    refine ⟨h.nod, List.pairwise_singleton .., fun a ha b hb => ?_⟩
    rw [List.mem_singleton.1 hb]
    intro e
    have := ((h.mem a).1 ha).2
    rw [e, hl] at this
    cases this

theorem rise_nodup {β : Type} {T : List (Kv β)} (hS : RiseM T) : T.Nodup := by
  unfold RiseM at hS
  rw [List.pairwise_map] at hS
  exact hS.imp (fun h e => by subst e; exact List.lt_irrefl _ h)

theorem Gath14.done {β : Type} {T : List (Kv β)} {left : Lit → Bool} {V : List (Kv β)} (h : Gath14 T left V) (hS : RiseM T) (hl : ∀ kl, left kl = false) : V.Perm T := by
  refine (List.perm_ext_iff_of_nodup (h.nod.imp (fun h e => h (by rw [e]))) (rise_nodup hS)).2 (fun t => ?_)
  rw [h.mem]
  exact ⟨fun ⟨a, _⟩ => a, fun a => ⟨a, hl _⟩⟩

theorem Gath14.len {β : Type} {T : List (Kv β)} {left : Lit → Bool} {V : List (Kv β)} (h : Gath14 T left V) : V.length ≤ T.length := by
  have h1 : V.Nodup := h.nod.imp (fun h e => h (by rw [e]))
  exact h1.length_le_of_subset (fun t ht => ((h.mem t).1 ht).1)

/-- A row of texts of the call's own. -/
def OwnR14 (B : Nat) (w : World) (v : Value) (l : List ByteArray) : Prop := w.ownsRow B 9 1 v l.length (l.map Value.string)

theorem OwnR14.nil (B : Nat) (w : World) : OwnR14 B w (.slice none 0 0) [] := World.ownsRow_nil w B 9 1

theorem OwnR14.strs {B : Nat} {w : World} {v : Value} {l : List ByteArray} (h : OwnR14 B w v l) : StrsAt w v l := own_strs (ownsRow_base_a h (Nat.zero_le _))

theorem OwnR14.own {B : Nat} {w : World} {v : Value} {l : List ByteArray} (h : OwnR14 B w v l) {k : Nat} (hk : v.ownBlock = some k) : B ≤ k ∧ k < w.heap.size ∧ ∃ c, w.heap[k]? = some (.cells c 9 (0, 0)) := by
  rcases h.2 with ⟨hv, _⟩ | ⟨g, cap, cur, hv, hb, hh, _⟩
  · rw [hv] at hk; cases hk
  · rw [hv] at hk; cases hk; exact ⟨hb, (Array.getElem?_eq_some_iff.1 hh).1, _, hh⟩

theorem OwnR14.fr {M : Nat → Prop} {B : Nat} {w w' : World} {v : Value} {l : List ByteArray} (h : OwnR14 B w v l) (f : Fr M w w') (hM : ∀ k, v.ownBlock = some k → ¬ M k) : OwnR14 B w' v l := by
  refine ⟨h.1, ?_⟩
  rcases h.2 with h | ⟨g, cap, cur, hv, hb, hh, h⟩
  · exact Or.inl h
  · exact Or.inr ⟨g, cap, cur, hv, hb, f.at hh (hM g (by rw [hv]; rfl)), h⟩

theorem OwnR14.push {B : Nat} {w : World} {v : Value} {l : List ByteArray} (h : OwnR14 B w v l) (x : ByteArray) (hB : B ≤ w.heap.size) (hl : l.length ≤ 2000000000) :
    ∃ v' w', (Builtin.append_ #[23, 23] 23 #[v, .slice (some ⟨w.heap.size, 0, none⟩) 1 1]).run Tryz.prog (w.alloc (.cells #[.string x] 9)) = .ok v' w' ∧ OwnR14 B w' v' (l ++ [x]) ∧ Fr (fun k => v.ownBlock = some k) w w' ∧ (v'.ownBlock = v.ownBlock ∨ v'.ownBlock = some (w.heap.size + 1)) := by
  obtain ⟨i0, hi, hz0, hz1, hz2⟩ := info_parts Lines.Tryz.infoS
  have F1 : Fr None' w (w.alloc (.cells #[.string x] 9)) := Fr.alloc None' w _
  have hown : OwnR14 B (w.alloc (.cells #[.string x] 9)) v l := h.fr F1 (fun _ _ e => e.elim)
  obtain ⟨v', w', hr, h5, h6, _, h8⟩ := run_append_own_at (P := Tryz.prog) (w.alloc (.cells #[.string x] 9)) B 23 23 9 i0 (.string ⟨#[]⟩) 1 16 Tryz.underlying23 hi hz0 hz1 hz2 rfl (by decide) v l.length _ hown ⟨w.heap.size, 0, none⟩ 1 1 [.string x] rfl (fun j u hj => by
    match j, hj with
    | 0, hj => simp at hj; subst hj; simp [Addr.add]) (fun u hu => by simp at hu; subst hu; rfl) (by unfold maxLen; omega) (by omega) (by have := F1.size; omega)
  refine ⟨v', w', hr, ?_, (F1.mono (M' := fun k => v.ownBlock = some k) (fun _ e => e.elim)).then (Fr.grown h6 (fun k e => e)), ?_⟩
  · unfold OwnR14
    rw [List.length_append, List.map_append]
    exact h5
  · rcases h8 with h8 | h8
    · exact .inl h8
    · refine .inr ?_
      rw [h8]
      simp

theorem OwnR14.slice {B : Nat} {w : World} {v : Value} {l : List ByteArray} (h : OwnR14 B w v l) : ∃ va c, v = .slice va l.length c := by
  rcases h.2 with ⟨hv, h0⟩ | ⟨g, cap, cur, hv, _⟩
  · exact ⟨none, 0, by rw [hv, h0]⟩
  · exact ⟨_, _, hv⟩

/-- A row's slice. -/
abbrev Rw := Option Addr × Nat × Nat
def mkR (r : Rw) : Value := .slice r.1 r.2.1 r.2.2
def zR : Rw := (none, 0, 0)

theorem zeroSS (w : World) : (zeroValue 23).run Tryz.prog w = .ok (mkR zR) w := by kernel_rfl

/-- The map of block b has, under each key p, the row f p of the texts N p. -/
structure GR (base : Nat) (w : World) (b m : Nat) (f : B13 → Rw) (N : B13 → List ByteArray) : Prop where
  map : ∃ A, MAt mkR w b m A ∧ ∀ p, (getM A p).getD zR = f p
  own : ∀ p, OwnR14 base w (mkR (f p)) (N p)
  apart : ∀ p q k, p ≠ q → (mkR (f p)).ownBlock = some k → ¬ (mkR (f q)).ownBlock = some k

theorem GR.notMap {base : Nat} {w : World} {b m : Nat} {f : B13 → Rw} {N : B13 → List ByteArray} (h : GR base w b m f N) (p : B13) : ¬ (mkR (f p)).ownBlock = some b := fun e => by
  obtain ⟨_, _, c, hc⟩ := (h.own p).own e
  obtain ⟨A, hA, _⟩ := h.map
  obtain ⟨es, cl, hb, _⟩ := hA
  rw [hb] at hc
  cases hc

theorem GR.fr {M : Nat → Prop} {base : Nat} {w w' : World} {b m : Nat} {f : B13 → Rw} {N : B13 → List ByteArray} (h : GR base w b m f N) (F : Fr M w w') (hb : ¬ M b) (hM : ∀ k, M k → k < base ∨ w.heap.size ≤ k) : GR base w' b m f N := by
  obtain ⟨A, h1, h2⟩ := h.map
  exact ⟨⟨A, h1.fr F hb, h2⟩, fun p => (h.own p).fr F (fun k e e' => by have := (h.own p).own e; have := hM k e'; omega), h.apart⟩

theorem GR.start (base : Nat) (w : World) : GR base (w.alloc (.map #[] 0)) w.heap.size 0 (fun _ => zR) (fun _ => []) :=
  ⟨⟨[], MAt.start w, fun p => rfl⟩, fun p => OwnR14.nil base _, fun p q k _ e => by cases e⟩

theorem GR.look {base : Nat} {w : World} {b m : Nat} {f : B13 → Rw} {N : B13 → List ByteArray} (h : GR base w b m f N) (s : ByteArray) (hs : s.size ≤ maxLen) : (Instr.lookup 53 (.map (some b)) (.string s) false).run Tryz.prog w = .ok (mkR (f (unB s))) w := by
  obtain ⟨A, h1, h2⟩ := h.map
  have := h1.look Tryz.underlying53 (zeroSS _) s hs
  rwa [h2] at this

/-- A text more under one key. -/
theorem GR.put {base : Nat} {w : World} {b m : Nat} {f : B13 → Rw} {N : B13 → List ByteArray} (h : GR base w b m f N) (d : B13) (x : ByteArray) (hbase : base ≤ w.heap.size) (hn : (N d).length ≤ 2000000000) :
    ∃ r' w3 A, (Builtin.append_ #[23, 23] 23 #[mkR (f d), .slice (some ⟨w.heap.size, 0, none⟩) 1 1]).run Tryz.prog (w.alloc (.cells #[.string x] 9)) = .ok (mkR r') w3 ∧ MAt mkR w3 b m A ∧
      ∀ w4, w4.ownsMap Tryz.prog 9 (heldM mkR) b (m + 1) ((toM mkR A).put (.string d) (.held (mkR r'))) → w3.mapTurned w4 b → GR base w4 b (m + 1) (fun q => if q = d then r' else f q) (fun q => if q = d then N d ++ [x] else N q) ∧ Fr (fun i => base ≤ i ∨ i = b) w w4 := by
  obtain ⟨A, m1, m2⟩ := h.map
  obtain ⟨v', w3, hr, O3, f3, hg⟩ := (h.own d).push x hbase hn
  obtain ⟨va, ca, rfl⟩ := O3.slice
  have nb := h.notMap
  have M3 : MAt mkR w3 b m A := m1.fr f3 (nb d)
  refine ⟨(va, (N d ++ [x]).length, ca), w3, A, hr, M3, fun w4 hm4 ht => ?_⟩
  have F4 : Fr (fun i => i = b) w3 w4 := Fr.turned ht rfl
  have hM4 : MAt mkR w4 b (m + 1) (putM A d (va, (N d ++ [x]).length, ca)) := MAt.put hm4
  have nb3 : ¬ (Value.slice va (N d ++ [x]).length ca).ownBlock = some b := fun e => by
    obtain ⟨_, _, c, hc⟩ := O3.own e
    obtain ⟨es, cl, hb, _⟩ := M3
    rw [hb] at hc
    cases hc
  have gl : ∀ q i, ¬ q = d → (mkR (f q)).ownBlock = some i → ¬ (Value.slice va (N d ++ [x]).length ca).ownBlock = some i := fun q i hq e e2 => by
    rcases hg with hg | hg
    · rw [hg] at e2; exact h.apart q d i hq e e2
    · rw [hg] at e2; cases e2; have := ((h.own q).own e).2.1; omega
  refine ⟨⟨⟨_, hM4, fun q => ?_⟩, fun q => ?_, fun q r i hqr e1 e2 => ?_⟩, ?_⟩
  · rw [get_putM m1.rise]
    by_cases e : q = d
    · rw [if_pos e, if_pos e]; rfl
    · rw [if_neg e, if_neg e]; exact m2 q
  · by_cases e : q = d
    · simp only [if_pos e]
      exact O3.fr F4 (fun i e e2 => nb3 (e2 ▸ e))
    · simp only [if_neg e]
      exact ((h.own q).fr f3 (fun i e1 e2 => h.apart q d i e e1 e2)).fr F4 (fun i e1 e2 => nb q (e2 ▸ e1))
  · by_cases a1 : q = d
    · simp only [if_pos a1] at e1
      by_cases a2 : r = d
      · exact hqr (a1.trans a2.symm)
      · simp only [if_neg a2] at e2
        exact gl r i a2 e2 e1
    · simp only [if_neg a1] at e1
      by_cases a2 : r = d
      · simp only [if_pos a2] at e2
        exact gl q i a1 e1 e2
      · simp only [if_neg a2] at e2
        exact h.apart q r i hqr e1 e2
  · exact (f3.mono (fun i e => .inl ((h.own d).own e).1)).trans F4 (fun i e => Or.inl (.inr e))

end Go.Proofs.YtbiilnhefoplkaaGreatDoor

namespace Go.Proofs.YtbiilnhefoplkaaGreatDoor
open Go.RowKit Go.Maps Go.WideMaps
set_option maxRecDepth 100000

theorem depsB_after : ∀ (N : B13) (last : B13) (l : List B13), depsB N last l = true → (last :: l).Pairwise (· < ·)
  | _, last, [], _ => List.pairwise_singleton ..
  | N, last, d :: l, h => by
    rw [depsB] at h
    simp only [Bool.and_eq_true, decide_eq_true_eq] at h
    obtain ⟨⟨⟨_, h2⟩, _⟩, h4⟩ := h
    have ih := depsB_after N d l h4
    refine List.pairwise_cons.2 ⟨fun x hx => ?_, ih⟩
    rcases List.mem_cons.1 hx with rfl | hx
    · exact h2
    · exact List.lt_trans h2 ((List.pairwise_cons.1 ih).1 x hx)

theorem deps_apart {p : Pa} (h : rightPa p = true) : (p.deps.map unB).Pairwise (· ≠ ·) := by
  unfold rightPa at h
  simp only [Bool.and_eq_true] at h
  exact ((List.pairwise_cons.1 (depsB_after _ _ _ h.1.2.2)).2).imp (fun h e => by rw [e] at h; exact List.lt_irrefl _ h)

/-- Which of some patches have d as one of their Deps. -/
def aboveV (V : List (Kv Pv)) (d : B13) : List ByteArray := (V.filter (fun t => decide (d ∈ t.2.x.deps.map unB))).map (·.2.x.name)

theorem aboveV_snoc (V : List (Kv Pv)) (t : Kv Pv) (d : B13) : aboveV (V ++ [t]) d = if d ∈ t.2.x.deps.map unB then aboveV V d ++ [t.2.x.name] else aboveV V d := by
  unfold aboveV
  rw [List.filter_append, List.map_append, List.filter_cons, List.filter_nil]
  by_cases h : d ∈ t.2.x.deps.map unB
  · rw [if_pos h, if_pos (decide_eq_true h)]; rfl
  · rw [if_neg h, if_neg (by rw [decide_eq_true_eq]; exact h)]; exact List.append_nil _

theorem aboveV_len (V : List (Kv Pv)) (d : B13) : (aboveV V d).length ≤ V.length := by
  unfold aboveV
  rw [List.length_map]
  exact List.length_filter_le _ _

def many14 (n : Nat) : Nat := n * 1000000

theorem many14_succ (n : Nat) : many14 (n + 1) = many14 n + 1000000 := Nat.succ_mul _ _

/-- While a patch's Deps are gone through. -/
def aboveD (V : List (Kv Pv)) (x : ByteArray) (D : List ByteArray) (d : B13) : List ByteArray := if d ∈ D.map unB then aboveV V d ++ [x] else aboveV V d

theorem aboveD_len (V : List (Kv Pv)) (x : ByteArray) (D : List ByteArray) (d : B13) : (aboveD V x D d).length ≤ V.length + 1 := by
  have := aboveV_len V d
  unfold aboveD
  by_cases e : d ∈ D.map unB
  · rw [if_pos e, List.length_append, List.length_singleton]; omega
  · rw [if_neg e]; omega

theorem aboveD_step (V : List (Kv Pv)) (x : ByteArray) {D : List ByteArray} {j : Nat} (h : j < D.length) (ha : (D.map unB).Pairwise (· ≠ ·)) : aboveD V x (D.take (j + 1)) = fun q => if q = unB D[j] then aboveD V x (D.take j) (unB D[j]) ++ [x] else aboveD V x (D.take j) q := by
  funext q
  have hnot : unB D[j] ∉ (D.take j).map unB := fun hm => by
    obtain ⟨y, hy, e⟩ := List.mem_map.1 hm
    obtain ⟨i, hi, rfl⟩ := List.getElem_of_mem hy
    rw [List.length_take] at hi
    rw [List.getElem_take] at e
    have := List.pairwise_iff_getElem.1 ha i j (by rw [List.length_map]; omega) (by rw [List.length_map]; omega) (by omega)
    rw [List.getElem_map, List.getElem_map] at this
    exact this e
  unfold aboveD
  rw [List.take_succ_eq_append_getElem h, List.map_append, List.map_cons, List.map_nil]
  by_cases e : q = unB D[j]
  · subst e
    rw [if_pos (List.mem_append_right _ (List.mem_singleton.2 rfl)), if_pos rfl, if_neg hnot]
  · rw [if_neg e]
    by_cases hm : q ∈ (D.take j).map unB
    · rw [if_pos (List.mem_append_left _ hm), if_pos hm]
    · rw [if_neg (fun h => by rcases List.mem_append.1 h with h | h; exact hm h; exact e (List.mem_singleton.1 h)), if_neg hm]

theorem GR.kept14 {base : Nat} {w w' : World} {b m : Nat} {f : B13 → Rw} {N : B13 → List ByteArray} (h : GR base w b m f N) (F : Fr None' w w') : GR base w' b m f N := h.fr F (fun e => e) (fun _ e => e.elim)

/-- What above hands back. -/
def AbovePost (T : List (Kv Pv)) (w : World) (e : Ending) (w' : World) : Prop := ∃ ba m f V, e = .returned (.map (some ba)) ∧ w.heap.size ≤ ba ∧ V.Perm T ∧ GR (w.heap.size + 2) w' ba m f (aboveV V) ∧ Fr None' w w'

set_option maxHeartbeats 16000000 in
theorem above14_any (b nn : Nat) (T : List (Kv Pv)) (w : World) (h : MAt mkV w b nn T) (hT : ∀ t ∈ T, PvIn w t.2 ∧ t.1 = unB t.2.x.name ∧ DepsS t.2.x ∧ rightPa t.2.x = true) (hl : T.length ≤ 256) :
    Calls Tryz.prog 30 #[.map (some b)] w fun e w' => AbovePost T w e w' := by
  have hmm := @run_makeMap Tryz.prog
  have HS := toHid8 h.rise
  have HM := toHid8 h
  have HTs := toHid8 hT
  have HL := toHid8 hl
  have hlt := h.lt
  obtain ⟨wA, hwA⟩ : ∃ y, w.alloc (.map #[] 0) = y := ⟨_, rfl⟩
  have FA : Fr None' w wA := hwA ▸ Fr.alloc None' w _
  have hown : wA.ownsMap Tryz.prog 9 (heldM mkV) b nn (toM mkV T) := h.kept FA
  have HG0 := toHid8 (show GR (w.heap.size + 2) wA w.heap.size 0 (fun _ => zR) (fun _ => []) from hwA ▸ GR.start _ w)
  have HFA := toHid8 FA
  have hsA : wA.heap.size = w.heap.size + 1 := by rw [← hwA]; simp
  have HsA := toHid8 hsA
  clear h hT hl FA hsA
  go_enter Tryz.func30, Tryz.ntmps30
  go_wp2_with (first
    | (at_range; refine wpList_range_own _ rfl _ 44 rfl 9 36 lawS Tryz.underlying44 _ b nn _ rfl hown ?_; intro w0 hrg0 hg0 hs0)
    | go_in)
  go_frame
  go_loopw [4] (fun _ wr => ∃ left cnt V m f, wr.ranges Tryz.prog 9 (heldM mkV) b wA.heap.size nn (toM mkV T) left cnt ∧ Hid (Gath14 T left V) ∧ Hid (GR (w.heap.size + 2) wr w.heap.size m f (aboveV V) ∧ m ≤ many14 V.length) ∧ Hid (Fr None' w wr) ∧ Hid (w.heap.size + 2 ≤ wr.heap.size)) (fun _ wr => wr.rangeLeft b wA.heap.size)
  case atStart =>
    have F0 : Fr None' wA w0 := Fr.grown hg0 (by simp)
    have e0 := HsA.out
    exact ⟨_, _, [], 0, fun _ => zR, hrg0, Gath14.start HS.out, ⟨HG0.out.kept14 F0, Nat.zero_le _⟩, HFA.out.then7 F0, by show _ ≤ _; omega⟩
  case round =>
    obtain ⟨left, cnt, V, m, f, hrg, HG, HO, HF, HZ⟩ := hrel
    go_wp2_with (first
      | (at_next; refine wpList_next_ranges _ rfl _ rfl 9 lawS (heldM mkV) Value.string mkV (fun key kl hk => by obtain ⟨x, hx, _⟩ := keyOf_string_inv hk; exact ⟨x, hx⟩) (fun v y hv => heldM_inv mkV hv) b wA.heap.size nn _ _ _ rfl hrg ?_ ?_)
      | go_in)
    · intro _ hl0
      have HP := toHid8 (HG.out.done HS.out hl0)
      go_wp2
      go_ret
      exact ⟨w.heap.size, m, f, V, rfl, Nat.le_refl _, HP.out, HO.out.1, HF.out⟩
    · intro x c0 kl d0 ps w1 cnt1 hkey hlk hv hat hrg1 hlt1 hg1 hs1 hen
      obtain ⟨x', ex, hkl⟩ := keyOf_string_inv hkey
      cases ex
      subst hkl
      obtain ⟨c, hc, hcv⟩ := hit14 (y := (d0, ps)) hv hat
      rw [← hcv] at hen
      rw [← hcv]
      have htm : ((x.data.toList, c) : Kv Pv) ∈ T := getM_mem hc
      obtain ⟨hin, hnm, hsm, hrt⟩ := HTs.out _ htm
      obtain rfl : x = c.x.name := unB_inj hnm
      have HRg := toHid8 hrg1
      have HLc := toHid8 hrg.left_eq
      have esA := HsA.out
      have F1 : Fr (fun k => k = wA.heap.size) wr w1 := Fr.grown hg1 (fun k e => by cases e; rfl)
      have HGa := toHid8 (HG.out.more (t := (unB c.x.name, c)) hc HS.out hlk)
      have HVl := toHid8 (Nat.le_trans HG.out.len HL.out)
      have HO1 := toHid8 (show GR (w.heap.size + 2) w1 w.heap.size m f (aboveV V) from HO.out.1.fr F1 (fun e => by omega) (fun k e => Or.inl (by omega)))
      have HMl := toHid8 HO.out.2
      have hsz1 : w1.heap.size = wr.heap.size := hs1
      have HF1 := toHid8 (show Fr None' w w1 from HF.out.trans F1 (fun i e => Or.inr (by omega)))
      have HIn := toHid8 hin
      have HSm := toHid8 hsm
      have HRt := toHid8 (deps_apart hrt)
      have HCn := toHid8 hlt1
      have HZ1 := toHid8 (show w.heap.size + 2 ≤ w1.heap.size from by have := HZ.out; omega)
      obtain ⟨nd, hnd⟩ : ∃ y, c.x.deps.length = y := ⟨_, rfl⟩
      have HNd := toHid8 hnd
      have i5 : (nd : Int) ≤ 1000000 := by have e : c.x.deps.length ≤ 1000000 := hsm.deps.1; omega
      obtain ⟨w2, hw2⟩ : ∃ y, w1.alloc (.cells #[.string c.x.name, .slice c.pu nd c.cu, .slice c.pb c.x.body.length c.cb] 36) = y := ⟨_, rfl⟩
      have F2 : Fr None' w1 w2 := hw2 ▸ Fr.alloc None' w1 _
      have B2 : Box3 w2 w1.heap.size (.string c.x.name) (.slice c.pu nd c.cu) (.slice c.pb c.x.body.length c.cb) := hw2 ▸ Box3.new w1 _ _ _
      rw [hsz1] at B2
      obtain ⟨b0, b1, b2⟩ := B2.cells
      have HF2 := toHid8 F2
      have HB := toHid8 hlt
      simp only [mkV, hnd] at hen ⊢
      clear hkey hlk hv hat hrg1 hg1 hrg hc hcv htm hnm hin hsm hrt F1 esA hs1 F2 B2 hlt1 hnd hlt
      go_wp2_with fail
      clear b0 b1 b2 hen
      obtain ⟨wo, rfl⟩ : ∃ y, y = wr := ⟨_, rfl⟩
      go_loopw [19] (fun vj wx => ∃ (j m' : Nat) (f' : B13 → Rw), j ≤ nd ∧ vj = .int .i64 j ∧ Hid (GR (w.heap.size + 2) wx w.heap.size m' f' (aboveD V c.x.name (c.x.deps.take j)) ∧ m' ≤ many14 V.length + j) ∧ Hid (Fr (fun i => w.heap.size + 2 ≤ i ∨ i = w.heap.size) w2 wx)) (fun vj _ => nd - (intOf vj).toNat)
      case atStart => exact ⟨0, m, f, Nat.zero_le _, rfl, ⟨by
        have e : aboveD V c.x.name (c.x.deps.take 0) = aboveV V := funext fun q => by unfold aboveD; rw [List.take_zero]; exact if_neg (by simp)
        rw [e]
        exact HO1.out.kept14 HF2.out, by have := HMl.out; omega⟩, Fr.refl _ _⟩
      case round =>
        obtain ⟨j, m', f', hj, rfl, HJ, HFj⟩ := hrel
        by_cases hjt : j < nd
        case neg =>
          have HE := toHid8 (show GR (w.heap.size + 2) wr w.heap.size m' f' (aboveV (V ++ [(unB c.x.name, c)])) ∧ m' ≤ many14 (V ++ [((unB c.x.name, c) : Kv Pv)]).length from by
            obtain ⟨h1, h2⟩ := HJ.out
            have ht : c.x.deps.take j = c.x.deps := List.take_of_length_le (by rw [HNd.out]; omega)
            have e : aboveD V c.x.name (c.x.deps.take j) = aboveV (V ++ [(unB c.x.name, c)]) := funext fun q => by rw [aboveV_snoc, ht]; rfl
            rw [e] at h1
            exact ⟨h1, by rw [List.length_append, List.length_singleton, many14_succ]; omega⟩)
          have HRn := toHid8 ((HFj.out.ranges (HRg.out |> fun h => HF2.out.ranges h (fun e => e) (fun e => e)) (fun e => by have := HB.out; omega) (fun e => by have := HsA.out; omega)))
          have HFn := toHid8 (show Fr None' w wr from (HF1.out.then7 HF2.out).trans HFj.out (fun i e => Or.inr (by omega)))
          have HZn := toHid8 (show w.heap.size + 2 ≤ wr.heap.size from by have := HZ1.out; have := HF2.out.size; have := HFj.out.size; omega)
          have i6 : ¬ (j : Int) < (nd : Int) := by omega
          clear hjt
          go_wp2_with fail
          refine ⟨⟨_, _, _, m', f', HRn.out, HGa.out, HE.out, HFn.out, HZn.out⟩, ?_⟩
          rw [HRn.out.left_eq, HLc.out]
          exact HCn.out
        case pos =>
          have hjd : j < c.x.deps.length := by rw [HNd.out]; exact hjt
          have HSt := toHid8 (aboveD_step V c.x.name hjd HRt.out)
          have hds : (c.x.deps[j]).size ≤ 1000000000 := HSm.out.deps.2 _ (List.getElem_mem hjd)
          obtain ⟨pd, cd, e, -, -, hrow⟩ := HIn.out.deps
          obtain ⟨gd, od, hpd, hcd⟩ := hrow.get hjd
          have hlt0 := cell_lt hcd
          have fw : Fr (fun i => w.heap.size + 2 ≤ i ∨ i = w.heap.size) w wr := ((HF1.out.then7 HF2.out).mono (M' := fun i => w.heap.size + 2 ≤ i ∨ i = w.heap.size) (fun _ e => e.elim)).then HFj.out
          have hcd' := fw.keepCell hcd (fun e => by have h2 : gd < w.heap.size := hlt0; omega)
          have hpu : c.pu = some ⟨gd, od, none⟩ := by cases e; exact hpd
          obtain ⟨x, hx⟩ : ∃ x, c.x.deps[j] = x := ⟨_, rfl⟩
          rw [hx] at hcd' hds HSt
          rw [hpu]
          have hkS := key14 x (Nat.le_trans hds (by decide))
          have hzr : w.heap.size + 2 ≤ wr.heap.size := by have := HZ1.out; have := HF2.out.size; have := HFj.out.size; omega
          have hlook := HJ.out.1.look x (Nat.le_trans hds (by decide))
          obtain ⟨r', w3, A, hr3, hA3, hput⟩ := HJ.out.1.put (unB x) c.x.name hzr (by have := aboveD_len V c.x.name (c.x.deps.take j) (unB x); have := HVl.out; omega)
          have HP := toHid8 hput
          have hbig : m' < maxLen := by
            have h1 := HJ.out.2
            have h2 := HVl.out
            have h3 : c.x.deps.length ≤ 1000000 := HSm.out.deps.1
            unfold many14 at h1
            unfold maxLen
            omega
          have i6 : (j : Int) < (nd : Int) := by omega
          have i7 : (0 : Int) ≤ (j : Int) := by omega
          have HJt := toHid8 hjt
          obtain ⟨fx, hfx⟩ : ∃ y, f' (unB x) = y := ⟨_, rfl⟩
          rw [hfx] at hlook hr3
          obtain ⟨fa, fn, fc⟩ := fx
          obtain ⟨ra, rn, rc⟩ := r'
          simp only [mkR] at hlook hr3
          unfold MAt at hA3
          clear hrow e hcd hlt0 fw hpd hx hds hpu hput hzr hfx
          go_wp2_with (first
            | (at_builtin; refine app_list9 rfl _ _ rfl rfl rfl hr3 ?_)
            | (at_mapUpdate; refine wpList_mapUpdate_in _ rfl _ _ _ 53 rfl 9 23 lawS Tryz.underlying53 (heldM mkR) w.heap.size m' _ rfl hA3 hbig _ _ _ rfl rfl hkS _ [] (heldM_mk mkR (ra, rn, rc)) ?_; intro w4 hown4 hturn4))
          obtain ⟨g4, f4⟩ := HP.out _ hown4 hturn4
          have HN := toHid8 (show GR (w.heap.size + 2) w4 w.heap.size (m' + 1) _ (aboveD V c.x.name (c.x.deps.take (j + 1))) from by rw [HSt.out]; exact g4)
          have HFn := toHid8 (show Fr (fun i => w.heap.size + 2 ≤ i ∨ i = w.heap.size) w2 w4 from HFj.out.then f4)
          have HMn := toHid8 (show m' + 1 ≤ many14 V.length + (j + 1) from by have := HJ.out.2; omega)
          clear g4 f4 hown4 hturn4
          exact ⟨⟨j + 1, m' + 1, _, by have := HJt.out; omega, by go_num, ⟨HN.out, HMn.out⟩, HFn.out⟩, by simp [intOf]; have := HJt.out; omega⟩

end Go.Proofs.YtbiilnhefoplkaaGreatDoor

namespace Go.Proofs.YtbiilnhefoplkaaGreatDoor
open Go.RowKit Go.Maps Go.WideMaps
set_option maxRecDepth 100000

/-- The map has the key. -/
def InM {β : Type} (T : List (Kv β)) (k : B13) : Prop := (getM T k).isSome = true

theorem inM_iff {β : Type} {T : List (Kv β)} (h : RiseM T) {k : B13} : InM T k ↔ k ∈ T.map (·.1) := by
  unfold InM
  constructor
  · intro e
    obtain ⟨c, hc⟩ := Option.isSome_iff_exists.1 e
    exact List.mem_map.2 ⟨_, getM_mem hc, rfl⟩
  · intro e
    obtain ⟨t, ht, rfl⟩ := List.mem_map.1 e
    rw [h.get ht]; rfl

theorem keys_nodup {β : Type} {T : List (Kv β)} (h : RiseM T) : (T.map (·.1)).Nodup := by
  unfold RiseM at h
  exact h.imp (fun h e => by rw [e] at h; exact List.lt_irrefl _ h)

theorem sub_len {α β : Type} {A : List (Kv α)} {T : List (Kv β)} (hA : RiseM A) (hT : RiseM T) (h : ∀ k, InM A k → InM T k) : A.length ≤ T.length := by
  have := (keys_nodup hA).length_le_of_subset (l₂ := T.map (·.1)) (fun k hk => (inM_iff hT).1 (h k ((inM_iff hA).2 hk)))
  simpa using this

theorem inM_put {β : Type} {T : List (Kv β)} (h : RiseM T) {k q : B13} {c : β} : InM (putM T k c) q ↔ q = k ∨ InM T q := by
  unfold InM
  rw [get_putM h]
  by_cases e : q = k
  · rw [if_pos e]; simp [e]
  · rw [if_neg e]; simp [e]

/-- What can be come to from N. -/
inductive Rch (Nx : B13 → List ByteArray) (N : List B13) : B13 → Prop
  | base {k : B13} : k ∈ N → Rch Nx N k
  | step {k x : B13} : Rch Nx N k → x ∈ (Nx k).map unB → Rch Nx N x

theorem Rch.mono {Nx : B13 → List ByteArray} {N N' : List B13} (h : ∀ k ∈ N, k ∈ N') {k : B13} (r : Rch Nx N k) : Rch Nx N' k := by
  induction r with
  | base hk => exact .base (h _ hk)
  | step _ hx ih => exact .step ih hx

theorem Rch.lift {Nx : B13 → List ByteArray} {N : List B13} {x : B13} (hx : Rch Nx N x) {k : B13} (r : Rch Nx ((Nx x).map unB) k) : Rch Nx N k := by
  induction r with
  | base hk => exact .step hx hk
  | step _ hy ih => exact .step ih hy

/-- What is told. -/
abbrev To := List (Kv Unit)
def mkU (_ : Unit) : Value := .agg #[]

theorem zeroU14 (w : World) : (zeroValue 72).run Tryz.prog w = .ok (mkU ()) w := by kernel_rfl

/-- From A, telling N. -/
structure TR (T : List (Kv Pv)) (Nx : B13 → List ByteArray) (A : To) (N : List B13) (ok : Bool) (A' : To) : Prop where
  up : ∀ k, InM A k → InM A' k
  new : ∀ k, InM A' k → InM A k ∨ (InM T k ∧ Rch Nx N k ∧ (ok = true → ∀ x ∈ (Nx k).map unB, InM A' x))
  yes : ok = true → ∀ x ∈ N, InM A' x
  no : ok = false → ∃ z, Rch Nx N z ∧ ¬ InM T z

theorem TR.nil (T : List (Kv Pv)) (Nx : B13 → List ByteArray) (A : To) : TR T Nx A [] true A := ⟨fun _ h => h, fun _ h => .inl h, fun _ _ h => (by cases h), fun e => (by cases e)⟩

theorem TR.skip {T : List (Kv Pv)} {Nx : B13 → List ByteArray} {A A' : To} {N : List B13} {x : B13} (h : TR T Nx A N true A') (hx : InM A' x) : TR T Nx A (N ++ [x]) true A' :=
  ⟨h.up, fun k hk => (h.new k hk).imp_right (fun ⟨a, b, c⟩ => ⟨a, b.mono (fun _ m => List.mem_append_left _ m), c⟩), fun _ y hy => by
    rcases List.mem_append.1 hy with hy | hy
    · exact h.yes rfl y hy
    · rw [List.mem_singleton.1 hy]; exact hx, fun e => (by cases e)⟩

theorem TR.miss {T : List (Kv Pv)} {Nx : B13 → List ByteArray} {A A' : To} {N : List B13} {x : B13} (h : TR T Nx A N true A') (hx : ¬ InM T x) (R : List B13) : TR T Nx A (N ++ x :: R) false A' :=
  ⟨h.up, fun k hk => (h.new k hk).imp_right (fun ⟨a, b, _⟩ => ⟨a, b.mono (fun _ m => List.mem_append_left _ m), fun e => (by cases e)⟩), fun e => (by cases e), fun _ => ⟨x, .base (List.mem_append_right _ (List.mem_cons_self ..)), hx⟩⟩

theorem TR.into {T : List (Kv Pv)} {Nx : B13 → List ByteArray} {A A1 A2 : To} {N : List B13} {x : B13} (h : TR T Nx A N true A1) (hT : InM T x) (hr : RiseM A1) (h2 : TR T Nx (putM A1 x ()) ((Nx x).map unB) true A2) : TR T Nx A (N ++ [x]) true A2 := by
  have up2 : ∀ k, InM A1 k → InM A2 k := fun k hk => h2.up k ((inM_put hr).2 (.inr hk))
  have hx2 : InM A2 x := h2.up x ((inM_put hr).2 (.inl rfl))
  have hbx : Rch Nx (N ++ [x]) x := .base (List.mem_append_right _ (List.mem_singleton.2 rfl))
  refine ⟨fun k hk => up2 k (h.up k hk), fun k hk => ?_, fun _ y hy => ?_, fun e => (by cases e)⟩
  · rcases h2.new k hk with hk | ⟨a, b, c⟩
    · rcases (inM_put hr).1 hk with rfl | hk
      · exact .inr ⟨hT, hbx, fun _ => h2.yes rfl⟩
      · exact (h.new k hk).imp_right (fun ⟨a, b, c⟩ => ⟨a, b.mono (fun _ m => List.mem_append_left _ m), fun _ y hy => up2 y (c rfl y hy)⟩)
    · exact .inr ⟨a, hbx.lift b, c⟩
  · rcases List.mem_append.1 hy with hy | hy
    · exact up2 y (h.yes rfl y hy)
    · rw [List.mem_singleton.1 hy]; exact hx2

theorem TR.fail {T : List (Kv Pv)} {Nx : B13 → List ByteArray} {A A1 A2 : To} {N : List B13} {x : B13} (h : TR T Nx A N true A1) (hT : InM T x) (hr : RiseM A1) (h2 : TR T Nx (putM A1 x ()) ((Nx x).map unB) false A2) (R : List B13) : TR T Nx A (N ++ x :: R) false A2 := by
  have hbx : Rch Nx (N ++ x :: R) x := .base (List.mem_append_right _ (List.mem_cons_self ..))
  refine ⟨fun k hk => h2.up k ((inM_put hr).2 (.inr (h.up k hk))), fun k hk => ?_, fun e => (by cases e), fun _ => ?_⟩
  · rcases h2.new k hk with hk | ⟨a, b, _⟩
    · rcases (inM_put hr).1 hk with rfl | hk
      · exact .inr ⟨hT, hbx, fun e => (by cases e)⟩
      · exact (h.new k hk).imp_right (fun ⟨a, b, _⟩ => ⟨a, b.mono (fun _ m => List.mem_append_left _ m), fun e => (by cases e)⟩)
    · exact .inr ⟨a, hbx.lift b, fun e => (by cases e)⟩
  · obtain ⟨z, hz, hzT⟩ := h2.no rfl
    exact ⟨z, hbx.lift hz, hzT⟩

/-- Texts that are handed back. -/
def NextPost (l : List ByteArray) (w : World) (e : Ending) (w' : World) : Prop := ∃ p c, e = .returned (.slice p l.length c) ∧ StrsAt w' (.slice p l.length c) l ∧ Fr None' w w'

/-- What lies around the closure that tells. -/
structure TellEnv (W : World) (T : List (Kv Pv)) (Nx : B13 → List ByteArray) (g : Nat) (vs : Array Value) (b nn bm bs bt bl bn : Nat) : Prop where
  cS : W.cell? ⟨bs, 0, none⟩ = some (.map (some b))
  cT : W.cell? ⟨bt, 0, none⟩ = some (.map (some bm))
  cL : W.cell? ⟨bl, 0, none⟩ = some (.func (.func 46) #[] #[.pointer (some ⟨bs, 0, none⟩), .pointer (some ⟨bt, 0, none⟩), .pointer (some ⟨bl, 0, none⟩), .pointer (some ⟨bn, 0, none⟩)])
  cN : W.cell? ⟨bn, 0, none⟩ = some (.func (.func g) #[] vs)
  off : bs ≠ bm ∧ bt ≠ bm ∧ bl ≠ bm ∧ bn ≠ bm ∧ b ≠ bm
  set : MAt mkV W b nn T
  len : T.length ≤ 256
  enters : ∀ (args : Array Value) (w : World), (callFunc g args).run Tryz.prog w = .ok (.enter g args) w
  next : ∀ (w : World) (x : ByteArray), Fr (fun i => i = bm) W w → x.size ≤ 1000000000 → Calls Tryz.prog g (#[.string x] ++ vs) w fun e w' => NextPost (Nx (unB x)) w e w'
  small : ∀ k, (Nx k).length ≤ 1000000 ∧ ∀ y ∈ Nx k, y.size ≤ 1000000000

/-- What tell hands back. -/
def TellPost (T : List (Kv Pv)) (Nx : B13 → List ByteArray) (bm : Nat) (A : To) (N : List ByteArray) (w : World) (e : Ending) (w' : World) : Prop :=
  ∃ ok A', e = .returned (.bool ok) ∧ TR T Nx A (N.map unB) ok A' ∧ MAt mkU w' bm A'.length A' ∧ Fr (fun i => i = bm) w w'

theorem cell_not_map {β : Type} {mk : β → Value} {w : World} {b n g o : Nat} {T : List (Kv β)} {v : Value} (h : w.cell? ⟨g, o, none⟩ = some v) (hm : MAt mk w b n T) : g ≠ b := by
  rintro rfl
  obtain ⟨es, cl, hb, _⟩ := hm
  unfold World.cell? at h
  simp [hb] at h

end Go.Proofs.YtbiilnhefoplkaaGreatDoor

namespace Go.Proofs.YtbiilnhefoplkaaGreatDoor
open Go.RowKit Go.Maps Go.WideMaps
set_option maxRecDepth 100000

set_option maxHeartbeats 16000000 in
theorem tell_step {W : World} {T : List (Kv Pv)} {Nx : B13 → List ByteArray} {g : Nat} {vs : Array Value} {b nn bm bs bt bl bn : Nat} (E : TellEnv W T Nx g vs b nn bm bs bt bl bn) {A : To} {N : List ByteArray} {n c : Nat} {pv : Option Addr} {w : World} (hn : N.length = n) (hl : n ≤ 1000000) (hs : ∀ y ∈ N, y.size ≤ 1000000000) (hst : StrsAt w (.slice pv n c) N) (hF : Fr (fun i => i = bm) W w) (hA : MAt mkU w bm A.length A) (hsub : ∀ k, InM A k → InM T k)
    (ih : ∀ (A1 : To) (k : B13) (w1 : World) (p1 : Option Addr) (c1 : Nat), A.length < A1.length → Fr (fun i => i = bm) W w1 → StrsAt w1 (.slice p1 (Nx k).length c1) (Nx k) → MAt mkU w1 bm A1.length A1 → (∀ k, InM A1 k → InM T k) → Calls Tryz.prog 46 #[.slice p1 (Nx k).length c1, .pointer (some ⟨bs, 0, none⟩), .pointer (some ⟨bt, 0, none⟩), .pointer (some ⟨bl, 0, none⟩), .pointer (some ⟨bn, 0, none⟩)] w1 (TellPost T Nx bm A1 (Nx k) w1)) :
    Calls Tryz.prog 46 #[.slice pv n c, .pointer (some ⟨bs, 0, none⟩), .pointer (some ⟨bt, 0, none⟩), .pointer (some ⟨bl, 0, none⟩), .pointer (some ⟨bn, 0, none⟩)] w (TellPost T Nx bm A N w) := by
  have hEn := E.enters
  have HE := toHid8 E
  have HN := toHid8 hn
  have HSz := toHid8 hs
  have HSt := toHid8 hst
  have HF := toHid8 hF
  have HA0 := toHid8 hA
  have HSub := toHid8 hsub
  have HI := toHid8 ih
  have i0 : (n : Int) ≤ 1000000 := by omega
  clear E hn hl hs hst hF hA hsub ih
  go_enter Tryz.func46, Tryz.ntmps46
  go_wp2_with fail
  go_loopw [15] (fun vi wr => ∃ (k : Nat) (A1 : To), k ≤ n ∧ vi = .int .i64 k ∧ Hid (MAt mkU wr bm A1.length A1) ∧ Hid (TR T Nx A ((N.take k).map unB) true A1) ∧ Hid (Fr (fun i => i = bm) w wr)) (fun vi _ => n - (intOf vi).toNat)
  case atStart => exact ⟨0, A, Nat.zero_le _, rfl, HA0.out, TR.nil _ _ _, Fr.refl _ _⟩
  case round =>
    obtain ⟨k, A1, hk, rfl, HM, HR, HFw⟩ := hrel
    have HFW := toHid8 (HF.out.then HFw.out)
    by_cases hlt : k < n
    case neg =>
      have HP := toHid8 (show TellPost T Nx bm A N w (.returned (.bool true)) wr from ⟨true, A1, rfl, by
        have h := HR.out
        rwa [List.take_of_length_le (by rw [HN.out]; omega)] at h, HM.out, HFw.out⟩)
      have i3 : ¬ (k : Int) < (n : Int) := by omega
      clear hlt
      go_wp2_with fail
      go_ret
      exact HP.out
    case pos =>
      have hka : k < N.length := by rw [HN.out]; exact hlt
      have hds : (N[k]).size ≤ 1000000000 := HSz.out _ (List.getElem_mem hka)
      obtain ⟨p0, c0, e, -, -, hrow⟩ := HSt.out
      obtain ⟨gd, od, hpd, hcd⟩ := hrow.get hka
      have hcd' := HFw.out.keepCell hcd (fun e => cell_not_map hcd HA0.out e)
      have hpu : pv = some ⟨gd, od, none⟩ := by cases e; exact hpd
      have HTk := toHid8 (show N.map unB = (N.take k).map unB ++ unB N[k] :: (N.drop (k + 1)).map unB from by
        conv => lhs; rw [← List.take_append_drop k N, List.drop_eq_getElem_cons hka, List.map_append, List.map_cons])
      have HTs := toHid8 (show (N.take (k + 1)).map unB = (N.take k).map unB ++ [unB N[k]] from by
        rw [List.take_succ_eq_append_getElem hka, List.map_append, List.map_cons, List.map_nil])
      obtain ⟨x, hx⟩ : ∃ x, N[k] = x := ⟨_, rfl⟩
      rw [hx] at hcd' hds HTk HTs
      subst hpu
      have hmx : x.size ≤ maxLen := Nat.le_trans hds (by decide)
      have i3 : (k : Int) < (n : Int) := by omega
      have i4 : (0 : Int) ≤ (k : Int) := by omega
      have e1 := HFW.out.keepCell HE.out.cS HE.out.off.1
      have e2 := HFW.out.keepCell HE.out.cT HE.out.off.2.1
      have hS := HE.out.set.fr HFW.out HE.out.off.2.2.2.2
      have hlook := hS.look_ok Tryz.underlying44 (zeroPa _) x hmx
      have HLt := toHid8 hlt
      have HDs := toHid8 hds
      clear hrow e hcd hpd hx hlt hds
      cases hg : getM T (unB x) with
      | none =>
        rw [hg] at hlook
        simp only [Option.getD_none, Option.isSome_none, mkV, zeroPv, List.length_nil] at hlook
        obtain ⟨w2, hw2⟩ : ∃ y, wr.alloc (.cells #[.string ⟨#[]⟩, .slice none 0 0, .slice none 0 0] 36) = y := ⟨_, rfl⟩
        have F2 : Fr None' wr w2 := hw2 ▸ Fr.alloc None' wr _
        have HP := toHid8 (show TellPost T Nx bm A N w (.returned (.bool false)) w2 from ⟨false, A1, rfl, by
          rw [HTk.out]
          exact HR.out.miss (by unfold InM; rw [hg]; simp) _, HM.out.kept F2, HFw.out.trans F2 (fun _ e => e.elim)⟩)
        have Hw2 := toHid8 hw2
        clear hg hS F2 hw2
        go_wp2_with fail
        go_ret
        rw [Hw2.out]
        exact HP.out
      | some d =>
        rw [hg] at hlook
        simp only [Option.getD_some, Option.isSome_some, mkV] at hlook
        have HT := toHid8 (show InM T (unB x) from by unfold InM; rw [hg]; rfl)
        obtain ⟨nd, hnd⟩ : ∃ y, d.x.deps.length = y := ⟨_, rfl⟩
        obtain ⟨nb, hnb⟩ : ∃ y, d.x.body.length = y := ⟨_, rfl⟩
        obtain ⟨sn, hsn⟩ : ∃ y, d.x.name = y := ⟨_, rfl⟩
        rw [hnd, hnb, hsn] at hlook
        obtain ⟨w2, hw2⟩ : ∃ y, wr.alloc (.cells #[.string sn, .slice d.pu nd d.cu, .slice d.pb nb d.cb] 36) = y := ⟨_, rfl⟩
        have F2 : Fr None' wr w2 := hw2 ▸ Fr.alloc None' wr _
        have e22 := F2.keepCell e2 (fun e => e)
        have hlook2 := (HM.out.kept F2).look_ok Tryz.underlying70 (zeroU14 _) x hmx
        obtain ⟨w3, hw3⟩ : ∃ y, w2.alloc (.cells #[] 72) = y := ⟨_, rfl⟩
        have F3 : Fr None' w2 w3 := hw3 ▸ Fr.alloc None' w2 _
        have HF3 := toHid8 (F2.then7 F3)
        obtain ⟨isT, hisT⟩ : ∃ y, (getM A1 (unB x)).isSome = y := ⟨_, rfl⟩
        rw [hisT] at hlook2
        simp only [mkU] at hlook2
        have HIs := toHid8 hisT
        clear hg hS hnd hnb hsn F2 F3 hisT
        cases isT with
        | true =>
          have HNx := toHid8 (show TR T Nx A ((N.take (k + 1)).map unB) true A1 from by rw [HTs.out]; exact HR.out.skip HIs.out)
          have HM3 := toHid8 (HM.out.kept HF3.out)
          have HFn := toHid8 (HFw.out.trans HF3.out (fun _ e => e.elim))
          go_wp2_with fail
          exact ⟨⟨k + 1, A1, by have := HLt.out; omega, by go_num, HM3.out, HNx.out, HFn.out⟩, by simp [intOf]; have := HLt.out; omega⟩
        | false =>
          have HIn := toHid8 (show ¬ InM A1 (unB x) from fun e => by unfold InM at e; rw [HIs.out] at e; cases e)
          have hM3 := HM.out.kept HF3.out
          have hAl : A1.length < maxLen := by
            have h1 := sub_len HM.out.rise HE.out.set.rise (fun q hq => by
              rcases HR.out.new q hq with h | h
              · exact HSub.out q h
              · exact h.1)
            have h2 := HE.out.len
            unfold maxLen
            omega
          have hkS := key14 x hmx
          have e23 := HF3.out.keepCell e2 (fun e => e)
          unfold MAt at hM3
          go_wp2_with (at_mapUpdate; refine wpList_mapUpdate_in _ rfl _ _ _ 70 rfl 9 72 lawS Tryz.underlying70 (heldM mkU) bm A1.length _ rfl hM3 hAl _ _ _ rfl rfl hkS _ [] (heldM_mk mkU ()) ?_; intro w4 hown4 hturn4)
          have HM4 := toHid8 (MAt.put hown4)
          have HAn := toHid8 (show (putM A1 (unB x) ()).length = A1.length + 1 from len_put () (by
            have h := HIs.out
            cases hq : getM A1 (unB x) with
            | none => rfl
            | some _ => rw [hq] at h; cases h))
          have HF4 := toHid8 (show Fr (fun i => i = bm) wr w4 from (HF3.out.mono (M' := fun i => i = bm) (fun _ e => e.elim)).then (Fr.turned (M := fun i => i = bm) hturn4 rfl))
          have HFW4 := toHid8 (show Fr (fun i => i = bm) W w4 from HFW.out.then HF4.out)
          have c3 := HFW4.out.keepCell HE.out.cL HE.out.off.2.2.1
          have c4 := HFW4.out.keepCell HE.out.cN HE.out.off.2.2.2.1
          have HTl := toHid8 (show ∀ (w6 : World) (p1 : Option Addr) (c1 : Nat), Fr None' w4 w6 → StrsAt w6 (.slice p1 (Nx (unB x)).length c1) (Nx (unB x)) → Calls Tryz.prog 46 #[.slice p1 (Nx (unB x)).length c1, .pointer (some ⟨bs, 0, none⟩), .pointer (some ⟨bt, 0, none⟩), .pointer (some ⟨bl, 0, none⟩), .pointer (some ⟨bn, 0, none⟩)] w6 (TellPost T Nx bm (putM A1 (unB x) ()) (Nx (unB x)) w6) from fun w6 p1 c1 F6 h6 => by
            have hsubI : ∀ q, InM A1 q → InM T q := fun q hq => by
              rcases HR.out.new q hq with h | h
              · exact HSub.out q h
              · exact h.1
            have hAA : A.length ≤ A1.length := sub_len HA0.out.rise HM.out.rise HR.out.up
            refine HI.out (putM A1 (unB x) ()) (unB x) w6 p1 c1 (by rw [HAn.out]; omega) (HFW4.out.trans F6 (fun _ e => e.elim)) h6 (by rw [HAn.out]; exact HM4.out.kept F6) (fun q hq => ?_)
            rcases (inM_put HM.out.rise).1 hq with rfl | hq
            · exact HT.out
            · exact hsubI q hq)
          have HNx := toHid8 (show ∀ w5, Fr None' w4 w5 → Calls Tryz.prog g (#[.string x] ++ vs) w5 fun e w' => NextPost (Nx (unB x)) w5 e w' from fun w5 F5 => HE.out.next w5 x (HFW4.out.trans F5 (fun _ e => e.elim)) HDs.out)
          clear hown4 hturn4 hM3 hlook hlook2 e1 e2 e22 e23 hcd' hAl hkS hw2 hw3
          go_region_with (first
            | (refine (HNx.out _ (by first | exact Fr.refl _ _ | exact Fr.drew None' _)).mono ?_; rintro e w5 ⟨p5, c5, rfl, hs5, F5⟩; have HS5 := toHid8 hs5; have HF5 := toHid8 (show Fr None' w4 w5 from by first | exact F5 | exact (Fr.drew None' _).then7 F5); have c35 := HF5.out.keepCell c3 (fun e => e); clear hs5 F5)
            | (refine (HTl.out _ _ _ HF5.out HS5.out).mono ?_; rintro e w6 ⟨ok, A2, rfl, hr2, hm2, f2⟩; have HR2 := toHid8 hr2; have HM2 := toHid8 hm2; have HF6 := toHid8 f2; clear hr2 hm2 f2))
          all_goals have HFn := toHid8 (show Fr (fun i => i = bm) w w6 from (HFw.out.then HF4.out).then ((HF5.out.mono (M' := fun i => i = bm) (fun _ e => e.elim)).then HF6.out))
          all_goals cases ok
          all_goals first
            | (have HP := toHid8 (show TellPost T Nx bm A N w (.returned (.bool false)) w6 from ⟨false, A2, rfl, by
                rw [HTk.out]
                exact HR.out.fail HT.out HM.out.rise HR2.out _, HM2.out, HFn.out⟩)
               go_wp2_with fail
               go_ret
               exact HP.out)
            | (have HNe := toHid8 (show TR T Nx A ((N.take (k + 1)).map unB) true A2 from by rw [HTs.out]; exact HR.out.into HT.out HM.out.rise HR2.out)
               go_wp2_with fail
               exact ⟨⟨k + 1, A2, by have := HLt.out; omega, by go_num, HM2.out, HNe.out, HFn.out⟩, by simp [intOf]; have := HLt.out; omega⟩)

end Go.Proofs.YtbiilnhefoplkaaGreatDoor

namespace Go.Proofs.YtbiilnhefoplkaaGreatDoor
open Go.RowKit Go.Maps Go.WideMaps
set_option maxRecDepth 100000

theorem tell_any {W : World} {T : List (Kv Pv)} {Nx : B13 → List ByteArray} {g : Nat} {vs : Array Value} {b nn bm bs bt bl bn : Nat} (E : TellEnv W T Nx g vs b nn bm bs bt bl bn) :
    ∀ (fuel : Nat) (A : To) (N : List ByteArray) (n c : Nat) (pv : Option Addr) (w : World), T.length ≤ A.length + fuel → N.length = n → n ≤ 1000000 → (∀ y ∈ N, y.size ≤ 1000000000) → StrsAt w (.slice pv n c) N → Fr (fun i => i = bm) W w → MAt mkU w bm A.length A → (∀ k, InM A k → InM T k) →
      Calls Tryz.prog 46 #[.slice pv n c, .pointer (some ⟨bs, 0, none⟩), .pointer (some ⟨bt, 0, none⟩), .pointer (some ⟨bl, 0, none⟩), .pointer (some ⟨bn, 0, none⟩)] w (TellPost T Nx bm A N w) := by
  intro fuel
  induction fuel with
  | zero =>
    intro A N n c pv w hf hn hl hs hst hF hA hsub
    refine tell_step E hn hl hs hst hF hA hsub (fun A1 k w1 p1 c1 hlt h1 h2 h3 h4 => ?_)
    have := sub_len h3.rise E.set.rise h4
    omega
  | succ f ih =>
    intro A N n c pv w hf hn hl hs hst hF hA hsub
    refine tell_step E hn hl hs hst hF hA hsub (fun A1 k w1 p1 c1 hlt h1 h2 h3 h4 => ?_)
    exact ih A1 (Nx k) _ c1 p1 w1 (by omega) rfl (E.small k).1 (E.small k).2 h2 h1 h3 h4

theorem run_store_func14 {P : Program} {w : World} {a : Addr} {m : Mode} (f : Fn) (x y : Array Value) : (store a (.func f x y) m).run P w = stored P w a (.func f x y) m := run_store P w a _ m rfl

attribute [local go_sem] run_store_func14

/-- What reached hands back. -/
def ReachPost (T : List (Kv Pv)) (Nx : B13 → List ByteArray) (N : List B13) (w : World) (e : Ending) (w' : World) : Prop :=
  ((∃ (K : List B13) (v : Value), K.Pairwise (· < ·) ∧ (∀ k, k ∈ K ↔ Rch Nx N k) ∧ (∀ k ∈ K, InM T k) ∧ e = .returned (.tuple #[v, .int .i64 0]) ∧ StrsAt w' v (K.map mkB)) ∨ ((∃ z, Rch Nx N z ∧ ¬ InM T z) ∧ e = .returned (.tuple #[.slice none 0 0, .int .i64 12]))) ∧ Fr None' w w'

theorem TR.all {T : List (Kv Pv)} {Nx : B13 → List ByteArray} {N : List B13} {A : To} (h : TR T Nx [] N true A) (k : B13) : InM A k ↔ Rch Nx N k := by
  constructor
  · intro hk
    rcases h.new k hk with h | ⟨_, h, _⟩
    · cases h
    · exact h
  · intro r
    induction r with
    | base hk => exact h.yes rfl _ hk
    | step _ hx ih =>
      rcases h.new _ ih with h | ⟨_, _, h⟩
      · cases h
      · exact h rfl _ hx

theorem TR.in {T : List (Kv Pv)} {Nx : B13 → List ByteArray} {N : List B13} {A : To} (h : TR T Nx [] N true A) (k : B13) (hk : InM A k) : InM T k := by
  rcases h.new k hk with h | ⟨h, _, _⟩
  · cases h
  · exact h

set_option maxHeartbeats 8000000 in
theorem reached14_any {T : List (Kv Pv)} {Nx : B13 → List ByteArray} {g : Nat} {vs : Array Value} {b nn : Nat} {N : List ByteArray} {n c : Nat} {pv : Option Addr} {w : World} (hset : MAt mkV w b nn T) (hT : T.length ≤ 256) (hn : N.length = n) (hl : n ≤ 1000000) (hs : ∀ y ∈ N, y.size ≤ 1000000000) (hst : StrsAt w (.slice pv n c) N)
    (enters : ∀ (args : Array Value) (w : World), (callFunc g args).run Tryz.prog w = .ok (.enter g args) w)
    (next : ∀ (wx : World) (x : ByteArray), Fr None' w wx → x.size ≤ 1000000000 → Calls Tryz.prog g (#[.string x] ++ vs) wx fun e w' => NextPost (Nx (unB x)) wx e w')
    (small : ∀ k, (Nx k).length ≤ 1000000 ∧ ∀ y ∈ Nx k, y.size ≤ 1000000000) :
    Calls Tryz.prog 33 #[.map (some b), .slice pv n c, .func (.func g) #[] vs] w (ReachPost T Nx (N.map unB) w) := by
  have hlt := hset.lt
  obtain ⟨z, hz⟩ : ∃ z, w.heap.size = z := ⟨_, rfl⟩
  obtain ⟨w1, hw1⟩ : ∃ x, w.alloc (.cells #[.map (some b)] 44) = x := ⟨_, rfl⟩
  have c1 : w1.cell? ⟨z, 0, none⟩ = some (.map (some b)) := by rw [← hw1, ← hz]; simp
  have s1 : w1.heap.size = z + 1 := by rw [← hw1, ← hz]; simp
  have G1 : Fr None' w w1 := hw1 ▸ Fr.alloc None' w _
  generalize hvf : Value.func (.func g) #[] vs = vf
  obtain ⟨w2, hw2⟩ : ∃ x, w1.alloc (.cells #[vf] 58) = x := ⟨_, rfl⟩
  have c2 : w2.cell? ⟨z + 1, 0, none⟩ = some vf := by rw [← hw2, ← s1]; simp
  have s2 : w2.heap.size = z + 2 := by rw [← hw2]; simp [s1]
  have G2 : Fr None' w1 w2 := hw2 ▸ Fr.alloc None' w1 _
  obtain ⟨w3, hw3⟩ : ∃ x, w2.alloc (.map #[] 0) = x := ⟨_, rfl⟩
  have m3 : MAt mkU w3 (z + 2) 0 [] := by rw [← hw3, ← s2]; exact MAt.start w2
  have s3 : w3.heap.size = z + 3 := by rw [← hw3]; simp [s2]
  have G3 : Fr None' w2 w3 := hw3 ▸ Fr.alloc None' w2 _
  obtain ⟨w4, hw4⟩ : ∃ x, w3.alloc (.cells #[.map (some (z + 2))] 70) = x := ⟨_, rfl⟩
  have c4 : w4.cell? ⟨z + 3, 0, none⟩ = some (.map (some (z + 2))) := by rw [← hw4, ← s3]; simp
  have s4 : w4.heap.size = z + 4 := by rw [← hw4]; simp [s3]
  have G4 : Fr None' w3 w4 := hw4 ▸ Fr.alloc None' w3 _
  generalize hvt : Value.func (.func 46) #[] #[.pointer (some ⟨z, 0, none⟩), .pointer (some ⟨z + 3, 0, none⟩), .pointer (some ⟨z + 4, 0, none⟩), .pointer (some ⟨z + 1, 0, none⟩)] = vt
  obtain ⟨w5, hw5⟩ : ∃ x, w4.alloc (.cells #[vt] 71) = x := ⟨_, rfl⟩
  have c5 : w5.cell? ⟨z + 4, 0, none⟩ = some vt := by rw [← hw5, ← s4]; simp
  have G5 : Fr None' w4 w5 := hw5 ▸ Fr.alloc None' w4 _
  have s5 : w5.heap.size = z + 5 := by rw [← hw5]; simp [s4]
  have G15 : Fr None' w w5 := (((G1.then7 G2).then7 G3).then7 G4).then7 G5
  have E : TellEnv w5 T Nx g vs b nn (z + 2) z (z + 3) (z + 4) (z + 1) := {
    cS := (((G2.then7 G3).then7 G4).then7 G5).keepCell c1 (fun e => e)
    cT := G5.keepCell c4 (fun e => e)
    cL := by rw [hvt]; exact c5
    cN := by rw [hvf]; exact ((G3.then7 G4).then7 G5).keepCell c2 (fun e => e)
    off := ⟨by omega, by omega, by omega, by omega, by omega⟩
    set := hset.kept G15
    len := hT
    enters := enters
    next := fun wx x F hx => next wx x (G15.trans F (fun i e => Or.inr (by omega))) hx
    small := small }
  have HQ := toHid8 (tell_any E T.length [] N n c pv w5 (by omega) hn hl hs (hst.kept G15) (Fr.refl _ _) (m3.kept (G4.then7 G5)) (fun k h => by cases h))
  have HG := toHid8 G15
  have HC := toHid8 (G5.keepCell c4 (fun e => e))
  have HZ := toHid8 (show w.heap.size ≤ z + 2 from by omega)
  have HT := toHid8 hT
  have HRi := toHid8 hset.rise
  have HV := toHid8 (show vt = Value.func (.func 46) #[] #[.pointer (some ⟨z, 0, none⟩), .pointer (some ⟨z + 3, 0, none⟩), .pointer (some ⟨z + 4, 0, none⟩), .pointer (some ⟨z + 1, 0, none⟩)] from hvt.symm)
  have hmm := @run_makeMap Tryz.prog
  subst hvf
  subst hvt
  clear hset hT hn hl hs hst enters next small hlt c1 c2 m3 c4 E G1 G2 G3 G4 G5 G15
  go_enter Tryz.func33, Tryz.ntmps33
  go_wp2_with fail
  refine HQ.out.mono ?_
  rintro e w6 ⟨ok, A', rfl, hr, hm, f6⟩
  have HR := toHid8 hr
  have HM := toHid8 hm
  have HF6 := toHid8 (HG.out.trans f6 (fun i e => Or.inr (by have := HZ.out; omega)))
  have c6 := f6.keepCell HC.out (fun (e : z + 3 = z + 2) => by omega)
  clear hr hm f6 c5
  cases ok with
  | false =>
    go_wp2_with fail
    go_ret2
    exact ⟨.inr ⟨HR.out.no rfl, rfl⟩, HF6.out⟩
  | true =>
    have q2 := risingU_any mkU (z + 2) _ A' w6 HM.out (by
      have h1 := sub_len HM.out.rise HRi.out (fun k hk => HR.out.in k hk)
      have h2 := HT.out
      omega)
    go_wp2_with fail
    with_reducible refine q2.mono ?_
    rintro e w7 ⟨v7, rfl, hst, f7⟩
    have hst' := hst
    have HF7 := toHid8 f7
    obtain ⟨pk, ck, rfl, -, -, -⟩ := hst
    have HSt := toHid8 (show StrsAt w7 (.slice pk A'.length ck) ((A'.map (·.1)).map mkB) from by simpa only [List.length_map] using hst')
    clear q2 f7 hst'
    go_wp2_with fail
    go_ret2
    exact ⟨.inl ⟨_, _, HM.out.rise, fun k => (inM_iff HM.out.rise).symm.trans (HR.out.all k), fun k hk => HR.out.in k ((inM_iff HM.out.rise).2 hk), rfl, HSt.out⟩, HF6.out.then7 HF7.out⟩

end Go.Proofs.YtbiilnhefoplkaaGreatDoor
