/-
  What is proved here: the contracts that the statement stands on: DRis14, DHdP14, DHds14, DOrd14, DDnP14, DDwn14, DUpP14, DUpW14, DSaL14, CTelP14, CTelW14. Conditions: as each theorem names them.
-/
import Derived.Test.YtbiilnhefoplkaaGreatDoorMDSor14
import Derived.Test.YtbiilnhefoplkaaGreatDoorM27StrQ14
import Derived.Test.YtbiilnhefoplkaaGreatDoorM1Base
namespace Go.Proofs.YtbiilnhefoplkaaGreatDoor
open Go.RowKit Go.Maps Go.WideMaps
set_option maxRecDepth 100000

theorem DSoPost.rows {w w' : World} {e : Ending} {T : List (Kv Pv)} (h : DSoPost w (some T) e w') : ∃ va c n, e = .returned (.tuple #[.slice va n c, .int .i64 0]) ∧ T.length = n ∧ RowV w' va (T.map (·.2)) ∧ Fr None' w w' := by
  obtain ⟨h1, _, f⟩ := h
  obtain ⟨v, rfl, ho⟩ := h1 T rfl
  obtain ⟨va, c, rfl, _, hr⟩ := ho.rows
  exact ⟨va, c, _, rfl, by rw [List.length_map], hr, f⟩

theorem DSoPost.none {w w' : World} {e : Ending} (h : DSoPost w none e w') : e = .returned (.tuple #[.slice none 0 0, .int .i64 1]) ∧ Fr None' w w' := ⟨h.2.1 rfl, h.2.2⟩

/-- The names of patches that are some. -/
def risL (Y : List Pv) (N : List ByteArray) : List ByteArray := (Y.filter (fun d => hasB N d.x.name)).map (·.x.name)

theorem risL_snoc {Y : List Pv} (N : List ByteArray) {k : Nat} (h : k < Y.length) : risL (Y.take (k + 1)) N = if hasB N Y[k].x.name = true then risL (Y.take k) N ++ [Y[k].x.name] else risL (Y.take k) N := by
  unfold risL
  rw [List.take_succ_eq_append_getElem h, List.filter_append, List.filter_cons, List.filter_nil]
  split
  · rw [List.map_append]; rfl
  · rw [List.append_nil]

theorem risL_len (Y : List Pv) (N : List ByteArray) : (risL Y N).length ≤ Y.length := by
  unfold risL
  rw [List.length_map]
  exact List.length_filter_le _ _

set_option maxHeartbeats 4000000 in
theorem drising14_any (va : Option Addr) (n c : Nat) (Y : List Pv) (pb : Option Addr) (m cb : Nat) (N : List ByteArray) (w : World) (hn : Y.length = n) (hr : RowV w va Y) (hN : n ≤ 1000000) (hm : N.length = m) (hst : StrsAt w (.slice pb m cb) N) (lm : m ≤ 140737488355328) :
    Calls Tryz.prog 35 #[.slice va n c, .slice pb m cb] w fun e w' => ∃ v, e = .returned v ∧ StrsAt w' v (risL Y N) ∧ Fr None' w w' := by
  have HL := toHid8 hn
  have HRow := toHid8 hr
  have HM := toHid8 (And.intro hm lm)
  have HSt := toHid8 hst
  have i0 : (n : Int) ≤ 1000000 := by omega
  have HN := toHid8 hN
  clear hn hr hm hst lm hN
  go_enter Tryz.func35, Tryz.ntmps35
  go_wp2_with fail
  go_loopw [5, 6] (fun vo vi wr => ∃ k : Nat, k ≤ n ∧ vi = .int .i64 k ∧ Hid (OwnS14 w.heap.size wr vo (risL (Y.take k) N)) ∧ Hid (Fr None' w wr)) (fun _ vi _ => n - (intOf vi).toNat)
  case atStart => exact ⟨0, Nat.zero_le _, rfl, OwnS14.nil _ _, Fr.refl _ _⟩
  case round =>
    obtain ⟨k, hk, rfl, HO, HF⟩ := hrel
    by_cases hlt : k < n
    case neg =>
      have ek : Y.take k = Y := List.take_of_length_le (by rw [HL.out]; omega)
      have HO2 := toHid8 (ek ▸ HO.out)
      have i1 : ¬ (k : Int) < (n : Int) := by omega
      clear hlt ek
      go_wp2_with fail
      go_ret
      obtain ⟨_, _, _, _, h⟩ := HO2.out.slice
      exact ⟨_, rfl, h, HF.out⟩
    case pos =>
      have hka : k < Y.length := by rw [HL.out]; exact hlt
      obtain ⟨g, o, rfl, c0, -, -, -⟩ := HRow.out.kept HF.out k _ (List.getElem?_eq_getElem hka)
      have HSn := toHid8 (risL_snoc N hka)
      have HLen := toHid8 (show (risL (Y.take k) N).length ≤ 1000000 from Nat.le_trans (risL_len _ _) (by rw [List.length_take]; have := HN.out; have := HL.out; omega))
      obtain ⟨x, hx⟩ : ∃ x, Y[k].x.name = x := ⟨_, rfl⟩
      rw [hx] at c0 HSn
      have q1 := has14_any pb m cb N x wr HM.out.1 (HSt.out.kept HF.out) HM.out.2
      obtain ⟨b, hb⟩ : ∃ b, hasB N x = b := ⟨_, rfl⟩
      rw [hb] at q1 HSn
      have HC := toHid8 c0
      have i1 : (k : Int) < (n : Int) := by omega
      have i2 : (0 : Int) ≤ (k : Int) := by omega
      have HLt := toHid8 hlt
      clear hka hx hb hlt
      go_wp2_with fail
      refine q1.mono ?_
      rintro e w1 ⟨rfl, f1⟩
      have HF1 := toHid8 (HF.out.then7 f1)
      have HO1 := toHid8 (HO.out.frame f1 (fun _ e => e.elim))
      have c0 := f1.keepCell HC.out (fun e => e)
      clear q1 f1
      cases b with
      | false =>
        go_wp2_with fail
        exact ⟨⟨k + 1, by have := HLt.out; omega, by go_num, by rw [HSn.out]; exact HO1.out, HF1.out⟩, by simp [intOf]; have := HLt.out; omega⟩
      | true =>
        obtain ⟨v6, w6, hr6, hO6, f6⟩ := HO1.out.push x HF1.out.size (by have := HLen.out; omega)
        have HO6 := toHid8 hO6
        have HF6 := toHid8 (HF1.out.trans f6 (fun i e => Or.inr (HO1.out.ge i e)))
        clear hO6 f6
        go_wp2_with (at_builtin; refine app_list9 rfl _ _ rfl rfl rfl hr6 ?_)
        exact ⟨⟨k + 1, by have := HLt.out; omega, by go_num, by rw [HSn.out]; exact HO6.out, HF6.out⟩, by simp [intOf]; have := HLt.out; omega⟩

end Go.Proofs.YtbiilnhefoplkaaGreatDoor

namespace Go.Proofs.YtbiilnhefoplkaaGreatDoor
open Go.RowKit Go.Maps Go.WideMaps
set_option maxRecDepth 100000

/-- Does one of some stand on x? -/
def onL (Y : List Pv) (x : ByteArray) : Bool := Y.any (fun q => hasB q.x.deps x)
/-- The names of patches that none of some stands on. -/
def hdL (A Y : List Pv) : List ByteArray := (A.filter (fun d => !onL Y d.x.name)).map (·.x.name)

theorem onL_snoc {Y : List Pv} (x : ByteArray) {k : Nat} (h : k < Y.length) : onL (Y.take (k + 1)) x = (onL (Y.take k) x || hasB Y[k].x.deps x) := by
  unfold onL
  rw [List.take_succ_eq_append_getElem h, List.any_append, List.any_cons, List.any_nil, Bool.or_false]

theorem hdL_snoc {A : List Pv} (Y : List Pv) {k : Nat} (h : k < A.length) : hdL (A.take (k + 1)) Y = if onL Y A[k].x.name = true then hdL (A.take k) Y else hdL (A.take k) Y ++ [A[k].x.name] := by
  unfold hdL
  rw [List.take_succ_eq_append_getElem h, List.filter_append, List.filter_cons, List.filter_nil]
  by_cases ho : onL Y A[k].x.name = true
  · rw [if_pos ho, if_neg (by rw [ho]; decide), List.append_nil]
  · rw [if_neg ho, if_pos (by simpa using ho), List.map_append]; rfl

theorem hdL_len (A Y : List Pv) : (hdL A Y).length ≤ A.length := by
  unfold hdL
  rw [List.length_map]
  exact List.length_filter_le _ _

theorem delAll_filter {β : Type} : ∀ (D : List ByteArray) (T : List (Kv β)), delAll T D = T.filter (fun t => !(D.map unB).contains t.1)
  | [], T => (List.filter_eq_self.2 (fun _ _ => rfl)).symm
  | d :: D, T => by
    show delAll (delM T (unB d)) D = _
    rw [delAll_filter D (delM T (unB d))]
    unfold delM
    rw [List.filter_filter]
    congr 1
    funext t
    rw [List.map_cons, List.contains_cons, Bool.not_or, Bool.and_comm]

theorem heads_doc {Z : List Pv} {T : List (Kv Pv)} (hZ : setV Z = some T) : headsV Z = some ((hdL (T.map (·.2)) (T.map (·.2))).map unB) := by
  unfold headsV
  rw [hZ]
  show some _ = some _
  congr 1
  show List.map (·.1) (delAll T (depsV Z)) = _
  rw [delAll_filter]
  unfold hdL
  rw [List.map_map, List.filter_map, List.map_map]
  have e : ∀ t ∈ T, (!((depsV Z).map unB).contains t.1) = ((fun d => !onL (T.map (·.2)) d.x.name) ∘ (·.2)) t := fun t ht => by
    obtain ⟨_, hk⟩ := (setV_is hZ t).1 ht
    show _ = !onL (T.map (·.2)) t.2.x.name
    congr 1
    rw [Bool.eq_iff_iff, List.contains_iff_mem, hk]
    unfold onL
    rw [List.any_eq_true]
    constructor
    · intro h
      obtain ⟨y, hy, e⟩ := List.mem_map.1 h
      unfold depsV at hy
      obtain ⟨d, hd, hyd⟩ := List.mem_flatMap.1 hy
      exact ⟨d, List.mem_map.2 ⟨(unB d.x.name, d), (setV_is hZ _).2 ⟨hd, rfl⟩, rfl⟩, hasB_iff.2 (e ▸ List.mem_map.2 ⟨y, hyd, rfl⟩)⟩
    · rintro ⟨d, hd, h⟩
      obtain ⟨s, hs, rfl⟩ := List.mem_map.1 hd
      obtain ⟨y, hy, e⟩ := List.mem_map.1 (hasB_iff.1 h)
      exact List.mem_map.2 ⟨y, List.mem_flatMap.2 ⟨s.2, ((setV_is hZ s).1 hs).1, hy⟩, e⟩
  rw [List.filter_congr e]
  refine List.map_congr_left (fun t ht => ?_)
  exact ((setV_is hZ t).1 (List.mem_filter.1 ht).1).2

end Go.Proofs.YtbiilnhefoplkaaGreatDoor

namespace Go.Proofs.YtbiilnhefoplkaaGreatDoor
open Go.RowKit Go.Maps Go.WideMaps
set_option maxRecDepth 100000

/-- What is known of the rows that the document's Sorted hands back. -/
structure RowsT (Z : List Pv) (T : List (Kv Pv)) (n : Nat) : Prop where
  len : T.length = n
  max : n ≤ 256
  deps : ∀ t ∈ T, t.2.x.deps.length ≤ 1000000 ∧ ∀ y ∈ t.2.x.deps, y.size ≤ 1000000000
  name : ∀ t ∈ T, t.1 = unB t.2.x.name

theorem rows_of {Z : List Pv} {T : List (Kv Pv)} {n : Nat} (hZ : setV Z = some T) (hs : ∀ d ∈ Z, SmallPa d.x) (hn : T.length = n) : RowsT Z T n :=
  ⟨hn, by rw [← hn]; exact setV_len hZ, fun t ht => (hs _ ((setV_is hZ t).1 ht).1).deps, fun t ht => ((setV_is hZ t).1 ht).2⟩

structure RHd (w : World) (g o m c1 j k : Nat) (pu : Option Addr) (nd cu : Nat) (x : ByteArray) (b y : Bool) (t0 t1 t2 t3 t4 t5 t6 t7 t8 t9 t10 t11 t12 t13 t14 : Value) (S : Nat → Bool) (w' : World) : Prop where
  fr : Fr None' w w'
  o0 : S 0 = true → t0 = .bool b
  o1 : S 1 = true → t1 = .bool b
  o2 : S 2 = true → t2 = bif b then undef else .slice (some ⟨g, o, none⟩) m c1
  o3 : S 3 = true → t3 = bif b then undef else .int .i64 j
  o4 : S 4 = true → t4 = bif b then undef else .pointer (some ⟨g, o + j * 3, none⟩)
  o5 : S 5 = true → t5 = bif b then undef else .pointer (some ⟨g, o + j * 3 + 1, none⟩)
  o6 : S 6 = true → t6 = bif b then undef else .slice pu nd cu
  o7 : S 7 = true → t7 = bif b then undef else .slice (some ⟨g, o, none⟩) m c1
  o8 : S 8 = true → t8 = bif b then undef else .int .i64 k
  o9 : S 9 = true → t9 = bif b then undef else .pointer (some ⟨g, o + k * 3, none⟩)
  o10 : S 10 = true → t10 = bif b then undef else .pointer (some ⟨g, o + k * 3, none⟩)
  o11 : S 11 = true → t11 = bif b then undef else .string x
  o12 : S 12 = true → t12 = bif b then undef else .bool y
  o13 : S 13 = true → t13 = .bool (b || y)
  o14 : S 14 = true → t14 = .bool (b || y)
  q14 : S 14 = false → t14 = .bool b
  p14_0 : S 14 = true → S 0 = true

def RHdI (w : World) (g o m c1 j k : Nat) (pu : Option Addr) (nd cu : Nat) (x : ByteArray) (b y : Bool) (T : Value → Value → Value → Value → Value → Value → Value → Value → Value → Value → Value → Value → Value → Value → Value → Array Value) (S : Nat → Bool) (a : Act) (w' : World) : Prop := ∃ t0 t1 t2 t3 t4 t5 t6 t7 t8 t9 t10 t11 t12 t13 t14, a = { tmps := T t0 t1 t2 t3 t4 t5 t6 t7 t8 t9 t10 t11 t12 t13 t14, defers := [] } ∧ RHd w g o m c1 j k pu nd cu x b y t0 t1 t2 t3 t4 t5 t6 t7 t8 t9 t10 t11 t12 t13 t14 S w'

set_option maxHeartbeats 8000000 in
theorem dheads14_any (va : Option Addr) (n c : Nat) (Z : List Pv) (w : World) (hn : Z.length = n) (hr : RowV w va Z) (hN : n ≤ 1000000) (hs : ∀ d ∈ Z, SmallPa d.x) :
    Calls Tryz.prog 20 #[.slice va n c] w fun e w' => NamesPost w (headsV Z) 1 e w' := by
  have q1 := dsorted14_any va n c Z w hn hr hN hs
  obtain ⟨R, hR⟩ : ∃ R, setV Z = R := ⟨_, rfl⟩
  have HR := toHid8 hR
  have HS := toHid8 hs
  rw [hR] at q1
  clear hr hs hN hn
  go_enter Tryz.func20, Tryz.ntmps20
  go_wp2_with fail
  refine q1.mono ?_
  intro e w1 hP
  clear q1
  cases R with
  | none =>
    obtain ⟨rfl, f1⟩ := hP.none
    have hH : headsV Z = none := by unfold headsV; rw [HR.out]; rfl
    have HH := toHid8 hH
    clear hP hH hR
    go_wp2_with fail
    go_ret2
    exact ⟨fun K e => (by rw [HH.out] at e; cases e), fun _ => rfl, f1⟩
  | some T =>
    obtain ⟨vb, c1, m, rfl, hm, hrw, f1⟩ := hP.rows
    have HT := toHid8 (rows_of HR.out HS.out hm)
    have HH := toHid8 (heads_doc HR.out)
    obtain ⟨Y, hY⟩ : ∃ Y, T.map (·.2) = Y := ⟨_, rfl⟩
    have HYl := toHid8 (show Y.length = m from by rw [← hY, List.length_map]; exact hm)
    have HYd := toHid8 (show ∀ d ∈ Y, d.x.deps.length ≤ 1000000 from fun d hd => by
      rw [← hY] at hd
      obtain ⟨t, ht, rfl⟩ := List.mem_map.1 hd
      exact (HT.out.deps t ht).1)
    rw [hY] at hrw HH
    have HRow := toHid8 hrw
    have HF1 := toHid8 f1
    have i0 : (m : Int) ≤ 256 := by have := HT.out.max; omega
    clear hP hm hrw f1 hY hR
    go_wp2_with fail
    go_loopw [5, 6] (fun vo vi wr => ∃ k : Nat, k ≤ m ∧ vi = .int .i64 k ∧ Hid (OwnS14 w1.heap.size wr vo (hdL (Y.take k) Y)) ∧ Hid (Fr None' w1 wr)) (fun _ vi _ => m - (intOf vi).toNat)
    case atStart => exact ⟨0, Nat.zero_le _, rfl, OwnS14.nil _ _, Fr.refl _ _⟩
    case round =>
      obtain ⟨k, hk, rfl, HO, HF⟩ := hrel
      by_cases hlt : k < m
      case neg =>
        have ek : Y.take k = Y := List.take_of_length_le (by rw [HYl.out]; omega)
        have HO2 := toHid8 (ek ▸ HO.out)
        have i1 : ¬ (k : Int) < (m : Int) := by omega
        clear hlt ek
        go_wp2_with fail
        go_ret2
        obtain ⟨_, _, _, _, h⟩ := HO2.out.slice
        refine ⟨fun K e => ?_, fun e => (by rw [HH.out] at e; cases e), HF1.out.then7 HF.out⟩
        rw [HH.out] at e
        injection e with e
        subst e
        exact ⟨_, rfl, by rw [mk_uns]; exact h⟩
      case pos =>
        have hka : k < Y.length := by rw [HYl.out]; exact hlt
        obtain ⟨g, o, rfl, c0, -, -, -⟩ := HRow.out.kept HF.out k _ (List.getElem?_eq_getElem hka)
        have HSn := toHid8 (hdL_snoc Y hka)
        have HLen := toHid8 (show (hdL (Y.take k) Y).length ≤ 1000000 from Nat.le_trans (hdL_len _ _) (by rw [List.length_take]; have := HT.out.max; have := HYl.out; omega))
        obtain ⟨x, hx⟩ : ∃ x, Y[k].x.name = x := ⟨_, rfl⟩
        rw [hx] at c0 HSn
        have HC := toHid8 c0
        have i1 : (k : Int) < (m : Int) := by omega
        have i2 : (0 : Int) ≤ (k : Int) := by omega
        have HLt := toHid8 hlt
        obtain ⟨wo, hwo⟩ : ∃ y, y = wr := ⟨_, rfl⟩
        have HFo := toHid8 (show Fr None' w1 wo from by rw [hwo]; exact HF.out)
        have HOo := toHid8 (show OwnS14 w1.heap.size wo u5 (hdL (Y.take k) Y) from by rw [hwo]; exact HO.out)
        have HCo := toHid8 (show wo.cell? ⟨g, o + k * 3, none⟩ = some (.string x) from by rw [hwo]; exact HC.out)
        have HF0 := toHid8 (show Fr None' wo wr from by rw [hwo]; exact Fr.refl _ _)
        clear hka hx hlt c0 HC HF HO hwo
        go_wp2_with fail
        go_loopw [7, 8] (fun vb vj w2 => ∃ (j : Nat) (b : Bool), j ≤ m ∧ vj = .int .i64 j ∧ vb = .bool b ∧ Hid (b = onL (Y.take j) x) ∧ Hid (Fr None' wo w2)) (fun _ vj _ => m - (intOf vj).toNat)
        case atStart => exact ⟨0, false, Nat.zero_le _, rfl, rfl, rfl, HF0.out⟩
        case round =>
          obtain ⟨j, b, hj, rfl, rfl, HB, HF2⟩ := hrel
          have c0 := HF2.out.keepCell HCo.out (fun e => e)
          by_cases hjt : j < m
          case neg =>
            have ej : Y.take j = Y := List.take_of_length_le (by rw [HYl.out]; omega)
            have hB := HB.out
            rw [ej] at hB
            have hSn := HSn.out
            rw [← hB] at hSn
            have HSn2 := toHid8 hSn
            have HO2 := toHid8 (HOo.out.frame HF2.out (fun _ e => e.elim))
            have i3 : ¬ (j : Int) < (m : Int) := by omega
            clear hjt ej hB hSn
            cases b with
            | true =>
              go_wp2_with fail
              exact ⟨⟨k + 1, by have := HLt.out; omega, by go_num, by rw [HSn2.out]; exact HO2.out, HFo.out.then7 HF2.out⟩, by simp [intOf]; have := HLt.out; omega⟩
            | false =>
              obtain ⟨v6, w6, hr6, hO6, f6⟩ := HO2.out.push x (HFo.out.then7 HF2.out).size (by have := HLen.out; omega)
              have HO6 := toHid8 hO6
              have HF6 := toHid8 ((HFo.out.then7 HF2.out).trans f6 (fun i e => Or.inr (HO2.out.ge i e)))
              clear hO6 f6
              go_wp2_with (at_builtin; refine app_list9 rfl _ _ rfl rfl rfl hr6 ?_)
              exact ⟨⟨k + 1, by have := HLt.out; omega, by go_num, by rw [HSn2.out]; exact HO6.out, HF6.out⟩, by simp [intOf]; have := HLt.out; omega⟩
          case pos =>
            have hja : j < Y.length := by rw [HYl.out]; exact hjt
            obtain ⟨g1, o1, hv, -, e1, -, hin⟩ := HRow.out.kept (HFo.out.then7 HF2.out) j _ (List.getElem?_eq_getElem hja)
            cases hv
            have HOn := toHid8 (onL_snoc x hja)
            have hdl := HYd.out _ (List.getElem_mem hja)
            obtain ⟨d, hd⟩ : ∃ d, Y[j] = d := ⟨_, rfl⟩
            rw [hd] at e1 hin HOn hdl
            obtain ⟨nd, hnd⟩ : ∃ y, d.x.deps.length = y := ⟨_, rfl⟩
            have hdp := hin.deps
            rw [hnd] at e1 hdp hdl
            have HHas := toHid8 (fun wy (f : Fr None' wr wy) => has14_any d.pu nd d.cu _ x wy hnd (hdp.kept f) (by omega))
            obtain ⟨bY, hbY⟩ : ∃ z, hasB d.x.deps x = z := ⟨_, rfl⟩
            rw [hbY] at HHas HOn
            rw [← HB.out] at HOn
            have HE1 := toHid8 e1
            have HC0 := toHid8 c0
            have i3 : (j : Int) < (m : Int) := by omega
            have i4 : (0 : Int) ≤ (j : Int) := by omega
            have HJt := toHid8 hjt
            clear hja hd hnd hdp hin hbY hjt hdl c0 e1
            go_wp2_with fail
            refine (wpIn_wide (n := 1)).1 (region_inv_g (by kernel_rfl) rfl (by decide +kernel) (RHdI wr g o m c1 j k d.pu nd d.cu x b bY (fun t0 t1 t2 t3 t4 t5 t6 t7 t8 t9 t10 t11 t12 t13 t14 => #[Value.slice (some { block := g, off := o }) m c1, undef, Value.slice none 0 0, Value.int IntKind.i64 0, Value.int IntKind.i64 0, u5, Value.int IntKind.i64 ↑k, t14, Value.int IntKind.i64 ↑j, Value.tuple #[Value.slice (some { block := g, off := o }) m c1, Value.int IntKind.i64 0], Value.slice va n c, Value.tuple #[Value.slice (some { block := g, off := o }) m c1, Value.int IntKind.i64 0], Value.slice (some { block := g, off := o }) m c1, Value.int IntKind.i64 0, Value.int IntKind.i64 0, Value.bool false, undef, Value.int IntKind.i64 ↑k, Value.slice (some { block := g, off := o }) m c1, Value.int IntKind.i64 ↑m, Value.bool true, u21, u22, Value.int IntKind.i64 ↑j, Value.slice (some { block := g, off := o }) m c1, Value.int IntKind.i64 ↑m, Value.bool true, u27, u28, t0, t1, t2, t3, t4, t5, t6, t7, t8, t9, t10, t11, t12, t13, u43, u44, u45, u46, u47, u48, u49, u50, u51, u52, undef])) ?h0 ?step ?done)
            case h0 => exact ⟨u29, u30, u31, u32, u33, u34, u35, u36, u37, u38, u39, u40, u41, u42, Value.bool b, rfl, Fr.drew None' wr, (fun h => by cases h), (fun h => by cases h), (fun h => by cases h), (fun h => by cases h), (fun h => by cases h), (fun h => by cases h), (fun h => by cases h), (fun h => by cases h), (fun h => by cases h), (fun h => by cases h), (fun h => by cases h), (fun h => by cases h), (fun h => by cases h), (fun h => by cases h), (fun h => by cases h), (fun _ => rfl), (fun h => by cases h)⟩
            case step =>
              rintro S a w' ⟨t0, t1, t2, t3, t4, t5, t6, t7, t8, t9, t10, t11, t12, t13, t14, rfl, R⟩
              dsimp only
              refine StepsG.cons (fun h0 hd => ?s0) (StepsG.cons (fun h0 hd => ?s1) (StepsG.cons (fun h0 hd => ?s2) (StepsG.cons (fun h0 hd => ?s3) (StepsG.cons (fun h0 hd => ?s4) (StepsG.cons (fun h0 hd => ?s5) (StepsG.cons (fun h0 hd => ?s6) (StepsG.cons (fun h0 hd => ?s7) (StepsG.cons (fun h0 hd => ?s8) (StepsG.cons (fun h0 hd => ?s9) (StepsG.cons (fun h0 hd => ?s10) (StepsG.cons (fun h0 hd => ?s11) (StepsG.cons (fun h0 hd => ?s12) (StepsG.cons (fun h0 hd => ?s13) (StepsG.cons (fun h0 hd => ?s14) (StepsG.nil)))))))))))))))
              case s0 =>
               as_aux_lemma =>
                have s14 : S 14 = false := by
                  cases hs : S 14 with
                  | false => rfl
                  | true => exact absurd (R.p14_0 hs) (by rw [h0]; decide)
                have e14 := R.q14 s14
                subst e14
                clear hd h0
                refine StepG.want rfl ?_
                go_simp
                exact ⟨_, _, _, _, _, _, _, _, _, _, _, _, _, _, _, rfl, R.fr, (fun _ => rfl), R.o1, R.o2, R.o3, R.o4, R.o5, R.o6, R.o7, R.o8, R.o9, R.o10, R.o11, R.o12, R.o13, R.o14, R.q14, (fun _ => rfl)⟩
              case s1 =>
               as_aux_lemma =>
                have k0 : S 0 = true := hd { on := 0, ground := .data } (by simp) rfl
                have e0 := R.o0 k0
                subst e0
                clear hd h0 k0
                refine StepG.want rfl ?_
                go_simp
                exact ⟨_, _, _, _, _, _, _, _, _, _, _, _, _, _, _, rfl, R.fr, (fun _ => rfl), (fun _ => rfl), R.o2, R.o3, R.o4, R.o5, R.o6, R.o7, R.o8, R.o9, R.o10, R.o11, R.o12, R.o13, R.o14, R.q14, R.p14_0⟩
              case s2 =>
               as_aux_lemma =>
                have k1 : S 1 = true := hd { on := 1, ground := .guard } (by simp) rfl
                have e1 := R.o1 k1
                subst e1
                clear hd h0 k1
                cases b
                all_goals
                  try simp only [cond_true, cond_false]
                  first
                  | (
                      refine StepG.want rfl ?_
                      go_simp
                      exact ⟨_, _, _, _, _, _, _, _, _, _, _, _, _, _, _, rfl, R.fr, R.o0, (fun _ => rfl), (fun _ => rfl), R.o3, R.o4, R.o5, R.o6, R.o7, R.o8, R.o9, R.o10, R.o11, R.o12, R.o13, R.o14, R.q14, R.p14_0⟩)
                  | (
                      refine StepG.none rfl ?_
                      exact ⟨_, _, _, _, _, _, _, _, _, _, _, _, _, _, _, rfl, R.fr, R.o0, (fun _ => rfl), (fun _ => rfl), R.o3, R.o4, R.o5, R.o6, R.o7, R.o8, R.o9, R.o10, R.o11, R.o12, R.o13, R.o14, R.q14, R.p14_0⟩)
              case s3 =>
               as_aux_lemma =>
                have k1 : S 1 = true := hd { on := 1, ground := .guard } (by simp) rfl
                have e1 := R.o1 k1
                subst e1
                clear hd h0 k1
                cases b
                all_goals
                  try simp only [cond_true, cond_false]
                  first
                  | (
                      refine StepG.want rfl ?_
                      go_simp
                      exact ⟨_, _, _, _, _, _, _, _, _, _, _, _, _, _, _, rfl, R.fr, R.o0, (fun _ => rfl), R.o2, (fun _ => rfl), R.o4, R.o5, R.o6, R.o7, R.o8, R.o9, R.o10, R.o11, R.o12, R.o13, R.o14, R.q14, R.p14_0⟩)
                  | (
                      refine StepG.none rfl ?_
                      exact ⟨_, _, _, _, _, _, _, _, _, _, _, _, _, _, _, rfl, R.fr, R.o0, (fun _ => rfl), R.o2, (fun _ => rfl), R.o4, R.o5, R.o6, R.o7, R.o8, R.o9, R.o10, R.o11, R.o12, R.o13, R.o14, R.q14, R.p14_0⟩)
              case s4 =>
               as_aux_lemma =>
                have k2 : S 2 = true := hd { on := 2, ground := .data } (by simp) rfl
                have e2 := R.o2 k2
                subst e2
                have k3 : S 3 = true := hd { on := 3, ground := .data } (by simp) rfl
                have e3 := R.o3 k3
                subst e3
                have k1 : S 1 = true := hd { on := 1, ground := .guard } (by simp) rfl
                have e1 := R.o1 k1
                subst e1
                clear hd h0 k2 k3 k1
                cases b
                all_goals
                  try simp only [cond_true, cond_false]
                  first
                  | (
                      refine StepG.want rfl ?_
                      go_simp
                      exact ⟨_, _, _, _, _, _, _, _, _, _, _, _, _, _, _, rfl, R.fr, R.o0, (fun _ => rfl), (fun _ => rfl), (fun _ => rfl), (fun _ => rfl), R.o5, R.o6, R.o7, R.o8, R.o9, R.o10, R.o11, R.o12, R.o13, R.o14, R.q14, R.p14_0⟩)
                  | (
                      refine StepG.none rfl ?_
                      exact ⟨_, _, _, _, _, _, _, _, _, _, _, _, _, _, _, rfl, R.fr, R.o0, (fun _ => rfl), (fun _ => rfl), (fun _ => rfl), (fun _ => rfl), R.o5, R.o6, R.o7, R.o8, R.o9, R.o10, R.o11, R.o12, R.o13, R.o14, R.q14, R.p14_0⟩)
              case s5 =>
               as_aux_lemma =>
                have k4 : S 4 = true := hd { on := 4, ground := .data } (by simp) rfl
                have e4 := R.o4 k4
                subst e4
                have k1 : S 1 = true := hd { on := 1, ground := .guard } (by simp) rfl
                have e1 := R.o1 k1
                subst e1
                clear hd h0 k4 k1
                cases b
                all_goals
                  try simp only [cond_true, cond_false]
                  first
                  | (
                      refine StepG.want rfl ?_
                      go_simp
                      exact ⟨_, _, _, _, _, _, _, _, _, _, _, _, _, _, _, rfl, R.fr, R.o0, (fun _ => rfl), R.o2, R.o3, (fun _ => rfl), (fun _ => rfl), R.o6, R.o7, R.o8, R.o9, R.o10, R.o11, R.o12, R.o13, R.o14, R.q14, R.p14_0⟩)
                  | (
                      refine StepG.none rfl ?_
                      exact ⟨_, _, _, _, _, _, _, _, _, _, _, _, _, _, _, rfl, R.fr, R.o0, (fun _ => rfl), R.o2, R.o3, (fun _ => rfl), (fun _ => rfl), R.o6, R.o7, R.o8, R.o9, R.o10, R.o11, R.o12, R.o13, R.o14, R.q14, R.p14_0⟩)
              case s6 =>
               as_aux_lemma =>
                have k5 : S 5 = true := hd { on := 5, ground := .data } (by simp) rfl
                have e5 := R.o5 k5
                subst e5
                have k1 : S 1 = true := hd { on := 1, ground := .guard } (by simp) rfl
                have e1 := R.o1 k1
                subst e1
                clear hd h0 k5 k1
                cases b
                all_goals
                  try simp only [cond_true, cond_false]
                  first
                  | (
                      refine StepG.want rfl ?_
                      have q0 := R.fr.keepCell HE1.out (fun e => e)
                      go_simp
                      exact ⟨_, _, _, _, _, _, _, _, _, _, _, _, _, _, _, rfl, R.fr, R.o0, (fun _ => rfl), R.o2, R.o3, R.o4, (fun _ => rfl), (fun _ => rfl), R.o7, R.o8, R.o9, R.o10, R.o11, R.o12, R.o13, R.o14, R.q14, R.p14_0⟩)
                  | (
                      refine StepG.none rfl ?_
                      exact ⟨_, _, _, _, _, _, _, _, _, _, _, _, _, _, _, rfl, R.fr, R.o0, (fun _ => rfl), R.o2, R.o3, R.o4, (fun _ => rfl), (fun _ => rfl), R.o7, R.o8, R.o9, R.o10, R.o11, R.o12, R.o13, R.o14, R.q14, R.p14_0⟩)
              case s7 =>
               as_aux_lemma =>
                have k1 : S 1 = true := hd { on := 1, ground := .guard } (by simp) rfl
                have e1 := R.o1 k1
                subst e1
                clear hd h0 k1
                cases b
                all_goals
                  try simp only [cond_true, cond_false]
                  first
                  | (
                      refine StepG.want rfl ?_
                      go_simp
                      exact ⟨_, _, _, _, _, _, _, _, _, _, _, _, _, _, _, rfl, R.fr, R.o0, (fun _ => rfl), R.o2, R.o3, R.o4, R.o5, R.o6, (fun _ => rfl), R.o8, R.o9, R.o10, R.o11, R.o12, R.o13, R.o14, R.q14, R.p14_0⟩)
                  | (
                      refine StepG.none rfl ?_
                      exact ⟨_, _, _, _, _, _, _, _, _, _, _, _, _, _, _, rfl, R.fr, R.o0, (fun _ => rfl), R.o2, R.o3, R.o4, R.o5, R.o6, (fun _ => rfl), R.o8, R.o9, R.o10, R.o11, R.o12, R.o13, R.o14, R.q14, R.p14_0⟩)
              case s8 =>
               as_aux_lemma =>
                have k1 : S 1 = true := hd { on := 1, ground := .guard } (by simp) rfl
                have e1 := R.o1 k1
                subst e1
                clear hd h0 k1
                cases b
                all_goals
                  try simp only [cond_true, cond_false]
                  first
                  | (
                      refine StepG.want rfl ?_
                      go_simp
                      exact ⟨_, _, _, _, _, _, _, _, _, _, _, _, _, _, _, rfl, R.fr, R.o0, (fun _ => rfl), R.o2, R.o3, R.o4, R.o5, R.o6, R.o7, (fun _ => rfl), R.o9, R.o10, R.o11, R.o12, R.o13, R.o14, R.q14, R.p14_0⟩)
                  | (
                      refine StepG.none rfl ?_
                      exact ⟨_, _, _, _, _, _, _, _, _, _, _, _, _, _, _, rfl, R.fr, R.o0, (fun _ => rfl), R.o2, R.o3, R.o4, R.o5, R.o6, R.o7, (fun _ => rfl), R.o9, R.o10, R.o11, R.o12, R.o13, R.o14, R.q14, R.p14_0⟩)
              case s9 =>
               as_aux_lemma =>
                have k7 : S 7 = true := hd { on := 7, ground := .data } (by simp) rfl
                have e7 := R.o7 k7
                subst e7
                have k8 : S 8 = true := hd { on := 8, ground := .data } (by simp) rfl
                have e8 := R.o8 k8
                subst e8
                have k1 : S 1 = true := hd { on := 1, ground := .guard } (by simp) rfl
                have e1 := R.o1 k1
                subst e1
                clear hd h0 k7 k8 k1
                cases b
                all_goals
                  try simp only [cond_true, cond_false]
                  first
                  | (
                      refine StepG.want rfl ?_
                      go_simp
                      exact ⟨_, _, _, _, _, _, _, _, _, _, _, _, _, _, _, rfl, R.fr, R.o0, (fun _ => rfl), R.o2, R.o3, R.o4, R.o5, R.o6, (fun _ => rfl), (fun _ => rfl), (fun _ => rfl), R.o10, R.o11, R.o12, R.o13, R.o14, R.q14, R.p14_0⟩)
                  | (
                      refine StepG.none rfl ?_
                      exact ⟨_, _, _, _, _, _, _, _, _, _, _, _, _, _, _, rfl, R.fr, R.o0, (fun _ => rfl), R.o2, R.o3, R.o4, R.o5, R.o6, (fun _ => rfl), (fun _ => rfl), (fun _ => rfl), R.o10, R.o11, R.o12, R.o13, R.o14, R.q14, R.p14_0⟩)
              case s10 =>
               as_aux_lemma =>
                have k9 : S 9 = true := hd { on := 9, ground := .data } (by simp) rfl
                have e9 := R.o9 k9
                subst e9
                have k1 : S 1 = true := hd { on := 1, ground := .guard } (by simp) rfl
                have e1 := R.o1 k1
                subst e1
                clear hd h0 k9 k1
                cases b
                all_goals
                  try simp only [cond_true, cond_false]
                  first
                  | (
                      refine StepG.want rfl ?_
                      go_simp
                      exact ⟨_, _, _, _, _, _, _, _, _, _, _, _, _, _, _, rfl, R.fr, R.o0, (fun _ => rfl), R.o2, R.o3, R.o4, R.o5, R.o6, R.o7, R.o8, (fun _ => rfl), (fun _ => rfl), R.o11, R.o12, R.o13, R.o14, R.q14, R.p14_0⟩)
                  | (
                      refine StepG.none rfl ?_
                      exact ⟨_, _, _, _, _, _, _, _, _, _, _, _, _, _, _, rfl, R.fr, R.o0, (fun _ => rfl), R.o2, R.o3, R.o4, R.o5, R.o6, R.o7, R.o8, (fun _ => rfl), (fun _ => rfl), R.o11, R.o12, R.o13, R.o14, R.q14, R.p14_0⟩)
              case s11 =>
               as_aux_lemma =>
                have k10 : S 10 = true := hd { on := 10, ground := .data } (by simp) rfl
                have e10 := R.o10 k10
                subst e10
                have k1 : S 1 = true := hd { on := 1, ground := .guard } (by simp) rfl
                have e1 := R.o1 k1
                subst e1
                clear hd h0 k10 k1
                cases b
                all_goals
                  try simp only [cond_true, cond_false]
                  first
                  | (
                      refine StepG.want rfl ?_
                      have q0 := R.fr.keepCell HC0.out (fun e => e)
                      go_simp
                      exact ⟨_, _, _, _, _, _, _, _, _, _, _, _, _, _, _, rfl, R.fr, R.o0, (fun _ => rfl), R.o2, R.o3, R.o4, R.o5, R.o6, R.o7, R.o8, R.o9, (fun _ => rfl), (fun _ => rfl), R.o12, R.o13, R.o14, R.q14, R.p14_0⟩)
                  | (
                      refine StepG.none rfl ?_
                      exact ⟨_, _, _, _, _, _, _, _, _, _, _, _, _, _, _, rfl, R.fr, R.o0, (fun _ => rfl), R.o2, R.o3, R.o4, R.o5, R.o6, R.o7, R.o8, R.o9, (fun _ => rfl), (fun _ => rfl), R.o12, R.o13, R.o14, R.q14, R.p14_0⟩)
              case s12 =>
               as_aux_lemma =>
                have k6 : S 6 = true := hd { on := 6, ground := .data } (by simp) rfl
                have e6 := R.o6 k6
                subst e6
                have k11 : S 11 = true := hd { on := 11, ground := .data } (by simp) rfl
                have e11 := R.o11 k11
                subst e11
                have k1 : S 1 = true := hd { on := 1, ground := .guard } (by simp) rfl
                have e1 := R.o1 k1
                subst e1
                clear hd h0 k6 k11 k1
                cases b
                all_goals
                  try simp only [cond_true, cond_false]
                  first
                  | (
                      refine StepG.want rfl ?_
                      go_simp
                      refine ⟨trivial, (callsIn_wide.2 (HHas.out w' R.fr)).mono ?_⟩
                      rintro e w'' ⟨rfl, f⟩
                      exact ⟨_, _, _, _, _, _, _, _, _, _, _, _, _, _, _, rfl, R.fr.then7 f, R.o0, (fun _ => rfl), R.o2, R.o3, R.o4, R.o5, (fun _ => rfl), R.o7, R.o8, R.o9, R.o10, (fun _ => rfl), (fun _ => rfl), R.o13, R.o14, R.q14, R.p14_0⟩)
                  | (
                      refine StepG.none rfl ?_
                      exact ⟨_, _, _, _, _, _, _, _, _, _, _, _, _, _, _, rfl, R.fr, R.o0, (fun _ => rfl), R.o2, R.o3, R.o4, R.o5, (fun _ => rfl), R.o7, R.o8, R.o9, R.o10, (fun _ => rfl), (fun _ => rfl), R.o13, R.o14, R.q14, R.p14_0⟩)
              case s13 =>
               as_aux_lemma =>
                have k1 : S 1 = true := hd { on := 1, ground := .data } (by simp) rfl
                have e1 := R.o1 k1
                subst e1
                have k12 : S 12 = true := hd { on := 12, ground := .data } (by simp) rfl
                have e12 := R.o12 k12
                subst e12
                clear hd h0 k1 k12
                cases b
                all_goals
                  try simp only [cond_true, cond_false]
                  refine StepG.want rfl ?_
                  go_simp
                  exact ⟨_, _, _, _, _, _, _, _, _, _, _, _, _, _, _, rfl, R.fr, R.o0, (fun _ => rfl), R.o2, R.o3, R.o4, R.o5, R.o6, R.o7, R.o8, R.o9, R.o10, R.o11, (fun _ => rfl), (fun _ => rfl), R.o14, R.q14, R.p14_0⟩
              case s14 =>
               as_aux_lemma =>
                have k13 : S 13 = true := hd { on := 13, ground := .data } (by simp) rfl
                have e13 := R.o13 k13
                subst e13
                have kp0 : S 0 = true := hd { on := 0, ground := .phase } (by simp) rfl
                clear hd h0 k13
                refine StepG.want rfl ?_
                go_simp
                exact ⟨_, _, _, _, _, _, _, _, _, _, _, _, _, _, _, rfl, R.fr, R.o0, R.o1, R.o2, R.o3, R.o4, R.o5, R.o6, R.o7, R.o8, R.o9, R.o10, R.o11, R.o12, (fun _ => rfl), (fun _ => rfl), (fun h => by cases h), (fun _ => kp0)⟩
            case done =>
              rintro S a w' ⟨t0, t1, t2, t3, t4, t5, t6, t7, t8, t9, t10, t11, t12, t13, t14, rfl, R⟩ hall
              dsimp only
              have e14 := R.o14 (hall 14 (by simp))
              subst e14
              have HFn := toHid8 (HF2.out.then7 R.fr)
              clear R hall
              go_wp2_with fail
              exact ⟨⟨j + 1, _, by have := HJt.out; omega, by go_num, rfl, HOn.out.symm, HFn.out⟩, by simp [intOf]; have := HJt.out; omega⟩
end Go.Proofs.YtbiilnhefoplkaaGreatDoor

namespace Go.Proofs.YtbiilnhefoplkaaGreatDoor
open Go.RowKit Go.Maps Go.WideMaps
set_option maxRecDepth 100000

theorem ready_row {T : List (Kv Pv)} {O : List B13} {t : Kv Pv} (hT : RiseM T) (ht : t ∈ T) (hk : t.1 = unB t.2.x.name) : readyV T O t.1 = (!hasB (O.map mkB) t.2.x.name && t.2.x.deps.all (hasB (O.map mkB))) := by
  unfold readyV downN
  rw [hT.get ht]
  have e : ∀ s : ByteArray, hasB (O.map mkB) s = decide (unB s ∈ O) := fun s => by unfold hasB; rw [un_mks]
  show (decide (t.1 ∉ O) && (t.2.x.deps.map unB).all fun d => decide (d ∈ O)) = _
  rw [List.all_map, e, hk]
  congr 1
  · by_cases h : unB t.2.x.name ∈ O <;> simp [h]
  · congr 1
    funext s
    exact (e s).symm

theorem next_none14 {T : List (Kv Pv)} {O : List B13} (h : ∀ t ∈ T, readyV T O t.1 = false) : ordNext T O = none := by
  unfold ordNext
  rw [List.find?_eq_none]
  intro k hk
  obtain ⟨t, ht, rfl⟩ := List.mem_map.1 hk
  rw [h t ht]
  decide

theorem next_some14 {T : List (Kv Pv)} {O : List B13} {j : Nat} (hj : j < T.length) (h : ∀ t ∈ T.take j, readyV T O t.1 = false) (hr : readyV T O T[j].1 = true) : ordNext T O = some T[j].1 := by
  unfold ordNext
  rw [List.find?_eq_some_iff_append]
  refine ⟨hr, (T.map (·.1)).take j, (T.map (·.1)).drop (j + 1), ?_, fun a ha => ?_⟩
  · have : T[j].1 = (T.map (·.1))[j]'(by rw [List.length_map]; exact hj) := by rw [List.getElem_map]
    rw [this, ← List.drop_eq_getElem_cons, List.take_append_drop]
  · rw [← List.map_take] at ha
    obtain ⟨t, ht, rfl⟩ := List.mem_map.1 ha
    rw [h t ht]; rfl

theorem name_some14 {Z : List Pv} {T : List (Kv Pv)} (hZ : setV Z = some T) : ∀ t ∈ T, t.2.x.name ≠ ⟨#[]⟩ := fun t ht e => by
  have hr := (setV_some.1 (by rw [hZ]; rfl)).2.1 _ ((setV_is hZ t).1 ht).1
  unfold rightPa at hr
  simp only [Bool.and_eq_true] at hr
  have hl := hr.1.1
  rw [e] at hl
  exact absurd hl (by decide)

theorem not_empty14 {x : ByteArray} (h : x ≠ ⟨#[]⟩) : x.toList.isEmpty = false := by
  rw [List.isEmpty_eq_false_iff, ByteArray.toList_eq]
  intro e
  apply h
  have e2 : unB x = unB ⟨#[]⟩ := e
  exact unB_inj e2

set_option maxHeartbeats 8000000 in
theorem dorder14_any (va : Option Addr) (n c : Nat) (Z : List Pv) (w : World) (hn : Z.length = n) (hr : RowV w va Z) (hN : n ≤ 1000000) (hs : ∀ d ∈ Z, SmallPa d.x) :
    Calls Tryz.prog 12 #[.slice va n c] w fun e w' => OrdPost w (setV Z) e w' := by
  have q1 := dsorted14_any va n c Z w hn hr hN hs
  obtain ⟨R, hR⟩ : ∃ R, setV Z = R := ⟨_, rfl⟩
  have HR := toHid8 hR
  have HS := toHid8 hs
  rw [hR] at q1 ⊢
  clear hr hs hN hn hR
  go_enter Tryz.func12, Tryz.ntmps12
  go_wp2_with fail
  refine q1.mono ?_
  intro e w1 hP
  clear q1
  cases R with
  | none =>
    obtain ⟨rfl, f1⟩ := hP.none
    clear hP
    go_wp2_with fail
    go_ret2
    exact ⟨fun K e => (by cases e), fun _ => ⟨rfl, f1⟩⟩
  | some T =>
    obtain ⟨vb, c1, m, rfl, hm, hrw, f1⟩ := hP.rows
    have HT := toHid8 (rows_of HR.out HS.out hm)
    have HNe := toHid8 (name_some14 HR.out)
    have HRise := toHid8 (setV_get HR.out).1
    have HRow := toHid8 hrw
    have HF1 := toHid8 f1
    have i0 : (m : Int) ≤ 256 := by have := HT.out.max; omega
    clear hP hm hrw f1
    go_wp2_with fail
    go_loopw [5] (fun vo wr => ∃ (O : List B13) (q fu : Nat) (vp : Option Addr) (co : Nat), vo = .slice vp q co ∧ O.length = q ∧ q + fu = m ∧ Hid (ordGo T fu O = ordGo T T.length []) ∧ Hid (OwnS14 w1.heap.size wr (.slice vp q co) (O.map mkB)) ∧ Hid (Fr None' w1 wr)) (fun vo _ => m - lenV vo)
    case atStart => exact ⟨[], 0, m, none, 0, rfl, rfl, by omega, by show _ = _; rw [HT.out.len], OwnS14.nil _ _, Fr.refl _ _⟩
    case round =>
      obtain ⟨O, q, fu, vp, co, rfl, hq, hfu, HG, HO, HF⟩ := hrel
      by_cases hlt : q < m
      case neg =>
        have hf0 : fu = 0 := by omega
        have hqm : q = m := by omega
        have HV := toHid8 (show ordV T = some O from by
          have h := HG.out
          rw [hf0] at h
          unfold ordV
          rw [← h]
          show (if O.length = T.length then some O else none) = _
          rw [if_pos (by rw [hq, hqm, HT.out.len])])
        have i1 : ¬ (q : Int) < (m : Int) := by omega
        clear hlt hf0 hqm hfu
        go_wp2_with fail
        go_ret2
        obtain ⟨_, _, _, _, h⟩ := HO.out.slice
        refine ⟨fun T' e => ?_, fun e => (by cases e)⟩
        injection e with e
        subst e
        rw [HV.out]
        exact ⟨fun K e => (by injection e with e; subst e; exact ⟨_, rfl, h⟩), fun e => (by cases e), HF1.out.then7 HF.out⟩
      case pos =>
        have i1 : (q : Int) < (m : Int) := by omega
        have HQ := toHid8 (And.intro hq (And.intro hlt hfu))
        obtain ⟨_, _, -, -, hst⟩ := HO.out.slice
        obtain ⟨wo, hwo⟩ : ∃ y, y = wr := ⟨_, rfl⟩
        have HFo := toHid8 (show Fr None' w1 wo from by rw [hwo]; exact HF.out)
        have HOo := toHid8 (show OwnS14 w1.heap.size wo (.slice vp q co) (O.map mkB) from by rw [hwo]; exact HO.out)
        have HSt := toHid8 (show StrsAt wo (.slice vp q co) (O.map mkB) from by rw [hwo]; exact hst)
        have HF0 := toHid8 (show Fr None' wo wr from by rw [hwo]; exact Fr.refl _ _)
        clear hq hlt hfu hst hwo HF HO
        go_wp2_with fail
        go_loopw [6, 7] (fun vf vi w2 => ∃ (j : Nat) (x : ByteArray), j ≤ m ∧ vi = .int .i64 j ∧ vf = .string x ∧ Hid (x = ⟨#[]⟩ → ∀ t ∈ T.take j, readyV T O t.1 = false) ∧ Hid (x ≠ ⟨#[]⟩ → ordNext T O = some (unB x)) ∧ Hid (Fr None' wo w2)) (fun _ vi _ => m - (intOf vi).toNat)
        case atStart => exact ⟨0, ⟨#[]⟩, Nat.zero_le _, rfl, rfl, fun _ t h => (by cases h), fun h => absurd rfl h, HF0.out⟩
        case round =>
          obtain ⟨j, x, hj, rfl, rfl, HNo, HYes, HF2⟩ := hrel
          by_cases hx : x = ⟨#[]⟩
          case neg =>
            have HX := toHid8 (HYes.out hx)
            obtain ⟨s1, s2⟩ := Lines.str_no hx
            have s3 := not_empty14 hx
            have HXn := toHid8 hx
            obtain ⟨fu', hfu'⟩ : ∃ f, fu = f + 1 := ⟨fu - 1, by have h1 := HQ.out.2.1; have h2 := HQ.out.2.2; omega⟩
            have HG2 := toHid8 (show ordGo T fu' (O ++ [unB x]) = ordGo T T.length [] from by rw [← ordGo_step HX.out, ← hfu']; exact HG.out)
            have HO2 := toHid8 (HOo.out.frame HF2.out (fun _ e => e.elim))
            obtain ⟨v6, w6, hr6, hO6, f6⟩ := HO2.out.push x (HFo.out.then7 HF2.out).size (by rw [List.length_map, HQ.out.1]; have := HQ.out.2.1; have := HT.out.max; omega)
            have HF6 := toHid8 ((HFo.out.then7 HF2.out).trans f6 (fun i e => Or.inr (HO2.out.ge i e)))
            obtain ⟨vq, cq, ev, -, -⟩ := hO6.slice
            have el : ((O.map mkB) ++ [x]).length = q + 1 := by rw [List.length_append, List.length_map, HQ.out.1]; rfl
            rw [el] at ev
            subst ev
            have HO6 := toHid8 (show OwnS14 w1.heap.size w6 (.slice vq (q + 1) cq) ((O ++ [unB x]).map mkB) from by rw [List.map_append]; exact hO6)
            have HFu := toHid8 hfu'
            clear hx hfu' hO6 f6 el
            by_cases hjm : j < m
            case pos =>
              have i3 : (j : Int) < (m : Int) := by omega
              clear hjm
              go_wp2_with (at_builtin; refine app_list9 rfl _ _ rfl rfl rfl hr6 ?_)
              exact ⟨⟨O ++ [unB x], q + 1, fu', vq, cq, rfl, by rw [List.length_append, HQ.out.1]; rfl, by have := HFu.out; have := HQ.out.2.2; omega, HG2.out, HO6.out, HF6.out⟩, by have := HQ.out.2.1; show m - (q + 1) < m - q; omega⟩
            case neg =>
              have i3 : ¬ (j : Int) < (m : Int) := by omega
              clear hjm
              go_wp2_with (at_builtin; refine app_list9 rfl _ _ rfl rfl rfl hr6 ?_)
              exact ⟨⟨O ++ [unB x], q + 1, fu', vq, cq, rfl, by rw [List.length_append, HQ.out.1]; rfl, by have := HFu.out; have := HQ.out.2.2; omega, HG2.out, HO6.out, HF6.out⟩, by have := HQ.out.2.1; show m - (q + 1) < m - q; omega⟩
          case pos =>
            subst hx
            have HNx := toHid8 (HNo.out rfl)
            by_cases hjm : j < m
            case neg =>
              have HNn := toHid8 (next_none14 (T := T) (O := O) (fun t ht => HNx.out t (by rw [List.take_of_length_le (by rw [HT.out.len]; omega)]; exact ht)))
              have HV := toHid8 (show ordV T = none from by
                have h := HG.out
                rw [ordGo_stop HNn.out] at h
                unfold ordV
                rw [← h, if_neg (by rw [HQ.out.1, HT.out.len]; have := HQ.out.2.1; omega)])
              have i3 : ¬ (j : Int) < (m : Int) := by omega
              clear hjm
              go_wp2_with fail
              go_ret2
              refine ⟨fun T' e => ?_, fun e => (by cases e)⟩
              injection e with e
              subst e
              rw [HV.out]
              exact ⟨fun K e => (by cases e), fun _ => rfl, (HF1.out.then7 HFo.out).then7 HF2.out⟩
            case pos =>
              have hjT : j < T.length := by rw [HT.out.len]; exact hjm
              have hjM : j < (T.map (·.2)).length := by rw [List.length_map]; exact hjT
              obtain ⟨g, o, rfl, c0, c1', -, hin⟩ := HRow.out.kept (HFo.out.then7 HF2.out) j _ (List.getElem?_eq_getElem hjM)
              rw [List.getElem_map] at c0 c1' hin
              have htm := List.getElem_mem hjT
              have HRd := toHid8 (ready_row (O := O) HRise.out htm (HT.out.name _ htm))
              have HNx1 := toHid8 (show readyV T O T[j].1 = false → ∀ t ∈ T.take (j + 1), readyV T O t.1 = false from fun h t ht => by
                rw [List.take_succ_eq_append_getElem hjT] at ht
                rcases List.mem_append.1 ht with ht | ht
                · exact HNx.out t ht
                · rw [List.mem_singleton.1 ht]; exact h)
              have HYs1 := toHid8 (fun h => next_some14 hjT HNx.out h)
              have hne := HNe.out _ htm
              have hdl := (HT.out.deps _ htm).1
              have hky := HT.out.name _ htm
              obtain ⟨t, ht⟩ : ∃ t, T[j] = t := ⟨_, rfl⟩
              rw [ht] at c0 c1' hin HRd HNx1 HYs1 hne hdl hky
              have HYs2 := toHid8 (show readyV T O t.1 = true → ordNext T O = some (unB t.2.x.name) from fun h => by rw [← hky]; exact HYs1.out h)
              obtain ⟨N, hNm⟩ : ∃ y, t.2.x.name = y := ⟨_, rfl⟩
              obtain ⟨nd, hnd⟩ : ∃ y, t.2.x.deps.length = y := ⟨_, rfl⟩
              have hdp := hin.deps
              rw [hnd] at c1' hdp hdl
              rw [hNm] at c0 HRd HYs2 hne
              have HDp := toHid8 hdp
              have HNd := toHid8 (And.intro hnd hdl)
              have HNN := toHid8 hne
              have HC := toHid8 (And.intro c0 c1')
              have q7 := has14_any vp q co (O.map mkB) N wr (by rw [List.length_map]; exact HQ.out.1) (HSt.out.kept HF2.out) (by have := HQ.out.2.1; have := HT.out.max; omega)
              obtain ⟨bA, hbA⟩ : ∃ z, hasB (O.map mkB) N = z := ⟨_, rfl⟩
              rw [hbA] at q7 HRd
              have i3 : (j : Int) < (m : Int) := by omega
              have i4 : (0 : Int) ≤ (j : Int) := by omega
              have HJt := toHid8 hjm
              clear hjT hjM hin htm hne hdl hky ht hNm hnd hdp hbA hjm
              go_wp2_with fail
              refine q7.mono ?_
              rintro e wa ⟨rfl, fa⟩
              have HFa := toHid8 fa
              have c0 := fa.keepCell HC.out.1 (fun e => e)
              have c1' := fa.keepCell HC.out.2 (fun e => e)
              have HCa := toHid8 (And.intro c0 c1')
              clear q7 fa
              cases bA with
              | true =>
                have HN2 := toHid8 (HNx1.out (by rw [HRd.out]; rfl))
                go_wp2_with fail
                exact ⟨⟨j + 1, ⟨#[]⟩, by have := HJt.out; omega, by go_num, rfl, fun _ => HN2.out, fun h => absurd rfl h, HF2.out.then7 HFa.out⟩, by simp [intOf]; have := HJt.out; omega⟩
              | false =>
                have q8 := hasAll14_any vp q co (O.map mkB) t.2.pu nd t.2.cu t.2.x.deps wa (by rw [List.length_map]; exact HQ.out.1) (HSt.out.kept (HF2.out.then7 HFa.out)) (by have := HQ.out.2.1; have := HT.out.max; omega) HNd.out.1 (HDp.out.kept HFa.out) (by have := HNd.out.2; omega)
                obtain ⟨bB, hbB⟩ : ∃ z, t.2.x.deps.all (hasB (O.map mkB)) = z := ⟨_, rfl⟩
                rw [hbB] at q8 HRd
                clear hbB
                go_wp2_with fail
                refine q8.mono ?_
                rintro e wb ⟨rfl, fb⟩
                have HFb := toHid8 ((HF2.out.then7 HFa.out).then7 fb)
                have c0 := fb.keepCell HCa.out.1 (fun e => e)
                clear q8 fb
                cases bB with
                | false =>
                  have HN2 := toHid8 (HNx1.out (by rw [HRd.out]; rfl))
                  go_wp2_with fail
                  exact ⟨⟨j + 1, ⟨#[]⟩, by have := HJt.out; omega, by go_num, rfl, fun _ => HN2.out, fun h => absurd rfl h, HFb.out⟩, by simp [intOf]; have := HJt.out; omega⟩
                | true =>
                  have HY2 := toHid8 (HYs2.out (by rw [HRd.out]; rfl))
                  go_wp2_with fail
                  exact ⟨⟨j + 1, N, by have := HJt.out; omega, by go_num, rfl, fun h => absurd h HNN.out, fun _ => HY2.out, HFb.out⟩, by simp [intOf]; have := HJt.out; omega⟩

end Go.Proofs.YtbiilnhefoplkaaGreatDoor

namespace Go.Proofs.YtbiilnhefoplkaaGreatDoor
open Go.RowKit Go.Maps Go.WideMaps
set_option maxRecDepth 100000

/-- K is told, Q is to be done. -/
structure DnInv (T : List (Kv Pv)) (N : List B13) (Q : List ByteArray) (K : List B13) : Prop where
  inn : ∀ k ∈ K, InM T k ∧ Rch (downN T) N k
  todo : ∀ q ∈ Q, Rch (downN T) N (unB q)
  all : ∀ n ∈ N, n ∈ K ∨ n ∈ Q.map unB
  dep : ∀ k ∈ K, ∀ x ∈ (downN T k).map unB, x ∈ K ∨ x ∈ Q.map unB
  one : K.Nodup

theorem DnInv.start (T : List (Kv Pv)) (D : List ByteArray) : DnInv T (D.map unB) D [] :=
  ⟨fun k h => (by cases h), fun q hq => .base (List.mem_map.2 ⟨q, hq, rfl⟩), fun n hn => .inr hn, fun k h => (by cases h), List.nodup_nil⟩

theorem DnInv.skip {T : List (Kv Pv)} {N : List B13} {x : ByteArray} {Q : List ByteArray} {K : List B13} (h : DnInv T N (x :: Q) K) (hx : unB x ∈ K) : DnInv T N Q K := by
  have go : ∀ y, (y ∈ K ∨ y ∈ (x :: Q).map unB) → y ∈ K ∨ y ∈ Q.map unB := fun y hy => by
    rcases hy with hy | hy
    · exact .inl hy
    · rw [List.map_cons] at hy
      rcases List.mem_cons.1 hy with rfl | hy
      · exact .inl hx
      · exact .inr hy
  exact ⟨h.inn, fun q hq => h.todo q (List.mem_cons_of_mem _ hq), fun n hn => go n (h.all n hn), fun k hk y hy => go y (h.dep k hk y hy), h.one⟩

theorem DnInv.add {T : List (Kv Pv)} {N : List B13} {x : ByteArray} {Q : List ByteArray} {K : List B13} (h : DnInv T N (x :: Q) K) (hx : unB x ∉ K) (hT : InM T (unB x)) : DnInv T N (Q ++ downN T (unB x)) (K ++ [unB x]) := by
  have hr : Rch (downN T) N (unB x) := h.todo x (List.mem_cons_self ..)
  have go : ∀ y, (y ∈ K ∨ y ∈ (x :: Q).map unB) → y ∈ K ++ [unB x] ∨ y ∈ (Q ++ downN T (unB x)).map unB := fun y hy => by
    rcases hy with hy | hy
    · exact .inl (List.mem_append_left _ hy)
    · rw [List.map_cons] at hy
      rcases List.mem_cons.1 hy with rfl | hy
      · exact .inl (List.mem_append_right _ (List.mem_singleton.2 rfl))
      · exact .inr (by rw [List.map_append]; exact List.mem_append_left _ hy)
  refine ⟨fun k hk => ?_, fun q hq => ?_, fun n hn => go n (h.all n hn), fun k hk y hy => ?_, ?_⟩
  · rcases List.mem_append.1 hk with hk | hk
    · exact h.inn k hk
    · rw [List.mem_singleton.1 hk]; exact ⟨hT, hr⟩
  · rcases List.mem_append.1 hq with hq | hq
    · exact h.todo q (List.mem_cons_of_mem _ hq)
    · exact .step hr (List.mem_map.2 ⟨q, hq, rfl⟩)
  · rcases List.mem_append.1 hk with hk | hk
    · exact go y (h.dep k hk y hy)
    · rw [List.mem_singleton.1 hk] at hy
      exact .inr (by rw [List.map_append]; exact List.mem_append_right _ hy)
  · rw [List.nodup_append]
    exact ⟨h.one, List.nodup_cons.2 ⟨by simp, List.nodup_nil⟩, fun a ha b hb e => hx (by rw [List.mem_singleton.1 hb] at e; exact e ▸ ha)⟩

theorem DnInv.done {T : List (Kv Pv)} {N K : List B13} (h : DnInv T N [] K) (k : B13) : k ∈ K ↔ Rch (downN T) N k := by
  constructor
  · exact fun hk => (h.inn k hk).2
  · intro r
    induction r with
    | base hk => exact (h.all _ hk).resolve_right (by simp)
    | step _ hx ih => exact (h.dep _ ih _ hx).resolve_right (by simp)

theorem DnInv.len {T : List (Kv Pv)} {N K : List B13} {Q : List ByteArray} (hT : RiseM T) (h : DnInv T N Q K) : K.length ≤ T.length := by
  have := h.one.length_le_of_subset (l₂ := T.map (·.1)) (fun k hk => (inM_iff hT).1 (h.inn k hk).1)
  simpa using this

theorem ris_keys {T : List (Kv Pv)} (hk : ∀ t ∈ T, t.1 = unB t.2.x.name) (N : List ByteArray) : (risL (T.map (·.2)) N).map unB = (T.map (·.1)).filter (fun k => decide (k ∈ N.map unB)) := by
  unfold risL
  rw [List.map_map, List.filter_map, List.map_map, List.filter_map]
  have e : ∀ t ∈ T, ((fun d : Pv => hasB N d.x.name) ∘ (·.2)) t = ((fun k => decide (k ∈ N.map unB)) ∘ (·.1)) t := fun t ht => by
    show hasB N t.2.x.name = decide (t.1 ∈ N.map unB)
    rw [hk t ht]
    rfl
  rw [List.filter_congr e]
  exact List.map_congr_left (fun t ht => (hk t (List.mem_filter.1 ht).1).symm)

/-- What rising hands back of what can be come to. -/
theorem ris_post {T : List (Kv Pv)} {Nx : B13 → List ByteArray} {N : List B13} {D : List ByteArray} (hT : RiseM T) (hk : ∀ t ∈ T, t.1 = unB t.2.x.name) (hin : ∀ k, Rch Nx N k → InM T k) (hD : ∀ k, k ∈ D.map unB ↔ Rch Nx N k) {w w' : World} {v : Value} (hst : StrsAt w' v (risL (T.map (·.2)) D)) (f : Fr None' w w') : ReachPost T Nx N w (.returned (.tuple #[v, .int .i64 0])) w' := by
  refine ⟨.inl ⟨(risL (T.map (·.2)) D).map unB, v, ?_, fun k => ?_, fun k hkk => ?_, rfl, by rw [mk_uns]; exact hst⟩, f⟩
  · rw [ris_keys hk]
    exact List.Pairwise.filter _ hT
  · rw [ris_keys hk, List.mem_filter, decide_eq_true_eq, hD]
    exact ⟨fun h => h.2, fun h => ⟨(inM_iff hT).1 (hin k h), h⟩⟩
  · rw [ris_keys hk] at hkk
    exact (inM_iff hT).2 (List.mem_filter.1 hkk).1

theorem find_get14 {T : List (Kv Pv)} (hk : ∀ t ∈ T, t.1 = unB t.2.x.name) (k : B13) : findV (T.map (·.2)) k = getM T k := by
  unfold findV getM
  rw [find_map14]
  congr 1
  induction T with
  | nil => rfl
  | cons t T ih =>
    rw [List.find?_cons, List.find?_cons]
    have e : decide (unB t.2.x.name = k) = (t.1 == k) := by rw [hk t (List.mem_cons_self ..), Bool.eq_iff_iff, decide_eq_true_eq, beq_iff_eq]
    rw [e, ih (fun s hs => hk s (List.mem_cons_of_mem _ hs))]

end Go.Proofs.YtbiilnhefoplkaaGreatDoor

namespace Go.Proofs.YtbiilnhefoplkaaGreatDoor
open Go.RowKit Go.Maps Go.WideMaps
set_option maxRecDepth 100000

theorem ownB_apart {v u v' : Value} {w : World} (h : ∀ k, v.ownBlock = some k → u.ownBlock ≠ some k) (hu : ∀ k, u.ownBlock = some k → k < w.heap.size) (hn : ∀ k, v'.ownBlock = some k → v.ownBlock = some k ∨ w.heap.size ≤ k) : ∀ k, v'.ownBlock = some k → u.ownBlock ≠ some k := fun k e e2 => by
  rcases hn k e with h1 | h1
  · exact h k h1 e2
  · have := hu k e2; omega

theorem OwnS14.lt {B : Nat} {w : World} {v : Value} {l : List ByteArray} (h : OwnS14 B w v l) : ∀ k, v.ownBlock = some k → k < w.heap.size := fun k hk => by
  rcases h.2 with ⟨hv, _⟩ | ⟨g, cap, cur, hv, hb, hh, _⟩
  · rw [hv] at hk; cases hk
  · rw [hv] at hk; cases hk; exact (Array.getElem?_eq_some_iff.1 hh).1

theorem OwnS14.far {B : Nat} {w w' : World} {v : Value} {l : List ByteArray} (h : OwnS14 B w v l) {M : Nat → Prop} (f : Fr M w w') (hM : ∀ k, v.ownBlock = some k → ¬ M k) : OwnS14 B w' v l := by
  refine ⟨h.1, ?_⟩
  rcases h.2 with h | ⟨g, cap, cur, hv, hb, hh, h⟩
  · exact Or.inl h
  · exact Or.inr ⟨g, cap, cur, hv, hb, f.at hh (hM g (by rw [hv]; rfl)), h⟩

set_option maxHeartbeats 8000000 in
theorem ddown14_any (va : Option Addr) (n c : Nat) (Z : List Pv) (pv : Option Addr) (m cm : Nat) (N : List ByteArray) (w : World) (hn : Z.length = n) (hr : RowV w va Z) (hN : n ≤ 1000000) (hs : ∀ d ∈ Z, SmallPa d.x) (hm : N.length = m) (hm2 : m ≤ 1000000) (hst : StrsAt w (.slice pv m cm) N) :
    Calls Tryz.prog 16 #[.slice va n c, .slice pv m cm] w fun e w' => DownPost (setV Z) downN (N.map unB) w e w' := by
  have q1 := dsorted14_any va n c Z w hn hr hN hs
  obtain ⟨R, hR⟩ : ∃ R, setV Z = R := ⟨_, rfl⟩
  have HR := toHid8 hR
  have HS := toHid8 hs
  have HM := toHid8 (And.intro hm hm2)
  have HSt := toHid8 hst
  rw [hR] at q1 ⊢
  clear hr hs hN hn hR hm hm2 hst
  go_enter Tryz.func16, Tryz.ntmps16
  go_wp2_with fail
  refine q1.mono ?_
  intro e w1 hP
  clear q1
  cases R with
  | none =>
    obtain ⟨rfl, f1⟩ := hP.none
    clear hP
    go_wp2_with fail
    go_ret2
    exact ⟨fun K e => (by cases e), fun _ => ⟨rfl, f1⟩⟩
  | some T =>
    obtain ⟨vb, c1, k, rfl, hk, hrw, f1⟩ := hP.rows
    have HT := toHid8 (rows_of HR.out HS.out hk)
    have HRise := toHid8 (setV_get HR.out).1
    have HRow := toHid8 hrw
    have HF1 := toHid8 f1
    have i0 : (k : Int) ≤ 256 := by have := HT.out.max; omega
    obtain ⟨v1, w2, r1, o1, f2⟩ := copy_run14 w1 (HSt.out.kept f1) (by rw [HM.out.1]; have := HM.out.2; omega)
    have HQ0 := toHid8 o1.q
    obtain ⟨pq, cq0, ev, -, -⟩ := o1.slice
    rw [HM.out.1] at ev
    subst ev
    have HF2 := toHid8 f2
    have im : (m : Int) ≤ 1000000 := by have := HM.out.2; omega
    clear hP hk hrw f1 o1 f2
    go_wp2_with (at_builtin; refine app_list9 rfl _ _ rfl rfl rfl r1 ?_)
    go_loopw [7, 8] (fun vt vo wr => ∃ (Q : List ByteArray) (K : List B13) (q z cq cz : Nat) (vq vz : Option Addr), vt = .slice vq q cq ∧ vo = .slice vz z cz ∧ Hid (Q.length = q ∧ K.length = z ∧ q ≤ 1000000 + z * 1000000) ∧ Hid (DnInv T (N.map unB) Q K) ∧ Hid (OwnQ14 w1.heap.size wr (.slice vq q cq) Q) ∧ Hid (OwnS14 w1.heap.size wr (.slice vz z cz) (K.map mkB)) ∧ Hid (∀ i, (Value.slice vq q cq).ownBlock = some i → (Value.slice vz z cz).ownBlock ≠ some i) ∧ Hid (Fr None' w1 wr)) (fun vt vo _ => (1000 - lenV vo) * 2000000 + lenV vt)
    case atStart => exact ⟨N, [], m, 0, cq0, 0, pq, none, rfl, rfl, ⟨HM.out.1, rfl, by have := HM.out.2; omega⟩, DnInv.start T N, HQ0.out, OwnS14.nil _ _, (fun i _ e => by cases e), HF2.out⟩
    case round =>
      obtain ⟨Q, K, q, z, cq, cz, vq, vz, rfl, rfl, HLen, HI, HQ, HO, HAp, HF⟩ := hrel
      have hz := HI.out.len HRise.out
      have hz2 : z ≤ 256 := by have h1 := HLen.out.2.1; have h2 := HT.out.len; have h3 := HT.out.max; omega
      have iz : (z : Int) ≤ 256 := by omega
      have iq : (q : Int) ≤ 300000000 := by have h1 := HLen.out.2.2; omega
      have HZ := toHid8 hz2
      clear hz hz2
      cases Q with
      | nil =>
        have hq0 : q = 0 := by have := HLen.out.1; simpa using this.symm
        subst hq0
        have q9 := drising14_any vb k c1 (T.map (·.2)) vz z cz (K.map mkB) wr (by rw [List.length_map]; exact HT.out.len) (HRow.out.kept HF.out) (by have := HT.out.max; omega) (by rw [List.length_map]; exact HLen.out.2.1) (by obtain ⟨_, _, _, _, h⟩ := HO.out.slice; exact h) (by have := HZ.out; omega)
        go_wp2_with fail
        refine q9.mono ?_
        rintro e w9 ⟨v9, rfl, hs9, f9⟩
        have HP := toHid8 (ris_post (T := T) (Nx := downN T) (N := N.map unB) (D := K.map mkB) HRise.out HT.out.name (fun x r => (HI.out.inn x ((HI.out.done x).2 r)).1) (fun x => by rw [un_mks]; exact HI.out.done x) hs9 ((HF1.out.then7 HF.out).then7 f9))
        clear q9 hs9 f9
        go_wp2_with fail
        go_ret2
        exact ⟨fun T' e => (by injection e with e; subst e; exact HP.out), fun e => (by cases e)⟩
      | cons x Q' =>
        have hq1 : 0 < q := by have := HLen.out.1; rw [List.length_cons] at this; omega
        have HQ1 := toHid8 hq1
        obtain ⟨_, _, -, -, hst⟩ := HQ.out.slice
        obtain ⟨g, o, hv, hc0⟩ := strs_two hst (j := 0) (x := x) rfl
        subst hv
        rw [Nat.add_zero] at hc0
        have HTail := toHid8 HQ.out.tail
        have HC := toHid8 hc0
        have hcap : q ≤ cq := strs_cap14 hst |> fun h => by rw [HLen.out.1] at h; exact h
        have i1 : (0 : Int) < (q : Int) := by omega
        have i2 : (1 : Int) ≤ (q : Int) := by omega
        have i3 : (q : Int) ≤ (cq : Int) := by omega
        have q3 := has14_any vz z cz (K.map mkB) x wr (by rw [List.length_map]; exact HLen.out.2.1) (by obtain ⟨_, _, _, _, h⟩ := HO.out.slice; exact h) (by have := HZ.out; omega)
        obtain ⟨bK, hbK⟩ : ∃ z, hasB (K.map mkB) x = z := ⟨_, rfl⟩
        have HBK := toHid8 (show bK = true ↔ unB x ∈ K from by rw [← hbK, hasB_iff, un_mks])
        rw [hbK] at q3
        clear hst hq1 hbK
        by_cases hcq : cq = 1
        case pos =>
          subst hcq
          have HTl := toHid8 (show OwnQ14 w1.heap.size wr (.slice (some ⟨g, o, none⟩) (q - 1) 0) Q' from by
            have h := HQ.out.tail
            have hq := HLen.out.1
            rw [List.length_cons] at hq
            have hnil : Q' = [] := List.length_eq_zero_iff.1 (by omega)
            rcases HQ.out with ⟨h1, _⟩ | ⟨g', o', cap', h1, h2, h3, _, _, _⟩
            · cases h1
            · injection h1 with e1 _ _
              injection e1 with e1
              injection e1 with e4 e5 _
              subst e4 e5
              exact .inr ⟨g, o, 0, by rw [hnil]; show Value.slice _ (q - 1) 0 = Value.slice _ 0 0; rw [show q - 1 = 0 by omega], h2, h3, by rw [hnil]; exact Nat.zero_le _, fun j hj => absurd hj (Nat.not_lt_zero _), fun i y hy => by rw [hnil] at hy; cases hy⟩)
          clear hcap
          go_wp2_with fail
          refine q3.mono ?_
          rintro e w3 ⟨rfl, f3⟩
          have HF3 := toHid8 (HF.out.then7 f3)
          have HT3 := toHid8 (HTl.out.fr f3 (fun _ _ e => e.elim))
          have HO3 := toHid8 (HO.out.frame f3 (fun _ e => e.elim))
          clear q3 f3
          cases bK with
          | true =>
            go_wp2_with fail
            exact ⟨⟨Q', K, q - 1, z, 0, cz, some ⟨g, o, none⟩, vz, rfl, rfl, ⟨by have := HLen.out.1; rw [List.length_cons] at this; omega, HLen.out.2.1, by have := HLen.out.2.2; omega⟩, HI.out.skip (HBK.out.1 (by trivial)), HT3.out, HO3.out, (fun i e => HAp.out i e), HF3.out⟩, by have := HQ1.out; show (1000 - z) * 2000000 + (q - 1) < (1000 - z) * 2000000 + q; omega⟩
          | false =>
            have q4 := find14_any vb k c1 (T.map (·.2)) x w3 (by rw [List.length_map]; exact HT.out.len) (HRow.out.kept HF3.out) (by have := HT.out.max; omega)
            rw [find_get14 HT.out.name] at q4
            have HNx := toHid8 (show unB x ∉ K from fun h => by have := HBK.out.2 h; cases this)
            obtain ⟨R, hR⟩ : ∃ R, getM T (unB x) = R := ⟨_, rfl⟩
            rw [hR] at q4
            have HR2 := toHid8 hR
            clear hR
            cases R with
            | none =>
              simp only [Option.getD_none, Option.isSome_none, mkV, zeroPv, List.length_nil] at q4
              go_wp2_with fail
              refine q4.mono ?_
              rintro e w4 ⟨rfl, f4⟩
              have HF4 := toHid8 ((HF1.out.then7 HF3.out).then7 (f4.then7 (Fr.alloc None' w4 (.cells #[.string ⟨#[]⟩, .slice none 0 0, .slice none 0 0] 36))))
              clear q4 f4
              go_wp2_with fail
              go_ret2
              refine ⟨fun T' e => ?_, fun e => (by cases e)⟩
              injection e with e
              subst e
              exact ⟨.inr ⟨⟨unB x, HI.out.todo x (List.mem_cons_self ..), fun h => by unfold InM at h; rw [HR2.out] at h; cases h⟩, rfl⟩, HF4.out⟩
            | some d =>
              have hmd : (unB x, d) ∈ T := getM_mem HR2.out
              have hdn : downN T (unB x) = d.x.deps := by unfold downN; rw [HR2.out]
              have hI2 := HI.out.add HNx.out (by unfold InM; rw [HR2.out]; rfl)
              rw [hdn] at hI2
              have HI2 := toHid8 hI2
              have hdl := (HT.out.deps _ hmd).1
              obtain ⟨kd, hkd, ekd⟩ := List.getElem_of_mem (List.mem_map.2 ⟨_, hmd, rfl⟩ : d ∈ T.map (·.2))
              have hin0 : PvIn w1 d := by obtain ⟨-, -, -, -, -, -, h⟩ := HRow.out kd _ (List.getElem?_eq_getElem hkd); rw [ekd] at h; exact h
              have HIn := toHid8 hin0
              simp only [Option.getD_some, Option.isSome_some, mkV] at q4
              obtain ⟨nd, hnd⟩ : ∃ y, d.x.deps.length = y := ⟨_, rfl⟩
              obtain ⟨nb, hnb⟩ : ∃ y, d.x.body.length = y := ⟨_, rfl⟩
              obtain ⟨N1, hN1⟩ : ∃ y, d.x.name = y := ⟨_, rfl⟩
              have HNd := toHid8 (And.intro hnd hdl)
              rw [hnd, hnb, hN1] at q4
              clear hmd hdn hI2 hdl hkd ekd hin0 hnd hnb hN1
              go_wp2_with fail
              refine q4.mono ?_
              rintro e w4 ⟨rfl, f4⟩
              have HF4a := toHid8 f4
              obtain ⟨w5, hw5⟩ : ∃ y, w4.alloc (.cells #[.string N1, .slice d.pu nd d.cu, .slice d.pb nb d.cb] 36) = y := ⟨_, rfl⟩
              have F5 : Fr None' w4 w5 := hw5 ▸ Fr.alloc None' w4 _
              have B5 : Box3 w5 w4.heap.size (.string N1) (.slice d.pu nd d.cu) (.slice d.pb nb d.cb) := hw5 ▸ Box3.new w4 _ _ _
              have F45 := f4.then7 F5
              have HF5 := toHid8 (HF3.out.then7 F45)
              have hO5 := HO3.out.frame F45 (fun _ e => e.elim)
              have hT5 := HT3.out.fr F45 (fun _ _ e => e.elim)
              obtain ⟨v6, w6, hr6, hO6, f6, hb6⟩ := hO5.push2 x HF5.out.size (by rw [List.length_map, HLen.out.2.1]; have := HZ.out; omega)
              have hlt5 : ∀ j, (Value.slice (some ⟨g, o, none⟩) (q - 1) 0).ownBlock = some j → j < w5.heap.size := by obtain ⟨_, _, _, h, _⟩ := hT5.slice; exact fun j e => (h j e).2
              have hap5 : ∀ j, (Value.slice vz z cz).ownBlock = some j → (Value.slice (some ⟨g, o, none⟩) (q - 1) 0).ownBlock ≠ some j := fun j e e2 => HAp.out j e2 e
              have hap6 := ownB_apart hap5 hlt5 hb6
              have hT6 := hT5.fr f6 (fun j e e2 => hap5 j e2 e)
              have B6 := B5.cells
              have hbx : ¬ (Value.slice vz z cz).ownBlock = some w4.heap.size := fun e => by have := HO3.out.lt _ e; have := HF4a.out.size; omega
              have x1 := f6.keepCell B6.2.1 hbx
              have HF6 := toHid8 (HF5.out.trans f6 (fun i e => Or.inr (hO5.ge i e)))
              obtain ⟨v7, w7, hr7, hQ7, f7, hb7⟩ := hT6.addAll (show StrsAt w6 (.slice d.pu nd d.cu) d.x.deps from by rw [← HNd.out.1]; exact HIn.out.deps.kept HF6.out) HF6.out.size (by have h1 := HLen.out.2.2; have h2 := HZ.out; have h3 := HNd.out.2; have h4 := HLen.out.1; rw [List.length_cons] at h4; omega)
              have hO7 := hO6.far f7 (fun j e e2 => hap6 j e e2)
              have hap7 : ∀ j, v7.ownBlock = some j → v6.ownBlock ≠ some j := ownB_apart (fun j e e2 => hap6 j e2 e) (fun j e => hO6.lt j e) hb7
              have HF7 := toHid8 (HF6.out.trans f7 (fun i e => Or.inr (by obtain ⟨_, _, _, h, _⟩ := hT6.slice; exact (h i e).1)))
              obtain ⟨va6, ca6, ev6, -, -⟩ := hO6.slice
              have el6 : (K.map mkB ++ [x]).length = z + 1 := by rw [List.length_append, List.length_map, HLen.out.2.1]; rfl
              rw [el6] at ev6
              subst ev6
              obtain ⟨va7, ca7, ev7, -, -⟩ := hQ7.slice
              obtain ⟨q7, hq7⟩ : ∃ y, (Q' ++ d.x.deps).length = y := ⟨_, rfl⟩
              rw [hq7] at ev7
              subst ev7
              have HQ7 := toHid8 hQ7
              have HO7 := toHid8 (show OwnS14 w1.heap.size w7 (.slice va6 (z + 1) ca6) ((K ++ [unB x]).map mkB) from by rw [List.map_append]; exact hO7)
              have HAp7 := toHid8 hap7
              have HL7 := toHid8 (show q7 = q - 1 + nd from by rw [← hq7, List.length_append, HNd.out.1]; have := HLen.out.1; rw [List.length_cons] at this; omega)
              have HQ7l := toHid8 hq7
              have HX1 := toHid8 x1
              clear q4 f4 F5 B5 F45 hO5 hT5 hO6 f6 hb6 hlt5 hap5 hap6 hT6 B6 hbx hQ7 f7 hb7 hO7 hap7 el6 hq7
              go_wp2_with (at_builtin; first | refine app_list9 rfl _ _ rfl rfl rfl hr6 ?_ | refine app_list9 rfl _ _ rfl rfl rfl hr7 ?_)
              exact ⟨⟨Q' ++ d.x.deps, K ++ [unB x], q7, z + 1, ca7, ca6, va7, va6, rfl, rfl, ⟨HQ7l.out, by rw [List.length_append, HLen.out.2.1]; rfl, by have h1 := HLen.out.2.2; have h2 := HL7.out; have h3 := HNd.out.2; rw [HNd.out.1] at h3; omega⟩, HI2.out, HQ7.out, HO7.out, HAp7.out, HF7.out⟩, by have h1 := HL7.out; have h2 := HNd.out.2; rw [HNd.out.1] at h2; have h3 := HZ.out; have h4 := HQ1.out; show (1000 - (z + 1)) * 2000000 + q7 < (1000 - z) * 2000000 + q; omega⟩
        case neg =>
          have HTl := toHid8 HTail.out
          clear hcap
          go_wp2_with fail
          refine q3.mono ?_
          rintro e w3 ⟨rfl, f3⟩
          have HF3 := toHid8 (HF.out.then7 f3)
          have HT3 := toHid8 (HTl.out.fr f3 (fun _ _ e => e.elim))
          have HO3 := toHid8 (HO.out.frame f3 (fun _ e => e.elim))
          clear q3 f3
          cases bK with
          | true =>
            go_wp2_with fail
            exact ⟨⟨Q', K, q - 1, z, (cq - 1), cz, some ⟨g, (o + 1), none⟩, vz, rfl, rfl, ⟨by have := HLen.out.1; rw [List.length_cons] at this; omega, HLen.out.2.1, by have := HLen.out.2.2; omega⟩, HI.out.skip (HBK.out.1 (by trivial)), HT3.out, HO3.out, (fun i e => HAp.out i e), HF3.out⟩, by have := HQ1.out; show (1000 - z) * 2000000 + (q - 1) < (1000 - z) * 2000000 + q; omega⟩
          | false =>
            have q4 := find14_any vb k c1 (T.map (·.2)) x w3 (by rw [List.length_map]; exact HT.out.len) (HRow.out.kept HF3.out) (by have := HT.out.max; omega)
            rw [find_get14 HT.out.name] at q4
            have HNx := toHid8 (show unB x ∉ K from fun h => by have := HBK.out.2 h; cases this)
            obtain ⟨R, hR⟩ : ∃ R, getM T (unB x) = R := ⟨_, rfl⟩
            rw [hR] at q4
            have HR2 := toHid8 hR
            clear hR
            cases R with
            | none =>
              simp only [Option.getD_none, Option.isSome_none, mkV, zeroPv, List.length_nil] at q4
              go_wp2_with fail
              refine q4.mono ?_
              rintro e w4 ⟨rfl, f4⟩
              have HF4 := toHid8 ((HF1.out.then7 HF3.out).then7 (f4.then7 (Fr.alloc None' w4 (.cells #[.string ⟨#[]⟩, .slice none 0 0, .slice none 0 0] 36))))
              clear q4 f4
              go_wp2_with fail
              go_ret2
              refine ⟨fun T' e => ?_, fun e => (by cases e)⟩
              injection e with e
              subst e
              exact ⟨.inr ⟨⟨unB x, HI.out.todo x (List.mem_cons_self ..), fun h => by unfold InM at h; rw [HR2.out] at h; cases h⟩, rfl⟩, HF4.out⟩
            | some d =>
              have hmd : (unB x, d) ∈ T := getM_mem HR2.out
              have hdn : downN T (unB x) = d.x.deps := by unfold downN; rw [HR2.out]
              have hI2 := HI.out.add HNx.out (by unfold InM; rw [HR2.out]; rfl)
              rw [hdn] at hI2
              have HI2 := toHid8 hI2
              have hdl := (HT.out.deps _ hmd).1
              obtain ⟨kd, hkd, ekd⟩ := List.getElem_of_mem (List.mem_map.2 ⟨_, hmd, rfl⟩ : d ∈ T.map (·.2))
              have hin0 : PvIn w1 d := by obtain ⟨-, -, -, -, -, -, h⟩ := HRow.out kd _ (List.getElem?_eq_getElem hkd); rw [ekd] at h; exact h
              have HIn := toHid8 hin0
              simp only [Option.getD_some, Option.isSome_some, mkV] at q4
              obtain ⟨nd, hnd⟩ : ∃ y, d.x.deps.length = y := ⟨_, rfl⟩
              obtain ⟨nb, hnb⟩ : ∃ y, d.x.body.length = y := ⟨_, rfl⟩
              obtain ⟨N1, hN1⟩ : ∃ y, d.x.name = y := ⟨_, rfl⟩
              have HNd := toHid8 (And.intro hnd hdl)
              rw [hnd, hnb, hN1] at q4
              clear hmd hdn hI2 hdl hkd ekd hin0 hnd hnb hN1
              go_wp2_with fail
              refine q4.mono ?_
              rintro e w4 ⟨rfl, f4⟩
              have HF4a := toHid8 f4
              obtain ⟨w5, hw5⟩ : ∃ y, w4.alloc (.cells #[.string N1, .slice d.pu nd d.cu, .slice d.pb nb d.cb] 36) = y := ⟨_, rfl⟩
              have F5 : Fr None' w4 w5 := hw5 ▸ Fr.alloc None' w4 _
              have B5 : Box3 w5 w4.heap.size (.string N1) (.slice d.pu nd d.cu) (.slice d.pb nb d.cb) := hw5 ▸ Box3.new w4 _ _ _
              have F45 := f4.then7 F5
              have HF5 := toHid8 (HF3.out.then7 F45)
              have hO5 := HO3.out.frame F45 (fun _ e => e.elim)
              have hT5 := HT3.out.fr F45 (fun _ _ e => e.elim)
              obtain ⟨v6, w6, hr6, hO6, f6, hb6⟩ := hO5.push2 x HF5.out.size (by rw [List.length_map, HLen.out.2.1]; have := HZ.out; omega)
              have hlt5 : ∀ j, (Value.slice (some ⟨g, (o + 1), none⟩) (q - 1) (cq - 1)).ownBlock = some j → j < w5.heap.size := by obtain ⟨_, _, _, h, _⟩ := hT5.slice; exact fun j e => (h j e).2
              have hap5 : ∀ j, (Value.slice vz z cz).ownBlock = some j → (Value.slice (some ⟨g, (o + 1), none⟩) (q - 1) (cq - 1)).ownBlock ≠ some j := fun j e e2 => HAp.out j e2 e
              have hap6 := ownB_apart hap5 hlt5 hb6
              have hT6 := hT5.fr f6 (fun j e e2 => hap5 j e2 e)
              have B6 := B5.cells
              have hbx : ¬ (Value.slice vz z cz).ownBlock = some w4.heap.size := fun e => by have := HO3.out.lt _ e; have := HF4a.out.size; omega
              have x1 := f6.keepCell B6.2.1 hbx
              have HF6 := toHid8 (HF5.out.trans f6 (fun i e => Or.inr (hO5.ge i e)))
              obtain ⟨v7, w7, hr7, hQ7, f7, hb7⟩ := hT6.addAll (show StrsAt w6 (.slice d.pu nd d.cu) d.x.deps from by rw [← HNd.out.1]; exact HIn.out.deps.kept HF6.out) HF6.out.size (by have h1 := HLen.out.2.2; have h2 := HZ.out; have h3 := HNd.out.2; have h4 := HLen.out.1; rw [List.length_cons] at h4; omega)
              have hO7 := hO6.far f7 (fun j e e2 => hap6 j e e2)
              have hap7 : ∀ j, v7.ownBlock = some j → v6.ownBlock ≠ some j := ownB_apart (fun j e e2 => hap6 j e2 e) (fun j e => hO6.lt j e) hb7
              have HF7 := toHid8 (HF6.out.trans f7 (fun i e => Or.inr (by obtain ⟨_, _, _, h, _⟩ := hT6.slice; exact (h i e).1)))
              obtain ⟨va6, ca6, ev6, -, -⟩ := hO6.slice
              have el6 : (K.map mkB ++ [x]).length = z + 1 := by rw [List.length_append, List.length_map, HLen.out.2.1]; rfl
              rw [el6] at ev6
              subst ev6
              obtain ⟨va7, ca7, ev7, -, -⟩ := hQ7.slice
              obtain ⟨q7, hq7⟩ : ∃ y, (Q' ++ d.x.deps).length = y := ⟨_, rfl⟩
              rw [hq7] at ev7
              subst ev7
              have HQ7 := toHid8 hQ7
              have HO7 := toHid8 (show OwnS14 w1.heap.size w7 (.slice va6 (z + 1) ca6) ((K ++ [unB x]).map mkB) from by rw [List.map_append]; exact hO7)
              have HAp7 := toHid8 hap7
              have HL7 := toHid8 (show q7 = q - 1 + nd from by rw [← hq7, List.length_append, HNd.out.1]; have := HLen.out.1; rw [List.length_cons] at this; omega)
              have HQ7l := toHid8 hq7
              have HX1 := toHid8 x1
              clear q4 f4 F5 B5 F45 hO5 hT5 hO6 f6 hb6 hlt5 hap5 hap6 hT6 B6 hbx hQ7 f7 hb7 hO7 hap7 el6 hq7
              go_wp2_with (at_builtin; first | refine app_list9 rfl _ _ rfl rfl rfl hr6 ?_ | refine app_list9 rfl _ _ rfl rfl rfl hr7 ?_)
              exact ⟨⟨Q' ++ d.x.deps, K ++ [unB x], q7, z + 1, ca7, ca6, va7, va6, rfl, rfl, ⟨HQ7l.out, by rw [List.length_append, HLen.out.2.1]; rfl, by have h1 := HLen.out.2.2; have h2 := HL7.out; have h3 := HNd.out.2; rw [HNd.out.1] at h3; omega⟩, HI2.out, HQ7.out, HO7.out, HAp7.out, HF7.out⟩, by have h1 := HL7.out; have h2 := HNd.out.2; rw [HNd.out.1] at h2; have h3 := HZ.out; have h4 := HQ1.out; show (1000 - (z + 1)) * 2000000 + q7 < (1000 - z) * 2000000 + q; omega⟩

end Go.Proofs.YtbiilnhefoplkaaGreatDoor

namespace Go.Proofs.YtbiilnhefoplkaaGreatDoor
open Go.RowKit Go.Maps Go.WideMaps
set_option maxRecDepth 100000

/-- K is told: the names that were asked, and others. -/
structure UpInv (T : List (Kv Pv)) (N K : List ByteArray) : Prop where
  is : ∃ E, K = N ++ E ∧ (E.map unB).Nodup ∧ ∀ e ∈ E, InM T (unB e) ∧ Rch (aboveV T) (N.map unB) (unB e)

theorem UpInv.start (T : List (Kv Pv)) (N : List ByteArray) : UpInv T N N := ⟨[], (List.append_nil _).symm, List.nodup_nil, fun e h => (by cases h)⟩

theorem UpInv.rch {T : List (Kv Pv)} {N K : List ByteArray} (h : UpInv T N K) {k : B13} (hk : k ∈ K.map unB) : Rch (aboveV T) (N.map unB) k := by
  obtain ⟨E, rfl, _, hE⟩ := h.is
  rw [List.map_append] at hk
  rcases List.mem_append.1 hk with hk | hk
  · exact .base hk
  · obtain ⟨e, he, rfl⟩ := List.mem_map.1 hk
    exact (hE e he).2

theorem UpInv.inn {T : List (Kv Pv)} {N K : List ByteArray} (h : UpInv T N K) (hN : ∀ y ∈ N, InM T (unB y)) {k : B13} (hk : k ∈ K.map unB) : InM T k := by
  obtain ⟨E, rfl, _, hE⟩ := h.is
  obtain ⟨e, he, rfl⟩ := List.mem_map.1 hk
  rcases List.mem_append.1 he with he | he
  · exact hN e he
  · exact (hE e he).1

theorem UpInv.len {T : List (Kv Pv)} {N K : List ByteArray} (hT : RiseM T) (h : UpInv T N K) : K.length ≤ N.length + T.length := by
  obtain ⟨E, rfl, h1, hE⟩ := h.is
  have := h1.length_le_of_subset (l₂ := T.map (·.1)) (fun k hk => by
    obtain ⟨e, he, rfl⟩ := List.mem_map.1 hk
    exact (inM_iff hT).1 (hE e he).1)
  rw [List.length_map, List.length_map] at this
  rw [List.length_append]
  omega

theorem UpInv.add {T : List (Kv Pv)} {N K : List ByteArray} (h : UpInv T N K) {t : Kv Pv} (hr : RiseM T) (ht : t ∈ T) (hk : t.1 = unB t.2.x.name) (hon : t.2.x.deps.any (hasB K) = true) (hno : hasB K t.2.x.name = false) : UpInv T N (K ++ [t.2.x.name]) := by
  have hn : unB t.2.x.name ∉ K.map unB := fun e => by rw [hasB_iff.2 e] at hno; cases hno
  obtain ⟨y, hy, hyK⟩ := List.any_eq_true.1 hon
  have hrch : Rch (aboveV T) (N.map unB) (unB t.2.x.name) := .step (h.rch (hasB_iff.1 hyK)) (mem_above.2 ⟨t, ht, List.mem_map.2 ⟨y, hy, rfl⟩, rfl⟩)
  have hin : InM T (unB t.2.x.name) := by rw [← hk]; unfold InM; rw [hr.get ht]; rfl
  obtain ⟨E, rfl, h1, hE⟩ := h.is
  refine ⟨E ++ [t.2.x.name], by rw [List.append_assoc], ?_, fun e he => ?_⟩
  · rw [List.map_append, List.nodup_append]
    refine ⟨h1, List.nodup_cons.2 ⟨by simp, List.nodup_nil⟩, fun a ha b hb e => hn ?_⟩
    rw [List.map_singleton, List.mem_singleton] at hb
    rw [List.map_append]
    exact List.mem_append_right _ (by rw [← hb, ← e]; exact ha)
  · rcases List.mem_append.1 he with he | he
    · exact hE e he
    · rw [List.mem_singleton.1 he]; exact ⟨hin, hrch⟩

/-- Nothing of some stands on what is told and is not told. -/
def ShutV (S : List (Kv Pv)) (K : List ByteArray) : Prop := ∀ t ∈ S, t.2.x.deps.any (hasB K) = true → hasB K t.2.x.name = true

theorem UpInv.done {T : List (Kv Pv)} {N K : List ByteArray} (h : UpInv T N K) (hs : ShutV T K) (k : B13) : k ∈ K.map unB ↔ Rch (aboveV T) (N.map unB) k := by
  constructor
  · exact h.rch
  · intro r
    induction r with
    | base hk =>
      obtain ⟨E, rfl, _, _⟩ := h.is
      rw [List.map_append]
      exact List.mem_append_left _ hk
    | step _ hx ih =>
      obtain ⟨t, ht, hd, rfl⟩ := mem_above.1 hx
      obtain ⟨y, hy, e⟩ := List.mem_map.1 hd
      exact hasB_iff.1 (hs t ht (List.any_eq_true.2 ⟨y, hy, hasB_iff.2 (e ▸ ih)⟩))

theorem ShutV.snoc {T : List (Kv Pv)} {K : List ByteArray} {i : Nat} (hi : i < T.length) (h : ShutV (T.take i) K) (ht : T[i].2.x.deps.any (hasB K) = true → hasB K T[i].2.x.name = true) : ShutV (T.take (i + 1)) K := fun t hm => by
  rw [List.take_succ_eq_append_getElem hi] at hm
  rcases List.mem_append.1 hm with hm | hm
  · exact h t hm
  · rw [List.mem_singleton.1 hm]; exact ht

end Go.Proofs.YtbiilnhefoplkaaGreatDoor

namespace Go.Proofs.YtbiilnhefoplkaaGreatDoor
open Go.RowKit Go.Maps Go.WideMaps
set_option maxRecDepth 100000

def boolV : Value → Nat
  | .bool true => 1
  | _ => 0

set_option maxHeartbeats 16000000 in
theorem dup14_any (va : Option Addr) (n c : Nat) (Z : List Pv) (pv : Option Addr) (m cm : Nat) (N : List ByteArray) (w : World) (hn : Z.length = n) (hr : RowV w va Z) (hN : n ≤ 1000000) (hs : ∀ d ∈ Z, SmallPa d.x) (hm : N.length = m) (hm2 : m ≤ 1000000) (hst : StrsAt w (.slice pv m cm) N) :
    Calls Tryz.prog 18 #[.slice va n c, .slice pv m cm] w fun e w' => DownPost (setV Z) aboveV (N.map unB) w e w' := by
  have q1 := dsorted14_any va n c Z w hn hr hN hs
  obtain ⟨R, hR⟩ : ∃ R, setV Z = R := ⟨_, rfl⟩
  have HR := toHid8 hR
  have HS := toHid8 hs
  have HM := toHid8 (And.intro hm hm2)
  have HSt := toHid8 hst
  rw [hR] at q1 ⊢
  clear hr hs hN hn hR hm hm2 hst
  go_enter Tryz.func18, Tryz.ntmps18
  go_wp2_with fail
  refine q1.mono ?_
  intro e w1 hP
  clear q1
  cases R with
  | none =>
    obtain ⟨rfl, f1⟩ := hP.none
    clear hP
    go_wp2_with fail
    go_ret2
    exact ⟨fun K e => (by cases e), fun _ => ⟨rfl, f1⟩⟩
  | some T =>
    obtain ⟨vb, c1, k, rfl, hk, hrw, f1⟩ := hP.rows
    have HT := toHid8 (rows_of HR.out HS.out hk)
    have HRise := toHid8 (setV_get HR.out).1
    have HRow := toHid8 hrw
    have HF1 := toHid8 f1
    have i0 : (k : Int) ≤ 256 := by have := HT.out.max; omega
    obtain ⟨v1, w2, r1, o1, f2⟩ := copy_run14 w1 (HSt.out.kept f1) (by rw [HM.out.1]; have := HM.out.2; omega)
    have HO1 := toHid8 o1
    obtain ⟨pq, cq0, ev, -, -⟩ := o1.slice
    rw [HM.out.1] at ev
    subst ev
    have HF2 := toHid8 f2
    have im : (m : Int) ≤ 1000000 := by have := HM.out.2; omega
    clear hP hk hrw f1 o1 f2
    go_wp2_with (at_builtin; refine app_list9 rfl _ _ rfl rfl rfl r1 ?_)
    go_loopw [8] (fun vi wr => ∃ i : Nat, i ≤ m ∧ vi = .int .i64 i ∧ Hid (∀ y ∈ N.take i, InM T (unB y)) ∧ Hid (Fr None' w2 wr)) (fun vi _ => m - (intOf vi).toNat)
    case atStart => exact ⟨0, Nat.zero_le _, rfl, (fun y h => by cases h), Fr.refl _ _⟩
    case round =>
      obtain ⟨i, hi, rfl, HI, HF⟩ := hrel
      have HFw := toHid8 (HF2.out.then7 HF.out)
      by_cases hlt : i < m
      case pos =>
        have hiN : i < N.length := by rw [HM.out.1]; exact hlt
        obtain ⟨g, o, rfl, hc0⟩ := strs_two (HSt.out.kept (HF1.out.then7 HFw.out)) (List.getElem?_eq_getElem hiN)
        have HTk := toHid8 (show N.take (i + 1) = N.take i ++ [N[i]] from List.take_succ_eq_append_getElem hiN)
        have hmem : N[i] ∈ N := List.getElem_mem hiN
        obtain ⟨x, hx⟩ : ∃ x, N[i] = x := ⟨_, rfl⟩
        rw [hx] at hc0 HTk hmem
        have HMem := toHid8 hmem
        have q4 := find14_any vb k c1 (T.map (·.2)) x wr (by rw [List.length_map]; exact HT.out.len) (HRow.out.kept HFw.out) (by have := HT.out.max; omega)
        rw [find_get14 HT.out.name] at q4
        obtain ⟨R, hR⟩ : ∃ R, getM T (unB x) = R := ⟨_, rfl⟩
        rw [hR] at q4
        have HR2 := toHid8 hR
        have i3 : (i : Int) < (m : Int) := by omega
        have i4 : (0 : Int) ≤ (i : Int) := by omega
        have HLt := toHid8 hlt
        clear hR hx hiN hmem hlt
        cases R with
        | none =>
          simp only [Option.getD_none, Option.isSome_none, mkV, zeroPv, List.length_nil] at q4
          go_wp2_with fail
          refine q4.mono ?_
          rintro e w4 ⟨rfl, f4⟩
          have HF4 := toHid8 ((HF1.out.then7 HFw.out).then7 (f4.then7 (Fr.alloc None' w4 (.cells #[.string ⟨#[]⟩, .slice none 0 0, .slice none 0 0] 36))))
          clear q4 f4
          go_wp2_with fail
          go_ret2
          refine ⟨fun T' e => ?_, fun e => (by cases e)⟩
          injection e with e
          subst e
          exact ⟨.inr ⟨⟨unB x, .base (List.mem_map.2 ⟨x, HMem.out, rfl⟩), fun h => by unfold InM at h; rw [HR2.out] at h; cases h⟩, rfl⟩, HF4.out⟩
        | some d =>
          simp only [Option.getD_some, Option.isSome_some, mkV] at q4
          obtain ⟨nd, hnd⟩ : ∃ y, d.x.deps.length = y := ⟨_, rfl⟩
          obtain ⟨nb, hnb⟩ : ∃ y, d.x.body.length = y := ⟨_, rfl⟩
          obtain ⟨N1, hN1⟩ : ∃ y, d.x.name = y := ⟨_, rfl⟩
          rw [hnd, hnb, hN1] at q4
          clear hnd hnb hN1
          go_wp2_with fail
          refine q4.mono ?_
          rintro e w4 ⟨rfl, f4⟩
          obtain ⟨w5, hw5⟩ : ∃ y, w4.alloc (.cells #[.string N1, .slice d.pu nd d.cu, .slice d.pb nb d.cb] 36) = y := ⟨_, rfl⟩
          have HF5 := toHid8 (HF.out.then7 (f4.then7 (hw5 ▸ Fr.alloc None' w4 _)))
          have HI5 := toHid8 (show ∀ y ∈ N.take (i + 1), InM T (unB y) from fun y hy => by
            rw [HTk.out] at hy
            rcases List.mem_append.1 hy with hy | hy
            · exact HI.out y hy
            · rw [List.mem_singleton.1 hy]; unfold InM; rw [HR2.out]; rfl)
          clear q4 f4
          go_wp2_with fail
          exact ⟨⟨i + 1, by have := HLt.out; omega, by go_num, HI5.out, HF5.out⟩, by simp [intOf]; have := HLt.out; omega⟩
      case neg =>
        have HIn := toHid8 (show ∀ y ∈ N, InM T (unB y) from fun y hy => HI.out y (by rw [List.take_of_length_le (by rw [HM.out.1]; omega)]; exact hy))
        have HOs := toHid8 (HO1.out.frame HF.out (fun _ e => e.elim))
        have i3 : ¬ (i : Int) < (m : Int) := by omega
        clear hlt
        go_wp2_with fail
        go_loopw [7, 11] (fun vo vm w3 => ∃ (K : List ByteArray) (z cz : Nat) (vz : Option Addr) (b : Bool), vo = .slice vz z cz ∧ vm = .bool b ∧ Hid (K.length = z) ∧ Hid (UpInv T N K) ∧ Hid (b = false → ShutV T K) ∧ Hid (OwnS14 w1.heap.size w3 (.slice vz z cz) K) ∧ Hid (Fr None' w1 w3)) (fun vo vm _ => (2000000 - lenV vo) * 2 + boolV vm)
        case atStart => exact ⟨N, m, cq0, pq, true, rfl, rfl, HM.out.1, UpInv.start T N, (fun e => by cases e), HOs.out, HFw.out⟩
        case round =>
          obtain ⟨K, z, cz, vz, b, rfl, rfl, HLen, HU, HSh, HO, HF3⟩ := hrel
          have hz := HU.out.len HRise.out
          have hz2 : z ≤ 1000256 := by have h1 := HLen.out; have h2 := HT.out.len; have h3 := HT.out.max; have h4 := HM.out.1; have h5 := HM.out.2; omega
          have HZ := toHid8 hz2
          have iz : (z : Int) ≤ 1000256 := by omega
          clear hz hz2
          cases b with
          | false =>
            have q9 := drising14_any vb k c1 (T.map (·.2)) vz z cz K wr (by rw [List.length_map]; exact HT.out.len) (HRow.out.kept HF3.out) (by have := HT.out.max; omega) HLen.out (by obtain ⟨_, _, _, _, h⟩ := HO.out.slice; exact h) (by have := HZ.out; omega)
            go_wp2_with fail
            refine q9.mono ?_
            rintro e w9 ⟨v9, rfl, hs9, f9⟩
            have HP := toHid8 (ris_post (T := T) (Nx := aboveV T) (N := N.map unB) (D := K) HRise.out HT.out.name (fun x r => HU.out.inn HIn.out ((HU.out.done (HSh.out (by trivial)) x).2 r)) (fun x => HU.out.done (HSh.out (by trivial)) x) hs9 ((HF1.out.then7 HF3.out).then7 f9))
            clear q9 hs9 f9
            go_wp2_with fail
            go_ret2
            exact ⟨fun T' e => (by injection e with e; subst e; exact HP.out), fun e => (by cases e)⟩
          | true =>
            obtain ⟨wo, hwo⟩ : ∃ y, y = wr := ⟨_, rfl⟩
            have HFo := toHid8 (show Fr None' w1 wo from by rw [hwo]; exact HF3.out)
            have HOo := toHid8 (show OwnS14 w1.heap.size wr (.slice vz z cz) K from HO.out)
            have HF0 := toHid8 (show Fr None' wo wr from by rw [hwo]; exact Fr.refl _ _)
            clear hwo
            have HLz := toHid8 (show K.length = z ∧ z ≤ z ∧ ((false : Bool) = true → z < z) from ⟨HLen.out, Nat.le_refl _, fun e => (by cases e)⟩)
            go_wp2_with fail
            go_loopw [7, 11, 12] (fun vo vm vi w4 => ∃ (j : Nat) (K2 : List ByteArray) (z2 cz2 : Nat) (vz2 : Option Addr) (b : Bool), j ≤ k ∧ vi = .int .i64 j ∧ vo = .slice vz2 z2 cz2 ∧ vm = .bool b ∧ Hid (K2.length = z2 ∧ z ≤ z2 ∧ (b = true → z < z2)) ∧ Hid (UpInv T N K2) ∧ Hid (b = false → ShutV (T.take j) K2) ∧ Hid (OwnS14 w1.heap.size w4 (.slice vz2 z2 cz2) K2) ∧ Hid (Fr None' w1 w4)) (fun _ _ vi _ => k - (intOf vi).toNat)
            case atStart => exact ⟨0, K, z, cz, vz, false, Nat.zero_le _, rfl, rfl, rfl, HLz.out, HU.out, (fun _ t h => by cases h), HOo.out, HF3.out⟩
            case round =>
              clear HO HF3 HOo HFo HF0 HU HLz
              obtain ⟨j, K2, z2, cz2, vz2, b, hj, rfl, rfl, rfl, HLen2, HU2, HSh2, HO2, HF4⟩ := hrel
              have hz := HU2.out.len HRise.out
              have hz2 : z2 ≤ 1000256 := by have h1 := HLen2.out.1; have h2 := HT.out.len; have h3 := HT.out.max; have h4 := HM.out.1; have h5 := HM.out.2; omega
              have HZ2 := toHid8 hz2
              have iz2 : (z2 : Int) ≤ 1000256 := by omega
              clear hz hz2
              by_cases hjt : j < k
              case neg =>
                have ej : T.take j = T := List.take_of_length_le (by rw [HT.out.len]; omega)
                have HShT := toHid8 (show b = false → ShutV T K2 from fun e => by have h := HSh2.out e; rw [ej] at h; exact h)
                have i6 : ¬ (j : Int) < (k : Int) := by omega
                clear hjt ej
                go_wp2_with fail
                refine ⟨⟨K2, z2, cz2, vz2, b, rfl, rfl, HLen2.out.1, HU2.out, HShT.out, HO2.out, HF4.out⟩, ?_⟩
                have h1 := HLen2.out.2.1
                have h2 := HLen2.out.2.2
                have h3 := HZ2.out
                show (2000000 - z2) * 2 + boolV (.bool b) < (2000000 - z) * 2 + 1
                cases b with
                | false => show (2000000 - z2) * 2 + 0 < _; omega
                | true => have := h2 rfl; show (2000000 - z2) * 2 + 1 < _; omega
              case pos =>
                have hjT : j < T.length := by rw [HT.out.len]; exact hjt
                have hjM : j < (T.map (·.2)).length := by rw [List.length_map]; exact hjT
                obtain ⟨g, o, rfl, c0, c1', -, hin⟩ := HRow.out.kept HF4.out j _ (List.getElem?_eq_getElem hjM)
                rw [List.getElem_map] at c0 c1' hin
                have htm := List.getElem_mem hjT
                have HSn2 := toHid8 (fun h0 h1 => ShutV.snoc (K := K2) hjT h0 h1)
                have HAdd := toHid8 (fun h0 h1 => HU2.out.add HRise.out htm (HT.out.name _ htm) h0 h1)
                have hdl := (HT.out.deps _ htm).1
                obtain ⟨t, ht⟩ : ∃ t, T[j] = t := ⟨_, rfl⟩
                rw [ht] at c0 c1' hin HSn2 HAdd hdl
                obtain ⟨N2, hN2⟩ : ∃ y, t.2.x.name = y := ⟨_, rfl⟩
                obtain ⟨nd, hnd⟩ : ∃ y, t.2.x.deps.length = y := ⟨_, rfl⟩
                have hdp := hin.deps
                rw [hnd] at c1' hdp hdl
                rw [hN2] at c0 HSn2 HAdd
                obtain ⟨wp, hwp⟩ : ∃ y, y = wr := ⟨_, rfl⟩
                have HDp := toHid8 (show StrsAt wp (.slice t.2.pu nd t.2.cu) t.2.x.deps from by rw [hwp]; exact hdp)
                have HC := toHid8 (show wp.cell? ⟨g, o + j * 3, none⟩ = some (.string N2) ∧ wp.cell? ⟨g, o + j * 3 + 1, none⟩ = some (.slice t.2.pu nd t.2.cu) from by rw [hwp]; exact ⟨c0, c1'⟩)
                have HO4 := toHid8 (show OwnS14 w1.heap.size wp (.slice vz2 z2 cz2) K2 from by rw [hwp]; exact HO2.out)
                have HFp := toHid8 (show Fr None' w1 wp from by rw [hwp]; exact HF4.out)
                have HF0 := toHid8 (show Fr None' wp wr from by rw [hwp]; exact Fr.refl _ _)
                have HNd := toHid8 hnd
                have i3 : (j : Int) < (k : Int) := by omega
                have i4 : (0 : Int) ≤ (j : Int) := by omega
                have i5 : (nd : Int) ≤ 1000000 := by omega
                have HJt := toHid8 hjt
                clear hjT hjM hin htm hdl ht hN2 hnd hdp hwp hjt c0 HO2 HF4
                go_wp2_with fail
                go_loopw [13, 14] (fun vn vl w5 => ∃ l : Nat, l ≤ nd ∧ vl = .int .i64 l ∧ vn = .bool ((t.2.x.deps.take l).any (hasB K2)) ∧ Hid (Fr None' wp w5)) (fun _ vl _ => nd - (intOf vl).toNat)
                case atStart => exact ⟨0, Nat.zero_le _, rfl, rfl, HF0.out⟩
                case round =>
                  obtain ⟨l, hl, rfl, rfl, HF5⟩ := hrel
                  have c0 := HF5.out.keepCell HC.out.1 (fun e => e)
                  have c1' := HF5.out.keepCell HC.out.2 (fun e => e)
                  have HFl := toHid8 (HFp.out.then7 HF5.out)
                  have HS5 := toHid8 (show ∀ wy, Fr None' wr wy → StrsAt wy (.slice vz2 z2 cz2) K2 from fun wy f => by obtain ⟨_, _, _, _, h⟩ := HO4.out.slice; exact h.kept (HF5.out.then7 f))
                  by_cases hlt2 : l < nd
                  case pos =>
                    have hld : l < t.2.x.deps.length := by rw [HNd.out]; exact hlt2
                    obtain ⟨gd, od, hpd, hcd⟩ := strs_two (HDp.out.kept HF5.out) (List.getElem?_eq_getElem hld)
                    have HSn := toHid8 (any_snoc14 (hasB K2) hld)
                    obtain ⟨y, hy⟩ : ∃ y, t.2.x.deps[l] = y := ⟨_, rfl⟩
                    rw [hy] at hcd HSn
                    rw [hpd] at c1'
                    have HHas := toHid8 (fun wy (f : Fr None' wr wy) => has14_any vz2 z2 cz2 _ y wy HLen2.out.1 (HS5.out wy f) (by have := HZ2.out; omega))
                    obtain ⟨bk, hbk⟩ : ∃ z, (t.2.x.deps.take l).any (hasB K2) = z := ⟨_, rfl⟩
                    obtain ⟨bY, hbY⟩ : ∃ z, hasB K2 y = z := ⟨_, rfl⟩
                    rw [hbY] at HHas
                    rw [hbY, hbk] at HSn
                    rw [hbk]
                    have i7 : (l : Int) < (nd : Int) := by omega
                    have i8 : (0 : Int) ≤ (l : Int) := by omega
                    have HKt := toHid8 hlt2
                    clear hld hpd hy hbk hbY hlt2
                    cases bk
                    case true =>
                      go_wp2_with fail
                      exact ⟨⟨l + 1, by have := HKt.out; omega, by go_num, by rw [HSn.out, Bool.true_or], HF5.out⟩, by simp [intOf]; have := HKt.out; omega⟩
                    case false =>
                      go_wp2_with fail
                      refine (HHas.out _ (Fr.refl _ _)).mono ?_
                      rintro e x1 ⟨rfl, f⟩
                      have HX := toHid8 (HF5.out.then7 f)
                      clear f
                      go_wp2_with fail
                      exact ⟨⟨l + 1, by have := HKt.out; omega, by go_num, by rw [HSn.out, Bool.false_or], HX.out⟩, by simp [intOf]; have := HKt.out; omega⟩
                  case neg =>
                    have el : t.2.x.deps.take l = t.2.x.deps := List.take_of_length_le (by rw [HNd.out]; omega)
                    rw [el]
                    have i7 : ¬ (l : Int) < (nd : Int) := by omega
                    obtain ⟨on, hon⟩ : ∃ z, t.2.x.deps.any (hasB K2) = z := ⟨_, rfl⟩
                    rw [hon] at HSn2 HAdd ⊢
                    clear hlt2 el hon
                    cases on with
                    | false =>
                      go_wp2_with fail
                      exact ⟨⟨j + 1, K2, z2, cz2, vz2, b, by have := HJt.out; omega, by go_num, rfl, rfl, HLen2.out, HU2.out, fun e => HSn2.out (HSh2.out e) (fun h => by cases h), HO4.out.frame HF5.out (fun _ e => e.elim), HFl.out⟩, by simp [intOf]; have := HJt.out; omega⟩
                    | true =>
                      have q8 := has14_any vz2 z2 cz2 _ N2 wr HLen2.out.1 (HS5.out wr (Fr.refl _ _)) (by have := HZ2.out; omega)
                      obtain ⟨b2, hb2⟩ : ∃ z, hasB K2 N2 = z := ⟨_, rfl⟩
                      rw [hb2] at q8 HSn2 HAdd
                      clear hb2
                      go_wp2_with fail
                      refine q8.mono ?_
                      rintro e wz ⟨rfl, fz⟩
                      have HFz := toHid8 (HF5.out.then7 fz)
                      have HOz := toHid8 (HO4.out.frame HFz.out (fun _ e => e.elim))
                      have HFzz := toHid8 (HFp.out.then7 HFz.out)
                      have c0 := HFz.out.keepCell HC.out.1 (fun e => e)
                      clear q8 fz
                      cases b2 with
                      | true =>
                        go_wp2_with fail
                        exact ⟨⟨j + 1, K2, z2, cz2, vz2, b, by have := HJt.out; omega, by go_num, rfl, rfl, HLen2.out, HU2.out, fun e => HSn2.out (HSh2.out e) (fun _ => by trivial), HOz.out, HFzz.out⟩, by simp [intOf]; have := HJt.out; omega⟩
                      | false =>
                        have HUa := toHid8 (HAdd.out (by trivial) (by trivial))
                        obtain ⟨v6, w6, hr6, hO6, f6⟩ := HOz.out.push N2 HFzz.out.size (by rw [HLen2.out.1]; have := HZ2.out; omega)
                        obtain ⟨va6, ca6, ev6, -, -⟩ := hO6.slice
                        have el6 : (K2 ++ [N2]).length = z2 + 1 := by rw [List.length_append, HLen2.out.1]; rfl
                        have HL6 := toHid8 el6
                        rw [el6] at ev6
                        subst ev6
                        have HO6 := toHid8 hO6
                        have HF6 := toHid8 (HFzz.out.trans f6 (fun i e => Or.inr (HOz.out.ge i e)))
                        clear hO6 f6 el6
                        go_wp2_with (at_builtin; refine app_list9 rfl _ _ rfl rfl rfl hr6 ?_)
                        exact ⟨⟨j + 1, K2 ++ [N2], z2 + 1, ca6, va6, true, by have := HJt.out; omega, by go_num, rfl, rfl, ⟨HL6.out, by have := HLen2.out.2.1; omega, fun _ => by have := HLen2.out.2.1; omega⟩, HUa.out, fun e => (by cases e), HO6.out, HF6.out⟩, by simp [intOf]; have := HJt.out; omega⟩

end Go.Proofs.YtbiilnhefoplkaaGreatDoor

namespace Go.Proofs.YtbiilnhefoplkaaGreatDoor
open Go.RowKit Go.Maps Go.WideMaps
set_option maxRecDepth 100000

structure RSl (w : World) (n c d j ga oa gb ob nd nb xcu xcb ycu ycb : Nat) (xu xb yu yb : Option Addr) (N : ByteArray) (t0 t1 t2 t3 t4 t5 t6 t7 t8 t9 : Value) (S : Nat → Bool) (w' : World) : Prop where
  fr : Fr None' w w'
  o0 : S 0 = true → t0 = .slice (some ⟨ga, oa, none⟩) n c
  o1 : S 1 = true → t1 = .int .i64 j
  o2 : S 2 = true → t2 = .pointer (some ⟨ga, oa + j * 3, none⟩)
  o3 : S 3 = true → t3 = .agg #[.string N, .slice xu nd xcu, .slice xb nb xcb]
  o4 : S 4 = true → t4 = .slice (some ⟨gb, ob, none⟩) n d
  o5 : S 5 = true → t5 = .int .i64 j
  o6 : S 6 = true → t6 = .pointer (some ⟨gb, ob + j * 3, none⟩)
  o7 : S 7 = true → t7 = .agg #[.string N, .slice yu nd ycu, .slice yb nb ycb]
  o8 : S 8 = true → t8 = .bool true
  o9 : S 9 = true → t9 = .bool false

def RSlI (w : World) (n c d j ga oa gb ob nd nb xcu xcb ycu ycb : Nat) (xu xb yu yb : Option Addr) (N : ByteArray) (T : Value → Value → Value → Value → Value → Value → Value → Value → Value → Value → Array Value) (S : Nat → Bool) (a : Act) (w' : World) : Prop := ∃ t0 t1 t2 t3 t4 t5 t6 t7 t8 t9, a = { tmps := T t0 t1 t2 t3 t4 t5 t6 t7 t8 t9, defers := [] } ∧ RSl w n c d j ga oa gb ob nd nb xcu xcb ycu ycb xu xb yu yb N t0 t1 t2 t3 t4 t5 t6 t7 t8 t9 S w'

set_option maxHeartbeats 8000000 in
theorem dsame14_any (va : Option Addr) (n c : Nat) (A : List Pv) (vb : Option Addr) (d : Nat) (B : List Pv) (w : World) (hn : A.length = n) (hm : B.length = n) (ha : RowV w va A) (hb : RowV w vb B) (hs : ∀ x ∈ A, FewPa x.x) (he : A.map (·.x) = B.map (·.x)) (hN : n ≤ 1000000) :
    Calls Tryz.prog 13 #[.slice va n c, .slice vb n d] w fun e w' => e = .returned (.bool true) ∧ Fr None' w w' := by
  have HA := toHid8 hn
  have HB := toHid8 hm
  have HRa := toHid8 ha
  have HRb := toHid8 hb
  have HS := toHid8 hs
  have HE := toHid8 he
  have i0 : (n : Int) ≤ 1000000 := by omega
  clear hn hm ha hb hs he hN
  go_enter Tryz.func13, Tryz.ntmps13
  go_wp2_with fail
  go_loopw [5] (fun vi wr => ∃ j : Nat, j ≤ n ∧ vi = .int .i64 j ∧ Hid (Fr None' w wr)) (fun vi _ => n - (intOf vi).toNat)
  case atStart => exact ⟨0, Nat.zero_le _, rfl, Fr.refl _ _⟩
  case round =>
    obtain ⟨j, hj, rfl, HF⟩ := hrel
    by_cases hlt : j < n
    case neg =>
      have i1 : ¬ (j : Int) < (n : Int) := by omega
      clear hlt
      go_wp2_with fail
      go_ret
      exact ⟨rfl, HF.out⟩
    case pos =>
      have hja : j < A.length := by rw [HA.out]; exact hlt
      have hjb : j < B.length := by rw [HB.out]; exact hlt
      obtain ⟨ga, oa, rfl, a0, a1, a2, ain⟩ := HRa.out.kept HF.out j _ (List.getElem?_eq_getElem hja)
      obtain ⟨gb, ob, rfl, b0, b1, b2, bin⟩ := HRb.out.kept HF.out j _ (List.getElem?_eq_getElem hjb)
      have hx : A[j].x = B[j].x := by
        have h1 := congrArg (fun l => l[j]?) HE.out
        simp only [List.getElem?_map, List.getElem?_eq_getElem hja, List.getElem?_eq_getElem hjb, Option.map_some, Option.some.injEq] at h1
        exact h1
      have hfw := HS.out _ (List.getElem_mem hja)
      obtain ⟨x, hxx⟩ : ∃ x, A[j] = x := ⟨_, rfl⟩
      obtain ⟨y, hyy⟩ : ∃ y, B[j] = y := ⟨_, rfl⟩
      rw [hxx] at a0 a1 a2 ain hx hfw
      rw [hyy] at b0 b1 b2 bin hx
      have hsame := toHid8 (fun wy (f : Fr None' wr wy) => msame_any x.x y.x (.slice x.pu x.x.deps.length x.cu) (.slice y.pu y.x.deps.length y.cu) x.pb y.pb x.x.body.length y.x.body.length x.cb y.cb wy rfl rfl (ain.deps.kept f) (bin.deps.kept f) (ain.body.kept f) (bin.body.kept f) (by have := hfw.small14.body.1; omega) (by have := hfw.deps.1; omega) (fun z hz => by have := hfw.small14.body.2 z hz; exact ⟨by have := this.old; omega, by have := this.new; omega⟩))
      rw [samePa_iff.2 hx] at hsame
      rw [← hx] at hsame b0 b1 b2
      obtain ⟨nd, hnd⟩ : ∃ z, x.x.deps.length = z := ⟨_, rfl⟩
      obtain ⟨nb, hnb⟩ : ∃ z, x.x.body.length = z := ⟨_, rfl⟩
      obtain ⟨N, hN⟩ : ∃ z, x.x.name = z := ⟨_, rfl⟩
      rw [hnd, hnb, hN] at hsame
      rw [hN] at a0 b0
      rw [hnd] at a1 b1
      rw [hnb] at a2 b2
      have HCa := toHid8 (And.intro a0 (And.intro a1 a2))
      have HCb := toHid8 (And.intro b0 (And.intro b1 b2))
      have i1 : (j : Int) < (n : Int) := by omega
      have i2 : (0 : Int) ≤ (j : Int) := by omega
      have HLt := toHid8 hlt
      clear hja hjb ain bin hx hfw hxx hyy hnd hnb hN hlt a0 a1 a2 b0 b1 b2
      go_wp2_with fail
      refine (wpIn_wide (n := 1)).1 (region_inv_g (by kernel_rfl) rfl (by decide +kernel) (RSlI wr n c d j ga oa gb ob nd nb x.cu x.cb y.cu y.cb x.pu x.pb y.pu y.pb N (fun t0 t1 t2 t3 t4 t5 t6 t7 t8 t9 => #[Value.slice (some { block := ga, off := oa }) n c, Value.slice (some { block := gb, off := ob }) n d, undef, undef, u4, Value.int IntKind.i64 ↑j, Value.slice (some { block := ga, off := oa }) n c, Value.int IntKind.i64 ↑n, Value.slice (some { block := gb, off := ob }) n d, Value.int IntKind.i64 ↑n, Value.bool false, Value.int IntKind.i64 ↑j, Value.slice (some { block := ga, off := oa }) n c, Value.int IntKind.i64 ↑n, Value.bool true, u15, u16, t0, t1, t2, t3, t4, t5, t6, t7, t8, t9])) ?h0 ?step ?done)
      case h0 => exact ⟨u17, u18, u19, u20, u21, u22, u23, u24, u25, u26, rfl, Fr.drew None' wr, (fun h => by cases h), (fun h => by cases h), (fun h => by cases h), (fun h => by cases h), (fun h => by cases h), (fun h => by cases h), (fun h => by cases h), (fun h => by cases h), (fun h => by cases h), (fun h => by cases h)⟩
      case step =>
        rintro S a w' ⟨t0, t1, t2, t3, t4, t5, t6, t7, t8, t9, rfl, R⟩
        dsimp only
        refine StepsG.cons (fun h0 hd => ?s0) (StepsG.cons (fun h0 hd => ?s1) (StepsG.cons (fun h0 hd => ?s2) (StepsG.cons (fun h0 hd => ?s3) (StepsG.cons (fun h0 hd => ?s4) (StepsG.cons (fun h0 hd => ?s5) (StepsG.cons (fun h0 hd => ?s6) (StepsG.cons (fun h0 hd => ?s7) (StepsG.cons (fun h0 hd => ?s8) (StepsG.cons (fun h0 hd => ?s9) (StepsG.nil))))))))))
        case s0 =>
         as_aux_lemma =>
          clear hd h0
          refine StepG.want rfl ?_
          go_simp
          exact ⟨_, _, _, _, _, _, _, _, _, _, rfl, R.fr, (fun _ => rfl), R.o1, R.o2, R.o3, R.o4, R.o5, R.o6, R.o7, R.o8, R.o9⟩
        case s1 =>
         as_aux_lemma =>
          clear hd h0
          refine StepG.want rfl ?_
          go_simp
          exact ⟨_, _, _, _, _, _, _, _, _, _, rfl, R.fr, R.o0, (fun _ => rfl), R.o2, R.o3, R.o4, R.o5, R.o6, R.o7, R.o8, R.o9⟩
        case s2 =>
         as_aux_lemma =>
          have k0 : S 0 = true := hd { on := 0, ground := .data } (by simp) rfl
          have e0 := R.o0 k0
          subst e0
          have k1 : S 1 = true := hd { on := 1, ground := .data } (by simp) rfl
          have e1 := R.o1 k1
          subst e1
          clear hd h0 k0 k1
          refine StepG.want rfl ?_
          go_simp
          exact ⟨_, _, _, _, _, _, _, _, _, _, rfl, R.fr, (fun _ => rfl), (fun _ => rfl), (fun _ => rfl), R.o3, R.o4, R.o5, R.o6, R.o7, R.o8, R.o9⟩
        case s3 =>
         as_aux_lemma =>
          have k2 : S 2 = true := hd { on := 2, ground := .data } (by simp) rfl
          have e2 := R.o2 k2
          subst e2
          obtain ⟨q0, q1, q2⟩ := HCa.out
          have r0 := R.fr.keepCell q0 (fun e => e)
          have r1 := R.fr.keepCell q1 (fun e => e)
          have r2 := R.fr.keepCell q2 (fun e => e)
          clear q0 q1 q2
          clear hd h0 k2
          refine StepG.want rfl ?_
          go_simp
          exact ⟨_, _, _, _, _, _, _, _, _, _, rfl, R.fr, R.o0, R.o1, (fun _ => rfl), (fun _ => rfl), R.o4, R.o5, R.o6, R.o7, R.o8, R.o9⟩
        case s4 =>
         as_aux_lemma =>
          clear hd h0
          refine StepG.want rfl ?_
          go_simp
          exact ⟨_, _, _, _, _, _, _, _, _, _, rfl, R.fr, R.o0, R.o1, R.o2, R.o3, (fun _ => rfl), R.o5, R.o6, R.o7, R.o8, R.o9⟩
        case s5 =>
         as_aux_lemma =>
          clear hd h0
          refine StepG.want rfl ?_
          go_simp
          exact ⟨_, _, _, _, _, _, _, _, _, _, rfl, R.fr, R.o0, R.o1, R.o2, R.o3, R.o4, (fun _ => rfl), R.o6, R.o7, R.o8, R.o9⟩
        case s6 =>
         as_aux_lemma =>
          have k4 : S 4 = true := hd { on := 4, ground := .data } (by simp) rfl
          have e4 := R.o4 k4
          subst e4
          have k5 : S 5 = true := hd { on := 5, ground := .data } (by simp) rfl
          have e5 := R.o5 k5
          subst e5
          clear hd h0 k4 k5
          refine StepG.want rfl ?_
          go_simp
          exact ⟨_, _, _, _, _, _, _, _, _, _, rfl, R.fr, R.o0, R.o1, R.o2, R.o3, (fun _ => rfl), (fun _ => rfl), (fun _ => rfl), R.o7, R.o8, R.o9⟩
        case s7 =>
         as_aux_lemma =>
          have k6 : S 6 = true := hd { on := 6, ground := .data } (by simp) rfl
          have e6 := R.o6 k6
          subst e6
          obtain ⟨q0, q1, q2⟩ := HCb.out
          have r0 := R.fr.keepCell q0 (fun e => e)
          have r1 := R.fr.keepCell q1 (fun e => e)
          have r2 := R.fr.keepCell q2 (fun e => e)
          clear q0 q1 q2
          clear hd h0 k6
          refine StepG.want rfl ?_
          go_simp
          exact ⟨_, _, _, _, _, _, _, _, _, _, rfl, R.fr, R.o0, R.o1, R.o2, R.o3, R.o4, R.o5, (fun _ => rfl), (fun _ => rfl), R.o8, R.o9⟩
        case s8 =>
         as_aux_lemma =>
          have k3 : S 3 = true := hd { on := 3, ground := .data } (by simp) rfl
          have e3 := R.o3 k3
          subst e3
          have k7 : S 7 = true := hd { on := 7, ground := .data } (by simp) rfl
          have e7 := R.o7 k7
          subst e7
          clear hd h0 k3 k7
          refine StepG.want rfl ?_
          go_simp
          refine ⟨trivial, (callsIn_wide.2 (hsame.out w' R.fr)).mono ?_⟩
          rintro e w'' ⟨rfl, f⟩
          exact ⟨_, _, _, _, _, _, _, _, _, _, rfl, R.fr.then7 f, R.o0, R.o1, R.o2, (fun _ => rfl), R.o4, R.o5, R.o6, (fun _ => rfl), (fun _ => rfl), R.o9⟩
        case s9 =>
         as_aux_lemma =>
          have k8 : S 8 = true := hd { on := 8, ground := .data } (by simp) rfl
          have e8 := R.o8 k8
          subst e8
          clear hd h0 k8
          refine StepG.want rfl ?_
          go_simp
          exact ⟨_, _, _, _, _, _, _, _, _, _, rfl, R.fr, R.o0, R.o1, R.o2, R.o3, R.o4, R.o5, R.o6, R.o7, (fun _ => rfl), (fun _ => rfl)⟩
      case done =>
        rintro S a w' ⟨t0, t1, t2, t3, t4, t5, t6, t7, t8, t9, rfl, R⟩ hall
        dsimp only
        have e9 := R.o9 (hall 9 (by simp))
        subst e9
        have HFn := toHid8 (HF.out.then7 R.fr)
        clear R hall
        go_wp2_with fail
        exact ⟨⟨j + 1, by have := HLt.out; omega, by go_num, HFn.out⟩, by simp [intOf]; have := HLt.out; omega⟩
end Go.Proofs.YtbiilnhefoplkaaGreatDoor

namespace Go.Proofs.YtbiilnhefoplkaaGreatDoor
open Go.RowKit Go.Maps Go.WideMaps
set_option maxRecDepth 100000

/-- What Sorted answers: its error, and its patches. -/
def srtE (Z : List Pv) : Int × List Pa := match setV Z with
  | none => (1, [])
  | some T => (0, T.map (·.2.x))

theorem SortedPost.told {Z : List Pv} {w w' : World} {e : Ending} (h : SortedPost w (setV Z) e w') : ∃ va c n A, e = .returned (.tuple #[.slice va n c, .int .i64 (srtE Z).1]) ∧ (A : List Pv).length = n ∧ (srtE Z).2.length = n ∧ RowV w' va A ∧ A.map (·.x) = (srtE Z).2 ∧ Fr None' w w' := by
  obtain ⟨h1, h2, f⟩ := h
  unfold srtE
  cases hs : setV Z with
  | none =>
    obtain rfl := h2 hs
    exact ⟨none, 0, 0, [], rfl, rfl, rfl, (fun k c h => by cases h), rfl, f⟩
  | some T =>
    obtain ⟨va, ca, A, rfl, _, hx, hr⟩ := h1 T hs
    have hl : A.length = T.length := by have := congrArg List.length hx; simpa using this
    exact ⟨va, ca, T.length, A, rfl, hl, List.length_map _, hr, hx, f⟩

theorem DSoPost.told {Z : List Pv} {w w' : World} {e : Ending} (h : DSoPost w (setV Z) e w') : ∃ va c n A, e = .returned (.tuple #[.slice va n c, .int .i64 (srtE Z).1]) ∧ (A : List Pv).length = n ∧ (srtE Z).2.length = n ∧ RowV w' va A ∧ A.map (·.x) = (srtE Z).2 ∧ Fr None' w w' := by
  unfold srtE
  cases hs : setV Z with
  | none =>
    rw [hs] at h
    obtain ⟨rfl, f⟩ := h.none
    exact ⟨Option.none, 0, 0, [], rfl, rfl, rfl, (fun k c h => by cases h), rfl, f⟩
  | some T =>
    rw [hs] at h
    obtain ⟨va, c, n, rfl, hn, hr, f⟩ := h.rows
    exact ⟨va, c, n, _, rfl, by rw [List.length_map]; exact hn, by rw [List.length_map]; exact hn, hr, by rw [List.map_map]; rfl, f⟩

theorem srt_few {Z : List Pv} (h : ∀ d ∈ Z, FewPa d.x) : ∀ p ∈ (srtE Z).2, FewPa p := fun p hp => by
  unfold srtE at hp
  cases hs : setV Z with
  | none => rw [hs] at hp; cases hp
  | some T =>
    rw [hs] at hp
    obtain ⟨t, ht, rfl⟩ := List.mem_map.1 hp
    exact h _ ((setV_is hs t).1 ht).1

/-- What Down or Up tells, in one way only. -/
def DP2 (R : Option (List (Kv Pv))) (Nx : List (Kv Pv) → B13 → List ByteArray) (N : List B13) (er : Int) (K : List B13) : Prop :=
  (R = none ∧ er = 1 ∧ K = []) ∨ ∃ T, R = some T ∧ ((er = 0 ∧ K.Pairwise (· < ·) ∧ (∀ k, k ∈ K ↔ Rch (Nx T) N k) ∧ ∀ k ∈ K, InM T k) ∨ (er = 12 ∧ K = [] ∧ ∃ z, Rch (Nx T) N z ∧ ¬ InM T z))

theorem rise_ext14 {K L : List B13} (hK : K.Pairwise (· < ·)) (hL : L.Pairwise (· < ·)) (h : ∀ k, k ∈ K ↔ k ∈ L) : K = L := by
  have e : ∀ M : List B13, (M.map (fun k => ((k, ()) : Kv Unit))).map (·.1) = M := fun M => by rw [List.map_map]; exact List.map_id _
  have := riseM_ext (K := K.map (fun k => ((k, ()) : Kv Unit))) (L := L.map (fun k => ((k, ()) : Kv Unit))) (by unfold RiseM; rw [e]; exact hK) (by unfold RiseM; rw [e]; exact hL) (fun t => by
    obtain ⟨t, ⟨⟩⟩ := t
    simp [h])
  rw [← e K, ← e L, this]

theorem DP2.uniq {R : Option (List (Kv Pv))} {Nx : List (Kv Pv) → B13 → List ByteArray} {N K L : List B13} {e f : Int} (h : DP2 R Nx N e K) (g : DP2 R Nx N f L) : f = e ∧ L = K := by
  rcases h with ⟨h1, rfl, rfl⟩ | ⟨T, h1, h2⟩
  · rcases g with ⟨_, rfl, rfl⟩ | ⟨T, g1, _⟩
    · exact ⟨rfl, rfl⟩
    · rw [h1] at g1; cases g1
  · rcases g with ⟨g1, _, _⟩ | ⟨T', g1, g2⟩
    · rw [h1] at g1; cases g1
    · rw [h1] at g1
      injection g1 with g1
      subst g1
      rcases h2 with ⟨rfl, a, b, c⟩ | ⟨rfl, rfl, z, hz, hn⟩
      · rcases g2 with ⟨rfl, a', b', _⟩ | ⟨rfl, rfl, z, hz, hn⟩
        · exact ⟨rfl, rise_ext14 a' a (fun k => by rw [b, b'])⟩
        · exact absurd (c z ((b z).2 hz)) hn
      · rcases g2 with ⟨rfl, _, b', c'⟩ | ⟨rfl, rfl, _⟩
        · exact absurd (c' z ((b' z).2 hz)) hn
        · exact ⟨rfl, rfl⟩

theorem DownPost.told2 {Z : List Pv} {Nx : List (Kv Pv) → B13 → List ByteArray} {N : List B13} {w w' : World} {e : Ending} (h : DownPost (setV Z) Nx N w e w') : ∃ er K p c n, e = .returned (.tuple #[.slice p n c, .int .i64 er]) ∧ (K : List B13).length = n ∧ n ≤ 256 ∧ StrsAt w' (.slice p n c) (K.map mkB) ∧ DP2 (setV Z) Nx N er K ∧ Fr None' w w' := by
  obtain ⟨h1, h2⟩ := h
  cases hR : setV Z with
  | none =>
    obtain ⟨rfl, f⟩ := h2 hR
    exact ⟨1, [], none, 0, 0, rfl, rfl, by decide, strs_none w', .inl ⟨rfl, rfl, rfl⟩, f⟩
  | some T =>
    obtain ⟨hh, f⟩ := h1 T hR
    rcases hh with ⟨K, v, hp, hk, hin, rfl, hst⟩ | ⟨hz, rfl⟩
    · have hst' := hst
      obtain ⟨va, c, rfl, -⟩ := hst'
      have hl := in_len14 (setV_get hR).1 hp hin
      have hl2 := setV_len hR
      refine ⟨0, K, va, c, K.length, by rw [List.length_map], rfl, by omega, ?_, .inr ⟨T, rfl, .inl ⟨rfl, hp, hk, hin⟩⟩, f⟩
      rw [List.length_map] at hst
      exact hst
    · exact ⟨12, [], none, 0, 0, rfl, rfl, by decide, strs_none w', .inr ⟨T, rfl, .inr ⟨rfl, rfl, hz⟩⟩, f⟩

/-- What Heads answers. -/
def hdE (Z : List Pv) : Int × List B13 := match headsV Z with
  | none => (1, [])
  | some K => (0, K)

theorem hdE_len (Z : List Pv) : (hdE Z).2.length ≤ 256 := by
  unfold hdE headsV
  cases hs : setV Z with
  | none => exact Nat.zero_le _
  | some T =>
    show ((delAll T (depsV Z)).map (·.1)).length ≤ 256
    rw [List.length_map]
    have := delAll_len (depsV Z) T
    have := setV_len hs
    omega

theorem NamesPost.heads {Z : List Pv} {w w' : World} {e : Ending} (h : NamesPost w (headsV Z) 1 e w') : ∃ p c n, e = .returned (.tuple #[.slice p n c, .int .i64 (hdE Z).1]) ∧ (hdE Z).2.length = n ∧ StrsAt w' (.slice p n c) ((hdE Z).2.map mkB) ∧ Fr None' w w' := by
  obtain ⟨h1, h2, f⟩ := h
  unfold hdE
  cases hH : headsV Z with
  | none =>
    obtain rfl := h2 hH
    exact ⟨none, 0, 0, rfl, rfl, strs_none w', f⟩
  | some K =>
    obtain ⟨v, rfl, hst⟩ := h1 K hH
    have hst' := hst
    obtain ⟨va, c, rfl, -⟩ := hst'
    refine ⟨va, c, K.length, by rw [List.length_map], rfl, ?_, f⟩
    rw [List.length_map] at hst
    exact hst

/-- Two rows of the same texts are the same. -/
theorem lsame14 {w : World} {p q : Option Addr} {n c d : Nat} {l : List ByteArray} (ha : StrsAt w (.slice p n c) l) (hb : StrsAt w (.slice q n d) l) (hl : l.length = n) (hn : n ≤ 256) : Calls Tryz.prog 14 #[.slice p n c, .slice q n d] w fun e w' => e = .returned (.bool true) ∧ Fr None' w w' := by
  obtain ⟨x1, y1, e1, -, -, ra⟩ := ha
  obtain ⟨x2, y2, e2, -, -, rb⟩ := hb
  injection e1 with a1 a2 a3
  injection e2 with b1 b2 b3
  subst a1 b1
  have h := Lines.same_any p q c d _ _ w ra rb (by omega)
  rw [hl] at h
  exact h.mono fun e w' ⟨h1, h2⟩ => ⟨by rw [h1, decide_eq_true rfl], ofLN h2⟩

end Go.Proofs.YtbiilnhefoplkaaGreatDoor

namespace Go.Proofs.YtbiilnhefoplkaaGreatDoor
open Go.RowKit Go.Maps Go.WideMaps
set_option maxRecDepth 100000

set_option maxHeartbeats 16000000 in
theorem ctells_walk (va : Option Addr) (n c : Nat) (Z : List Pv) (pa : Option Addr) (na ca : Nat) (A : List ByteArray) (w : World) (hn : Z.length = n) (hr : RowV w va Z) (hb : BigV Z) (hna : A.length = na) (hA : StrsAt w (.slice pa na ca) A) (la : na ≤ 140737488355328) :
    Calls Tryz.prog 3 #[.slice va n c, .slice pa na ca] w fun e w' => e = .returned (.bool true) ∧ Fr None' w w' := by
  have HL := toHid8 hn
  have HRow := toHid8 hr
  have HB := toHid8 hb
  have HNa := toHid8 (And.intro hna la)
  have HA := toHid8 hA
  have q1 := head14_any w
  clear hn hr hb hna hA la
  go_enter Tryz.func3, Tryz.ntmps3
  go_wp2_with fail
  refine q1.mono ?_
  rintro e w1 ⟨rfl, f1⟩
  have HF1 := toHid8 f1
  have q2 := great14_any va n c Z pa na ca A w1 HL.out (HRow.out.kept f1) HB.out HNa.out.1 (HA.out.kept f1) HNa.out.2
  clear q1 f1
  go_wp2_with fail
  refine q2.mono ?_
  rintro e w2 ⟨g, rfl, hg, f2⟩
  have HF2 := toHid8 (HF1.out.then7 f2)
  have HG := toHid8 hg
  clear q2 f2 hg
  cases g with
  | true =>
    go_wp2_with fail
    go_ret
    exact ⟨rfl, HF2.out⟩
  | false =>
    have hn60 : n ≤ 60 := by have := (HG.out rfl).1.1; rw [HL.out] at this; exact this
    have hfw : ∀ d ∈ Z, FewPa d.x := (HG.out rfl).1.2
    have hA2 := (HG.out rfl).2
    rw [HNa.out.1] at hA2
    have HFw := toHid8 hfw
    have HS := toHid8 (show ∀ d ∈ Z, SmallPa d.x from fun d hd => (hfw d hd).small14)
    have HA2 := toHid8 hA2
    have H60 := toHid8 hn60
    have i0 : (n : Int) ≤ 60 := by omega
    have HAs := toHid8 (show ∀ y ∈ A, y.size ≤ 1000000000 from fun y hy => by have := HA2.out.2 y hy; omega)
    have q3 := sorted14_any va n c Z w2 HL.out (HRow.out.kept HF2.out) (by omega) HS.out (fun d hd => ⟨by have := (hfw d hd).deps.1; omega, by have := (hfw d hd).body.1; omega⟩)
    clear hn60 hfw hA2
    go_wp2_with fail
    refine q3.mono ?_
    intro e w3 hP
    obtain ⟨ps, cs, ns, Ls, rfl, hs1, hs2, hs3, hs4, f3⟩ := SortedPost.told hP
    have HP3 := toHid8 (And.intro hs1 (And.intro hs2 (And.intro hs3 hs4)))
    have HF3 := toHid8 (HF2.out.then7 f3)
    clear q3 hP hs1 hs2 hs3 hs4 f3
    obtain ⟨es, hes⟩ : ∃ y, (srtE Z).1 = y := ⟨_, rfl⟩
    rw [hes]
    have q4 := dsorted14_any va n c Z w3 HL.out (HRow.out.kept HF3.out) (by have := H60.out; omega) HS.out
    go_wp2_with fail
    refine q4.mono ?_
    intro e w4 hP
    obtain ⟨pt, ct, nt, Lt, rfl, ht1, ht2, ht3, ht4, f4⟩ := DSoPost.told hP
    rw [hes]
    obtain rfl : nt = ns := by rw [← ht2, HP3.out.2.1]
    have HP4 := toHid8 (And.intro ht1 (And.intro ht3 ht4))
    have HF4 := toHid8 (HF3.out.then7 f4)
    have HG4 := toHid8 f4
    clear q4 hP ht1 ht2 ht3 ht4 f4 hes
    have q5 := order14_any va n c Z w4 HL.out (HRow.out.kept HF4.out) (by have := H60.out; omega) HS.out
    go_wp2_with fail
    refine q5.mono ?_
    intro e w5 hP
    obtain ⟨po, co, rfl, ho, f5⟩ := OrdPost.told hP
    have HF5 := toHid8 (HF4.out.then7 f5)
    have HG5 := toHid8 f5
    have hol := ordE_len (Z := Z)
    obtain ⟨no, hno⟩ : ∃ y, (ordE Z).2.length = y := ⟨_, rfl⟩
    obtain ⟨eo, heo⟩ : ∃ y, (ordE Z).1 = y := ⟨_, rfl⟩
    rw [hno] at ho hol
    rw [hno, heo]
    have HOr := toHid8 ho
    have HOl := toHid8 (And.intro hno hol)
    clear q5 hP ho f5 hol
    have q6 := dorder14_any va n c Z w5 HL.out (HRow.out.kept HF5.out) (by have := H60.out; omega) HS.out
    go_wp2_with fail
    refine q6.mono ?_
    intro e w6 hP
    obtain ⟨px, cx, rfl, hx, f6⟩ := OrdPost.told hP
    have HF6 := toHid8 (HF5.out.then7 f6)
    have HG6 := toHid8 f6
    rw [hno] at hx
    rw [hno, heo]
    have HOx := toHid8 hx
    clear q6 hP hx f6 hno heo
    have q7 := dsame14_any ps nt cs Ls pt ct Lt w6 HP3.out.1 HP4.out.1 (HP3.out.2.2.1.kept ((HG4.out.then7 HG5.out).then7 HG6.out)) (HP4.out.2.1.kept (HG5.out.then7 HG6.out)) (fun x hx => srt_few HFw.out x.x (by rw [← HP3.out.2.2.2]; exact List.mem_map.2 ⟨x, hx, rfl⟩)) (by rw [HP3.out.2.2.2, HP4.out.2.2]) (by
      have h1 := HP3.out.2.1
      have h2 := H60.out
      have h3 : (srtE Z).2.length ≤ 256 := by
        unfold srtE
        cases hs : setV Z with
        | none => exact Nat.zero_le _
        | some T => show (T.map (·.2.x)).length ≤ 256; rw [List.length_map]; exact setV_len hs
      omega)
    go_wp2_with fail
    refine q7.mono ?_
    rintro e w7 ⟨rfl, f7⟩
    have HF7 := toHid8 (HF6.out.then7 f7)
    have HG7 := toHid8 f7
    clear q7 f7
    have q8 := lsame14 (HOr.out.kept (HG6.out.then7 HG7.out)) (HOx.out.kept HG7.out) (by rw [List.length_map]; exact HOl.out.1) HOl.out.2
    go_wp2_with fail
    refine q8.mono ?_
    rintro e w8 ⟨rfl, f8⟩
    have HF8 := toHid8 (HF7.out.then7 f8)
    clear q8 f8
    have qda := down14_any va n c Z pa na ca A w8 HL.out (HRow.out.kept HF8.out) (by have := H60.out; omega) HS.out HNa.out.1 (by have := HA2.out.1; omega) HAs.out (HA.out.kept HF8.out)
    go_wp2_with fail
    refine qda.mono ?_
    intro e wa hP
    obtain ⟨erd, Kd, pd, cd, nd, rfl, hk1, hk2, hk3, hk4, fa⟩ := DownPost.told2 hP
    have HKd := toHid8 (And.intro hk1 (And.intro hk2 (And.intro hk3 hk4)))
    have HFwa := toHid8 (HF8.out.then7 fa)
    clear qda hP hk1 hk2 hk3 hk4 fa
    have qdb := ddown14_any va n c Z pa na ca A wa HL.out (HRow.out.kept HFwa.out) (by have := H60.out; omega) HS.out HNa.out.1 (by have := HA2.out.1; omega) (HA.out.kept HFwa.out)
    go_wp2_with fail
    refine qdb.mono ?_
    intro e wb hP
    obtain ⟨erd', Kd', pd', cd', nd', rfl, hk1, hk2, hk3, hk4, fb⟩ := DownPost.told2 hP
    obtain ⟨rfl, rfl⟩ := HKd.out.2.2.2.uniq hk4
    obtain rfl : nd' = nd := by rw [← hk1, HKd.out.1]
    have HKdb := toHid8 hk3
    have HFwb := toHid8 (HFwa.out.then7 fb)
    have HGwb := toHid8 fb
    clear qdb hP hk1 hk2 hk3 hk4 fb
    have qdc := lsame14 (HKd.out.2.2.1.kept HGwb.out) HKdb.out (by rw [List.length_map]; exact HKd.out.1) HKd.out.2.1
    go_wp2_with fail
    refine qdc.mono ?_
    rintro e wc ⟨rfl, fc⟩
    have HFwc := toHid8 (HFwb.out.then7 fc)
    clear qdc fc
    have qua := up14_any va n c Z pa na ca A wc HL.out (HRow.out.kept HFwc.out) (by have := H60.out; omega) HS.out HNa.out.1 (by have := HA2.out.1; omega) HAs.out (HA.out.kept HFwc.out)
    go_wp2_with fail
    refine qua.mono ?_
    intro e wd hP
    obtain ⟨eru, Ku, pu, cu, nu, rfl, hk1, hk2, hk3, hk4, fa⟩ := DownPost.told2 hP
    have HKu := toHid8 (And.intro hk1 (And.intro hk2 (And.intro hk3 hk4)))
    have HFwd := toHid8 (HFwc.out.then7 fa)
    clear qua hP hk1 hk2 hk3 hk4 fa
    have qub := dup14_any va n c Z pa na ca A wd HL.out (HRow.out.kept HFwd.out) (by have := H60.out; omega) HS.out HNa.out.1 (by have := HA2.out.1; omega) (HA.out.kept HFwd.out)
    go_wp2_with fail
    refine qub.mono ?_
    intro e we hP
    obtain ⟨eru', Ku', pu', cu', nu', rfl, hk1, hk2, hk3, hk4, fb⟩ := DownPost.told2 hP
    obtain ⟨rfl, rfl⟩ := HKu.out.2.2.2.uniq hk4
    obtain rfl : nu' = nu := by rw [← hk1, HKu.out.1]
    have HKub := toHid8 hk3
    have HFwe := toHid8 (HFwd.out.then7 fb)
    have HGwe := toHid8 fb
    clear qub hP hk1 hk2 hk3 hk4 fb
    have quc := lsame14 (HKu.out.2.2.1.kept HGwe.out) HKub.out (by rw [List.length_map]; exact HKu.out.1) HKu.out.2.1
    go_wp2_with fail
    refine quc.mono ?_
    rintro e wf ⟨rfl, fc⟩
    have HFwf := toHid8 (HFwe.out.then7 fc)
    clear quc fc
    have qh := heads14_any va n c Z wf HL.out (HRow.out.kept HFwf.out) (by have := H60.out; omega) HS.out
    go_wp2_with fail
    refine qh.mono ?_
    intro e wg hP
    obtain ⟨ph, ch, nh, rfl, hh1, hh2, fg⟩ := NamesPost.heads hP
    have HHd := toHid8 (And.intro hh1 hh2)
    have HFg := toHid8 (HFwf.out.then7 fg)
    obtain ⟨eh, heh⟩ : ∃ y, (hdE Z).1 = y := ⟨_, rfl⟩
    rw [heh]
    clear qh hP hh1 hh2 fg
    have qi := dheads14_any va n c Z wg HL.out (HRow.out.kept HFg.out) (by have := H60.out; omega) HS.out
    go_wp2_with fail
    refine qi.mono ?_
    intro e wi hP
    obtain ⟨pi, ci, ni, rfl, hh1, hh2, fi⟩ := NamesPost.heads hP
    rw [heh]
    obtain rfl : ni = nh := by rw [← hh1, HHd.out.1]
    have HHi := toHid8 hh2
    have HFi := toHid8 (HFg.out.then7 fi)
    have HGi := toHid8 fi
    clear qi hP hh1 hh2 fi heh
    have qj := lsame14 (HHd.out.2.kept HGi.out) HHi.out (by rw [List.length_map]; exact HHd.out.1) (by have := hdE_len Z; have := HHd.out.1; omega)
    go_wp2_with fail
    refine qj.mono ?_
    rintro e wj ⟨rfl, fj⟩
    have HFj := toHid8 (HFi.out.then7 fj)
    clear qj fj
    go_wp2_with fail
    go_ret
    exact ⟨rfl, HFj.out⟩

end Go.Proofs.YtbiilnhefoplkaaGreatDoor
