/-
  What is proved here: ClosureClosed answers true. Conditions: the patches and the names lie in memory, and are of bounded size.
-/
import Derived.Test.YtbiilnhefoplkaaGreatDoorM26Down14
import Derived.Test.YtbiilnhefoplkaaGreatDoorM1Base
namespace Go.Proofs.YtbiilnhefoplkaaGreatDoor
open Go.RowKit Go.Maps Go.WideMaps
set_option maxRecDepth 100000

theorem DP.upB {Z : List Pv} {N : List ByteArray} {K : List B13} (h : DP (setV Z) aboveV (N.map unB) 0 K) {d : Pv} (hd : d ∈ Z) : hasB (K.map mkB) d.x.name = (hasB N d.x.name || d.x.deps.any (hasB (K.map mkB))) := by
  rw [Bool.eq_iff_iff, Bool.or_eq_true, hasB_iff, hasB_iff, un_mks, h.up hd, List.any_eq_true]
  constructor
  · rintro (h | ⟨y, hy, hk⟩)
    · exact .inl h
    · obtain ⟨x, hx, rfl⟩ := List.mem_map.1 hy
      exact .inr ⟨x, hx, by rw [hasB_iff, un_mks]; exact hk⟩
  · rintro (h | ⟨x, hx, hk⟩)
    · exact .inl h
    · rw [hasB_iff, un_mks] at hk
      exact .inr ⟨_, List.mem_map.2 ⟨x, hx, rfl⟩, hk⟩

theorem any_snoc14 {l : List ByteArray} (f : ByteArray → Bool) {k : Nat} (h : k < l.length) : (l.take (k + 1)).any f = ((l.take k).any f || f l[k]) := by
  rw [List.take_succ_eq_append_getElem h, List.any_append, List.any_cons, List.any_nil, Bool.or_false]

structure RCl (w : World) (b : Nat) (go oo n1 c1 i j : Nat) (pu : Option Addr) (nd cu : Nat) (X1 x : ByteArray) (P : Bool) (t0 t1 t2 t3 t4 t5 t6 t7 t8 t9 t10 t11 t12 t13 t14 t15 t16 t17 t18 t19 t20 t21 t22 t23 t24 : Value) (S : Nat → Bool) (w' : World) : Prop where
  fr : Fr None' w w'
  o0 : S 0 = true → t0 = .bool true
  o1 : S 1 = true → t1 = .bool false
  o2 : S 2 = true → t2 = .bool false
  o3 : S 3 = true → t3 = .slice (some ⟨go, oo, none⟩) n1 c1
  o4 : S 4 = true → t4 = .pointer (some ⟨b, 1, none⟩)
  o5 : S 5 = true → t5 = .slice pu nd cu
  o6 : S 6 = true → t6 = .bool true
  o7 : S 7 = true → t7 = .bool false
  o8 : S 8 = true → t8 = .bool false
  o9 : S 9 = true → t9 = .bool false
  o10 : S 10 = true → t10 = .int .i64 i
  o11 : S 11 = true → t11 = .bool P
  o12 : S 12 = true → t12 = .bool P
  o13 : S 13 = true → t13 = bif P then .slice (some ⟨go, oo, none⟩) n1 c1 else undef
  o14 : S 14 = true → t14 = bif P then .int .i64 i else undef
  o15 : S 15 = true → t15 = bif P then .int .i64 j else undef
  o16 : S 16 = true → t16 = bif P then .pointer (some ⟨go, oo + j, none⟩) else undef
  o17 : S 17 = true → t17 = bif P then .string X1 else undef
  o18 : S 18 = true → t18 = bif P then .slice (some ⟨go, oo, none⟩) n1 c1 else undef
  o19 : S 19 = true → t19 = bif P then .int .i64 i else undef
  o20 : S 20 = true → t20 = bif P then .pointer (some ⟨go, oo + i, none⟩) else undef
  o21 : S 21 = true → t21 = bif P then .string x else undef
  o22 : S 22 = true → t22 = bif P then .bool false else undef
  o23 : S 23 = true → t23 = .bool false
  o24 : S 24 = true → t24 = .bool false

def RClI (w : World) (b : Nat) (go oo n1 c1 i j : Nat) (pu : Option Addr) (nd cu : Nat) (X1 x : ByteArray) (P : Bool) (T : Value → Value → Value → Value → Value → Value → Value → Value → Value → Value → Value → Value → Value → Value → Value → Value → Value → Value → Value → Value → Value → Value → Value → Value → Value → Array Value) (S : Nat → Bool) (a : Act) (w' : World) : Prop := ∃ t0 t1 t2 t3 t4 t5 t6 t7 t8 t9 t10 t11 t12 t13 t14 t15 t16 t17 t18 t19 t20 t21 t22 t23 t24, a = { tmps := T t0 t1 t2 t3 t4 t5 t6 t7 t8 t9 t10 t11 t12 t13 t14 t15 t16 t17 t18 t19 t20 t21 t22 t23 t24, defers := [] } ∧ RCl w b go oo n1 c1 i j pu nd cu X1 x P t0 t1 t2 t3 t4 t5 t6 t7 t8 t9 t10 t11 t12 t13 t14 t15 t16 t17 t18 t19 t20 t21 t22 t23 t24 S w'

set_option maxHeartbeats 16000000 in
theorem closed_walk (va : Option Addr) (n c : Nat) (Z : List Pv) (pa : Option Addr) (na ca : Nat) (A : List ByteArray) (w : World) (hn : Z.length = n) (hr : RowV w va Z) (hb : BigV Z) (hna : A.length = na) (hA : StrsAt w (.slice pa na ca) A) (la : na ≤ 140737488355328) :
    Calls Tryz.prog 4 #[.slice va n c, .slice pa na ca] w fun e w' => e = .returned (.bool true) ∧ Fr None' w w' := by
  have HL := toHid8 hn
  have HRow := toHid8 hr
  have HB := toHid8 hb
  have HNa := toHid8 (And.intro hna la)
  have HA := toHid8 hA
  have q1 := head14_any w
  clear hn hr hb hna hA la
  go_enter Tryz.func4, Tryz.ntmps4
  go_wp2_with fail
  refine q1.mono ?_
  rintro e w1 ⟨rfl, f1⟩
  have HF1 := toHid8 f1
  have q2 := great14_any va n c Z pa na ca A w1 HL.out (HRow.out.kept f1) HB.out HNa.out.1 (HA.out.kept f1) HNa.out.2
  clear q1 f1
  go_wp2_with fail
  refine q2.mono ?_
  rintro e w2 ⟨g, rfl, hg, f2⟩
  have HF2 := toHid8 (HF1.out.then7 f2)
  have HG := toHid8 hg
  clear q2 f2 hg
  cases g with
  | true =>
    go_wp2_with fail
    go_ret
    exact ⟨rfl, HF2.out⟩
  | false =>
    have hn60 : n ≤ 60 := by have := (HG.out rfl).1.1; rw [HL.out] at this; exact this
    have hsz : ∀ d ∈ Z, SmallPa d.x := fun d hd => ((HG.out rfl).1.2 d hd).small14
    have hA2 := (HG.out rfl).2
    rw [HNa.out.1] at hA2
    have HS := toHid8 hsz
    have HA2 := toHid8 hA2
    have H60 := toHid8 hn60
    have i0 : (n : Int) ≤ 60 := by omega
    have HAs := toHid8 (show ∀ y ∈ A, y.size ≤ 1000000000 from fun y hy => by have := HA2.out.2 y hy; omega)
    have q3 := DownPost.calls (down14_any va n c Z pa na ca A w2 HL.out (HRow.out.kept HF2.out) (by have := H60.out; omega) HS.out HNa.out.1 (by have := HA2.out.1; omega) HAs.out (HA.out.kept HF2.out)) (fun _ _ h => h.len)
    clear hn60 hsz hA2
    go_wp2_with fail
    refine q3.mono ?_
    rintro e w3 ⟨er1, K1, p1, n1, c1, rfl, hk1, hl1, hst1, hd1, f3⟩
    have HK1 := toHid8 (And.intro hk1 hl1)
    have HT1 := toHid8 hst1
    have HD1 := toHid8 hd1
    have HF3 := toHid8 (HF2.out.then7 f3)
    clear q3 hk1 hl1 hst1 hd1 f3
    by_cases he1 : er1 = 0
    case neg =>
      have b1 : (er1 == 0) = false := by simpa using he1
      clear HD1 he1
      go_wp2_with fail
      have q5 := DownPost.calls (up14_any va n c Z pa na ca A w3 HL.out (HRow.out.kept HF3.out) (by have := H60.out; omega) HS.out HNa.out.1 (by have := HA2.out.1; omega) HAs.out (HA.out.kept HF3.out)) (fun _ _ h => h.len)
      refine q5.mono ?_
      rintro e w8 ⟨er2, K2, p2, n2, c2, rfl, hk2, hl2, hst2, hd2, f8⟩
      have HK2 := toHid8 (And.intro hk2 hl2)
      have HT2 := toHid8 hst2
      have HD2 := toHid8 hd2
      have HF8 := toHid8 (HF3.out.then7 f8)
      clear q5 hk2 hl2 hst2 hd2 f8
      by_cases he2 : er2 = 0
      case neg =>
        have hn0 : n2 = 0 := by have h := (HD2.out.bad he2).1; have := HK2.out.1; rw [h] at this; exact this.symm
        subst hn0
        have b2 : (er2 != 0) = true := by simpa using he2
        clear HD2 he2
        go_wp2_with fail
        go_ret
        exact ⟨rfl, HF8.out⟩
      case pos =>
        subst he2
        have q6 := hasAll14_any p2 n2 c2 _ pa na ca A w8 HK2.out.1 HT2.out (by have := HK2.out.2; omega) HNa.out.1 (HA.out.kept HF8.out) HNa.out.2
        rw [HD2.out.hasAll] at q6
        go_wp2_with fail
        refine q6.mono ?_
        rintro e w9 ⟨rfl, f9⟩
        have HF9 := toHid8 (HF8.out.then7 f9)
        have HT9 := toHid8 (HT2.out.kept f9)
        clear q6 f9
        go_wp2_with fail
        go_loopw [13] (fun vi wr => ∃ i : Nat, i ≤ n ∧ vi = .int .i64 i ∧ Hid (Fr None' w9 wr)) (fun vi _ => n - (intOf vi).toNat)
        case atStart => exact ⟨0, Nat.zero_le _, rfl, Fr.refl _ _⟩
        case round =>
          obtain ⟨i, hi, rfl, HFi⟩ := hrel
          have HFw := toHid8 (HF9.out.then7 HFi.out)
          by_cases hit : i < n
          case neg =>
            have i6 : ¬ (i : Int) < (n : Int) := by omega
            clear hit
            go_wp2_with fail
            go_ret
            exact ⟨rfl, HFw.out⟩
          case pos =>
            have hka : i < Z.length := by rw [HL.out]; exact hit
            obtain ⟨g, o, rfl, c0, c1, -, hin⟩ := HRow.out.kept HFw.out i _ (List.getElem?_eq_getElem hka)
            have hmem : Z[i] ∈ Z := List.getElem_mem hka
            obtain ⟨d, hd⟩ : ∃ d, Z[i] = d := ⟨_, rfl⟩
            rw [hd] at c0 c1 hin hmem
            have HUp := toHid8 (HD2.out.upB hmem)
            have hfd := ((HG.out (by trivial)).1.2 d hmem).deps.1
            obtain ⟨nd, hnd⟩ : ∃ y, d.x.deps.length = y := ⟨_, rfl⟩
            obtain ⟨N, hN⟩ : ∃ y, d.x.name = y := ⟨_, rfl⟩
            have hdp := hin.deps
            rw [hnd] at c1 hdp hfd
            rw [hN] at c0 HUp
            have HNd := toHid8 hnd
            have HDp := toHid8 hdp
            have HC0 := toHid8 c0
            have HC1 := toHid8 c1
            have i3 : (i : Int) < (n : Int) := by omega
            have i4 : (0 : Int) ≤ (i : Int) := by omega
            have i5 : (nd : Int) ≤ 4000 := by omega
            have HIt := toHid8 hit
            have q7 := has14_any pa na ca A N wr HNa.out.1 (HA.out.kept HFw.out) HNa.out.2
            obtain ⟨bA, hbA⟩ : ∃ y, hasB A N = y := ⟨_, rfl⟩
            have HBA := toHid8 hbA
            rw [hbA] at q7
            clear hin hmem hd hnd hN hdp hfd hit hka hbA c1
            go_wp2_with fail
            refine q7.mono ?_
            rintro e wa ⟨rfl, fa⟩
            have HFa := toHid8 (HFi.out.then7 fa)
            have c0 := fa.keepCell HC0.out (fun e => e)
            have HCa := toHid8 c0
            have HC1a := toHid8 (fa.keepCell HC1.out (fun e => e))
            have HDa := toHid8 (HDp.out.kept fa)
            clear q7 fa c0
            go_wp2_with fail
            go_loopw [14, 15] (fun vb vk wx => ∃ k : Nat, k ≤ nd ∧ vk = .int .i64 k ∧ vb = .bool (bA || (d.x.deps.take k).any (hasB (K2.map mkB))) ∧ Hid (Fr None' wa wx)) (fun _ vk _ => nd - (intOf vk).toNat)
            case atStart => exact ⟨0, Nat.zero_le _, rfl, by simp, Fr.refl _ _⟩
            case round =>
              obtain ⟨k, hk, rfl, rfl, HFk⟩ := hrel
              have c1 := HFk.out.keepCell HC1a.out (fun e => e)
              have c0 := HFk.out.keepCell HCa.out (fun e => e)
              by_cases hkt : k < nd
              case neg =>
                have i7 : ¬ (k : Int) < (nd : Int) := by omega
                have ek : d.x.deps.take k = d.x.deps := List.take_of_length_le (by rw [HNd.out]; omega)
                rw [ek, ← HBA.out, ← HUp.out]
                have HFz := toHid8 (HFa.out.then7 HFk.out)
                have q8 := has14_any p2 n2 c2 _ N wr HK2.out.1 (HT9.out.kept HFz.out) (by have := HK2.out.2; omega)
                obtain ⟨bU, hbU⟩ : ∃ y, hasB (K2.map mkB) N = y := ⟨_, rfl⟩
                rw [hbU] at q8 ⊢
                clear hkt ek
                go_wp2_with fail
                refine q8.mono ?_
                rintro e wb ⟨rfl, fb⟩
                have HFb := toHid8 (HFz.out.then7 fb)
                clear q8 fb
                cases bU
                all_goals
                  go_wp2_with fail
                  exact ⟨⟨i + 1, by have := HIt.out; omega, by go_num, HFb.out⟩, by simp [intOf]; have := HIt.out; omega⟩
              case pos =>
                have hkd : k < d.x.deps.length := by rw [HNd.out]; exact hkt
                obtain ⟨gd, od, hpd, hcd⟩ := strs_two (HDa.out.kept HFk.out) (List.getElem?_eq_getElem hkd)
                have HSn := toHid8 (any_snoc14 (hasB (K2.map mkB)) hkd)
                obtain ⟨y, hy⟩ : ∃ y, d.x.deps[k] = y := ⟨_, rfl⟩
                rw [hy] at hcd HSn
                have HPd := toHid8 hpd
                rw [hpd] at c1
                have HHas := toHid8 (fun wy (f : Fr None' wr wy) => has14_any p2 n2 c2 _ y wy HK2.out.1 (HT9.out.kept (HFa.out.then7 (HFk.out.then7 f))) (by have := HK2.out.2; omega))
                obtain ⟨bk, hbk⟩ : ∃ z, (bA || (d.x.deps.take k).any (hasB (K2.map mkB))) = z := ⟨_, rfl⟩
                obtain ⟨bY, hbY⟩ : ∃ z, hasB (K2.map mkB) y = z := ⟨_, rfl⟩
                rw [hbY] at HHas
                rw [hbk]
                have HSt := toHid8 (show (bA || (d.x.deps.take (k + 1)).any (hasB (K2.map mkB))) = (bk || bY) from by rw [HSn.out, ← Bool.or_assoc, hbk, hbY])
                have i7 : (k : Int) < (nd : Int) := by omega
                have i8 : (0 : Int) ≤ (k : Int) := by omega
                have HKt := toHid8 hkt
                clear hkd hpd hy hbk hbY hkt
                cases bk
                case true =>
                  go_wp2_with fail
                  exact ⟨⟨k + 1, by have := HKt.out; omega, by go_num, by rw [HSt.out, Bool.true_or], HFk.out⟩, by simp [intOf]; have := HKt.out; omega⟩
                case false =>
                  go_wp2_with fail
                  refine (HHas.out _ (Fr.refl _ _)).mono ?_
                  rintro e x1 ⟨rfl, f⟩
                  have HX := toHid8 (HFk.out.then7 f)
                  clear f
                  go_wp2_with fail
                  exact ⟨⟨k + 1, by have := HKt.out; omega, by go_num, by rw [HSt.out, Bool.false_or], HX.out⟩, by simp [intOf]; have := HKt.out; omega⟩
    case pos =>
      subst he1
      have q4 := hasAll14_any p1 n1 c1 _ pa na ca A w3 HK1.out.1 HT1.out (by have := HK1.out.2; omega) HNa.out.1 (HA.out.kept HF3.out) HNa.out.2
      rw [HD1.out.hasAll] at q4
      go_wp2_with fail
      refine q4.mono ?_
      rintro e w4 ⟨rfl, f4⟩
      have HF4 := toHid8 (HF3.out.then7 f4)
      have HT4 := toHid8 (HT1.out.kept f4)
      clear q4 f4
      go_wp2_with fail
      go_loopw [8] (fun vi wr => ∃ i : Nat, i ≤ n1 ∧ vi = .int .i64 i ∧ Hid (Fr None' w4 wr)) (fun vi _ => n1 - (intOf vi).toNat)
      case atStart => exact ⟨0, Nat.zero_le _, rfl, Fr.refl _ _⟩
      case round =>
        obtain ⟨i, hi, rfl, HFi⟩ := hrel
        have HFw := toHid8 (HF4.out.then7 HFi.out)
        have j0 : (n1 : Int) ≤ 256 := by have := HK1.out.2; omega
        by_cases hit : i < n1
        case neg =>
          have i6 : ¬ (i : Int) < (n1 : Int) := by omega
          clear hit
          go_wp2_with fail
          have q5 := DownPost.calls (up14_any va n c Z pa na ca A wr HL.out (HRow.out.kept HFw.out) (by have := H60.out; omega) HS.out HNa.out.1 (by have := HA2.out.1; omega) HAs.out (HA.out.kept HFw.out)) (fun _ _ h => h.len)
          refine q5.mono ?_
          rintro e w8 ⟨er2, K2, p2, n2, c2, rfl, hk2, hl2, hst2, hd2, f8⟩
          have HK2 := toHid8 (And.intro hk2 hl2)
          have HT2 := toHid8 hst2
          have HD2 := toHid8 hd2
          have HF8 := toHid8 (HFw.out.then7 f8)
          clear q5 hk2 hl2 hst2 hd2 f8
          by_cases he2 : er2 = 0
          case neg =>
            have hn0 : n2 = 0 := by have h := (HD2.out.bad he2).1; have := HK2.out.1; rw [h] at this; exact this.symm
            subst hn0
            have b2 : (er2 != 0) = true := by simpa using he2
            clear HD2 he2
            go_wp2_with fail
            go_ret
            exact ⟨rfl, HF8.out⟩
          case pos =>
            subst he2
            have q6 := hasAll14_any p2 n2 c2 _ pa na ca A w8 HK2.out.1 HT2.out (by have := HK2.out.2; omega) HNa.out.1 (HA.out.kept HF8.out) HNa.out.2
            rw [HD2.out.hasAll] at q6
            go_wp2_with fail
            refine q6.mono ?_
            rintro e w9 ⟨rfl, f9⟩
            have HF9 := toHid8 (HF8.out.then7 f9)
            have HT9 := toHid8 (HT2.out.kept f9)
            clear q6 f9
            go_wp2_with fail
            go_loopw [13] (fun vi wr => ∃ i : Nat, i ≤ n ∧ vi = .int .i64 i ∧ Hid (Fr None' w9 wr)) (fun vi _ => n - (intOf vi).toNat)
            case atStart => exact ⟨0, Nat.zero_le _, rfl, Fr.refl _ _⟩
            case round =>
              obtain ⟨i, hi, rfl, HFi⟩ := hrel
              have HFw := toHid8 (HF9.out.then7 HFi.out)
              by_cases hit : i < n
              case neg =>
                have i6 : ¬ (i : Int) < (n : Int) := by omega
                clear hit
                go_wp2_with fail
                go_ret
                exact ⟨rfl, HFw.out⟩
              case pos =>
                have hka : i < Z.length := by rw [HL.out]; exact hit
                obtain ⟨g, o, rfl, c0, c1, -, hin⟩ := HRow.out.kept HFw.out i _ (List.getElem?_eq_getElem hka)
                have hmem : Z[i] ∈ Z := List.getElem_mem hka
                obtain ⟨d, hd⟩ : ∃ d, Z[i] = d := ⟨_, rfl⟩
                rw [hd] at c0 c1 hin hmem
                have HUp := toHid8 (HD2.out.upB hmem)
                have hfd := ((HG.out (by trivial)).1.2 d hmem).deps.1
                obtain ⟨nd, hnd⟩ : ∃ y, d.x.deps.length = y := ⟨_, rfl⟩
                obtain ⟨N, hN⟩ : ∃ y, d.x.name = y := ⟨_, rfl⟩
                have hdp := hin.deps
                rw [hnd] at c1 hdp hfd
                rw [hN] at c0 HUp
                have HNd := toHid8 hnd
                have HDp := toHid8 hdp
                have HC0 := toHid8 c0
                have HC1 := toHid8 c1
                have i3 : (i : Int) < (n : Int) := by omega
                have i4 : (0 : Int) ≤ (i : Int) := by omega
                have i5 : (nd : Int) ≤ 4000 := by omega
                have HIt := toHid8 hit
                have q7 := has14_any pa na ca A N wr HNa.out.1 (HA.out.kept HFw.out) HNa.out.2
                obtain ⟨bA, hbA⟩ : ∃ y, hasB A N = y := ⟨_, rfl⟩
                have HBA := toHid8 hbA
                rw [hbA] at q7
                clear hin hmem hd hnd hN hdp hfd hit hka hbA c1
                go_wp2_with fail
                refine q7.mono ?_
                rintro e wa ⟨rfl, fa⟩
                have HFa := toHid8 (HFi.out.then7 fa)
                have c0 := fa.keepCell HC0.out (fun e => e)
                have HCa := toHid8 c0
                have HC1a := toHid8 (fa.keepCell HC1.out (fun e => e))
                have HDa := toHid8 (HDp.out.kept fa)
                clear q7 fa c0
                go_wp2_with fail
                go_loopw [14, 15] (fun vb vk wx => ∃ k : Nat, k ≤ nd ∧ vk = .int .i64 k ∧ vb = .bool (bA || (d.x.deps.take k).any (hasB (K2.map mkB))) ∧ Hid (Fr None' wa wx)) (fun _ vk _ => nd - (intOf vk).toNat)
                case atStart => exact ⟨0, Nat.zero_le _, rfl, by simp, Fr.refl _ _⟩
                case round =>
                  obtain ⟨k, hk, rfl, rfl, HFk⟩ := hrel
                  have c1 := HFk.out.keepCell HC1a.out (fun e => e)
                  have c0 := HFk.out.keepCell HCa.out (fun e => e)
                  by_cases hkt : k < nd
                  case neg =>
                    have i7 : ¬ (k : Int) < (nd : Int) := by omega
                    have ek : d.x.deps.take k = d.x.deps := List.take_of_length_le (by rw [HNd.out]; omega)
                    rw [ek, ← HBA.out, ← HUp.out]
                    have HFz := toHid8 (HFa.out.then7 HFk.out)
                    have q8 := has14_any p2 n2 c2 _ N wr HK2.out.1 (HT9.out.kept HFz.out) (by have := HK2.out.2; omega)
                    obtain ⟨bU, hbU⟩ : ∃ y, hasB (K2.map mkB) N = y := ⟨_, rfl⟩
                    rw [hbU] at q8 ⊢
                    clear hkt ek
                    go_wp2_with fail
                    refine q8.mono ?_
                    rintro e wb ⟨rfl, fb⟩
                    have HFb := toHid8 (HFz.out.then7 fb)
                    clear q8 fb
                    cases bU
                    all_goals
                      go_wp2_with fail
                      exact ⟨⟨i + 1, by have := HIt.out; omega, by go_num, HFb.out⟩, by simp [intOf]; have := HIt.out; omega⟩
                  case pos =>
                    have hkd : k < d.x.deps.length := by rw [HNd.out]; exact hkt
                    obtain ⟨gd, od, hpd, hcd⟩ := strs_two (HDa.out.kept HFk.out) (List.getElem?_eq_getElem hkd)
                    have HSn := toHid8 (any_snoc14 (hasB (K2.map mkB)) hkd)
                    obtain ⟨y, hy⟩ : ∃ y, d.x.deps[k] = y := ⟨_, rfl⟩
                    rw [hy] at hcd HSn
                    have HPd := toHid8 hpd
                    rw [hpd] at c1
                    have HHas := toHid8 (fun wy (f : Fr None' wr wy) => has14_any p2 n2 c2 _ y wy HK2.out.1 (HT9.out.kept (HFa.out.then7 (HFk.out.then7 f))) (by have := HK2.out.2; omega))
                    obtain ⟨bk, hbk⟩ : ∃ z, (bA || (d.x.deps.take k).any (hasB (K2.map mkB))) = z := ⟨_, rfl⟩
                    obtain ⟨bY, hbY⟩ : ∃ z, hasB (K2.map mkB) y = z := ⟨_, rfl⟩
                    rw [hbY] at HHas
                    rw [hbk]
                    have HSt := toHid8 (show (bA || (d.x.deps.take (k + 1)).any (hasB (K2.map mkB))) = (bk || bY) from by rw [HSn.out, ← Bool.or_assoc, hbk, hbY])
                    have i7 : (k : Int) < (nd : Int) := by omega
                    have i8 : (0 : Int) ≤ (k : Int) := by omega
                    have HKt := toHid8 hkt
                    clear hkd hpd hy hbk hbY hkt
                    cases bk
                    case true =>
                      go_wp2_with fail
                      exact ⟨⟨k + 1, by have := HKt.out; omega, by go_num, by rw [HSt.out, Bool.true_or], HFk.out⟩, by simp [intOf]; have := HKt.out; omega⟩
                    case false =>
                      go_wp2_with fail
                      refine (HHas.out _ (Fr.refl _ _)).mono ?_
                      rintro e x1 ⟨rfl, f⟩
                      have HX := toHid8 (HFk.out.then7 f)
                      clear f
                      go_wp2_with fail
                      exact ⟨⟨k + 1, by have := HKt.out; omega, by go_num, by rw [HSt.out, Bool.false_or], HX.out⟩, by simp [intOf]; have := HKt.out; omega⟩
        case pos =>
          have hiM : i < (K1.map mkB).length := by rw [HK1.out.1]; exact hit
          have hiO : i < K1.length := by rw [List.length_map] at hiM; exact hiM
          obtain ⟨d, hdz, hfd, hall⟩ := HD1.out.closed hiO
          obtain ⟨go, oo, hpo, hco⟩ := strs_two (HT4.out.kept HFi.out) (List.getElem?_eq_getElem hiM)
          subst hpo
          rw [List.getElem_map] at hco
          obtain ⟨x, hx⟩ : ∃ x, mkB K1[i] = x := ⟨_, rfl⟩
          have hux : unB x = K1[i] := by rw [← hx]; exact un_mk _
          rw [hx] at hco
          rw [← hux] at hfd
          obtain ⟨X1, hX1⟩ : ∃ X1 : ByteArray, X1 = (if h : i - 1 < K1.length then mkB K1[i - 1] else x) := ⟨_, rfl⟩
          have hlt1 : 0 < i → Op.bytesLess X1.toList x.toList = true := fun h0 => by
            rw [less_13, decide_eq_true_eq, hX1, dif_pos (by omega), ← hx]
            obtain ⟨_, _, hp, _, _⟩ := HD1.out.ok rfl
            exact List.pairwise_iff_getElem.1 hp (i - 1) i (by omega) hiO (by omega)
          have hco1 : ∀ wx, Fr None' w4 wx → 0 < i → wx.cell? ⟨go, oo + (i - 1), none⟩ = some (.string X1) := fun wx f h0 => by
            have hm : i - 1 < (K1.map mkB).length := by omega
            obtain ⟨g', o', hpo, hc⟩ := strs_two (HT4.out.kept f) (List.getElem?_eq_getElem hm)
            cases hpo
            rw [List.getElem_map] at hc
            rw [hX1, dif_pos (by omega)]
            exact hc
          have q7 := find14_any va n c Z x wr HL.out (HRow.out.kept HFw.out) (by omega)
          rw [hfd] at q7
          obtain ⟨kd, hkd, ekd⟩ := List.getElem_of_mem hdz
          obtain ⟨-, -, -, -, -, -, hin⟩ := HRow.out kd _ (List.getElem?_eq_getElem hkd)
          rw [ekd] at hin
          have HIn := toHid8 hin
          have HFd := toHid8 (((HG.out (by trivial)).1.2 d hdz).deps.1)
          have HAll0 := toHid8 hall
          have HCo1 := toHid8 hco1
          have HLt1 := toHid8 hlt1
          have i3 : (i : Int) < (n1 : Int) := by omega
          have i4 : (0 : Int) ≤ (i : Int) := by omega
          have HIt := toHid8 hit
          have HCo := toHid8 hco
          clear hfd hall hx hux hdz hkd ekd hin hit hco hco1 hlt1 hX1 hiM hiO
          simp only [Option.getD_some, Option.isSome_some, mkV] at q7
          obtain ⟨nd, hnd⟩ : ∃ y, d.x.deps.length = y := ⟨_, rfl⟩
          obtain ⟨nb, hnb⟩ : ∃ y, d.x.body.length = y := ⟨_, rfl⟩
          obtain ⟨N, hN⟩ : ∃ y, d.x.name = y := ⟨_, rfl⟩
          have HNd := toHid8 hnd
          rw [hnd, hnb, hN] at q7
          have hco := HCo.out
          clear hnd hnb hN
          go_wp2_with fail
          refine q7.mono ?_
          rintro e w6 ⟨rfl, f6⟩
          obtain ⟨w7, hw7⟩ : ∃ y, w6.alloc (.cells #[.string N, .slice d.pu nd d.cu, .slice d.pb nb d.cb] 36) = y := ⟨_, rfl⟩
          have F7 : Fr None' w6 w7 := hw7 ▸ Fr.alloc None' w6 _
          have B7 : Box3 w7 w6.heap.size (.string N) (.slice d.pu nd d.cu) (.slice d.pb nb d.cb) := hw7 ▸ Box3.new w6 _ _ _
          obtain ⟨x0, x1, x2⟩ := B7.cells
          have HF7 := toHid8 (f6.then7 F7)
          have hco := HF7.out.keepCell HCo.out (fun e => e)
          have hc1 := HCo1.out w7 (HFi.out.then7 HF7.out)
          obtain ⟨P, hP⟩ : ∃ P, decide (0 < i) = P := ⟨_, rfl⟩
          have HP := toHid8 (show P = true → IntKind.i64.wrap ((i : Int) - 1) = ((i - 1 : Nat) : Int) ∧ ((i - 1 : Nat) : Int) < (n1 : Int) ∧ (0 : Int) ≤ ((i - 1 : Nat) : Int) ∧ w7.cell? ⟨go, oo + (i - 1), none⟩ = some (.string X1) ∧ Op.bytesLess X1.toList x.toList = true from fun h => by
            have h0 : 0 < i := by rw [h] at hP; have := of_decide_eq_true hP; omega
            refine ⟨?_, by omega, by omega, hc1 h0, HLt1.out h0⟩
            rw [IntKind.wrap_i64]; omega)
          have HCx := toHid8 hco
          have HAll := toHid8 (show ∀ wx, Fr None' w7 wx → Calls Tryz.prog 21 #[.slice (some ⟨go, oo, none⟩) n1 c1, .slice d.pu nd d.cu] wx fun e w' => e = .returned (.bool true) ∧ Fr None' wx w' from fun wx f => by
            have h := hasAll14_any (some ⟨go, oo, none⟩) n1 c1 _ d.pu nd d.cu d.x.deps wx HK1.out.1 (HT4.out.kept ((HFi.out.then7 HF7.out).then7 f)) (by have := HK1.out.2; omega) HNd.out (by rw [← HNd.out]; exact HIn.out.deps.kept ((HFw.out.then7 HF7.out).then7 f)) (by rw [← HNd.out]; have := HFd.out; omega)
            rw [HAll0.out] at h
            exact h)
          clear q7 f6 F7 B7 hc1 hco HCo1
          go_wp2_with fail
          refine (wpIn_wide (n := 1)).1 (region_inv_g (by kernel_rfl) rfl (by decide +kernel) (RClI w7 w6.heap.size go oo n1 c1 i (i - 1) d.pu nd d.cu X1 x P (fun t0 t1 t2 t3 t4 t5 t6 t7 t8 t9 t10 t11 t12 t13 t14 t15 t16 t17 t18 t19 t20 t21 t22 t23 t24 => #[Value.slice va n c, Value.slice pa na ca, undef, undef, u4, Value.bool true, Value.slice (some { block := go, off := oo }) n1 c1, Value.int IntKind.i64 0, Value.int IntKind.i64 ↑i, Value.pointer (some { block := w6.heap.size, off := 0 }), Value.bool true, undef, undef, undef, undef, undef, Value.bool true, Value.slice va n c, Value.slice pa na ca, Value.bool false, undef, Value.tuple #[Value.slice (some { block := go, off := oo }) n1 c1, Value.int IntKind.i64 0], Value.slice va n c, Value.slice pa na ca, Value.tuple #[Value.slice (some { block := go, off := oo }) n1 c1, Value.int IntKind.i64 0], Value.slice (some { block := go, off := oo }) n1 c1, Value.int IntKind.i64 0, Value.int IntKind.i64 0, Value.bool true, Value.slice (some { block := go, off := oo }) n1 c1, Value.slice pa na ca, Value.bool true, Value.bool false, Value.int IntKind.i64 ↑i, Value.slice (some { block := go, off := oo }) n1 c1, Value.int IntKind.i64 ↑n1, Value.bool true, u37, u38, Value.tuple #[Value.agg #[Value.string N, Value.slice d.pu nd d.cu, Value.slice d.pb nb d.cb], Value.bool true], Value.slice va n c, Value.slice (some { block := go, off := oo }) n1 c1, Value.int IntKind.i64 ↑i, Value.pointer (some { block := go, off := oo + i }), Value.string x, Value.tuple #[Value.agg #[Value.string N, Value.slice d.pu nd d.cu, Value.slice d.pb nb d.cb], Value.bool true], Value.agg #[Value.string N, Value.slice d.pu nd d.cu, Value.slice d.pb nb d.cb], Value.bool true, t0, t1, t2, t3, t4, t5, t6, t7, t8, t9, t10, t11, t12, t13, t14, t15, t16, t17, t18, t19, t20, t21, t22, t23, t24, undef, undef, undef, undef, undef, undef, undef, undef, undef, undef, undef, undef, undef, undef, undef, undef, undef, undef, undef, undef, undef, undef, undef, undef, undef, undef, undef, undef, undef, undef, undef, undef, undef, undef, undef, undef, undef, undef, undef, undef, undef, undef, undef, undef, undef, undef, undef, undef, undef, undef, undef, undef, undef, undef, undef, undef, undef, undef, undef, undef, undef, undef, undef, undef])) ?h0 ?step ?done)
          case h0 => exact ⟨u48, u49, u50, u51, u52, u53, u54, u55, u56, u57, u58, u59, u60, u61, u62, u63, u64, u65, u66, u67, u68, u69, u70, u71, u72, rfl, Fr.drew None' w7, (fun h => by cases h), (fun h => by cases h), (fun h => by cases h), (fun h => by cases h), (fun h => by cases h), (fun h => by cases h), (fun h => by cases h), (fun h => by cases h), (fun h => by cases h), (fun h => by cases h), (fun h => by cases h), (fun h => by cases h), (fun h => by cases h), (fun h => by cases h), (fun h => by cases h), (fun h => by cases h), (fun h => by cases h), (fun h => by cases h), (fun h => by cases h), (fun h => by cases h), (fun h => by cases h), (fun h => by cases h), (fun h => by cases h), (fun h => by cases h), (fun h => by cases h)⟩
          case step =>
            rintro S a w' ⟨t0, t1, t2, t3, t4, t5, t6, t7, t8, t9, t10, t11, t12, t13, t14, t15, t16, t17, t18, t19, t20, t21, t22, t23, t24, rfl, R⟩
            dsimp only
            refine StepsG.cons (fun h0 hd => ?s0) (StepsG.cons (fun h0 hd => ?s1) (StepsG.cons (fun h0 hd => ?s2) (StepsG.cons (fun h0 hd => ?s3) (StepsG.cons (fun h0 hd => ?s4) (StepsG.cons (fun h0 hd => ?s5) (StepsG.cons (fun h0 hd => ?s6) (StepsG.cons (fun h0 hd => ?s7) (StepsG.cons (fun h0 hd => ?s8) (StepsG.cons (fun h0 hd => ?s9) (StepsG.cons (fun h0 hd => ?s10) (StepsG.cons (fun h0 hd => ?s11) (StepsG.cons (fun h0 hd => ?s12) (StepsG.cons (fun h0 hd => ?s13) (StepsG.cons (fun h0 hd => ?s14) (StepsG.cons (fun h0 hd => ?s15) (StepsG.cons (fun h0 hd => ?s16) (StepsG.cons (fun h0 hd => ?s17) (StepsG.cons (fun h0 hd => ?s18) (StepsG.cons (fun h0 hd => ?s19) (StepsG.cons (fun h0 hd => ?s20) (StepsG.cons (fun h0 hd => ?s21) (StepsG.cons (fun h0 hd => ?s22) (StepsG.cons (fun h0 hd => ?s23) (StepsG.cons (fun h0 hd => ?s24) (StepsG.nil)))))))))))))))))))))))))
            case s0 =>
             as_aux_lemma =>
              clear hd h0
              refine StepG.want rfl ?_
              go_simp
              exact ⟨_, _, _, _, _, _, _, _, _, _, _, _, _, _, _, _, _, _, _, _, _, _, _, _, _, rfl, R.fr, (fun _ => rfl), R.o1, R.o2, R.o3, R.o4, R.o5, R.o6, R.o7, R.o8, R.o9, R.o10, R.o11, R.o12, R.o13, R.o14, R.o15, R.o16, R.o17, R.o18, R.o19, R.o20, R.o21, R.o22, R.o23, R.o24⟩
            case s1 =>
             as_aux_lemma =>
              have k0 : S 0 = true := hd { on := 0, ground := .data } (by simp) rfl
              have e0 := R.o0 k0
              subst e0
              clear hd h0 k0
              refine StepG.want rfl ?_
              go_simp
              exact ⟨_, _, _, _, _, _, _, _, _, _, _, _, _, _, _, _, _, _, _, _, _, _, _, _, _, rfl, R.fr, (fun _ => rfl), (fun _ => rfl), R.o2, R.o3, R.o4, R.o5, R.o6, R.o7, R.o8, R.o9, R.o10, R.o11, R.o12, R.o13, R.o14, R.o15, R.o16, R.o17, R.o18, R.o19, R.o20, R.o21, R.o22, R.o23, R.o24⟩
            case s2 =>
             as_aux_lemma =>
              have k1 : S 1 = true := hd { on := 1, ground := .data } (by simp) rfl
              have e1 := R.o1 k1
              subst e1
              clear hd h0 k1
              refine StepG.want rfl ?_
              go_simp
              exact ⟨_, _, _, _, _, _, _, _, _, _, _, _, _, _, _, _, _, _, _, _, _, _, _, _, _, rfl, R.fr, R.o0, (fun _ => rfl), (fun _ => rfl), R.o3, R.o4, R.o5, R.o6, R.o7, R.o8, R.o9, R.o10, R.o11, R.o12, R.o13, R.o14, R.o15, R.o16, R.o17, R.o18, R.o19, R.o20, R.o21, R.o22, R.o23, R.o24⟩
            case s3 =>
             as_aux_lemma =>
              have k2 : S 2 = true := hd { on := 2, ground := .guard } (by simp) rfl
              have e2 := R.o2 k2
              subst e2
              clear hd h0 k2
              refine StepG.want rfl ?_
              go_simp
              exact ⟨_, _, _, _, _, _, _, _, _, _, _, _, _, _, _, _, _, _, _, _, _, _, _, _, _, rfl, R.fr, R.o0, R.o1, (fun _ => rfl), (fun _ => rfl), R.o4, R.o5, R.o6, R.o7, R.o8, R.o9, R.o10, R.o11, R.o12, R.o13, R.o14, R.o15, R.o16, R.o17, R.o18, R.o19, R.o20, R.o21, R.o22, R.o23, R.o24⟩
            case s4 =>
             as_aux_lemma =>
              have k2 : S 2 = true := hd { on := 2, ground := .guard } (by simp) rfl
              have e2 := R.o2 k2
              subst e2
              clear hd h0 k2
              refine StepG.want rfl ?_
              go_simp
              exact ⟨_, _, _, _, _, _, _, _, _, _, _, _, _, _, _, _, _, _, _, _, _, _, _, _, _, rfl, R.fr, R.o0, R.o1, (fun _ => rfl), R.o3, (fun _ => rfl), R.o5, R.o6, R.o7, R.o8, R.o9, R.o10, R.o11, R.o12, R.o13, R.o14, R.o15, R.o16, R.o17, R.o18, R.o19, R.o20, R.o21, R.o22, R.o23, R.o24⟩
            case s5 =>
             as_aux_lemma =>
              have k4 : S 4 = true := hd { on := 4, ground := .data } (by simp) rfl
              have e4 := R.o4 k4
              subst e4
              have k2 : S 2 = true := hd { on := 2, ground := .guard } (by simp) rfl
              have e2 := R.o2 k2
              subst e2
              have q0 := R.fr.keepCell x1 (fun e => e)
              clear hd h0 k4 k2
              refine StepG.want rfl ?_
              go_simp
              exact ⟨_, _, _, _, _, _, _, _, _, _, _, _, _, _, _, _, _, _, _, _, _, _, _, _, _, rfl, R.fr, R.o0, R.o1, (fun _ => rfl), R.o3, (fun _ => rfl), (fun _ => rfl), R.o6, R.o7, R.o8, R.o9, R.o10, R.o11, R.o12, R.o13, R.o14, R.o15, R.o16, R.o17, R.o18, R.o19, R.o20, R.o21, R.o22, R.o23, R.o24⟩
            case s6 =>
             as_aux_lemma =>
              have k3 : S 3 = true := hd { on := 3, ground := .data } (by simp) rfl
              have e3 := R.o3 k3
              subst e3
              have k5 : S 5 = true := hd { on := 5, ground := .data } (by simp) rfl
              have e5 := R.o5 k5
              subst e5
              have k2 : S 2 = true := hd { on := 2, ground := .guard } (by simp) rfl
              have e2 := R.o2 k2
              subst e2
              clear hd h0 k3 k5 k2
              refine StepG.want rfl ?_
              go_simp
              refine ⟨trivial, (callsIn_wide.2 (HAll.out w' R.fr)).mono ?_⟩
              rintro e w'' ⟨rfl, f⟩
              exact ⟨_, _, _, _, _, _, _, _, _, _, _, _, _, _, _, _, _, _, _, _, _, _, _, _, _, rfl, R.fr.then7 f, R.o0, R.o1, (fun _ => rfl), (fun _ => rfl), R.o4, (fun _ => rfl), (fun _ => rfl), R.o7, R.o8, R.o9, R.o10, R.o11, R.o12, R.o13, R.o14, R.o15, R.o16, R.o17, R.o18, R.o19, R.o20, R.o21, R.o22, R.o23, R.o24⟩
            case s7 =>
             as_aux_lemma =>
              have k6 : S 6 = true := hd { on := 6, ground := .data } (by simp) rfl
              have e6 := R.o6 k6
              subst e6
              have k2 : S 2 = true := hd { on := 2, ground := .guard } (by simp) rfl
              have e2 := R.o2 k2
              subst e2
              clear hd h0 k6 k2
              refine StepG.want rfl ?_
              go_simp
              exact ⟨_, _, _, _, _, _, _, _, _, _, _, _, _, _, _, _, _, _, _, _, _, _, _, _, _, rfl, R.fr, R.o0, R.o1, (fun _ => rfl), R.o3, R.o4, R.o5, (fun _ => rfl), (fun _ => rfl), R.o8, R.o9, R.o10, R.o11, R.o12, R.o13, R.o14, R.o15, R.o16, R.o17, R.o18, R.o19, R.o20, R.o21, R.o22, R.o23, R.o24⟩
            case s8 =>
             as_aux_lemma =>
              have k2 : S 2 = true := hd { on := 2, ground := .data } (by simp) rfl
              have e2 := R.o2 k2
              subst e2
              have k7 : S 7 = true := hd { on := 7, ground := .data } (by simp) rfl
              have e7 := R.o7 k7
              subst e7
              clear hd h0 k2 k7
              refine StepG.want rfl ?_
              go_simp
              exact ⟨_, _, _, _, _, _, _, _, _, _, _, _, _, _, _, _, _, _, _, _, _, _, _, _, _, rfl, R.fr, R.o0, R.o1, (fun _ => rfl), R.o3, R.o4, R.o5, R.o6, (fun _ => rfl), (fun _ => rfl), R.o9, R.o10, R.o11, R.o12, R.o13, R.o14, R.o15, R.o16, R.o17, R.o18, R.o19, R.o20, R.o21, R.o22, R.o23, R.o24⟩
            case s9 =>
             as_aux_lemma =>
              have k8 : S 8 = true := hd { on := 8, ground := .data } (by simp) rfl
              have e8 := R.o8 k8
              subst e8
              clear hd h0 k8
              refine StepG.want rfl ?_
              go_simp
              exact ⟨_, _, _, _, _, _, _, _, _, _, _, _, _, _, _, _, _, _, _, _, _, _, _, _, _, rfl, R.fr, R.o0, R.o1, R.o2, R.o3, R.o4, R.o5, R.o6, R.o7, (fun _ => rfl), (fun _ => rfl), R.o10, R.o11, R.o12, R.o13, R.o14, R.o15, R.o16, R.o17, R.o18, R.o19, R.o20, R.o21, R.o22, R.o23, R.o24⟩
            case s10 =>
             as_aux_lemma =>
              have k9 : S 9 = true := hd { on := 9, ground := .guard } (by simp) rfl
              have e9 := R.o9 k9
              subst e9
              clear hd h0 k9
              refine StepG.want rfl ?_
              go_simp
              exact ⟨_, _, _, _, _, _, _, _, _, _, _, _, _, _, _, _, _, _, _, _, _, _, _, _, _, rfl, R.fr, R.o0, R.o1, R.o2, R.o3, R.o4, R.o5, R.o6, R.o7, R.o8, (fun _ => rfl), (fun _ => rfl), R.o11, R.o12, R.o13, R.o14, R.o15, R.o16, R.o17, R.o18, R.o19, R.o20, R.o21, R.o22, R.o23, R.o24⟩
            case s11 =>
             as_aux_lemma =>
              have k10 : S 10 = true := hd { on := 10, ground := .data } (by simp) rfl
              have e10 := R.o10 k10
              subst e10
              have k9 : S 9 = true := hd { on := 9, ground := .guard } (by simp) rfl
              have e9 := R.o9 k9
              subst e9
              clear hd h0 k10 k9
              refine StepG.want rfl ?_
              go_simp
              exact ⟨_, _, _, _, _, _, _, _, _, _, _, _, _, _, _, _, _, _, _, _, _, _, _, _, _, rfl, R.fr, R.o0, R.o1, R.o2, R.o3, R.o4, R.o5, R.o6, R.o7, R.o8, (fun _ => rfl), (fun _ => rfl), (fun _ => rfl), R.o12, R.o13, R.o14, R.o15, R.o16, R.o17, R.o18, R.o19, R.o20, R.o21, R.o22, R.o23, R.o24⟩
            case s12 =>
             as_aux_lemma =>
              have k11 : S 11 = true := hd { on := 11, ground := .data } (by simp) rfl
              have e11 := R.o11 k11
              subst e11
              have k9 : S 9 = true := hd { on := 9, ground := .guard } (by simp) rfl
              have e9 := R.o9 k9
              subst e9
              clear hd h0 k11 k9
              refine StepG.want rfl ?_
              go_simp
              exact ⟨_, _, _, _, _, _, _, _, _, _, _, _, _, _, _, _, _, _, _, _, _, _, _, _, _, rfl, R.fr, R.o0, R.o1, R.o2, R.o3, R.o4, R.o5, R.o6, R.o7, R.o8, (fun _ => rfl), R.o10, (fun _ => rfl), (fun _ => rfl), R.o13, R.o14, R.o15, R.o16, R.o17, R.o18, R.o19, R.o20, R.o21, R.o22, R.o23, R.o24⟩
            case s13 =>
             as_aux_lemma =>
              have k12 : S 12 = true := hd { on := 12, ground := .guard } (by simp) rfl
              have e12 := R.o12 k12
              subst e12
              clear hd h0 k12
              cases P
              all_goals
                try simp only [cond_true, cond_false]
                first
                | (
                    refine StepG.want rfl ?_
                    go_simp
                    exact ⟨_, _, _, _, _, _, _, _, _, _, _, _, _, _, _, _, _, _, _, _, _, _, _, _, _, rfl, R.fr, R.o0, R.o1, R.o2, R.o3, R.o4, R.o5, R.o6, R.o7, R.o8, R.o9, R.o10, R.o11, (fun _ => rfl), (fun _ => rfl), R.o14, R.o15, R.o16, R.o17, R.o18, R.o19, R.o20, R.o21, R.o22, R.o23, R.o24⟩)
                | (
                    refine StepG.none rfl ?_
                    exact ⟨_, _, _, _, _, _, _, _, _, _, _, _, _, _, _, _, _, _, _, _, _, _, _, _, _, rfl, R.fr, R.o0, R.o1, R.o2, R.o3, R.o4, R.o5, R.o6, R.o7, R.o8, R.o9, R.o10, R.o11, (fun _ => rfl), (fun _ => rfl), R.o14, R.o15, R.o16, R.o17, R.o18, R.o19, R.o20, R.o21, R.o22, R.o23, R.o24⟩)
            case s14 =>
             as_aux_lemma =>
              have k12 : S 12 = true := hd { on := 12, ground := .guard } (by simp) rfl
              have e12 := R.o12 k12
              subst e12
              clear hd h0 k12
              cases P
              all_goals
                try simp only [cond_true, cond_false]
                first
                | (
                    refine StepG.want rfl ?_
                    go_simp
                    exact ⟨_, _, _, _, _, _, _, _, _, _, _, _, _, _, _, _, _, _, _, _, _, _, _, _, _, rfl, R.fr, R.o0, R.o1, R.o2, R.o3, R.o4, R.o5, R.o6, R.o7, R.o8, R.o9, R.o10, R.o11, (fun _ => rfl), R.o13, (fun _ => rfl), R.o15, R.o16, R.o17, R.o18, R.o19, R.o20, R.o21, R.o22, R.o23, R.o24⟩)
                | (
                    refine StepG.none rfl ?_
                    exact ⟨_, _, _, _, _, _, _, _, _, _, _, _, _, _, _, _, _, _, _, _, _, _, _, _, _, rfl, R.fr, R.o0, R.o1, R.o2, R.o3, R.o4, R.o5, R.o6, R.o7, R.o8, R.o9, R.o10, R.o11, (fun _ => rfl), R.o13, (fun _ => rfl), R.o15, R.o16, R.o17, R.o18, R.o19, R.o20, R.o21, R.o22, R.o23, R.o24⟩)
            case s15 =>
             as_aux_lemma =>
              have k14 : S 14 = true := hd { on := 14, ground := .data } (by simp) rfl
              have e14 := R.o14 k14
              subst e14
              have k12 : S 12 = true := hd { on := 12, ground := .guard } (by simp) rfl
              have e12 := R.o12 k12
              subst e12
              clear hd h0 k14 k12
              cases P
              all_goals
                try simp only [cond_true, cond_false]
                first
                | (
                    refine StepG.want rfl ?_
                    have hw := (HP.out rfl).1
                    go_simp
                    exact ⟨_, _, _, _, _, _, _, _, _, _, _, _, _, _, _, _, _, _, _, _, _, _, _, _, _, rfl, R.fr, R.o0, R.o1, R.o2, R.o3, R.o4, R.o5, R.o6, R.o7, R.o8, R.o9, R.o10, R.o11, (fun _ => rfl), R.o13, (fun _ => rfl), (fun _ => rfl), R.o16, R.o17, R.o18, R.o19, R.o20, R.o21, R.o22, R.o23, R.o24⟩)
                | (
                    refine StepG.none rfl ?_
                    exact ⟨_, _, _, _, _, _, _, _, _, _, _, _, _, _, _, _, _, _, _, _, _, _, _, _, _, rfl, R.fr, R.o0, R.o1, R.o2, R.o3, R.o4, R.o5, R.o6, R.o7, R.o8, R.o9, R.o10, R.o11, (fun _ => rfl), R.o13, (fun _ => rfl), (fun _ => rfl), R.o16, R.o17, R.o18, R.o19, R.o20, R.o21, R.o22, R.o23, R.o24⟩)
            case s16 =>
             as_aux_lemma =>
              have k13 : S 13 = true := hd { on := 13, ground := .data } (by simp) rfl
              have e13 := R.o13 k13
              subst e13
              have k15 : S 15 = true := hd { on := 15, ground := .data } (by simp) rfl
              have e15 := R.o15 k15
              subst e15
              have k12 : S 12 = true := hd { on := 12, ground := .guard } (by simp) rfl
              have e12 := R.o12 k12
              subst e12
              clear hd h0 k13 k15 k12
              cases P
              all_goals
                try simp only [cond_true, cond_false]
                first
                | (
                    refine StepG.want rfl ?_
                    have h1 := (HP.out rfl).2.1
                    have h2 := (HP.out rfl).2.2.1
                    go_simp
                    exact ⟨_, _, _, _, _, _, _, _, _, _, _, _, _, _, _, _, _, _, _, _, _, _, _, _, _, rfl, R.fr, R.o0, R.o1, R.o2, R.o3, R.o4, R.o5, R.o6, R.o7, R.o8, R.o9, R.o10, R.o11, (fun _ => rfl), (fun _ => rfl), R.o14, (fun _ => rfl), (fun _ => rfl), R.o17, R.o18, R.o19, R.o20, R.o21, R.o22, R.o23, R.o24⟩)
                | (
                    refine StepG.none rfl ?_
                    exact ⟨_, _, _, _, _, _, _, _, _, _, _, _, _, _, _, _, _, _, _, _, _, _, _, _, _, rfl, R.fr, R.o0, R.o1, R.o2, R.o3, R.o4, R.o5, R.o6, R.o7, R.o8, R.o9, R.o10, R.o11, (fun _ => rfl), (fun _ => rfl), R.o14, (fun _ => rfl), (fun _ => rfl), R.o17, R.o18, R.o19, R.o20, R.o21, R.o22, R.o23, R.o24⟩)
            case s17 =>
             as_aux_lemma =>
              have k16 : S 16 = true := hd { on := 16, ground := .data } (by simp) rfl
              have e16 := R.o16 k16
              subst e16
              have k12 : S 12 = true := hd { on := 12, ground := .guard } (by simp) rfl
              have e12 := R.o12 k12
              subst e12
              clear hd h0 k16 k12
              cases P
              all_goals
                try simp only [cond_true, cond_false]
                first
                | (
                    refine StepG.want rfl ?_
                    have q0 := R.fr.keepCell (HP.out rfl).2.2.2.1 (fun e => e)
                    go_simp
                    exact ⟨_, _, _, _, _, _, _, _, _, _, _, _, _, _, _, _, _, _, _, _, _, _, _, _, _, rfl, R.fr, R.o0, R.o1, R.o2, R.o3, R.o4, R.o5, R.o6, R.o7, R.o8, R.o9, R.o10, R.o11, (fun _ => rfl), R.o13, R.o14, R.o15, (fun _ => rfl), (fun _ => rfl), R.o18, R.o19, R.o20, R.o21, R.o22, R.o23, R.o24⟩)
                | (
                    refine StepG.none rfl ?_
                    exact ⟨_, _, _, _, _, _, _, _, _, _, _, _, _, _, _, _, _, _, _, _, _, _, _, _, _, rfl, R.fr, R.o0, R.o1, R.o2, R.o3, R.o4, R.o5, R.o6, R.o7, R.o8, R.o9, R.o10, R.o11, (fun _ => rfl), R.o13, R.o14, R.o15, (fun _ => rfl), (fun _ => rfl), R.o18, R.o19, R.o20, R.o21, R.o22, R.o23, R.o24⟩)
            case s18 =>
             as_aux_lemma =>
              have k12 : S 12 = true := hd { on := 12, ground := .guard } (by simp) rfl
              have e12 := R.o12 k12
              subst e12
              clear hd h0 k12
              cases P
              all_goals
                try simp only [cond_true, cond_false]
                first
                | (
                    refine StepG.want rfl ?_
                    go_simp
                    exact ⟨_, _, _, _, _, _, _, _, _, _, _, _, _, _, _, _, _, _, _, _, _, _, _, _, _, rfl, R.fr, R.o0, R.o1, R.o2, R.o3, R.o4, R.o5, R.o6, R.o7, R.o8, R.o9, R.o10, R.o11, (fun _ => rfl), R.o13, R.o14, R.o15, R.o16, R.o17, (fun _ => rfl), R.o19, R.o20, R.o21, R.o22, R.o23, R.o24⟩)
                | (
                    refine StepG.none rfl ?_
                    exact ⟨_, _, _, _, _, _, _, _, _, _, _, _, _, _, _, _, _, _, _, _, _, _, _, _, _, rfl, R.fr, R.o0, R.o1, R.o2, R.o3, R.o4, R.o5, R.o6, R.o7, R.o8, R.o9, R.o10, R.o11, (fun _ => rfl), R.o13, R.o14, R.o15, R.o16, R.o17, (fun _ => rfl), R.o19, R.o20, R.o21, R.o22, R.o23, R.o24⟩)
            case s19 =>
             as_aux_lemma =>
              have k12 : S 12 = true := hd { on := 12, ground := .guard } (by simp) rfl
              have e12 := R.o12 k12
              subst e12
              clear hd h0 k12
              cases P
              all_goals
                try simp only [cond_true, cond_false]
                first
                | (
                    refine StepG.want rfl ?_
                    go_simp
                    exact ⟨_, _, _, _, _, _, _, _, _, _, _, _, _, _, _, _, _, _, _, _, _, _, _, _, _, rfl, R.fr, R.o0, R.o1, R.o2, R.o3, R.o4, R.o5, R.o6, R.o7, R.o8, R.o9, R.o10, R.o11, (fun _ => rfl), R.o13, R.o14, R.o15, R.o16, R.o17, R.o18, (fun _ => rfl), R.o20, R.o21, R.o22, R.o23, R.o24⟩)
                | (
                    refine StepG.none rfl ?_
                    exact ⟨_, _, _, _, _, _, _, _, _, _, _, _, _, _, _, _, _, _, _, _, _, _, _, _, _, rfl, R.fr, R.o0, R.o1, R.o2, R.o3, R.o4, R.o5, R.o6, R.o7, R.o8, R.o9, R.o10, R.o11, (fun _ => rfl), R.o13, R.o14, R.o15, R.o16, R.o17, R.o18, (fun _ => rfl), R.o20, R.o21, R.o22, R.o23, R.o24⟩)
            case s20 =>
             as_aux_lemma =>
              have k18 : S 18 = true := hd { on := 18, ground := .data } (by simp) rfl
              have e18 := R.o18 k18
              subst e18
              have k19 : S 19 = true := hd { on := 19, ground := .data } (by simp) rfl
              have e19 := R.o19 k19
              subst e19
              have k12 : S 12 = true := hd { on := 12, ground := .guard } (by simp) rfl
              have e12 := R.o12 k12
              subst e12
              clear hd h0 k18 k19 k12
              cases P
              all_goals
                try simp only [cond_true, cond_false]
                first
                | (
                    refine StepG.want rfl ?_
                    go_simp
                    exact ⟨_, _, _, _, _, _, _, _, _, _, _, _, _, _, _, _, _, _, _, _, _, _, _, _, _, rfl, R.fr, R.o0, R.o1, R.o2, R.o3, R.o4, R.o5, R.o6, R.o7, R.o8, R.o9, R.o10, R.o11, (fun _ => rfl), R.o13, R.o14, R.o15, R.o16, R.o17, (fun _ => rfl), (fun _ => rfl), (fun _ => rfl), R.o21, R.o22, R.o23, R.o24⟩)
                | (
                    refine StepG.none rfl ?_
                    exact ⟨_, _, _, _, _, _, _, _, _, _, _, _, _, _, _, _, _, _, _, _, _, _, _, _, _, rfl, R.fr, R.o0, R.o1, R.o2, R.o3, R.o4, R.o5, R.o6, R.o7, R.o8, R.o9, R.o10, R.o11, (fun _ => rfl), R.o13, R.o14, R.o15, R.o16, R.o17, (fun _ => rfl), (fun _ => rfl), (fun _ => rfl), R.o21, R.o22, R.o23, R.o24⟩)
            case s21 =>
             as_aux_lemma =>
              have k20 : S 20 = true := hd { on := 20, ground := .data } (by simp) rfl
              have e20 := R.o20 k20
              subst e20
              have k12 : S 12 = true := hd { on := 12, ground := .guard } (by simp) rfl
              have e12 := R.o12 k12
              subst e12
              clear hd h0 k20 k12
              cases P
              all_goals
                try simp only [cond_true, cond_false]
                first
                | (
                    refine StepG.want rfl ?_
                    have q0 := R.fr.keepCell HCx.out (fun e => e)
                    go_simp
                    exact ⟨_, _, _, _, _, _, _, _, _, _, _, _, _, _, _, _, _, _, _, _, _, _, _, _, _, rfl, R.fr, R.o0, R.o1, R.o2, R.o3, R.o4, R.o5, R.o6, R.o7, R.o8, R.o9, R.o10, R.o11, (fun _ => rfl), R.o13, R.o14, R.o15, R.o16, R.o17, R.o18, R.o19, (fun _ => rfl), (fun _ => rfl), R.o22, R.o23, R.o24⟩)
                | (
                    refine StepG.none rfl ?_
                    exact ⟨_, _, _, _, _, _, _, _, _, _, _, _, _, _, _, _, _, _, _, _, _, _, _, _, _, rfl, R.fr, R.o0, R.o1, R.o2, R.o3, R.o4, R.o5, R.o6, R.o7, R.o8, R.o9, R.o10, R.o11, (fun _ => rfl), R.o13, R.o14, R.o15, R.o16, R.o17, R.o18, R.o19, (fun _ => rfl), (fun _ => rfl), R.o22, R.o23, R.o24⟩)
            case s22 =>
             as_aux_lemma =>
              have k17 : S 17 = true := hd { on := 17, ground := .data } (by simp) rfl
              have e17 := R.o17 k17
              subst e17
              have k21 : S 21 = true := hd { on := 21, ground := .data } (by simp) rfl
              have e21 := R.o21 k21
              subst e21
              have k12 : S 12 = true := hd { on := 12, ground := .guard } (by simp) rfl
              have e12 := R.o12 k12
              subst e12
              clear hd h0 k17 k21 k12
              cases P
              all_goals
                try simp only [cond_true, cond_false]
                first
                | (
                    refine StepG.want rfl ?_
                    have h1 := (HP.out rfl).2.2.2.2
                    go_simp
                    exact ⟨_, _, _, _, _, _, _, _, _, _, _, _, _, _, _, _, _, _, _, _, _, _, _, _, _, rfl, R.fr, R.o0, R.o1, R.o2, R.o3, R.o4, R.o5, R.o6, R.o7, R.o8, R.o9, R.o10, R.o11, (fun _ => rfl), R.o13, R.o14, R.o15, R.o16, (fun _ => rfl), R.o18, R.o19, R.o20, (fun _ => rfl), (fun _ => rfl), R.o23, R.o24⟩)
                | (
                    refine StepG.none rfl ?_
                    exact ⟨_, _, _, _, _, _, _, _, _, _, _, _, _, _, _, _, _, _, _, _, _, _, _, _, _, rfl, R.fr, R.o0, R.o1, R.o2, R.o3, R.o4, R.o5, R.o6, R.o7, R.o8, R.o9, R.o10, R.o11, (fun _ => rfl), R.o13, R.o14, R.o15, R.o16, (fun _ => rfl), R.o18, R.o19, R.o20, (fun _ => rfl), (fun _ => rfl), R.o23, R.o24⟩)
            case s23 =>
             as_aux_lemma =>
              have k12 : S 12 = true := hd { on := 12, ground := .data } (by simp) rfl
              have e12 := R.o12 k12
              subst e12
              have k22 : S 22 = true := hd { on := 22, ground := .data } (by simp) rfl
              have e22 := R.o22 k22
              subst e22
              have k9 : S 9 = true := hd { on := 9, ground := .guard } (by simp) rfl
              have e9 := R.o9 k9
              subst e9
              clear hd h0 k12 k22 k9
              cases P
              all_goals
                try simp only [cond_true, cond_false]
                first
                | (
                    refine StepG.want rfl ?_
                    go_simp
                    exact ⟨_, _, _, _, _, _, _, _, _, _, _, _, _, _, _, _, _, _, _, _, _, _, _, _, _, rfl, R.fr, R.o0, R.o1, R.o2, R.o3, R.o4, R.o5, R.o6, R.o7, R.o8, (fun _ => rfl), R.o10, R.o11, (fun _ => rfl), R.o13, R.o14, R.o15, R.o16, R.o17, R.o18, R.o19, R.o20, R.o21, (fun _ => rfl), (fun _ => rfl), R.o24⟩)
                | (
                    refine StepG.none rfl ?_
                    exact ⟨_, _, _, _, _, _, _, _, _, _, _, _, _, _, _, _, _, _, _, _, _, _, _, _, _, rfl, R.fr, R.o0, R.o1, R.o2, R.o3, R.o4, R.o5, R.o6, R.o7, R.o8, (fun _ => rfl), R.o10, R.o11, (fun _ => rfl), R.o13, R.o14, R.o15, R.o16, R.o17, R.o18, R.o19, R.o20, R.o21, (fun _ => rfl), (fun _ => rfl), R.o24⟩)
            case s24 =>
             as_aux_lemma =>
              have k9 : S 9 = true := hd { on := 9, ground := .data } (by simp) rfl
              have e9 := R.o9 k9
              subst e9
              have k23 : S 23 = true := hd { on := 23, ground := .data } (by simp) rfl
              have e23 := R.o23 k23
              subst e23
              clear hd h0 k9 k23
              refine StepG.want rfl ?_
              go_simp
              exact ⟨_, _, _, _, _, _, _, _, _, _, _, _, _, _, _, _, _, _, _, _, _, _, _, _, _, rfl, R.fr, R.o0, R.o1, R.o2, R.o3, R.o4, R.o5, R.o6, R.o7, R.o8, (fun _ => rfl), R.o10, R.o11, R.o12, R.o13, R.o14, R.o15, R.o16, R.o17, R.o18, R.o19, R.o20, R.o21, R.o22, (fun _ => rfl), (fun _ => rfl)⟩
          case done =>
            rintro S a w' ⟨t0, t1, t2, t3, t4, t5, t6, t7, t8, t9, t10, t11, t12, t13, t14, t15, t16, t17, t18, t19, t20, t21, t22, t23, t24, rfl, R⟩ hall
            dsimp only
            have e24 := R.o24 (hall 24 (by simp))
            subst e24
            have HFn := toHid8 (HFi.out.then7 (HF7.out.then7 R.fr))
            clear R hall
            go_wp2_with fail
            exact ⟨⟨i + 1, by have := HIt.out; omega, by go_num, HFn.out⟩, by simp [intOf]; have := HIt.out; omega⟩

end Go.Proofs.YtbiilnhefoplkaaGreatDoor
