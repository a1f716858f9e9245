/-
  What is proved here: the contracts that the statement stands on: ArgsL14, LeastW14. Conditions: as each theorem names them.
-/
import Derived.Test.YtlabcbcccfbhjaaGreatDoorM6Strs9
import Derived.Test.YtlabcbcccfbhjaaGreatDoorM27Down14
import Derived.Test.YtlabcbcccfbhjaaGreatDoorM1Base
namespace Go.Proofs.YtlabcbcccfbhjaaGreatDoor
open Go.ChangeShapes Go.WideShapes Go.ChangeAt Go.RowKit Go.Deep
set_option maxRecDepth 100000

theorem weight_small14 {x : Pr} (h : x.weight < 4000) : SmallP x ∧ (∀ y ∈ x.old, y.size < 4000) ∧ (∀ y ∈ x.new, y.size < 4000) := by
  unfold Pr.weight at h
  exact ⟨⟨by omega, by omega, by omega, by omega, by omega⟩, fun y hy => by have := mem_sum13 hy; omega, fun y hy => by have := mem_sum13 hy; omega⟩

theorem FewPa.small14 {p : Pa} (h : FewPa p) : SmallPa p := by
  refine ⟨by have := h.name; omega, ⟨by have := h.deps.1; omega, fun y hy => by have := h.deps.2 y hy; omega⟩, ⟨by have := h.body.1; omega, fun x hx => (weight_small14 (h.body.2 x hx)).1⟩, fun x hx => ?_⟩
  obtain ⟨_, h1, h2⟩ := weight_small14 (h.body.2 x hx)
  exact ⟨fun y hy => by have := h1 y hy; omega, fun y hy => by have := h2 y hy; omega⟩

theorem prims_len {H : Type} {enc : TypeId × Value → H} {W : World} {fuel : Nat} {sp : Nat → Bool} {held : Bool} {cs : List Value} {x : DataW H × List MemPlace} (h : DataW.trod enc Tryz.prog W 0 sp held fuel 35 cs = some x) (hr : ∀ n ∈ x.1.weights Tryz.prog 35, n ≤ reachBytes) : ∀ va len cap, cs = [.slice va len cap] → len ≤ reachBytes := fun va len cap e => by
  rcases open_slice Tryz.underlying35 h with ⟨hcs, _⟩ | ⟨a, len', cap', m, n, D, Pl, hcs, _, hl, hm, hmm, rfl, hx⟩
  · rw [hcs] at e
    injection e with e
    injection e with e1 e2 e3
    omega
  · rw [hcs] at e
    injection e with e
    injection e with e1 e2 e3
    have h1 := hr ((((List.range len').map D).length + ((List.range (m - len')).map fun j => D (len' + j)).length) * Tryz.prog.bytesOf 67) (by simp [DataW.weights, Tryz.underlying35])
    have e16 : Tryz.prog.bytesOf 67 = 112 := by kernel_rfl
    rw [e16] at h1
    simp at h1
    omega

theorem trod_patch14 {H : Type} {enc : TypeId × Value → H} {W : World} {fuel : Nat} {sp : Nat → Bool} {held : Bool} {cs : List Value} {x : DataW H × List MemPlace} (h : DataW.trod enc Tryz.prog W 0 sp held fuel 37 cs = some x) (hr : ∀ n ∈ x.1.weights Tryz.prog 37, n ≤ reachBytes) :
    ∃ c : Pv, cs = vcell c ∧ PvIn W c ∧ c.x.deps.length ≤ reachBytes ∧ c.x.body.length ≤ reachBytes ∧ ∀ x ∈ c.x.body, x.old.length ≤ reachBytes ∧ x.new.length ≤ reachBytes := by
  obtain ⟨xs, n, _, rfl, hl, hlen, hfx⟩ := DataW.trod_struct Tryz.underlying37 h
  have h3 : Tryz.prog.cellsOf 37 = 3 := by kernel_rfl
  have hcS : Tryz.prog.cellsOf 9 = 1 := by kernel_rfl
  have hcL : Tryz.prog.cellsOf 23 = 1 := by kernel_rfl
  have hcP : Tryz.prog.cellsOf 35 = 1 := by kernel_rfl
  rw [h3] at hl
  match cs, hl, xs, hlen with
  | [c0, c1, c2], _, [x0, x1, (x2a, x2b)], _ =>
    have f0 := hfx 0 _ rfl
    have f1 := hfx 1 _ rfl
    have f2 := hfx 2 _ rfl
    simp [hcS, hcL, hcP] at f0 f1 f2
    obtain ⟨s0, e0, _, _⟩ := DataW.trod_string Tryz.underlying9 f0
    obtain ⟨vd, ld, e1, t1, l1⟩ := trod_strs9 f1 (fun k hk => hr k (by
      simp [DataW.weights, Tryz.underlying37, DataW.weightsEach]
      simp [hk]))
    have hrb : ∀ k ∈ (x2a, x2b).1.weights Tryz.prog 35, k ≤ reachBytes := fun k hk => hr k (by
      simp [DataW.weights, Tryz.underlying37, DataW.weightsEach]
      simp [hk])
    obtain ⟨a, nb, cb, L, e2, z1, z2, z3, z4⟩ := prims_cells f2 hrb
    have hlb := prims_len f2 hrb _ _ _ e2
    simp only [List.cons.injEq, and_true] at e0 e1 e2
    subst e0 e1 e2
    have t1' := t1
    obtain ⟨pu, cu, rfl, -⟩ := t1
    subst z1
    exact ⟨⟨⟨s0, ld, L⟩, pu, cu, a, cb⟩, rfl, ⟨t1', z3, z2⟩, l1, hlb, z4⟩

/-- A row of patches as an argument is. -/
theorem arg_patches {H : Type} {enc : TypeId × Value → H} {W : World} {sp : Nat → Bool} {held : Bool} {base : Nat} {v : Value} {d : DataW H} {ps : List MemPlace} (hv : Value.okWide Tryz.prog W .any base 22 v) (h : DataW.Trod enc Tryz.prog W 0 sp held 22 v d ps) (hr : ∀ n ∈ d.weights Tryz.prog 22, n ≤ reachBytes) :
    ∃ a n c Z, v = .slice a n c ∧ Z.length = n ∧ RowV W a Z ∧ ∀ c ∈ Z, c.x.deps.length ≤ reachBytes ∧ c.x.body.length ≤ reachBytes ∧ ∀ x ∈ c.x.body, x.old.length ≤ reachBytes ∧ x.new.length ≤ reachBytes := by
  obtain ⟨a, n, c, rfl⟩ := okWide_slice Tryz.underlying22 hv
  obtain ⟨fuel, hf⟩ := h
  rcases open_slice Tryz.underlying22 hf with ⟨hcs, _⟩ | ⟨ad, len, cap, m, fu, D, Pl, hcs, _, hl, hm, hmm, hd, hx⟩
  · simp only [Value.cells, List.cons.injEq, Value.slice.injEq, and_true] at hcs
    obtain ⟨rfl, rfl, rfl⟩ := hcs
    exact ⟨none, 0, 0, [], rfl, rfl, (fun k x e => by simp at e), fun x e => by cases e⟩
  · simp only [Value.cells, List.cons.injEq, Value.slice.injEq, and_true] at hcs
    obtain ⟨rfl, rfl, rfl⟩ := hcs
    injection hd with hd1 hd2
    subst hd1
    have hlm : n ≤ m := by rw [hmm]; split <;> omega
    have h3 : Tryz.prog.cellsOf 37 = 3 := by kernel_rfl
    rw [h3] at hx
    have hall : ∀ i, i < n → ∃ t : Pv, ∃ cs', W.cells? 0 (ad.add (i * 3)) 3 = some cs' ∧ cs' = vcell t ∧ PvIn W t ∧ t.x.deps.length ≤ reachBytes ∧ t.x.body.length ≤ reachBytes ∧ ∀ x ∈ t.x.body, x.old.length ≤ reachBytes ∧ x.new.length ≤ reachBytes := fun i hi => by
      obtain ⟨cs', h1, h2⟩ := hx i (by omega)
      obtain ⟨t, e, h4⟩ := trod_patch14 h2 (fun k hk => hr k (by
        simp only [DataW.weights, Tryz.underlying22]
        refine List.mem_cons_of_mem _ (List.mem_append_left _ (weightsAll_mem (d := D i) (List.mem_map_of_mem (List.mem_range.2 hi)) k hk))))
      exact ⟨t, cs', h1, e, h4⟩
    have hin : Inhabited Pv := ⟨zeroPv⟩
    obtain ⟨T, hT⟩ := choose_lt hall
    refine ⟨some ad, n, c, (List.range n).map T, rfl, by simp, fun i t hi => ?_, fun x hx => ?_⟩
    · have hil : i < n := by simpa using (List.getElem?_eq_some_iff.1 hi).1
      have e : T i = t := by simpa [hil] using hi
      obtain ⟨cs', h1, h2, s1, _⟩ := hT i hil
      subst h2
      have c0 := cells_at7 h1 0 _ rfl
      have c1 := cells_at7 h1 1 _ rfl
      have c2 := cells_at7 h1 2 _ rfl
      have hsp : ad.spot = none := by
        obtain ⟨cs0, g1, g2, _⟩ := hT 0 (by omega)
        subst g2
        have := spot_none7 (cells_at7 g1 0 _ rfl)
        simpa [Addr.add] using this
      have ead : ad.add (i * 3) = ⟨ad.block, ad.off + i * 3, none⟩ := add_none7 hsp _
      rw [ead] at c0 c1 c2
      rw [add_none7 rfl] at c0 c1 c2
      rw [← e]
      refine ⟨ad.block, ad.off, ?_, c0, c1, c2, s1⟩
      obtain ⟨b, o, s⟩ := ad
      simp_all
    · obtain ⟨i, hi, rfl⟩ := List.mem_map.1 hx
      obtain ⟨_, _, _, _, s3⟩ := hT i (List.mem_range.1 hi)
      exact s3

end Go.Proofs.YtlabcbcccfbhjaaGreatDoor

namespace Go.Proofs.YtlabcbcccfbhjaaGreatDoor
open Go.RowKit Go.Maps Go.WideMaps
set_option maxRecDepth 100000

theorem setGo_get : ∀ {Z : List Pv} {T0 T : List (Kv Pv)}, RiseM T0 → setGo T0 Z = some T → (∀ k c, getM T0 k = some c → getM T k = some c) ∧ ∀ d ∈ Z, getM T (unB d.x.name) = some d
  | [], T0, T, _, h => by
    rw [setGo] at h
    cases h
    exact ⟨fun _ _ h => h, fun d hd => by cases hd⟩
  | c :: Z, T0, T, hr, h => by
    rw [setGo] at h
    split at h
    · cases h
    · rename_i hn
      obtain ⟨h1, h2⟩ := setGo_get (rise_put hr _ c) h
      have hg : getM T0 (unB c.x.name) = none := by
        cases e : getM T0 (unB c.x.name) with
        | none => rfl
        | some d => exact absurd (.inl (by rw [e]; rfl)) hn
      refine ⟨fun k d hk => h1 k d ?_, fun d hd => ?_⟩
      · rw [get_putM hr, if_neg (fun e => by rw [e, hg] at hk; cases hk)]
        exact hk
      · rcases List.mem_cons.1 hd with rfl | hd
        · exact h1 _ _ (by rw [get_putM hr, if_pos rfl])
        · exact h2 d hd

theorem setGo_rise : ∀ {Z : List Pv} {T0 T : List (Kv Pv)}, RiseM T0 → setGo T0 Z = some T → RiseM T
  | [], T0, T, hr, h => by rw [setGo] at h; cases h; exact hr
  | c :: Z, T0, T, hr, h => by
    rw [setGo] at h
    split at h
    · cases h
    · exact setGo_rise (rise_put hr _ c) h

theorem rise_nil {β : Type} : RiseM ([] : List (Kv β)) := List.Pairwise.nil

theorem setV_get {Z : List Pv} {T : List (Kv Pv)} (h : setV Z = some T) : RiseM T ∧ ∀ d ∈ Z, getM T (unB d.x.name) = some d := by
  unfold setV at h
  split at h
  · exact ⟨setGo_rise rise_nil h, (setGo_get rise_nil h).2⟩
  · cases h

theorem ordGo_pre (T : List (Kv Pv)) : ∀ (f : Nat) (O : List B13), O <+: ordGo T f O
  | 0, O => List.prefix_refl O
  | f + 1, O => by
    rw [ordGo]
    split
    · exact List.prefix_refl O
    · exact (List.prefix_append O _).trans (ordGo_pre T f _)

theorem ordGo_at (T : List (Kv Pv)) : ∀ (f : Nat) (O : List B13) (i : Nat), O.length ≤ i → (h : i < (ordGo T f O).length) → ordNext T ((ordGo T f O).take i) = some (ordGo T f O)[i]
  | 0, O, i, hi, h => by rw [ordGo] at h; omega
  | f + 1, O, i, hi, h => by
    cases hn : ordNext T O with
    | none =>
      have e : ordGo T (f + 1) O = O := by rw [ordGo, hn]
      rw [e] at h; omega
    | some k =>
      have e : ordGo T (f + 1) O = ordGo T f (O ++ [k]) := by rw [ordGo, hn]
      simp only [e] at h ⊢
      by_cases hio : i = O.length
      · subst hio
        obtain ⟨r, hr⟩ := ordGo_pre T f (O ++ [k])
        have h1 : (ordGo T f (O ++ [k])).take O.length = O := by rw [← hr, List.append_assoc, List.take_left]
        have h2 : (ordGo T f (O ++ [k]))[O.length]? = some k := by rw [← hr, List.append_assoc, List.getElem?_append_right (Nat.le_refl _)]; simp
        rw [h1, hn, ← h2, List.getElem?_eq_getElem h]
      · exact ordGo_at T f (O ++ [k]) i (by rw [List.length_append, List.length_singleton]; omega) h

theorem ordV_len {T : List (Kv Pv)} {O : List B13} (h : ordV T = some O) : O.length = T.length := by
  unfold ordV at h
  split at h
  · rename_i hl
    cases h
    exact hl
  · cases h

theorem ordV_at {T : List (Kv Pv)} {O : List B13} (h : ordV T = some O) (i : Nat) (hi : i < O.length) : ordNext T (O.take i) = some O[i] := by
  unfold ordV at h
  split at h
  · cases h
    exact ordGo_at T _ [] i (Nat.zero_le _) hi
  · cases h

theorem next_least {T : List (Kv Pv)} (hT : RiseM T) {P : List B13} {k : B13} (h : ordNext T P = some k) {q : B13} (hq : InM T q) (hl : q < k) : readyV T P q = false := by
  unfold ordNext at h
  rw [List.find?_eq_some_iff_append] at h
  obtain ⟨_, la, lb, he, hn⟩ := h
  have hm := (inM_iff hT).1 hq
  have hp : (la ++ k :: lb).Pairwise (· < ·) := he ▸ hT
  rw [he] at hm
  rcases List.mem_append.1 hm with hm | hm
  · simpa using hn q hm
  · rcases List.mem_cons.1 hm with e | hm
    · rw [e] at hl; exact absurd hl (List.lt_irrefl _)
    · rw [List.pairwise_append] at hp
      exact absurd (List.lt_trans hl ((List.pairwise_cons.1 hp.2.1).1 q hm)) (List.lt_irrefl _)

/-- No lesser patch could have been told ahead. -/
theorem least_plain {Z : List Pv} {T : List (Kv Pv)} {O : List B13} (hZ : setV Z = some T) (hO : ordV T = some O) {i : Nat} (hi : i < O.length) {d : Pv} (hd : d ∈ Z) (hl : unB d.x.name < O[i]) (h1 : hasB ((O.map mkB).take i) d.x.name = false) (h2 : d.x.deps.all (hasB ((O.map mkB).take i)) = true) : False := by
  obtain ⟨hT, hget⟩ := setV_get hZ
  have hg := hget d hd
  have hr := next_least hT (ordV_at hO i hi) (show InM T (unB d.x.name) by unfold InM; rw [hg]; rfl) hl
  have e : ((O.map mkB).take i).map unB = O.take i := by
    rw [← List.map_take, List.map_map]
    exact List.map_id _
  have hdn : downN T (unB d.x.name) = d.x.deps := by unfold downN; rw [hg]
  unfold hasB at h1
  rw [e] at h1
  have h1' : unB d.x.name ∉ O.take i := of_decide_eq_false h1
  have : readyV T (O.take i) (unB d.x.name) = true := by
    unfold readyV
    rw [hdn, Bool.and_eq_true]
    refine ⟨decide_eq_true h1', List.all_eq_true.2 (fun x hx => ?_)⟩
    obtain ⟨y, hy, rfl⟩ := List.mem_map.1 hx
    have h3 := hasB_iff.1 (List.all_eq_true.1 h2 y hy)
    rw [e] at h3
    exact decide_eq_true h3
  rw [hr] at this
  cases this

theorem strs_take14 {w : World} {p : Option Addr} {n c i : Nat} {l : List ByteArray} (h : StrsAt w (.slice p n c) l) (hn : l.length = n) (hi : i ≤ n) : StrsAt w (.slice p i c) (l.take i) := by
  obtain ⟨va, c', e, h1, h2, hr⟩ := h
  injection e with e1 _ e3
  subst e1 e3
  refine ⟨p, c, by rw [List.length_take, Nat.min_eq_left (by omega)], h1, by rw [List.length_take]; omega, fun j x hj => ?_⟩
  rw [List.getElem?_take] at hj
  split at hj
  · exact hr j x hj
  · cases hj

theorem strs_cap14 {w : World} {p : Option Addr} {n c : Nat} {l : List ByteArray} (h : StrsAt w (.slice p n c) l) : l.length ≤ c := by
  obtain ⟨va, c', e, h1, h2, hr⟩ := h
  injection e with e1 _ e3
  omega

/-- What Order hands back, in one. -/
theorem OrdPost.one {Z : List Pv} {w w' : World} {e : Ending} (h : OrdPost w (setV Z) e w') : ∃ p no c err O, e = .returned (.tuple #[.slice p no c, .int .i64 err]) ∧ (O : List B13).length = no ∧ StrsAt w' (.slice p no c) (O.map mkB) ∧ (0 < no → err = 0 ∧ ∃ T, setV Z = some T ∧ ordV T = some O) ∧ Fr None' w w' := by
  obtain ⟨h1, h2⟩ := h
  cases hs : setV Z with
  | none =>
    obtain ⟨rfl, f⟩ := h2 hs
    exact ⟨none, 0, 0, 1, [], rfl, rfl, strs_none w', fun h => absurd h (Nat.lt_irrefl _), f⟩
  | some T =>
    obtain ⟨a, b, f⟩ := h1 T hs
    cases ho : ordV T with
    | none =>
      obtain rfl := b ho
      exact ⟨none, 0, 0, 141, [], rfl, rfl, strs_none w', fun h => absurd h (Nat.lt_irrefl _), f⟩
    | some O =>
      rw [ho] at a b
      obtain ⟨p, c, rfl, hst, _⟩ := names_some (err := 141) rfl (show NamesPost w (some O) 141 e w' from ⟨a, b, f⟩)
      exact ⟨p, _, c, 0, O, rfl, rfl, hst, fun _ => ⟨rfl, T, rfl, ho⟩, f⟩

structure RLa (w : World) (g o n c k go oo no co i : Nat) (N X : ByteArray) (pu : Option Addr) (nd cu : Nat) (t0 t1 t2 t3 t4 t5 t6 t7 t8 t9 t10 t11 t12 t13 t14 t15 t16 t17 t18 t19 t20 t21 t22 t23 t24 t25 t26 t27 t28 t29 t30 t31 t32 : Value) (S : Nat → Bool) (w' : World) : Prop where
  fr : Fr None' w w'
  o0 : S 0 = true → t0 = .slice (some ⟨g, o, none⟩) n c
  o1 : S 1 = true → t1 = .int .i64 k
  o2 : S 2 = true → t2 = .pointer (some ⟨g, o + k * 3, none⟩)
  o3 : S 3 = true → t3 = .pointer (some ⟨g, o + k * 3, none⟩)
  o4 : S 4 = true → t4 = .string N
  o5 : S 5 = true → t5 = .slice (some ⟨go, oo, none⟩) no co
  o6 : S 6 = true → t6 = .int .i64 i
  o7 : S 7 = true → t7 = .pointer (some ⟨go, oo + i, none⟩)
  o8 : S 8 = true → t8 = .string X
  o9 : S 9 = true → t9 = .bool true
  o10 : S 10 = true → t10 = .bool true
  o11 : S 11 = true → t11 = .slice (some ⟨go, oo, none⟩) no co
  o12 : S 12 = true → t12 = .int .i64 i
  o13 : S 13 = true → t13 = .slice (some ⟨go, oo, none⟩) i co
  o14 : S 14 = true → t14 = .slice (some ⟨g, o, none⟩) n c
  o15 : S 15 = true → t15 = .int .i64 k
  o16 : S 16 = true → t16 = .pointer (some ⟨g, o + k * 3, none⟩)
  o17 : S 17 = true → t17 = .pointer (some ⟨g, o + k * 3, none⟩)
  o18 : S 18 = true → t18 = .string N
  o19 : S 19 = true → t19 = .bool true
  o20 : S 20 = true → t20 = .bool false
  o21 : S 21 = true → t21 = .bool false
  o22 : S 22 = true → t22 = .bool false
  o23 : S 23 = true → t23 = undef
  o24 : S 24 = true → t24 = undef
  o25 : S 25 = true → t25 = undef
  o26 : S 26 = true → t26 = undef
  o27 : S 27 = true → t27 = undef
  o28 : S 28 = true → t28 = undef
  o29 : S 29 = true → t29 = undef
  o30 : S 30 = true → t30 = undef
  o31 : S 31 = true → t31 = undef
  o32 : S 32 = true → t32 = .bool false

def RLaI (w : World) (g o n c k go oo no co i : Nat) (N X : ByteArray) (pu : Option Addr) (nd cu : Nat) (T : Value → Value → Value → Value → Value → Value → Value → Value → Value → Value → Value → Value → Value → Value → Value → Value → Value → Value → Value → Value → Value → Value → Value → Value → Value → Value → Value → Value → Value → Value → Value → Value → Value → Array Value) (S : Nat → Bool) (a : Act) (w' : World) : Prop := ∃ t0 t1 t2 t3 t4 t5 t6 t7 t8 t9 t10 t11 t12 t13 t14 t15 t16 t17 t18 t19 t20 t21 t22 t23 t24 t25 t26 t27 t28 t29 t30 t31 t32, a = { tmps := T t0 t1 t2 t3 t4 t5 t6 t7 t8 t9 t10 t11 t12 t13 t14 t15 t16 t17 t18 t19 t20 t21 t22 t23 t24 t25 t26 t27 t28 t29 t30 t31 t32, defers := [] } ∧ RLa w g o n c k go oo no co i N X pu nd cu t0 t1 t2 t3 t4 t5 t6 t7 t8 t9 t10 t11 t12 t13 t14 t15 t16 t17 t18 t19 t20 t21 t22 t23 t24 t25 t26 t27 t28 t29 t30 t31 t32 S w'

structure RLb (w : World) (g o n c k go oo no co i : Nat) (N X : ByteArray) (pu : Option Addr) (nd cu : Nat) (t0 t1 t2 t3 t4 t5 t6 t7 t8 t9 t10 t11 t12 t13 t14 t15 t16 t17 t18 t19 t20 t21 t22 t23 t24 t25 t26 t27 t28 t29 t30 t31 t32 : Value) (S : Nat → Bool) (w' : World) : Prop where
  fr : Fr None' w w'
  o0 : S 0 = true → t0 = .slice (some ⟨g, o, none⟩) n c
  o1 : S 1 = true → t1 = .int .i64 k
  o2 : S 2 = true → t2 = .pointer (some ⟨g, o + k * 3, none⟩)
  o3 : S 3 = true → t3 = .pointer (some ⟨g, o + k * 3, none⟩)
  o4 : S 4 = true → t4 = .string N
  o5 : S 5 = true → t5 = .slice (some ⟨go, oo, none⟩) no co
  o6 : S 6 = true → t6 = .int .i64 i
  o7 : S 7 = true → t7 = .pointer (some ⟨go, oo + i, none⟩)
  o8 : S 8 = true → t8 = .string X
  o9 : S 9 = true → t9 = .bool true
  o10 : S 10 = true → t10 = .bool true
  o11 : S 11 = true → t11 = .slice (some ⟨go, oo, none⟩) no co
  o12 : S 12 = true → t12 = .int .i64 i
  o13 : S 13 = true → t13 = .slice (some ⟨go, oo, none⟩) i co
  o14 : S 14 = true → t14 = .slice (some ⟨g, o, none⟩) n c
  o15 : S 15 = true → t15 = .int .i64 k
  o16 : S 16 = true → t16 = .pointer (some ⟨g, o + k * 3, none⟩)
  o17 : S 17 = true → t17 = .pointer (some ⟨g, o + k * 3, none⟩)
  o18 : S 18 = true → t18 = .string N
  o19 : S 19 = true → t19 = .bool false
  o20 : S 20 = true → t20 = .bool true
  o21 : S 21 = true → t21 = .bool true
  o22 : S 22 = true → t22 = .bool true
  o23 : S 23 = true → t23 = .slice (some ⟨go, oo, none⟩) no co
  o24 : S 24 = true → t24 = .int .i64 i
  o25 : S 25 = true → t25 = .slice (some ⟨go, oo, none⟩) i co
  o26 : S 26 = true → t26 = .slice (some ⟨g, o, none⟩) n c
  o27 : S 27 = true → t27 = .int .i64 k
  o28 : S 28 = true → t28 = .pointer (some ⟨g, o + k * 3, none⟩)
  o29 : S 29 = true → t29 = .pointer (some ⟨g, o + k * 3 + 1, none⟩)
  o30 : S 30 = true → t30 = .slice pu nd cu
  o31 : S 31 = true → t31 = .bool false
  o32 : S 32 = true → t32 = .bool false

def RLbI (w : World) (g o n c k go oo no co i : Nat) (N X : ByteArray) (pu : Option Addr) (nd cu : Nat) (T : Value → Value → Value → Value → Value → Value → Value → Value → Value → Value → Value → Value → Value → Value → Value → Value → Value → Value → Value → Value → Value → Value → Value → Value → Value → Value → Value → Value → Value → Value → Value → Value → Value → Array Value) (S : Nat → Bool) (a : Act) (w' : World) : Prop := ∃ t0 t1 t2 t3 t4 t5 t6 t7 t8 t9 t10 t11 t12 t13 t14 t15 t16 t17 t18 t19 t20 t21 t22 t23 t24 t25 t26 t27 t28 t29 t30 t31 t32, a = { tmps := T t0 t1 t2 t3 t4 t5 t6 t7 t8 t9 t10 t11 t12 t13 t14 t15 t16 t17 t18 t19 t20 t21 t22 t23 t24 t25 t26 t27 t28 t29 t30 t31 t32, defers := [] } ∧ RLb w g o n c k go oo no co i N X pu nd cu t0 t1 t2 t3 t4 t5 t6 t7 t8 t9 t10 t11 t12 t13 t14 t15 t16 t17 t18 t19 t20 t21 t22 t23 t24 t25 t26 t27 t28 t29 t30 t31 t32 S w'

set_option maxHeartbeats 16000000 in
theorem least_walk (va : Option Addr) (n c : Nat) (Z : List Pv) (w : World) (hn : Z.length = n) (hr : RowV w va Z) (hb : BigV Z) :
    Calls Tryz.prog 7 #[.slice va n c] w fun e w' => e = .returned (.bool true) ∧ Fr None' w w' := by
  have HL := toHid8 hn
  have HRow := toHid8 hr
  have HB := toHid8 hb
  have q1 := head14_any w
  clear hn hr hb
  go_enter Tryz.func7, Tryz.ntmps7
  go_wp2_with fail
  refine q1.mono ?_
  rintro e w1 ⟨rfl, f1⟩
  have HF1 := toHid8 f1
  have q2 := greatList14_any va n c Z w1 HL.out (HRow.out.kept f1) HB.out
  clear q1 f1
  go_wp2_with fail
  refine q2.mono ?_
  rintro e w2 ⟨g, rfl, hg, f2⟩
  have HF2 := toHid8 (HF1.out.then7 f2)
  have HG := toHid8 hg
  clear q2 f2 hg
  cases g with
  | true =>
    go_wp2_with fail
    go_ret
    exact ⟨rfl, HF2.out⟩
  | false =>
    have hn60 : n ≤ 60 := by have := (HG.out rfl).1; rw [HL.out] at this; exact this
    have i0 : (n : Int) ≤ 60 := by omega
    have q3 := order14_any va n c Z w2 HL.out (HRow.out.kept HF2.out) (by omega) (fun d hd => ((HG.out rfl).2 d hd).small14)
    clear hn60
    go_wp2_with fail
    refine q3.mono ?_
    intro e w3 hP
    obtain ⟨p, no, co, err, O, rfl, hno, hst, hok, f3⟩ := OrdPost.one hP
    have HNo := toHid8 hno
    have HSt := toHid8 hst
    have HOk := toHid8 hok
    have HF3 := toHid8 (HF2.out.then7 f3)
    clear q3 hP f3 hno hst hok
    go_wp2_with fail
    go_loopw [6] (fun vi wr => ∃ i : Nat, i ≤ no ∧ vi = .int .i64 i ∧ Hid (Fr None' w3 wr)) (fun vi _ => no - (intOf vi).toNat)
    case atStart => exact ⟨0, Nat.zero_le _, rfl, Fr.refl _ _⟩
    case round =>
      obtain ⟨i, hi, rfl, HF⟩ := hrel
      by_cases hlt : i < no
      case neg =>
        have HFe := toHid8 (HF3.out.then7 HF.out)
        have i1 : ¬ (i : Int) < (no : Int) := by omega
        clear hlt
        go_wp2_with fail
        go_ret
        exact ⟨rfl, HFe.out⟩
      case pos =>
        obtain ⟨he, T, hT, hO⟩ := HOk.out (by omega)
        subst he
        have HO := toHid8 (And.intro hT hO)
        have i2 : (no : Int) ≤ 256 := by
          have h1 := ordV_len hO
          have h2 := setV_len hT
          have h3 := HNo.out
          omega
        have i3 : (i : Int) < (no : Int) := by omega
        have i4 : (0 : Int) ≤ (i : Int) := by omega
        have hiO : i < O.length := by rw [HNo.out]; exact hlt
        have hiM : i < (O.map mkB).length := by rw [List.length_map]; exact hiO
        obtain ⟨go, oo, hpo, -⟩ := strs_two HSt.out (List.getElem?_eq_getElem hiM)
        subst hpo
        have hcap := strs_cap14 HSt.out
        have i5 : (i : Int) ≤ (co : Int) := by rw [List.length_map] at hcap; omega
        have HLt := toHid8 hlt
        clear hT hO hcap hlt
        go_wp2_with fail
        obtain ⟨wo, hwo⟩ : ∃ y, y = wr := ⟨_, rfl⟩
        have HF0 := toHid8 HF.out
        clear hwo
        go_loopw [7] (fun vk wx => ∃ k : Nat, k ≤ n ∧ vk = .int .i64 k ∧ Hid (Fr None' w3 wx)) (fun vk _ => n - (intOf vk).toNat)
        case atStart => exact ⟨0, Nat.zero_le _, rfl, HF0.out⟩
        case round =>
          obtain ⟨k, hk, rfl, HFk⟩ := hrel
          by_cases hkt : k < n
          case neg =>
            have i6 : ¬ (k : Int) < (n : Int) := by omega
            clear hkt
            go_wp2_with fail
            exact ⟨⟨i + 1, by have := HLt.out; omega, by go_num, HFk.out⟩, by simp [intOf]; have := HLt.out; omega⟩
          case pos =>
            have hka : k < Z.length := by rw [HL.out]; exact hkt
            obtain ⟨g, o, rfl, c0, c1, c2, hin⟩ := HRow.out.kept (HF3.out.then7 HFk.out) k _ (List.getElem?_eq_getElem hka)
            have hmem : Z[k] ∈ Z := List.getElem_mem hka
            obtain ⟨d, hd⟩ : ∃ d, Z[k] = d := ⟨_, rfl⟩
            rw [hd] at c0 c1 c2 hin hmem
            have HMem := toHid8 hmem
            have hfd := ((HG.out (by trivial)).2 d hmem).deps.1
            obtain ⟨go', oo', hpo, hco⟩ := strs_two (HSt.out.kept HFk.out) (List.getElem?_eq_getElem hiM)
            cases hpo
            rw [List.getElem_map] at hco
            obtain ⟨x, hx⟩ : ∃ x, mkB O[i] = x := ⟨_, rfl⟩
            rw [hx] at hco
            have HX := toHid8 (show unB x = O[i] from by rw [← hx]; exact un_mk _)
            have i7 : (k : Int) < (n : Int) := by omega
            have i8 : (0 : Int) ≤ (k : Int) := by omega
            have HKt := toHid8 hkt
            have HTk := toHid8 (strs_take14 (HSt.out.kept HFk.out) (by rw [List.length_map]; exact HNo.out) (show i ≤ no by omega))
            have HlT := toHid8 (show ((O.map mkB).take i).length = i by rw [List.length_take, List.length_map]; omega)
            have HHas := toHid8 (fun wx (f : Fr None' wr wx) => has14_any _ i co _ d.x.name wx HlT.out (HTk.out.kept f) (by omega))
            have HAll := toHid8 (fun wx (f : Fr None' wr wx) => hasAll14_any _ i co _ d.pu d.x.deps.length d.cu d.x.deps wx HlT.out (HTk.out.kept f) (by omega) rfl (hin.deps.kept f) (by omega))
            have b1 := less_13 d.x.name x
            by_cases hless : unB d.x.name < unB x
            case neg =>
              rw [decide_eq_false hless] at b1
              clear hkt hin hmem hd hx hless hfd
              go_wp2_with fail
              go_region
              go_wp2_with fail
              exact ⟨⟨k + 1, by have := HKt.out; omega, by go_num, HFk.out.then7 (Fr.drew None' wr)⟩, by simp [intOf]; have := HKt.out; omega⟩
            case pos =>
              have HLess := toHid8 hless
              rw [decide_eq_true hless] at b1
              obtain ⟨yh, hyh⟩ : ∃ y, hasB ((O.map mkB).take i) d.x.name = y := ⟨_, rfl⟩
              obtain ⟨ya, hya⟩ : ∃ y, d.x.deps.all (hasB ((O.map mkB).take i)) = y := ⟨_, rfl⟩
              have HYH := toHid8 hyh
              have HYA := toHid8 hya
              rw [hyh] at HHas
              rw [hya] at HAll
              clear hkt hin hmem hd hx hless hfd hyh hya
              cases yh with
              | true =>
                go_wp2_with fail
                refine (wpIn_wide (n := 1)).1 (region_inv_g (by kernel_rfl) rfl (by decide +kernel) (RLaI wr g o n c k go oo no co i d.x.name x d.pu d.x.deps.length d.cu (fun t0 t1 t2 t3 t4 t5 t6 t7 t8 t9 t10 t11 t12 t13 t14 t15 t16 t17 t18 t19 t20 t21 t22 t23 t24 t25 t26 t27 t28 t29 t30 t31 t32 => #[.slice (some ⟨g, o, none⟩) n c, undef, u2, .bool true, .slice (some ⟨go, oo, none⟩) no co, .int .i64 0, .int .i64 i, .int .i64 k, .bool true, .slice (some ⟨g, o, none⟩) n c, .bool false, undef, .tuple #[.slice (some ⟨go, oo, none⟩) no co, .int .i64 0], .slice (some ⟨g, o, none⟩) n c, .tuple #[.slice (some ⟨go, oo, none⟩) no co, .int .i64 0], .slice (some ⟨go, oo, none⟩) no co, .int .i64 0, .int .i64 i, .slice (some ⟨go, oo, none⟩) no co, .int .i64 no, .bool true, .bool true, .int .i64 0, .bool true, .bool true, u25, u26, .int .i64 k, .slice (some ⟨g, o, none⟩) n c, .int .i64 n, .bool true, u31, u32, t0, t1, t2, t3, t4, t5, t6, t7, t8, t9, t10, t11, t12, t13, t14, t15, t16, t17, t18, t19, t20, t21, t22, t23, t24, t25, t26, t27, t28, t29, t30, t31, t32, undef])) ?h0a ?stepa ?donea)
                case h0a => exact ⟨u33, u34, u35, u36, u37, u38, u39, u40, u41, u42, u43, u44, u45, u46, u47, u48, u49, u50, u51, u52, u53, u54, u55, u56, u57, u58, u59, u60, u61, u62, u63, u64, u65, rfl, Fr.drew None' wr, (fun h => by cases h), (fun h => by cases h), (fun h => by cases h), (fun h => by cases h), (fun h => by cases h), (fun h => by cases h), (fun h => by cases h), (fun h => by cases h), (fun h => by cases h), (fun h => by cases h), (fun h => by cases h), (fun h => by cases h), (fun h => by cases h), (fun h => by cases h), (fun h => by cases h), (fun h => by cases h), (fun h => by cases h), (fun h => by cases h), (fun h => by cases h), (fun h => by cases h), (fun h => by cases h), (fun h => by cases h), (fun h => by cases h), (fun h => by cases h), (fun h => by cases h), (fun h => by cases h), (fun h => by cases h), (fun h => by cases h), (fun h => by cases h), (fun h => by cases h), (fun h => by cases h), (fun h => by cases h), (fun h => by cases h)⟩
                case stepa =>
                  rintro S a w' ⟨t0, t1, t2, t3, t4, t5, t6, t7, t8, t9, t10, t11, t12, t13, t14, t15, t16, t17, t18, t19, t20, t21, t22, t23, t24, t25, t26, t27, t28, t29, t30, t31, t32, rfl, R⟩
                  dsimp only
                  refine StepsG.cons (fun h0 hd => ?sa0) (StepsG.cons (fun h0 hd => ?sa1) (StepsG.cons (fun h0 hd => ?sa2) (StepsG.cons (fun h0 hd => ?sa3) (StepsG.cons (fun h0 hd => ?sa4) (StepsG.cons (fun h0 hd => ?sa5) (StepsG.cons (fun h0 hd => ?sa6) (StepsG.cons (fun h0 hd => ?sa7) (StepsG.cons (fun h0 hd => ?sa8) (StepsG.cons (fun h0 hd => ?sa9) (StepsG.cons (fun h0 hd => ?sa10) (StepsG.cons (fun h0 hd => ?sa11) (StepsG.cons (fun h0 hd => ?sa12) (StepsG.cons (fun h0 hd => ?sa13) (StepsG.cons (fun h0 hd => ?sa14) (StepsG.cons (fun h0 hd => ?sa15) (StepsG.cons (fun h0 hd => ?sa16) (StepsG.cons (fun h0 hd => ?sa17) (StepsG.cons (fun h0 hd => ?sa18) (StepsG.cons (fun h0 hd => ?sa19) (StepsG.cons (fun h0 hd => ?sa20) (StepsG.cons (fun h0 hd => ?sa21) (StepsG.cons (fun h0 hd => ?sa22) (StepsG.cons (fun h0 hd => ?sa23) (StepsG.cons (fun h0 hd => ?sa24) (StepsG.cons (fun h0 hd => ?sa25) (StepsG.cons (fun h0 hd => ?sa26) (StepsG.cons (fun h0 hd => ?sa27) (StepsG.cons (fun h0 hd => ?sa28) (StepsG.cons (fun h0 hd => ?sa29) (StepsG.cons (fun h0 hd => ?sa30) (StepsG.cons (fun h0 hd => ?sa31) (StepsG.cons (fun h0 hd => ?sa32) (StepsG.nil)))))))))))))))))))))))))))))))))
                  case sa0 =>
                   as_aux_lemma =>
                    clear hd h0
                    refine StepG.want rfl ?_
                    go_simp
                    exact ⟨_, _, _, _, _, _, _, _, _, _, _, _, _, _, _, _, _, _, _, _, _, _, _, _, _, _, _, _, _, _, _, _, _, rfl, R.fr, (fun _ => rfl), R.o1, R.o2, R.o3, R.o4, R.o5, R.o6, R.o7, R.o8, R.o9, R.o10, R.o11, R.o12, R.o13, R.o14, R.o15, R.o16, R.o17, R.o18, R.o19, R.o20, R.o21, R.o22, R.o23, R.o24, R.o25, R.o26, R.o27, R.o28, R.o29, R.o30, R.o31, R.o32⟩
                  case sa1 =>
                   as_aux_lemma =>
                    clear hd h0
                    refine StepG.want rfl ?_
                    go_simp
                    exact ⟨_, _, _, _, _, _, _, _, _, _, _, _, _, _, _, _, _, _, _, _, _, _, _, _, _, _, _, _, _, _, _, _, _, rfl, R.fr, R.o0, (fun _ => rfl), R.o2, R.o3, R.o4, R.o5, R.o6, R.o7, R.o8, R.o9, R.o10, R.o11, R.o12, R.o13, R.o14, R.o15, R.o16, R.o17, R.o18, R.o19, R.o20, R.o21, R.o22, R.o23, R.o24, R.o25, R.o26, R.o27, R.o28, R.o29, R.o30, R.o31, R.o32⟩
                  case sa2 =>
                   as_aux_lemma =>
                    have k0 : S 0 = true := hd { on := 0, ground := .data } (by simp) rfl
                    have e0 := R.o0 k0
                    subst e0
                    have k1 : S 1 = true := hd { on := 1, ground := .data } (by simp) rfl
                    have e1 := R.o1 k1
                    subst e1
                    clear hd h0 k0 k1
                    refine StepG.want rfl ?_
                    go_simp
                    exact ⟨_, _, _, _, _, _, _, _, _, _, _, _, _, _, _, _, _, _, _, _, _, _, _, _, _, _, _, _, _, _, _, _, _, rfl, R.fr, (fun _ => rfl), (fun _ => rfl), (fun _ => rfl), R.o3, R.o4, R.o5, R.o6, R.o7, R.o8, R.o9, R.o10, R.o11, R.o12, R.o13, R.o14, R.o15, R.o16, R.o17, R.o18, R.o19, R.o20, R.o21, R.o22, R.o23, R.o24, R.o25, R.o26, R.o27, R.o28, R.o29, R.o30, R.o31, R.o32⟩
                  case sa3 =>
                   as_aux_lemma =>
                    have k2 : S 2 = true := hd { on := 2, ground := .data } (by simp) rfl
                    have e2 := R.o2 k2
                    subst e2
                    clear hd h0 k2
                    refine StepG.want rfl ?_
                    go_simp
                    exact ⟨_, _, _, _, _, _, _, _, _, _, _, _, _, _, _, _, _, _, _, _, _, _, _, _, _, _, _, _, _, _, _, _, _, rfl, R.fr, R.o0, R.o1, (fun _ => rfl), (fun _ => rfl), R.o4, R.o5, R.o6, R.o7, R.o8, R.o9, R.o10, R.o11, R.o12, R.o13, R.o14, R.o15, R.o16, R.o17, R.o18, R.o19, R.o20, R.o21, R.o22, R.o23, R.o24, R.o25, R.o26, R.o27, R.o28, R.o29, R.o30, R.o31, R.o32⟩
                  case sa4 =>
                   as_aux_lemma =>
                    have k3 : S 3 = true := hd { on := 3, ground := .data } (by simp) rfl
                    have e3 := R.o3 k3
                    subst e3
                    have q0 := R.fr.keepCell c0 (fun e => e)
                    clear hd h0 k3
                    refine StepG.want rfl ?_
                    go_simp
                    exact ⟨_, _, _, _, _, _, _, _, _, _, _, _, _, _, _, _, _, _, _, _, _, _, _, _, _, _, _, _, _, _, _, _, _, rfl, R.fr, R.o0, R.o1, R.o2, (fun _ => rfl), (fun _ => rfl), R.o5, R.o6, R.o7, R.o8, R.o9, R.o10, R.o11, R.o12, R.o13, R.o14, R.o15, R.o16, R.o17, R.o18, R.o19, R.o20, R.o21, R.o22, R.o23, R.o24, R.o25, R.o26, R.o27, R.o28, R.o29, R.o30, R.o31, R.o32⟩
                  case sa5 =>
                   as_aux_lemma =>
                    clear hd h0
                    refine StepG.want rfl ?_
                    go_simp
                    exact ⟨_, _, _, _, _, _, _, _, _, _, _, _, _, _, _, _, _, _, _, _, _, _, _, _, _, _, _, _, _, _, _, _, _, rfl, R.fr, R.o0, R.o1, R.o2, R.o3, R.o4, (fun _ => rfl), R.o6, R.o7, R.o8, R.o9, R.o10, R.o11, R.o12, R.o13, R.o14, R.o15, R.o16, R.o17, R.o18, R.o19, R.o20, R.o21, R.o22, R.o23, R.o24, R.o25, R.o26, R.o27, R.o28, R.o29, R.o30, R.o31, R.o32⟩
                  case sa6 =>
                   as_aux_lemma =>
                    clear hd h0
                    refine StepG.want rfl ?_
                    go_simp
                    exact ⟨_, _, _, _, _, _, _, _, _, _, _, _, _, _, _, _, _, _, _, _, _, _, _, _, _, _, _, _, _, _, _, _, _, rfl, R.fr, R.o0, R.o1, R.o2, R.o3, R.o4, R.o5, (fun _ => rfl), R.o7, R.o8, R.o9, R.o10, R.o11, R.o12, R.o13, R.o14, R.o15, R.o16, R.o17, R.o18, R.o19, R.o20, R.o21, R.o22, R.o23, R.o24, R.o25, R.o26, R.o27, R.o28, R.o29, R.o30, R.o31, R.o32⟩
                  case sa7 =>
                   as_aux_lemma =>
                    have k5 : S 5 = true := hd { on := 5, ground := .data } (by simp) rfl
                    have e5 := R.o5 k5
                    subst e5
                    have k6 : S 6 = true := hd { on := 6, ground := .data } (by simp) rfl
                    have e6 := R.o6 k6
                    subst e6
                    clear hd h0 k5 k6
                    refine StepG.want rfl ?_
                    go_simp
                    exact ⟨_, _, _, _, _, _, _, _, _, _, _, _, _, _, _, _, _, _, _, _, _, _, _, _, _, _, _, _, _, _, _, _, _, rfl, R.fr, R.o0, R.o1, R.o2, R.o3, R.o4, (fun _ => rfl), (fun _ => rfl), (fun _ => rfl), R.o8, R.o9, R.o10, R.o11, R.o12, R.o13, R.o14, R.o15, R.o16, R.o17, R.o18, R.o19, R.o20, R.o21, R.o22, R.o23, R.o24, R.o25, R.o26, R.o27, R.o28, R.o29, R.o30, R.o31, R.o32⟩
                  case sa8 =>
                   as_aux_lemma =>
                    have k7 : S 7 = true := hd { on := 7, ground := .data } (by simp) rfl
                    have e7 := R.o7 k7
                    subst e7
                    have q0 := R.fr.keepCell hco (fun e => e)
                    clear hd h0 k7
                    refine StepG.want rfl ?_
                    go_simp
                    exact ⟨_, _, _, _, _, _, _, _, _, _, _, _, _, _, _, _, _, _, _, _, _, _, _, _, _, _, _, _, _, _, _, _, _, rfl, R.fr, R.o0, R.o1, R.o2, R.o3, R.o4, R.o5, R.o6, (fun _ => rfl), (fun _ => rfl), R.o9, R.o10, R.o11, R.o12, R.o13, R.o14, R.o15, R.o16, R.o17, R.o18, R.o19, R.o20, R.o21, R.o22, R.o23, R.o24, R.o25, R.o26, R.o27, R.o28, R.o29, R.o30, R.o31, R.o32⟩
                  case sa9 =>
                   as_aux_lemma =>
                    have k4 : S 4 = true := hd { on := 4, ground := .data } (by simp) rfl
                    have e4 := R.o4 k4
                    subst e4
                    have k8 : S 8 = true := hd { on := 8, ground := .data } (by simp) rfl
                    have e8 := R.o8 k8
                    subst e8
                    clear hd h0 k4 k8
                    refine StepG.want rfl ?_
                    go_simp
                    exact ⟨_, _, _, _, _, _, _, _, _, _, _, _, _, _, _, _, _, _, _, _, _, _, _, _, _, _, _, _, _, _, _, _, _, rfl, R.fr, R.o0, R.o1, R.o2, R.o3, (fun _ => rfl), R.o5, R.o6, R.o7, (fun _ => rfl), (fun _ => rfl), R.o10, R.o11, R.o12, R.o13, R.o14, R.o15, R.o16, R.o17, R.o18, R.o19, R.o20, R.o21, R.o22, R.o23, R.o24, R.o25, R.o26, R.o27, R.o28, R.o29, R.o30, R.o31, R.o32⟩
                  case sa10 =>
                   as_aux_lemma =>
                    have k9 : S 9 = true := hd { on := 9, ground := .data } (by simp) rfl
                    have e9 := R.o9 k9
                    subst e9
                    clear hd h0 k9
                    refine StepG.want rfl ?_
                    go_simp
                    exact ⟨_, _, _, _, _, _, _, _, _, _, _, _, _, _, _, _, _, _, _, _, _, _, _, _, _, _, _, _, _, _, _, _, _, rfl, R.fr, R.o0, R.o1, R.o2, R.o3, R.o4, R.o5, R.o6, R.o7, R.o8, (fun _ => rfl), (fun _ => rfl), R.o11, R.o12, R.o13, R.o14, R.o15, R.o16, R.o17, R.o18, R.o19, R.o20, R.o21, R.o22, R.o23, R.o24, R.o25, R.o26, R.o27, R.o28, R.o29, R.o30, R.o31, R.o32⟩
                  case sa11 =>
                   as_aux_lemma =>
                    have k10 : S 10 = true := hd { on := 10, ground := .guard } (by simp) rfl
                    have e10 := R.o10 k10
                    subst e10
                    clear hd h0 k10
                    refine StepG.want rfl ?_
                    go_simp
                    exact ⟨_, _, _, _, _, _, _, _, _, _, _, _, _, _, _, _, _, _, _, _, _, _, _, _, _, _, _, _, _, _, _, _, _, rfl, R.fr, R.o0, R.o1, R.o2, R.o3, R.o4, R.o5, R.o6, R.o7, R.o8, R.o9, (fun _ => rfl), (fun _ => rfl), R.o12, R.o13, R.o14, R.o15, R.o16, R.o17, R.o18, R.o19, R.o20, R.o21, R.o22, R.o23, R.o24, R.o25, R.o26, R.o27, R.o28, R.o29, R.o30, R.o31, R.o32⟩
                  case sa12 =>
                   as_aux_lemma =>
                    have k10 : S 10 = true := hd { on := 10, ground := .guard } (by simp) rfl
                    have e10 := R.o10 k10
                    subst e10
                    clear hd h0 k10
                    refine StepG.want rfl ?_
                    go_simp
                    exact ⟨_, _, _, _, _, _, _, _, _, _, _, _, _, _, _, _, _, _, _, _, _, _, _, _, _, _, _, _, _, _, _, _, _, rfl, R.fr, R.o0, R.o1, R.o2, R.o3, R.o4, R.o5, R.o6, R.o7, R.o8, R.o9, (fun _ => rfl), R.o11, (fun _ => rfl), R.o13, R.o14, R.o15, R.o16, R.o17, R.o18, R.o19, R.o20, R.o21, R.o22, R.o23, R.o24, R.o25, R.o26, R.o27, R.o28, R.o29, R.o30, R.o31, R.o32⟩
                  case sa13 =>
                   as_aux_lemma =>
                    have k10 : S 10 = true := hd { on := 10, ground := .guard } (by simp) rfl
                    have e10 := R.o10 k10
                    subst e10
                    have k11 : S 11 = true := hd { on := 11, ground := .data } (by simp) rfl
                    have e11 := R.o11 k11
                    subst e11
                    have k12 : S 12 = true := hd { on := 12, ground := .data } (by simp) rfl
                    have e12 := R.o12 k12
                    subst e12
                    clear hd h0 k10 k11 k12
                    refine StepG.want rfl ?_
                    go_simp
                    exact ⟨_, _, _, _, _, _, _, _, _, _, _, _, _, _, _, _, _, _, _, _, _, _, _, _, _, _, _, _, _, _, _, _, _, rfl, R.fr, R.o0, R.o1, R.o2, R.o3, R.o4, R.o5, R.o6, R.o7, R.o8, R.o9, (fun _ => rfl), (fun _ => rfl), (fun _ => rfl), (fun _ => rfl), R.o14, R.o15, R.o16, R.o17, R.o18, R.o19, R.o20, R.o21, R.o22, R.o23, R.o24, R.o25, R.o26, R.o27, R.o28, R.o29, R.o30, R.o31, R.o32⟩
                  case sa14 =>
                   as_aux_lemma =>
                    have k10 : S 10 = true := hd { on := 10, ground := .guard } (by simp) rfl
                    have e10 := R.o10 k10
                    subst e10
                    clear hd h0 k10
                    refine StepG.want rfl ?_
                    go_simp
                    exact ⟨_, _, _, _, _, _, _, _, _, _, _, _, _, _, _, _, _, _, _, _, _, _, _, _, _, _, _, _, _, _, _, _, _, rfl, R.fr, R.o0, R.o1, R.o2, R.o3, R.o4, R.o5, R.o6, R.o7, R.o8, R.o9, (fun _ => rfl), R.o11, R.o12, R.o13, (fun _ => rfl), R.o15, R.o16, R.o17, R.o18, R.o19, R.o20, R.o21, R.o22, R.o23, R.o24, R.o25, R.o26, R.o27, R.o28, R.o29, R.o30, R.o31, R.o32⟩
                  case sa15 =>
                   as_aux_lemma =>
                    have k10 : S 10 = true := hd { on := 10, ground := .guard } (by simp) rfl
                    have e10 := R.o10 k10
                    subst e10
                    clear hd h0 k10
                    refine StepG.want rfl ?_
                    go_simp
                    exact ⟨_, _, _, _, _, _, _, _, _, _, _, _, _, _, _, _, _, _, _, _, _, _, _, _, _, _, _, _, _, _, _, _, _, rfl, R.fr, R.o0, R.o1, R.o2, R.o3, R.o4, R.o5, R.o6, R.o7, R.o8, R.o9, (fun _ => rfl), R.o11, R.o12, R.o13, R.o14, (fun _ => rfl), R.o16, R.o17, R.o18, R.o19, R.o20, R.o21, R.o22, R.o23, R.o24, R.o25, R.o26, R.o27, R.o28, R.o29, R.o30, R.o31, R.o32⟩
                  case sa16 =>
                   as_aux_lemma =>
                    have k10 : S 10 = true := hd { on := 10, ground := .guard } (by simp) rfl
                    have e10 := R.o10 k10
                    subst e10
                    have k14 : S 14 = true := hd { on := 14, ground := .data } (by simp) rfl
                    have e14 := R.o14 k14
                    subst e14
                    have k15 : S 15 = true := hd { on := 15, ground := .data } (by simp) rfl
                    have e15 := R.o15 k15
                    subst e15
                    clear hd h0 k10 k14 k15
                    refine StepG.want rfl ?_
                    go_simp
                    exact ⟨_, _, _, _, _, _, _, _, _, _, _, _, _, _, _, _, _, _, _, _, _, _, _, _, _, _, _, _, _, _, _, _, _, rfl, R.fr, R.o0, R.o1, R.o2, R.o3, R.o4, R.o5, R.o6, R.o7, R.o8, R.o9, (fun _ => rfl), R.o11, R.o12, R.o13, (fun _ => rfl), (fun _ => rfl), (fun _ => rfl), R.o17, R.o18, R.o19, R.o20, R.o21, R.o22, R.o23, R.o24, R.o25, R.o26, R.o27, R.o28, R.o29, R.o30, R.o31, R.o32⟩
                  case sa17 =>
                   as_aux_lemma =>
                    have k10 : S 10 = true := hd { on := 10, ground := .guard } (by simp) rfl
                    have e10 := R.o10 k10
                    subst e10
                    have k16 : S 16 = true := hd { on := 16, ground := .data } (by simp) rfl
                    have e16 := R.o16 k16
                    subst e16
                    clear hd h0 k10 k16
                    refine StepG.want rfl ?_
                    go_simp
                    exact ⟨_, _, _, _, _, _, _, _, _, _, _, _, _, _, _, _, _, _, _, _, _, _, _, _, _, _, _, _, _, _, _, _, _, rfl, R.fr, R.o0, R.o1, R.o2, R.o3, R.o4, R.o5, R.o6, R.o7, R.o8, R.o9, (fun _ => rfl), R.o11, R.o12, R.o13, R.o14, R.o15, (fun _ => rfl), (fun _ => rfl), R.o18, R.o19, R.o20, R.o21, R.o22, R.o23, R.o24, R.o25, R.o26, R.o27, R.o28, R.o29, R.o30, R.o31, R.o32⟩
                  case sa18 =>
                   as_aux_lemma =>
                    have k10 : S 10 = true := hd { on := 10, ground := .guard } (by simp) rfl
                    have e10 := R.o10 k10
                    subst e10
                    have k17 : S 17 = true := hd { on := 17, ground := .data } (by simp) rfl
                    have e17 := R.o17 k17
                    subst e17
                    have q0 := R.fr.keepCell c0 (fun e => e)
                    clear hd h0 k10 k17
                    refine StepG.want rfl ?_
                    go_simp
                    exact ⟨_, _, _, _, _, _, _, _, _, _, _, _, _, _, _, _, _, _, _, _, _, _, _, _, _, _, _, _, _, _, _, _, _, rfl, R.fr, R.o0, R.o1, R.o2, R.o3, R.o4, R.o5, R.o6, R.o7, R.o8, R.o9, (fun _ => rfl), R.o11, R.o12, R.o13, R.o14, R.o15, R.o16, (fun _ => rfl), (fun _ => rfl), R.o19, R.o20, R.o21, R.o22, R.o23, R.o24, R.o25, R.o26, R.o27, R.o28, R.o29, R.o30, R.o31, R.o32⟩
                  case sa19 =>
                   as_aux_lemma =>
                    have k10 : S 10 = true := hd { on := 10, ground := .guard } (by simp) rfl
                    have e10 := R.o10 k10
                    subst e10
                    have k13 : S 13 = true := hd { on := 13, ground := .data } (by simp) rfl
                    have e13 := R.o13 k13
                    subst e13
                    have k18 : S 18 = true := hd { on := 18, ground := .data } (by simp) rfl
                    have e18 := R.o18 k18
                    subst e18
                    clear hd h0 k10 k13 k18
                    refine StepG.want rfl ?_
                    go_simp
                    refine ⟨trivial, (callsIn_wide.2 (HHas.out w' R.fr)).mono ?_⟩
                    rintro e w'' ⟨rfl, f⟩
                    exact ⟨_, _, _, _, _, _, _, _, _, _, _, _, _, _, _, _, _, _, _, _, _, _, _, _, _, _, _, _, _, _, _, _, _, rfl, R.fr.then7 f, R.o0, R.o1, R.o2, R.o3, R.o4, R.o5, R.o6, R.o7, R.o8, R.o9, (fun _ => rfl), R.o11, R.o12, (fun _ => rfl), R.o14, R.o15, R.o16, R.o17, (fun _ => rfl), (fun _ => rfl), R.o20, R.o21, R.o22, R.o23, R.o24, R.o25, R.o26, R.o27, R.o28, R.o29, R.o30, R.o31, R.o32⟩
                  case sa20 =>
                   as_aux_lemma =>
                    have k10 : S 10 = true := hd { on := 10, ground := .guard } (by simp) rfl
                    have e10 := R.o10 k10
                    subst e10
                    have k19 : S 19 = true := hd { on := 19, ground := .data } (by simp) rfl
                    have e19 := R.o19 k19
                    subst e19
                    clear hd h0 k10 k19
                    refine StepG.want rfl ?_
                    go_simp
                    exact ⟨_, _, _, _, _, _, _, _, _, _, _, _, _, _, _, _, _, _, _, _, _, _, _, _, _, _, _, _, _, _, _, _, _, rfl, R.fr, R.o0, R.o1, R.o2, R.o3, R.o4, R.o5, R.o6, R.o7, R.o8, R.o9, (fun _ => rfl), R.o11, R.o12, R.o13, R.o14, R.o15, R.o16, R.o17, R.o18, (fun _ => rfl), (fun _ => rfl), R.o21, R.o22, R.o23, R.o24, R.o25, R.o26, R.o27, R.o28, R.o29, R.o30, R.o31, R.o32⟩
                  case sa21 =>
                   as_aux_lemma =>
                    have k10 : S 10 = true := hd { on := 10, ground := .data } (by simp) rfl
                    have e10 := R.o10 k10
                    subst e10
                    have k20 : S 20 = true := hd { on := 20, ground := .data } (by simp) rfl
                    have e20 := R.o20 k20
                    subst e20
                    clear hd h0 k10 k20
                    refine StepG.want rfl ?_
                    go_simp
                    exact ⟨_, _, _, _, _, _, _, _, _, _, _, _, _, _, _, _, _, _, _, _, _, _, _, _, _, _, _, _, _, _, _, _, _, rfl, R.fr, R.o0, R.o1, R.o2, R.o3, R.o4, R.o5, R.o6, R.o7, R.o8, R.o9, (fun _ => rfl), R.o11, R.o12, R.o13, R.o14, R.o15, R.o16, R.o17, R.o18, R.o19, (fun _ => rfl), (fun _ => rfl), R.o22, R.o23, R.o24, R.o25, R.o26, R.o27, R.o28, R.o29, R.o30, R.o31, R.o32⟩
                  case sa22 =>
                   as_aux_lemma =>
                    have k21 : S 21 = true := hd { on := 21, ground := .data } (by simp) rfl
                    have e21 := R.o21 k21
                    subst e21
                    clear hd h0 k21
                    refine StepG.want rfl ?_
                    go_simp
                    exact ⟨_, _, _, _, _, _, _, _, _, _, _, _, _, _, _, _, _, _, _, _, _, _, _, _, _, _, _, _, _, _, _, _, _, rfl, R.fr, R.o0, R.o1, R.o2, R.o3, R.o4, R.o5, R.o6, R.o7, R.o8, R.o9, R.o10, R.o11, R.o12, R.o13, R.o14, R.o15, R.o16, R.o17, R.o18, R.o19, R.o20, (fun _ => rfl), (fun _ => rfl), R.o23, R.o24, R.o25, R.o26, R.o27, R.o28, R.o29, R.o30, R.o31, R.o32⟩
                  case sa23 =>
                   as_aux_lemma =>
                    have k22 : S 22 = true := hd { on := 22, ground := .guard } (by simp) rfl
                    have e22 := R.o22 k22
                    subst e22
                    clear hd h0 k22
                    refine StepG.none rfl ?_
                    exact ⟨_, _, _, _, _, _, _, _, _, _, _, _, _, _, _, _, _, _, _, _, _, _, _, _, _, _, _, _, _, _, _, _, _, rfl, R.fr, R.o0, R.o1, R.o2, R.o3, R.o4, R.o5, R.o6, R.o7, R.o8, R.o9, R.o10, R.o11, R.o12, R.o13, R.o14, R.o15, R.o16, R.o17, R.o18, R.o19, R.o20, R.o21, (fun _ => rfl), (fun _ => rfl), R.o24, R.o25, R.o26, R.o27, R.o28, R.o29, R.o30, R.o31, R.o32⟩
                  case sa24 =>
                   as_aux_lemma =>
                    have k22 : S 22 = true := hd { on := 22, ground := .guard } (by simp) rfl
                    have e22 := R.o22 k22
                    subst e22
                    clear hd h0 k22
                    refine StepG.none rfl ?_
                    exact ⟨_, _, _, _, _, _, _, _, _, _, _, _, _, _, _, _, _, _, _, _, _, _, _, _, _, _, _, _, _, _, _, _, _, rfl, R.fr, R.o0, R.o1, R.o2, R.o3, R.o4, R.o5, R.o6, R.o7, R.o8, R.o9, R.o10, R.o11, R.o12, R.o13, R.o14, R.o15, R.o16, R.o17, R.o18, R.o19, R.o20, R.o21, (fun _ => rfl), R.o23, (fun _ => rfl), R.o25, R.o26, R.o27, R.o28, R.o29, R.o30, R.o31, R.o32⟩
                  case sa25 =>
                   as_aux_lemma =>
                    have k22 : S 22 = true := hd { on := 22, ground := .guard } (by simp) rfl
                    have e22 := R.o22 k22
                    subst e22
                    clear hd h0 k22
                    refine StepG.none rfl ?_
                    exact ⟨_, _, _, _, _, _, _, _, _, _, _, _, _, _, _, _, _, _, _, _, _, _, _, _, _, _, _, _, _, _, _, _, _, rfl, R.fr, R.o0, R.o1, R.o2, R.o3, R.o4, R.o5, R.o6, R.o7, R.o8, R.o9, R.o10, R.o11, R.o12, R.o13, R.o14, R.o15, R.o16, R.o17, R.o18, R.o19, R.o20, R.o21, (fun _ => rfl), R.o23, R.o24, (fun _ => rfl), R.o26, R.o27, R.o28, R.o29, R.o30, R.o31, R.o32⟩
                  case sa26 =>
                   as_aux_lemma =>
                    have k22 : S 22 = true := hd { on := 22, ground := .guard } (by simp) rfl
                    have e22 := R.o22 k22
                    subst e22
                    clear hd h0 k22
                    refine StepG.none rfl ?_
                    exact ⟨_, _, _, _, _, _, _, _, _, _, _, _, _, _, _, _, _, _, _, _, _, _, _, _, _, _, _, _, _, _, _, _, _, rfl, R.fr, R.o0, R.o1, R.o2, R.o3, R.o4, R.o5, R.o6, R.o7, R.o8, R.o9, R.o10, R.o11, R.o12, R.o13, R.o14, R.o15, R.o16, R.o17, R.o18, R.o19, R.o20, R.o21, (fun _ => rfl), R.o23, R.o24, R.o25, (fun _ => rfl), R.o27, R.o28, R.o29, R.o30, R.o31, R.o32⟩
                  case sa27 =>
                   as_aux_lemma =>
                    have k22 : S 22 = true := hd { on := 22, ground := .guard } (by simp) rfl
                    have e22 := R.o22 k22
                    subst e22
                    clear hd h0 k22
                    refine StepG.none rfl ?_
                    exact ⟨_, _, _, _, _, _, _, _, _, _, _, _, _, _, _, _, _, _, _, _, _, _, _, _, _, _, _, _, _, _, _, _, _, rfl, R.fr, R.o0, R.o1, R.o2, R.o3, R.o4, R.o5, R.o6, R.o7, R.o8, R.o9, R.o10, R.o11, R.o12, R.o13, R.o14, R.o15, R.o16, R.o17, R.o18, R.o19, R.o20, R.o21, (fun _ => rfl), R.o23, R.o24, R.o25, R.o26, (fun _ => rfl), R.o28, R.o29, R.o30, R.o31, R.o32⟩
                  case sa28 =>
                   as_aux_lemma =>
                    have k22 : S 22 = true := hd { on := 22, ground := .guard } (by simp) rfl
                    have e22 := R.o22 k22
                    subst e22
                    clear hd h0 k22
                    refine StepG.none rfl ?_
                    exact ⟨_, _, _, _, _, _, _, _, _, _, _, _, _, _, _, _, _, _, _, _, _, _, _, _, _, _, _, _, _, _, _, _, _, rfl, R.fr, R.o0, R.o1, R.o2, R.o3, R.o4, R.o5, R.o6, R.o7, R.o8, R.o9, R.o10, R.o11, R.o12, R.o13, R.o14, R.o15, R.o16, R.o17, R.o18, R.o19, R.o20, R.o21, (fun _ => rfl), R.o23, R.o24, R.o25, R.o26, R.o27, (fun _ => rfl), R.o29, R.o30, R.o31, R.o32⟩
                  case sa29 =>
                   as_aux_lemma =>
                    have k22 : S 22 = true := hd { on := 22, ground := .guard } (by simp) rfl
                    have e22 := R.o22 k22
                    subst e22
                    clear hd h0 k22
                    refine StepG.none rfl ?_
                    exact ⟨_, _, _, _, _, _, _, _, _, _, _, _, _, _, _, _, _, _, _, _, _, _, _, _, _, _, _, _, _, _, _, _, _, rfl, R.fr, R.o0, R.o1, R.o2, R.o3, R.o4, R.o5, R.o6, R.o7, R.o8, R.o9, R.o10, R.o11, R.o12, R.o13, R.o14, R.o15, R.o16, R.o17, R.o18, R.o19, R.o20, R.o21, (fun _ => rfl), R.o23, R.o24, R.o25, R.o26, R.o27, R.o28, (fun _ => rfl), R.o30, R.o31, R.o32⟩
                  case sa30 =>
                   as_aux_lemma =>
                    have k22 : S 22 = true := hd { on := 22, ground := .guard } (by simp) rfl
                    have e22 := R.o22 k22
                    subst e22
                    clear hd h0 k22
                    refine StepG.none rfl ?_
                    exact ⟨_, _, _, _, _, _, _, _, _, _, _, _, _, _, _, _, _, _, _, _, _, _, _, _, _, _, _, _, _, _, _, _, _, rfl, R.fr, R.o0, R.o1, R.o2, R.o3, R.o4, R.o5, R.o6, R.o7, R.o8, R.o9, R.o10, R.o11, R.o12, R.o13, R.o14, R.o15, R.o16, R.o17, R.o18, R.o19, R.o20, R.o21, (fun _ => rfl), R.o23, R.o24, R.o25, R.o26, R.o27, R.o28, R.o29, (fun _ => rfl), R.o31, R.o32⟩
                  case sa31 =>
                   as_aux_lemma =>
                    have k22 : S 22 = true := hd { on := 22, ground := .guard } (by simp) rfl
                    have e22 := R.o22 k22
                    subst e22
                    clear hd h0 k22
                    refine StepG.none rfl ?_
                    exact ⟨_, _, _, _, _, _, _, _, _, _, _, _, _, _, _, _, _, _, _, _, _, _, _, _, _, _, _, _, _, _, _, _, _, rfl, R.fr, R.o0, R.o1, R.o2, R.o3, R.o4, R.o5, R.o6, R.o7, R.o8, R.o9, R.o10, R.o11, R.o12, R.o13, R.o14, R.o15, R.o16, R.o17, R.o18, R.o19, R.o20, R.o21, (fun _ => rfl), R.o23, R.o24, R.o25, R.o26, R.o27, R.o28, R.o29, R.o30, (fun _ => rfl), R.o32⟩
                  case sa32 =>
                   as_aux_lemma =>
                    have k22 : S 22 = true := hd { on := 22, ground := .data } (by simp) rfl
                    have e22 := R.o22 k22
                    subst e22
                    clear hd h0 k22
                    refine StepG.want rfl ?_
                    go_simp
                    exact ⟨_, _, _, _, _, _, _, _, _, _, _, _, _, _, _, _, _, _, _, _, _, _, _, _, _, _, _, _, _, _, _, _, _, rfl, R.fr, R.o0, R.o1, R.o2, R.o3, R.o4, R.o5, R.o6, R.o7, R.o8, R.o9, R.o10, R.o11, R.o12, R.o13, R.o14, R.o15, R.o16, R.o17, R.o18, R.o19, R.o20, R.o21, (fun _ => rfl), R.o23, R.o24, R.o25, R.o26, R.o27, R.o28, R.o29, R.o30, R.o31, (fun _ => rfl)⟩
                case donea =>
                  rintro S a w' ⟨t0, t1, t2, t3, t4, t5, t6, t7, t8, t9, t10, t11, t12, t13, t14, t15, t16, t17, t18, t19, t20, t21, t22, t23, t24, t25, t26, t27, t28, t29, t30, t31, t32, rfl, R⟩ hall
                  dsimp only
                  have e32 := R.o32 (hall 32 (by simp))
                  subst e32
                  have HFn := toHid8 (HFk.out.then7 R.fr)
                  clear R hall
                  go_wp2_with fail
                  exact ⟨⟨k + 1, by have := HKt.out; omega, by go_num, HFn.out⟩, by simp [intOf]; have := HKt.out; omega⟩
              | false =>
                cases ya with
                | true => exact (least_plain HO.out.1 HO.out.2 hiO HMem.out (by rw [← HX.out]; exact HLess.out) HYH.out HYA.out).elim
                | false =>
                  go_wp2_with fail
                  refine (wpIn_wide (n := 1)).1 (region_inv_g (by kernel_rfl) rfl (by decide +kernel) (RLbI wr g o n c k go oo no co i d.x.name x d.pu d.x.deps.length d.cu (fun t0 t1 t2 t3 t4 t5 t6 t7 t8 t9 t10 t11 t12 t13 t14 t15 t16 t17 t18 t19 t20 t21 t22 t23 t24 t25 t26 t27 t28 t29 t30 t31 t32 => #[.slice (some ⟨g, o, none⟩) n c, undef, u2, .bool true, .slice (some ⟨go, oo, none⟩) no co, .int .i64 0, .int .i64 i, .int .i64 k, .bool true, .slice (some ⟨g, o, none⟩) n c, .bool false, undef, .tuple #[.slice (some ⟨go, oo, none⟩) no co, .int .i64 0], .slice (some ⟨g, o, none⟩) n c, .tuple #[.slice (some ⟨go, oo, none⟩) no co, .int .i64 0], .slice (some ⟨go, oo, none⟩) no co, .int .i64 0, .int .i64 i, .slice (some ⟨go, oo, none⟩) no co, .int .i64 no, .bool true, .bool true, .int .i64 0, .bool true, .bool true, u25, u26, .int .i64 k, .slice (some ⟨g, o, none⟩) n c, .int .i64 n, .bool true, u31, u32, t0, t1, t2, t3, t4, t5, t6, t7, t8, t9, t10, t11, t12, t13, t14, t15, t16, t17, t18, t19, t20, t21, t22, t23, t24, t25, t26, t27, t28, t29, t30, t31, t32, undef])) ?h0b ?stepb ?doneb)
                  case h0b => exact ⟨u33, u34, u35, u36, u37, u38, u39, u40, u41, u42, u43, u44, u45, u46, u47, u48, u49, u50, u51, u52, u53, u54, u55, u56, u57, u58, u59, u60, u61, u62, u63, u64, u65, rfl, Fr.drew None' wr, (fun h => by cases h), (fun h => by cases h), (fun h => by cases h), (fun h => by cases h), (fun h => by cases h), (fun h => by cases h), (fun h => by cases h), (fun h => by cases h), (fun h => by cases h), (fun h => by cases h), (fun h => by cases h), (fun h => by cases h), (fun h => by cases h), (fun h => by cases h), (fun h => by cases h), (fun h => by cases h), (fun h => by cases h), (fun h => by cases h), (fun h => by cases h), (fun h => by cases h), (fun h => by cases h), (fun h => by cases h), (fun h => by cases h), (fun h => by cases h), (fun h => by cases h), (fun h => by cases h), (fun h => by cases h), (fun h => by cases h), (fun h => by cases h), (fun h => by cases h), (fun h => by cases h), (fun h => by cases h), (fun h => by cases h)⟩
                  case stepb =>
                    rintro S a w' ⟨t0, t1, t2, t3, t4, t5, t6, t7, t8, t9, t10, t11, t12, t13, t14, t15, t16, t17, t18, t19, t20, t21, t22, t23, t24, t25, t26, t27, t28, t29, t30, t31, t32, rfl, R⟩
                    dsimp only
                    refine StepsG.cons (fun h0 hd => ?sb0) (StepsG.cons (fun h0 hd => ?sb1) (StepsG.cons (fun h0 hd => ?sb2) (StepsG.cons (fun h0 hd => ?sb3) (StepsG.cons (fun h0 hd => ?sb4) (StepsG.cons (fun h0 hd => ?sb5) (StepsG.cons (fun h0 hd => ?sb6) (StepsG.cons (fun h0 hd => ?sb7) (StepsG.cons (fun h0 hd => ?sb8) (StepsG.cons (fun h0 hd => ?sb9) (StepsG.cons (fun h0 hd => ?sb10) (StepsG.cons (fun h0 hd => ?sb11) (StepsG.cons (fun h0 hd => ?sb12) (StepsG.cons (fun h0 hd => ?sb13) (StepsG.cons (fun h0 hd => ?sb14) (StepsG.cons (fun h0 hd => ?sb15) (StepsG.cons (fun h0 hd => ?sb16) (StepsG.cons (fun h0 hd => ?sb17) (StepsG.cons (fun h0 hd => ?sb18) (StepsG.cons (fun h0 hd => ?sb19) (StepsG.cons (fun h0 hd => ?sb20) (StepsG.cons (fun h0 hd => ?sb21) (StepsG.cons (fun h0 hd => ?sb22) (StepsG.cons (fun h0 hd => ?sb23) (StepsG.cons (fun h0 hd => ?sb24) (StepsG.cons (fun h0 hd => ?sb25) (StepsG.cons (fun h0 hd => ?sb26) (StepsG.cons (fun h0 hd => ?sb27) (StepsG.cons (fun h0 hd => ?sb28) (StepsG.cons (fun h0 hd => ?sb29) (StepsG.cons (fun h0 hd => ?sb30) (StepsG.cons (fun h0 hd => ?sb31) (StepsG.cons (fun h0 hd => ?sb32) (StepsG.nil)))))))))))))))))))))))))))))))))
                    case sb0 =>
                     as_aux_lemma =>
                      clear hd h0
                      refine StepG.want rfl ?_
                      go_simp
                      exact ⟨_, _, _, _, _, _, _, _, _, _, _, _, _, _, _, _, _, _, _, _, _, _, _, _, _, _, _, _, _, _, _, _, _, rfl, R.fr, (fun _ => rfl), R.o1, R.o2, R.o3, R.o4, R.o5, R.o6, R.o7, R.o8, R.o9, R.o10, R.o11, R.o12, R.o13, R.o14, R.o15, R.o16, R.o17, R.o18, R.o19, R.o20, R.o21, R.o22, R.o23, R.o24, R.o25, R.o26, R.o27, R.o28, R.o29, R.o30, R.o31, R.o32⟩
                    case sb1 =>
                     as_aux_lemma =>
                      clear hd h0
                      refine StepG.want rfl ?_
                      go_simp
                      exact ⟨_, _, _, _, _, _, _, _, _, _, _, _, _, _, _, _, _, _, _, _, _, _, _, _, _, _, _, _, _, _, _, _, _, rfl, R.fr, R.o0, (fun _ => rfl), R.o2, R.o3, R.o4, R.o5, R.o6, R.o7, R.o8, R.o9, R.o10, R.o11, R.o12, R.o13, R.o14, R.o15, R.o16, R.o17, R.o18, R.o19, R.o20, R.o21, R.o22, R.o23, R.o24, R.o25, R.o26, R.o27, R.o28, R.o29, R.o30, R.o31, R.o32⟩
                    case sb2 =>
                     as_aux_lemma =>
                      have k0 : S 0 = true := hd { on := 0, ground := .data } (by simp) rfl
                      have e0 := R.o0 k0
                      subst e0
                      have k1 : S 1 = true := hd { on := 1, ground := .data } (by simp) rfl
                      have e1 := R.o1 k1
                      subst e1
                      clear hd h0 k0 k1
                      refine StepG.want rfl ?_
                      go_simp
                      exact ⟨_, _, _, _, _, _, _, _, _, _, _, _, _, _, _, _, _, _, _, _, _, _, _, _, _, _, _, _, _, _, _, _, _, rfl, R.fr, (fun _ => rfl), (fun _ => rfl), (fun _ => rfl), R.o3, R.o4, R.o5, R.o6, R.o7, R.o8, R.o9, R.o10, R.o11, R.o12, R.o13, R.o14, R.o15, R.o16, R.o17, R.o18, R.o19, R.o20, R.o21, R.o22, R.o23, R.o24, R.o25, R.o26, R.o27, R.o28, R.o29, R.o30, R.o31, R.o32⟩
                    case sb3 =>
                     as_aux_lemma =>
                      have k2 : S 2 = true := hd { on := 2, ground := .data } (by simp) rfl
                      have e2 := R.o2 k2
                      subst e2
                      clear hd h0 k2
                      refine StepG.want rfl ?_
                      go_simp
                      exact ⟨_, _, _, _, _, _, _, _, _, _, _, _, _, _, _, _, _, _, _, _, _, _, _, _, _, _, _, _, _, _, _, _, _, rfl, R.fr, R.o0, R.o1, (fun _ => rfl), (fun _ => rfl), R.o4, R.o5, R.o6, R.o7, R.o8, R.o9, R.o10, R.o11, R.o12, R.o13, R.o14, R.o15, R.o16, R.o17, R.o18, R.o19, R.o20, R.o21, R.o22, R.o23, R.o24, R.o25, R.o26, R.o27, R.o28, R.o29, R.o30, R.o31, R.o32⟩
                    case sb4 =>
                     as_aux_lemma =>
                      have k3 : S 3 = true := hd { on := 3, ground := .data } (by simp) rfl
                      have e3 := R.o3 k3
                      subst e3
                      have q0 := R.fr.keepCell c0 (fun e => e)
                      clear hd h0 k3
                      refine StepG.want rfl ?_
                      go_simp
                      exact ⟨_, _, _, _, _, _, _, _, _, _, _, _, _, _, _, _, _, _, _, _, _, _, _, _, _, _, _, _, _, _, _, _, _, rfl, R.fr, R.o0, R.o1, R.o2, (fun _ => rfl), (fun _ => rfl), R.o5, R.o6, R.o7, R.o8, R.o9, R.o10, R.o11, R.o12, R.o13, R.o14, R.o15, R.o16, R.o17, R.o18, R.o19, R.o20, R.o21, R.o22, R.o23, R.o24, R.o25, R.o26, R.o27, R.o28, R.o29, R.o30, R.o31, R.o32⟩
                    case sb5 =>
                     as_aux_lemma =>
                      clear hd h0
                      refine StepG.want rfl ?_
                      go_simp
                      exact ⟨_, _, _, _, _, _, _, _, _, _, _, _, _, _, _, _, _, _, _, _, _, _, _, _, _, _, _, _, _, _, _, _, _, rfl, R.fr, R.o0, R.o1, R.o2, R.o3, R.o4, (fun _ => rfl), R.o6, R.o7, R.o8, R.o9, R.o10, R.o11, R.o12, R.o13, R.o14, R.o15, R.o16, R.o17, R.o18, R.o19, R.o20, R.o21, R.o22, R.o23, R.o24, R.o25, R.o26, R.o27, R.o28, R.o29, R.o30, R.o31, R.o32⟩
                    case sb6 =>
                     as_aux_lemma =>
                      clear hd h0
                      refine StepG.want rfl ?_
                      go_simp
                      exact ⟨_, _, _, _, _, _, _, _, _, _, _, _, _, _, _, _, _, _, _, _, _, _, _, _, _, _, _, _, _, _, _, _, _, rfl, R.fr, R.o0, R.o1, R.o2, R.o3, R.o4, R.o5, (fun _ => rfl), R.o7, R.o8, R.o9, R.o10, R.o11, R.o12, R.o13, R.o14, R.o15, R.o16, R.o17, R.o18, R.o19, R.o20, R.o21, R.o22, R.o23, R.o24, R.o25, R.o26, R.o27, R.o28, R.o29, R.o30, R.o31, R.o32⟩
                    case sb7 =>
                     as_aux_lemma =>
                      have k5 : S 5 = true := hd { on := 5, ground := .data } (by simp) rfl
                      have e5 := R.o5 k5
                      subst e5
                      have k6 : S 6 = true := hd { on := 6, ground := .data } (by simp) rfl
                      have e6 := R.o6 k6
                      subst e6
                      clear hd h0 k5 k6
                      refine StepG.want rfl ?_
                      go_simp
                      exact ⟨_, _, _, _, _, _, _, _, _, _, _, _, _, _, _, _, _, _, _, _, _, _, _, _, _, _, _, _, _, _, _, _, _, rfl, R.fr, R.o0, R.o1, R.o2, R.o3, R.o4, (fun _ => rfl), (fun _ => rfl), (fun _ => rfl), R.o8, R.o9, R.o10, R.o11, R.o12, R.o13, R.o14, R.o15, R.o16, R.o17, R.o18, R.o19, R.o20, R.o21, R.o22, R.o23, R.o24, R.o25, R.o26, R.o27, R.o28, R.o29, R.o30, R.o31, R.o32⟩
                    case sb8 =>
                     as_aux_lemma =>
                      have k7 : S 7 = true := hd { on := 7, ground := .data } (by simp) rfl
                      have e7 := R.o7 k7
                      subst e7
                      have q0 := R.fr.keepCell hco (fun e => e)
                      clear hd h0 k7
                      refine StepG.want rfl ?_
                      go_simp
                      exact ⟨_, _, _, _, _, _, _, _, _, _, _, _, _, _, _, _, _, _, _, _, _, _, _, _, _, _, _, _, _, _, _, _, _, rfl, R.fr, R.o0, R.o1, R.o2, R.o3, R.o4, R.o5, R.o6, (fun _ => rfl), (fun _ => rfl), R.o9, R.o10, R.o11, R.o12, R.o13, R.o14, R.o15, R.o16, R.o17, R.o18, R.o19, R.o20, R.o21, R.o22, R.o23, R.o24, R.o25, R.o26, R.o27, R.o28, R.o29, R.o30, R.o31, R.o32⟩
                    case sb9 =>
                     as_aux_lemma =>
                      have k4 : S 4 = true := hd { on := 4, ground := .data } (by simp) rfl
                      have e4 := R.o4 k4
                      subst e4
                      have k8 : S 8 = true := hd { on := 8, ground := .data } (by simp) rfl
                      have e8 := R.o8 k8
                      subst e8
                      clear hd h0 k4 k8
                      refine StepG.want rfl ?_
                      go_simp
                      exact ⟨_, _, _, _, _, _, _, _, _, _, _, _, _, _, _, _, _, _, _, _, _, _, _, _, _, _, _, _, _, _, _, _, _, rfl, R.fr, R.o0, R.o1, R.o2, R.o3, (fun _ => rfl), R.o5, R.o6, R.o7, (fun _ => rfl), (fun _ => rfl), R.o10, R.o11, R.o12, R.o13, R.o14, R.o15, R.o16, R.o17, R.o18, R.o19, R.o20, R.o21, R.o22, R.o23, R.o24, R.o25, R.o26, R.o27, R.o28, R.o29, R.o30, R.o31, R.o32⟩
                    case sb10 =>
                     as_aux_lemma =>
                      have k9 : S 9 = true := hd { on := 9, ground := .data } (by simp) rfl
                      have e9 := R.o9 k9
                      subst e9
                      clear hd h0 k9
                      refine StepG.want rfl ?_
                      go_simp
                      exact ⟨_, _, _, _, _, _, _, _, _, _, _, _, _, _, _, _, _, _, _, _, _, _, _, _, _, _, _, _, _, _, _, _, _, rfl, R.fr, R.o0, R.o1, R.o2, R.o3, R.o4, R.o5, R.o6, R.o7, R.o8, (fun _ => rfl), (fun _ => rfl), R.o11, R.o12, R.o13, R.o14, R.o15, R.o16, R.o17, R.o18, R.o19, R.o20, R.o21, R.o22, R.o23, R.o24, R.o25, R.o26, R.o27, R.o28, R.o29, R.o30, R.o31, R.o32⟩
                    case sb11 =>
                     as_aux_lemma =>
                      have k10 : S 10 = true := hd { on := 10, ground := .guard } (by simp) rfl
                      have e10 := R.o10 k10
                      subst e10
                      clear hd h0 k10
                      refine StepG.want rfl ?_
                      go_simp
                      exact ⟨_, _, _, _, _, _, _, _, _, _, _, _, _, _, _, _, _, _, _, _, _, _, _, _, _, _, _, _, _, _, _, _, _, rfl, R.fr, R.o0, R.o1, R.o2, R.o3, R.o4, R.o5, R.o6, R.o7, R.o8, R.o9, (fun _ => rfl), (fun _ => rfl), R.o12, R.o13, R.o14, R.o15, R.o16, R.o17, R.o18, R.o19, R.o20, R.o21, R.o22, R.o23, R.o24, R.o25, R.o26, R.o27, R.o28, R.o29, R.o30, R.o31, R.o32⟩
                    case sb12 =>
                     as_aux_lemma =>
                      have k10 : S 10 = true := hd { on := 10, ground := .guard } (by simp) rfl
                      have e10 := R.o10 k10
                      subst e10
                      clear hd h0 k10
                      refine StepG.want rfl ?_
                      go_simp
                      exact ⟨_, _, _, _, _, _, _, _, _, _, _, _, _, _, _, _, _, _, _, _, _, _, _, _, _, _, _, _, _, _, _, _, _, rfl, R.fr, R.o0, R.o1, R.o2, R.o3, R.o4, R.o5, R.o6, R.o7, R.o8, R.o9, (fun _ => rfl), R.o11, (fun _ => rfl), R.o13, R.o14, R.o15, R.o16, R.o17, R.o18, R.o19, R.o20, R.o21, R.o22, R.o23, R.o24, R.o25, R.o26, R.o27, R.o28, R.o29, R.o30, R.o31, R.o32⟩
                    case sb13 =>
                     as_aux_lemma =>
                      have k10 : S 10 = true := hd { on := 10, ground := .guard } (by simp) rfl
                      have e10 := R.o10 k10
                      subst e10
                      have k11 : S 11 = true := hd { on := 11, ground := .data } (by simp) rfl
                      have e11 := R.o11 k11
                      subst e11
                      have k12 : S 12 = true := hd { on := 12, ground := .data } (by simp) rfl
                      have e12 := R.o12 k12
                      subst e12
                      clear hd h0 k10 k11 k12
                      refine StepG.want rfl ?_
                      go_simp
                      exact ⟨_, _, _, _, _, _, _, _, _, _, _, _, _, _, _, _, _, _, _, _, _, _, _, _, _, _, _, _, _, _, _, _, _, rfl, R.fr, R.o0, R.o1, R.o2, R.o3, R.o4, R.o5, R.o6, R.o7, R.o8, R.o9, (fun _ => rfl), (fun _ => rfl), (fun _ => rfl), (fun _ => rfl), R.o14, R.o15, R.o16, R.o17, R.o18, R.o19, R.o20, R.o21, R.o22, R.o23, R.o24, R.o25, R.o26, R.o27, R.o28, R.o29, R.o30, R.o31, R.o32⟩
                    case sb14 =>
                     as_aux_lemma =>
                      have k10 : S 10 = true := hd { on := 10, ground := .guard } (by simp) rfl
                      have e10 := R.o10 k10
                      subst e10
                      clear hd h0 k10
                      refine StepG.want rfl ?_
                      go_simp
                      exact ⟨_, _, _, _, _, _, _, _, _, _, _, _, _, _, _, _, _, _, _, _, _, _, _, _, _, _, _, _, _, _, _, _, _, rfl, R.fr, R.o0, R.o1, R.o2, R.o3, R.o4, R.o5, R.o6, R.o7, R.o8, R.o9, (fun _ => rfl), R.o11, R.o12, R.o13, (fun _ => rfl), R.o15, R.o16, R.o17, R.o18, R.o19, R.o20, R.o21, R.o22, R.o23, R.o24, R.o25, R.o26, R.o27, R.o28, R.o29, R.o30, R.o31, R.o32⟩
                    case sb15 =>
                     as_aux_lemma =>
                      have k10 : S 10 = true := hd { on := 10, ground := .guard } (by simp) rfl
                      have e10 := R.o10 k10
                      subst e10
                      clear hd h0 k10
                      refine StepG.want rfl ?_
                      go_simp
                      exact ⟨_, _, _, _, _, _, _, _, _, _, _, _, _, _, _, _, _, _, _, _, _, _, _, _, _, _, _, _, _, _, _, _, _, rfl, R.fr, R.o0, R.o1, R.o2, R.o3, R.o4, R.o5, R.o6, R.o7, R.o8, R.o9, (fun _ => rfl), R.o11, R.o12, R.o13, R.o14, (fun _ => rfl), R.o16, R.o17, R.o18, R.o19, R.o20, R.o21, R.o22, R.o23, R.o24, R.o25, R.o26, R.o27, R.o28, R.o29, R.o30, R.o31, R.o32⟩
                    case sb16 =>
                     as_aux_lemma =>
                      have k10 : S 10 = true := hd { on := 10, ground := .guard } (by simp) rfl
                      have e10 := R.o10 k10
                      subst e10
                      have k14 : S 14 = true := hd { on := 14, ground := .data } (by simp) rfl
                      have e14 := R.o14 k14
                      subst e14
                      have k15 : S 15 = true := hd { on := 15, ground := .data } (by simp) rfl
                      have e15 := R.o15 k15
                      subst e15
                      clear hd h0 k10 k14 k15
                      refine StepG.want rfl ?_
                      go_simp
                      exact ⟨_, _, _, _, _, _, _, _, _, _, _, _, _, _, _, _, _, _, _, _, _, _, _, _, _, _, _, _, _, _, _, _, _, rfl, R.fr, R.o0, R.o1, R.o2, R.o3, R.o4, R.o5, R.o6, R.o7, R.o8, R.o9, (fun _ => rfl), R.o11, R.o12, R.o13, (fun _ => rfl), (fun _ => rfl), (fun _ => rfl), R.o17, R.o18, R.o19, R.o20, R.o21, R.o22, R.o23, R.o24, R.o25, R.o26, R.o27, R.o28, R.o29, R.o30, R.o31, R.o32⟩
                    case sb17 =>
                     as_aux_lemma =>
                      have k10 : S 10 = true := hd { on := 10, ground := .guard } (by simp) rfl
                      have e10 := R.o10 k10
                      subst e10
                      have k16 : S 16 = true := hd { on := 16, ground := .data } (by simp) rfl
                      have e16 := R.o16 k16
                      subst e16
                      clear hd h0 k10 k16
                      refine StepG.want rfl ?_
                      go_simp
                      exact ⟨_, _, _, _, _, _, _, _, _, _, _, _, _, _, _, _, _, _, _, _, _, _, _, _, _, _, _, _, _, _, _, _, _, rfl, R.fr, R.o0, R.o1, R.o2, R.o3, R.o4, R.o5, R.o6, R.o7, R.o8, R.o9, (fun _ => rfl), R.o11, R.o12, R.o13, R.o14, R.o15, (fun _ => rfl), (fun _ => rfl), R.o18, R.o19, R.o20, R.o21, R.o22, R.o23, R.o24, R.o25, R.o26, R.o27, R.o28, R.o29, R.o30, R.o31, R.o32⟩
                    case sb18 =>
                     as_aux_lemma =>
                      have k10 : S 10 = true := hd { on := 10, ground := .guard } (by simp) rfl
                      have e10 := R.o10 k10
                      subst e10
                      have k17 : S 17 = true := hd { on := 17, ground := .data } (by simp) rfl
                      have e17 := R.o17 k17
                      subst e17
                      have q0 := R.fr.keepCell c0 (fun e => e)
                      clear hd h0 k10 k17
                      refine StepG.want rfl ?_
                      go_simp
                      exact ⟨_, _, _, _, _, _, _, _, _, _, _, _, _, _, _, _, _, _, _, _, _, _, _, _, _, _, _, _, _, _, _, _, _, rfl, R.fr, R.o0, R.o1, R.o2, R.o3, R.o4, R.o5, R.o6, R.o7, R.o8, R.o9, (fun _ => rfl), R.o11, R.o12, R.o13, R.o14, R.o15, R.o16, (fun _ => rfl), (fun _ => rfl), R.o19, R.o20, R.o21, R.o22, R.o23, R.o24, R.o25, R.o26, R.o27, R.o28, R.o29, R.o30, R.o31, R.o32⟩
                    case sb19 =>
                     as_aux_lemma =>
                      have k10 : S 10 = true := hd { on := 10, ground := .guard } (by simp) rfl
                      have e10 := R.o10 k10
                      subst e10
                      have k13 : S 13 = true := hd { on := 13, ground := .data } (by simp) rfl
                      have e13 := R.o13 k13
                      subst e13
                      have k18 : S 18 = true := hd { on := 18, ground := .data } (by simp) rfl
                      have e18 := R.o18 k18
                      subst e18
                      clear hd h0 k10 k13 k18
                      refine StepG.want rfl ?_
                      go_simp
                      refine ⟨trivial, (callsIn_wide.2 (HHas.out w' R.fr)).mono ?_⟩
                      rintro e w'' ⟨rfl, f⟩
                      exact ⟨_, _, _, _, _, _, _, _, _, _, _, _, _, _, _, _, _, _, _, _, _, _, _, _, _, _, _, _, _, _, _, _, _, rfl, R.fr.then7 f, R.o0, R.o1, R.o2, R.o3, R.o4, R.o5, R.o6, R.o7, R.o8, R.o9, (fun _ => rfl), R.o11, R.o12, (fun _ => rfl), R.o14, R.o15, R.o16, R.o17, (fun _ => rfl), (fun _ => rfl), R.o20, R.o21, R.o22, R.o23, R.o24, R.o25, R.o26, R.o27, R.o28, R.o29, R.o30, R.o31, R.o32⟩
                    case sb20 =>
                     as_aux_lemma =>
                      have k10 : S 10 = true := hd { on := 10, ground := .guard } (by simp) rfl
                      have e10 := R.o10 k10
                      subst e10
                      have k19 : S 19 = true := hd { on := 19, ground := .data } (by simp) rfl
                      have e19 := R.o19 k19
                      subst e19
                      clear hd h0 k10 k19
                      refine StepG.want rfl ?_
                      go_simp
                      exact ⟨_, _, _, _, _, _, _, _, _, _, _, _, _, _, _, _, _, _, _, _, _, _, _, _, _, _, _, _, _, _, _, _, _, rfl, R.fr, R.o0, R.o1, R.o2, R.o3, R.o4, R.o5, R.o6, R.o7, R.o8, R.o9, (fun _ => rfl), R.o11, R.o12, R.o13, R.o14, R.o15, R.o16, R.o17, R.o18, (fun _ => rfl), (fun _ => rfl), R.o21, R.o22, R.o23, R.o24, R.o25, R.o26, R.o27, R.o28, R.o29, R.o30, R.o31, R.o32⟩
                    case sb21 =>
                     as_aux_lemma =>
                      have k10 : S 10 = true := hd { on := 10, ground := .data } (by simp) rfl
                      have e10 := R.o10 k10
                      subst e10
                      have k20 : S 20 = true := hd { on := 20, ground := .data } (by simp) rfl
                      have e20 := R.o20 k20
                      subst e20
                      clear hd h0 k10 k20
                      refine StepG.want rfl ?_
                      go_simp
                      exact ⟨_, _, _, _, _, _, _, _, _, _, _, _, _, _, _, _, _, _, _, _, _, _, _, _, _, _, _, _, _, _, _, _, _, rfl, R.fr, R.o0, R.o1, R.o2, R.o3, R.o4, R.o5, R.o6, R.o7, R.o8, R.o9, (fun _ => rfl), R.o11, R.o12, R.o13, R.o14, R.o15, R.o16, R.o17, R.o18, R.o19, (fun _ => rfl), (fun _ => rfl), R.o22, R.o23, R.o24, R.o25, R.o26, R.o27, R.o28, R.o29, R.o30, R.o31, R.o32⟩
                    case sb22 =>
                     as_aux_lemma =>
                      have k21 : S 21 = true := hd { on := 21, ground := .data } (by simp) rfl
                      have e21 := R.o21 k21
                      subst e21
                      clear hd h0 k21
                      refine StepG.want rfl ?_
                      go_simp
                      exact ⟨_, _, _, _, _, _, _, _, _, _, _, _, _, _, _, _, _, _, _, _, _, _, _, _, _, _, _, _, _, _, _, _, _, rfl, R.fr, R.o0, R.o1, R.o2, R.o3, R.o4, R.o5, R.o6, R.o7, R.o8, R.o9, R.o10, R.o11, R.o12, R.o13, R.o14, R.o15, R.o16, R.o17, R.o18, R.o19, R.o20, (fun _ => rfl), (fun _ => rfl), R.o23, R.o24, R.o25, R.o26, R.o27, R.o28, R.o29, R.o30, R.o31, R.o32⟩
                    case sb23 =>
                     as_aux_lemma =>
                      have k22 : S 22 = true := hd { on := 22, ground := .guard } (by simp) rfl
                      have e22 := R.o22 k22
                      subst e22
                      clear hd h0 k22
                      refine StepG.want rfl ?_
                      go_simp
                      exact ⟨_, _, _, _, _, _, _, _, _, _, _, _, _, _, _, _, _, _, _, _, _, _, _, _, _, _, _, _, _, _, _, _, _, rfl, R.fr, R.o0, R.o1, R.o2, R.o3, R.o4, R.o5, R.o6, R.o7, R.o8, R.o9, R.o10, R.o11, R.o12, R.o13, R.o14, R.o15, R.o16, R.o17, R.o18, R.o19, R.o20, R.o21, (fun _ => rfl), (fun _ => rfl), R.o24, R.o25, R.o26, R.o27, R.o28, R.o29, R.o30, R.o31, R.o32⟩
                    case sb24 =>
                     as_aux_lemma =>
                      have k22 : S 22 = true := hd { on := 22, ground := .guard } (by simp) rfl
                      have e22 := R.o22 k22
                      subst e22
                      clear hd h0 k22
                      refine StepG.want rfl ?_
                      go_simp
                      exact ⟨_, _, _, _, _, _, _, _, _, _, _, _, _, _, _, _, _, _, _, _, _, _, _, _, _, _, _, _, _, _, _, _, _, rfl, R.fr, R.o0, R.o1, R.o2, R.o3, R.o4, R.o5, R.o6, R.o7, R.o8, R.o9, R.o10, R.o11, R.o12, R.o13, R.o14, R.o15, R.o16, R.o17, R.o18, R.o19, R.o20, R.o21, (fun _ => rfl), R.o23, (fun _ => rfl), R.o25, R.o26, R.o27, R.o28, R.o29, R.o30, R.o31, R.o32⟩
                    case sb25 =>
                     as_aux_lemma =>
                      have k22 : S 22 = true := hd { on := 22, ground := .guard } (by simp) rfl
                      have e22 := R.o22 k22
                      subst e22
                      have k23 : S 23 = true := hd { on := 23, ground := .data } (by simp) rfl
                      have e23 := R.o23 k23
                      subst e23
                      have k24 : S 24 = true := hd { on := 24, ground := .data } (by simp) rfl
                      have e24 := R.o24 k24
                      subst e24
                      clear hd h0 k22 k23 k24
                      refine StepG.want rfl ?_
                      go_simp
                      exact ⟨_, _, _, _, _, _, _, _, _, _, _, _, _, _, _, _, _, _, _, _, _, _, _, _, _, _, _, _, _, _, _, _, _, rfl, R.fr, R.o0, R.o1, R.o2, R.o3, R.o4, R.o5, R.o6, R.o7, R.o8, R.o9, R.o10, R.o11, R.o12, R.o13, R.o14, R.o15, R.o16, R.o17, R.o18, R.o19, R.o20, R.o21, (fun _ => rfl), (fun _ => rfl), (fun _ => rfl), (fun _ => rfl), R.o26, R.o27, R.o28, R.o29, R.o30, R.o31, R.o32⟩
                    case sb26 =>
                     as_aux_lemma =>
                      have k22 : S 22 = true := hd { on := 22, ground := .guard } (by simp) rfl
                      have e22 := R.o22 k22
                      subst e22
                      clear hd h0 k22
                      refine StepG.want rfl ?_
                      go_simp
                      exact ⟨_, _, _, _, _, _, _, _, _, _, _, _, _, _, _, _, _, _, _, _, _, _, _, _, _, _, _, _, _, _, _, _, _, rfl, R.fr, R.o0, R.o1, R.o2, R.o3, R.o4, R.o5, R.o6, R.o7, R.o8, R.o9, R.o10, R.o11, R.o12, R.o13, R.o14, R.o15, R.o16, R.o17, R.o18, R.o19, R.o20, R.o21, (fun _ => rfl), R.o23, R.o24, R.o25, (fun _ => rfl), R.o27, R.o28, R.o29, R.o30, R.o31, R.o32⟩
                    case sb27 =>
                     as_aux_lemma =>
                      have k22 : S 22 = true := hd { on := 22, ground := .guard } (by simp) rfl
                      have e22 := R.o22 k22
                      subst e22
                      clear hd h0 k22
                      refine StepG.want rfl ?_
                      go_simp
                      exact ⟨_, _, _, _, _, _, _, _, _, _, _, _, _, _, _, _, _, _, _, _, _, _, _, _, _, _, _, _, _, _, _, _, _, rfl, R.fr, R.o0, R.o1, R.o2, R.o3, R.o4, R.o5, R.o6, R.o7, R.o8, R.o9, R.o10, R.o11, R.o12, R.o13, R.o14, R.o15, R.o16, R.o17, R.o18, R.o19, R.o20, R.o21, (fun _ => rfl), R.o23, R.o24, R.o25, R.o26, (fun _ => rfl), R.o28, R.o29, R.o30, R.o31, R.o32⟩
                    case sb28 =>
                     as_aux_lemma =>
                      have k22 : S 22 = true := hd { on := 22, ground := .guard } (by simp) rfl
                      have e22 := R.o22 k22
                      subst e22
                      have k26 : S 26 = true := hd { on := 26, ground := .data } (by simp) rfl
                      have e26 := R.o26 k26
                      subst e26
                      have k27 : S 27 = true := hd { on := 27, ground := .data } (by simp) rfl
                      have e27 := R.o27 k27
                      subst e27
                      clear hd h0 k22 k26 k27
                      refine StepG.want rfl ?_
                      go_simp
                      exact ⟨_, _, _, _, _, _, _, _, _, _, _, _, _, _, _, _, _, _, _, _, _, _, _, _, _, _, _, _, _, _, _, _, _, rfl, R.fr, R.o0, R.o1, R.o2, R.o3, R.o4, R.o5, R.o6, R.o7, R.o8, R.o9, R.o10, R.o11, R.o12, R.o13, R.o14, R.o15, R.o16, R.o17, R.o18, R.o19, R.o20, R.o21, (fun _ => rfl), R.o23, R.o24, R.o25, (fun _ => rfl), (fun _ => rfl), (fun _ => rfl), R.o29, R.o30, R.o31, R.o32⟩
                    case sb29 =>
                     as_aux_lemma =>
                      have k22 : S 22 = true := hd { on := 22, ground := .guard } (by simp) rfl
                      have e22 := R.o22 k22
                      subst e22
                      have k28 : S 28 = true := hd { on := 28, ground := .data } (by simp) rfl
                      have e28 := R.o28 k28
                      subst e28
                      clear hd h0 k22 k28
                      refine StepG.want rfl ?_
                      go_simp
                      exact ⟨_, _, _, _, _, _, _, _, _, _, _, _, _, _, _, _, _, _, _, _, _, _, _, _, _, _, _, _, _, _, _, _, _, rfl, R.fr, R.o0, R.o1, R.o2, R.o3, R.o4, R.o5, R.o6, R.o7, R.o8, R.o9, R.o10, R.o11, R.o12, R.o13, R.o14, R.o15, R.o16, R.o17, R.o18, R.o19, R.o20, R.o21, (fun _ => rfl), R.o23, R.o24, R.o25, R.o26, R.o27, (fun _ => rfl), (fun _ => rfl), R.o30, R.o31, R.o32⟩
                    case sb30 =>
                     as_aux_lemma =>
                      have k22 : S 22 = true := hd { on := 22, ground := .guard } (by simp) rfl
                      have e22 := R.o22 k22
                      subst e22
                      have k29 : S 29 = true := hd { on := 29, ground := .data } (by simp) rfl
                      have e29 := R.o29 k29
                      subst e29
                      have q0 := R.fr.keepCell c1 (fun e => e)
                      clear hd h0 k22 k29
                      refine StepG.want rfl ?_
                      go_simp
                      exact ⟨_, _, _, _, _, _, _, _, _, _, _, _, _, _, _, _, _, _, _, _, _, _, _, _, _, _, _, _, _, _, _, _, _, rfl, R.fr, R.o0, R.o1, R.o2, R.o3, R.o4, R.o5, R.o6, R.o7, R.o8, R.o9, R.o10, R.o11, R.o12, R.o13, R.o14, R.o15, R.o16, R.o17, R.o18, R.o19, R.o20, R.o21, (fun _ => rfl), R.o23, R.o24, R.o25, R.o26, R.o27, R.o28, (fun _ => rfl), (fun _ => rfl), R.o31, R.o32⟩
                    case sb31 =>
                     as_aux_lemma =>
                      have k22 : S 22 = true := hd { on := 22, ground := .guard } (by simp) rfl
                      have e22 := R.o22 k22
                      subst e22
                      have k25 : S 25 = true := hd { on := 25, ground := .data } (by simp) rfl
                      have e25 := R.o25 k25
                      subst e25
                      have k30 : S 30 = true := hd { on := 30, ground := .data } (by simp) rfl
                      have e30 := R.o30 k30
                      subst e30
                      clear hd h0 k22 k25 k30
                      refine StepG.want rfl ?_
                      go_simp
                      refine ⟨trivial, (callsIn_wide.2 (HAll.out w' R.fr)).mono ?_⟩
                      rintro e w'' ⟨rfl, f⟩
                      exact ⟨_, _, _, _, _, _, _, _, _, _, _, _, _, _, _, _, _, _, _, _, _, _, _, _, _, _, _, _, _, _, _, _, _, rfl, R.fr.then7 f, R.o0, R.o1, R.o2, R.o3, R.o4, R.o5, R.o6, R.o7, R.o8, R.o9, R.o10, R.o11, R.o12, R.o13, R.o14, R.o15, R.o16, R.o17, R.o18, R.o19, R.o20, R.o21, (fun _ => rfl), R.o23, R.o24, (fun _ => rfl), R.o26, R.o27, R.o28, R.o29, (fun _ => rfl), (fun _ => rfl), R.o32⟩
                    case sb32 =>
                     as_aux_lemma =>
                      have k22 : S 22 = true := hd { on := 22, ground := .data } (by simp) rfl
                      have e22 := R.o22 k22
                      subst e22
                      have k31 : S 31 = true := hd { on := 31, ground := .data } (by simp) rfl
                      have e31 := R.o31 k31
                      subst e31
                      clear hd h0 k22 k31
                      refine StepG.want rfl ?_
                      go_simp
                      exact ⟨_, _, _, _, _, _, _, _, _, _, _, _, _, _, _, _, _, _, _, _, _, _, _, _, _, _, _, _, _, _, _, _, _, rfl, R.fr, R.o0, R.o1, R.o2, R.o3, R.o4, R.o5, R.o6, R.o7, R.o8, R.o9, R.o10, R.o11, R.o12, R.o13, R.o14, R.o15, R.o16, R.o17, R.o18, R.o19, R.o20, R.o21, (fun _ => rfl), R.o23, R.o24, R.o25, R.o26, R.o27, R.o28, R.o29, R.o30, (fun _ => rfl), (fun _ => rfl)⟩
                  case doneb =>
                    rintro S a w' ⟨t0, t1, t2, t3, t4, t5, t6, t7, t8, t9, t10, t11, t12, t13, t14, t15, t16, t17, t18, t19, t20, t21, t22, t23, t24, t25, t26, t27, t28, t29, t30, t31, t32, rfl, R⟩ hall
                    dsimp only
                    have e32 := R.o32 (hall 32 (by simp))
                    subst e32
                    have HFn := toHid8 (HFk.out.then7 R.fr)
                    clear R hall
                    go_wp2_with fail
                    exact ⟨⟨k + 1, by have := HKt.out; omega, by go_num, HFn.out⟩, by simp [intOf]; have := HKt.out; omega⟩

end Go.Proofs.YtlabcbcccfbhjaaGreatDoor
