/-
  What is proved here: the contracts that the statement stands on: Turn14, Find14, OrderP14, OrderW14. Conditions: as each theorem names them.
-/
import Derived.Test.YtlabcbcccfbhjaaGreatDoorM28ArgsL14
import Derived.Laws.ResultCell
import Derived.Test.YtlabcbcccfbhjaaGreatDoorM1Base
namespace Go.Proofs.YtlabcbcccfbhjaaGreatDoor
open Go.RowKit Go.Maps Go.WideMaps
set_option maxRecDepth 100000

theorem riseM_ext {β : Type} : ∀ {K L : List (Kv β)}, RiseM K → RiseM L → (∀ t, t ∈ K ↔ t ∈ L) → K = L
  | [], [], _, _, _ => rfl
  | [], b :: L, _, _, h => absurd ((h b).2 (List.mem_cons_self ..)) List.not_mem_nil
  | a :: K, [], _, _, h => absurd ((h a).1 (List.mem_cons_self ..)) List.not_mem_nil
  | a :: K, b :: L, hK, hL, h => by
    unfold RiseM at hK hL
    rw [List.map_cons, List.pairwise_cons] at hK hL
    have hK1 : ∀ x ∈ K, a.1 < x.1 := fun x hx => hK.1 _ (List.mem_map.2 ⟨x, hx, rfl⟩)
    have hL1 : ∀ x ∈ L, b.1 < x.1 := fun x hx => hL.1 _ (List.mem_map.2 ⟨x, hx, rfl⟩)
    have e : a = b := by
      rcases List.mem_cons.1 ((h a).1 (List.mem_cons_self ..)) with e | e
      · exact e
      · rcases List.mem_cons.1 ((h b).2 (List.mem_cons_self ..)) with e2 | e2
        · exact e2.symm
        · exact absurd (List.lt_trans (hL1 a e) (hK1 b e2)) (List.lt_irrefl _)
    subst e
    rw [riseM_ext (K := K) (L := L) hK.2 hL.2 (fun k => ⟨fun hk => (List.mem_cons.1 ((h k).1 (List.mem_cons_of_mem _ hk))).resolve_left (fun e => List.lt_irrefl _ (e ▸ hK1 k hk)), fun hk => (List.mem_cons.1 ((h k).2 (List.mem_cons_of_mem _ hk))).resolve_left (fun e => List.lt_irrefl _ (e ▸ hL1 k hk))⟩)]

theorem setGo_some : ∀ {Z : List Pv} {T0 : List (Kv Pv)}, RiseM T0 → ((setGo T0 Z).isSome = true ↔ (∀ d ∈ Z, rightPa d.x = true) ∧ (Z.map (fun d => unB d.x.name)).Nodup ∧ ∀ d ∈ Z, getM T0 (unB d.x.name) = none)
  | [], T0, _ => ⟨fun _ => ⟨fun d hd => (by cases hd), List.nodup_nil, fun d hd => (by cases hd)⟩, fun _ => rfl⟩
  | c :: Z, T0, hr => by
    rw [setGo]
    by_cases h : (getM T0 (unB c.x.name)).isSome = true ∨ rightPa c.x = false
    · rw [if_pos h]
      refine ⟨fun e => (by cases e), fun ⟨h1, _, h3⟩ => ?_⟩
      rcases h with h | h
      · rw [h3 c (List.mem_cons_self ..)] at h; cases h
      · rw [h1 c (List.mem_cons_self ..)] at h; cases h
    · rw [if_neg h, setGo_some (rise_put hr _ c)]
      have hg : getM T0 (unB c.x.name) = none := by
        cases e : getM T0 (unB c.x.name) with
        | none => rfl
        | some d => exact absurd (.inl (by rw [e]; rfl)) h
      have hrc : rightPa c.x = true := (Bool.eq_false_or_eq_true _).resolve_right (fun e => h (.inr e))
      rw [List.map_cons, List.nodup_cons]
      constructor
      · rintro ⟨h1, h2, h3⟩
        refine ⟨fun d hd => ?_, ⟨fun hm => ?_, h2⟩, fun d hd => ?_⟩
        · rcases List.mem_cons.1 hd with rfl | hd
          · exact hrc
          · exact h1 d hd
        · obtain ⟨d, hd, e⟩ := List.mem_map.1 hm
          have := h3 d hd
          rw [get_putM hr, if_pos e] at this
          cases this
        · rcases List.mem_cons.1 hd with rfl | hd
          · exact hg
          · have := h3 d hd
            rw [get_putM hr] at this
            split at this
            · cases this
            · exact this
      · rintro ⟨h1, ⟨h2, h3⟩, h4⟩
        refine ⟨fun d hd => h1 d (List.mem_cons_of_mem _ hd), h3, fun d hd => ?_⟩
        rw [get_putM hr, if_neg (fun e => h2 (List.mem_map.2 ⟨d, hd, e⟩))]
        exact h4 d (List.mem_cons_of_mem _ hd)

theorem setV_some {Z : List Pv} : (setV Z).isSome = true ↔ Z.length ≤ 256 ∧ (∀ d ∈ Z, rightPa d.x = true) ∧ (Z.map (fun d => unB d.x.name)).Nodup := by
  unfold setV
  by_cases h : Z.length ≤ 256
  · rw [if_pos h, setGo_some rise_nil]
    exact ⟨fun ⟨a, b, _⟩ => ⟨h, a, b⟩, fun ⟨_, a, b⟩ => ⟨a, b, fun d _ => rfl⟩⟩
  · rw [if_neg h]
    exact ⟨fun e => (by cases e), fun e => absurd e.1 h⟩

theorem setV_is {Z : List Pv} {T : List (Kv Pv)} (h : setV Z = some T) (t : Kv Pv) : t ∈ T ↔ t.2 ∈ Z ∧ t.1 = unB t.2.x.name :=
  ⟨setV_mem h t, fun ⟨h1, h2⟩ => by
    have := getM_mem ((setV_get h).2 t.2 h1)
    rw [← h2] at this
    exact this⟩

theorem setV_perm {Z Y : List Pv} (hp : Z.Perm Y) : setV Z = setV Y := by
  have hs : (setV Z).isSome = true ↔ (setV Y).isSome = true := by
    rw [setV_some, setV_some, hp.length_eq, (hp.map _).nodup_iff]
    exact ⟨fun ⟨a, b, c⟩ => ⟨a, fun d hd => b d (hp.mem_iff.2 hd), c⟩, fun ⟨a, b, c⟩ => ⟨a, fun d hd => b d (hp.mem_iff.1 hd), c⟩⟩
  cases hz : setV Z with
  | none =>
    cases hy : setV Y with
    | none => rfl
    | some T => rw [hz, hy] at hs; exact absurd (hs.2 rfl) (by simp)
  | some T =>
    cases hy : setV Y with
    | none => rw [hz, hy] at hs; exact absurd (hs.1 rfl) (by simp)
    | some U =>
      rw [riseM_ext (setV_get hz).1 (setV_get hy).1 (fun t => by rw [setV_is hz, setV_is hy, hp.mem_iff])]

end Go.Proofs.YtlabcbcccfbhjaaGreatDoor

namespace Go.Proofs.YtlabcbcccfbhjaaGreatDoor
open Go.RowKit Go.Maps Go.WideMaps
set_option maxRecDepth 100000

def findV (Z : List Pv) (s : B13) : Option Pv := Z.find? (fun d => decide (unB d.x.name = s))

theorem Box3.load14 {w : World} {b : Nat} {y0 y1 y2 : Value} (h : Box3 w b y0 y1 y2) : (loadVar 37 ⟨b, 0, none⟩).run Tryz.prog w = .ok (.agg #[y0, y1, y2]) w :=
  run_loadVar_row w b 37 37 #[y0, y1, y2] (0, 0) _ h Tryz.underlying37 rfl (by kernel_rfl)

theorem ret_two14 {fn : Func} {p u : Tmp} (hres : fn.results = #[.cell p 37, .tmp u]) {Q : Ending → World → Prop} {a : Act} {w : World} {b : Nat} {y0 y1 y2 v : Value} (hd : a.defers = []) (hp : a.tmps.getD p undef = .pointer (some ⟨b, 0, none⟩)) (hu : a.tmps.getD u undef = v) (h : Box3 w b y0 y1 y2) (hq : Q (.returned (.tuple #[.agg #[y0, y1, y2], v])) w) : bodyPost Tryz.prog fn Q .ret a w :=
  bodyPost_ret (v := .tuple #[.agg #[y0, y1, y2], v]) (by rw [results_cell_tmp hres, hp, hu]; simp [asAddr, Result.andThen, Box3.load14 h]) hd hq

set_option maxHeartbeats 4000000 in
theorem find14_any (va : Option Addr) (n c : Nat) (Z : List Pv) (s : ByteArray) (w : World) (hn : Z.length = n) (hr : RowV w va Z) (hl : n ≤ 1000000) :
    Calls Tryz.prog 24 #[.slice va n c, .string s] w fun e w' => e = .returned (.tuple #[mkV ((findV Z (unB s)).getD zeroPv), .bool (findV Z (unB s)).isSome]) ∧ Fr None' w w' := by
  have HL := toHid8 hn
  have HRow := toHid8 hr
  have i0 : (n : Int) ≤ 1000000 := by omega
  obtain ⟨R, hR⟩ : ∃ R, findV Z (unB s) = R := ⟨_, rfl⟩
  have HR := toHid8 hR
  rw [hR]
  obtain ⟨b0, hb0⟩ : ∃ b, w.heap.size = b := ⟨_, rfl⟩
  obtain ⟨w1, hw1⟩ : ∃ y, w.alloc (.cells #[.string ⟨#[]⟩, .slice none 0 0, .slice none 0 0] 37) = y := ⟨_, rfl⟩
  have HB0 := toHid8 (show Box3 w1 b0 (.string ⟨#[]⟩) (.slice none 0 0) (.slice none 0 0) from by rw [← hw1, ← hb0]; exact Box3.new w _ _ _)
  have HF0 := toHid8 (show Fr None' w w1 from hw1 ▸ Fr.alloc None' w _)
  have HZ0 := toHid8 hb0
  clear hn hr hl hR
  go_enter Tryz.func24, Tryz.ntmps24
  go_wp2_with fail
  go_loopw [6] (fun vi wr => ∃ k : Nat, k ≤ n ∧ vi = .int .i64 k ∧ Hid (Fr None' w1 wr) ∧ Hid (∀ d ∈ Z.take k, decide (unB d.x.name = unB s) = false)) (fun vi _ => n - (intOf vi).toNat)
  case atStart => exact ⟨0, Nat.zero_le _, rfl, Fr.refl _ _, fun d h => by cases h⟩
  case round =>
    obtain ⟨k, hk, rfl, HF, HT⟩ := hrel
    have HBx := toHid8 (HB0.out.kept HF.out)
    have HFw := toHid8 (HF0.out.then7 HF.out)
    by_cases hlt : k < n
    case neg =>
      obtain rfl : R = none := by
        rw [← HR.out]
        unfold findV
        rw [List.find?_eq_none]
        have h := HT.out
        rw [List.take_of_length_le (by rw [HL.out]; omega)] at h
        intro d hd
        rw [h d hd]
        decide
      obtain ⟨x0, x1, x2⟩ := HBx.out.cells
      have z0 := HBx.out.frozen 0
      have z1 := HBx.out.frozen 1
      have z2 := HBx.out.frozen 2
      have i1 : ¬ (k : Int) < (n : Int) := by omega
      clear hlt
      go_wp2_with fail
      refine ret_two14 rfl rfl rfl rfl (HBx.out.all14 _ _ _) ⟨rfl, HFw.out.trans (setP14_fr _ _ _ _ _) (fun i e => Or.inr (by have := HZ0.out; omega))⟩
    case pos =>
      have hka : k < Z.length := by rw [HL.out]; exact hlt
      obtain ⟨g, o, rfl, c0, c1, c2, -⟩ := HRow.out.kept HFw.out k _ (List.getElem?_eq_getElem hka)
      have HFi := toHid8 (show decide (unB Z[k].x.name = unB s) = true → R = some Z[k] from fun e => by
        rw [← HR.out]
        unfold findV
        rw [List.find?_eq_some_iff_append]
        refine ⟨e, Z.take k, Z.drop (k + 1), by rw [← List.drop_eq_getElem_cons hka, List.take_append_drop], fun a ha => by rw [HT.out a ha]; rfl⟩)
      have HNo := toHid8 (show decide (unB Z[k].x.name = unB s) = false → ∀ d ∈ Z.take (k + 1), decide (unB d.x.name = unB s) = false from fun e d hd => by
        rw [List.take_succ_eq_append_getElem hka] at hd
        rcases List.mem_append.1 hd with hd | hd
        · exact HT.out d hd
        · rw [List.mem_singleton.1 hd]; exact e)
      obtain ⟨d, hd⟩ : ∃ d, Z[k] = d := ⟨_, rfl⟩
      rw [hd] at c0 c1 c2 HFi HNo
      obtain ⟨N, hN⟩ : ∃ N, d.x.name = N := ⟨_, rfl⟩
      obtain ⟨nd, hnd⟩ : ∃ y, d.x.deps.length = y := ⟨_, rfl⟩
      obtain ⟨nb, hnb⟩ : ∃ y, d.x.body.length = y := ⟨_, rfl⟩
      have HM := toHid8 (show mkV d = .agg #[.string N, .slice d.pu nd d.cu, .slice d.pb nb d.cb] from by unfold mkV; rw [hN, hnd, hnb])
      rw [hN] at c0 HFi HNo
      rw [hnd] at c1
      rw [hnb] at c2
      have i3 : (k : Int) < (n : Int) := by omega
      have i4 : (0 : Int) ≤ (k : Int) := by omega
      have HLt := toHid8 hlt
      obtain ⟨x0, x1, x2⟩ := HBx.out.cells
      have z0 := HBx.out.frozen 0
      have z1 := HBx.out.frozen 1
      have z2 := HBx.out.frozen 2
      clear hlt hd hN hnd hnb
      by_cases he : N = s
      · subst he
        obtain rfl := HFi.out (by simp)
        go_wp2_with fail
        refine ret_two14 rfl rfl rfl rfl (HBx.out.all14 _ _ _) ⟨?_, HFw.out.trans (setP14_fr _ _ _ _ _) (fun i e => Or.inr (by have := HZ0.out; omega))⟩
        show _ = Ending.returned (.tuple #[mkV d, .bool true])
        rw [HM.out]
        rfl
      · have HN := toHid8 (HNo.out (decide_eq_false (fun e => he (unB_inj e))))
        obtain ⟨s1, s2⟩ := Lines.str_no he
        clear he
        go_wp2_with fail
        exact ⟨⟨k + 1, by have := HLt.out; omega, by go_num, HF.out, HN.out⟩, by simp [intOf]; have := HLt.out; omega⟩

end Go.Proofs.YtlabcbcccfbhjaaGreatDoor

namespace Go.Proofs.YtlabcbcccfbhjaaGreatDoor
open Go.RowKit Go.Maps Go.WideMaps
set_option maxRecDepth 100000

/-- What Order answers: its error, and its names. -/
def ordE (Z : List Pv) : Int × List B13 := match setV Z with
  | none => (1, [])
  | some T => match ordV T with
    | none => (141, [])
    | some O => (0, O)

theorem ordE_perm {Z Y : List Pv} (hp : Z.Perm Y) : ordE Z = ordE Y := by
  unfold ordE
  rw [setV_perm hp]

theorem OrdPost.told {Z : List Pv} {w w' : World} {e : Ending} (h : OrdPost w (setV Z) e w') : ∃ p c, e = .returned (.tuple #[.slice p (ordE Z).2.length c, .int .i64 (ordE Z).1]) ∧ StrsAt w' (.slice p (ordE Z).2.length c) ((ordE Z).2.map mkB) ∧ Fr None' w w' := by
  obtain ⟨h1, h2⟩ := h
  unfold ordE
  cases hs : setV Z with
  | none =>
    obtain ⟨rfl, f⟩ := h2 hs
    exact ⟨none, 0, rfl, strs_none w', f⟩
  | some T =>
    obtain ⟨a, b, f⟩ := h1 T hs
    cases ho : ordV T with
    | none =>
      obtain rfl := b ho
      simp only [ho]
      exact ⟨none, 0, rfl, strs_none w', f⟩
    | some O =>
      rw [ho] at a b
      obtain ⟨p, c, rfl, hst, _⟩ := names_some (err := 141) rfl (show NamesPost w (some O) 141 e w' from ⟨a, b, f⟩)
      simp only [ho]
      exact ⟨p, c, rfl, hst, f⟩

theorem ordE_ok {Z : List Pv} (h : (ordE Z).1 = 0) : ∃ T, setV Z = some T ∧ ordV T = some (ordE Z).2 := by
  unfold ordE at h ⊢
  cases hs : setV Z with
  | none => rw [hs] at h; exact absurd h (by decide)
  | some T =>
    rw [hs] at h
    cases ho : ordV T with
    | none => simp only [ho] at h; exact absurd h (by decide)
    | some O => exact ⟨T, rfl, by simp only [ho]⟩

theorem ordE_no {Z : List Pv} (h : ¬ (ordE Z).1 = 0) : (ordE Z).2 = [] := by
  unfold ordE at h ⊢
  cases hs : setV Z with
  | none => rfl
  | some T =>
    rw [hs] at h
    cases ho : ordV T with
    | none => simp only [ho]
    | some O => simp only [ho] at h; exact absurd trivial h

theorem setV_full {Z : List Pv} {T : List (Kv Pv)} (h : setV Z = some T) : T.length = Z.length := by
  unfold setV at h
  split at h
  · rw [setGo_len h]; simp
  · cases h

theorem ordE_len {Z : List Pv} : (ordE Z).2.length ≤ 256 := by
  by_cases h : (ordE Z).1 = 0
  · obtain ⟨T, hT, hO⟩ := ordE_ok h
    rw [ordV_len hO]
    exact setV_len hT
  · rw [ordE_no h]; decide

/-- Each name that is told is one of a patch whose Deps are told ahead, and is told once. -/
theorem order_plain {Z : List Pv} {T : List (Kv Pv)} {O : List B13} (hZ : setV Z = some T) (hO : ordV T = some O) {i : Nat} (hi : i < O.length) :
    ∃ d ∈ Z, findV Z O[i] = some d ∧ hasB ((O.map mkB).take i) (mkB O[i]) = false ∧ d.x.deps.all (hasB ((O.map mkB).take i)) = true := by
  obtain ⟨hT, hget⟩ := setV_get hZ
  have hn := ordV_at hO i hi
  unfold ordNext at hn
  have hr := List.find?_some hn
  have hm := List.mem_of_find?_eq_some hn
  obtain ⟨t, ht, he⟩ := List.mem_map.1 hm
  obtain ⟨hz, hk⟩ := (setV_is hZ t).1 ht
  have e : ((O.map mkB).take i).map unB = O.take i := by
    rw [← List.map_take, List.map_map]
    exact List.map_id _
  have hdn : downN T O[i] = t.2.x.deps := by unfold downN; rw [← he, hT.get ht]
  unfold readyV at hr
  rw [hdn, Bool.and_eq_true, decide_eq_true_eq, List.all_eq_true] at hr
  refine ⟨t.2, hz, ?_, ?_, List.all_eq_true.2 (fun x hx => ?_)⟩
  · unfold findV
    cases hf : Z.find? (fun d => decide (unB d.x.name = O[i])) with
    | none =>
      rw [List.find?_eq_none] at hf
      exact absurd (decide_eq_true (show unB t.2.x.name = O[i] by rw [← hk, he])) (hf _ hz)
    | some d =>
      have h1 : unB d.x.name = O[i] := by simpa using List.find?_some hf
      have h2 := hget d (List.mem_of_find?_eq_some hf)
      have h3 := hget t.2 hz
      rw [h1] at h2
      rw [← hk, he] at h3
      rw [h2] at h3
      exact h3
  · unfold hasB
    rw [e, un_mk]
    exact decide_eq_false hr.1
  · rw [hasB_iff, e]
    have := hr.2 (unB x) (List.mem_map.2 ⟨x, hx, rfl⟩)
    simpa using this

end Go.Proofs.YtlabcbcccfbhjaaGreatDoor

namespace Go.Proofs.YtlabcbcccfbhjaaGreatDoor
open Go.RowKit Go.Maps Go.WideMaps
set_option maxRecDepth 100000

theorem turn_step {Z : List Pv} {k : Nat} (h : k < Z.length) : (Z.drop k).reverse = (Z.drop (k + 1)).reverse ++ [Z[k]] := by
  rw [List.drop_eq_getElem_cons h, List.reverse_cons]

structure RO (w : World) (b go oo no co i : Nat) (X : ByteArray) (pu : Option Addr) (nd cu : Nat) (t0 t1 t2 t3 t4 t5 t6 t7 t8 t9 t10 t11 t12 t13 t14 t15 t16 t17 t18 t19 t20 : Value) (S : Nat → Bool) (w' : World) : Prop where
  fr : Fr None' w w'
  o0 : S 0 = true → t0 = .bool true
  o1 : S 1 = true → t1 = .bool false
  o2 : S 2 = true → t2 = .bool false
  o3 : S 3 = true → t3 = .slice (some ⟨go, oo, none⟩) no co
  o4 : S 4 = true → t4 = .int .i64 i
  o5 : S 5 = true → t5 = .slice (some ⟨go, oo, none⟩) i co
  o6 : S 6 = true → t6 = .slice (some ⟨go, oo, none⟩) no co
  o7 : S 7 = true → t7 = .int .i64 i
  o8 : S 8 = true → t8 = .pointer (some ⟨go, oo + i, none⟩)
  o9 : S 9 = true → t9 = .string X
  o10 : S 10 = true → t10 = .bool false
  o11 : S 11 = true → t11 = .bool false
  o12 : S 12 = true → t12 = .bool false
  o13 : S 13 = true → t13 = .slice (some ⟨go, oo, none⟩) no co
  o14 : S 14 = true → t14 = .int .i64 i
  o15 : S 15 = true → t15 = .slice (some ⟨go, oo, none⟩) i co
  o16 : S 16 = true → t16 = .pointer (some ⟨b, 1, none⟩)
  o17 : S 17 = true → t17 = .slice pu nd cu
  o18 : S 18 = true → t18 = .bool true
  o19 : S 19 = true → t19 = .bool false
  o20 : S 20 = true → t20 = .bool false

def ROI (w : World) (b go oo no co i : Nat) (X : ByteArray) (pu : Option Addr) (nd cu : Nat) (T : Value → Value → Value → Value → Value → Value → Value → Value → Value → Value → Value → Value → Value → Value → Value → Value → Value → Value → Value → Value → Value → Array Value) (S : Nat → Bool) (a : Act) (w' : World) : Prop := ∃ t0 t1 t2 t3 t4 t5 t6 t7 t8 t9 t10 t11 t12 t13 t14 t15 t16 t17 t18 t19 t20, a = { tmps := T t0 t1 t2 t3 t4 t5 t6 t7 t8 t9 t10 t11 t12 t13 t14 t15 t16 t17 t18 t19 t20, defers := [] } ∧ RO w b go oo no co i X pu nd cu t0 t1 t2 t3 t4 t5 t6 t7 t8 t9 t10 t11 t12 t13 t14 t15 t16 t17 t18 t19 t20 S w'

set_option maxHeartbeats 16000000 in
theorem order_walk (va : Option Addr) (n c : Nat) (Z : List Pv) (w : World) (hn : Z.length = n) (hr : RowV w va Z) (hb : BigV Z) :
    Calls Tryz.prog 4 #[.slice va n c] w fun e w' => e = .returned (.bool true) ∧ Fr None' w w' := by
  have HL := toHid8 hn
  have HRow := toHid8 hr
  have HB := toHid8 hb
  have q1 := head14_any w
  clear hn hr hb
  go_enter Tryz.func4, Tryz.ntmps4
  go_wp2_with fail
  refine q1.mono ?_
  rintro e w1 ⟨rfl, f1⟩
  have HF1 := toHid8 f1
  have q2 := greatList14_any va n c Z w1 HL.out (HRow.out.kept f1) HB.out
  clear q1 f1
  go_wp2_with fail
  refine q2.mono ?_
  rintro e w2 ⟨g, rfl, hg, f2⟩
  have HF2 := toHid8 (HF1.out.then7 f2)
  have HG := toHid8 hg
  clear q2 f2 hg
  cases g with
  | true =>
    go_wp2_with fail
    go_ret
    exact ⟨rfl, HF2.out⟩
  | false =>
    have hn60 : n ≤ 60 := by have := (HG.out rfl).1; rw [HL.out] at this; exact this
    have i0 : (n : Int) ≤ 60 := by omega
    have HS := toHid8 (show ∀ d ∈ Z, SmallPa d.x from fun d hd => ((HG.out rfl).2 d hd).small14)
    have q3 := order14_any va n c Z w2 HL.out (HRow.out.kept HF2.out) (by omega) HS.out
    have H60 := toHid8 hn60
    clear hn60
    go_wp2_with fail
    refine q3.mono ?_
    intro e w3 hP
    obtain ⟨p, co, rfl, hst, f3⟩ := OrdPost.told hP
    obtain ⟨no, hno⟩ : ∃ no, (ordE Z).2.length = no := ⟨_, rfl⟩
    obtain ⟨er, her⟩ : ∃ er, (ordE Z).1 = er := ⟨_, rfl⟩
    rw [hno] at hst
    rw [hno, her]
    have HNo := toHid8 hno
    have HEr := toHid8 her
    have HSt := toHid8 hst
    have HF3 := toHid8 (HF2.out.then7 f3)
    have HY0 := toHid8 (show OwnA w3.heap.size w3 (.slice none 0 0) [] from OwnA.nil _ _)
    clear q3 hP f3 hst hno her
    go_wp2_with fail
    go_loopw [6, 7] (fun vt vi wr => ∃ (m : Nat) (z : Int) (vp : Option Addr) (ln cp : Nat), m ≤ n ∧ vi = .int .i64 z ∧ vt = .slice vp ln cp ∧ Hid (z + 1 = m) ∧ Hid (OwnA w3.heap.size wr (.slice vp ln cp) (Z.drop m).reverse) ∧ Hid (Fr None' w3 wr)) (fun _ vi _ => (intOf vi + 1).toNat)
    case atStart => exact ⟨n, (n : Int) - 1, none, 0, 0, Nat.le_refl _, rfl, rfl, by show _ = _; omega, by
      show OwnA _ _ _ _
      rw [List.drop_of_length_le (by rw [HL.out]; exact Nat.le_refl _)]
      exact HY0.out, Fr.refl _ _⟩
    case round =>
      obtain ⟨m, z, vp, ln, cp, hm, rfl, rfl, HZm, HO, HF⟩ := hrel
      by_cases hz : 0 ≤ z
      case pos =>
        obtain ⟨k, rfl⟩ : ∃ k : Nat, z = k := ⟨z.toNat, by omega⟩
        have ekm : m = k + 1 := by have := HZm.out; omega
        have HKm := toHid8 ekm
        have hkn : k < n := by omega
        have hka : k < Z.length := by rw [HL.out]; exact hkn
        have HSt1 := toHid8 (turn_step hka)
        obtain ⟨g, o, rfl, c0, c1, c2, -⟩ := HRow.out.kept (HF3.out.then7 HF.out) k _ (List.getElem?_eq_getElem hka)
        obtain ⟨-, -, -, -, -, -, hin⟩ := HRow.out k _ (List.getElem?_eq_getElem hka)
        obtain ⟨d, hd⟩ : ∃ d, Z[k] = d := ⟨_, rfl⟩
        rw [hd] at c0 c1 c2 hin HSt1
        obtain ⟨w5, hw5⟩ : ∃ x, wr.alloc (.cells #[.string d.x.name, .slice d.pu d.x.deps.length d.cu, .slice d.pb d.x.body.length d.cb] 37) = x := ⟨_, rfl⟩
        have F5 : Fr None' wr w5 := hw5 ▸ Fr.alloc None' wr _
        have B5 : Box3 w5 wr.heap.size (.string d.x.name) (.slice d.pu d.x.deps.length d.cu) (.slice d.pb d.x.body.length d.cb) := hw5 ▸ Box3.new wr _ _ _
        have FW5 : Fr None' w w5 := (HF3.out.then7 HF.out).then7 F5
        have hown := HO.out.fr F5
        have hge : ∀ j, (Value.slice vp ln cp).ownBlock = some j → w3.heap.size ≤ j := fun j e => (HO.out.own e).1
        obtain ⟨v6, w6, hr6, hO6, f6⟩ := hown.push B5 (fun w' f => hin.kept (FW5.trans f (fun j e => Or.inr (by have h1 := hge j e; have h2 := HF3.out.size; omega)))) (by
          rw [List.length_reverse, List.length_drop, HL.out]
          have := H60.out
          omega) (by have h1 := HF.out.size; have h2 := F5.size; omega)
        have HO6 := toHid8 (show OwnA w3.heap.size w6 v6 (Z.drop k).reverse from by rw [HSt1.out]; rw [← HKm.out]; exact hO6)
        have HF6 := toHid8 (show Fr None' w3 w6 from (HF.out.then7 F5).trans f6 (fun j e => Or.inr (hge j e)))
        obtain ⟨v6a, v6c, hv6, -, -⟩ := hO6.rows
        obtain ⟨l6, hl6⟩ : ∃ y, ((Z.drop m).reverse ++ [d]).length = y := ⟨_, rfl⟩
        rw [hl6] at hv6
        subst hv6
        have i3 : (k : Int) < (n : Int) := by omega
        have i4 : (0 : Int) ≤ (k : Int) := by omega
        have HHk := toHid8 hkn
        clear hka hkn hd hin FW5 hown hge hO6 f6 F5 B5 hl6 ekm hz
        go_wp2_with (at_builtin; refine app_list9 rfl _ _ rfl rfl rfl hr6 ?_)
        exact ⟨⟨k, (k : Int) - 1, v6a, l6, v6c, by have := HHk.out; omega, by go_num, rfl, by show _ = _; omega, HO6.out, HF6.out⟩, by simp [intOf]⟩
      case neg =>
        have em : m = 0 := by have := HZm.out; omega
        subst em
        have HOR := toHid8 (show OwnA w3.heap.size wr (.slice vp ln cp) Z.reverse from by have h := HO.out; rwa [List.drop_zero] at h)
        obtain ⟨vp', cp', hvp, -, hrow⟩ := HOR.out.rows
        injection hvp with e1 e2 e3
        subst e1 e3
        rw [List.length_reverse, HL.out] at e2
        subst e2
        have q5 := order14_any vp ln cp Z.reverse wr (by rw [List.length_reverse]; exact HL.out) hrow (by have := H60.out; omega) (fun d hd => HS.out d (List.mem_reverse.1 hd))
        have ez : z = -1 := by have := HZm.out; omega
        subst ez
        clear hrow hz
        go_wp2_with fail
        refine q5.mono ?_
        intro e w4 hP
        obtain ⟨p4, c4, rfl, hst, f4⟩ := OrdPost.told hP
        rw [ordE_perm (List.reverse_perm Z)] at hst ⊢
        rw [HNo.out] at hst
        rw [HNo.out, HEr.out]
        have HF4 := toHid8 ((HF3.out.then7 HF.out).then7 f4)
        have HSa := toHid8 (HSt.out.kept (HF.out.then7 f4))
        have HSb := toHid8 hst
        clear q5 hP f4 hst
        have hlk : ((ordE Z).2.map mkB).length = no := by rw [List.length_map]; exact HNo.out
        have h256 : no ≤ 256 := by have := ordE_len (Z := Z); rw [HNo.out] at this; exact this
        have q6 : Calls Tryz.prog 16 #[.slice p no co, .slice p4 no c4] w4 fun e w' => e = .returned (.bool true) ∧ Fr None' w4 w' := by
          obtain ⟨x1, y1, e1, -, -, ra⟩ := HSa.out
          obtain ⟨x2, y2, e2, -, -, rb⟩ := HSb.out
          injection e1 with a1 a2 a3
          injection e2 with b1 b2 b3
          subst a1 b1
          have h := Lines.same_any p p4 co c4 _ _ w4 ra rb (by rw [hlk]; omega)
          rw [hlk] at h
          exact h.mono fun e w' ⟨h1, h2⟩ => ⟨by rw [h1, decide_eq_true rfl], ofLN h2⟩
        clear hlk
        go_wp2_with fail
        refine q6.mono ?_
        rintro e w5 ⟨rfl, f5⟩
        have HF5 := toHid8 (HF4.out.then7 f5)
        have HSc := toHid8 (HSa.out.kept f5)
        clear q6 f5
        by_cases he : er = 0
        case neg =>
          have hn0 : no = 0 := by
            have := ordE_no (Z := Z) (by rw [HEr.out]; exact he)
            rw [← HNo.out, this]; rfl
          subst hn0
          have b1 : (er != 0) = true := by simpa using he
          go_wp2_with fail
          go_ret
          exact ⟨rfl, HF5.out⟩
        case pos =>
          subst he
          obtain ⟨T, hT, hO⟩ := ordE_ok HEr.out
          have hnl : no = ln := by
            have h1 := ordV_len hO
            have h2 := setV_full hT
            have h3 := HL.out
            have h4 := HNo.out
            omega
          subst hnl
          obtain ⟨O, hOe⟩ : ∃ O, (ordE Z).2 = O := ⟨_, rfl⟩
          rw [hOe] at HSc HNo hO
          have HO := toHid8 (And.intro hT hO)
          have i1 : (no : Int) ≤ 256 := by omega
          clear hT hO hOe HSt HSa HSb
          go_wp2_with fail
          go_loopw [10] (fun vi wx => ∃ i : Nat, i ≤ no ∧ vi = .int .i64 i ∧ Hid (Fr None' w5 wx)) (fun vi _ => no - (intOf vi).toNat)
          case atStart => exact ⟨0, Nat.zero_le _, rfl, Fr.refl _ _⟩
          case round =>
            obtain ⟨i, hi, rfl, HFi⟩ := hrel
            have HFw := toHid8 (HF5.out.then7 HFi.out)
            by_cases hit : i < no
            case neg =>
              have i6 : ¬ (i : Int) < (no : Int) := by omega
              clear hit
              go_wp2_with fail
              go_ret
              exact ⟨rfl, HFw.out⟩
            case pos =>
              have hiO : i < O.length := by rw [HNo.out]; exact hit
              have hiM : i < (O.map mkB).length := by rw [List.length_map]; exact hiO
              obtain ⟨d, -, hfd, hhas, hall⟩ := order_plain HO.out.1 HO.out.2 hiO
              obtain ⟨go, oo, hpo, hco⟩ := strs_two (HSc.out.kept HFi.out) (List.getElem?_eq_getElem hiM)
              subst hpo
              have hcap := strs_cap14 HSc.out
              rw [List.getElem_map] at hco
              obtain ⟨x, hx⟩ : ∃ x, mkB O[i] = x := ⟨_, rfl⟩
              have hux : unB x = O[i] := by rw [← hx]; exact un_mk _
              rw [hx] at hco hhas
              rw [← hux] at hfd
              have q7 := find14_any va no c Z x wr HL.out (HRow.out.kept HFw.out) (by omega)
              rw [hfd] at q7
              have hdz : d ∈ Z := by unfold findV at hfd; exact List.mem_of_find?_eq_some hfd
              obtain ⟨kd, hkd, ekd⟩ := List.getElem_of_mem hdz
              obtain ⟨-, -, -, -, -, -, hin⟩ := HRow.out kd _ (List.getElem?_eq_getElem hkd)
              rw [ekd] at hin
              have HIn := toHid8 hin
              have HFd := toHid8 (((HG.out (by trivial)).2 d hdz).deps.1)
              have HHas0 := toHid8 hhas
              have HAll0 := toHid8 hall
              have i3 : (i : Int) < (no : Int) := by omega
              have i4 : (0 : Int) ≤ (i : Int) := by omega
              have i5 : (i : Int) ≤ (co : Int) := by rw [List.length_map] at hcap; omega
              have HIt := toHid8 hit
              have HCo := toHid8 hco
              clear hfd hhas hall hx hux hdz hkd ekd hin hcap hit hco
              simp only [Option.getD_some, Option.isSome_some, mkV] at q7
              obtain ⟨nd, hnd⟩ : ∃ y, d.x.deps.length = y := ⟨_, rfl⟩
              obtain ⟨nb, hnb⟩ : ∃ y, d.x.body.length = y := ⟨_, rfl⟩
              obtain ⟨N, hN⟩ : ∃ y, d.x.name = y := ⟨_, rfl⟩
              have HNd := toHid8 hnd
              rw [hnd, hnb, hN] at q7
              have hco := HCo.out
              clear hnd hnb hN
              go_wp2_with fail
              refine q7.mono ?_
              rintro e w6 ⟨rfl, f6⟩
              obtain ⟨w7, hw7⟩ : ∃ y, w6.alloc (.cells #[.string N, .slice d.pu nd d.cu, .slice d.pb nb d.cb] 37) = y := ⟨_, rfl⟩
              have F7 : Fr None' w6 w7 := hw7 ▸ Fr.alloc None' w6 _
              have B7 : Box3 w7 w6.heap.size (.string N) (.slice d.pu nd d.cu) (.slice d.pb nb d.cb) := hw7 ▸ Box3.new w6 _ _ _
              obtain ⟨x0, x1, x2⟩ := B7.cells
              have HF7 := toHid8 (f6.then7 F7)
              have hco := HF7.out.keepCell HCo.out (fun e => e)
              have HTk := toHid8 (strs_take14 (HSc.out.kept (HFi.out.then7 HF7.out)) (by rw [List.length_map]; exact HNo.out) hi)
              have HlT := toHid8 (show ((O.map mkB).take i).length = i by rw [List.length_take, List.length_map]; omega)
              have HHas := toHid8 (fun wx (f : Fr None' w7 wx) => has14_any _ i co _ x wx HlT.out (HTk.out.kept f) (by omega))
              have HAll := toHid8 (fun wx (f : Fr None' w7 wx) => hasAll14_any _ i co _ d.pu d.x.deps.length d.cu d.x.deps wx HlT.out (HTk.out.kept f) (by omega) rfl (HIn.out.deps.kept ((HFw.out.then7 HF7.out).then7 f)) (by have := HFd.out; omega))
              rw [HHas0.out] at HHas
              rw [HAll0.out, HNd.out] at HAll
              clear q7 f6 F7 B7
              go_wp2_with fail
              refine (wpIn_wide (n := 1)).1 (region_inv_g (by kernel_rfl) rfl (by decide +kernel) (ROI w7 w6.heap.size go oo no co i x d.pu nd d.cu (fun t0 t1 t2 t3 t4 t5 t6 t7 t8 t9 t10 t11 t12 t13 t14 t15 t16 t17 t18 t19 t20 => #[.slice va no c, undef, u2, .bool true, .slice (some ⟨go, oo, none⟩) no co, .int .i64 0, .slice vp no cp, .int .i64 (-1), .slice p4 no c4, .int .i64 0, .int .i64 i, .pointer (some ⟨w6.heap.size, 0, none⟩), .bool true, .bool true, .slice va no c, .bool false, undef, .tuple #[.slice (some ⟨go, oo, none⟩) no co, .int .i64 0], .slice va no c, .tuple #[.slice (some ⟨go, oo, none⟩) no co, .int .i64 0], .slice (some ⟨go, oo, none⟩) no co, .int .i64 0, .slice va no c, .int .i64 no, .int .i64 ((no : Int) - 1), .int .i64 (-1), .bool false, u27, u28, u29, u30, u31, u32, u33, u34, u35, .tuple #[.slice p4 no c4, .int .i64 0], .slice vp no cp, .tuple #[.slice p4 no c4, .int .i64 0], .slice p4 no c4, .int .i64 0, .int .i64 0, .int .i64 0, .bool false, .bool false, .slice (some ⟨go, oo, none⟩) no co, .slice p4 no c4, .bool true, .bool false, .bool false, .int .i64 0, .bool false, undef, undef, undef, undef, undef, undef, .slice (some ⟨go, oo, none⟩) no co, .int .i64 no, .slice va no c, .int .i64 no, .bool false, .int .i64 i, .slice (some ⟨go, oo, none⟩) no co, .int .i64 no, .bool true, u67, u68, .tuple #[.agg #[.string N, .slice d.pu nd d.cu, .slice d.pb nb d.cb], .bool true], .slice va no c, .slice (some ⟨go, oo, none⟩) no co, .int .i64 i, .pointer (some ⟨go, oo + i, none⟩), .string x, .tuple #[.agg #[.string N, .slice d.pu nd d.cu, .slice d.pb nb d.cb], .bool true], .agg #[.string N, .slice d.pu nd d.cu, .slice d.pb nb d.cb], .bool true, t0, t1, t2, t3, t4, t5, t6, t7, t8, t9, t10, t11, t12, t13, t14, t15, t16, t17, t18, t19, t20, undef])) ?h0 ?step ?done)
              case h0 => exact ⟨u78, u79, u80, u81, u82, u83, u84, u85, u86, u87, u88, u89, u90, u91, u92, u93, u94, u95, u96, u97, u98, rfl, Fr.drew None' w7, (fun h => by cases h), (fun h => by cases h), (fun h => by cases h), (fun h => by cases h), (fun h => by cases h), (fun h => by cases h), (fun h => by cases h), (fun h => by cases h), (fun h => by cases h), (fun h => by cases h), (fun h => by cases h), (fun h => by cases h), (fun h => by cases h), (fun h => by cases h), (fun h => by cases h), (fun h => by cases h), (fun h => by cases h), (fun h => by cases h), (fun h => by cases h), (fun h => by cases h), (fun h => by cases h)⟩
              case step =>
                rintro S a w' ⟨t0, t1, t2, t3, t4, t5, t6, t7, t8, t9, t10, t11, t12, t13, t14, t15, t16, t17, t18, t19, t20, rfl, R⟩
                dsimp only
                refine StepsG.cons (fun h0 hd => ?s0) (StepsG.cons (fun h0 hd => ?s1) (StepsG.cons (fun h0 hd => ?s2) (StepsG.cons (fun h0 hd => ?s3) (StepsG.cons (fun h0 hd => ?s4) (StepsG.cons (fun h0 hd => ?s5) (StepsG.cons (fun h0 hd => ?s6) (StepsG.cons (fun h0 hd => ?s7) (StepsG.cons (fun h0 hd => ?s8) (StepsG.cons (fun h0 hd => ?s9) (StepsG.cons (fun h0 hd => ?s10) (StepsG.cons (fun h0 hd => ?s11) (StepsG.cons (fun h0 hd => ?s12) (StepsG.cons (fun h0 hd => ?s13) (StepsG.cons (fun h0 hd => ?s14) (StepsG.cons (fun h0 hd => ?s15) (StepsG.cons (fun h0 hd => ?s16) (StepsG.cons (fun h0 hd => ?s17) (StepsG.cons (fun h0 hd => ?s18) (StepsG.cons (fun h0 hd => ?s19) (StepsG.cons (fun h0 hd => ?s20) (StepsG.nil)))))))))))))))))))))
                case s0 =>
                 as_aux_lemma =>
                  clear hd h0
                  refine StepG.want rfl ?_
                  go_simp
                  exact ⟨_, _, _, _, _, _, _, _, _, _, _, _, _, _, _, _, _, _, _, _, _, rfl, R.fr, (fun _ => rfl), R.o1, R.o2, R.o3, R.o4, R.o5, R.o6, R.o7, R.o8, R.o9, R.o10, R.o11, R.o12, R.o13, R.o14, R.o15, R.o16, R.o17, R.o18, R.o19, R.o20⟩
                case s1 =>
                 as_aux_lemma =>
                  have k0 : S 0 = true := hd { on := 0, ground := .data } (by simp) rfl
                  have e0 := R.o0 k0
                  subst e0
                  clear hd h0 k0
                  refine StepG.want rfl ?_
                  go_simp
                  exact ⟨_, _, _, _, _, _, _, _, _, _, _, _, _, _, _, _, _, _, _, _, _, rfl, R.fr, (fun _ => rfl), (fun _ => rfl), R.o2, R.o3, R.o4, R.o5, R.o6, R.o7, R.o8, R.o9, R.o10, R.o11, R.o12, R.o13, R.o14, R.o15, R.o16, R.o17, R.o18, R.o19, R.o20⟩
                case s2 =>
                 as_aux_lemma =>
                  have k1 : S 1 = true := hd { on := 1, ground := .data } (by simp) rfl
                  have e1 := R.o1 k1
                  subst e1
                  clear hd h0 k1
                  refine StepG.want rfl ?_
                  go_simp
                  exact ⟨_, _, _, _, _, _, _, _, _, _, _, _, _, _, _, _, _, _, _, _, _, rfl, R.fr, R.o0, (fun _ => rfl), (fun _ => rfl), R.o3, R.o4, R.o5, R.o6, R.o7, R.o8, R.o9, R.o10, R.o11, R.o12, R.o13, R.o14, R.o15, R.o16, R.o17, R.o18, R.o19, R.o20⟩
                case s3 =>
                 as_aux_lemma =>
                  have k2 : S 2 = true := hd { on := 2, ground := .guard } (by simp) rfl
                  have e2 := R.o2 k2
                  subst e2
                  clear hd h0 k2
                  refine StepG.want rfl ?_
                  go_simp
                  exact ⟨_, _, _, _, _, _, _, _, _, _, _, _, _, _, _, _, _, _, _, _, _, rfl, R.fr, R.o0, R.o1, (fun _ => rfl), (fun _ => rfl), R.o4, R.o5, R.o6, R.o7, R.o8, R.o9, R.o10, R.o11, R.o12, R.o13, R.o14, R.o15, R.o16, R.o17, R.o18, R.o19, R.o20⟩
                case s4 =>
                 as_aux_lemma =>
                  have k2 : S 2 = true := hd { on := 2, ground := .guard } (by simp) rfl
                  have e2 := R.o2 k2
                  subst e2
                  clear hd h0 k2
                  refine StepG.want rfl ?_
                  go_simp
                  exact ⟨_, _, _, _, _, _, _, _, _, _, _, _, _, _, _, _, _, _, _, _, _, rfl, R.fr, R.o0, R.o1, (fun _ => rfl), R.o3, (fun _ => rfl), R.o5, R.o6, R.o7, R.o8, R.o9, R.o10, R.o11, R.o12, R.o13, R.o14, R.o15, R.o16, R.o17, R.o18, R.o19, R.o20⟩
                case s5 =>
                 as_aux_lemma =>
                  have k2 : S 2 = true := hd { on := 2, ground := .guard } (by simp) rfl
                  have e2 := R.o2 k2
                  subst e2
                  have k3 : S 3 = true := hd { on := 3, ground := .data } (by simp) rfl
                  have e3 := R.o3 k3
                  subst e3
                  have k4 : S 4 = true := hd { on := 4, ground := .data } (by simp) rfl
                  have e4 := R.o4 k4
                  subst e4
                  clear hd h0 k2 k3 k4
                  refine StepG.want rfl ?_
                  go_simp
                  exact ⟨_, _, _, _, _, _, _, _, _, _, _, _, _, _, _, _, _, _, _, _, _, rfl, R.fr, R.o0, R.o1, (fun _ => rfl), (fun _ => rfl), (fun _ => rfl), (fun _ => rfl), R.o6, R.o7, R.o8, R.o9, R.o10, R.o11, R.o12, R.o13, R.o14, R.o15, R.o16, R.o17, R.o18, R.o19, R.o20⟩
                case s6 =>
                 as_aux_lemma =>
                  have k2 : S 2 = true := hd { on := 2, ground := .guard } (by simp) rfl
                  have e2 := R.o2 k2
                  subst e2
                  clear hd h0 k2
                  refine StepG.want rfl ?_
                  go_simp
                  exact ⟨_, _, _, _, _, _, _, _, _, _, _, _, _, _, _, _, _, _, _, _, _, rfl, R.fr, R.o0, R.o1, (fun _ => rfl), R.o3, R.o4, R.o5, (fun _ => rfl), R.o7, R.o8, R.o9, R.o10, R.o11, R.o12, R.o13, R.o14, R.o15, R.o16, R.o17, R.o18, R.o19, R.o20⟩
                case s7 =>
                 as_aux_lemma =>
                  have k2 : S 2 = true := hd { on := 2, ground := .guard } (by simp) rfl
                  have e2 := R.o2 k2
                  subst e2
                  clear hd h0 k2
                  refine StepG.want rfl ?_
                  go_simp
                  exact ⟨_, _, _, _, _, _, _, _, _, _, _, _, _, _, _, _, _, _, _, _, _, rfl, R.fr, R.o0, R.o1, (fun _ => rfl), R.o3, R.o4, R.o5, R.o6, (fun _ => rfl), R.o8, R.o9, R.o10, R.o11, R.o12, R.o13, R.o14, R.o15, R.o16, R.o17, R.o18, R.o19, R.o20⟩
                case s8 =>
                 as_aux_lemma =>
                  have k2 : S 2 = true := hd { on := 2, ground := .guard } (by simp) rfl
                  have e2 := R.o2 k2
                  subst e2
                  have k6 : S 6 = true := hd { on := 6, ground := .data } (by simp) rfl
                  have e6 := R.o6 k6
                  subst e6
                  have k7 : S 7 = true := hd { on := 7, ground := .data } (by simp) rfl
                  have e7 := R.o7 k7
                  subst e7
                  clear hd h0 k2 k6 k7
                  refine StepG.want rfl ?_
                  go_simp
                  exact ⟨_, _, _, _, _, _, _, _, _, _, _, _, _, _, _, _, _, _, _, _, _, rfl, R.fr, R.o0, R.o1, (fun _ => rfl), R.o3, R.o4, R.o5, (fun _ => rfl), (fun _ => rfl), (fun _ => rfl), R.o9, R.o10, R.o11, R.o12, R.o13, R.o14, R.o15, R.o16, R.o17, R.o18, R.o19, R.o20⟩
                case s9 =>
                 as_aux_lemma =>
                  have k2 : S 2 = true := hd { on := 2, ground := .guard } (by simp) rfl
                  have e2 := R.o2 k2
                  subst e2
                  have k8 : S 8 = true := hd { on := 8, ground := .data } (by simp) rfl
                  have e8 := R.o8 k8
                  subst e8
                  have q0 := R.fr.keepCell hco (fun e => e)
                  clear hd h0 k2 k8
                  refine StepG.want rfl ?_
                  go_simp
                  exact ⟨_, _, _, _, _, _, _, _, _, _, _, _, _, _, _, _, _, _, _, _, _, rfl, R.fr, R.o0, R.o1, (fun _ => rfl), R.o3, R.o4, R.o5, R.o6, R.o7, (fun _ => rfl), (fun _ => rfl), R.o10, R.o11, R.o12, R.o13, R.o14, R.o15, R.o16, R.o17, R.o18, R.o19, R.o20⟩
                case s10 =>
                 as_aux_lemma =>
                  have k2 : S 2 = true := hd { on := 2, ground := .guard } (by simp) rfl
                  have e2 := R.o2 k2
                  subst e2
                  have k5 : S 5 = true := hd { on := 5, ground := .data } (by simp) rfl
                  have e5 := R.o5 k5
                  subst e5
                  have k9 : S 9 = true := hd { on := 9, ground := .data } (by simp) rfl
                  have e9 := R.o9 k9
                  subst e9
                  clear hd h0 k2 k5 k9
                  refine StepG.want rfl ?_
                  go_simp
                  refine ⟨trivial, (callsIn_wide.2 (HHas.out w' R.fr)).mono ?_⟩
                  rintro e w'' ⟨rfl, f⟩
                  exact ⟨_, _, _, _, _, _, _, _, _, _, _, _, _, _, _, _, _, _, _, _, _, rfl, R.fr.then7 f, R.o0, R.o1, (fun _ => rfl), R.o3, R.o4, (fun _ => rfl), R.o6, R.o7, R.o8, (fun _ => rfl), (fun _ => rfl), R.o11, R.o12, R.o13, R.o14, R.o15, R.o16, R.o17, R.o18, R.o19, R.o20⟩
                case s11 =>
                 as_aux_lemma =>
                  have k2 : S 2 = true := hd { on := 2, ground := .data } (by simp) rfl
                  have e2 := R.o2 k2
                  subst e2
                  have k10 : S 10 = true := hd { on := 10, ground := .data } (by simp) rfl
                  have e10 := R.o10 k10
                  subst e10
                  clear hd h0 k2 k10
                  refine StepG.want rfl ?_
                  go_simp
                  exact ⟨_, _, _, _, _, _, _, _, _, _, _, _, _, _, _, _, _, _, _, _, _, rfl, R.fr, R.o0, R.o1, (fun _ => rfl), R.o3, R.o4, R.o5, R.o6, R.o7, R.o8, R.o9, (fun _ => rfl), (fun _ => rfl), R.o12, R.o13, R.o14, R.o15, R.o16, R.o17, R.o18, R.o19, R.o20⟩
                case s12 =>
                 as_aux_lemma =>
                  have k11 : S 11 = true := hd { on := 11, ground := .data } (by simp) rfl
                  have e11 := R.o11 k11
                  subst e11
                  clear hd h0 k11
                  refine StepG.want rfl ?_
                  go_simp
                  exact ⟨_, _, _, _, _, _, _, _, _, _, _, _, _, _, _, _, _, _, _, _, _, rfl, R.fr, R.o0, R.o1, R.o2, R.o3, R.o4, R.o5, R.o6, R.o7, R.o8, R.o9, R.o10, (fun _ => rfl), (fun _ => rfl), R.o13, R.o14, R.o15, R.o16, R.o17, R.o18, R.o19, R.o20⟩
                case s13 =>
                 as_aux_lemma =>
                  have k12 : S 12 = true := hd { on := 12, ground := .guard } (by simp) rfl
                  have e12 := R.o12 k12
                  subst e12
                  clear hd h0 k12
                  refine StepG.want rfl ?_
                  go_simp
                  exact ⟨_, _, _, _, _, _, _, _, _, _, _, _, _, _, _, _, _, _, _, _, _, rfl, R.fr, R.o0, R.o1, R.o2, R.o3, R.o4, R.o5, R.o6, R.o7, R.o8, R.o9, R.o10, R.o11, (fun _ => rfl), (fun _ => rfl), R.o14, R.o15, R.o16, R.o17, R.o18, R.o19, R.o20⟩
                case s14 =>
                 as_aux_lemma =>
                  have k12 : S 12 = true := hd { on := 12, ground := .guard } (by simp) rfl
                  have e12 := R.o12 k12
                  subst e12
                  clear hd h0 k12
                  refine StepG.want rfl ?_
                  go_simp
                  exact ⟨_, _, _, _, _, _, _, _, _, _, _, _, _, _, _, _, _, _, _, _, _, rfl, R.fr, R.o0, R.o1, R.o2, R.o3, R.o4, R.o5, R.o6, R.o7, R.o8, R.o9, R.o10, R.o11, (fun _ => rfl), R.o13, (fun _ => rfl), R.o15, R.o16, R.o17, R.o18, R.o19, R.o20⟩
                case s15 =>
                 as_aux_lemma =>
                  have k12 : S 12 = true := hd { on := 12, ground := .guard } (by simp) rfl
                  have e12 := R.o12 k12
                  subst e12
                  have k13 : S 13 = true := hd { on := 13, ground := .data } (by simp) rfl
                  have e13 := R.o13 k13
                  subst e13
                  have k14 : S 14 = true := hd { on := 14, ground := .data } (by simp) rfl
                  have e14 := R.o14 k14
                  subst e14
                  clear hd h0 k12 k13 k14
                  refine StepG.want rfl ?_
                  go_simp
                  exact ⟨_, _, _, _, _, _, _, _, _, _, _, _, _, _, _, _, _, _, _, _, _, rfl, R.fr, R.o0, R.o1, R.o2, R.o3, R.o4, R.o5, R.o6, R.o7, R.o8, R.o9, R.o10, R.o11, (fun _ => rfl), (fun _ => rfl), (fun _ => rfl), (fun _ => rfl), R.o16, R.o17, R.o18, R.o19, R.o20⟩
                case s16 =>
                 as_aux_lemma =>
                  have k12 : S 12 = true := hd { on := 12, ground := .guard } (by simp) rfl
                  have e12 := R.o12 k12
                  subst e12
                  clear hd h0 k12
                  refine StepG.want rfl ?_
                  go_simp
                  exact ⟨_, _, _, _, _, _, _, _, _, _, _, _, _, _, _, _, _, _, _, _, _, rfl, R.fr, R.o0, R.o1, R.o2, R.o3, R.o4, R.o5, R.o6, R.o7, R.o8, R.o9, R.o10, R.o11, (fun _ => rfl), R.o13, R.o14, R.o15, (fun _ => rfl), R.o17, R.o18, R.o19, R.o20⟩
                case s17 =>
                 as_aux_lemma =>
                  have k12 : S 12 = true := hd { on := 12, ground := .guard } (by simp) rfl
                  have e12 := R.o12 k12
                  subst e12
                  have k16 : S 16 = true := hd { on := 16, ground := .data } (by simp) rfl
                  have e16 := R.o16 k16
                  subst e16
                  have q0 := R.fr.keepCell x1 (fun e => e)
                  clear hd h0 k12 k16
                  refine StepG.want rfl ?_
                  go_simp
                  exact ⟨_, _, _, _, _, _, _, _, _, _, _, _, _, _, _, _, _, _, _, _, _, rfl, R.fr, R.o0, R.o1, R.o2, R.o3, R.o4, R.o5, R.o6, R.o7, R.o8, R.o9, R.o10, R.o11, (fun _ => rfl), R.o13, R.o14, R.o15, (fun _ => rfl), (fun _ => rfl), R.o18, R.o19, R.o20⟩
                case s18 =>
                 as_aux_lemma =>
                  have k12 : S 12 = true := hd { on := 12, ground := .guard } (by simp) rfl
                  have e12 := R.o12 k12
                  subst e12
                  have k15 : S 15 = true := hd { on := 15, ground := .data } (by simp) rfl
                  have e15 := R.o15 k15
                  subst e15
                  have k17 : S 17 = true := hd { on := 17, ground := .data } (by simp) rfl
                  have e17 := R.o17 k17
                  subst e17
                  clear hd h0 k12 k15 k17
                  refine StepG.want rfl ?_
                  go_simp
                  refine ⟨trivial, (callsIn_wide.2 (HAll.out w' R.fr)).mono ?_⟩
                  rintro e w'' ⟨rfl, f⟩
                  exact ⟨_, _, _, _, _, _, _, _, _, _, _, _, _, _, _, _, _, _, _, _, _, rfl, R.fr.then7 f, R.o0, R.o1, R.o2, R.o3, R.o4, R.o5, R.o6, R.o7, R.o8, R.o9, R.o10, R.o11, (fun _ => rfl), R.o13, R.o14, (fun _ => rfl), R.o16, (fun _ => rfl), (fun _ => rfl), R.o19, R.o20⟩
                case s19 =>
                 as_aux_lemma =>
                  have k12 : S 12 = true := hd { on := 12, ground := .guard } (by simp) rfl
                  have e12 := R.o12 k12
                  subst e12
                  have k18 : S 18 = true := hd { on := 18, ground := .data } (by simp) rfl
                  have e18 := R.o18 k18
                  subst e18
                  clear hd h0 k12 k18
                  refine StepG.want rfl ?_
                  go_simp
                  exact ⟨_, _, _, _, _, _, _, _, _, _, _, _, _, _, _, _, _, _, _, _, _, rfl, R.fr, R.o0, R.o1, R.o2, R.o3, R.o4, R.o5, R.o6, R.o7, R.o8, R.o9, R.o10, R.o11, (fun _ => rfl), R.o13, R.o14, R.o15, R.o16, R.o17, (fun _ => rfl), (fun _ => rfl), R.o20⟩
                case s20 =>
                 as_aux_lemma =>
                  have k12 : S 12 = true := hd { on := 12, ground := .data } (by simp) rfl
                  have e12 := R.o12 k12
                  subst e12
                  have k19 : S 19 = true := hd { on := 19, ground := .data } (by simp) rfl
                  have e19 := R.o19 k19
                  subst e19
                  clear hd h0 k12 k19
                  refine StepG.want rfl ?_
                  go_simp
                  exact ⟨_, _, _, _, _, _, _, _, _, _, _, _, _, _, _, _, _, _, _, _, _, rfl, R.fr, R.o0, R.o1, R.o2, R.o3, R.o4, R.o5, R.o6, R.o7, R.o8, R.o9, R.o10, R.o11, (fun _ => rfl), R.o13, R.o14, R.o15, R.o16, R.o17, R.o18, (fun _ => rfl), (fun _ => rfl)⟩
              case done =>
                rintro S a w' ⟨t0, t1, t2, t3, t4, t5, t6, t7, t8, t9, t10, t11, t12, t13, t14, t15, t16, t17, t18, t19, t20, rfl, R⟩ hall
                dsimp only
                have e20 := R.o20 (hall 20 (by simp))
                subst e20
                have HFn := toHid8 (HFi.out.then7 (HF7.out.then7 R.fr))
                clear R hall
                go_wp2_with fail
                exact ⟨⟨i + 1, by have := HIt.out; omega, by go_num, HFn.out⟩, by simp [intOf]; have := HIt.out; omega⟩

end Go.Proofs.YtlabcbcccfbhjaaGreatDoor
