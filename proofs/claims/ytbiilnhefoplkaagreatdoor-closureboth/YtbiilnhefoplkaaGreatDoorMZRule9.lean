/-
  What is proved here: what prim's Right answers of a patch. Conditions: it lies in memory, and is of bounded size.
-/
import Derived.Test.YtbiilnhefoplkaaGreatDoorMZPR9
import Derived.Deep.RegionHeld3
namespace Go.Proofs.YtbiilnhefoplkaaGreatDoor
open Go.RowKit
set_option maxRecDepth 100000

set_option maxHeartbeats 1000000 in
theorem add_any (k : Int) (w : World) : Calls Tryz.prog 106 #[.int .i64 k] w fun e w' => ∃ b, e = .returned (.func (.func 125) #[] #[.pointer (some ⟨b, 0, none⟩)]) ∧ Fr None' w w' := by
  go_enter Tryz.func106, Tryz.ntmps106
  go_wp2_with fail
  go_ret
  exact ⟨_, rfl, Fr.alloc _ _ _⟩

set_option maxHeartbeats 1000000 in
theorem remove_any (k : Int) (w : World) : Calls Tryz.prog 107 #[.int .i64 k] w fun e w' => ∃ b, e = .returned (.func (.func 127) #[] #[.pointer (some ⟨b, 0, none⟩)]) ∧ Fr None' w w' := by
  go_enter Tryz.func107, Tryz.ntmps107
  go_wp2_with fail
  go_ret
  exact ⟨_, rfl, Fr.alloc _ _ _⟩

set_option maxHeartbeats 1000000 in
theorem change_any (k : Int) (f : FuncId) (w : World) : Calls Tryz.prog 109 #[.int .i64 k, .func (.func f) #[] #[]] w fun e w' => ∃ b c, e = .returned (.func (.func 131) #[] #[.pointer (some ⟨b, 0, none⟩), .pointer (some ⟨c, 0, none⟩)]) ∧ Fr None' w w' := by
  go_enter Tryz.func109, Tryz.ntmps109
  go_wp2_with fail
  go_ret
  exact ⟨_, _, rfl, (Fr.alloc None' w _).then7 (Fr.alloc None' _ _)⟩

theorem run_store_func9 {P : Program} {w : World} {a : Addr} {m : Mode} (f : Fn) (x y : Array Value) : (store a (.func f x y) m).run P w = stored P w a (.func f x y) m := run_store P w a _ m rfl

theorem run_store_nil9 {P : Program} {w : World} {a : Addr} {m : Mode} : (store a .nilFunc m).run P w = stored P w a .nilFunc m := run_store P w a _ m rfl

attribute [local go_sem] run_store_func9 run_store_nil9

theorem toHid9 {p : Prop} (h : p) : Hid p := h

/-- The table of the rules. -/
def rulesV (b1 b2 b3 b4 b5 b6 b7 c7 b8 c8 b9 c9 : Nat) : Array Value := #[.nilFunc, .nilFunc, .func (.func 105) #[] #[], .func (.func 125) #[] #[.pointer (some ⟨b1, 0, none⟩)], .func (.func 105) #[] #[], .func (.func 127) #[] #[.pointer (some ⟨b2, 0, none⟩)], .func (.func 105) #[] #[], .func (.func 125) #[] #[.pointer (some ⟨b3, 0, none⟩)], .func (.func 105) #[] #[], .func (.func 127) #[] #[.pointer (some ⟨b4, 0, none⟩)], .func (.func 105) #[] #[], .func (.func 125) #[] #[.pointer (some ⟨b5, 0, none⟩)], .func (.func 105) #[] #[], .func (.func 127) #[] #[.pointer (some ⟨b6, 0, none⟩)], .func (.func 108) #[] #[], .func (.func 131) #[] #[.pointer (some ⟨b7, 0, none⟩), .pointer (some ⟨c7, 0, none⟩)], .func (.func 111) #[] #[], .func (.func 131) #[] #[.pointer (some ⟨b8, 0, none⟩), .pointer (some ⟨c8, 0, none⟩)], .func (.func 113) #[] #[], .func (.func 131) #[] #[.pointer (some ⟨b9, 0, none⟩), .pointer (some ⟨c9, 0, none⟩)], .func (.func 115) #[] #[], .func (.func 116) #[] #[]]

theorem info22 : (Tryz.prog.info? 112).map (·.size) = some 22 := by kernel_rfl

set_option maxHeartbeats 4000000 in
theorem rules_any (w : World) : Calls Tryz.prog 94 #[] w fun e w' => ∃ b1 b2 b3 b4 b5 b6 b7 c7 b8 c8 b9 c9, e = .returned (.agg (rulesV b1 b2 b3 b4 b5 b6 b7 c7 b8 c8 b9 c9)) ∧ Fr None' w w' := by
  obtain ⟨w0, hw0⟩ : ∃ w0, w.alloc (.cells #[.nilFunc, .nilFunc, .nilFunc, .nilFunc, .nilFunc, .nilFunc, .nilFunc, .nilFunc, .nilFunc, .nilFunc, .nilFunc, .nilFunc, .nilFunc, .nilFunc, .nilFunc, .nilFunc, .nilFunc, .nilFunc, .nilFunc, .nilFunc, .nilFunc, .nilFunc] 112) = w0 := ⟨_, rfl⟩
  have HB0 : Hid (w0.heap[w.heap.size]? = some (.cells #[.nilFunc, .nilFunc, .nilFunc, .nilFunc, .nilFunc, .nilFunc, .nilFunc, .nilFunc, .nilFunc, .nilFunc, .nilFunc, .nilFunc, .nilFunc, .nilFunc, .nilFunc, .nilFunc, .nilFunc, .nilFunc, .nilFunc, .nilFunc, .nilFunc, .nilFunc] 112 (0, 0))) := by show _ = _; rw [← hw0]; exact heap_alloc_new w _
  have HF0 : Hid (Fr None' w w0) := hw0 ▸ Fr.alloc None' w _
  have HF : Hid (Fr None' w0 w0) := Fr.refl _ _
  go_enter Tryz.func94, Tryz.ntmps94
  go_wp2_with (first
    | (go_at_call 106; refine (add_any _ _).mono ?_; rintro e w1 ⟨b, rfl, f1⟩; replace HF := toHid9 (Fr.then7 (Hid.out HF) f1); clear f1)
    | (go_at_call 107; refine (remove_any _ _).mono ?_; rintro e w1 ⟨b, rfl, f1⟩; replace HF := toHid9 (Fr.then7 (Hid.out HF) f1); clear f1)
    | (go_at_call 109; refine (change_any _ _ _).mono ?_; rintro e w1 ⟨b, b', rfl, f1⟩; replace HF := toHid9 (Fr.then7 (Hid.out HF) f1); clear f1)
    | (refine wpList_store_row rfl _ _ _ rfl w.heap.size _ rfl rfl 112 _ (HF.out.at HB0.out (fun e => e)) info22 (by simp) (by simp [Value.oneCell']) ?_))
  exact bodyPost_ret (results_cell_row rfl _ _ w.heap.size 112 _ (0, 0) _ rfl (setRow_at (HF.out.at HB0.out (fun e => e))) Tryz.underlying112 rfl info22) rfl ⟨_, _, _, _, _, _, _, _, _, _, _, _, rfl, (HF0.out.then7 HF.out).trans (Fr.setRow (M := fun i => i = w.heap.size) _ rfl _) (fun i e => Or.inr (by omega))⟩

theorem store_rules {ops : Array Oper} {rest : List Oper} {o : Oper} {a : Act} {w3 : World} {Q : Exit → Act → World → Prop} {b1 b2 b3 b4 b5 b6 b7 c7 b8 c8 b9 c9 : Nat} (hgd : o.guard = none) (x y : Operand) (ho : o.op = .store 112 x y) (hd : o.dst = none) (hx : a.eval x = .pointer (some ⟨w3.heap.size, 0, none⟩)) (hy : a.eval y = .agg (rulesV b1 b2 b3 b4 b5 b6 b7 c7 b8 c8 b9 c9))
    (h : ∀ w4, w4.heap[w3.heap.size]? = some (.cells (rulesV b1 b2 b3 b4 b5 b6 b7 c7 b8 c8 b9 c9) 112 (0, 0)) → Fr None' w3 w4 → wpList Tryz.prog ops Q rest a w4) : wpList Tryz.prog ops Q (o :: rest) a (w3.alloc (.cells #[.nilFunc, .nilFunc, .nilFunc, .nilFunc, .nilFunc, .nilFunc, .nilFunc, .nilFunc, .nilFunc, .nilFunc, .nilFunc, .nilFunc, .nilFunc, .nilFunc, .nilFunc, .nilFunc, .nilFunc, .nilFunc, .nilFunc, .nilFunc, .nilFunc, .nilFunc] 112)) := by
  refine wpList_store_row hgd _ x y ho w3.heap.size _ hx hy 112 _ (heap_alloc_new w3 _) info22 (by simp [rulesV]) (by simp [rulesV, Value.oneCell']) ?_
  rw [hd]
  exact h _ (setRow_at (heap_alloc_new w3 _)) ((Fr.alloc None' w3 _).trans (Fr.setRow (M := fun i => i = w3.heap.size) _ rfl _) (fun i e => Or.inr (by omega)))

/-- What ruleOf hands back. -/
def RulePost (b : Bool) (w : World) (e : Ending) (w' : World) : Prop := ∃ r0 r1, e = .returned (.tuple #[.agg #[r0, r1], .bool b]) ∧ (r0.oneCell' = true ∧ r1.oneCell' = true) ∧ Fr None' w w'

theorem infoRule : (Tryz.prog.info? 95).map (·.size) = some 2 := by kernel_rfl

theorem fin_rule {w W : World} {g : Nat} {x0 x1 : Value} (f : Fr None' w W) (hz : W.heap[g]? = some (.cells #[x0, x1] 95 (0, 0))) (hg : w.heap.size ≤ g) (y0 y1 : Value) :
    (loadVar 95 ⟨g, 0, none⟩).run Tryz.prog ((W.setCell ⟨g, 0, none⟩ y0).setCell ⟨g, 1, none⟩ y1) = .ok (.agg #[y0, y1]) ((W.setCell ⟨g, 0, none⟩ y0).setCell ⟨g, 1, none⟩ y1) ∧ Fr None' w ((W.setCell ⟨g, 0, none⟩ y0).setCell ⟨g, 1, none⟩ y1) := by
  have h0 : (W.setCell ⟨g, 0, none⟩ y0).heap[g]? = some (.cells #[y0, x1] 95 (0, 0)) := by simpa using Go.heap_setCell_same W g 0 _ _ y0 hz
  have h1 : ((W.setCell ⟨g, 0, none⟩ y0).setCell ⟨g, 1, none⟩ y1).heap[g]? = some (.cells #[y0, y1] 95 (0, 0)) := by simpa using Go.heap_setCell_same _ g 1 _ _ y1 h0
  exact ⟨run_loadVar_row _ g 95 95 _ (0, 0) _ h1 Tryz.underlying95 rfl (by kernel_rfl), f.trans ((Fr.setQ W g 0 y0).then (Fr.setQ _ g 1 y1)) (fun i e => Or.inr (by omega))⟩

set_option maxHeartbeats 16000000 in
theorem ruleOf_any (x : Pr) (vo vn : Value) (w : World) (ho : StrsAt w vo x.old) (hn : StrsAt w vn x.new) (hs : BigP x) :
    Calls Tryz.prog 78 #[.agg #[.int .i64 x.kind, .string x.path, .string x.dst, .string x.src, .int .i64 x.pos, vo, vn]] w fun e w' => RulePost (rightP x) w e w' := by
  have HBare : Hid (∀ w', Fr None' w w' → Calls Tryz.prog 105 #[.agg #[.int .i64 x.kind, .string x.path, .string x.dst, .string x.src, .int .i64 x.pos, vo, vn]] w' fun e w'' => e = .returned (.bool (bareP x)) ∧ Fr None' w' w'') := fun w' f => bare_any x vo vn w' (ho.kept f) (hn.kept f) hs
  have HLines : Hid (∀ w', Fr None' w w' → Calls Tryz.prog 108 #[.agg #[.int .i64 x.kind, .string x.path, .string x.dst, .string x.src, .int .i64 x.pos, vo, vn]] w' fun e w'' => e = .returned (.bool (linesP x)) ∧ Fr None' w' w'') := fun w' f => lines9_any x vo vn w' (ho.kept f) (hn.kept f) hs
  have HToken : Hid (∀ w', Fr None' w w' → Calls Tryz.prog 111 #[.agg #[.int .i64 x.kind, .string x.path, .string x.dst, .string x.src, .int .i64 x.pos, vo, vn]] w' fun e w'' => e = .returned (.bool (tokenP x)) ∧ Fr None' w' w'') := fun w' f => token9_any x vo vn w' (ho.kept f) (hn.kept f) hs
  have HBytes : Hid (∀ w', Fr None' w w' → Calls Tryz.prog 113 #[.agg #[.int .i64 x.kind, .string x.path, .string x.dst, .string x.src, .int .i64 x.pos, vo, vn]] w' fun e w'' => e = .returned (.bool (bytesP x)) ∧ Fr None' w' w'') := fun w' f => bytes_any x vo vn w' (ho.kept f) (hn.kept f) hs
  have HMove : Hid (∀ w', Fr None' w w' → Calls Tryz.prog 115 #[.agg #[.int .i64 x.kind, .string x.path, .string x.dst, .string x.src, .int .i64 x.pos, vo, vn]] w' fun e w'' => e = .returned (.bool (moveP x)) ∧ Fr None' w' w'') := fun w' f => move9_any x vo vn w' (ho.kept f) (hn.kept f) hs
  have HPR : Hid (∀ w', Calls Tryz.prog 95 #[.string x.path] w' fun e w'' => e = .returned (.bool (Path.right x.path.data.toList)) ∧ Fr None' w' w'') := fun w' => (Path.right_any x.path w' (by have := hs.path; omega)).mono fun _ _ ⟨h1, h2⟩ => ⟨h1, ofPath h2⟩
  obtain ⟨K, P, T, F, A, lO, lN⟩ := x
  simp only at ho hn HBare HLines HToken HBytes HMove HPR ⊢
  obtain ⟨pa, ca, rfl, _⟩ := ho.sl
  obtain ⟨pb, cb, rfl, _⟩ := hn.sl
  generalize lO.length = no at HBare HLines HToken HBytes HMove ⊢
  generalize lN.length = nn at HBare HLines HToken HBytes HMove ⊢
  obtain ⟨w1, hw1⟩ : ∃ w1, w.alloc (.cells #[.int .i64 K, .string P, .string T, .string F, .int .i64 A, .slice pa no ca, .slice pb nn cb] 67) = w1 := ⟨_, rfl⟩
  obtain ⟨w2, hw2⟩ : ∃ w2, w1.alloc (.cells #[.nilFunc, .nilFunc] 95) = w2 := ⟨_, rfl⟩
  have q1 := rules_any w2
  have F1 : Fr None' w w1 := hw1 ▸ Fr.alloc None' w _
  have F2 : Fr None' w1 w2 := hw2 ▸ Fr.alloc None' w1 _
  have B1 : Box w2 w.heap.size (.int .i64 K) (.string P) (.string T) (.string F) (.int .i64 A) (.slice pa no ca) (.slice pb nn cb) := (hw1 ▸ Box.new w _ _ _ _ _ _ _ : Box w1 _ _ _ _ _ _ _ _).kept F2
  have Z2 : w2.heap[w1.heap.size]? = some (.cells #[.nilFunc, .nilFunc] 95 (0, 0)) := by rw [← hw2]; exact heap_alloc_new w1 _
  have s1 : w1.heap.size = w.heap.size + 1 := by rw [← hw1]; simp
  have HF2 : Hid (Fr None' w w2) := F1.then7 F2
  have HB : Hid (∀ w', Fr None' w2 w' → Box w' w.heap.size (.int .i64 K) (.string P) (.string T) (.string F) (.int .i64 A) (.slice pa no ca) (.slice pb nn cb) ∧ w'.heap[w1.heap.size]? = some (.cells #[.nilFunc, .nilFunc] 95 (0, 0))) := fun w' f => ⟨B1.kept f, f.at Z2 (fun e => e)⟩
  have HN : Hid (w.heap.size ≤ w1.heap.size) := by show _ ≤ _; omega
  clear F1 F2 B1 Z2 s1
  by_cases hk : K < 1
  · have hV : rightP ⟨K, P, T, F, A, lO, lN⟩ = false := by unfold rightP; simp only; rw [decide_eq_false (by omega)]; rfl
    rw [hV]
    clear ho hn hs hV HBare HLines HToken HBytes HMove HPR
    go_enter Tryz.func78, Tryz.ntmps78
    go_wp2_with fail
    with_reducible refine q1.mono ?_
    rintro e w3 ⟨b1, b2, b3, b4, b5, b6, b7, c7, b8, c8, b9, c9, rfl, f3⟩
    have HF3 : Hid (Fr None' w2 w3) := f3
    clear q1 f3
    go_wp2_with (refine store_rules rfl _ _ rfl rfl rfl rfl ?_
                 intro w4 hb4 F4
                 have HF4 : Hid (Fr None' w2 w4) := toHid9 (Fr.then7 (Hid.out HF3) F4)
                 obtain ⟨a0, a1, a2, a3, a4, a5, a6⟩ := ((Hid.out HB) w4 (Hid.out HF4)).1.cells
                 have Z4 := ((Hid.out HB) w4 (Hid.out HF4)).2
                 have z0 : w4.cell? ⟨w1.heap.size, 0, none⟩ = some .nilFunc := by rw [World.cell?, Z4]; rfl
                 have z1 : w4.cell? ⟨w1.heap.size, 1, none⟩ = some .nilFunc := by rw [World.cell?, Z4]; rfl
                 have zf : ∀ o, w4.frozen? ⟨w1.heap.size, o, none⟩ = false := fun o => by unfold World.frozen?; rw [Z4]; simp
                 clear hb4 F4 Z4)
    obtain ⟨hld, hfr⟩ := fin_rule (HF2.out.then7 HF4.out) (HB.out w4 HF4.out).2 HN.out .nilFunc .nilFunc
    exact bodyPost_ret (v := .tuple #[.agg #[.nilFunc, .nilFunc], .bool false]) (by rw [results_cell_tmp rfl]; simp [asAddr, Result.andThen, hld]) rfl ⟨_, _, rfl, ⟨rfl, rfl⟩, hfr⟩
  by_cases hk : 10 < K
  · have hV : rightP ⟨K, P, T, F, A, lO, lN⟩ = false := by unfold rightP; simp only; rw [decide_eq_false (by omega)]; rfl
    rw [hV]
    clear ho hn hs hV HBare HLines HToken HBytes HMove HPR
    go_enter Tryz.func78, Tryz.ntmps78
    go_wp2_with fail
    with_reducible refine q1.mono ?_
    rintro e w3 ⟨b1, b2, b3, b4, b5, b6, b7, c7, b8, c8, b9, c9, rfl, f3⟩
    have HF3 : Hid (Fr None' w2 w3) := f3
    clear q1 f3
    go_wp2_with (refine store_rules rfl _ _ rfl rfl rfl rfl ?_
                 intro w4 hb4 F4
                 have HF4 : Hid (Fr None' w2 w4) := toHid9 (Fr.then7 (Hid.out HF3) F4)
                 obtain ⟨a0, a1, a2, a3, a4, a5, a6⟩ := ((Hid.out HB) w4 (Hid.out HF4)).1.cells
                 have Z4 := ((Hid.out HB) w4 (Hid.out HF4)).2
                 have z0 : w4.cell? ⟨w1.heap.size, 0, none⟩ = some .nilFunc := by rw [World.cell?, Z4]; rfl
                 have z1 : w4.cell? ⟨w1.heap.size, 1, none⟩ = some .nilFunc := by rw [World.cell?, Z4]; rfl
                 have zf : ∀ o, w4.frozen? ⟨w1.heap.size, o, none⟩ = false := fun o => by unfold World.frozen?; rw [Z4]; simp
                 clear hb4 F4 Z4)
    obtain ⟨hld, hfr⟩ := fin_rule (HF2.out.then7 HF4.out) (HB.out w4 HF4.out).2 HN.out .nilFunc .nilFunc
    exact bodyPost_ret (v := .tuple #[.agg #[.nilFunc, .nilFunc], .bool false]) (by rw [results_cell_tmp rfl]; simp [asAddr, Result.andThen, hld]) rfl ⟨_, _, rfl, ⟨rfl, rfl⟩, hfr⟩
  have hk10 : K = 1 ∨ K = 2 ∨ K = 3 ∨ K = 4 ∨ K = 5 ∨ K = 6 ∨ K = 7 ∨ K = 8 ∨ K = 9 ∨ K = 10 := by omega
  rcases hk10 with rfl | rfl | rfl | rfl | rfl | rfl | rfl | rfl | rfl | rfl
  · as_aux_lemma =>
      obtain ⟨R, hR⟩ : ∃ R, Path.right P.data.toList = R := ⟨_, rfl⟩
      obtain ⟨R2, hR2⟩ : ∃ R, bareP ⟨1, P, T, F, A, lO, lN⟩ = R := ⟨_, rfl⟩
      have hV : rightP ⟨1, P, T, F, A, lO, lN⟩ = (R && R2) := by simp [rightP, ruleP, hR, hR2]
      rw [hV]
      rw [hR] at HPR
      rw [hR2] at HBare
      clear ho hn hs hR hR2 hV HLines HToken HBytes HMove
      go_enter Tryz.func78, Tryz.ntmps78
      go_wp2_with fail
      with_reducible refine q1.mono ?_
      rintro e w3 ⟨b1, b2, b3, b4, b5, b6, b7, c7, b8, c8, b9, c9, rfl, f3⟩
      have HF3 : Hid (Fr None' w2 w3) := f3
      clear q1 f3
      go_wp2_with (refine store_rules rfl _ _ rfl rfl rfl rfl ?_
                   intro w4 hb4 F4
                   have k0 : w4.cell? ⟨w3.heap.size, 2, none⟩ = some (.func (.func 105) #[] #[]) := by rw [World.cell?, hb4]; rfl
                   have k1 : w4.cell? ⟨w3.heap.size, 3, none⟩ = some (.func (.func 125) #[] #[.pointer (some ⟨b1, 0, none⟩)]) := by rw [World.cell?, hb4]; rfl
                   have HF4 : Hid (Fr None' w2 w4) := toHid9 (Fr.then7 (Hid.out HF3) F4)
                   obtain ⟨a0, a1, a2, a3, a4, a5, a6⟩ := ((Hid.out HB) w4 (Hid.out HF4)).1.cells
                   have Z4 := ((Hid.out HB) w4 (Hid.out HF4)).2
                   have z0 : w4.cell? ⟨w1.heap.size, 0, none⟩ = some .nilFunc := by rw [World.cell?, Z4]; rfl
                   have z1 : w4.cell? ⟨w1.heap.size, 1, none⟩ = some .nilFunc := by rw [World.cell?, Z4]; rfl
                   have zf : ∀ o, w4.frozen? ⟨w1.heap.size, o, none⟩ = false := fun o => by unfold World.frozen?; rw [Z4]; simp
                   clear hb4 F4 Z4)
      have q2 := HPR.out w4
      with_reducible refine q2.mono ?_
      rintro e w5 ⟨rfl, f5⟩
      have HF5 : Hid (Fr None' w2 w5) := HF4.out.then7 f5
      have K0 := f5.keepCell k0 (fun e => e)
      have K1 := f5.keepCell k1 (fun e => e)
      obtain ⟨B5, Z5⟩ := HB.out w5 HF5.out
      obtain ⟨d0, d1, d2, d3, d4, d5, d6⟩ := B5.cells
      clear q2 f5 k0 k1 a0 a1 a2 a3 a4 a5 a6 B5 z0 z1 zf
      cases R with
      | false =>
        have z0 : w5.cell? ⟨w1.heap.size, 0, none⟩ = some .nilFunc := by rw [World.cell?, Z5]; rfl
        have z1 : w5.cell? ⟨w1.heap.size, 1, none⟩ = some .nilFunc := by rw [World.cell?, Z5]; rfl
        have zf : ∀ o, w5.frozen? ⟨w1.heap.size, o, none⟩ = false := fun o => by unfold World.frozen?; rw [Z5]; simp
        clear Z5
        go_wp2_with fail
        obtain ⟨hld, hfr⟩ := fin_rule (HF2.out.then7 HF5.out) (HB.out w5 HF5.out).2 HN.out .nilFunc .nilFunc
        exact bodyPost_ret (v := .tuple #[.agg #[.nilFunc, .nilFunc], .bool false]) (by rw [results_cell_tmp rfl]; simp [asAddr, Result.andThen, hld]) rfl ⟨_, _, rfl, ⟨rfl, rfl⟩, hfr⟩
      | true =>
        clear Z5
        obtain ⟨w6, hw6⟩ : ∃ w6, w5.alloc (.cells #[.func (.func 105) #[] #[], .func (.func 125) #[] #[.pointer (some ⟨b1, 0, none⟩)]] 95) = w6 := ⟨_, rfl⟩
        have F6 : Fr None' w5 w6 := hw6 ▸ Fr.alloc None' w5 _
        have R6 : w6.heap[w5.heap.size]? = some (.cells #[.func (.func 105) #[] #[], .func (.func 125) #[] #[.pointer (some ⟨b1, 0, none⟩)]] 95 (0, 0)) := by rw [← hw6]; exact heap_alloc_new w5 _
        have HF6 : Hid (Fr None' w2 w6) := HF5.out.then7 F6
        obtain ⟨B6, Z6⟩ := HB.out w6 HF6.out
        obtain ⟨a0, a1, a2, a3, a4, a5, a6⟩ := B6.cells
        have e0 : w6.cell? ⟨w5.heap.size, 0, none⟩ = some (.func (.func 105) #[] #[]) := by rw [World.cell?, R6]; rfl
        have HR6 : Hid (∀ w', Fr None' w6 w' → w'.cell? ⟨w5.heap.size, 0, none⟩ = some (.func (.func 105) #[] #[]) ∧ w'.cell? ⟨w5.heap.size, 1, none⟩ = some (.func (.func 125) #[] #[.pointer (some ⟨b1, 0, none⟩)])) := fun w' f => by
          have h := f.at R6 (fun e => e)
          exact ⟨by rw [World.cell?, h]; rfl, by rw [World.cell?, h]; rfl⟩
        have q3 := HBare.out w6 (HF2.out.then7 HF6.out)
        clear F6 R6 B6 Z6
        go_wp2_with fail
        with_reducible refine q3.mono ?_
        rintro e w7 ⟨rfl, f7⟩
        have HF7 : Hid (Fr None' w2 w7) := HF6.out.then7 f7
        obtain ⟨x0, x1⟩ := HR6.out w7 f7
        have Z7 := (HB.out w7 HF7.out).2
        have z0 : w7.cell? ⟨w1.heap.size, 0, none⟩ = some .nilFunc := by rw [World.cell?, Z7]; rfl
        have z1 : w7.cell? ⟨w1.heap.size, 1, none⟩ = some .nilFunc := by rw [World.cell?, Z7]; rfl
        have zf : ∀ o, w7.frozen? ⟨w1.heap.size, o, none⟩ = false := fun o => by unfold World.frozen?; rw [Z7]; simp
        have hne : ¬ w1.heap.size = w5.heap.size := by
          have h1 := (Array.getElem?_eq_some_iff.1 (HB.out w5 HF5.out).2).1
          omega
        have hne2 : ¬ w5.heap.size = w1.heap.size := fun e => hne e.symm
        clear q3 f7 a0 a1 a2 a3 a4 a5 a6 d0 d1 d2 d3 d4 d5 d6 K0 K1 e0 Z7
        cases R2 with
        | false =>
          go_wp2_with fail
          obtain ⟨hld, hfr⟩ := fin_rule (HF2.out.then7 HF7.out) (HB.out w7 HF7.out).2 HN.out .nilFunc .nilFunc
          exact bodyPost_ret (v := .tuple #[.agg #[.nilFunc, .nilFunc], .bool false]) (by rw [results_cell_tmp rfl]; simp [asAddr, Result.andThen, hld]) rfl ⟨_, _, rfl, ⟨rfl, rfl⟩, hfr⟩
        | true =>
          go_wp2_with fail
          obtain ⟨hld, hfr⟩ := fin_rule (HF2.out.then7 HF7.out) (HB.out w7 HF7.out).2 HN.out (.func (.func 105) #[] #[]) (.func (.func 125) #[] #[.pointer (some ⟨b1, 0, none⟩)])
          exact bodyPost_ret (v := .tuple #[.agg #[(.func (.func 105) #[] #[]), (.func (.func 125) #[] #[.pointer (some ⟨b1, 0, none⟩)])], .bool true]) (by rw [results_cell_tmp rfl]; simp [asAddr, Result.andThen, hld]) rfl ⟨_, _, rfl, ⟨rfl, rfl⟩, hfr⟩
  · as_aux_lemma =>
      obtain ⟨R, hR⟩ : ∃ R, Path.right P.data.toList = R := ⟨_, rfl⟩
      obtain ⟨R2, hR2⟩ : ∃ R, bareP ⟨2, P, T, F, A, lO, lN⟩ = R := ⟨_, rfl⟩
      have hV : rightP ⟨2, P, T, F, A, lO, lN⟩ = (R && R2) := by simp [rightP, ruleP, hR, hR2]
      rw [hV]
      rw [hR] at HPR
      rw [hR2] at HBare
      clear ho hn hs hR hR2 hV HLines HToken HBytes HMove
      go_enter Tryz.func78, Tryz.ntmps78
      go_wp2_with fail
      with_reducible refine q1.mono ?_
      rintro e w3 ⟨b1, b2, b3, b4, b5, b6, b7, c7, b8, c8, b9, c9, rfl, f3⟩
      have HF3 : Hid (Fr None' w2 w3) := f3
      clear q1 f3
      go_wp2_with (refine store_rules rfl _ _ rfl rfl rfl rfl ?_
                   intro w4 hb4 F4
                   have k0 : w4.cell? ⟨w3.heap.size, 4, none⟩ = some (.func (.func 105) #[] #[]) := by rw [World.cell?, hb4]; rfl
                   have k1 : w4.cell? ⟨w3.heap.size, 5, none⟩ = some (.func (.func 127) #[] #[.pointer (some ⟨b2, 0, none⟩)]) := by rw [World.cell?, hb4]; rfl
                   have HF4 : Hid (Fr None' w2 w4) := toHid9 (Fr.then7 (Hid.out HF3) F4)
                   obtain ⟨a0, a1, a2, a3, a4, a5, a6⟩ := ((Hid.out HB) w4 (Hid.out HF4)).1.cells
                   have Z4 := ((Hid.out HB) w4 (Hid.out HF4)).2
                   have z0 : w4.cell? ⟨w1.heap.size, 0, none⟩ = some .nilFunc := by rw [World.cell?, Z4]; rfl
                   have z1 : w4.cell? ⟨w1.heap.size, 1, none⟩ = some .nilFunc := by rw [World.cell?, Z4]; rfl
                   have zf : ∀ o, w4.frozen? ⟨w1.heap.size, o, none⟩ = false := fun o => by unfold World.frozen?; rw [Z4]; simp
                   clear hb4 F4 Z4)
      have q2 := HPR.out w4
      with_reducible refine q2.mono ?_
      rintro e w5 ⟨rfl, f5⟩
      have HF5 : Hid (Fr None' w2 w5) := HF4.out.then7 f5
      have K0 := f5.keepCell k0 (fun e => e)
      have K1 := f5.keepCell k1 (fun e => e)
      obtain ⟨B5, Z5⟩ := HB.out w5 HF5.out
      obtain ⟨d0, d1, d2, d3, d4, d5, d6⟩ := B5.cells
      clear q2 f5 k0 k1 a0 a1 a2 a3 a4 a5 a6 B5 z0 z1 zf
      cases R with
      | false =>
        have z0 : w5.cell? ⟨w1.heap.size, 0, none⟩ = some .nilFunc := by rw [World.cell?, Z5]; rfl
        have z1 : w5.cell? ⟨w1.heap.size, 1, none⟩ = some .nilFunc := by rw [World.cell?, Z5]; rfl
        have zf : ∀ o, w5.frozen? ⟨w1.heap.size, o, none⟩ = false := fun o => by unfold World.frozen?; rw [Z5]; simp
        clear Z5
        go_wp2_with fail
        obtain ⟨hld, hfr⟩ := fin_rule (HF2.out.then7 HF5.out) (HB.out w5 HF5.out).2 HN.out .nilFunc .nilFunc
        exact bodyPost_ret (v := .tuple #[.agg #[.nilFunc, .nilFunc], .bool false]) (by rw [results_cell_tmp rfl]; simp [asAddr, Result.andThen, hld]) rfl ⟨_, _, rfl, ⟨rfl, rfl⟩, hfr⟩
      | true =>
        clear Z5
        obtain ⟨w6, hw6⟩ : ∃ w6, w5.alloc (.cells #[.func (.func 105) #[] #[], .func (.func 127) #[] #[.pointer (some ⟨b2, 0, none⟩)]] 95) = w6 := ⟨_, rfl⟩
        have F6 : Fr None' w5 w6 := hw6 ▸ Fr.alloc None' w5 _
        have R6 : w6.heap[w5.heap.size]? = some (.cells #[.func (.func 105) #[] #[], .func (.func 127) #[] #[.pointer (some ⟨b2, 0, none⟩)]] 95 (0, 0)) := by rw [← hw6]; exact heap_alloc_new w5 _
        have HF6 : Hid (Fr None' w2 w6) := HF5.out.then7 F6
        obtain ⟨B6, Z6⟩ := HB.out w6 HF6.out
        obtain ⟨a0, a1, a2, a3, a4, a5, a6⟩ := B6.cells
        have e0 : w6.cell? ⟨w5.heap.size, 0, none⟩ = some (.func (.func 105) #[] #[]) := by rw [World.cell?, R6]; rfl
        have HR6 : Hid (∀ w', Fr None' w6 w' → w'.cell? ⟨w5.heap.size, 0, none⟩ = some (.func (.func 105) #[] #[]) ∧ w'.cell? ⟨w5.heap.size, 1, none⟩ = some (.func (.func 127) #[] #[.pointer (some ⟨b2, 0, none⟩)])) := fun w' f => by
          have h := f.at R6 (fun e => e)
          exact ⟨by rw [World.cell?, h]; rfl, by rw [World.cell?, h]; rfl⟩
        have q3 := HBare.out w6 (HF2.out.then7 HF6.out)
        clear F6 R6 B6 Z6
        go_wp2_with fail
        with_reducible refine q3.mono ?_
        rintro e w7 ⟨rfl, f7⟩
        have HF7 : Hid (Fr None' w2 w7) := HF6.out.then7 f7
        obtain ⟨x0, x1⟩ := HR6.out w7 f7
        have Z7 := (HB.out w7 HF7.out).2
        have z0 : w7.cell? ⟨w1.heap.size, 0, none⟩ = some .nilFunc := by rw [World.cell?, Z7]; rfl
        have z1 : w7.cell? ⟨w1.heap.size, 1, none⟩ = some .nilFunc := by rw [World.cell?, Z7]; rfl
        have zf : ∀ o, w7.frozen? ⟨w1.heap.size, o, none⟩ = false := fun o => by unfold World.frozen?; rw [Z7]; simp
        have hne : ¬ w1.heap.size = w5.heap.size := by
          have h1 := (Array.getElem?_eq_some_iff.1 (HB.out w5 HF5.out).2).1
          omega
        have hne2 : ¬ w5.heap.size = w1.heap.size := fun e => hne e.symm
        clear q3 f7 a0 a1 a2 a3 a4 a5 a6 d0 d1 d2 d3 d4 d5 d6 K0 K1 e0 Z7
        cases R2 with
        | false =>
          go_wp2_with fail
          obtain ⟨hld, hfr⟩ := fin_rule (HF2.out.then7 HF7.out) (HB.out w7 HF7.out).2 HN.out .nilFunc .nilFunc
          exact bodyPost_ret (v := .tuple #[.agg #[.nilFunc, .nilFunc], .bool false]) (by rw [results_cell_tmp rfl]; simp [asAddr, Result.andThen, hld]) rfl ⟨_, _, rfl, ⟨rfl, rfl⟩, hfr⟩
        | true =>
          go_wp2_with fail
          obtain ⟨hld, hfr⟩ := fin_rule (HF2.out.then7 HF7.out) (HB.out w7 HF7.out).2 HN.out (.func (.func 105) #[] #[]) (.func (.func 127) #[] #[.pointer (some ⟨b2, 0, none⟩)])
          exact bodyPost_ret (v := .tuple #[.agg #[(.func (.func 105) #[] #[]), (.func (.func 127) #[] #[.pointer (some ⟨b2, 0, none⟩)])], .bool true]) (by rw [results_cell_tmp rfl]; simp [asAddr, Result.andThen, hld]) rfl ⟨_, _, rfl, ⟨rfl, rfl⟩, hfr⟩
  · as_aux_lemma =>
      obtain ⟨R, hR⟩ : ∃ R, Path.right P.data.toList = R := ⟨_, rfl⟩
      obtain ⟨R2, hR2⟩ : ∃ R, bareP ⟨3, P, T, F, A, lO, lN⟩ = R := ⟨_, rfl⟩
      have hV : rightP ⟨3, P, T, F, A, lO, lN⟩ = (R && R2) := by simp [rightP, ruleP, hR, hR2]
      rw [hV]
      rw [hR] at HPR
      rw [hR2] at HBare
      clear ho hn hs hR hR2 hV HLines HToken HBytes HMove
      go_enter Tryz.func78, Tryz.ntmps78
      go_wp2_with fail
      with_reducible refine q1.mono ?_
      rintro e w3 ⟨b1, b2, b3, b4, b5, b6, b7, c7, b8, c8, b9, c9, rfl, f3⟩
      have HF3 : Hid (Fr None' w2 w3) := f3
      clear q1 f3
      go_wp2_with (refine store_rules rfl _ _ rfl rfl rfl rfl ?_
                   intro w4 hb4 F4
                   have k0 : w4.cell? ⟨w3.heap.size, 6, none⟩ = some (.func (.func 105) #[] #[]) := by rw [World.cell?, hb4]; rfl
                   have k1 : w4.cell? ⟨w3.heap.size, 7, none⟩ = some (.func (.func 125) #[] #[.pointer (some ⟨b3, 0, none⟩)]) := by rw [World.cell?, hb4]; rfl
                   have HF4 : Hid (Fr None' w2 w4) := toHid9 (Fr.then7 (Hid.out HF3) F4)
                   obtain ⟨a0, a1, a2, a3, a4, a5, a6⟩ := ((Hid.out HB) w4 (Hid.out HF4)).1.cells
                   have Z4 := ((Hid.out HB) w4 (Hid.out HF4)).2
                   have z0 : w4.cell? ⟨w1.heap.size, 0, none⟩ = some .nilFunc := by rw [World.cell?, Z4]; rfl
                   have z1 : w4.cell? ⟨w1.heap.size, 1, none⟩ = some .nilFunc := by rw [World.cell?, Z4]; rfl
                   have zf : ∀ o, w4.frozen? ⟨w1.heap.size, o, none⟩ = false := fun o => by unfold World.frozen?; rw [Z4]; simp
                   clear hb4 F4 Z4)
      have q2 := HPR.out w4
      with_reducible refine q2.mono ?_
      rintro e w5 ⟨rfl, f5⟩
      have HF5 : Hid (Fr None' w2 w5) := HF4.out.then7 f5
      have K0 := f5.keepCell k0 (fun e => e)
      have K1 := f5.keepCell k1 (fun e => e)
      obtain ⟨B5, Z5⟩ := HB.out w5 HF5.out
      obtain ⟨d0, d1, d2, d3, d4, d5, d6⟩ := B5.cells
      clear q2 f5 k0 k1 a0 a1 a2 a3 a4 a5 a6 B5 z0 z1 zf
      cases R with
      | false =>
        have z0 : w5.cell? ⟨w1.heap.size, 0, none⟩ = some .nilFunc := by rw [World.cell?, Z5]; rfl
        have z1 : w5.cell? ⟨w1.heap.size, 1, none⟩ = some .nilFunc := by rw [World.cell?, Z5]; rfl
        have zf : ∀ o, w5.frozen? ⟨w1.heap.size, o, none⟩ = false := fun o => by unfold World.frozen?; rw [Z5]; simp
        clear Z5
        go_wp2_with fail
        obtain ⟨hld, hfr⟩ := fin_rule (HF2.out.then7 HF5.out) (HB.out w5 HF5.out).2 HN.out .nilFunc .nilFunc
        exact bodyPost_ret (v := .tuple #[.agg #[.nilFunc, .nilFunc], .bool false]) (by rw [results_cell_tmp rfl]; simp [asAddr, Result.andThen, hld]) rfl ⟨_, _, rfl, ⟨rfl, rfl⟩, hfr⟩
      | true =>
        clear Z5
        obtain ⟨w6, hw6⟩ : ∃ w6, w5.alloc (.cells #[.func (.func 105) #[] #[], .func (.func 125) #[] #[.pointer (some ⟨b3, 0, none⟩)]] 95) = w6 := ⟨_, rfl⟩
        have F6 : Fr None' w5 w6 := hw6 ▸ Fr.alloc None' w5 _
        have R6 : w6.heap[w5.heap.size]? = some (.cells #[.func (.func 105) #[] #[], .func (.func 125) #[] #[.pointer (some ⟨b3, 0, none⟩)]] 95 (0, 0)) := by rw [← hw6]; exact heap_alloc_new w5 _
        have HF6 : Hid (Fr None' w2 w6) := HF5.out.then7 F6
        obtain ⟨B6, Z6⟩ := HB.out w6 HF6.out
        obtain ⟨a0, a1, a2, a3, a4, a5, a6⟩ := B6.cells
        have e0 : w6.cell? ⟨w5.heap.size, 0, none⟩ = some (.func (.func 105) #[] #[]) := by rw [World.cell?, R6]; rfl
        have HR6 : Hid (∀ w', Fr None' w6 w' → w'.cell? ⟨w5.heap.size, 0, none⟩ = some (.func (.func 105) #[] #[]) ∧ w'.cell? ⟨w5.heap.size, 1, none⟩ = some (.func (.func 125) #[] #[.pointer (some ⟨b3, 0, none⟩)])) := fun w' f => by
          have h := f.at R6 (fun e => e)
          exact ⟨by rw [World.cell?, h]; rfl, by rw [World.cell?, h]; rfl⟩
        have q3 := HBare.out w6 (HF2.out.then7 HF6.out)
        clear F6 R6 B6 Z6
        go_wp2_with fail
        with_reducible refine q3.mono ?_
        rintro e w7 ⟨rfl, f7⟩
        have HF7 : Hid (Fr None' w2 w7) := HF6.out.then7 f7
        obtain ⟨x0, x1⟩ := HR6.out w7 f7
        have Z7 := (HB.out w7 HF7.out).2
        have z0 : w7.cell? ⟨w1.heap.size, 0, none⟩ = some .nilFunc := by rw [World.cell?, Z7]; rfl
        have z1 : w7.cell? ⟨w1.heap.size, 1, none⟩ = some .nilFunc := by rw [World.cell?, Z7]; rfl
        have zf : ∀ o, w7.frozen? ⟨w1.heap.size, o, none⟩ = false := fun o => by unfold World.frozen?; rw [Z7]; simp
        have hne : ¬ w1.heap.size = w5.heap.size := by
          have h1 := (Array.getElem?_eq_some_iff.1 (HB.out w5 HF5.out).2).1
          omega
        have hne2 : ¬ w5.heap.size = w1.heap.size := fun e => hne e.symm
        clear q3 f7 a0 a1 a2 a3 a4 a5 a6 d0 d1 d2 d3 d4 d5 d6 K0 K1 e0 Z7
        cases R2 with
        | false =>
          go_wp2_with fail
          obtain ⟨hld, hfr⟩ := fin_rule (HF2.out.then7 HF7.out) (HB.out w7 HF7.out).2 HN.out .nilFunc .nilFunc
          exact bodyPost_ret (v := .tuple #[.agg #[.nilFunc, .nilFunc], .bool false]) (by rw [results_cell_tmp rfl]; simp [asAddr, Result.andThen, hld]) rfl ⟨_, _, rfl, ⟨rfl, rfl⟩, hfr⟩
        | true =>
          go_wp2_with fail
          obtain ⟨hld, hfr⟩ := fin_rule (HF2.out.then7 HF7.out) (HB.out w7 HF7.out).2 HN.out (.func (.func 105) #[] #[]) (.func (.func 125) #[] #[.pointer (some ⟨b3, 0, none⟩)])
          exact bodyPost_ret (v := .tuple #[.agg #[(.func (.func 105) #[] #[]), (.func (.func 125) #[] #[.pointer (some ⟨b3, 0, none⟩)])], .bool true]) (by rw [results_cell_tmp rfl]; simp [asAddr, Result.andThen, hld]) rfl ⟨_, _, rfl, ⟨rfl, rfl⟩, hfr⟩
  · as_aux_lemma =>
      obtain ⟨R, hR⟩ : ∃ R, Path.right P.data.toList = R := ⟨_, rfl⟩
      obtain ⟨R2, hR2⟩ : ∃ R, bareP ⟨4, P, T, F, A, lO, lN⟩ = R := ⟨_, rfl⟩
      have hV : rightP ⟨4, P, T, F, A, lO, lN⟩ = (R && R2) := by simp [rightP, ruleP, hR, hR2]
      rw [hV]
      rw [hR] at HPR
      rw [hR2] at HBare
      clear ho hn hs hR hR2 hV HLines HToken HBytes HMove
      go_enter Tryz.func78, Tryz.ntmps78
      go_wp2_with fail
      with_reducible refine q1.mono ?_
      rintro e w3 ⟨b1, b2, b3, b4, b5, b6, b7, c7, b8, c8, b9, c9, rfl, f3⟩
      have HF3 : Hid (Fr None' w2 w3) := f3
      clear q1 f3
      go_wp2_with (refine store_rules rfl _ _ rfl rfl rfl rfl ?_
                   intro w4 hb4 F4
                   have k0 : w4.cell? ⟨w3.heap.size, 8, none⟩ = some (.func (.func 105) #[] #[]) := by rw [World.cell?, hb4]; rfl
                   have k1 : w4.cell? ⟨w3.heap.size, 9, none⟩ = some (.func (.func 127) #[] #[.pointer (some ⟨b4, 0, none⟩)]) := by rw [World.cell?, hb4]; rfl
                   have HF4 : Hid (Fr None' w2 w4) := toHid9 (Fr.then7 (Hid.out HF3) F4)
                   obtain ⟨a0, a1, a2, a3, a4, a5, a6⟩ := ((Hid.out HB) w4 (Hid.out HF4)).1.cells
                   have Z4 := ((Hid.out HB) w4 (Hid.out HF4)).2
                   have z0 : w4.cell? ⟨w1.heap.size, 0, none⟩ = some .nilFunc := by rw [World.cell?, Z4]; rfl
                   have z1 : w4.cell? ⟨w1.heap.size, 1, none⟩ = some .nilFunc := by rw [World.cell?, Z4]; rfl
                   have zf : ∀ o, w4.frozen? ⟨w1.heap.size, o, none⟩ = false := fun o => by unfold World.frozen?; rw [Z4]; simp
                   clear hb4 F4 Z4)
      have q2 := HPR.out w4
      with_reducible refine q2.mono ?_
      rintro e w5 ⟨rfl, f5⟩
      have HF5 : Hid (Fr None' w2 w5) := HF4.out.then7 f5
      have K0 := f5.keepCell k0 (fun e => e)
      have K1 := f5.keepCell k1 (fun e => e)
      obtain ⟨B5, Z5⟩ := HB.out w5 HF5.out
      obtain ⟨d0, d1, d2, d3, d4, d5, d6⟩ := B5.cells
      clear q2 f5 k0 k1 a0 a1 a2 a3 a4 a5 a6 B5 z0 z1 zf
      cases R with
      | false =>
        have z0 : w5.cell? ⟨w1.heap.size, 0, none⟩ = some .nilFunc := by rw [World.cell?, Z5]; rfl
        have z1 : w5.cell? ⟨w1.heap.size, 1, none⟩ = some .nilFunc := by rw [World.cell?, Z5]; rfl
        have zf : ∀ o, w5.frozen? ⟨w1.heap.size, o, none⟩ = false := fun o => by unfold World.frozen?; rw [Z5]; simp
        clear Z5
        go_wp2_with fail
        obtain ⟨hld, hfr⟩ := fin_rule (HF2.out.then7 HF5.out) (HB.out w5 HF5.out).2 HN.out .nilFunc .nilFunc
        exact bodyPost_ret (v := .tuple #[.agg #[.nilFunc, .nilFunc], .bool false]) (by rw [results_cell_tmp rfl]; simp [asAddr, Result.andThen, hld]) rfl ⟨_, _, rfl, ⟨rfl, rfl⟩, hfr⟩
      | true =>
        clear Z5
        obtain ⟨w6, hw6⟩ : ∃ w6, w5.alloc (.cells #[.func (.func 105) #[] #[], .func (.func 127) #[] #[.pointer (some ⟨b4, 0, none⟩)]] 95) = w6 := ⟨_, rfl⟩
        have F6 : Fr None' w5 w6 := hw6 ▸ Fr.alloc None' w5 _
        have R6 : w6.heap[w5.heap.size]? = some (.cells #[.func (.func 105) #[] #[], .func (.func 127) #[] #[.pointer (some ⟨b4, 0, none⟩)]] 95 (0, 0)) := by rw [← hw6]; exact heap_alloc_new w5 _
        have HF6 : Hid (Fr None' w2 w6) := HF5.out.then7 F6
        obtain ⟨B6, Z6⟩ := HB.out w6 HF6.out
        obtain ⟨a0, a1, a2, a3, a4, a5, a6⟩ := B6.cells
        have e0 : w6.cell? ⟨w5.heap.size, 0, none⟩ = some (.func (.func 105) #[] #[]) := by rw [World.cell?, R6]; rfl
        have HR6 : Hid (∀ w', Fr None' w6 w' → w'.cell? ⟨w5.heap.size, 0, none⟩ = some (.func (.func 105) #[] #[]) ∧ w'.cell? ⟨w5.heap.size, 1, none⟩ = some (.func (.func 127) #[] #[.pointer (some ⟨b4, 0, none⟩)])) := fun w' f => by
          have h := f.at R6 (fun e => e)
          exact ⟨by rw [World.cell?, h]; rfl, by rw [World.cell?, h]; rfl⟩
        have q3 := HBare.out w6 (HF2.out.then7 HF6.out)
        clear F6 R6 B6 Z6
        go_wp2_with fail
        with_reducible refine q3.mono ?_
        rintro e w7 ⟨rfl, f7⟩
        have HF7 : Hid (Fr None' w2 w7) := HF6.out.then7 f7
        obtain ⟨x0, x1⟩ := HR6.out w7 f7
        have Z7 := (HB.out w7 HF7.out).2
        have z0 : w7.cell? ⟨w1.heap.size, 0, none⟩ = some .nilFunc := by rw [World.cell?, Z7]; rfl
        have z1 : w7.cell? ⟨w1.heap.size, 1, none⟩ = some .nilFunc := by rw [World.cell?, Z7]; rfl
        have zf : ∀ o, w7.frozen? ⟨w1.heap.size, o, none⟩ = false := fun o => by unfold World.frozen?; rw [Z7]; simp
        have hne : ¬ w1.heap.size = w5.heap.size := by
          have h1 := (Array.getElem?_eq_some_iff.1 (HB.out w5 HF5.out).2).1
          omega
        have hne2 : ¬ w5.heap.size = w1.heap.size := fun e => hne e.symm
        clear q3 f7 a0 a1 a2 a3 a4 a5 a6 d0 d1 d2 d3 d4 d5 d6 K0 K1 e0 Z7
        cases R2 with
        | false =>
          go_wp2_with fail
          obtain ⟨hld, hfr⟩ := fin_rule (HF2.out.then7 HF7.out) (HB.out w7 HF7.out).2 HN.out .nilFunc .nilFunc
          exact bodyPost_ret (v := .tuple #[.agg #[.nilFunc, .nilFunc], .bool false]) (by rw [results_cell_tmp rfl]; simp [asAddr, Result.andThen, hld]) rfl ⟨_, _, rfl, ⟨rfl, rfl⟩, hfr⟩
        | true =>
          go_wp2_with fail
          obtain ⟨hld, hfr⟩ := fin_rule (HF2.out.then7 HF7.out) (HB.out w7 HF7.out).2 HN.out (.func (.func 105) #[] #[]) (.func (.func 127) #[] #[.pointer (some ⟨b4, 0, none⟩)])
          exact bodyPost_ret (v := .tuple #[.agg #[(.func (.func 105) #[] #[]), (.func (.func 127) #[] #[.pointer (some ⟨b4, 0, none⟩)])], .bool true]) (by rw [results_cell_tmp rfl]; simp [asAddr, Result.andThen, hld]) rfl ⟨_, _, rfl, ⟨rfl, rfl⟩, hfr⟩
  · as_aux_lemma =>
      obtain ⟨R, hR⟩ : ∃ R, Path.right P.data.toList = R := ⟨_, rfl⟩
      obtain ⟨R2, hR2⟩ : ∃ R, bareP ⟨5, P, T, F, A, lO, lN⟩ = R := ⟨_, rfl⟩
      have hV : rightP ⟨5, P, T, F, A, lO, lN⟩ = (R && R2) := by simp [rightP, ruleP, hR, hR2]
      rw [hV]
      rw [hR] at HPR
      rw [hR2] at HBare
      clear ho hn hs hR hR2 hV HLines HToken HBytes HMove
      go_enter Tryz.func78, Tryz.ntmps78
      go_wp2_with fail
      with_reducible refine q1.mono ?_
      rintro e w3 ⟨b1, b2, b3, b4, b5, b6, b7, c7, b8, c8, b9, c9, rfl, f3⟩
      have HF3 : Hid (Fr None' w2 w3) := f3
      clear q1 f3
      go_wp2_with (refine store_rules rfl _ _ rfl rfl rfl rfl ?_
                   intro w4 hb4 F4
                   have k0 : w4.cell? ⟨w3.heap.size, 10, none⟩ = some (.func (.func 105) #[] #[]) := by rw [World.cell?, hb4]; rfl
                   have k1 : w4.cell? ⟨w3.heap.size, 11, none⟩ = some (.func (.func 125) #[] #[.pointer (some ⟨b5, 0, none⟩)]) := by rw [World.cell?, hb4]; rfl
                   have HF4 : Hid (Fr None' w2 w4) := toHid9 (Fr.then7 (Hid.out HF3) F4)
                   obtain ⟨a0, a1, a2, a3, a4, a5, a6⟩ := ((Hid.out HB) w4 (Hid.out HF4)).1.cells
                   have Z4 := ((Hid.out HB) w4 (Hid.out HF4)).2
                   have z0 : w4.cell? ⟨w1.heap.size, 0, none⟩ = some .nilFunc := by rw [World.cell?, Z4]; rfl
                   have z1 : w4.cell? ⟨w1.heap.size, 1, none⟩ = some .nilFunc := by rw [World.cell?, Z4]; rfl
                   have zf : ∀ o, w4.frozen? ⟨w1.heap.size, o, none⟩ = false := fun o => by unfold World.frozen?; rw [Z4]; simp
                   clear hb4 F4 Z4)
      have q2 := HPR.out w4
      with_reducible refine q2.mono ?_
      rintro e w5 ⟨rfl, f5⟩
      have HF5 : Hid (Fr None' w2 w5) := HF4.out.then7 f5
      have K0 := f5.keepCell k0 (fun e => e)
      have K1 := f5.keepCell k1 (fun e => e)
      obtain ⟨B5, Z5⟩ := HB.out w5 HF5.out
      obtain ⟨d0, d1, d2, d3, d4, d5, d6⟩ := B5.cells
      clear q2 f5 k0 k1 a0 a1 a2 a3 a4 a5 a6 B5 z0 z1 zf
      cases R with
      | false =>
        have z0 : w5.cell? ⟨w1.heap.size, 0, none⟩ = some .nilFunc := by rw [World.cell?, Z5]; rfl
        have z1 : w5.cell? ⟨w1.heap.size, 1, none⟩ = some .nilFunc := by rw [World.cell?, Z5]; rfl
        have zf : ∀ o, w5.frozen? ⟨w1.heap.size, o, none⟩ = false := fun o => by unfold World.frozen?; rw [Z5]; simp
        clear Z5
        go_wp2_with fail
        obtain ⟨hld, hfr⟩ := fin_rule (HF2.out.then7 HF5.out) (HB.out w5 HF5.out).2 HN.out .nilFunc .nilFunc
        exact bodyPost_ret (v := .tuple #[.agg #[.nilFunc, .nilFunc], .bool false]) (by rw [results_cell_tmp rfl]; simp [asAddr, Result.andThen, hld]) rfl ⟨_, _, rfl, ⟨rfl, rfl⟩, hfr⟩
      | true =>
        clear Z5
        obtain ⟨w6, hw6⟩ : ∃ w6, w5.alloc (.cells #[.func (.func 105) #[] #[], .func (.func 125) #[] #[.pointer (some ⟨b5, 0, none⟩)]] 95) = w6 := ⟨_, rfl⟩
        have F6 : Fr None' w5 w6 := hw6 ▸ Fr.alloc None' w5 _
        have R6 : w6.heap[w5.heap.size]? = some (.cells #[.func (.func 105) #[] #[], .func (.func 125) #[] #[.pointer (some ⟨b5, 0, none⟩)]] 95 (0, 0)) := by rw [← hw6]; exact heap_alloc_new w5 _
        have HF6 : Hid (Fr None' w2 w6) := HF5.out.then7 F6
        obtain ⟨B6, Z6⟩ := HB.out w6 HF6.out
        obtain ⟨a0, a1, a2, a3, a4, a5, a6⟩ := B6.cells
        have e0 : w6.cell? ⟨w5.heap.size, 0, none⟩ = some (.func (.func 105) #[] #[]) := by rw [World.cell?, R6]; rfl
        have HR6 : Hid (∀ w', Fr None' w6 w' → w'.cell? ⟨w5.heap.size, 0, none⟩ = some (.func (.func 105) #[] #[]) ∧ w'.cell? ⟨w5.heap.size, 1, none⟩ = some (.func (.func 125) #[] #[.pointer (some ⟨b5, 0, none⟩)])) := fun w' f => by
          have h := f.at R6 (fun e => e)
          exact ⟨by rw [World.cell?, h]; rfl, by rw [World.cell?, h]; rfl⟩
        have q3 := HBare.out w6 (HF2.out.then7 HF6.out)
        clear F6 R6 B6 Z6
        go_wp2_with fail
        with_reducible refine q3.mono ?_
        rintro e w7 ⟨rfl, f7⟩
        have HF7 : Hid (Fr None' w2 w7) := HF6.out.then7 f7
        obtain ⟨x0, x1⟩ := HR6.out w7 f7
        have Z7 := (HB.out w7 HF7.out).2
        have z0 : w7.cell? ⟨w1.heap.size, 0, none⟩ = some .nilFunc := by rw [World.cell?, Z7]; rfl
        have z1 : w7.cell? ⟨w1.heap.size, 1, none⟩ = some .nilFunc := by rw [World.cell?, Z7]; rfl
        have zf : ∀ o, w7.frozen? ⟨w1.heap.size, o, none⟩ = false := fun o => by unfold World.frozen?; rw [Z7]; simp
        have hne : ¬ w1.heap.size = w5.heap.size := by
          have h1 := (Array.getElem?_eq_some_iff.1 (HB.out w5 HF5.out).2).1
          omega
        have hne2 : ¬ w5.heap.size = w1.heap.size := fun e => hne e.symm
        clear q3 f7 a0 a1 a2 a3 a4 a5 a6 d0 d1 d2 d3 d4 d5 d6 K0 K1 e0 Z7
        cases R2 with
        | false =>
          go_wp2_with fail
          obtain ⟨hld, hfr⟩ := fin_rule (HF2.out.then7 HF7.out) (HB.out w7 HF7.out).2 HN.out .nilFunc .nilFunc
          exact bodyPost_ret (v := .tuple #[.agg #[.nilFunc, .nilFunc], .bool false]) (by rw [results_cell_tmp rfl]; simp [asAddr, Result.andThen, hld]) rfl ⟨_, _, rfl, ⟨rfl, rfl⟩, hfr⟩
        | true =>
          go_wp2_with fail
          obtain ⟨hld, hfr⟩ := fin_rule (HF2.out.then7 HF7.out) (HB.out w7 HF7.out).2 HN.out (.func (.func 105) #[] #[]) (.func (.func 125) #[] #[.pointer (some ⟨b5, 0, none⟩)])
          exact bodyPost_ret (v := .tuple #[.agg #[(.func (.func 105) #[] #[]), (.func (.func 125) #[] #[.pointer (some ⟨b5, 0, none⟩)])], .bool true]) (by rw [results_cell_tmp rfl]; simp [asAddr, Result.andThen, hld]) rfl ⟨_, _, rfl, ⟨rfl, rfl⟩, hfr⟩
  · as_aux_lemma =>
      obtain ⟨R, hR⟩ : ∃ R, Path.right P.data.toList = R := ⟨_, rfl⟩
      obtain ⟨R2, hR2⟩ : ∃ R, bareP ⟨6, P, T, F, A, lO, lN⟩ = R := ⟨_, rfl⟩
      have hV : rightP ⟨6, P, T, F, A, lO, lN⟩ = (R && R2) := by simp [rightP, ruleP, hR, hR2]
      rw [hV]
      rw [hR] at HPR
      rw [hR2] at HBare
      clear ho hn hs hR hR2 hV HLines HToken HBytes HMove
      go_enter Tryz.func78, Tryz.ntmps78
      go_wp2_with fail
      with_reducible refine q1.mono ?_
      rintro e w3 ⟨b1, b2, b3, b4, b5, b6, b7, c7, b8, c8, b9, c9, rfl, f3⟩
      have HF3 : Hid (Fr None' w2 w3) := f3
      clear q1 f3
      go_wp2_with (refine store_rules rfl _ _ rfl rfl rfl rfl ?_
                   intro w4 hb4 F4
                   have k0 : w4.cell? ⟨w3.heap.size, 12, none⟩ = some (.func (.func 105) #[] #[]) := by rw [World.cell?, hb4]; rfl
                   have k1 : w4.cell? ⟨w3.heap.size, 13, none⟩ = some (.func (.func 127) #[] #[.pointer (some ⟨b6, 0, none⟩)]) := by rw [World.cell?, hb4]; rfl
                   have HF4 : Hid (Fr None' w2 w4) := toHid9 (Fr.then7 (Hid.out HF3) F4)
                   obtain ⟨a0, a1, a2, a3, a4, a5, a6⟩ := ((Hid.out HB) w4 (Hid.out HF4)).1.cells
                   have Z4 := ((Hid.out HB) w4 (Hid.out HF4)).2
                   have z0 : w4.cell? ⟨w1.heap.size, 0, none⟩ = some .nilFunc := by rw [World.cell?, Z4]; rfl
                   have z1 : w4.cell? ⟨w1.heap.size, 1, none⟩ = some .nilFunc := by rw [World.cell?, Z4]; rfl
                   have zf : ∀ o, w4.frozen? ⟨w1.heap.size, o, none⟩ = false := fun o => by unfold World.frozen?; rw [Z4]; simp
                   clear hb4 F4 Z4)
      have q2 := HPR.out w4
      with_reducible refine q2.mono ?_
      rintro e w5 ⟨rfl, f5⟩
      have HF5 : Hid (Fr None' w2 w5) := HF4.out.then7 f5
      have K0 := f5.keepCell k0 (fun e => e)
      have K1 := f5.keepCell k1 (fun e => e)
      obtain ⟨B5, Z5⟩ := HB.out w5 HF5.out
      obtain ⟨d0, d1, d2, d3, d4, d5, d6⟩ := B5.cells
      clear q2 f5 k0 k1 a0 a1 a2 a3 a4 a5 a6 B5 z0 z1 zf
      cases R with
      | false =>
        have z0 : w5.cell? ⟨w1.heap.size, 0, none⟩ = some .nilFunc := by rw [World.cell?, Z5]; rfl
        have z1 : w5.cell? ⟨w1.heap.size, 1, none⟩ = some .nilFunc := by rw [World.cell?, Z5]; rfl
        have zf : ∀ o, w5.frozen? ⟨w1.heap.size, o, none⟩ = false := fun o => by unfold World.frozen?; rw [Z5]; simp
        clear Z5
        go_wp2_with fail
        obtain ⟨hld, hfr⟩ := fin_rule (HF2.out.then7 HF5.out) (HB.out w5 HF5.out).2 HN.out .nilFunc .nilFunc
        exact bodyPost_ret (v := .tuple #[.agg #[.nilFunc, .nilFunc], .bool false]) (by rw [results_cell_tmp rfl]; simp [asAddr, Result.andThen, hld]) rfl ⟨_, _, rfl, ⟨rfl, rfl⟩, hfr⟩
      | true =>
        clear Z5
        obtain ⟨w6, hw6⟩ : ∃ w6, w5.alloc (.cells #[.func (.func 105) #[] #[], .func (.func 127) #[] #[.pointer (some ⟨b6, 0, none⟩)]] 95) = w6 := ⟨_, rfl⟩
        have F6 : Fr None' w5 w6 := hw6 ▸ Fr.alloc None' w5 _
        have R6 : w6.heap[w5.heap.size]? = some (.cells #[.func (.func 105) #[] #[], .func (.func 127) #[] #[.pointer (some ⟨b6, 0, none⟩)]] 95 (0, 0)) := by rw [← hw6]; exact heap_alloc_new w5 _
        have HF6 : Hid (Fr None' w2 w6) := HF5.out.then7 F6
        obtain ⟨B6, Z6⟩ := HB.out w6 HF6.out
        obtain ⟨a0, a1, a2, a3, a4, a5, a6⟩ := B6.cells
        have e0 : w6.cell? ⟨w5.heap.size, 0, none⟩ = some (.func (.func 105) #[] #[]) := by rw [World.cell?, R6]; rfl
        have HR6 : Hid (∀ w', Fr None' w6 w' → w'.cell? ⟨w5.heap.size, 0, none⟩ = some (.func (.func 105) #[] #[]) ∧ w'.cell? ⟨w5.heap.size, 1, none⟩ = some (.func (.func 127) #[] #[.pointer (some ⟨b6, 0, none⟩)])) := fun w' f => by
          have h := f.at R6 (fun e => e)
          exact ⟨by rw [World.cell?, h]; rfl, by rw [World.cell?, h]; rfl⟩
        have q3 := HBare.out w6 (HF2.out.then7 HF6.out)
        clear F6 R6 B6 Z6
        go_wp2_with fail
        with_reducible refine q3.mono ?_
        rintro e w7 ⟨rfl, f7⟩
        have HF7 : Hid (Fr None' w2 w7) := HF6.out.then7 f7
        obtain ⟨x0, x1⟩ := HR6.out w7 f7
        have Z7 := (HB.out w7 HF7.out).2
        have z0 : w7.cell? ⟨w1.heap.size, 0, none⟩ = some .nilFunc := by rw [World.cell?, Z7]; rfl
        have z1 : w7.cell? ⟨w1.heap.size, 1, none⟩ = some .nilFunc := by rw [World.cell?, Z7]; rfl
        have zf : ∀ o, w7.frozen? ⟨w1.heap.size, o, none⟩ = false := fun o => by unfold World.frozen?; rw [Z7]; simp
        have hne : ¬ w1.heap.size = w5.heap.size := by
          have h1 := (Array.getElem?_eq_some_iff.1 (HB.out w5 HF5.out).2).1
          omega
        have hne2 : ¬ w5.heap.size = w1.heap.size := fun e => hne e.symm
        clear q3 f7 a0 a1 a2 a3 a4 a5 a6 d0 d1 d2 d3 d4 d5 d6 K0 K1 e0 Z7
        cases R2 with
        | false =>
          go_wp2_with fail
          obtain ⟨hld, hfr⟩ := fin_rule (HF2.out.then7 HF7.out) (HB.out w7 HF7.out).2 HN.out .nilFunc .nilFunc
          exact bodyPost_ret (v := .tuple #[.agg #[.nilFunc, .nilFunc], .bool false]) (by rw [results_cell_tmp rfl]; simp [asAddr, Result.andThen, hld]) rfl ⟨_, _, rfl, ⟨rfl, rfl⟩, hfr⟩
        | true =>
          go_wp2_with fail
          obtain ⟨hld, hfr⟩ := fin_rule (HF2.out.then7 HF7.out) (HB.out w7 HF7.out).2 HN.out (.func (.func 105) #[] #[]) (.func (.func 127) #[] #[.pointer (some ⟨b6, 0, none⟩)])
          exact bodyPost_ret (v := .tuple #[.agg #[(.func (.func 105) #[] #[]), (.func (.func 127) #[] #[.pointer (some ⟨b6, 0, none⟩)])], .bool true]) (by rw [results_cell_tmp rfl]; simp [asAddr, Result.andThen, hld]) rfl ⟨_, _, rfl, ⟨rfl, rfl⟩, hfr⟩
  · as_aux_lemma =>
      obtain ⟨R, hR⟩ : ∃ R, Path.right P.data.toList = R := ⟨_, rfl⟩
      obtain ⟨R2, hR2⟩ : ∃ R, linesP ⟨7, P, T, F, A, lO, lN⟩ = R := ⟨_, rfl⟩
      have hV : rightP ⟨7, P, T, F, A, lO, lN⟩ = (R && R2) := by simp [rightP, ruleP, hR, hR2]
      rw [hV]
      rw [hR] at HPR
      rw [hR2] at HLines
      clear ho hn hs hR hR2 hV HBare HToken HBytes HMove
      go_enter Tryz.func78, Tryz.ntmps78
      go_wp2_with fail
      with_reducible refine q1.mono ?_
      rintro e w3 ⟨b1, b2, b3, b4, b5, b6, b7, c7, b8, c8, b9, c9, rfl, f3⟩
      have HF3 : Hid (Fr None' w2 w3) := f3
      clear q1 f3
      go_wp2_with (refine store_rules rfl _ _ rfl rfl rfl rfl ?_
                   intro w4 hb4 F4
                   have k0 : w4.cell? ⟨w3.heap.size, 14, none⟩ = some (.func (.func 108) #[] #[]) := by rw [World.cell?, hb4]; rfl
                   have k1 : w4.cell? ⟨w3.heap.size, 15, none⟩ = some (.func (.func 131) #[] #[.pointer (some ⟨b7, 0, none⟩), .pointer (some ⟨c7, 0, none⟩)]) := by rw [World.cell?, hb4]; rfl
                   have HF4 : Hid (Fr None' w2 w4) := toHid9 (Fr.then7 (Hid.out HF3) F4)
                   obtain ⟨a0, a1, a2, a3, a4, a5, a6⟩ := ((Hid.out HB) w4 (Hid.out HF4)).1.cells
                   have Z4 := ((Hid.out HB) w4 (Hid.out HF4)).2
                   have z0 : w4.cell? ⟨w1.heap.size, 0, none⟩ = some .nilFunc := by rw [World.cell?, Z4]; rfl
                   have z1 : w4.cell? ⟨w1.heap.size, 1, none⟩ = some .nilFunc := by rw [World.cell?, Z4]; rfl
                   have zf : ∀ o, w4.frozen? ⟨w1.heap.size, o, none⟩ = false := fun o => by unfold World.frozen?; rw [Z4]; simp
                   clear hb4 F4 Z4)
      have q2 := HPR.out w4
      with_reducible refine q2.mono ?_
      rintro e w5 ⟨rfl, f5⟩
      have HF5 : Hid (Fr None' w2 w5) := HF4.out.then7 f5
      have K0 := f5.keepCell k0 (fun e => e)
      have K1 := f5.keepCell k1 (fun e => e)
      obtain ⟨B5, Z5⟩ := HB.out w5 HF5.out
      obtain ⟨d0, d1, d2, d3, d4, d5, d6⟩ := B5.cells
      clear q2 f5 k0 k1 a0 a1 a2 a3 a4 a5 a6 B5 z0 z1 zf
      cases R with
      | false =>
        have z0 : w5.cell? ⟨w1.heap.size, 0, none⟩ = some .nilFunc := by rw [World.cell?, Z5]; rfl
        have z1 : w5.cell? ⟨w1.heap.size, 1, none⟩ = some .nilFunc := by rw [World.cell?, Z5]; rfl
        have zf : ∀ o, w5.frozen? ⟨w1.heap.size, o, none⟩ = false := fun o => by unfold World.frozen?; rw [Z5]; simp
        clear Z5
        go_wp2_with fail
        obtain ⟨hld, hfr⟩ := fin_rule (HF2.out.then7 HF5.out) (HB.out w5 HF5.out).2 HN.out .nilFunc .nilFunc
        exact bodyPost_ret (v := .tuple #[.agg #[.nilFunc, .nilFunc], .bool false]) (by rw [results_cell_tmp rfl]; simp [asAddr, Result.andThen, hld]) rfl ⟨_, _, rfl, ⟨rfl, rfl⟩, hfr⟩
      | true =>
        clear Z5
        obtain ⟨w6, hw6⟩ : ∃ w6, w5.alloc (.cells #[.func (.func 108) #[] #[], .func (.func 131) #[] #[.pointer (some ⟨b7, 0, none⟩), .pointer (some ⟨c7, 0, none⟩)]] 95) = w6 := ⟨_, rfl⟩
        have F6 : Fr None' w5 w6 := hw6 ▸ Fr.alloc None' w5 _
        have R6 : w6.heap[w5.heap.size]? = some (.cells #[.func (.func 108) #[] #[], .func (.func 131) #[] #[.pointer (some ⟨b7, 0, none⟩), .pointer (some ⟨c7, 0, none⟩)]] 95 (0, 0)) := by rw [← hw6]; exact heap_alloc_new w5 _
        have HF6 : Hid (Fr None' w2 w6) := HF5.out.then7 F6
        obtain ⟨B6, Z6⟩ := HB.out w6 HF6.out
        obtain ⟨a0, a1, a2, a3, a4, a5, a6⟩ := B6.cells
        have e0 : w6.cell? ⟨w5.heap.size, 0, none⟩ = some (.func (.func 108) #[] #[]) := by rw [World.cell?, R6]; rfl
        have HR6 : Hid (∀ w', Fr None' w6 w' → w'.cell? ⟨w5.heap.size, 0, none⟩ = some (.func (.func 108) #[] #[]) ∧ w'.cell? ⟨w5.heap.size, 1, none⟩ = some (.func (.func 131) #[] #[.pointer (some ⟨b7, 0, none⟩), .pointer (some ⟨c7, 0, none⟩)])) := fun w' f => by
          have h := f.at R6 (fun e => e)
          exact ⟨by rw [World.cell?, h]; rfl, by rw [World.cell?, h]; rfl⟩
        have q3 := HLines.out w6 (HF2.out.then7 HF6.out)
        clear F6 R6 B6 Z6
        go_wp2_with fail
        with_reducible refine q3.mono ?_
        rintro e w7 ⟨rfl, f7⟩
        have HF7 : Hid (Fr None' w2 w7) := HF6.out.then7 f7
        obtain ⟨x0, x1⟩ := HR6.out w7 f7
        have Z7 := (HB.out w7 HF7.out).2
        have z0 : w7.cell? ⟨w1.heap.size, 0, none⟩ = some .nilFunc := by rw [World.cell?, Z7]; rfl
        have z1 : w7.cell? ⟨w1.heap.size, 1, none⟩ = some .nilFunc := by rw [World.cell?, Z7]; rfl
        have zf : ∀ o, w7.frozen? ⟨w1.heap.size, o, none⟩ = false := fun o => by unfold World.frozen?; rw [Z7]; simp
        have hne : ¬ w1.heap.size = w5.heap.size := by
          have h1 := (Array.getElem?_eq_some_iff.1 (HB.out w5 HF5.out).2).1
          omega
        have hne2 : ¬ w5.heap.size = w1.heap.size := fun e => hne e.symm
        clear q3 f7 a0 a1 a2 a3 a4 a5 a6 d0 d1 d2 d3 d4 d5 d6 K0 K1 e0 Z7
        cases R2 with
        | false =>
          go_wp2_with fail
          obtain ⟨hld, hfr⟩ := fin_rule (HF2.out.then7 HF7.out) (HB.out w7 HF7.out).2 HN.out .nilFunc .nilFunc
          exact bodyPost_ret (v := .tuple #[.agg #[.nilFunc, .nilFunc], .bool false]) (by rw [results_cell_tmp rfl]; simp [asAddr, Result.andThen, hld]) rfl ⟨_, _, rfl, ⟨rfl, rfl⟩, hfr⟩
        | true =>
          go_wp2_with fail
          obtain ⟨hld, hfr⟩ := fin_rule (HF2.out.then7 HF7.out) (HB.out w7 HF7.out).2 HN.out (.func (.func 108) #[] #[]) (.func (.func 131) #[] #[.pointer (some ⟨b7, 0, none⟩), .pointer (some ⟨c7, 0, none⟩)])
          exact bodyPost_ret (v := .tuple #[.agg #[(.func (.func 108) #[] #[]), (.func (.func 131) #[] #[.pointer (some ⟨b7, 0, none⟩), .pointer (some ⟨c7, 0, none⟩)])], .bool true]) (by rw [results_cell_tmp rfl]; simp [asAddr, Result.andThen, hld]) rfl ⟨_, _, rfl, ⟨rfl, rfl⟩, hfr⟩
  · as_aux_lemma =>
      obtain ⟨R, hR⟩ : ∃ R, Path.right P.data.toList = R := ⟨_, rfl⟩
      obtain ⟨R2, hR2⟩ : ∃ R, tokenP ⟨8, P, T, F, A, lO, lN⟩ = R := ⟨_, rfl⟩
      have hV : rightP ⟨8, P, T, F, A, lO, lN⟩ = (R && R2) := by simp [rightP, ruleP, hR, hR2]
      rw [hV]
      rw [hR] at HPR
      rw [hR2] at HToken
      clear ho hn hs hR hR2 hV HBare HLines HBytes HMove
      go_enter Tryz.func78, Tryz.ntmps78
      go_wp2_with fail
      with_reducible refine q1.mono ?_
      rintro e w3 ⟨b1, b2, b3, b4, b5, b6, b7, c7, b8, c8, b9, c9, rfl, f3⟩
      have HF3 : Hid (Fr None' w2 w3) := f3
      clear q1 f3
      go_wp2_with (refine store_rules rfl _ _ rfl rfl rfl rfl ?_
                   intro w4 hb4 F4
                   have k0 : w4.cell? ⟨w3.heap.size, 16, none⟩ = some (.func (.func 111) #[] #[]) := by rw [World.cell?, hb4]; rfl
                   have k1 : w4.cell? ⟨w3.heap.size, 17, none⟩ = some (.func (.func 131) #[] #[.pointer (some ⟨b8, 0, none⟩), .pointer (some ⟨c8, 0, none⟩)]) := by rw [World.cell?, hb4]; rfl
                   have HF4 : Hid (Fr None' w2 w4) := toHid9 (Fr.then7 (Hid.out HF3) F4)
                   obtain ⟨a0, a1, a2, a3, a4, a5, a6⟩ := ((Hid.out HB) w4 (Hid.out HF4)).1.cells
                   have Z4 := ((Hid.out HB) w4 (Hid.out HF4)).2
                   have z0 : w4.cell? ⟨w1.heap.size, 0, none⟩ = some .nilFunc := by rw [World.cell?, Z4]; rfl
                   have z1 : w4.cell? ⟨w1.heap.size, 1, none⟩ = some .nilFunc := by rw [World.cell?, Z4]; rfl
                   have zf : ∀ o, w4.frozen? ⟨w1.heap.size, o, none⟩ = false := fun o => by unfold World.frozen?; rw [Z4]; simp
                   clear hb4 F4 Z4)
      have q2 := HPR.out w4
      with_reducible refine q2.mono ?_
      rintro e w5 ⟨rfl, f5⟩
      have HF5 : Hid (Fr None' w2 w5) := HF4.out.then7 f5
      have K0 := f5.keepCell k0 (fun e => e)
      have K1 := f5.keepCell k1 (fun e => e)
      obtain ⟨B5, Z5⟩ := HB.out w5 HF5.out
      obtain ⟨d0, d1, d2, d3, d4, d5, d6⟩ := B5.cells
      clear q2 f5 k0 k1 a0 a1 a2 a3 a4 a5 a6 B5 z0 z1 zf
      cases R with
      | false =>
        have z0 : w5.cell? ⟨w1.heap.size, 0, none⟩ = some .nilFunc := by rw [World.cell?, Z5]; rfl
        have z1 : w5.cell? ⟨w1.heap.size, 1, none⟩ = some .nilFunc := by rw [World.cell?, Z5]; rfl
        have zf : ∀ o, w5.frozen? ⟨w1.heap.size, o, none⟩ = false := fun o => by unfold World.frozen?; rw [Z5]; simp
        clear Z5
        go_wp2_with fail
        obtain ⟨hld, hfr⟩ := fin_rule (HF2.out.then7 HF5.out) (HB.out w5 HF5.out).2 HN.out .nilFunc .nilFunc
        exact bodyPost_ret (v := .tuple #[.agg #[.nilFunc, .nilFunc], .bool false]) (by rw [results_cell_tmp rfl]; simp [asAddr, Result.andThen, hld]) rfl ⟨_, _, rfl, ⟨rfl, rfl⟩, hfr⟩
      | true =>
        clear Z5
        obtain ⟨w6, hw6⟩ : ∃ w6, w5.alloc (.cells #[.func (.func 111) #[] #[], .func (.func 131) #[] #[.pointer (some ⟨b8, 0, none⟩), .pointer (some ⟨c8, 0, none⟩)]] 95) = w6 := ⟨_, rfl⟩
        have F6 : Fr None' w5 w6 := hw6 ▸ Fr.alloc None' w5 _
        have R6 : w6.heap[w5.heap.size]? = some (.cells #[.func (.func 111) #[] #[], .func (.func 131) #[] #[.pointer (some ⟨b8, 0, none⟩), .pointer (some ⟨c8, 0, none⟩)]] 95 (0, 0)) := by rw [← hw6]; exact heap_alloc_new w5 _
        have HF6 : Hid (Fr None' w2 w6) := HF5.out.then7 F6
        obtain ⟨B6, Z6⟩ := HB.out w6 HF6.out
        obtain ⟨a0, a1, a2, a3, a4, a5, a6⟩ := B6.cells
        have e0 : w6.cell? ⟨w5.heap.size, 0, none⟩ = some (.func (.func 111) #[] #[]) := by rw [World.cell?, R6]; rfl
        have HR6 : Hid (∀ w', Fr None' w6 w' → w'.cell? ⟨w5.heap.size, 0, none⟩ = some (.func (.func 111) #[] #[]) ∧ w'.cell? ⟨w5.heap.size, 1, none⟩ = some (.func (.func 131) #[] #[.pointer (some ⟨b8, 0, none⟩), .pointer (some ⟨c8, 0, none⟩)])) := fun w' f => by
          have h := f.at R6 (fun e => e)
          exact ⟨by rw [World.cell?, h]; rfl, by rw [World.cell?, h]; rfl⟩
        have q3 := HToken.out w6 (HF2.out.then7 HF6.out)
        clear F6 R6 B6 Z6
        go_wp2_with fail
        with_reducible refine q3.mono ?_
        rintro e w7 ⟨rfl, f7⟩
        have HF7 : Hid (Fr None' w2 w7) := HF6.out.then7 f7
        obtain ⟨x0, x1⟩ := HR6.out w7 f7
        have Z7 := (HB.out w7 HF7.out).2
        have z0 : w7.cell? ⟨w1.heap.size, 0, none⟩ = some .nilFunc := by rw [World.cell?, Z7]; rfl
        have z1 : w7.cell? ⟨w1.heap.size, 1, none⟩ = some .nilFunc := by rw [World.cell?, Z7]; rfl
        have zf : ∀ o, w7.frozen? ⟨w1.heap.size, o, none⟩ = false := fun o => by unfold World.frozen?; rw [Z7]; simp
        have hne : ¬ w1.heap.size = w5.heap.size := by
          have h1 := (Array.getElem?_eq_some_iff.1 (HB.out w5 HF5.out).2).1
          omega
        have hne2 : ¬ w5.heap.size = w1.heap.size := fun e => hne e.symm
        clear q3 f7 a0 a1 a2 a3 a4 a5 a6 d0 d1 d2 d3 d4 d5 d6 K0 K1 e0 Z7
        cases R2 with
        | false =>
          go_wp2_with fail
          obtain ⟨hld, hfr⟩ := fin_rule (HF2.out.then7 HF7.out) (HB.out w7 HF7.out).2 HN.out .nilFunc .nilFunc
          exact bodyPost_ret (v := .tuple #[.agg #[.nilFunc, .nilFunc], .bool false]) (by rw [results_cell_tmp rfl]; simp [asAddr, Result.andThen, hld]) rfl ⟨_, _, rfl, ⟨rfl, rfl⟩, hfr⟩
        | true =>
          go_wp2_with fail
          obtain ⟨hld, hfr⟩ := fin_rule (HF2.out.then7 HF7.out) (HB.out w7 HF7.out).2 HN.out (.func (.func 111) #[] #[]) (.func (.func 131) #[] #[.pointer (some ⟨b8, 0, none⟩), .pointer (some ⟨c8, 0, none⟩)])
          exact bodyPost_ret (v := .tuple #[.agg #[(.func (.func 111) #[] #[]), (.func (.func 131) #[] #[.pointer (some ⟨b8, 0, none⟩), .pointer (some ⟨c8, 0, none⟩)])], .bool true]) (by rw [results_cell_tmp rfl]; simp [asAddr, Result.andThen, hld]) rfl ⟨_, _, rfl, ⟨rfl, rfl⟩, hfr⟩
  · as_aux_lemma =>
      obtain ⟨R, hR⟩ : ∃ R, Path.right P.data.toList = R := ⟨_, rfl⟩
      obtain ⟨R2, hR2⟩ : ∃ R, bytesP ⟨9, P, T, F, A, lO, lN⟩ = R := ⟨_, rfl⟩
      have hV : rightP ⟨9, P, T, F, A, lO, lN⟩ = (R && R2) := by simp [rightP, ruleP, hR, hR2]
      rw [hV]
      rw [hR] at HPR
      rw [hR2] at HBytes
      clear ho hn hs hR hR2 hV HBare HLines HToken HMove
      go_enter Tryz.func78, Tryz.ntmps78
      go_wp2_with fail
      with_reducible refine q1.mono ?_
      rintro e w3 ⟨b1, b2, b3, b4, b5, b6, b7, c7, b8, c8, b9, c9, rfl, f3⟩
      have HF3 : Hid (Fr None' w2 w3) := f3
      clear q1 f3
      go_wp2_with (refine store_rules rfl _ _ rfl rfl rfl rfl ?_
                   intro w4 hb4 F4
                   have k0 : w4.cell? ⟨w3.heap.size, 18, none⟩ = some (.func (.func 113) #[] #[]) := by rw [World.cell?, hb4]; rfl
                   have k1 : w4.cell? ⟨w3.heap.size, 19, none⟩ = some (.func (.func 131) #[] #[.pointer (some ⟨b9, 0, none⟩), .pointer (some ⟨c9, 0, none⟩)]) := by rw [World.cell?, hb4]; rfl
                   have HF4 : Hid (Fr None' w2 w4) := toHid9 (Fr.then7 (Hid.out HF3) F4)
                   obtain ⟨a0, a1, a2, a3, a4, a5, a6⟩ := ((Hid.out HB) w4 (Hid.out HF4)).1.cells
                   have Z4 := ((Hid.out HB) w4 (Hid.out HF4)).2
                   have z0 : w4.cell? ⟨w1.heap.size, 0, none⟩ = some .nilFunc := by rw [World.cell?, Z4]; rfl
                   have z1 : w4.cell? ⟨w1.heap.size, 1, none⟩ = some .nilFunc := by rw [World.cell?, Z4]; rfl
                   have zf : ∀ o, w4.frozen? ⟨w1.heap.size, o, none⟩ = false := fun o => by unfold World.frozen?; rw [Z4]; simp
                   clear hb4 F4 Z4)
      have q2 := HPR.out w4
      with_reducible refine q2.mono ?_
      rintro e w5 ⟨rfl, f5⟩
      have HF5 : Hid (Fr None' w2 w5) := HF4.out.then7 f5
      have K0 := f5.keepCell k0 (fun e => e)
      have K1 := f5.keepCell k1 (fun e => e)
      obtain ⟨B5, Z5⟩ := HB.out w5 HF5.out
      obtain ⟨d0, d1, d2, d3, d4, d5, d6⟩ := B5.cells
      clear q2 f5 k0 k1 a0 a1 a2 a3 a4 a5 a6 B5 z0 z1 zf
      cases R with
      | false =>
        have z0 : w5.cell? ⟨w1.heap.size, 0, none⟩ = some .nilFunc := by rw [World.cell?, Z5]; rfl
        have z1 : w5.cell? ⟨w1.heap.size, 1, none⟩ = some .nilFunc := by rw [World.cell?, Z5]; rfl
        have zf : ∀ o, w5.frozen? ⟨w1.heap.size, o, none⟩ = false := fun o => by unfold World.frozen?; rw [Z5]; simp
        clear Z5
        go_wp2_with fail
        obtain ⟨hld, hfr⟩ := fin_rule (HF2.out.then7 HF5.out) (HB.out w5 HF5.out).2 HN.out .nilFunc .nilFunc
        exact bodyPost_ret (v := .tuple #[.agg #[.nilFunc, .nilFunc], .bool false]) (by rw [results_cell_tmp rfl]; simp [asAddr, Result.andThen, hld]) rfl ⟨_, _, rfl, ⟨rfl, rfl⟩, hfr⟩
      | true =>
        clear Z5
        obtain ⟨w6, hw6⟩ : ∃ w6, w5.alloc (.cells #[.func (.func 113) #[] #[], .func (.func 131) #[] #[.pointer (some ⟨b9, 0, none⟩), .pointer (some ⟨c9, 0, none⟩)]] 95) = w6 := ⟨_, rfl⟩
        have F6 : Fr None' w5 w6 := hw6 ▸ Fr.alloc None' w5 _
        have R6 : w6.heap[w5.heap.size]? = some (.cells #[.func (.func 113) #[] #[], .func (.func 131) #[] #[.pointer (some ⟨b9, 0, none⟩), .pointer (some ⟨c9, 0, none⟩)]] 95 (0, 0)) := by rw [← hw6]; exact heap_alloc_new w5 _
        have HF6 : Hid (Fr None' w2 w6) := HF5.out.then7 F6
        obtain ⟨B6, Z6⟩ := HB.out w6 HF6.out
        obtain ⟨a0, a1, a2, a3, a4, a5, a6⟩ := B6.cells
        have e0 : w6.cell? ⟨w5.heap.size, 0, none⟩ = some (.func (.func 113) #[] #[]) := by rw [World.cell?, R6]; rfl
        have HR6 : Hid (∀ w', Fr None' w6 w' → w'.cell? ⟨w5.heap.size, 0, none⟩ = some (.func (.func 113) #[] #[]) ∧ w'.cell? ⟨w5.heap.size, 1, none⟩ = some (.func (.func 131) #[] #[.pointer (some ⟨b9, 0, none⟩), .pointer (some ⟨c9, 0, none⟩)])) := fun w' f => by
          have h := f.at R6 (fun e => e)
          exact ⟨by rw [World.cell?, h]; rfl, by rw [World.cell?, h]; rfl⟩
        have q3 := HBytes.out w6 (HF2.out.then7 HF6.out)
        clear F6 R6 B6 Z6
        go_wp2_with fail
        with_reducible refine q3.mono ?_
        rintro e w7 ⟨rfl, f7⟩
        have HF7 : Hid (Fr None' w2 w7) := HF6.out.then7 f7
        obtain ⟨x0, x1⟩ := HR6.out w7 f7
        have Z7 := (HB.out w7 HF7.out).2
        have z0 : w7.cell? ⟨w1.heap.size, 0, none⟩ = some .nilFunc := by rw [World.cell?, Z7]; rfl
        have z1 : w7.cell? ⟨w1.heap.size, 1, none⟩ = some .nilFunc := by rw [World.cell?, Z7]; rfl
        have zf : ∀ o, w7.frozen? ⟨w1.heap.size, o, none⟩ = false := fun o => by unfold World.frozen?; rw [Z7]; simp
        have hne : ¬ w1.heap.size = w5.heap.size := by
          have h1 := (Array.getElem?_eq_some_iff.1 (HB.out w5 HF5.out).2).1
          omega
        have hne2 : ¬ w5.heap.size = w1.heap.size := fun e => hne e.symm
        clear q3 f7 a0 a1 a2 a3 a4 a5 a6 d0 d1 d2 d3 d4 d5 d6 K0 K1 e0 Z7
        cases R2 with
        | false =>
          go_wp2_with fail
          obtain ⟨hld, hfr⟩ := fin_rule (HF2.out.then7 HF7.out) (HB.out w7 HF7.out).2 HN.out .nilFunc .nilFunc
          exact bodyPost_ret (v := .tuple #[.agg #[.nilFunc, .nilFunc], .bool false]) (by rw [results_cell_tmp rfl]; simp [asAddr, Result.andThen, hld]) rfl ⟨_, _, rfl, ⟨rfl, rfl⟩, hfr⟩
        | true =>
          go_wp2_with fail
          obtain ⟨hld, hfr⟩ := fin_rule (HF2.out.then7 HF7.out) (HB.out w7 HF7.out).2 HN.out (.func (.func 113) #[] #[]) (.func (.func 131) #[] #[.pointer (some ⟨b9, 0, none⟩), .pointer (some ⟨c9, 0, none⟩)])
          exact bodyPost_ret (v := .tuple #[.agg #[(.func (.func 113) #[] #[]), (.func (.func 131) #[] #[.pointer (some ⟨b9, 0, none⟩), .pointer (some ⟨c9, 0, none⟩)])], .bool true]) (by rw [results_cell_tmp rfl]; simp [asAddr, Result.andThen, hld]) rfl ⟨_, _, rfl, ⟨rfl, rfl⟩, hfr⟩
  · as_aux_lemma =>
      obtain ⟨R, hR⟩ : ∃ R, Path.right P.data.toList = R := ⟨_, rfl⟩
      obtain ⟨R2, hR2⟩ : ∃ R, moveP ⟨10, P, T, F, A, lO, lN⟩ = R := ⟨_, rfl⟩
      have hV : rightP ⟨10, P, T, F, A, lO, lN⟩ = (R && R2) := by simp [rightP, ruleP, hR, hR2]
      rw [hV]
      rw [hR] at HPR
      rw [hR2] at HMove
      clear ho hn hs hR hR2 hV HBare HLines HToken HBytes
      go_enter Tryz.func78, Tryz.ntmps78
      go_wp2_with fail
      with_reducible refine q1.mono ?_
      rintro e w3 ⟨b1, b2, b3, b4, b5, b6, b7, c7, b8, c8, b9, c9, rfl, f3⟩
      have HF3 : Hid (Fr None' w2 w3) := f3
      clear q1 f3
      go_wp2_with (refine store_rules rfl _ _ rfl rfl rfl rfl ?_
                   intro w4 hb4 F4
                   have k0 : w4.cell? ⟨w3.heap.size, 20, none⟩ = some (.func (.func 115) #[] #[]) := by rw [World.cell?, hb4]; rfl
                   have k1 : w4.cell? ⟨w3.heap.size, 21, none⟩ = some (.func (.func 116) #[] #[]) := by rw [World.cell?, hb4]; rfl
                   have HF4 : Hid (Fr None' w2 w4) := toHid9 (Fr.then7 (Hid.out HF3) F4)
                   obtain ⟨a0, a1, a2, a3, a4, a5, a6⟩ := ((Hid.out HB) w4 (Hid.out HF4)).1.cells
                   have Z4 := ((Hid.out HB) w4 (Hid.out HF4)).2
                   have z0 : w4.cell? ⟨w1.heap.size, 0, none⟩ = some .nilFunc := by rw [World.cell?, Z4]; rfl
                   have z1 : w4.cell? ⟨w1.heap.size, 1, none⟩ = some .nilFunc := by rw [World.cell?, Z4]; rfl
                   have zf : ∀ o, w4.frozen? ⟨w1.heap.size, o, none⟩ = false := fun o => by unfold World.frozen?; rw [Z4]; simp
                   clear hb4 F4 Z4)
      have q2 := HPR.out w4
      with_reducible refine q2.mono ?_
      rintro e w5 ⟨rfl, f5⟩
      have HF5 : Hid (Fr None' w2 w5) := HF4.out.then7 f5
      have K0 := f5.keepCell k0 (fun e => e)
      have K1 := f5.keepCell k1 (fun e => e)
      obtain ⟨B5, Z5⟩ := HB.out w5 HF5.out
      obtain ⟨d0, d1, d2, d3, d4, d5, d6⟩ := B5.cells
      clear q2 f5 k0 k1 a0 a1 a2 a3 a4 a5 a6 B5 z0 z1 zf
      cases R with
      | false =>
        have z0 : w5.cell? ⟨w1.heap.size, 0, none⟩ = some .nilFunc := by rw [World.cell?, Z5]; rfl
        have z1 : w5.cell? ⟨w1.heap.size, 1, none⟩ = some .nilFunc := by rw [World.cell?, Z5]; rfl
        have zf : ∀ o, w5.frozen? ⟨w1.heap.size, o, none⟩ = false := fun o => by unfold World.frozen?; rw [Z5]; simp
        clear Z5
        go_wp2_with fail
        obtain ⟨hld, hfr⟩ := fin_rule (HF2.out.then7 HF5.out) (HB.out w5 HF5.out).2 HN.out .nilFunc .nilFunc
        exact bodyPost_ret (v := .tuple #[.agg #[.nilFunc, .nilFunc], .bool false]) (by rw [results_cell_tmp rfl]; simp [asAddr, Result.andThen, hld]) rfl ⟨_, _, rfl, ⟨rfl, rfl⟩, hfr⟩
      | true =>
        clear Z5
        obtain ⟨w6, hw6⟩ : ∃ w6, w5.alloc (.cells #[.func (.func 115) #[] #[], .func (.func 116) #[] #[]] 95) = w6 := ⟨_, rfl⟩
        have F6 : Fr None' w5 w6 := hw6 ▸ Fr.alloc None' w5 _
        have R6 : w6.heap[w5.heap.size]? = some (.cells #[.func (.func 115) #[] #[], .func (.func 116) #[] #[]] 95 (0, 0)) := by rw [← hw6]; exact heap_alloc_new w5 _
        have HF6 : Hid (Fr None' w2 w6) := HF5.out.then7 F6
        obtain ⟨B6, Z6⟩ := HB.out w6 HF6.out
        obtain ⟨a0, a1, a2, a3, a4, a5, a6⟩ := B6.cells
        have e0 : w6.cell? ⟨w5.heap.size, 0, none⟩ = some (.func (.func 115) #[] #[]) := by rw [World.cell?, R6]; rfl
        have HR6 : Hid (∀ w', Fr None' w6 w' → w'.cell? ⟨w5.heap.size, 0, none⟩ = some (.func (.func 115) #[] #[]) ∧ w'.cell? ⟨w5.heap.size, 1, none⟩ = some (.func (.func 116) #[] #[])) := fun w' f => by
          have h := f.at R6 (fun e => e)
          exact ⟨by rw [World.cell?, h]; rfl, by rw [World.cell?, h]; rfl⟩
        have q3 := HMove.out w6 (HF2.out.then7 HF6.out)
        clear F6 R6 B6 Z6
        go_wp2_with fail
        with_reducible refine q3.mono ?_
        rintro e w7 ⟨rfl, f7⟩
        have HF7 : Hid (Fr None' w2 w7) := HF6.out.then7 f7
        obtain ⟨x0, x1⟩ := HR6.out w7 f7
        have Z7 := (HB.out w7 HF7.out).2
        have z0 : w7.cell? ⟨w1.heap.size, 0, none⟩ = some .nilFunc := by rw [World.cell?, Z7]; rfl
        have z1 : w7.cell? ⟨w1.heap.size, 1, none⟩ = some .nilFunc := by rw [World.cell?, Z7]; rfl
        have zf : ∀ o, w7.frozen? ⟨w1.heap.size, o, none⟩ = false := fun o => by unfold World.frozen?; rw [Z7]; simp
        have hne : ¬ w1.heap.size = w5.heap.size := by
          have h1 := (Array.getElem?_eq_some_iff.1 (HB.out w5 HF5.out).2).1
          omega
        have hne2 : ¬ w5.heap.size = w1.heap.size := fun e => hne e.symm
        clear q3 f7 a0 a1 a2 a3 a4 a5 a6 d0 d1 d2 d3 d4 d5 d6 K0 K1 e0 Z7
        cases R2 with
        | false =>
          go_wp2_with fail
          obtain ⟨hld, hfr⟩ := fin_rule (HF2.out.then7 HF7.out) (HB.out w7 HF7.out).2 HN.out .nilFunc .nilFunc
          exact bodyPost_ret (v := .tuple #[.agg #[.nilFunc, .nilFunc], .bool false]) (by rw [results_cell_tmp rfl]; simp [asAddr, Result.andThen, hld]) rfl ⟨_, _, rfl, ⟨rfl, rfl⟩, hfr⟩
        | true =>
          go_wp2_with fail
          obtain ⟨hld, hfr⟩ := fin_rule (HF2.out.then7 HF7.out) (HB.out w7 HF7.out).2 HN.out (.func (.func 115) #[] #[]) (.func (.func 116) #[] #[])
          exact bodyPost_ret (v := .tuple #[.agg #[(.func (.func 115) #[] #[]), (.func (.func 116) #[] #[])], .bool true]) (by rw [results_cell_tmp rfl]; simp [asAddr, Result.andThen, hld]) rfl ⟨_, _, rfl, ⟨rfl, rfl⟩, hfr⟩

set_option maxHeartbeats 4000000 in
theorem qright_any (x : Pr) (vo vn : Value) (w : World) (ho : StrsAt w vo x.old) (hn : StrsAt w vn x.new) (hs : BigP x) :
    Calls Tryz.prog 63 #[.agg #[.int .i64 x.kind, .string x.path, .string x.dst, .string x.src, .int .i64 x.pos, vo, vn]] w fun e w' => e = .returned (.bool (rightP x)) ∧ Fr None' w w' := by
  have HR : Hid (∀ w', Fr None' w w' → Calls Tryz.prog 78 #[.agg #[.int .i64 x.kind, .string x.path, .string x.dst, .string x.src, .int .i64 x.pos, vo, vn]] w' fun e w'' => RulePost (rightP x) w' e w'') := fun w' f => ruleOf_any x vo vn w' (ho.kept f) (hn.kept f) hs
  generalize rightP x = R at HR ⊢
  obtain ⟨pa, ca, rfl, _⟩ := ho.sl
  obtain ⟨pb, cb, rfl, _⟩ := hn.sl
  obtain ⟨K, P, T, F, A, lO, lN⟩ := x
  simp only at HR ⊢
  generalize lO.length = no at HR ⊢
  generalize lN.length = nn at HR ⊢
  obtain ⟨w1, hw1⟩ : ∃ w1, w.alloc (.cells #[.int .i64 K, .string P, .string T, .string F, .int .i64 A, .slice pa no ca, .slice pb nn cb] 67) = w1 := ⟨_, rfl⟩
  have F1 : Fr None' w w1 := hw1 ▸ Fr.alloc None' w _
  obtain ⟨a0, a1, a2, a3, a4, a5, a6⟩ := (hw1 ▸ Box.new w _ _ _ _ _ _ _ : Box w1 w.heap.size (.int .i64 K) (.string P) (.string T) (.string F) (.int .i64 A) (.slice pa no ca) (.slice pb nn cb)).cells
  have q1 := HR.out w1 F1
  have HF : Hid (Fr None' w w1) := F1
  clear F1 ho hn hs
  go_enter Tryz.func63, Tryz.ntmps63
  go_wp2_with fail
  with_reducible refine q1.mono ?_
  rintro e w2 ⟨r0, r1, rfl, ⟨h0, h1⟩, f2⟩
  have HF2 : Hid (Fr None' w w2) := HF.out.then7 f2
  have H01 : Hid (r0.oneCell' = true ∧ r1.oneCell' = true) := ⟨h0, h1⟩
  clear q1 f2 h0 h1
  go_wp2_with (refine wpList_store_row rfl _ _ _ rfl w2.heap.size _ rfl rfl 95 _ (heap_alloc_new w2 _) infoRule (by simp) (by simp [H01.out.1, H01.out.2]) ?_)
  go_ret
  exact ⟨rfl, HF2.out.then7 ((Fr.alloc None' w2 _).trans (Fr.setRow (M := fun i => i = w2.heap.size) _ rfl _) (fun i e => Or.inr (by omega)))⟩

end Go.Proofs.YtbiilnhefoplkaaGreatDoor
