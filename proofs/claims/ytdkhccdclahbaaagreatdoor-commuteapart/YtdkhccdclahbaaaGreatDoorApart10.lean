/-
  What is proved here: CommuteApart answers true. Conditions: its arguments lie in memory, and are no longer than the reach; Commute answers as it does.
-/
import Derived.Test.YtdkhccdclahbaaaGreatDoorBack10
import Derived.Maps.AppendAt
namespace Go.Proofs.YtdkhccdclahbaaaGreatDoor
open Go.RowKit
set_option maxRecDepth 100000

theorem and_step1 {far T Z : Bool} (h : true = (far && T)) : Z = (far && (T && Z)) := by cases far <;> cases T <;> simp_all
theorem and_step0 {far T Z : Bool} (h : false = (far && T)) : false = (far && (T && Z)) := by cases far <;> cases T <;> simp_all

theorem comm_own (x : Pr) : commP x x = (zeroP, zeroP, false) := commP_no comm_self

theorem comm_far {x y : Pr} (hx : rightP x = true) (hy : rightP y = true) (h : apartP x y = true) : (commP x y).1 = y ∧ (commP x y).2.1 = x ∧ (commP x y).2.2 = true := by
  rw [comm_apart hx hy h]
  exact ⟨rfl, rfl, rfl⟩

theorem push_str {base : Nat} {w : World} {v : Value} {l : List ByteArray} (h : w.ownsRow base 9 1 v l.length (l.map Value.string)) {b : Nat} {x : ByteArray} (hb : w.cell? ⟨b, 0, none⟩ = some (.string x)) (hn : l.length ≤ 1000) (hbase : base ≤ w.heap.size) :
    ∃ v' w', (Builtin.append_ #[22, 22] 22 #[v, .slice (some ⟨b, 0, none⟩) 1 1]).run Tryz.prog w = .ok v' w' ∧ w'.ownsRow base 9 1 v' (l ++ [x]).length ((l ++ [x]).map Value.string) ∧ Fr (fun k => v.ownBlock = some k) w w' ∧ (v'.ownBlock = v.ownBlock ∨ v'.ownBlock = some w.heap.size) := by
  obtain ⟨i0, hi, hz0, hz1, hz2⟩ := info_parts Lines.Tryz.infoS
  obtain ⟨v', w', hr, h5, h6, _, h7⟩ := run_append_own_at (P := Tryz.prog) w base 22 22 9 i0 _ 1 16 Tryz.underlying22 hi hz0 hz1 hz2 rfl (by decide) v l.length (l.map Value.string) h ⟨b, 0, none⟩ 1 1 [.string x] (by simp) (fun j u hj => by
    have hj0 : j = 0 := by have := (List.getElem?_eq_some_iff.1 hj).1; simpa using this
    subst hj0
    have : Value.string x = u := by simpa using hj
    subst this
    rw [show (⟨b, 0, none⟩ : Addr).add 0 = ⟨b, 0 + 0, none⟩ from Addr.add_lit .., Nat.zero_add]
    exact hb) (fun u hu => by rw [List.mem_singleton.1 hu]; rfl) (by unfold maxLen; omega) (by omega) hbase
  exact ⟨v', w', hr, by rw [List.length_append, List.map_append]; exact h5, Fr.grown h6 (fun k e => e), h7⟩

theorem own_far {M : Nat → Prop} {w w' : World} {base n : Nat} {e : TypeId} {v : Value} {xs : List Value} (h : w.ownsRow base e 1 v n xs) (f : Fr M w w') (hm : ∀ k, v.ownBlock = some k → ¬ M k) : w'.ownsRow base e 1 v n xs := by
  refine ⟨h.1, ?_⟩
  rcases h.2 with h | ⟨g, cap, cur, hv, hb, hh, h⟩
  · exact Or.inl h
  · exact Or.inr ⟨g, cap, cur, hv, hb, f.at hh (hm g (by rw [hv]; rfl)), h⟩

theorem own_row {base : Nat} {w : World} {v : Value} {l : List ByteArray} (h : w.ownsRow base 9 1 v l.length (l.map Value.string)) : ∃ p c, v = .slice p l.length c ∧ Lines.Row w p l := by
  obtain ⟨p, c, e, _, _, hr⟩ := own_strs h
  exact ⟨p, c, e, hr⟩

theorem app_str10 {ops : Array Oper} {rest : List Oper} {o : Oper} {a : Act} {w w' : World} {Q : Exit → Act → World → Prop} {t : TypeId} (hgd : o.guard = none) (s x : Operand)
    (ho : o.op = .call { callee := .builtin .append, args := #[s, x], argTypes := #[t, t] }) {vs vx v : Value} (hs : a.eval s = vs) (hx : a.eval x = vx) (hr : (Builtin.append_ #[t, t] o.type #[vs, vx]).run Tryz.prog w = .ok v w')
    (h : wpList Tryz.prog ops Q rest (a.put o.dst v) w') : wpList Tryz.prog ops Q (o :: rest) a w := app_list9 hgd s x ho hs hx hr h

theorem own_one {base : Nat} {w : World} {x : ByteArray} (hb : base ≤ w.heap.size) : (w.alloc (.cells #[.string x] 9)).ownsRow base 9 1 (.slice (some ⟨w.heap.size, 0, none⟩) 1 1) [x].length ([x].map Value.string) :=
  ⟨rfl, Or.inr ⟨w.heap.size, 1, #[.string x], rfl, hb, heap_alloc_new w _, Nat.le_refl _, by unfold maxLen; omega, rfl, rfl⟩⟩

set_option maxHeartbeats 16000000 in
theorem apart_walk (hC : CommuteAll) (x y : Pr) (vo vn uo un : Value) (W : World) (ho : StrsAt W vo x.old) (hn : StrsAt W vn x.new) (go : StrsAt W uo y.old) (gn : StrsAt W un y.new) (lo : x.old.length ≤ 140737488355328) (ln : x.new.length ≤ 140737488355328) (mo' : y.old.length ≤ 140737488355328) (mn' : y.new.length ≤ 140737488355328) :
    Calls Tryz.prog 5 #[.agg #[.int .i64 x.kind, .string x.path, .string x.dst, .string x.src, .int .i64 x.pos, vo, vn], .agg #[.int .i64 y.kind, .string y.path, .string y.dst, .string y.src, .int .i64 y.pos, uo, un]] W fun e w' => e = .returned (.bool true) ∧ Fr None' W w' := by
  obtain ⟨pa, ca, hva⟩ := ho.as2
  obtain ⟨pb, cb, hvb⟩ := hn.as2
  obtain ⟨qa, da, hua⟩ := go.as2
  obtain ⟨qb, db, hub⟩ := gn.as2
  have HG1 := toHid10 (fun w' (f : Fr None' W w') => pgreat_any x vo vn w' (ho.kept f) (hn.kept f) lo ln)
  have HG2 := toHid10 (fun w' (f : Fr None' W w') => pgreat_any y uo un w' (go.kept f) (gn.kept f) mo' mn')
  have HCm := toHid10 (fun (hx : x.weight < 4000) (hy : y.weight < 4000) w' (f : Fr None' W w') => (hC x y vo vn uo un w' (ho.kept f) (hn.kept f) (go.kept f) (gn.kept f) (weight_small10 hx) (weight_small10 hy)).mono (fun e w'' h => CommPost.at (a := (commP x y).1) (b := (commP x y).2.1) (r := (commP x y).2.2) rfl h))
  have HR1 := toHid10 (fun (hx : x.weight < 4000) w' (f : Fr None' W w') => qright_any x vo vn w' (ho.kept f) (hn.kept f) (weight_small10 hx))
  have HR2 := toHid10 (fun (hy : y.weight < 4000) w' (f : Fr None' W w') => qright_any y uo un w' (go.kept f) (gn.kept f) (weight_small10 hy))
  have HCo := toHid10 (fun (hx : x.weight < 4000) w' (f : Fr None' W w') => (hC x x vo vn vo vn w' (ho.kept f) (hn.kept f) (ho.kept f) (hn.kept f) (weight_small10 hx) (weight_small10 hx)).mono (fun e w'' h => CommPost.at (comm_own x) h))
  have HSx := toHid10 (fun (hx : x.weight < 4000) w' ro eo rn en (f : Fr None' W w') (s1 : StrsAt w' (.slice ro x.old.length eo) x.old) (s2 : StrsAt w' (.slice rn x.new.length en) x.new) => psame_any x _ _ vo vn w' s1 s2 (ho.kept f) (hn.kept f) (by have := (weight_small10 hx).old; omega) (by have := (weight_small10 hx).new; omega))
  have HSy := toHid10 (fun (hy : y.weight < 4000) w' ro eo rn en (f : Fr None' W w') (s1 : StrsAt w' (.slice ro y.old.length eo) y.old) (s2 : StrsAt w' (.slice rn y.new.length en) y.new) => psame_any y _ _ uo un w' s1 s2 (go.kept f) (gn.kept f) (by have := (weight_small10 hy).old; omega) (by have := (weight_small10 hy).new; omega))
  subst hva hvb hua hub
  obtain ⟨no, hno⟩ : ∃ m, x.old.length = m := ⟨_, rfl⟩
  obtain ⟨nn, hnn⟩ : ∃ m, x.new.length = m := ⟨_, rfl⟩
  obtain ⟨mo, hmo⟩ : ∃ m, y.old.length = m := ⟨_, rfl⟩
  obtain ⟨mn, hmn⟩ : ∃ m, y.new.length = m := ⟨_, rfl⟩
  unfold CommC at HCm HCo
  simp only [zeroP, List.length_nil] at HCo
  rw [hno] at HG1 HCm HCo HSx HR1
  rw [hnn] at HG1 HCm HCo HSx HR1
  rw [hmo] at HG2 HCm HSy HR2
  rw [hmn] at HG2 HCm HSy HR2
  rw [hno, hnn, hmo, hmn]
  obtain ⟨w1, hw1⟩ : ∃ w1, W.alloc (.cells #[.int .i64 x.kind, .string x.path, .string x.dst, .string x.src, .int .i64 x.pos, .slice pa no ca, .slice pb nn cb] 24) = w1 := ⟨_, rfl⟩
  obtain ⟨w2, hw2⟩ : ∃ w2, w1.alloc (.cells #[.int .i64 y.kind, .string y.path, .string y.dst, .string y.src, .int .i64 y.pos, .slice qa mo da, .slice qb mn db] 24) = w2 := ⟨_, rfl⟩
  have F1 : Fr None' W w1 := hw1 ▸ Fr.alloc None' _ _
  have F2 : Fr None' w1 w2 := hw2 ▸ Fr.alloc None' _ _
  have HBX := toHid10 (show ∀ w', Fr None' w2 w' → Box w' W.heap.size (.int .i64 x.kind) (.string x.path) (.string x.dst) (.string x.src) (.int .i64 x.pos) (.slice pa no ca) (.slice pb nn cb) from fun w' f => ((hw1 ▸ Box.new W _ _ _ _ _ _ _ : Box w1 _ _ _ _ _ _ _ _).kept F2).kept f)
  have HBY := toHid10 (show ∀ w', Fr None' w2 w' → Box w' w1.heap.size (.int .i64 y.kind) (.string y.path) (.string y.dst) (.string y.src) (.int .i64 y.pos) (.slice qa mo da) (.slice qb mn db) from fun w' f => (hw2 ▸ Box.new w1 _ _ _ _ _ _ _ : Box w2 _ _ _ _ _ _ _ _).kept f)
  have HF2 := toHid10 (F1.then7 F2)
  have q1 := head_any hC w2
  have HNn := toHid10 (show x.old.length = no ∧ x.new.length = nn ∧ y.old.length = mo ∧ y.new.length = mn from ⟨hno, hnn, hmo, hmn⟩)
  clear ho hn go gn lo ln mo' mn' F1 F2 hno hnn hmo hmn hC
  go_enter Tryz.func5, Tryz.ntmps5
  go_wp2_with fail
  with_reducible refine q1.mono ?_
  rintro e w3 ⟨rfl, f3⟩
  have HF3 := toHid10 f3
  obtain ⟨x0, x1, x2, x3, x4, x5, x6⟩ := (HBX.out w3 f3).cells
  have q2 := HG1.out w3 (HF2.out.then7 f3)
  clear q1 f3
  go_wp2_with fail
  with_reducible refine q2.mono ?_
  rintro e w4 ⟨g, rfl, hg, f4⟩
  have HF4 := toHid10 (HF3.out.then7 f4)
  clear q2 f4 x0 x1 x2 x3 x4 x5 x6
  cases g with
  | true =>
    have HFW := toHid10 (HF2.out.then7 HF4.out)
    go_wp2_with fail
    go_ret
    exact ⟨rfl, HFW.out⟩
  | false =>
  have HW1 := toHid10 (hg rfl)
  clear hg
  obtain ⟨y0, y1, y2, y3, y4, y5, y6⟩ := (HBY.out w4 HF4.out).cells
  have q3 := HG2.out w4 (HF2.out.then7 HF4.out)
  go_wp2_with fail
  with_reducible refine q3.mono ?_
  rintro e w5 ⟨g, rfl, hg, f5⟩
  have HF5 := toHid10 (HF4.out.then7 f5)
  clear q3 f5 y0 y1 y2 y3 y4 y5 y6
  cases g with
  | true =>
    have HFW := toHid10 (HF2.out.then7 HF5.out)
    go_wp2_with fail
    go_ret
    exact ⟨rfl, HFW.out⟩
  | false =>
  have HW2 := toHid10 (hg rfl)
  clear hg
  obtain ⟨R1, hR1⟩ : ∃ R, rightP x = R := ⟨_, rfl⟩
  obtain ⟨R2, hR2⟩ : ∃ R, rightP y = R := ⟨_, rfl⟩
  have q4 := HR1.out HW1.out w5 (HF2.out.then7 HF5.out)
  rw [hR1] at q4
  rw [hR2] at HR2
  have HE1 := toHid10 hR1
  have HE2 := toHid10 hR2
  obtain ⟨x0, x1, x2, x3, x4, x5, x6⟩ := (HBX.out w5 HF5.out).cells
  clear hR1 hR2
  go_wp2_with fail
  with_reducible refine q4.mono ?_
  rintro e w6 ⟨rfl, f6⟩
  have HF6 := toHid10 (HF5.out.then7 f6)
  clear q4 f6 x0 x1 x2 x3 x4 x5 x6
  cases R1 with
  | false =>
    have HFW := toHid10 (HF2.out.then7 HF6.out)
    go_wp2_with fail
    go_ret
    exact ⟨rfl, HFW.out⟩
  | true =>
  have q5 := HR2.out HW2.out w6 (HF2.out.then7 HF6.out)
  obtain ⟨y0, y1, y2, y3, y4, y5, y6⟩ := (HBY.out w6 HF6.out).cells
  go_wp2_with fail
  with_reducible refine q5.mono ?_
  rintro e w7 ⟨rfl, f7⟩
  have HF7 := toHid10 (HF6.out.then7 f7)
  clear q5 f7 y0 y1 y2 y3 y4 y5 y6
  cases R2 with
  | false =>
    have HFW := toHid10 (HF2.out.then7 HF7.out)
    go_wp2_with fail
    go_ret
    exact ⟨rfl, HFW.out⟩
  | true =>
  have q6 := HCm.out HW1.out HW2.out w7 (HF2.out.then7 HF7.out)
  obtain ⟨x0, x1, x2, x3, x4, x5, x6⟩ := (HBX.out w7 HF7.out).cells
  obtain ⟨y0, y1, y2, y3, y4, y5, y6⟩ := (HBY.out w7 HF7.out).cells
  have HFar := toHid10 (fun h => comm_far HE1.out HE2.out h)
  have HPth := toHid10 (And.intro (right_path HE1.out) (And.intro (right_path HE2.out) (And.intro (fun h => move_dst (x := x) HE1.out h) (fun h => move_dst (x := y) HE2.out h))))
  obtain ⟨cc, hcc⟩ : ∃ cc, commP x y = cc := ⟨_, rfl⟩
  rw [hcc] at q6 HFar
  obtain ⟨a, b, r⟩ := cc
  simp only at q6 HFar
  clear hcc
  go_wp2_with fail
  with_reducible refine q6.mono ?_
  rintro e w8 ⟨po1, pn1, po2, pn2, co1, cn1, co2, cn2, rfl, HS8, f8⟩
  clear q6 x0 x1 x2 x3 x4 x5 x6 y0 y1 y2 y3 y4 y5 y6
  obtain ⟨w10, hw10⟩ : ∃ z, (w8.alloc (.cells #[.int .i64 a.kind, .string a.path, .string a.dst, .string a.src, .int .i64 a.pos, .slice po1 a.old.length co1, .slice pn1 a.new.length cn1] 24)).alloc (.cells #[.int .i64 b.kind, .string b.path, .string b.dst, .string b.src, .int .i64 b.pos, .slice po2 b.old.length co2, .slice pn2 b.new.length cn2] 24) = z := ⟨_, rfl⟩
  obtain ⟨Ba, Bb, F10⟩ := two_new hw10
  have HBab := toHid10 (And.intro Ba Bb)
  have HF10 := toHid10 (HF7.out.then7 (f8.then7 F10))
  have HS10 := toHid10 (show (StrsAt w10 (.slice po1 a.old.length co1) a.old ∧ StrsAt w10 (.slice pn1 a.new.length cn1) a.new) ∧ StrsAt w10 (.slice po2 b.old.length co2) b.old ∧ StrsAt w10 (.slice pn2 b.new.length cn2) b.new from ⟨⟨HS8.out.1.1.kept F10, HS8.out.1.2.kept F10⟩, HS8.out.2.1.kept F10, HS8.out.2.2.kept F10⟩)
  have q7 := HCo.out HW1.out w10 (HF2.out.then7 HF10.out)
  obtain ⟨x0, x1, x2, x3, x4, x5, x6⟩ := (HBX.out w10 HF10.out).cells
  clear Ba Bb F10 f8 HS8
  go_wp2_with fail
  with_reducible refine q7.mono ?_
  rintro e w11 ⟨ro1, rn1, ro2, rn2, eo1, en1, eo2, en2, rfl, _, f11⟩
  clear q7 x0 x1 x2 x3 x4 x5 x6
  obtain ⟨w13, hw13⟩ : ∃ z, (w11.alloc (.cells #[.int .i64 0, .string ⟨#[]⟩, .string ⟨#[]⟩, .string ⟨#[]⟩, .int .i64 0, .slice ro1 0 eo1, .slice rn1 0 en1] 24)).alloc (.cells #[.int .i64 0, .string ⟨#[]⟩, .string ⟨#[]⟩, .string ⟨#[]⟩, .int .i64 0, .slice ro2 0 eo2, .slice rn2 0 en2] 24) = z := ⟨_, rfl⟩
  obtain ⟨_, _, F13⟩ := two_new hw13
  have HF13 := toHid10 (f11.then7 F13)
  obtain ⟨w14, hw14⟩ : ∃ z, w13.alloc (.cells #[.string x.path] 9) = z := ⟨_, rfl⟩
  obtain ⟨w15, hw15⟩ : ∃ z, w14.alloc (.cells #[.string y.path] 9) = z := ⟨_, rfl⟩
  have F14 : Fr None' w13 w14 := hw14 ▸ Fr.alloc None' _ _
  have F15 : Fr None' w14 w15 := hw15 ▸ Fr.alloc None' _ _
  have HO1 := toHid10 (show w15.ownsRow w13.heap.size 9 1 (.slice (some ⟨w13.heap.size, 0, none⟩) 1 1) [x.path].length ([x.path].map Value.string) from own_far (hw14 ▸ own_one (Nat.le_refl _) : w14.ownsRow w13.heap.size 9 1 _ _ _) F15 (fun _ _ e => e))
  have HO2 := toHid10 (show w15.ownsRow w13.heap.size 9 1 (.slice (some ⟨w14.heap.size, 0, none⟩) 1 1) [y.path].length ([y.path].map Value.string) from hw15 ▸ own_one F14.size)
  have HF15 := toHid10 (show Fr None' w10 w15 from (HF13.out.then7 F14).then7 F15)
  obtain ⟨x0, x1, x2, x3, x4, x5, x6⟩ := (HBX.out w13 (HF10.out.then7 HF13.out)).cells
  obtain ⟨y0, y1, y2, y3, y4, y5, y6⟩ := (HBY.out w14 ((HF10.out.then7 HF13.out).then7 F14)).cells
  obtain ⟨xx0, xx1, xx2, xx3, xx4, xx5, xx6⟩ := (HBX.out w15 (HF10.out.then7 HF15.out)).cells
  have HF145 := toHid10 (And.intro F14 F15)
  clear f11 F13 F14 F15
  by_cases hk1 : x.kind = 10 <;> by_cases hk2 : y.kind = 10
  · skip
    have HAp := toHid10 (show apartP x y = [x.path, x.dst].all (fun a => [y.path, y.dst].all fun b => apP a b) from by unfold apartP placesP; rw [if_pos hk1, if_pos hk2])
    have HSz := toHid10 (show (∀ z ∈ [x.path, x.dst], z.size ≤ 135) ∧ (∀ z ∈ [y.path, y.dst], z.size ≤ 135) from ⟨fun z hz => by simp only [List.mem_cons, List.not_mem_nil, or_false] at hz; rcases hz with rfl | rfl; exact HPth.out.1; exact HPth.out.2.2.1 hk1, fun z hz => by simp only [List.mem_cons, List.not_mem_nil, or_false] at hz; rcases hz with rfl | rfl; exact HPth.out.2.1; exact HPth.out.2.2.2 hk2⟩)
    have s14 : w14.heap.size = w13.heap.size + 1 := by rw [← hw14]; simp
    have s15 : w15.heap.size = w14.heap.size + 1 := by rw [← hw15]; simp
    have ox := HO1.out
    have oy := HO2.out
    have fc := Fr.refl None' w15
    have f3 : Fr None' w13 w15 := HF145.out.1.then7 HF145.out.2
    have nx : ∀ k, (Value.slice (some ⟨w13.heap.size, 0, none⟩) 1 1).ownBlock = some k → k = w13.heap.size := fun k e => (Option.some.inj e).symm
    have ny : ∀ k, (Value.slice (some ⟨w14.heap.size, 0, none⟩) 1 1).ownBlock = some k → k = w14.heap.size := fun k e => (Option.some.inj e).symm
    obtain ⟨w16, hw16⟩ : ∃ z, w15.alloc (.cells #[.string x.dst] 9) = z := ⟨_, rfl⟩
    have Fw16 : Fr None' w15 w16 := hw16 ▸ Fr.alloc None' _ _
    have cw16 : w16.cell? ⟨w15.heap.size, 0, none⟩ = some (.string x.dst) := by rw [← hw16, World.cell?, heap_alloc_new]; rfl
    obtain ⟨v17, w17, rw17, ow17, gw17, bw17⟩ := push_str (own_far ox Fw16 (fun _ _ e => e)) cw16 (by simp) (by have := f3.size; have := Fw16.size; omega)
    have kw17 := own_far (own_far oy Fw16 (fun _ _ e => e)) gw17 (fun k e h => by have h1 := ny k e; have h2 := nx k h; have := f3.size; omega)
    have fw17 : Fr None' w13 w17 := (f3.then7 Fw16).trans gw17 (fun i e => Or.inr (by have h := nx i e; omega))
    obtain ⟨p17, c17, e17, R17⟩ := own_row ow17
    have nx2 : ∀ k, v17.ownBlock = some k → k = w13.heap.size ∨ k = w16.heap.size := fun k e => by rcases bw17 with h | h; rw [h] at e; exact Or.inl (nx k e); rw [h] at e; exact Or.inr (Option.some.inj e).symm
    have sw16 : w15.heap.size ≤ w16.heap.size := Fw16.size
    have HR17 := toHid10 rw17
    replace ox := ow17
    replace oy := kw17
    replace nx := nx2
    replace f3 := fw17
    have hfw17 := f3
    obtain ⟨w18, hw18⟩ : ∃ z, w17.alloc (.cells #[.string y.dst] 9) = z := ⟨_, rfl⟩
    have Fw18 : Fr None' w17 w18 := hw18 ▸ Fr.alloc None' _ _
    have cw18 : w18.cell? ⟨w17.heap.size, 0, none⟩ = some (.string y.dst) := by rw [← hw18, World.cell?, heap_alloc_new]; rfl
    obtain ⟨v19, w19, rw19, ow19, gw19, bw19⟩ := push_str (own_far oy Fw18 (fun _ _ e => e)) cw18 (by simp) (by have := f3.size; have := Fw18.size; omega)
    have kw19 := own_far (own_far ox Fw18 (fun _ _ e => e)) gw19 (fun k e h => by have h1 := nx k e; have h2 := ny k h; have := f3.size; omega)
    have fw19 : Fr None' w13 w19 := (f3.then7 Fw18).trans gw19 (fun i e => Or.inr (by have h := ny i e; omega))
    obtain ⟨p19, c19, e19, R19⟩ := own_row ow19
    have HR19 := toHid10 rw19
    replace oy := ow19
    replace ox := kw19
    replace f3 := fw19
    have HFT := toHid10 (show Fr None' w10 w19 from HF13.out.then7 f3)
    have HX := toHid10 (show ∃ p c, v17 = .slice p 2 c ∧ Lines.Row w19 p [x.path, x.dst] from by obtain ⟨p, c, e, h⟩ := own_row ox; exact ⟨p, c, e, h⟩)
    have HY := toHid10 (show ∃ p c, v19 = .slice p 2 c ∧ Lines.Row w19 p [y.path, y.dst] from by obtain ⟨p, c, e, h⟩ := own_row oy; exact ⟨p, c, e, h⟩)
    obtain ⟨yy0, yy1, yy2, yy3, yy4, yy5, yy6⟩ := (HBY.out w15 (HF10.out.then7 HF15.out)).cells
    rw [hk1] at xx0
    obtain ⟨ww0, ww1, ww2, ww3, ww4, ww5, ww6⟩ := (HBY.out w17 (HF10.out.then7 (HF13.out.then7 (show Fr None' w13 w17 from hfw17)))).cells
    rw [hk2] at ww0
    obtain ⟨px, cx, ex, hX⟩ := HX.out
    replace HX := toHid10 hX
    subst ex
    obtain ⟨py, cy, ey, hY⟩ := HY.out
    replace HY := toHid10 hY
    subst ey
    clear s14 s15 ox oy fc f3 nx ny Fw16 cw16 rw17 gw17 bw17 ow17 kw17 R17 Fw18 cw18 rw19 gw19 bw19 ow19 kw19 R19 hfw17 hX hY nx2 sw16
    clear hk1
    clear hk2
    go_wp2_with ((at_builtin; first | (refine app_str10 rfl _ _ rfl rfl rfl (Hid.out HR17) ?_) | (refine app_str10 rfl _ _ rfl rfl rfl (Hid.out HR19) ?_)))
    clear x0 x1 x2 x3 x4 x5 x6 y0 y1 y2 y3 y4 y5 y6 xx0 xx1 xx2 xx3 xx4 xx5 xx6 yy0 yy1 yy2 yy3 yy4 yy5 yy6 ww0 ww1 ww2 ww3 ww4 ww5 ww6
    go_loopw [14, 15] (fun vf vi wr => ∃ (i : Nat) (far : Bool), i ≤ 2 ∧ vi = .int .i64 i ∧ vf = .bool far ∧ Hid (far = ([x.path, x.dst].take i).all (fun a => [y.path, y.dst].all fun b => apP a b)) ∧ Hid (Fr None' w19 wr)) (fun _ vi _ => 2 - (intOf vi).toNat)
    case atStart => exact ⟨0, true, Nat.zero_le _, rfl, rfl, rfl, Fr.refl _ _⟩
    case round =>
      obtain ⟨i, far, hi, rfl, rfl, HA1, HFr⟩ := hrel
      by_cases hlt : i < 2
      · have hiL : i < [x.path, x.dst].length := hlt
        obtain ⟨g1, o1, e1, cX0⟩ := HX.out.get hiL
        have HA2 := toHid10 (show ([x.path, x.dst].take (i + 1)).all (fun a => [y.path, y.dst].all fun b => apP a b) = (([x.path, x.dst].take i).all (fun a => [y.path, y.dst].all fun b => apP a b) && [y.path, y.dst].all fun b => apP [x.path, x.dst][i] b) from by rw [List.take_succ_eq_append_getElem hiL, List.all_append]; simp)
        have HXi := toHid10 (show ∀ w', Fr None' w19 w' → w'.cell? ⟨g1, o1 + i, none⟩ = some (.string [x.path, x.dst][i]) from fun w' f => f.keepCell cX0 (fun e => e))
        have HXs := toHid10 (HSz.out.1 _ (List.getElem_mem hiL))
        generalize [x.path, x.dst][i] = xi at HA2 HXi HXs
        have j1 : (i : Int) < (2 : Int) := by omega
        have j2 : (0 : Int) ≤ (i : Int) := by omega
        clear hlt cX0
        go_wp2_with fail
        go_loopw [14, 16] (fun vf vk wr => ∃ (k : Nat) (fr2 : Bool), k ≤ 2 ∧ vk = .int .i64 k ∧ vf = .bool fr2 ∧ Hid (fr2 = (far && ([y.path, y.dst].take k).all fun b => apP xi b)) ∧ Hid (Fr None' w19 wr)) (fun _ vk _ => 2 - (intOf vk).toNat)
        case atStart => exact ⟨0, far, Nat.zero_le _, rfl, rfl, by simp [Hid], HFr.out⟩
        case round =>
          obtain ⟨k, fr2, hk, rfl, rfl, HB1, HFr2⟩ := hrel
          by_cases hlk : k < 2
          · have hkL : k < [y.path, y.dst].length := hlk
            obtain ⟨g2, o2, e2, cY⟩ := (HY.out.fr (toLN HFr2.out)).get hkL
            have HB2 := toHid10 (show ([y.path, y.dst].take (k + 1)).all (fun b => apP xi b) = (([y.path, y.dst].take k).all (fun b => apP xi b) && apP xi [y.path, y.dst][k]) from by rw [List.take_succ_eq_append_getElem hkL, List.all_append]; simp)
            have cX := HXi.out wr HFr2.out
            have HYs := HSz.out.2 _ (List.getElem_mem hkL)
            generalize [y.path, y.dst][k] = yk at HB2 cY HYs
            have cQ : ∀ w', Calls Tryz.prog 19 #[.string xi, .string yk] w' fun e w'' => e = .returned (.bool (apP xi yk)) ∧ w' = w'' := fun w' => Path.rapart_any xi yk w' (by have := HXs.out; omega) (by omega)
            generalize apP xi yk = Z at HB2 cQ
            have j3 : (k : Int) < (2 : Int) := by omega
            have j4 : (0 : Int) ≤ (k : Int) := by omega
            have HFn := toHid10 (fun nq => (HFr2.out.then7 (Fr.drewN None' wr nq)))
            clear hlk HYs
            (first | subst e1 | cases e1)
            (first | subst e2 | cases e2)
            (try rw [Nat.zero_add] at cX)
            (try rw [Nat.zero_add] at cY)
            cases fr2 with
            | true =>
              go_wp2_with fail
              go_quiet ((go_at_call 19; exact Calls.quiet_of_same ((cQ _).mono fun _ _ h => ⟨h.1, h.2.symm⟩)))
              go_wp2_with fail
              exact ⟨⟨k + 1, Z, by omega, by go_num, rfl, (by show Z = _; rw [HB2.out]; exact and_step1 HB1.out), HFn.out _⟩, by simp [intOf]; omega⟩
            | false =>
              go_wp2_with fail
              go_quiet ((go_at_call 19; exact Calls.quiet_of_same ((cQ _).mono fun _ _ h => ⟨h.1, h.2.symm⟩)))
              go_wp2_with fail
              exact ⟨⟨k + 1, false, by omega, by go_num, rfl, (by show false = _; rw [HB2.out]; exact and_step0 HB1.out), HFn.out _⟩, by simp [intOf]; omega⟩
          · have ek : k = 2 := by omega
            subst ek
            have HFo := HFr2
            have HAn := toHid10 (show fr2 = ([x.path, x.dst].take (i + 1)).all (fun a => [y.path, y.dst].all fun b => apP a b) from by
              rw [HA2.out, ← HA1.out]
              have h := HB1.out
              rw [show [y.path, y.dst].take 2 = [y.path, y.dst] from rfl] at h
              exact h)
            clear hlk
            go_wp2_with fail
            exact ⟨⟨i + 1, fr2, by omega, by go_num, rfl, HAn.out, HFo.out⟩, by simp [intOf]; omega⟩
      · have ei : i = 2 := by omega
        subst ei
        have HAz := toHid10 (show far = apartP x y from by
          have h := HA1.out
          rw [show [x.path, x.dst].take 2 = [x.path, x.dst] from rfl] at h
          rw [h, HAp.out])
        have HFz := toHid10 (HFT.out.then7 HFr.out)
        clear hlt
        cases far with
        | false =>
          have HFW := toHid10 ((HF2.out.then7 HF10.out).then7 HFz.out)
          go_wp2_with fail
          go_ret
          exact ⟨rfl, HFW.out⟩
        | true =>
          obtain ⟨ha, hb, hr⟩ := HFar.out HAz.out.symm
          subst ha hb hr
          have q8 := HSy.out HW2.out wr po1 co1 pn1 cn1 ((HF2.out.then7 HF10.out).then7 HFz.out) (by have h := HS10.out.1.1.kept HFz.out; rw [HNn.out.2.2.1] at h; exact h) (by have h := HS10.out.1.2.kept HFz.out; rw [HNn.out.2.2.2] at h; exact h)
          have B1 := HBab.out.1.kept HFz.out
          have B2 := HBab.out.2.kept HFz.out
          have s2 := HS10.out.2.1.kept HFz.out
          have s3 := HS10.out.2.2.kept HFz.out
          have HL := HNn.out
          rw [HL.1] at B2 s2
          rw [HL.2.1] at B2 s3
          rw [HL.2.2.1] at B1
          rw [HL.2.2.2] at B1
          obtain ⟨d0, d1, d2, d3, d4, d5, d6⟩ := B1.cells
          obtain ⟨y0, y1, y2, y3, y4, y5, y6⟩ := (HBY.out wr (HF10.out.then7 HFz.out)).cells
          have HB2 := toHid10 B2
          have HS2 := toHid10 (And.intro s2 s3)
          clear B1 B2 s2 s3 HL
          go_wp2_with fail
          with_reducible refine q8.mono ?_
          rintro e w20 ⟨rfl, f20⟩
          have q9 := HSx.out HW1.out w20 po2 co2 pn2 cn2 (((HF2.out.then7 HF10.out).then7 HFz.out).then7 f20) (HS2.out.1.kept f20) (HS2.out.2.kept f20)
          clear q8 d0 d1 d2 d3 d4 d5 d6 y0 y1 y2 y3 y4 y5 y6
          obtain ⟨d0, d1, d2, d3, d4, d5, d6⟩ := (HB2.out.kept f20).cells
          obtain ⟨y0, y1, y2, y3, y4, y5, y6⟩ := (HBX.out w20 ((HF10.out.then7 HFz.out).then7 f20)).cells
          have HF20 := toHid10 (((HF2.out.then7 HF10.out).then7 HFz.out).then7 f20)
          clear f20
          go_wp2_with fail
          with_reducible refine q9.mono ?_
          rintro e w21 ⟨rfl, f21⟩
          have HFW := toHid10 (HF20.out.then7 f21)
          clear q9 f21 d0 d1 d2 d3 d4 d5 d6 y0 y1 y2 y3 y4 y5 y6
          go_wp2_with fail
          go_ret
          exact ⟨rfl, HFW.out⟩
  · skip
    have HAp := toHid10 (show apartP x y = [x.path, x.dst].all (fun a => [y.path].all fun b => apP a b) from by unfold apartP placesP; rw [if_pos hk1, if_neg hk2])
    have HSz := toHid10 (show (∀ z ∈ [x.path, x.dst], z.size ≤ 135) ∧ (∀ z ∈ [y.path], z.size ≤ 135) from ⟨fun z hz => by simp only [List.mem_cons, List.not_mem_nil, or_false] at hz; rcases hz with rfl | rfl; exact HPth.out.1; exact HPth.out.2.2.1 hk1, fun z hz => by rw [List.mem_singleton.1 hz]; exact HPth.out.2.1⟩)
    have s14 : w14.heap.size = w13.heap.size + 1 := by rw [← hw14]; simp
    have s15 : w15.heap.size = w14.heap.size + 1 := by rw [← hw15]; simp
    have ox := HO1.out
    have oy := HO2.out
    have fc := Fr.refl None' w15
    have f3 : Fr None' w13 w15 := HF145.out.1.then7 HF145.out.2
    have nx : ∀ k, (Value.slice (some ⟨w13.heap.size, 0, none⟩) 1 1).ownBlock = some k → k = w13.heap.size := fun k e => (Option.some.inj e).symm
    have ny : ∀ k, (Value.slice (some ⟨w14.heap.size, 0, none⟩) 1 1).ownBlock = some k → k = w14.heap.size := fun k e => (Option.some.inj e).symm
    obtain ⟨w16, hw16⟩ : ∃ z, w15.alloc (.cells #[.string x.dst] 9) = z := ⟨_, rfl⟩
    have Fw16 : Fr None' w15 w16 := hw16 ▸ Fr.alloc None' _ _
    have cw16 : w16.cell? ⟨w15.heap.size, 0, none⟩ = some (.string x.dst) := by rw [← hw16, World.cell?, heap_alloc_new]; rfl
    obtain ⟨v17, w17, rw17, ow17, gw17, bw17⟩ := push_str (own_far ox Fw16 (fun _ _ e => e)) cw16 (by simp) (by have := f3.size; have := Fw16.size; omega)
    have kw17 := own_far (own_far oy Fw16 (fun _ _ e => e)) gw17 (fun k e h => by have h1 := ny k e; have h2 := nx k h; have := f3.size; omega)
    have fw17 : Fr None' w13 w17 := (f3.then7 Fw16).trans gw17 (fun i e => Or.inr (by have h := nx i e; omega))
    obtain ⟨p17, c17, e17, R17⟩ := own_row ow17
    have HR17 := toHid10 rw17
    replace ox := ow17
    replace oy := kw17
    replace f3 := fw17
    have hfw17 := f3
    have HFT := toHid10 (show Fr None' w10 w17 from HF13.out.then7 f3)
    have HX := toHid10 (show ∃ p c, v17 = .slice p 2 c ∧ Lines.Row w17 p [x.path, x.dst] from by obtain ⟨p, c, e, h⟩ := own_row ox; exact ⟨p, c, e, h⟩)
    have HY := toHid10 (show Lines.Row w17 (some ⟨w14.heap.size, 0, none⟩) [y.path] from by obtain ⟨p, c, e, h⟩ := own_row oy; cases e; exact h)
    obtain ⟨yy0, yy1, yy2, yy3, yy4, yy5, yy6⟩ := (HBY.out w15 (HF10.out.then7 HF15.out)).cells
    rw [hk1] at xx0
    obtain ⟨ww0, ww1, ww2, ww3, ww4, ww5, ww6⟩ := (HBY.out w17 (HF10.out.then7 (HF13.out.then7 (show Fr None' w13 w17 from hfw17)))).cells
    obtain ⟨px, cx, ex, hX⟩ := HX.out
    replace HX := toHid10 hX
    subst ex
    clear s14 s15 ox oy fc f3 nx ny Fw16 cw16 rw17 gw17 bw17 ow17 kw17 R17 hfw17 hX
    clear hk1
    go_wp2_with ((at_builtin; first | (refine app_str10 rfl _ _ rfl rfl rfl (Hid.out HR17) ?_)))
    clear x0 x1 x2 x3 x4 x5 x6 y0 y1 y2 y3 y4 y5 y6 xx0 xx1 xx2 xx3 xx4 xx5 xx6 yy0 yy1 yy2 yy3 yy4 yy5 yy6 ww0 ww1 ww2 ww3 ww4 ww5 ww6
    clear hk2
    go_loopw [14, 15] (fun vf vi wr => ∃ (i : Nat) (far : Bool), i ≤ 2 ∧ vi = .int .i64 i ∧ vf = .bool far ∧ Hid (far = ([x.path, x.dst].take i).all (fun a => [y.path].all fun b => apP a b)) ∧ Hid (Fr None' w17 wr)) (fun _ vi _ => 2 - (intOf vi).toNat)
    case atStart => exact ⟨0, true, Nat.zero_le _, rfl, rfl, rfl, Fr.refl _ _⟩
    case round =>
      obtain ⟨i, far, hi, rfl, rfl, HA1, HFr⟩ := hrel
      by_cases hlt : i < 2
      · have hiL : i < [x.path, x.dst].length := hlt
        obtain ⟨g1, o1, e1, cX0⟩ := HX.out.get hiL
        have HA2 := toHid10 (show ([x.path, x.dst].take (i + 1)).all (fun a => [y.path].all fun b => apP a b) = (([x.path, x.dst].take i).all (fun a => [y.path].all fun b => apP a b) && [y.path].all fun b => apP [x.path, x.dst][i] b) from by rw [List.take_succ_eq_append_getElem hiL, List.all_append]; simp)
        have HXi := toHid10 (show ∀ w', Fr None' w17 w' → w'.cell? ⟨g1, o1 + i, none⟩ = some (.string [x.path, x.dst][i]) from fun w' f => f.keepCell cX0 (fun e => e))
        have HXs := toHid10 (HSz.out.1 _ (List.getElem_mem hiL))
        generalize [x.path, x.dst][i] = xi at HA2 HXi HXs
        have j1 : (i : Int) < (2 : Int) := by omega
        have j2 : (0 : Int) ≤ (i : Int) := by omega
        clear hlt cX0
        go_wp2_with fail
        go_loopw [14, 16] (fun vf vk wr => ∃ (k : Nat) (fr2 : Bool), k ≤ 1 ∧ vk = .int .i64 k ∧ vf = .bool fr2 ∧ Hid (fr2 = (far && ([y.path].take k).all fun b => apP xi b)) ∧ Hid (Fr None' w17 wr)) (fun _ vk _ => 1 - (intOf vk).toNat)
        case atStart => exact ⟨0, far, Nat.zero_le _, rfl, rfl, by simp [Hid], HFr.out⟩
        case round =>
          obtain ⟨k, fr2, hk, rfl, rfl, HB1, HFr2⟩ := hrel
          by_cases hlk : k < 1
          · have hkL : k < [y.path].length := hlk
            obtain ⟨g2, o2, e2, cY⟩ := (HY.out.fr (toLN HFr2.out)).get hkL
            have HB2 := toHid10 (show ([y.path].take (k + 1)).all (fun b => apP xi b) = (([y.path].take k).all (fun b => apP xi b) && apP xi [y.path][k]) from by rw [List.take_succ_eq_append_getElem hkL, List.all_append]; simp)
            have cX := HXi.out wr HFr2.out
            have HYs := HSz.out.2 _ (List.getElem_mem hkL)
            generalize [y.path][k] = yk at HB2 cY HYs
            have cQ : ∀ w', Calls Tryz.prog 19 #[.string xi, .string yk] w' fun e w'' => e = .returned (.bool (apP xi yk)) ∧ w' = w'' := fun w' => Path.rapart_any xi yk w' (by have := HXs.out; omega) (by omega)
            generalize apP xi yk = Z at HB2 cQ
            have j3 : (k : Int) < (1 : Int) := by omega
            have j4 : (0 : Int) ≤ (k : Int) := by omega
            have HFn := toHid10 (fun nq => (HFr2.out.then7 (Fr.drewN None' wr nq)))
            clear hlk HYs
            (first | subst e1 | cases e1)
            (first | subst e2 | cases e2)
            (try rw [Nat.zero_add] at cX)
            (try rw [Nat.zero_add] at cY)
            cases fr2 with
            | true =>
              go_wp2_with fail
              go_quiet ((go_at_call 19; exact Calls.quiet_of_same ((cQ _).mono fun _ _ h => ⟨h.1, h.2.symm⟩)))
              go_wp2_with fail
              exact ⟨⟨k + 1, Z, by omega, by go_num, rfl, (by show Z = _; rw [HB2.out]; exact and_step1 HB1.out), HFn.out _⟩, by simp [intOf]; omega⟩
            | false =>
              go_wp2_with fail
              go_quiet ((go_at_call 19; exact Calls.quiet_of_same ((cQ _).mono fun _ _ h => ⟨h.1, h.2.symm⟩)))
              go_wp2_with fail
              exact ⟨⟨k + 1, false, by omega, by go_num, rfl, (by show false = _; rw [HB2.out]; exact and_step0 HB1.out), HFn.out _⟩, by simp [intOf]; omega⟩
          · have ek : k = 1 := by omega
            subst ek
            have HFo := HFr2
            have HAn := toHid10 (show fr2 = ([x.path, x.dst].take (i + 1)).all (fun a => [y.path].all fun b => apP a b) from by
              rw [HA2.out, ← HA1.out]
              have h := HB1.out
              rw [show [y.path].take 1 = [y.path] from rfl] at h
              exact h)
            clear hlk
            go_wp2_with fail
            exact ⟨⟨i + 1, fr2, by omega, by go_num, rfl, HAn.out, HFo.out⟩, by simp [intOf]; omega⟩
      · have ei : i = 2 := by omega
        subst ei
        have HAz := toHid10 (show far = apartP x y from by
          have h := HA1.out
          rw [show [x.path, x.dst].take 2 = [x.path, x.dst] from rfl] at h
          rw [h, HAp.out])
        have HFz := toHid10 (HFT.out.then7 HFr.out)
        clear hlt
        cases far with
        | false =>
          have HFW := toHid10 ((HF2.out.then7 HF10.out).then7 HFz.out)
          go_wp2_with fail
          go_ret
          exact ⟨rfl, HFW.out⟩
        | true =>
          obtain ⟨ha, hb, hr⟩ := HFar.out HAz.out.symm
          subst ha hb hr
          have q8 := HSy.out HW2.out wr po1 co1 pn1 cn1 ((HF2.out.then7 HF10.out).then7 HFz.out) (by have h := HS10.out.1.1.kept HFz.out; rw [HNn.out.2.2.1] at h; exact h) (by have h := HS10.out.1.2.kept HFz.out; rw [HNn.out.2.2.2] at h; exact h)
          have B1 := HBab.out.1.kept HFz.out
          have B2 := HBab.out.2.kept HFz.out
          have s2 := HS10.out.2.1.kept HFz.out
          have s3 := HS10.out.2.2.kept HFz.out
          have HL := HNn.out
          rw [HL.1] at B2 s2
          rw [HL.2.1] at B2 s3
          rw [HL.2.2.1] at B1
          rw [HL.2.2.2] at B1
          obtain ⟨d0, d1, d2, d3, d4, d5, d6⟩ := B1.cells
          obtain ⟨y0, y1, y2, y3, y4, y5, y6⟩ := (HBY.out wr (HF10.out.then7 HFz.out)).cells
          have HB2 := toHid10 B2
          have HS2 := toHid10 (And.intro s2 s3)
          clear B1 B2 s2 s3 HL
          go_wp2_with fail
          with_reducible refine q8.mono ?_
          rintro e w20 ⟨rfl, f20⟩
          have q9 := HSx.out HW1.out w20 po2 co2 pn2 cn2 (((HF2.out.then7 HF10.out).then7 HFz.out).then7 f20) (HS2.out.1.kept f20) (HS2.out.2.kept f20)
          clear q8 d0 d1 d2 d3 d4 d5 d6 y0 y1 y2 y3 y4 y5 y6
          obtain ⟨d0, d1, d2, d3, d4, d5, d6⟩ := (HB2.out.kept f20).cells
          obtain ⟨y0, y1, y2, y3, y4, y5, y6⟩ := (HBX.out w20 ((HF10.out.then7 HFz.out).then7 f20)).cells
          have HF20 := toHid10 (((HF2.out.then7 HF10.out).then7 HFz.out).then7 f20)
          clear f20
          go_wp2_with fail
          with_reducible refine q9.mono ?_
          rintro e w21 ⟨rfl, f21⟩
          have HFW := toHid10 (HF20.out.then7 f21)
          clear q9 f21 d0 d1 d2 d3 d4 d5 d6 y0 y1 y2 y3 y4 y5 y6
          go_wp2_with fail
          go_ret
          exact ⟨rfl, HFW.out⟩
  · skip
    have HAp := toHid10 (show apartP x y = [x.path].all (fun a => [y.path, y.dst].all fun b => apP a b) from by unfold apartP placesP; rw [if_neg hk1, if_pos hk2])
    have HSz := toHid10 (show (∀ z ∈ [x.path], z.size ≤ 135) ∧ (∀ z ∈ [y.path, y.dst], z.size ≤ 135) from ⟨fun z hz => by rw [List.mem_singleton.1 hz]; exact HPth.out.1, fun z hz => by simp only [List.mem_cons, List.not_mem_nil, or_false] at hz; rcases hz with rfl | rfl; exact HPth.out.2.1; exact HPth.out.2.2.2 hk2⟩)
    have s14 : w14.heap.size = w13.heap.size + 1 := by rw [← hw14]; simp
    have s15 : w15.heap.size = w14.heap.size + 1 := by rw [← hw15]; simp
    have ox := HO1.out
    have oy := HO2.out
    have fc := Fr.refl None' w15
    have f3 : Fr None' w13 w15 := HF145.out.1.then7 HF145.out.2
    have nx : ∀ k, (Value.slice (some ⟨w13.heap.size, 0, none⟩) 1 1).ownBlock = some k → k = w13.heap.size := fun k e => (Option.some.inj e).symm
    have ny : ∀ k, (Value.slice (some ⟨w14.heap.size, 0, none⟩) 1 1).ownBlock = some k → k = w14.heap.size := fun k e => (Option.some.inj e).symm
    obtain ⟨w16, hw16⟩ : ∃ z, w15.alloc (.cells #[.string y.dst] 9) = z := ⟨_, rfl⟩
    have Fw16 : Fr None' w15 w16 := hw16 ▸ Fr.alloc None' _ _
    have cw16 : w16.cell? ⟨w15.heap.size, 0, none⟩ = some (.string y.dst) := by rw [← hw16, World.cell?, heap_alloc_new]; rfl
    obtain ⟨v17, w17, rw17, ow17, gw17, bw17⟩ := push_str (own_far oy Fw16 (fun _ _ e => e)) cw16 (by simp) (by have := f3.size; have := Fw16.size; omega)
    have kw17 := own_far (own_far ox Fw16 (fun _ _ e => e)) gw17 (fun k e h => by have h1 := nx k e; have h2 := ny k h; have := f3.size; omega)
    have fw17 : Fr None' w13 w17 := (f3.then7 Fw16).trans gw17 (fun i e => Or.inr (by have h := ny i e; omega))
    obtain ⟨p17, c17, e17, R17⟩ := own_row ow17
    have HR17 := toHid10 rw17
    replace oy := ow17
    replace ox := kw17
    replace f3 := fw17
    have HFT := toHid10 (show Fr None' w10 w17 from HF13.out.then7 f3)
    have HX := toHid10 (show Lines.Row w17 (some ⟨w13.heap.size, 0, none⟩) [x.path] from by obtain ⟨p, c, e, h⟩ := own_row ox; cases e; exact h)
    have HY := toHid10 (show ∃ p c, v17 = .slice p 2 c ∧ Lines.Row w17 p [y.path, y.dst] from by obtain ⟨p, c, e, h⟩ := own_row oy; exact ⟨p, c, e, h⟩)
    obtain ⟨yy0, yy1, yy2, yy3, yy4, yy5, yy6⟩ := (HBY.out w15 (HF10.out.then7 HF15.out)).cells
    rw [hk2] at yy0
    obtain ⟨py, cy, ey, hY⟩ := HY.out
    replace HY := toHid10 hY
    subst ey
    clear s14 s15 ox oy fc f3 nx ny Fw16 cw16 rw17 gw17 bw17 ow17 kw17 R17 hY
    clear hk2
    go_wp2_with ((at_builtin; first | (refine app_str10 rfl _ _ rfl rfl rfl (Hid.out HR17) ?_)))
    clear x0 x1 x2 x3 x4 x5 x6 y0 y1 y2 y3 y4 y5 y6 xx0 xx1 xx2 xx3 xx4 xx5 xx6 yy0 yy1 yy2 yy3 yy4 yy5 yy6
    clear hk1
    go_loopw [14, 15] (fun vf vi wr => ∃ (i : Nat) (far : Bool), i ≤ 1 ∧ vi = .int .i64 i ∧ vf = .bool far ∧ Hid (far = ([x.path].take i).all (fun a => [y.path, y.dst].all fun b => apP a b)) ∧ Hid (Fr None' w17 wr)) (fun _ vi _ => 1 - (intOf vi).toNat)
    case atStart => exact ⟨0, true, Nat.zero_le _, rfl, rfl, rfl, Fr.refl _ _⟩
    case round =>
      obtain ⟨i, far, hi, rfl, rfl, HA1, HFr⟩ := hrel
      by_cases hlt : i < 1
      · have hiL : i < [x.path].length := hlt
        obtain ⟨g1, o1, e1, cX0⟩ := HX.out.get hiL
        have HA2 := toHid10 (show ([x.path].take (i + 1)).all (fun a => [y.path, y.dst].all fun b => apP a b) = (([x.path].take i).all (fun a => [y.path, y.dst].all fun b => apP a b) && [y.path, y.dst].all fun b => apP [x.path][i] b) from by rw [List.take_succ_eq_append_getElem hiL, List.all_append]; simp)
        have HXi := toHid10 (show ∀ w', Fr None' w17 w' → w'.cell? ⟨g1, o1 + i, none⟩ = some (.string [x.path][i]) from fun w' f => f.keepCell cX0 (fun e => e))
        have HXs := toHid10 (HSz.out.1 _ (List.getElem_mem hiL))
        generalize [x.path][i] = xi at HA2 HXi HXs
        have j1 : (i : Int) < (1 : Int) := by omega
        have j2 : (0 : Int) ≤ (i : Int) := by omega
        clear hlt cX0
        go_wp2_with fail
        go_loopw [14, 16] (fun vf vk wr => ∃ (k : Nat) (fr2 : Bool), k ≤ 2 ∧ vk = .int .i64 k ∧ vf = .bool fr2 ∧ Hid (fr2 = (far && ([y.path, y.dst].take k).all fun b => apP xi b)) ∧ Hid (Fr None' w17 wr)) (fun _ vk _ => 2 - (intOf vk).toNat)
        case atStart => exact ⟨0, far, Nat.zero_le _, rfl, rfl, by simp [Hid], HFr.out⟩
        case round =>
          obtain ⟨k, fr2, hk, rfl, rfl, HB1, HFr2⟩ := hrel
          by_cases hlk : k < 2
          · have hkL : k < [y.path, y.dst].length := hlk
            obtain ⟨g2, o2, e2, cY⟩ := (HY.out.fr (toLN HFr2.out)).get hkL
            have HB2 := toHid10 (show ([y.path, y.dst].take (k + 1)).all (fun b => apP xi b) = (([y.path, y.dst].take k).all (fun b => apP xi b) && apP xi [y.path, y.dst][k]) from by rw [List.take_succ_eq_append_getElem hkL, List.all_append]; simp)
            have cX := HXi.out wr HFr2.out
            have HYs := HSz.out.2 _ (List.getElem_mem hkL)
            generalize [y.path, y.dst][k] = yk at HB2 cY HYs
            have cQ : ∀ w', Calls Tryz.prog 19 #[.string xi, .string yk] w' fun e w'' => e = .returned (.bool (apP xi yk)) ∧ w' = w'' := fun w' => Path.rapart_any xi yk w' (by have := HXs.out; omega) (by omega)
            generalize apP xi yk = Z at HB2 cQ
            have j3 : (k : Int) < (2 : Int) := by omega
            have j4 : (0 : Int) ≤ (k : Int) := by omega
            have HFn := toHid10 (fun nq => (HFr2.out.then7 (Fr.drewN None' wr nq)))
            clear hlk HYs
            (first | subst e1 | cases e1)
            (first | subst e2 | cases e2)
            (try rw [Nat.zero_add] at cX)
            (try rw [Nat.zero_add] at cY)
            cases fr2 with
            | true =>
              go_wp2_with fail
              go_quiet ((go_at_call 19; exact Calls.quiet_of_same ((cQ _).mono fun _ _ h => ⟨h.1, h.2.symm⟩)))
              go_wp2_with fail
              exact ⟨⟨k + 1, Z, by omega, by go_num, rfl, (by show Z = _; rw [HB2.out]; exact and_step1 HB1.out), HFn.out _⟩, by simp [intOf]; omega⟩
            | false =>
              go_wp2_with fail
              go_quiet ((go_at_call 19; exact Calls.quiet_of_same ((cQ _).mono fun _ _ h => ⟨h.1, h.2.symm⟩)))
              go_wp2_with fail
              exact ⟨⟨k + 1, false, by omega, by go_num, rfl, (by show false = _; rw [HB2.out]; exact and_step0 HB1.out), HFn.out _⟩, by simp [intOf]; omega⟩
          · have ek : k = 2 := by omega
            subst ek
            have HFo := HFr2
            have HAn := toHid10 (show fr2 = ([x.path].take (i + 1)).all (fun a => [y.path, y.dst].all fun b => apP a b) from by
              rw [HA2.out, ← HA1.out]
              have h := HB1.out
              rw [show [y.path, y.dst].take 2 = [y.path, y.dst] from rfl] at h
              exact h)
            clear hlk
            go_wp2_with fail
            exact ⟨⟨i + 1, fr2, by omega, by go_num, rfl, HAn.out, HFo.out⟩, by simp [intOf]; omega⟩
      · have ei : i = 1 := by omega
        subst ei
        have HAz := toHid10 (show far = apartP x y from by
          have h := HA1.out
          rw [show [x.path].take 1 = [x.path] from rfl] at h
          rw [h, HAp.out])
        have HFz := toHid10 (HFT.out.then7 HFr.out)
        clear hlt
        cases far with
        | false =>
          have HFW := toHid10 ((HF2.out.then7 HF10.out).then7 HFz.out)
          go_wp2_with fail
          go_ret
          exact ⟨rfl, HFW.out⟩
        | true =>
          obtain ⟨ha, hb, hr⟩ := HFar.out HAz.out.symm
          subst ha hb hr
          have q8 := HSy.out HW2.out wr po1 co1 pn1 cn1 ((HF2.out.then7 HF10.out).then7 HFz.out) (by have h := HS10.out.1.1.kept HFz.out; rw [HNn.out.2.2.1] at h; exact h) (by have h := HS10.out.1.2.kept HFz.out; rw [HNn.out.2.2.2] at h; exact h)
          have B1 := HBab.out.1.kept HFz.out
          have B2 := HBab.out.2.kept HFz.out
          have s2 := HS10.out.2.1.kept HFz.out
          have s3 := HS10.out.2.2.kept HFz.out
          have HL := HNn.out
          rw [HL.1] at B2 s2
          rw [HL.2.1] at B2 s3
          rw [HL.2.2.1] at B1
          rw [HL.2.2.2] at B1
          obtain ⟨d0, d1, d2, d3, d4, d5, d6⟩ := B1.cells
          obtain ⟨y0, y1, y2, y3, y4, y5, y6⟩ := (HBY.out wr (HF10.out.then7 HFz.out)).cells
          have HB2 := toHid10 B2
          have HS2 := toHid10 (And.intro s2 s3)
          clear B1 B2 s2 s3 HL
          go_wp2_with fail
          with_reducible refine q8.mono ?_
          rintro e w20 ⟨rfl, f20⟩
          have q9 := HSx.out HW1.out w20 po2 co2 pn2 cn2 (((HF2.out.then7 HF10.out).then7 HFz.out).then7 f20) (HS2.out.1.kept f20) (HS2.out.2.kept f20)
          clear q8 d0 d1 d2 d3 d4 d5 d6 y0 y1 y2 y3 y4 y5 y6
          obtain ⟨d0, d1, d2, d3, d4, d5, d6⟩ := (HB2.out.kept f20).cells
          obtain ⟨y0, y1, y2, y3, y4, y5, y6⟩ := (HBX.out w20 ((HF10.out.then7 HFz.out).then7 f20)).cells
          have HF20 := toHid10 (((HF2.out.then7 HF10.out).then7 HFz.out).then7 f20)
          clear f20
          go_wp2_with fail
          with_reducible refine q9.mono ?_
          rintro e w21 ⟨rfl, f21⟩
          have HFW := toHid10 (HF20.out.then7 f21)
          clear q9 f21 d0 d1 d2 d3 d4 d5 d6 y0 y1 y2 y3 y4 y5 y6
          go_wp2_with fail
          go_ret
          exact ⟨rfl, HFW.out⟩
  · skip
    have HAp := toHid10 (show apartP x y = [x.path].all (fun a => [y.path].all fun b => apP a b) from by unfold apartP placesP; rw [if_neg hk1, if_neg hk2])
    have HSz := toHid10 (show (∀ z ∈ [x.path], z.size ≤ 135) ∧ (∀ z ∈ [y.path], z.size ≤ 135) from ⟨fun z hz => by rw [List.mem_singleton.1 hz]; exact HPth.out.1, fun z hz => by rw [List.mem_singleton.1 hz]; exact HPth.out.2.1⟩)
    have s14 : w14.heap.size = w13.heap.size + 1 := by rw [← hw14]; simp
    have s15 : w15.heap.size = w14.heap.size + 1 := by rw [← hw15]; simp
    have ox := HO1.out
    have oy := HO2.out
    have fc := Fr.refl None' w15
    have f3 : Fr None' w13 w15 := HF145.out.1.then7 HF145.out.2
    have nx : ∀ k, (Value.slice (some ⟨w13.heap.size, 0, none⟩) 1 1).ownBlock = some k → k = w13.heap.size := fun k e => (Option.some.inj e).symm
    have ny : ∀ k, (Value.slice (some ⟨w14.heap.size, 0, none⟩) 1 1).ownBlock = some k → k = w14.heap.size := fun k e => (Option.some.inj e).symm
    have HFT := HF15
    have HX := toHid10 (show Lines.Row w15 (some ⟨w13.heap.size, 0, none⟩) [x.path] from by obtain ⟨p, c, e, h⟩ := own_row ox; cases e; exact h)
    have HY := toHid10 (show Lines.Row w15 (some ⟨w14.heap.size, 0, none⟩) [y.path] from by obtain ⟨p, c, e, h⟩ := own_row oy; cases e; exact h)
    obtain ⟨yy0, yy1, yy2, yy3, yy4, yy5, yy6⟩ := (HBY.out w15 (HF10.out.then7 HF15.out)).cells
    clear s14 s15 ox oy fc f3 nx ny
    go_wp2_with fail
    clear x0 x1 x2 x3 x4 x5 x6 y0 y1 y2 y3 y4 y5 y6 xx0 xx1 xx2 xx3 xx4 xx5 xx6 yy0 yy1 yy2 yy3 yy4 yy5 yy6
    clear hk1
    clear hk2
    go_loopw [14, 15] (fun vf vi wr => ∃ (i : Nat) (far : Bool), i ≤ 1 ∧ vi = .int .i64 i ∧ vf = .bool far ∧ Hid (far = ([x.path].take i).all (fun a => [y.path].all fun b => apP a b)) ∧ Hid (Fr None' w15 wr)) (fun _ vi _ => 1 - (intOf vi).toNat)
    case atStart => exact ⟨0, true, Nat.zero_le _, rfl, rfl, rfl, Fr.refl _ _⟩
    case round =>
      obtain ⟨i, far, hi, rfl, rfl, HA1, HFr⟩ := hrel
      by_cases hlt : i < 1
      · have hiL : i < [x.path].length := hlt
        obtain ⟨g1, o1, e1, cX0⟩ := HX.out.get hiL
        have HA2 := toHid10 (show ([x.path].take (i + 1)).all (fun a => [y.path].all fun b => apP a b) = (([x.path].take i).all (fun a => [y.path].all fun b => apP a b) && [y.path].all fun b => apP [x.path][i] b) from by rw [List.take_succ_eq_append_getElem hiL, List.all_append]; simp)
        have HXi := toHid10 (show ∀ w', Fr None' w15 w' → w'.cell? ⟨g1, o1 + i, none⟩ = some (.string [x.path][i]) from fun w' f => f.keepCell cX0 (fun e => e))
        have HXs := toHid10 (HSz.out.1 _ (List.getElem_mem hiL))
        generalize [x.path][i] = xi at HA2 HXi HXs
        have j1 : (i : Int) < (1 : Int) := by omega
        have j2 : (0 : Int) ≤ (i : Int) := by omega
        clear hlt cX0
        go_wp2_with fail
        go_loopw [14, 16] (fun vf vk wr => ∃ (k : Nat) (fr2 : Bool), k ≤ 1 ∧ vk = .int .i64 k ∧ vf = .bool fr2 ∧ Hid (fr2 = (far && ([y.path].take k).all fun b => apP xi b)) ∧ Hid (Fr None' w15 wr)) (fun _ vk _ => 1 - (intOf vk).toNat)
        case atStart => exact ⟨0, far, Nat.zero_le _, rfl, rfl, by simp [Hid], HFr.out⟩
        case round =>
          obtain ⟨k, fr2, hk, rfl, rfl, HB1, HFr2⟩ := hrel
          by_cases hlk : k < 1
          · have hkL : k < [y.path].length := hlk
            obtain ⟨g2, o2, e2, cY⟩ := (HY.out.fr (toLN HFr2.out)).get hkL
            have HB2 := toHid10 (show ([y.path].take (k + 1)).all (fun b => apP xi b) = (([y.path].take k).all (fun b => apP xi b) && apP xi [y.path][k]) from by rw [List.take_succ_eq_append_getElem hkL, List.all_append]; simp)
            have cX := HXi.out wr HFr2.out
            have HYs := HSz.out.2 _ (List.getElem_mem hkL)
            generalize [y.path][k] = yk at HB2 cY HYs
            have cQ : ∀ w', Calls Tryz.prog 19 #[.string xi, .string yk] w' fun e w'' => e = .returned (.bool (apP xi yk)) ∧ w' = w'' := fun w' => Path.rapart_any xi yk w' (by have := HXs.out; omega) (by omega)
            generalize apP xi yk = Z at HB2 cQ
            have j3 : (k : Int) < (1 : Int) := by omega
            have j4 : (0 : Int) ≤ (k : Int) := by omega
            have HFn := toHid10 (fun nq => (HFr2.out.then7 (Fr.drewN None' wr nq)))
            clear hlk HYs
            (first | subst e1 | cases e1)
            (first | subst e2 | cases e2)
            (try rw [Nat.zero_add] at cX)
            (try rw [Nat.zero_add] at cY)
            cases fr2 with
            | true =>
              go_wp2_with fail
              go_quiet ((go_at_call 19; exact Calls.quiet_of_same ((cQ _).mono fun _ _ h => ⟨h.1, h.2.symm⟩)))
              go_wp2_with fail
              exact ⟨⟨k + 1, Z, by omega, by go_num, rfl, (by show Z = _; rw [HB2.out]; exact and_step1 HB1.out), HFn.out _⟩, by simp [intOf]; omega⟩
            | false =>
              go_wp2_with fail
              go_quiet ((go_at_call 19; exact Calls.quiet_of_same ((cQ _).mono fun _ _ h => ⟨h.1, h.2.symm⟩)))
              go_wp2_with fail
              exact ⟨⟨k + 1, false, by omega, by go_num, rfl, (by show false = _; rw [HB2.out]; exact and_step0 HB1.out), HFn.out _⟩, by simp [intOf]; omega⟩
          · have ek : k = 1 := by omega
            subst ek
            have HFo := HFr2
            have HAn := toHid10 (show fr2 = ([x.path].take (i + 1)).all (fun a => [y.path].all fun b => apP a b) from by
              rw [HA2.out, ← HA1.out]
              have h := HB1.out
              rw [show [y.path].take 1 = [y.path] from rfl] at h
              exact h)
            clear hlk
            go_wp2_with fail
            exact ⟨⟨i + 1, fr2, by omega, by go_num, rfl, HAn.out, HFo.out⟩, by simp [intOf]; omega⟩
      · have ei : i = 1 := by omega
        subst ei
        have HAz := toHid10 (show far = apartP x y from by
          have h := HA1.out
          rw [show [x.path].take 1 = [x.path] from rfl] at h
          rw [h, HAp.out])
        have HFz := toHid10 (HFT.out.then7 HFr.out)
        clear hlt
        cases far with
        | false =>
          have HFW := toHid10 ((HF2.out.then7 HF10.out).then7 HFz.out)
          go_wp2_with fail
          go_ret
          exact ⟨rfl, HFW.out⟩
        | true =>
          obtain ⟨ha, hb, hr⟩ := HFar.out HAz.out.symm
          subst ha hb hr
          have q8 := HSy.out HW2.out wr po1 co1 pn1 cn1 ((HF2.out.then7 HF10.out).then7 HFz.out) (by have h := HS10.out.1.1.kept HFz.out; rw [HNn.out.2.2.1] at h; exact h) (by have h := HS10.out.1.2.kept HFz.out; rw [HNn.out.2.2.2] at h; exact h)
          have B1 := HBab.out.1.kept HFz.out
          have B2 := HBab.out.2.kept HFz.out
          have s2 := HS10.out.2.1.kept HFz.out
          have s3 := HS10.out.2.2.kept HFz.out
          have HL := HNn.out
          rw [HL.1] at B2 s2
          rw [HL.2.1] at B2 s3
          rw [HL.2.2.1] at B1
          rw [HL.2.2.2] at B1
          obtain ⟨d0, d1, d2, d3, d4, d5, d6⟩ := B1.cells
          obtain ⟨y0, y1, y2, y3, y4, y5, y6⟩ := (HBY.out wr (HF10.out.then7 HFz.out)).cells
          have HB2 := toHid10 B2
          have HS2 := toHid10 (And.intro s2 s3)
          clear B1 B2 s2 s3 HL
          go_wp2_with fail
          with_reducible refine q8.mono ?_
          rintro e w20 ⟨rfl, f20⟩
          have q9 := HSx.out HW1.out w20 po2 co2 pn2 cn2 (((HF2.out.then7 HF10.out).then7 HFz.out).then7 f20) (HS2.out.1.kept f20) (HS2.out.2.kept f20)
          clear q8 d0 d1 d2 d3 d4 d5 d6 y0 y1 y2 y3 y4 y5 y6
          obtain ⟨d0, d1, d2, d3, d4, d5, d6⟩ := (HB2.out.kept f20).cells
          obtain ⟨y0, y1, y2, y3, y4, y5, y6⟩ := (HBX.out w20 ((HF10.out.then7 HFz.out).then7 f20)).cells
          have HF20 := toHid10 (((HF2.out.then7 HF10.out).then7 HFz.out).then7 f20)
          clear f20
          go_wp2_with fail
          with_reducible refine q9.mono ?_
          rintro e w21 ⟨rfl, f21⟩
          have HFW := toHid10 (HF20.out.then7 f21)
          clear q9 f21 d0 d1 d2 d3 d4 d5 d6 y0 y1 y2 y3 y4 y5 y6
          go_wp2_with fail
          go_ret
          exact ⟨rfl, HFW.out⟩

end Go.Proofs.YtdkhccdclahbaaaGreatDoor
