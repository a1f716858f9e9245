/- What is proved here: contracts for RecordMakes. Conditions: as named. -/
import Derived.Test.YtbnfjjjdnbcehaaGreatDoorX9Plain8
import Derived.Test.YtbnfjjjdnbcehaaGreatDoorX18PRunes
set_option maxHeartbeats 16000000
namespace Go.Proofs.YtbnfjjjdnbcehaaGreatDoor
open Go.RowKit Go.Maps Go.WideMaps
set_option maxRecDepth 100000
theorem Zz {p : Prop} (h : p) : Hid p := h
theorem bl_mk' (l : List UInt8) : bl ⟨l.toArray⟩ = l := rfl
theorem th_shape (t : Th) : t.v = .agg #[.string t.x.path, .int .i64 t.x.kind, .slice t.u.1 t.u.2.1 t.u.2.2, .string t.x.data] := rfl
theorem has8_any (b n : Nat) (T : List Th) (s : ByteArray) (k : Int) (w : World) (h : Yt w b n T) (hs : s.size ≤ 1000000) :
  Calls Tryz.prog 139 #[.map (some b), .string s, .int .i64 k] w fun e w' => e = .returned (.int .i64 (hasE (ens T) (bl s) k)) ∧ Fr None' w w' := by
 have hl := h.look_ok s (by unfold maxLen; omega)
 have HE : Hid (hasE (ens T) (bl s) k = match get8 T (bl s) with | none => 72 | some t => if t.x.kind = k then 0 else 73) := by
  show _ = _
  unfold hasE
  rw [← ens_get]
  cases get8 T (bl s) <;> rfl
 rw [HE.out]
 clear HE h
 cases hg : get8 T (bl s) with
 | none =>
  rw [hg] at hl
  simp only [Option.getD_none, Option.isSome_none, zeroTh, th_shape] at hl
  clear hg
  go_enter Tryz.func139, Tryz.ntmps139
  go_wp2_with fail
  go_ret
  exact ⟨rfl, Fr.alloc _ _ _⟩
 | some t =>
  rw [hg] at hl
  simp only [Option.getD_some, Option.isSome_some, th_shape] at hl
  clear hg
  obtain ⟨⟨P, K, l, D⟩, a, m, c⟩ := t
  simp only at hl ⊢
  by_cases hk : K = k
  ·subst hk
   go_enter Tryz.func139, Tryz.ntmps139
   go_wp2_with fail
   go_ret
   exact ⟨by simp, Fr.alloc _ _ _⟩
  ·go_enter Tryz.func139, Tryz.ntmps139
   go_wp2_with fail
   go_ret
   exact ⟨by simp, Fr.alloc _ _ _⟩
theorem free8_any (b n : Nat) (T : List Th) (s : ByteArray) (w : World) (h : Yt w b n T) (hs : s.size ≤ 1000000) :
  Calls Tryz.prog 137 #[.map (some b), .string s] w fun e w' => e = .returned (.int .i64 (freeE (ens T) (bl s))) ∧ Fr None' w w' := by
 have hl := h.look_ok s (by unfold maxLen; omega)
 have HH := Zz (fun (q : ByteArray) (hq : q.size ≤ 1000000) w' (f : Fr None' w w') => has8_any b n T q 1 w' (h.kept f) hq)
 have HE := Zz (show freeE (ens T) (bl s) = match get8 T (bl s) with | some _ => 71 | none => match Path.parent (bl s) with | none => 0 | some q => hasE (ens T) q 1 from by
  unfold freeE
  rw [← ens_get]
  cases get8 T (bl s) <;> rfl)
 rw [HE.out]
 clear HE h
 cases hg : get8 T (bl s) with
 | some t =>
  rw [hg] at hl
  simp only [Option.getD_some, Option.isSome_some, th_shape] at hl
  clear hg HH
  obtain ⟨⟨P, K, l, D⟩, a, m, c⟩ := t
  simp only at hl ⊢
  go_enter Tryz.func137, Tryz.ntmps137
  go_wp2_with fail
  go_ret
  exact ⟨rfl, Fr.alloc _ _ _⟩
 | none =>
  rw [hg] at hl
  simp only [Option.getD_none, Option.isSome_none, zeroTh, th_shape] at hl
  clear hg
  have cP := fun w' => Path.parent_any s w' (by omega)
  unfold Path.parentS at cP
  cases hp : Path.parent (bl s) with
  | none =>
   rw [show Path.parent s.data.toList = none from hp] at cP
   simp only [Option.getD_none, Option.isSome_none] at cP
   clear hp HH
   go_enter Tryz.func137, Tryz.ntmps137
   go_wp2_with (go_at_call 66; with_reducible (refine (cP _).mono ?_); rintro e w2 ⟨rfl, rfl⟩)
   go_ret
   exact ⟨rfl, Fr.alloc _ _ _⟩
  | some q =>
   rw [show Path.parent s.data.toList = some q from hp] at cP
   simp only [Option.getD_some, Option.isSome_some] at cP
   have hq : (⟨q.toArray⟩ : ByteArray).size ≤ 1000000 := by
    obtain ⟨b', e, _⟩ := Path.parent_some hp
    have h1 := congrArg List.length e
    have h2 : (bl s).length = s.size := Array.length_toList
    rw [h2, List.length_append] at h1
    have h3 : (⟨q.toArray⟩ : ByteArray).size = q.length := List.size_toArray
    omega
   have cH := HH.out ⟨q.toArray⟩ hq
   rw [bl_mk'] at cH
   clear hp HH hq
   dsimp only
   generalize hasE (ens T) q 1 = r at cH ⊢
   go_enter Tryz.func137, Tryz.ntmps137
   go_wp2_with (first
    | (go_at_call 66; with_reducible (refine (cP _).mono ?_); rintro e w2 ⟨rfl, rfl⟩)
    | (go_at_call 139; with_reducible (refine (cH _ (Fr.alloc None' w _)).mono ?_); rintro e w3 ⟨rfl, f3⟩))
   go_ret
   exact ⟨rfl, (Fr.alloc None' w _).then7 f3⟩
theorem app_list8 {ops : Array Oper} {rest : List Oper} {o : Oper} {a : Act} {w w' : World} {Q : Exit → Act → World → Prop} {t : TypeId} (hgd : o.guard = none) (s x : Operand)
  (ho : o.op = .call { callee := .builtin .append, args := #[s, x], argTypes := #[t, t] }) {vs vx v : Value} (hs : a.eval s = vs) (hx : a.eval x = vx) (hr : (Builtin.append_ #[t, t] o.type #[vs, vx]).run Tryz.prog w = .ok v w')
  (h : wpList Tryz.prog ops Q rest (a.put o.dst v) w') : wpList Tryz.prog ops Q (o :: rest) a w := by
 refine wpList_plain hgd fun K hK => ?_
 unfold Oper.wp execOp
 simp only [ho, resolve, invoke, builtin, Sem.run_bind, Sem.run_pure, Result.andThen_ok, List.map_toArray, List.map_cons, List.map_nil, hs, hx, hr]
 exact hK _ _ h
structure Gath8 (T : List Th) (p : List UInt8) (left : Lit → Bool) (W : List Th) : Prop where
 mem : ∀ t, t ∈ W ↔ t ∈ T ∧ Path.within t.k p = true ∧ left (.string t.k) = false
 nod : W.Pairwise (fun a b => a.k ≠ b.k)
theorem get8_some {T : List Th} (hS : Zp (ens T)) {t : Th} (h : t ∈ T) : get8 T t.k = some t := by
 have h1 : T.Pairwise (fun a b => a.k < b.k) := by
  unfold Zp ens at hS
  rw [List.pairwise_map] at hS
  exact hS
 clear hS
 unfold get8
 induction T with
 | nil => cases h
 | cons x r ih =>
  obtain ⟨a, b⟩ := List.pairwise_cons.1 h1
  rw [List.find?_cons]
  rcases List.mem_cons.1 h with e | e
  ·subst e; simp
  ·have := a t e
   have hne : (x.k == t.k) = false := by
    rw [beq_eq_false_iff_ne]
    intro e2
    rw [e2] at this
    exact List.lt_irrefl _ this
   rw [hne]
   exact ih e b
theorem Gath8.start {T : List Th} (hS : Zp (ens T)) (p : List UInt8) : Gath8 T p (Maps.has (toT T)) [] := by
 refine ⟨fun t => ⟨fun h => (by cases h), fun ⟨h1, _, h3⟩ => ?_⟩, List.Pairwise.nil⟩
 rw [has_toT, get8_some hS h1] at h3
 cases h3
theorem left_step {left : Lit → Bool} {k s : List UInt8} : (left (.string s) && !(Lit.string s).sameKey (.string k)) = false ↔ left (.string s) = false ∨ s = k := by
 have : (Lit.string s).sameKey (.string k) = (s == k) := rfl
 rw [this]
 by_cases e : s = k <;> simp [e]
theorem Gath8.yes {T : List Th} {p : List UInt8} {left : Lit → Bool} {W : List Th} (h : Gath8 T p left W) {t : Th} (ht : get8 T t.k = some t) (hS : Zp (ens T)) (hl : left (.string t.k) = true) (hw : Path.within t.k p = true) : Gath8 T p (fun z => left z && !z.sameKey (.string t.k)) (W ++ [t]) := by
 have hm := (get8_mem ht).1
 refine ⟨fun s => ?_, ?_⟩
 ·rw [List.mem_append, List.mem_singleton, h.mem]
  show _ ↔ s ∈ T ∧ Path.within s.k p = true ∧ (left (.string s.k) && !(Lit.string s.k).sameKey (.string t.k)) = false
  rw [left_step]
  constructor
  ·rintro (⟨a, b, c⟩ | rfl)
   ·exact ⟨a, b, Or.inl c⟩
   ·exact ⟨hm, hw, Or.inr rfl⟩
  ·rintro ⟨a, b, c | c⟩
   ·exact Or.inl ⟨a, b, c⟩
   ·have h1 := get8_some hS a
    rw [c, ht] at h1
    cases h1
    exact Or.inr rfl
 ·refine List.pairwise_append.2 ⟨h.nod, List.pairwise_singleton .., fun a ha b hb => ?_⟩
  rw [List.mem_singleton.1 hb]
  intro e
  have := ((h.mem a).1 ha).2.2
  rw [e, hl] at this
  cases this
theorem Gath8.no {T : List Th} {p : List UInt8} {left : Lit → Bool} {W : List Th} (h : Gath8 T p left W) {t : Th} (hw : Path.within t.k p = false) : Gath8 T p (fun z => left z && !z.sameKey (.string t.k)) W := by
 refine ⟨fun s => ?_, h.nod⟩
 rw [h.mem]
 show _ ↔ s ∈ T ∧ Path.within s.k p = true ∧ (left (.string s.k) && !(Lit.string s.k).sameKey (.string t.k)) = false
 rw [left_step]
 constructor
 ·rintro ⟨a, b, c⟩; exact ⟨a, b, Or.inl c⟩
 ·rintro ⟨a, b, c | c⟩
  ·exact ⟨a, b, c⟩
  ·rw [c, hw] at b; cases b
theorem Gath8.done {T : List Th} {p : List UInt8} {left : Lit → Bool} {W : List Th} (h : Gath8 T p left W) (hS : Zp (ens T)) (hl : ∀ kl, left kl = false) : W.Perm (T.filter (fun t => Path.within t.k p)) := by
 have h1 : T.Nodup := by
  unfold Zp ens at hS
  rw [List.pairwise_map] at hS
  exact hS.imp (fun h e => by subst e; exact List.lt_irrefl _ h)
 refine (List.perm_ext_iff_of_nodup (h.nod.imp (fun h e => h (by rw [e]))) (h1.filter _)).2 (fun t => ?_)
 rw [h.mem, List.mem_filter]
 constructor
 ·rintro ⟨a, b, _⟩; exact ⟨a, b⟩
 ·rintro ⟨a, b⟩; exact ⟨a, b, hl _⟩
theorem Gath8.len {T : List Th} {p : List UInt8} {left : Lit → Bool} {W : List Th} (h : Gath8 T p left W) (hS : Zp (ens T)) : W.length ≤ T.length := by
 have h1 : T.Nodup := by
  unfold Zp ens at hS
  rw [List.pairwise_map] at hS
  exact hS.imp (fun h e => by subst e; exact List.lt_irrefl _ h)
 have h2 : W.Perm (T.filter (fun t => Path.within t.k p && !left (.string t.k))) := (List.perm_ext_iff_of_nodup (h.nod.imp (fun h e => h (by rw [e]))) (h1.filter _)).2 (fun t => by
  rw [h.mem, List.mem_filter]
  simp)
 rw [h2.length_eq]
 exact List.length_filter_le _ _
def WithinPost (T : List Th) (p : List UInt8) (w : World) (e : Ending) (w' : World) : Prop := ∃ v W, e = .returned v ∧ W.Perm (T.filter (fun t => Path.within t.k p)) ∧ OwnE w.heap.size w w' v (ens W) (W.map Th.sl) ∧ Fr None' w w'
theorem slice_v {base : Nat} {w0 w : World} {v : Value} {L : List En} {V : List Value} (h : OwnE base w0 w v L V) : ∃ va c, v = .slice va L.length c := by
 rcases h.row.2 with ⟨hv, e⟩ | ⟨g, cap, cur, hv, _⟩
 ·exact ⟨none, 0, by rw [hv, e]⟩
 ·exact ⟨_, cap, hv⟩
theorem within8_any (b n : Nat) (T : List Th) (p : ByteArray) (w : World) (h : Yt w b n T) (hn : T.length ≤ 90000) :
  Calls Tryz.prog 147 #[.map (some b), .string p] w fun e w' => WithinPost T (bl p) w e w' := by
 have hown := h.map
 have HS := Zz h.strict
 have HT := Zz h.str
 have hlt := hown.lt
 clear h
 go_enter Tryz.func147, Tryz.ntmps147
 go_wp2_with (first
  | (at_range; refine wpList_range_own _ rfl _ 76 rfl 9 45 lawS Tryz.underlying76 _ b n _ rfl hown ?_; intro w0 hrg0 hg0 hs0)
  | go_in)
 go_frame
 go_loopw [5] (fun v wr => ∃ left cnt W, wr.ranges Tryz.prog 9 heldE b w.heap.size n (toT T) left cnt ∧ Hid (Gath8 T (bl p) left W) ∧ Hid (OwnE (w.heap.size + 1) w wr v (ens W) (W.map Th.sl)) ∧ Hid (Fr None' w wr) ∧ Hid (w.heap.size + 1 ≤ wr.heap.size)) (fun _ wr => wr.rangeLeft b w.heap.size)
 case atStart => exact ⟨_, _, [], hrg0, Gath8.start HS.out _, OwnE.nil _ _ _, Fr.grown hg0 (by simp), by show _ ≤ _; omega⟩
 case round =>
  obtain ⟨left, cnt, W, hrg, HG, HO, HF, HZ⟩ := hrel
  obtain ⟨va, ca, rfl⟩ := slice_v HO.out
  go_wp2_with (first
   | (at_next; refine wpList_next_ranges _ rfl _ rfl 9 lawS heldE Value.string csV (fun key kl hk => by obtain ⟨x, hx, _⟩ := keyOf_string_inv hk; exact ⟨x, hx⟩) (fun v y hv => heldE_inv hv) b w.heap.size n _ _ _ rfl hrg ?_ ?_)
   | go_in)
  ·intro _ hl0
   have HP := Zz (HG.out.done HS.out hl0)
   go_wp2
   go_ret
   refine ⟨_, W, rfl, HP.out, ?_, HF.out⟩
   obtain ⟨h1, h2, h3⟩ := HO.out
   refine ⟨h1, ?_, h3⟩
   obtain ⟨r1, r2⟩ := h2
   refine ⟨r1, ?_⟩
   rcases r2 with r2 | ⟨g, cap, cur, hv, hg, r⟩
   ·exact Or.inl r2
   ·exact Or.inr ⟨g, cap, cur, hv, by omega, r⟩
  ·intro x P K ua um uc Da kl d ps w1 cnt1 hkey hlk hv hat hrg1 hlt1 hg1 hs1 hen
   obtain ⟨x', ex, hkl⟩ := keyOf_string_inv hkey
   cases ex
   subst hkl
   obtain ⟨t, ht, htv⟩ := hit8 (ps := ps) hv rfl hat
   obtain ⟨htm, htk⟩ := get8_mem ht
   obtain ⟨⟨P', K', l, Da'⟩, ua', um', uc'⟩ := t
   simp only [th_shape, csV, Value.agg.injEq, Array.mk.injEq, List.cons.injEq, Value.string.injEq, Value.int.injEq, Value.slice.injEq, and_true, true_and] at htv
   obtain ⟨rfl, rfl, ⟨rfl, rfl, rfl⟩, rfl⟩ := htv
   have HSt := Zz (HT.out _ htm)
   rw [← htk] at ht hlk hrg1
   have HW1 := Zz (fun hw => HG.out.yes (t := ⟨⟨P', K', l, Da'⟩, ua', um', uc'⟩) ht HS.out hlk hw)
   have HW0 := Zz (fun hw => HG.out.no (t := ⟨⟨P', K', l, Da'⟩, ua', um', uc'⟩) hw)
   clear hkey hlk hv hat ht htm htk
   simp only [csV] at hen ⊢
   have hz := HZ.out
   have nb : ∀ k, (Value.slice va (ens W).length ca).ownBlock = some k → w.heap.size + 1 ≤ k := fun k e => by
    rcases HO.out.row.2 with ⟨hv, _⟩ | ⟨g, cap, cur, hv, hg, _⟩
    ·rw [hv] at e; cases e
    ·rw [hv] at e; cases e; exact hg
   have F1 : Fr (fun k => k = w.heap.size) wr w1 := Fr.grown hg1 (fun k e => by cases e; rfl)
   have O1 : OwnE (w.heap.size + 1) w w1 (.slice va (ens W).length ca) (ens W) (W.map Th.sl) := HO.out.fr F1 (fun k e e' => by
    have e' : k = w.heap.size := e'
    have := nb k e
    omega)
   have FW1 : Fr None' w w1 := HF.out.trans F1 (fun i e => Or.inr (by have e : i = w.heap.size := e; omega))
   have hsz : w1.heap.size = wr.heap.size := hs1
   obtain ⟨w2, hw2⟩ : ∃ w2, w1.alloc (.cells #[.string P', .int .i64 K', .slice ua' um' uc', .string Da'] 45) = w2 := ⟨_, rfl⟩
   have F2 : Fr None' w1 w2 := hw2 ▸ Fr.alloc None' w1 _
   have c0 : w2.cell? ⟨w1.heap.size, 0, none⟩ = some (.string P') ∧ w2.cell? ⟨w1.heap.size, 1, none⟩ = some (.int .i64 K') ∧ w2.cell? ⟨w1.heap.size, 2, none⟩ = some (.slice ua' um' uc') ∧ w2.cell? ⟨w1.heap.size, 3, none⟩ = some (.string Da') := by
    rw [← hw2]
    refine ⟨?_, ?_, ?_, ?_⟩ <;> (rw [World.cell?, heap_alloc_new]; rfl)
   rw [hsz] at c0
   obtain ⟨c0, c1, c2, c3⟩ := c0
   have cW := Path.within_any P' p w2
   have FA : Fr None' w2 (w2.alloc (.cells #[.string P', .int .i64 K', .slice ua' um' uc', .string Da'] 45)) := Fr.alloc None' w2 _
   obtain ⟨g3, c3', w3, hr3, O3, f3, hg3⟩ := ((O1.kept F2).kept FA).append (b := w2.heap.size) (x := ⟨P', K', l, Da'⟩) (vl := .slice ua' um' uc') (heap_alloc_new w2 _) rfl HSt.out (by
    have h1 := HG.out.len HS.out
    unfold ens
    rw [List.length_map]
    omega) (by have := F2.size; simp; omega)
   have HR3 := Zz hr3
   have HO3 := Zz (show OwnE (w.heap.size + 1) w w3 (.slice (some ⟨g3, 0, none⟩) ((ens W).length + 1) c3') (ens (W ++ [(⟨⟨P', K', l, Da'⟩, ua', um', uc'⟩ : Th)])) ((W ++ [(⟨⟨P', K', l, Da'⟩, ua', um', uc'⟩ : Th)]).map Th.sl) from by
    unfold ens at O3 ⊢
    rw [List.map_append, List.map_append]
    exact O3)
   have F23 : Fr (fun k => (Value.slice va (ens W).length ca).ownBlock = some k) w1 w3 := ((F2.then7 FA).any).then f3
   have HRG3 := Zz (F23.ranges hrg1 (fun e => by have := nb b e; omega) (fun e => by have := nb _ e; omega))
   have HF3 := Zz (FW1.trans F23 (fun i e => Or.inr (by have := nb i e; omega)))
   have HZ3 := Zz (show w.heap.size + 1 ≤ w3.heap.size from by have := F23.size; omega)
   have HRG2 := Zz (F2.ranges hrg1 (fun e => e) (fun e => e))
   have HO2 := Zz (O1.kept F2)
   have HF2 := Zz (FW1.then7 F2)
   have HZ2 := Zz (show w.heap.size + 1 ≤ w2.heap.size from by have := F2.size; omega)
   have hlt2 : cnt1 < cnt := hlt1
   have HRL := Zz hrg.left_eq
   clear hrg1 hrg hr3 O3 f3 hg3 nb F23 F1 O1 FW1 FA HSt hg1 F2 hs1
   generalize hn' : (ens W).length = m at *
   cases hw : Path.within (bl P') (bl p) with
   | false =>
    rw [show Path.within P'.data.toList p.data.toList = false from hw] at cW
    have HG2 := Zz (HW0.out hw)
    clear HW0 HW1 hw
    go_wp2_with (go_at_call 118; with_reducible (refine cW.mono ?_); rintro e w4 ⟨rfl, rfl⟩)
    refine ⟨⟨_, _, W, HRG2.out, HG2.out, HO2.out, HF2.out, HZ2.out⟩, ?_⟩
    rw [HRG2.out.left_eq, HRL.out]
    exact hlt2
   | true =>
    rw [show Path.within P'.data.toList p.data.toList = true from hw] at cW
    have HG2 := Zz (HW1.out hw)
    clear HW0 HW1 hw
    go_wp2_with (first
     | (go_at_call 118; with_reducible (refine cW.mono ?_); rintro e w4 ⟨rfl, rfl⟩)
     | (at_builtin; refine app_list8 rfl _ _ rfl rfl rfl HR3.out ?_)
     | go_in)
    refine ⟨⟨_, _, _, HRG3.out, HG2.out, HO3.out, HF3.out, HZ3.out⟩, ?_⟩
    rw [HRG3.out.left_eq, HRL.out]
    exact hlt2
end Go.Proofs.YtbnfjjjdnbcehaaGreatDoor
