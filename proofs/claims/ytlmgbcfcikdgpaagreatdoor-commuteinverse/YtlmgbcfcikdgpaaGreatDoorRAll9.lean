/-
  What is proved here: what the document's All hands back. Conditions: the patches lie in memory, and are at most 100000.
-/
import Derived.Test.YtlmgbcfcikdgpaaGreatDoorOwnP
import Derived.Test.YtlmgbcfcikdgpaaGreatDoorRInv9
import Derived.Deep.RegionHeld3
namespace Go.Proofs.YtlmgbcfcikdgpaaGreatDoor
open Go.RowKit
set_option maxRecDepth 100000

theorem rev_step {L : List Pr} {k : Nat} (hk : k < L.length) : (L.drop k).reverse.map inv = (L.drop (k + 1)).reverse.map inv ++ [inv L[k]] := by
  rw [List.drop_eq_getElem_cons hk, List.reverse_cons, List.map_append]
  rfl

theorem step_app9 {P : Program} {ops : Array Oper} {o : Oper} {a : Act} {w w' : World} {K : Act → World → Prop} {Q : Exit → Act → World → Prop} {E : Prop} {v : Value} {t : TypeId} (hgd : o.guard = none) (s x : Operand)
    (ho : o.op = .call { callee := .builtin .append, args := #[s, x], argTypes := #[t, t] }) {vs vx : Value} (hs : a.eval s = vs) (hx : a.eval x = vx) (hr : (Builtin.append_ #[t, t] o.type #[vs, vx]).run P w = .ok v w') (h : K (a.put o.dst v) w') :
    if Region.wanted o (yielded ops a.tmps) = true then Oper.wp P o a w K Q else E := by
  have hw : Region.wanted o (yielded ops a.tmps) = true := by simp [Region.wanted, hgd]
  rw [if_pos hw]
  unfold Oper.wp execOp
  simp only [ho, resolve, invoke, builtin, Sem.run_bind, Sem.run_pure, Result.andThen_ok, List.map_toArray, List.map_cons, List.map_nil, hs, hx, hr]
  exact h

theorem app_list9 {ops : Array Oper} {rest : List Oper} {o : Oper} {a : Act} {w w' : World} {Q : Exit → Act → World → Prop} {t : TypeId} (hgd : o.guard = none) (s x : Operand)
    (ho : o.op = .call { callee := .builtin .append, args := #[s, x], argTypes := #[t, t] }) {vs vx v : Value} (hs : a.eval s = vs) (hx : a.eval x = vx) (hr : (Builtin.append_ #[t, t] o.type #[vs, vx]).run Tryz.prog w = .ok v w')
    (h : wpList Tryz.prog ops Q rest (a.put o.dst v) w') : wpList Tryz.prog ops Q (o :: rest) a w := by
  refine wpList_plain hgd fun K hK => ?_
  unfold Oper.wp execOp
  simp only [ho, resolve, invoke, builtin, Sem.run_bind, Sem.run_pure, Result.andThen_ok, List.map_toArray, List.map_cons, List.map_nil, hs, hx, hr]
  exact hK _ _ h

/-- One patch more. -/
theorem OwnP.push {base : Nat} {w : World} {v : Value} {L : List Pr} {V : List (Value × Value)} (h : OwnP base w v L V) {b : Nat} {x : Pr} {vo vn : Value} (hb : Box w b (.int .i64 x.kind) (.string x.path) (.string x.dst) (.string x.src) (.int .i64 x.pos) vo vn) (s1 : StrsAt w vo x.old) (s2 : StrsAt w vn x.new) (f1 : Far v vo x.old) (f2 : Far v vn x.new) (hn : L.length ≤ 90000) (hbase : base ≤ w.heap.size) :
    ∃ v' w', (Builtin.append_ #[25, 25] 25 #[v, .slice (some ⟨b, 0, none⟩) 1 1]).run Tryz.prog w = .ok v' w' ∧ OwnP base w' v' (L ++ [x]) (V ++ [(vo, vn)]) ∧ Fr (fun k => v.ownBlock = some k) w w' ∧ (v'.ownBlock = v.ownBlock ∨ v'.ownBlock = some w.heap.size) := by
  obtain ⟨c0, c1, c2, c3, c4, c5, c6⟩ := hb.cells
  refine h.append (ad := ⟨b, 0, none⟩) (B := [x]) (U := [(vo, vn)]) rfl rfl (fun j u hj => ?_) (fun k y u e1 e2 => ?_) (by omega) hbase
  · simp only [pcells, prCells, List.cons_append, List.nil_append] at hj
    rw [show (⟨b, 0, none⟩ : Addr).add j = ⟨b, 0 + j, none⟩ from Addr.add_lit .., Nat.zero_add]
    match j, hj with
    | 0, hj => simp at hj; subst hj; exact c0
    | 1, hj => simp at hj; subst hj; exact c1
    | 2, hj => simp at hj; subst hj; exact c2
    | 3, hj => simp at hj; subst hj; exact c3
    | 4, hj => simp at hj; subst hj; exact c4
    | 5, hj => simp at hj; subst hj; exact c5
    | 6, hj => simp at hj; subst hj; exact c6
    | j + 7, hj => simp at hj
  · have hk : k = 0 := by
      have := (List.getElem?_eq_some_iff.1 e1).1
      simpa using this
    subst hk
    simp at e1 e2
    subst e1 e2
    exact ⟨s1, s2, f1, f2⟩

set_option maxHeartbeats 4000000 in
theorem rall_any (va : Option Addr) (n c : Nat) (L : List Pr) (w : World) (hl : L.length = n) (ha : PrsAt w va L) (hn : n ≤ 90000) :
    Calls Tryz.prog 26 #[.slice va n c] w fun e w' => ∃ v V, e = .returned v ∧ OwnP w.heap.size w' v (L.reverse.map inv) V ∧ Fr None' w w' := by
  have i1 : (n : Int) ≤ 90000 := by omega
  have HL : Hid (L.length = n) := hl
  have HA : Hid (PrsAt w va L) := ha
  clear hl ha hn
  go_enter Tryz.func26, Tryz.ntmps26
  go_wp2_with fail
  go_loopw [3, 4] (fun vo vi wr => ∃ (k : Nat) (V : List (Value × Value)), k ≤ n ∧ vi = .int .i64 ((k : Int) - 1) ∧ Hid (OwnP w.heap.size wr vo ((L.drop k).reverse.map inv) V) ∧ Hid (Fr None' w wr)) (fun _ vi _ => (intOf vi + 1).toNat)
  case atStart => exact ⟨n, [], Nat.le_refl _, rfl, by rw [List.drop_of_length_le (by rw [HL.out]; exact Nat.le_refl _)]; exact OwnP.nil _ _, Fr.refl _ _⟩
  case round =>
    obtain ⟨k, V, hk, rfl, HO, HF⟩ := hrel
    cases k with
    | zero =>
      have HOz : Hid (OwnP w.heap.size wr u3 (L.reverse.map inv) V) := HO.out
      obtain ⟨vz, cz, hv, _⟩ := HO.out.slice
      go_wp2_with fail
      go_ret
      exact ⟨_, V, rfl, HOz.out, HF.out⟩
    | succ k =>
      have hkL : k < L.length := by rw [HL.out]; omega
      have e1 : ((k + 1 : Nat) : Int) - 1 = (k : Int) := by omega
      rw [e1]
      obtain ⟨vz, cz, hv, _⟩ := HO.out.slice
      have HR : Hid ((L.drop k).reverse.map inv = (L.drop (k + 1)).reverse.map inv ++ [inv L[k]]) := rev_step hkL
      obtain ⟨g, o, rfl, vo, vn, d0, d1, d2, d3, d4, d5, d6, s1, s2⟩ := HA.out.get hkL
      have cI : ∀ w', Calls Tryz.prog 17 #[.agg #[.int .i64 L[k].kind, .string L[k].path, .string L[k].dst, .string L[k].src, .int .i64 L[k].pos, vo, vn]] w' fun e w'' => ∃ v, e = .returned v ∧ PrVal w v (inv L[k]) ∧ Fr None' w' w'' := fun w' => rinv_any L[k] vo vn w w' s1 s2
      have HLn : Hid (((L.drop (k + 1)).reverse.map inv).length ≤ 90000) := by show _ ≤ _; have := HL.out; simp; omega
      generalize (L.drop (k + 1)).reverse.map inv = R at HO HR HLn hv
      obtain ⟨R2, hR2⟩ : ∃ R2, (L.drop k).reverse.map inv = R2 := ⟨_, rfl⟩
      rw [hR2] at HR
      have HR2 : Hid ((L.drop k).reverse.map inv = R2) := hR2
      clear hR2
      generalize inv L[k] = X at HR cI
      generalize L[k] = x at d0 d1 d2 d3 d4 s1 s2 cI
      obtain ⟨pa, ca, rfl⟩ := s1.is
      obtain ⟨pb, cb, rfl⟩ := s2.is
      obtain ⟨K, P, T, F, A, lO, lN⟩ := x
      simp only at d0 d1 d2 d3 d4 d5 d6 cI
      generalize lO.length = no at d5 cI
      generalize lN.length = nn at d6 cI
      generalize R.length = rn at hv
      subst hv
      have HK : Hid (∀ w', Fr None' w w' → w'.cell? ⟨g, o + k * 7, none⟩ = some (.int .i64 K) ∧ w'.cell? ⟨g, o + k * 7 + 1, none⟩ = some (.string P) ∧ w'.cell? ⟨g, o + k * 7 + 2, none⟩ = some (.string T) ∧ w'.cell? ⟨g, o + k * 7 + 3, none⟩ = some (.string F) ∧ w'.cell? ⟨g, o + k * 7 + 4, none⟩ = some (.int .i64 A) ∧ w'.cell? ⟨g, o + k * 7 + 5, none⟩ = some (.slice pa no ca) ∧ w'.cell? ⟨g, o + k * 7 + 6, none⟩ = some (.slice pb nn cb)) := fun w' f => ⟨f.keepCell d0 (fun e => e), f.keepCell d1 (fun e => e), f.keepCell d2 (fun e => e), f.keepCell d3 (fun e => e), f.keepCell d4 (fun e => e), f.keepCell d5 (fun e => e), f.keepCell d6 (fun e => e)⟩
      obtain ⟨c0, c1, c2, c3, c4, c5, c6⟩ := HK.out wr HF.out
      have i2 : (k : Int) < (n : Int) := by omega
      have i3 : (0 : Int) ≤ (k : Int) := by omega
      clear s1 s2 d0 d1 d2 d3 d4 d5 d6 e1
      have q1 := cI wr
      go_wp2_with fail
      with_reducible refine q1.mono ?_
      rintro e w2 ⟨v, rfl, ⟨uo, un, rfl, t1, t2⟩, F2⟩
      obtain ⟨po, co, rfl⟩ := t1.is
      obtain ⟨pn, cn, rfl⟩ := t2.is
      have hw := HF.out.then7 F2
      obtain ⟨w3, hw3⟩ : ∃ w3, w2.alloc (.cells #[.int .i64 X.kind, .string X.path, .string X.dst, .string X.src, .int .i64 X.pos, .slice po X.old.length co, .slice pn X.new.length cn] 24) = w3 := ⟨_, rfl⟩
      have F3 : Fr None' w2 w3 := hw3 ▸ Fr.alloc None' w2 _
      have B3 : Box w3 w2.heap.size (.int .i64 X.kind) (.string X.path) (.string X.dst) (.string X.src) (.int .i64 X.pos) (.slice po X.old.length co) (.slice pn X.new.length cn) := hw3 ▸ Box.new w2 _ _ _ _ _ _ _
      have hO := (HO.out.kept F2).kept F3
      obtain ⟨v', w4, hr, hO4, hf, hown⟩ := hO.push B3 ((t1.kept hw).kept F3) ((t2.kept hw).kept F3) (fun hl k e e' => by have := t1.lt hl e; have := (hO.ge e').1; omega) (fun hl k e e' => by have := t2.lt hl e; have := (hO.ge e').1; omega) HLn.out (by have := hw.size; have := F3.size; omega)
      obtain ⟨va', ca', hv', _⟩ := hO4.slice
      have HO4 : Hid (OwnP w.heap.size w4 v' R2 (V ++ [(.slice po X.old.length co, .slice pn X.new.length cn)])) := by rw [HR.out]; exact hO4
      have HF4 : Hid (Fr None' w w4) := (hw.then7 F3).trans hf (fun i e => Or.inr (hO.ge e).1)
      have HRr : Hid _ := hr
      generalize X.old.length = xo at hw3 HO4 HRr
      generalize X.new.length = xn at hw3 HO4 HRr
      obtain ⟨XK, XP, XT, XF, XA, XO, XN⟩ := X
      simp only at hw3 HRr
      subst hv'
      generalize (R ++ [(⟨XK, XP, XT, XF, XA, XO, XN⟩ : Pr)]).length = rl at HRr HO4
      clear q1 F2 F3 B3 hO hr hO4 hf hown t1 t2 hw c0 c1 c2 c3 c4 c5 c6 cI
      go_wp2_with (at_builtin
                   refine app_list9 rfl _ _ rfl rfl rfl HRr.out ?_)
      exact ⟨⟨k, _, by omega, by go_num, by rw [HR2.out]; exact HO4.out, HF4.out⟩, by simp [intOf]⟩

end Go.Proofs.YtlmgbcfcikdgpaaGreatDoor
