/-
  What is proved here: the contracts that the statement stands on: FRound, FSame, FHunks. Conditions: as each theorem names them.
-/
import Derived.Test.YtpfkkpghgmmijaaGreatDoorM1FPlain
import Derived.Deep.RegionHeld3
namespace Go.Proofs.YtpfkkpghgmmijaaGreatDoor.Diff
open Go.RowKit
set_option maxRecDepth 100000

/-- It ends as it should, or not at all. -/
def OnlyN (G : Act → World → Prop) : Exit → Act → World → Prop
  | .normal, a, w => G a w
  | _, _, _ => False

theorem onlyN {G : Act → World → Prop} {a : Act} {w : World} (h : G a w) : OnlyN G .normal a w := h

def noDefer (ops : Array Oper) : Bool := ops.all fun o => match o.op with | .defer _ => false | .call _ => true | _ => true

theorem noDefer_spec {ops : Array Oper} (h : noDefer ops = true) {i : Nat} {o : Oper} (ho : ops[i]? = some o) : ∀ c, o.op ≠ .defer c := fun c e => by
  have hm : o ∈ ops := Array.mem_of_getElem? ho
  have := (Array.all_eq_true_iff_forall_mem.1 h) o hm
  rw [e] at this
  cases this

theorem rows_round {P : Program} {l n : Nat} {row : String} {args : Array Value} {w : World} {R : Value → World → Prop} (h : Rows P row args w R) : RowsIn (Fence.wide.inRound l) n P row args w R :=
  fun c cs _ => let ⟨v, w', r, s⟩ := h c cs; ⟨v, w', r, stepsIn_wide.2 s⟩

theorem op_round {P : Program} {l n : Nat} {o : Oper} {a : Act} {w : World} {K K' : Act → World → Prop} {G : Act → World → Prop} (hd : ∀ c, o.op ≠ .defer c) (hK : ∀ a w, K a w → K' a w)
    (h : o.wp P a w K (OnlyN G)) : o.wpIn (Fence.wide.inRound l) n P a w K' (OnlyN G) := by
  refine ⟨fun _ _ => trivial, ?_⟩
  rw [Oper.semAt_eq _ _ _ hd]
  unfold Oper.wp at h
  revert h
  generalize (execOp a.eval o).run P w = r
  intro h
  cases r with
  | ok x w' =>
    cases x with
    | value v => exact hK _ _ h
    | skip => exact hK _ _ h
    | defer d => exact hK _ _ h
    | enter f args =>
      refine ⟨(fun e => by cases e), callsIn_wide.2 (Calls.mono h ?_)⟩
      intro e w'' he
      cases e with
      | returned v => exact hK _ _ he
      | panicked c => exact he
      | outgrown => exact he
    | row r args => exact ⟨(fun e => by cases e), rows_round (Rows.mono h fun v w'' he => hK _ _ he)⟩
    | _ => exact h.elim
  | halt x w' => cases x <;> exact h

theorem any_round {P : Program} {l n : Nat} {md : Region.Mode} {ops : Array Oper} {G : Act → World → Prop} (hd : noDefer ops = true) :
    ∀ (fuel : Nat) (listed : Array Bool) (a : Act) (w : World), wpAny P md ops (OnlyN G) fuel listed a w → wpAnyIn (Fence.wide.inRound l) n P md ops (OnlyN G) fuel listed a w
  | 0, _, _, _, h => h
  | fuel + 1, listed, a, w, h => ⟨h.1, fun i hi => by
      have h1 := h.2 i hi
      unfold wpOp at h1
      unfold wpOpIn
      cases ho : ops[i]? with
      | none => rw [ho] at h1; exact any_round hd fuel _ _ _ h1
      | some o =>
        rw [ho] at h1
        simp only at h1 ⊢
        split
        · rename_i hw
          rw [if_pos hw] at h1
          rcases h1 with h1 | ⟨_, _, _, h1⟩
          · exact op_round (noDefer_spec hd ho) (fun a w h => any_round hd fuel _ a w h) h1
          · exact h1.elim
        · rename_i hw
          rw [if_neg hw] at h1
          exact ⟨fun _ _ => trivial, any_round hd fuel _ _ _ h1⟩⟩

/-- A region that draws its order, within a round. -/
theorem region_round {P : Program} {l n id : Nat} {ops : Array Oper} {Q : Exit → Act → World → Prop} {S : World → Prop} {a : Act} {w : World} (hm : P.follows .mixedOrders = true) (hd : noDefer ops = true) (hS : S w.drew)
    (h : S w.drew → wpAnyH P .any ops (OnlyN (Q .normal)) S ops.size (Array.replicate ops.size false) a w.drew) : (Code.region id ops true).wpIn (Fence.wide.inRound l) n P Q a w := by
  refine wpIn_mono (Q := OnlyN (Q .normal)) (wpIn_region_any hm (any_round hd _ _ _ _ (wpAny_of_held _ _ _ _ (h hS)))) ?_
  intro e a' w' he
  cases e <;> first | exact he | exact he.elim

/-- The same outside of rounds. -/
theorem region_wide {P : Program} {n id : Nat} {ops : Array Oper} {Q : Exit → Act → World → Prop} {S : World → Prop} {a : Act} {w : World} (hm : P.follows .mixedOrders = true) (hS : S w.drew)
    (h : S w.drew → wpAnyH P .any ops (OnlyN (Q .normal)) S ops.size (Array.replicate ops.size false) a w.drew) : (Code.region id ops true).wpIn Fence.wide n P Q a w := by
  refine wpIn_wide.2 (wp_mono (Q := OnlyN (Q .normal)) (wp_region_held hm (h hS)) ?_)
  intro e a' w' he
  cases e <;> first | exact he | exact he.elim

theorem step_app {P : Program} {ops : Array Oper} {o : Oper} {a : Act} {w w' : World} {K : Act → World → Prop} {Q : Exit → Act → World → Prop} {E : Prop} {v : Value} {t : TypeId} (hgd : o.guard = none) (s x : Operand)
    (ho : o.op = .call { callee := .builtin .append, args := #[s, x], argTypes := #[t, t] }) {vs vx : Value} (hs : a.eval s = vs) (hx : a.eval x = vx) (hr : (Builtin.append_ #[t, t] o.type #[vs, vx]).run P w = .ok v w') (h : K (a.put o.dst v) w') :
    if Region.wanted o (yielded ops a.tmps) = true then Oper.wp P o a w K Q else E := by
  have hw : Region.wanted o (yielded ops a.tmps) = true := by simp [Region.wanted, hgd]
  rw [if_pos hw]
  unfold Oper.wp execOp
  simp only [ho, resolve, invoke, builtin, Sem.run_bind, Sem.run_pure, Result.andThen_ok, List.map_toArray, List.map_cons, List.map_nil, hs, hx, hr]
  exact h

end Go.Proofs.YtpfkkpghgmmijaaGreatDoor.Diff

namespace Go.Proofs.YtpfkkpghgmmijaaGreatDoor.Diff
open Go.RowKit
set_option maxRecDepth 100000

theorem list_step {a b : List ByteArray} {k : Nat} (hn : a.length = b.length) (hk : k < a.length) (h : a.take k = b.take k) (e : a[k] = b[k]'(hn ▸ hk)) : a.take (k + 1) = b.take (k + 1) := by
  rw [List.take_succ_eq_append_getElem hk, List.take_succ_eq_append_getElem (hn ▸ hk), h, e]

set_option maxHeartbeats 2000000 in
theorem lSame_any (va vb : Option Addr) (ca cb : Nat) (a b : List ByteArray) (w : World) (ha : Row w va a) (hb : Row w vb b) (hl : a.length < 1000000000) :
    Calls Tryz.prog 37 #[.slice va a.length ca, .slice vb b.length cb] w fun e w' => e = .returned (.bool (decide (a = b))) ∧ Fr None' w w' := by
  by_cases hn : a.length = b.length
  case neg =>
    have hR : Hid (decide (a = b) = false) := decide_eq_false (fun e => hn (by rw [e]))
    have i1 : ¬ (a.length : Int) = b.length := by omega
    rw [hR.out]
    clear ha hb hn hR
    go_enter Tryz.func37, Tryz.ntmps37
    go_wp2_with fail
    go_ret
    exact ⟨rfl, Fr.refl _ _⟩
  case pos =>
  have HN : Hid (a.length = b.length) := hn
  obtain ⟨n, hna⟩ : ∃ n, a.length = n := ⟨_, rfl⟩
  have HA : Hid (a.length = n) := hna
  rw [← hn, hna]
  have i1 : (n : Int) < 1000000000 := by omega
  clear hl hn hna
  go_enter Tryz.func37, Tryz.ntmps37
  go_wp2_with fail
  go_loopw [5] (fun i wr => ∃ k : Nat, k ≤ n ∧ i = .int .i64 k ∧ Fr None' w wr ∧ Hid (a.take k = b.take k)) (fun i _ => n - (intOf i).toNat)
  case atStart => exact ⟨0, Nat.zero_le _, rfl, Fr.refl _ _, rfl⟩
  case round =>
    obtain ⟨k, hk, rfl, hF, HT⟩ := hrel
    by_cases hlt : k < n
    · have hka : k < a.length := by rw [HA.out]; exact hlt
      have hkb : k < b.length := by rw [← HN.out]; exact hka
      obtain ⟨ga, oa, rfl, c1⟩ := (ha.fr hF).get hka
      obtain ⟨gb, ob, rfl, c2⟩ := (hb.fr hF).get hkb
      obtain ⟨x, hx⟩ : ∃ x, a[k] = x := ⟨_, rfl⟩
      obtain ⟨y, hy⟩ : ∃ y, b[k] = y := ⟨_, rfl⟩
      have HX : Hid (a[k] = x) := hx
      have HY : Hid (b[k] = y) := hy
      rw [hx] at c1
      rw [hy] at c2
      clear hx hy ha hb
      have i2 : (k : Int) < n := by omega
      by_cases hxy : x = y
      · subst hxy
        go_wp2_with fail
        go_quiet (fail)
        go_wp2_with fail
        exact ⟨⟨k + 1, by omega, by go_num, hF.then (Fr.drewN _ _ _), list_step HN.out hka HT.out (by rw [HX.out, HY.out])⟩, by simp [intOf]; omega⟩
      · have HE : Hid (¬ x = y) := hxy
        obtain ⟨q1, q2⟩ := str_no hxy
        clear hxy
        go_wp2_with fail
        go_quiet (fail)
        clear c1 c2
        go_wp2_with fail
        go_ret
        exact ⟨ret_bool (decide_eq_false (fun e => HE.out (by rw [← HX.out, ← HY.out]; subst e; rfl))).symm, hF.then (Fr.drewN _ _ _)⟩
    · go_wp2_with fail
      go_ret
      refine ⟨ret_bool ?_, hF⟩
      have := HT.out
      rw [List.take_of_length_le (by rw [HA.out]; omega), List.take_of_length_le (by rw [← HN.out, HA.out]; omega)] at this
      exact (decide_eq_true this).symm

set_option maxHeartbeats 2000000 in
theorem equal_any (va vb : Option Addr) (ca cb : Nat) (a b : List ByteArray) (w : World) (ha : Row w va a) (hb : Row w vb b) (hl : a.length < 1000000000) :
    Calls Tryz.prog 66 #[.slice va a.length ca, .slice vb b.length cb] w fun e w' => e = .returned (.bool (decide (a = b))) ∧ Fr None' w w' := by
  by_cases hn : a.length = b.length
  case neg =>
    have hR : Hid (decide (a = b) = false) := decide_eq_false (fun e => hn (by rw [e]))
    have i1 : ¬ (a.length : Int) = b.length := by omega
    rw [hR.out]
    clear ha hb hn hR
    go_enter Tryz.func66, Tryz.ntmps66
    go_wp2_with fail
    go_ret
    exact ⟨rfl, Fr.refl _ _⟩
  case pos =>
  have HN : Hid (a.length = b.length) := hn
  obtain ⟨n, hna⟩ : ∃ n, a.length = n := ⟨_, rfl⟩
  have HA : Hid (a.length = n) := hna
  rw [← hn, hna]
  have i1 : (n : Int) < 1000000000 := by omega
  clear hl hn hna
  go_enter Tryz.func66, Tryz.ntmps66
  go_wp2_with fail
  go_loopw [13] (fun i wr => ∃ k : Nat, k ≤ n ∧ i = .int .i64 k ∧ Fr None' w wr ∧ Hid (a.take k = b.take k)) (fun i _ => n - (intOf i).toNat)
  case atStart => exact ⟨0, Nat.zero_le _, rfl, Fr.refl _ _, rfl⟩
  case round =>
    obtain ⟨k, hk, rfl, hF, HT⟩ := hrel
    by_cases hlt : k < n
    · have hka : k < a.length := by rw [HA.out]; exact hlt
      have hkb : k < b.length := by rw [← HN.out]; exact hka
      obtain ⟨ga, oa, rfl, c1⟩ := (ha.fr hF).get hka
      obtain ⟨gb, ob, rfl, c2⟩ := (hb.fr hF).get hkb
      obtain ⟨x, hx⟩ : ∃ x, a[k] = x := ⟨_, rfl⟩
      obtain ⟨y, hy⟩ : ∃ y, b[k] = y := ⟨_, rfl⟩
      have HX : Hid (a[k] = x) := hx
      have HY : Hid (b[k] = y) := hy
      rw [hx] at c1
      rw [hy] at c2
      clear hx hy ha hb
      have i2 : (k : Int) < n := by omega
      by_cases hxy : x = y
      · subst hxy
        go_wp2_with fail
        go_quiet (fail)
        go_wp2_with fail
        exact ⟨⟨k + 1, by omega, by go_num, hF.then (Fr.drewN _ _ _), list_step HN.out hka HT.out (by rw [HX.out, HY.out])⟩, by simp [intOf]; omega⟩
      · have HE : Hid (¬ x = y) := hxy
        obtain ⟨q1, q2⟩ := str_no hxy
        clear hxy
        go_wp2_with fail
        go_quiet (fail)
        clear c1 c2
        go_wp2_with fail
        go_ret
        exact ⟨ret_bool (decide_eq_false (fun e => HE.out (by rw [← HX.out, ← HY.out]; subst e; rfl))).symm, hF.then (Fr.drewN _ _ _)⟩
    · go_wp2_with fail
      go_ret
      refine ⟨ret_bool ?_, hF⟩
      have := HT.out
      rw [List.take_of_length_le (by rw [HA.out]; omega), List.take_of_length_le (by rw [← HN.out, HA.out]; omega)] at this
      exact (decide_eq_true this).symm

end Go.Proofs.YtpfkkpghgmmijaaGreatDoor.Diff

namespace Go.Proofs.YtpfkkpghgmmijaaGreatDoor.Diff
open Go.RowKit
set_option maxRecDepth 100000

/-- A slice of texts. -/
def StrAt (w : World) (v : Value) (l : List ByteArray) : Prop := ∃ va c, v = .slice va l.length c ∧ (va = none → c = 0) ∧ l.length ≤ c ∧ Row w va l

theorem StrAt.fr {M : Nat → Prop} {w w' : World} {v : Value} {l : List ByteArray} (h : StrAt w v l) (f : Fr M w w') (hm : ∀ k, Own1 v k → ¬ M k) : StrAt w' v l := by
  obtain ⟨va, c, rfl, h1, h2, h3⟩ := h
  exact ⟨va, c, rfl, h1, h2, h3.frM f (fun a e => hm _ (by rw [e]; rfl))⟩

theorem StrAt.kept {w w' : World} {v : Value} {l : List ByteArray} (h : StrAt w v l) (f : Fr None' w w') : StrAt w' v l := h.fr f (fun _ _ e => e)

theorem OwnV.strAt {base : Nat} {w : World} {v : Value} {l : List ByteArray} (h : OwnV base w 9 v (l.map .string)) : StrAt w v l := by
  obtain ⟨va, c, hv, h1, h2, h3, _⟩ := h.slice
  rw [List.length_map] at hv h1
  exact ⟨va, c, hv, h2, h1, h3.row⟩

/-- Hunks in a row: three cells each. -/
def HunksAt (w : World) (v : Value) (L : List (Hk ByteArray)) : Prop := ∃ va c, v = .slice va L.length c ∧ (va = none → c = 0) ∧ ∀ k h, L[k]? = some h → ∃ g o vo vn, va = some ⟨g, o, none⟩ ∧ w.cell? ⟨g, o + k * 3, none⟩ = some (.int .i64 (h.at' : Int)) ∧ w.cell? ⟨g, o + k * 3 + 1, none⟩ = some vo ∧ w.cell? ⟨g, o + k * 3 + 2, none⟩ = some vn ∧ StrAt w vo h.o ∧ StrAt w vn h.n

theorem HunksAt.kept {w w' : World} {v : Value} {L : List (Hk ByteArray)} (h : HunksAt w v L) (f : Fr None' w w') : HunksAt w' v L := by
  obtain ⟨va, c, h1, h2, h3⟩ := h
  refine ⟨va, c, h1, h2, fun k x hk => ?_⟩
  obtain ⟨g, o, vo, vn, e, c1, c2, c3, s1, s2⟩ := h3 k x hk
  exact ⟨g, o, vo, vn, e, f.cell c1 (fun e => e), f.cell c2 (fun e => e), f.cell c3 (fun e => e), s1.kept f, s2.kept f⟩

/-- The cells of hunks, their texts' slices given. -/
def hcells : List (Hk ByteArray) → List (Value × Value) → List Value
  | h :: L, (vo, vn) :: V => .int .i64 (h.at' : Int) :: vo :: vn :: hcells L V
  | _, _ => []

theorem hcells_length : ∀ (L : List (Hk ByteArray)) (V : List (Value × Value)), V.length = L.length → (hcells L V).length = L.length * 3
  | [], _, _ => rfl
  | h :: L, [], e => by cases e
  | h :: L, (vo, vn) :: V, e => by
    simp only [hcells, List.length_cons] at e ⊢
    rw [hcells_length L V (by omega)]
    omega

theorem hcells_snoc : ∀ (L : List (Hk ByteArray)) (V : List (Value × Value)) (h : Hk ByteArray) (vo vn : Value), V.length = L.length → hcells (L ++ [h]) (V ++ [(vo, vn)]) = hcells L V ++ [.int .i64 (h.at' : Int), vo, vn]
  | [], [], h, vo, vn, _ => rfl
  | [], _ :: _, h, vo, vn, e => by cases e
  | x :: L, [], h, vo, vn, e => by cases e
  | x :: L, (a, b) :: V, h, vo, vn, e => by
    simp only [List.cons_append, hcells]
    rw [hcells_snoc L V h vo vn (by simpa using e)]

theorem hcells_get : ∀ (L : List (Hk ByteArray)) (V : List (Value × Value)) (k : Nat) (h : Hk ByteArray) (p : Value × Value), L[k]? = some h → V[k]? = some p → (hcells L V)[k * 3]? = some (.int .i64 (h.at' : Int)) ∧ (hcells L V)[k * 3 + 1]? = some p.1 ∧ (hcells L V)[k * 3 + 2]? = some p.2
  | [], _, k, h, p, e, _ => by simp at e
  | x :: L, [], k, h, p, _, e => by simp at e
  | x :: L, (a, b) :: V, 0, h, p, e1, e2 => by
    simp at e1 e2
    subst e1 e2
    exact ⟨rfl, rfl, rfl⟩
  | x :: L, (a, b) :: V, k + 1, h, p, e1, e2 => by
    have := hcells_get L V k h p (by simpa using e1) (by simpa using e2)
    simp only [hcells]
    rw [Nat.succ_mul]
    exact this

theorem infoH : (Tryz.prog.info? 127).map (fun i => (i.zero, i.size, i.bytes)) = some (some (.agg #[.int .i64 0, .slice none 0 0, .slice none 0 0]), 3, 56) := by kernel_rfl

/-- A part of a row of texts, as Go cuts it. -/
theorem slice_ex {w : World} {va : Option Addr} {a : List ByteArray} {na ca i x : Nat} (hr : Row w va a) (hna : a.length = na) (hix : i ≤ x) (hx : x ≤ na) (hc : na ≤ ca) (hn : va = none → ca = 0) :
    ∃ va1 c1, (∀ v, (Instr.sliceAt 43 (.slice va na ca) (some (.int .i64 i)) (some (.int .i64 x)) none).run Tryz.prog v = .ok (.slice va1 (x - i) c1) v) ∧ Row w va1 ((a.drop i).take (x - i)) ∧ (va1 = none → c1 = 0) ∧ x - i ≤ c1 ∧ ∀ y, va1 = some y → ∃ z, va = some z ∧ y.block = z.block := by
  have he : ∀ v, (sizeOf (Tryz.prog.elem 43)).run Tryz.prog v = .ok 1 v := fun v => by
    have : Tryz.prog.elem 43 = 9 := by kernel_rfl
    rw [this]
    exact Tryz.sizeOf9 v
  have hu : Tryz.prog.underlying 43 = some (.slice (Tryz.prog.elem 43)) := by kernel_rfl
  have hrun : ∀ v, (Instr.sliceAt 43 (.slice va na ca) (some (.int .i64 i)) (some (.int .i64 x)) none).run Tryz.prog v = .ok (sliced va i x ca 1) v := fun v => by
    rw [run_sliceAt_slice v _ _ _ _ _ hu, run_slice_lh v _ _ _ _ hu .i64 .i64 (i : Int) (x : Int) (by omega) (by omega) (by omega), he]
    rfl
  by_cases e : i = ca
  · have ex : x = i := by omega
    subst ex
    refine ⟨va, 0, fun v => ?_, ?_, fun h => rfl, by omega, fun y hy => ⟨y, hy, rfl⟩⟩
    · rw [hrun]
      unfold sliced
      simp [e]
    · rw [Nat.sub_self, List.take_zero]
      exact Row.nil _ _
  · cases va with
    | none => exact absurd (hn rfl) (by omega)
    | some ad =>
      obtain ⟨g, o, sp⟩ := ad
      by_cases e0 : x = i
      · subst e0
        refine ⟨some ((⟨g, o, sp⟩ : Addr).add (x * 1)), ca - x, fun v => ?_, ?_, (fun h => by cases h), by omega, fun y hy => ⟨_, rfl, by cases hy; unfold Addr.add; split <;> rfl⟩⟩
        · rw [hrun]
          unfold sliced
          rw [if_neg (fun h => e h.symm)]
          rfl
        · rw [Nat.sub_self, List.take_zero]
          exact Row.nil _ _
      · obtain ⟨g', o', e1, hc'⟩ := hr.get (k := i) (by omega)
        cases e1
        refine ⟨some ⟨g, o + i, none⟩, ca - i, fun v => ?_, hr.part i (x - i), (fun h => by cases h), by omega, fun y hy => ⟨_, rfl, by cases hy; rfl⟩⟩
        rw [hrun]
        unfold sliced
        rw [if_neg (fun h => e h.symm)]
        simp [Addr.add]

/-- .. and the rest of it. -/
theorem rest_ex {w : World} {va : Option Addr} {a : List ByteArray} {na ca i : Nat} (hr : Row w va a) (hna : a.length = na) (hx : i ≤ na) (hc : na ≤ ca) (hn : va = none → ca = 0) :
    ∃ va1 c1, (∀ v, (Instr.sliceAt 43 (.slice va na ca) (some (.int .i64 i)) none none).run Tryz.prog v = .ok (.slice va1 (na - i) c1) v) ∧ Row w va1 (a.drop i) ∧ (va1 = none → c1 = 0) ∧ na - i ≤ c1 ∧ ∀ y, va1 = some y → ∃ z, va = some z ∧ y.block = z.block := by
  obtain ⟨va1, c1, h1, h2, h3, h4, h5⟩ := slice_ex hr hna hx (Nat.le_refl _) hc hn
  refine ⟨va1, c1, fun v => ?_, ?_, h3, h4, h5⟩
  · rw [← h1 v]
    have hu : Tryz.prog.underlying 43 = some (.slice (Tryz.prog.elem 43)) := by kernel_rfl
    rw [run_sliceAt_slice v _ _ _ _ _ hu, run_sliceAt_slice v _ _ _ _ _ hu, run_slice_lh v _ _ _ _ hu .i64 .i64 (i : Int) (na : Int) (by omega) (by omega) (by omega), run_slice_l v _ _ _ _ hu .i64 (i : Int) (by omega) (by omega)]
    rfl
  · rw [List.take_of_length_le (by rw [List.length_drop, hna]; exact Nat.le_refl _)] at h2
    exact h2

end Go.Proofs.YtpfkkpghgmmijaaGreatDoor.Diff
