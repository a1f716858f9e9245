/-
  What is proved here: what the document's Diff hands back. Conditions: both rows of lines lie in memory, and have at most 400 lines each.
-/
import Derived.Test.YtoophkpmbinmlaaRKept2
import Derived.Test.YtoophkpmbinmlaaRHunk
import Derived.Test.YtoophkpmbinmlaaApply
import Derived.Deep.RegionLaw
namespace Go.Proofs.Ytoophkpmbinmlaa
open Go.RowKit
set_option maxRecDepth 100000
attribute [local irreducible] wpQuiet

/-- The hunks that are closed, and the one that is open. -/
structure DO (a b : List ByteArray) (i k : Nat) (L : List (Hk ByteArray)) (h : Hk ByteArray) : Prop where
  eq : L ++ hunks h.at' h.o h.n (a.drop i) (b.drop k) = diffs a b
  at' : k = h.at' + h.n.length
  lo : h.o.length ≤ i
  ln : h.n.length ≤ k
  len : L.length ≤ i + k

/-- Where the document's walk is. -/
def DS (a b : List ByteArray) (i k : Nat) (L : List (Hk ByteArray)) : Bool → Prop
  | false => L ++ hunks k [] [] (a.drop i) (b.drop k) = diffs a b ∧ L.length ≤ i + k
  | true => ∃ L0 h, L = L0 ++ [h] ∧ DO a b i k L0 h ∧ 0 < h.o.length + h.n.length ∧ L0.length + 1 ≤ i + k

theorem DS.start (a b : List ByteArray) : DS a b 0 0 [] false := ⟨rfl, Nat.zero_le _⟩

theorem DS.opens {a b : List ByteArray} {i k : Nat} {L : List (Hk ByteArray)} (h : DS a b i k L false) : DO a b i k L ⟨k, [], []⟩ := ⟨h.1, rfl, Nat.zero_le _, Nat.zero_le _, h.2⟩

theorem DS.len {a b : List ByteArray} {i k : Nat} {L : List (Hk ByteArray)} {op : Bool} (h : DS a b i k L op) : L.length ≤ i + k := by
  cases op with
  | false => exact h.2
  | true =>
    obtain ⟨L0, x, rfl, _, _, h2⟩ := h
    simpa using h2

/-- A line stays. -/
theorem DS.stays {a b : List ByteArray} {i k : Nat} {L : List (Hk ByteArray)} {op : Bool} (h : DS a b i k L op) (hi : i < a.length) (hk : k < b.length) (e : a[i] = b[k]) : DS a b (i + 1) (k + 1) L false := by
  refine ⟨?_, by have := h.len; omega⟩
  cases op with
  | false =>
    have h1 := h.1
    rw [List.drop_eq_getElem_cons hi, List.drop_eq_getElem_cons hk, e, hunks_same] at h1
    unfold flush at h1
    rw [if_pos ⟨rfl, rfl⟩] at h1
    exact h1
  | true =>
    obtain ⟨L0, x, rfl, hd, hx, _⟩ := h
    have h1 := hd.eq
    rw [List.drop_eq_getElem_cons hi, List.drop_eq_getElem_cons hk, e, hunks_same] at h1
    unfold flush at h1
    rw [if_neg (fun e => by rw [e.1, e.2] at hx; simp at hx), ← hd.at'] at h1
    rw [List.append_assoc]
    exact h1

/-- A line goes. -/
theorem DO.goes {a b : List ByteArray} {i k : Nat} {L : List (Hk ByteArray)} {h : Hk ByteArray} (H : DO a b i k L h) (hi : i < a.length) (hc : b.length ≤ k ∨ ∃ hk : k < b.length, ¬ a[i] = b[k] ∧ lcs (a.drop i) (b.drop (k + 1)) ≤ lcs (a.drop (i + 1)) (b.drop k)) : DS a b (i + 1) k (L ++ [⟨h.at', h.o ++ [a[i]], h.n⟩]) true := by
  refine ⟨L, _, rfl, ⟨?_, H.at', by simp; exact H.lo, H.ln, by have := H.len; omega⟩, by simp; omega, by have := H.len; omega⟩
  have h1 := H.eq
  rw [List.drop_eq_getElem_cons hi] at h1
  rcases hc with hk | ⟨hk, hne, hg⟩
  · rw [List.drop_of_length_le hk, hunks_cn] at h1
    rw [List.drop_of_length_le hk]
    exact h1
  · rw [List.drop_eq_getElem_cons hi, List.drop_eq_getElem_cons hk] at hg
    rw [List.drop_eq_getElem_cons hk, hunks_goes _ _ _ _ _ hne hg] at h1
    rw [List.drop_eq_getElem_cons hk]
    exact h1

/-- A line comes. -/
theorem DO.comes {a b : List ByteArray} {i k : Nat} {L : List (Hk ByteArray)} {h : Hk ByteArray} (H : DO a b i k L h) (hk : k < b.length) (hc : a.length ≤ i ∨ ∃ hi : i < a.length, ¬ a[i] = b[k] ∧ ¬ lcs (a.drop i) (b.drop (k + 1)) ≤ lcs (a.drop (i + 1)) (b.drop k)) : DS a b i (k + 1) (L ++ [⟨h.at', h.o, h.n ++ [b[k]]⟩]) true := by
  refine ⟨L, _, rfl, ⟨?_, by simp; have := H.at'; omega, H.lo, by simp; exact H.ln, by have := H.len; omega⟩, by simp; omega, by have := H.len; omega⟩
  have h1 := H.eq
  rw [List.drop_eq_getElem_cons hk] at h1
  rcases hc with hi | ⟨hi, hne, hg⟩
  · rw [List.drop_of_length_le hi, hunks_nc] at h1
    rw [List.drop_of_length_le hi]
    exact h1
  · rw [List.drop_eq_getElem_cons hi, List.drop_eq_getElem_cons hk] at hg
    rw [List.drop_eq_getElem_cons hi, hunks_comes _ _ _ _ _ hne hg] at h1
    rw [List.drop_eq_getElem_cons hi]
    exact h1

theorem DS.ends {a b : List ByteArray} {i k : Nat} {L : List (Hk ByteArray)} {op : Bool} (h : DS a b i k L op) (hi : a.length ≤ i) (hk : b.length ≤ k) : L = diffs a b := by
  cases op with
  | false =>
    have h1 := h.1
    rw [List.drop_of_length_le hi, List.drop_of_length_le hk, hunks_nn] at h1
    unfold flush at h1
    rw [if_pos ⟨rfl, rfl⟩, List.append_nil] at h1
    exact h1
  | true =>
    obtain ⟨L0, x, rfl, hd, hx, _⟩ := h
    have h1 := hd.eq
    rw [List.drop_of_length_le hi, List.drop_of_length_le hk, hunks_nn] at h1
    unfold flush at h1
    rw [if_neg (fun e => by rw [e.1, e.2] at hx; simp at hx)] at h1
    exact h1

theorem RD.lastStr {base : Nat} {w : World} {v : Value} {L : List (Hk ByteArray)} {V : List (Value × Value)} {h : Hk ByteArray} {p1 p2 : Value} (R : RD base w v (L ++ [h]) (V ++ [(p1, p2)])) : OwnV base w 9 p1 (h.o.map .string) ∧ OwnV base w 9 p2 (h.n.map .string) := by
  have hl : V.length = L.length := by have := R.len; simpa using this
  exact R.str L.length h (p1, p2) (by simp) (by simp [← hl])

theorem RD.lastTwo {base : Nat} {w : World} {v : Value} {L : List (Hk ByteArray)} {V : List (Value × Value)} {p1 p2 : Value} (R : RD base w v L (V ++ [(p1, p2)])) {b : Nat} (h1 : Own1 p1 b) (h2 : Own1 p2 b) : False := R.two V.length (p1, p2) (by simp) b h1 h2

theorem RD.lastAp {base : Nat} {w : World} {v : Value} {L : List (Hk ByteArray)} {V : List (Value × Value)} {p1 p2 : Value} (R : RD base w v L (V ++ [(p1, p2)])) {b : Nat} (h1 : Own1 p1 b ∨ Own1 p2 b) (h2 : Own1 v b) : False := R.ap V.length (p1, p2) (by simp) b h1 h2

theorem app_list {ops : Array Oper} {rest : List Oper} {o : Oper} {a : Act} {w w' : World} {Q : Exit → Act → World → Prop} {t : TypeId} (hgd : o.guard = none) (s x : Operand)
    (ho : o.op = .call { callee := .builtin .append, args := #[s, x], argTypes := #[t, t] }) {vs vx v : Value} (hs : a.eval s = vs) (hx : a.eval x = vx) (hr : (Builtin.append_ #[t, t] o.type #[vs, vx]).run Try.prog w = .ok v w')
    (h : wpList Try.prog ops Q rest (a.put o.dst v) w') : wpList Try.prog ops Q (o :: rest) a w := by
  refine wpList_plain hgd fun K hK => ?_
  unfold Oper.wp execOp
  simp only [ho, resolve, invoke, builtin, Sem.run_bind, Sem.run_pure, Result.andThen_ok, List.map_toArray, List.map_cons, List.map_nil, hs, hx, hr]
  exact hK _ _ h

set_option maxHeartbeats 40000000 in
theorem rdiff_any {va vb : Option Addr} {n c m d : Nat} {a b : List ByteArray} {w : World} (ha : ArgS w va n c a) (hb : ArgS w vb m d b) (hn : n ≤ 400) (hm : m ≤ 400) :
    Calls Try.prog 13 #[.slice va n c, .slice vb m d] w fun e w' => ∃ v, e = .returned v ∧ HunksAt w' v (diffs a b) ∧ Fr None' w w' := by
  have HA : Hid (ArgS w va n c a) := ha
  have HB : Hid (ArgS w vb m d b) := hb
  have HK : Hid (Calls Try.prog 20 #[.slice va n c, .slice vb m d] w fun e w' => ∃ g c' B, e = .returned (.slice (some ⟨g, 0, none⟩) (n + 1) c') ∧ KTab w.heap.size w' g (n + 1) (m + 1) B (fun i k => ((lcs (a.drop i) (b.drop k) : Nat) : Int)) ∧ Fr None' w w') := rkept_any ha hb hn hm
  have i1 : (n : Int) ≤ 400 := by omega
  have i2 : (m : Int) ≤ 400 := by omega
  clear ha hb
  go_enter Try.func13, Try.ntmps13
  go_wp2_with (go_at_call 20; refine HK.out.mono ?_; rintro e w1 ⟨gt, ct, B, rfl, T, F1⟩)
  have HT : Hid (KTab w.heap.size w1 gt (n + 1) (m + 1) B (fun i k => ((lcs (a.drop i) (b.drop k) : Nat) : Int))) := T
  have HF1 : Hid (Fr None' w w1) := F1
  clear T F1 HK
  go_loopw [6, 7, 8, 9] (fun v i k o wr => ∃ (i' k' : Nat) (L : List (Hk ByteArray)) (V : List (Value × Value)) (op : Bool) (v' : Value), i' ≤ n ∧ k' ≤ m ∧ i = .int .i64 i' ∧ k = .int .i64 k' ∧ o = .bool op ∧ v' = v ∧ Hid (RD w1.heap.size wr v' L V) ∧ Hid (DS a b i' k' L op) ∧ Hid (Fr None' w1 wr)) (fun _ i k _ _ => n - (intOf i).toNat + (m - (intOf k).toNat))
  case atStart => exact ⟨0, 0, [], [], false, nil', Nat.zero_le _, Nat.zero_le _, rfl, rfl, rfl, rfl, RD.nil _ _, DS.start a b, Fr.refl _ _⟩
  case round =>
    obtain ⟨i, k, L, V, op, v0, hi, hk, rfl, rfl, rfl, rfl, HR, HD, HF⟩ := hrel
    have j1 : (0 : Int) ≤ (i : Int) := by omega
    have j2 : (0 : Int) ≤ (k : Int) := by omega
    have ri : IntKind.i64.wrap ((i : Int) + 1) = (i : Int) + 1 := by rw [IntKind.wrap_i64]; omega
    have rk : IntKind.i64.wrap ((k : Int) + 1) = (k : Int) + 1 := by rw [IntKind.wrap_i64]; omega
    have ti : ((i : Int) + 1).toNat = i + 1 := by omega
    have tk : ((k : Int) + 1).toNat = k + 1 := by omega
    by_cases hin : i < n
    · by_cases hkm : k < m
      · have hia : i < a.length := by rw [HA.out.len]; omega
        obtain ⟨ga, oa, rfl, ca⟩ := (HA.out.row.fr (HF1.out.then HF.out)).get hia
        obtain ⟨pa, hpa⟩ : ∃ p, a[i] = p := ⟨_, rfl⟩
        rw [hpa] at ca
        have HPA : Hid (a[i] = pa) := hpa
        clear hpa
        have j3 : (i : Int) < (n : Int) := by omega
        have q3 : decide ((i : Int) < (n : Int)) = true := by simp; omega
        have hkb : k < b.length := by rw [HB.out.len]; omega
        obtain ⟨gb, ob, rfl, cb⟩ := (HB.out.row.fr (HF1.out.then HF.out)).get hkb
        obtain ⟨pb, hpb⟩ : ∃ p, b[k] = p := ⟨_, rfl⟩
        rw [hpb] at cb
        have HPB : Hid (b[k] = pb) := hpb
        clear hpb
        have j4 : (k : Int) < (m : Int) := by omega
        have q4 : decide ((k : Int) < (m : Int)) = true := by simp; omega
        have j5 : (i : Int) < ((n + 1 : Nat) : Int) := by omega
        have j6 : (i : Int) + 1 < ((n + 1 : Nat) : Int) := by omega
        have j7 : (k : Int) < ((m + 1 : Nat) : Int) := by omega
        have j8 : (k : Int) + 1 < ((m + 1 : Nat) : Int) := by omega
        by_cases hpp : pa = pb
        · subst hpp
          have T := HT.out.fr HF.out (fun e => e) (fun _ _ e => e)
          have c1 := T.cell i (by omega)
          have c2 := T.cell (i + 1) (by omega)
          have n1 := T.get (i := i) (k := k) (by omega) (by omega)
          have n2 := T.get (i := i + 1) (k := k + 1) (by omega) (by omega)
          have HS : Hid (DS a b (i + 1) (k + 1) L false) := HD.out.stays hia hkb (by rw [HPA.out, HPB.out])
          have e5 : lcs (a.drop i) (b.drop k) = lcs (a.drop (i + 1)) (b.drop (k + 1)) + 1 := by
            rw [List.drop_eq_getElem_cons hia, List.drop_eq_getElem_cons hkb, HPA.out, HPB.out, lcs_same]
          obtain ⟨X2, x2⟩ : ∃ X, lcs (a.drop (i + 1)) (b.drop (k + 1)) = X := ⟨_, rfl⟩
          have l2 : X2 ≤ 400 := by
            have := (lcs_le (a.drop (i + 1)) (b.drop (k + 1))).1
            rw [List.length_drop, HA.out.len, x2] at this
            omega
          rw [e5, x2] at n1
          rw [x2] at n2
          have e6 : ((X2 + 1 : Nat) : Int) = (X2 : Int) + 1 := by omega
          rw [e6] at n1
          have l3 : (X2 : Int) ≤ 400 := by omega
          have r2 : IntKind.i64.wrap ((X2 : Int) + 1) = (X2 : Int) + 1 := by rw [IntKind.wrap_i64]; omega
          clear T e5 x2 l2 e6 HD
          go_wp2_with fail
          go_quiet (fail)
          go_wp2_with fail
          exact ⟨⟨i + 1, k + 1, L, V, false, _, by omega, by omega, by go_num, by go_num, rfl, rfl, HR.out.kept (Fr.drewN None' _ _), HS.out, HF.out.then (Fr.drewN None' _ _)⟩, by simp [intOf]; omega⟩
        · have hne : ¬ a[i] = b[k] := by rw [HPA.out, HPB.out]; exact hpp
          obtain ⟨y1, y2⟩ := str_no hpp
          clear hpp
          have HLA : Hid (ga < w1.heap.size) := Nat.lt_of_lt_of_le (HA.out.lt _ rfl) HF1.out.size
          have HLB : Hid (gb < w1.heap.size) := Nat.lt_of_lt_of_le (HB.out.lt _ rfl) HF1.out.size
          go_wp2_with fail
          go_quiet (fail)
          obtain ⟨wq, hwq⟩ : ∃ wq, wr.drewN nq = wq := ⟨_, rfl⟩
          have fq : Fr None' wr wq := hwq ▸ Fr.drewN None' wr nq
          rw [hwq]
          replace ca := fq.cell ca (fun e => e)
          replace cb := fq.cell cb (fun e => e)
          have HR2 : Hid (RD w1.heap.size wq v0 L V) := HR.out.kept fq
          have HF2 : Hid (Fr None' w1 wq) := HF.out.then fq
          clear fq hwq HR HF
          by_cases hle : lcs (a.drop i) (b.drop (k + 1)) ≤ lcs (a.drop (i + 1)) (b.drop k)
          · clear cb
            cases op with
            | true => as_aux_lemma =>
              obtain ⟨L, h, rfl, DO1, _⟩ := HD.out
              have HO : Hid (DO a b i k L h) := DO1
              obtain ⟨V, p, rfl⟩ : ∃ V0 p, V = V0 ++ [p] := ⟨V.dropLast, V.getLast (fun e => by have := HR2.out.len; rw [e] at this; simp at this), (List.dropLast_concat_getLast _).symm⟩
              obtain ⟨p1, p2⟩ := p
              clear DO1 HD
              have HDS : Hid (DS a b (i + 1) k (L ++ [⟨h.at', h.o ++ [pa], h.n⟩]) true) := by have h1 := HO.out.goes hia (Or.inr ⟨hkb, hne, hle⟩); rw [HPA.out] at h1; exact h1
              obtain ⟨g, cc, rfl, d0, d1, d2, _⟩ := HR2.out.last
              obtain ⟨s1, s2⟩ := HR2.out.lastStr
              obtain ⟨va1, e1, hv1, _⟩ := s1.slice
              obtain ⟨va2, e2, hv2, _⟩ := s2.slice
              rw [List.length_map] at hv1 hv2
              subst hv1 hv2
              obtain ⟨l0, hl0⟩ : ∃ l, L.length = l := ⟨_, rfl⟩
              obtain ⟨t, ht⟩ : ∃ t, h.at' = t := ⟨_, rfl⟩
              obtain ⟨lo, hlo⟩ : ∃ l, h.o.length = l := ⟨_, rfl⟩
              obtain ⟨ln, hln⟩ : ∃ l, h.n.length = l := ⟨_, rfl⟩
              rw [hl0] at d0 d1 d2 HR2
              rw [ht] at d0
              rw [hlo] at d1
              rw [hln] at d2
              have bl : l0 + lo + ln ≤ 2000 := by have := HO.out.len; have := HO.out.lo; have := HO.out.ln; omega
              have b1 : (l0 : Int) ≤ 2000 := by omega
              rw [hlo, hln] at HR2
              have HL0 : Hid (L.length = l0 ∧ h.at' = t ∧ h.o.length = lo ∧ h.n.length = ln) := ⟨hl0, ht, hlo, hln⟩
              rw [hl0]
              clear s1 s2 hl0 ht hlo hln bl
              go_wp2_with fail
              obtain ⟨wb, hwb⟩ : ∃ wb, wq.alloc (.cells #[.int .i64 (t : Int), .slice va1 lo e1, .slice va2 ln e2] 24) = wb := ⟨_, rfl⟩
              have fb : Fr None' wq wb := hwb ▸ Fr.alloc None' wq _
              have hsb : wb.heap.size = wq.heap.size + 1 := by rw [← hwb]; simp
              obtain ⟨b0, b1, b2⟩ := cell3 wq 24 (.int .i64 (t : Int)) (.slice va1 lo e1) (.slice va2 ln e2)
              have hzb : ∀ o, wb.frozen? ⟨wq.heap.size, o, none⟩ = false := fun o => by
                rw [← hwb]
                unfold World.frozen?
                rw [heap_alloc_new]
                simp
              rw [hwb] at b0 b1 b2 ⊢
              replace ca := fb.cell ca (fun e => e)
              replace d0 := fb.cell d0 (fun e => e)
              replace d1 := fb.cell d1 (fun e => e)
              replace d2 := fb.cell d2 (fun e => e)
              have hnb : g ≠ wq.heap.size := fun e => by have := (ownH_lt HR2.out.row (k := g) rfl).2; omega
              clear hwb
              obtain ⟨bx, hbx⟩ : ∃ x, wq.heap.size = x := ⟨_, rfl⟩
              rw [hbx] at b0 b1 b2 hzb hsb hnb ⊢
              have HBX : Hid (wq.heap.size = bx ∧ wb.heap.size = bx + 1 ∧ Fr None' wq wb) := ⟨hbx, hsb, fb⟩
              clear hbx hsb fb
              have T := HT.out.fr (HF2.out.then HBX.out.2.2) (fun e => e) (fun _ _ e => e)
              have c1 := T.cell i (by omega)
              have c2 := T.cell (i + 1) (by omega)
              have n3 := T.get (i := i + 1) (k := k) (by omega) (by omega)
              have n4 := T.get (i := i) (k := k + 1) (by omega) (by omega)
              obtain ⟨X3, x3⟩ : ∃ X, lcs (a.drop (i + 1)) (b.drop k) = X := ⟨_, rfl⟩
              obtain ⟨X4, x4⟩ : ∃ X, lcs (a.drop i) (b.drop (k + 1)) = X := ⟨_, rfl⟩
              rw [x3] at n3
              rw [x4] at n4
              have q6n : decide (X4 ≤ X3) = true := by rw [← x3, ← x4]; simpa using hle
              have q6 : decide ((X4 : Int) ≤ (X3 : Int)) = true := by rw [← q6n]; congr 1; simp
              have q5 : decide ((m : Int) ≤ (k : Int)) = false := by simp; omega
              clear T x3 x4
              have q5n : decide (m ≤ k) = false := by simp; omega
              clear hle hne y1 y2
              go_wp2_with fail
              go_quiet (fail)
              obtain ⟨wc, hwc⟩ : ∃ wc, wb.drewN nq = wc := ⟨_, rfl⟩
              have fc : Fr None' wb wc := hwc ▸ Fr.drewN None' wb nq
              have hsc : wc.heap.size = wb.heap.size := by rw [← hwc]; rfl
              rw [hwc]
              clear hwc
              have F3 : Fr None' wq (wc.drew.alloc (.cells #[.string pa] 9)) := (HBX.out.2.2.then fc).then ((fr_drew None' wc).then (Fr.alloc None' _ _))
              have s1 : OwnV w1.heap.size (wc.drew.alloc (.cells #[.string pa] 9)) 9 (.slice va1 lo e1) (h.o.map .string) := (HR2.out.lastStr.1).kept F3
              have s2 : OwnV w1.heap.size (wc.drew.alloc (.cells #[.string pa] 9)) 9 (.slice va2 ln e2) (h.n.map .string) := (HR2.out.lastStr.2).kept F3
              have x0 : RowV (wc.drew.alloc (.cells #[.string pa] 9)) (some ⟨wc.heap.size, 0, none⟩) [.string pa] := one_row wc.drew _ _
              obtain ⟨v', w', hr, oN, fN, hn⟩ := append_run oneS 22 s1 (va := some ⟨wc.heap.size, 0, none⟩) (c := 1) (k := 1) (m := [.string pa]) rfl x0 (fun e => by cases e) (fun u hu => by simp at hu; rw [hu]; rfl) (by rw [List.length_map, HL0.out.2.2.1]; simp; have := HO.out.lo; have := HO.out.ln; have := HL0.out; omega) (Nat.le_trans HF2.out.size F3.size)
              obtain ⟨va1', e1', hv', _⟩ := oN.slice
              rw [List.length_append, List.length_map, HL0.out.2.2.1] at hv'
              simp only [List.length_cons, List.length_nil, Nat.zero_add] at hv'
              subst hv'
              have own1 : ∀ k, Own1 (.slice va1 lo e1) k → k < wq.heap.size := fun k e => (HR2.out.lastStr.1.lt e).2
              have hown' : ∀ k, Own1 (.slice va1' (lo + 1) e1') k → Own1 (.slice va1 lo e1) k ∨ wq.heap.size ≤ k := fun k e => (own_or hn e).imp id (fun e => by have := F3.size; omega)
              have F4 : Fr (Own1 (.slice va1 lo e1)) wb w' := (fc.then ((fr_drew None' wc).then (Fr.alloc None' _ _))).any.then fN
              have nbx : ¬ Own1 (.slice va1 lo e1) bx := fun e => by have := own1 bx e; have := HBX.out.1; omega
              have ngx : ¬ Own1 (.slice va1 lo e1) g := fun e => HR2.out.lastAp (Or.inl e) (show Own1 (.slice (some ⟨g, 0, none⟩) (l0 + 1) cc) g from rfl)
              have ca2 : (wc.drew).cell? _ = some (.string pa) := (fc.then (fr_drew None' wc)).cell ca (fun e => e)
              have b12 := (fc.then (fr_drew None' wc)).cell b1 (fun e => e)
              have b13 := (fc.then ((fr_drew None' wc).then (Fr.alloc None' wc.drew (.cells #[.string pa] 9)))).cell b1 (fun e => e)
              have b14 := (fc.then (Fr.alloc None' wc (.cells #[.string pa] 9))).cell b1 (fun e => e)
              have b0' := F4.cell b0 nbx
              have b1' := F4.cell b1 nbx
              have b2' := F4.cell b2 nbx
              have d0' := F4.cell d0 ngx
              have d1' := F4.cell d1 ngx
              have d2' := F4.cell d2 ngx
              have hzb' : ∀ o, w'.frozen? ⟨bx, o, none⟩ = false := fun o => (frozen_kept' (F4.block bx (cell_lt b0) nbx)).trans (hzb o)
              have hzg' : ∀ o, w'.frozen? ⟨g, o, none⟩ = false := fun o => by
                obtain ⟨_, _, e, _, _, _, z⟩ := HR2.out.last
                rw [HL0.out.1] at e
                cases e
                exact (frozen_kept' (F4.block g (cell_lt d0) ngx)).trans ((frozen_kept' (HBX.out.2.2.block g (ownH_lt HR2.out.row (k := g) rfl).2 (fun e => e))).trans (z o))
              have HE : Hid (∀ w5, w5 = ((((w'.setCell ⟨bx, 1, none⟩ (.slice va1' (lo + 1) e1')).setCell ⟨g, l0 * 3, none⟩ (.int .i64 (t : Int))).setCell ⟨g, l0 * 3 + 1, none⟩ (.slice va1' (lo + 1) e1')).setCell ⟨g, l0 * 3 + 2, none⟩ (.slice va2 ln e2)) → RD w1.heap.size w5 (.slice (some ⟨g, 0, none⟩) (l0 + 1) cc) (L ++ [⟨h.at', h.o ++ [pa], h.n⟩]) (V ++ [(.slice va1' (lo + 1) e1', .slice va2 ln e2)]) ∧ Fr None' w1 w5) := by
                rintro w5 rfl
                have ht1 := HL0.out.2.1
                subst ht1
                have oK := s2.fr fN (fun k e1 e2 => HR2.out.lastTwo e2 e1)
                have f5 : Fr (fun k => k = bx) w' (w'.setCell ⟨bx, 1, none⟩ (.slice va1' (lo + 1) e1')) := Fr.setCell (M := fun k => k = bx) w' (a := ⟨bx, 1, none⟩) rfl _
                have F5 : Fr (fun k => Own1 (.slice va1 lo e1) k ∨ wq.heap.size ≤ k) wq (w'.setCell ⟨bx, 1, none⟩ (.slice va1' (lo + 1) e1')) := ((HBX.out.2.2.any.then (F4.mono (fun _ e => Or.inl e)))).then (f5.mono (fun k e => Or.inr (by have := HBX.out.1; omega)))
                have nq1 : ∀ k, Own1 (.slice va1' (lo + 1) e1') k → k ≠ bx := fun k e e2 => by
                  rcases own_or hn e with e3 | e3
                  · exact nbx (e2 ▸ e3)
                  · have h1 : (wc.drew.alloc (.cells #[.string pa] 9)).heap.size = wc.heap.size + 1 := by simp
                    have := HBX.out.2.1
                    omega
                have nq2 : ∀ k, Own1 (.slice va2 ln e2) k → k ≠ bx := fun k e e2 => by have := (HR2.out.lastStr.2.lt e).2; have := HBX.out.1; omega
                have oN' : OwnV w1.heap.size (w'.setCell ⟨bx, 1, none⟩ (.slice va1' (lo + 1) e1')) 9 (.slice va1' (lo + 1) e1') ((h.o ++ [pa]).map .string) := by
                  have h1 := oN.fr f5 nq1
                  simpa using h1
                have oK' := oK.fr f5 nq2
                have R5 := HR2.out.put (h' := ⟨h.at', h.o ++ [pa], h.n⟩) F5 (fun k e => e.imp (fun e => Or.inl e) id) oN' oK' (fun k e => e.elim (fun e => (hown' k e).imp Or.inl id) (fun e => Or.inl (Or.inr e))) (fun k e1 e2 => (hown' k e1).elim (fun e => HR2.out.lastTwo e e2) (fun e => by have := (HR2.out.lastStr.2.lt e2).2; omega)) (g := g) (c := cc) (by rw [HL0.out.1])
                rw [HL0.out.1] at R5
                refine ⟨R5, ?_⟩
                have gl := (ownH_lt HR2.out.row (k := g) rfl).1
                have f6 : Fr (fun k => k = g) (w'.setCell ⟨bx, 1, none⟩ (.slice va1' (lo + 1) e1')) ((((w'.setCell ⟨bx, 1, none⟩ (.slice va1' (lo + 1) e1')).setCell ⟨g, l0 * 3, none⟩ (.int .i64 (h.at' : Int))).setCell ⟨g, l0 * 3 + 1, none⟩ (.slice va1' (lo + 1) e1')).setCell ⟨g, l0 * 3 + 2, none⟩ (.slice va2 ln e2)) := ((Fr.setCell (M := fun k => k = g) _ (a := ⟨g, _, none⟩) rfl _).then (Fr.setCell (M := fun k => k = g) _ (a := ⟨g, _, none⟩) rfl _)).then (Fr.setCell (M := fun k => k = g) _ (a := ⟨g, _, none⟩) rfl _)
                exact (HF2.out.trans F5 (fun k e => e.elim (fun e => Or.inr (s1.lt e).1) (fun e => Or.inr (Nat.le_trans HF2.out.size e)))).trans f6 (fun k e => Or.inr (by have e' : k = g := e; omega))
              clear s1 s2 x0 oN fN hn own1 hown' F3 F4 nbx ngx fc hsc
              clear b0 b1 b2 d0 d1 d2 hzb ca HBX HR2 HO HL0 HF2 c1 c2 n3 n4 q6 q6n q5n
              go_wp2_with fail
              go_region_law (refine step_app rfl (.tmp 112) (.tmp 117) rfl (by first | rfl | simp [Act.eval, Act.put]) (by first | rfl | simp [Act.eval, Act.put]) hr ?_)
              all_goals go_wp2_with fail
              all_goals
                obtain ⟨R5, F5⟩ := HE.out _ rfl
                exact ⟨⟨i + 1, k, _, _, true, _, by omega, by omega, by go_num, by go_num, rfl, rfl, R5, HDS.out, F5⟩, by simp [intOf]; omega⟩
            | false => as_aux_lemma =>
              have HO0 : DO a b i k L ⟨k, [], []⟩ := HD.out.opens
              obtain ⟨gg, cg, w4, hr4, R4, f4⟩ := HR2.out.open k HF2.out.size (by have := HO0.len; omega)
              have F4 : Fr None' w1 w4 := HF2.out.trans f4 (fun k e => Or.inr (ownH_lt HR2.out.row e).1)
              obtain ⟨h, hh⟩ : ∃ h : Hk ByteArray, (⟨k, [], []⟩ : Hk ByteArray) = h := ⟨_, rfl⟩
              obtain ⟨p1, hp1⟩ : ∃ p, nil' = p := ⟨_, rfl⟩
              obtain ⟨v4, hv4⟩ : ∃ v, Value.slice (some ⟨gg, 0, none⟩) (L.length + 1) cg = v := ⟨_, rfl⟩
              have R5 : RD w1.heap.size w4 v4 (L ++ [h]) (V ++ [(p1, p1)]) := by rw [← hh, ← hp1, ← hv4]; exact R4
              obtain ⟨p2, hp2⟩ : ∃ p, p1 = p := ⟨_, rfl⟩
              have R6 : RD w1.heap.size w4 v4 (L ++ [h]) (V ++ [(p1, p2)]) := by rw [← hp2]; exact R5
              have HO : Hid (DO a b i k L h) := by rw [hh] at HO0; exact HO0
              rw [hv4] at hr4
              replace ca := f4.cell ca (fun e => by have h1 : w1.heap.size ≤ ga := (ownH_lt HR2.out.row e).1; have h2 := HLA.out; omega)
              obtain ⟨wq0, hwq0⟩ : ∃ x, wq = x := ⟨_, rfl⟩
              subst hwq0
              have hr5 : Hid ((Builtin.append_ #[28, 28] 28 #[v0, .slice (some ⟨wq.heap.size, 0, none⟩) 1 1]).run Try.prog (wq.alloc (.cells #[.int .i64 (k : Int), .slice none 0 0, .slice none 0 0] 24 (0, 0))) = .ok v4 w4) := hr4
              clear HR2 HF2 hr4 R4 R5 hh hp1 hp2 hv4 f4 HD HO0
              have HR2 : Hid (RD w1.heap.size w4 v4 (L ++ [h]) (V ++ [(p1, p2)])) := R6
              have HF2 : Hid (Fr None' w1 w4) := F4
              clear R6 F4
              have HDS : Hid (DS a b (i + 1) k (L ++ [⟨h.at', h.o ++ [pa], h.n⟩]) true) := by have h1 := HO.out.goes hia (Or.inr ⟨hkb, hne, hle⟩); rw [HPA.out] at h1; exact h1
              obtain ⟨g, cc, rfl, d0, d1, d2, _⟩ := HR2.out.last
              obtain ⟨s1, s2⟩ := HR2.out.lastStr
              obtain ⟨va1, e1, hv1, _⟩ := s1.slice
              obtain ⟨va2, e2, hv2, _⟩ := s2.slice
              rw [List.length_map] at hv1 hv2
              subst hv1 hv2
              obtain ⟨l0, hl0⟩ : ∃ l, L.length = l := ⟨_, rfl⟩
              obtain ⟨t, ht⟩ : ∃ t, h.at' = t := ⟨_, rfl⟩
              obtain ⟨lo, hlo⟩ : ∃ l, h.o.length = l := ⟨_, rfl⟩
              obtain ⟨ln, hln⟩ : ∃ l, h.n.length = l := ⟨_, rfl⟩
              rw [hl0] at d0 d1 d2 HR2
              rw [ht] at d0
              rw [hlo] at d1
              rw [hln] at d2
              have bl : l0 + lo + ln ≤ 2000 := by have := HO.out.len; have := HO.out.lo; have := HO.out.ln; omega
              have b1 : (l0 : Int) ≤ 2000 := by omega
              rw [hlo, hln] at HR2
              have HL0 : Hid (L.length = l0 ∧ h.at' = t ∧ h.o.length = lo ∧ h.n.length = ln) := ⟨hl0, ht, hlo, hln⟩
              rw [hl0] at hr5
              clear s1 s2 hl0 ht hlo hln bl
              go_wp2_with (at_builtin
                           refine app_list rfl _ _ rfl rfl rfl hr5.out ?_
                           clear hr5)
              obtain ⟨wb, hwb⟩ : ∃ wb, w4.alloc (.cells #[.int .i64 (t : Int), .slice va1 lo e1, .slice va2 ln e2] 24) = wb := ⟨_, rfl⟩
              have fb : Fr None' w4 wb := hwb ▸ Fr.alloc None' w4 _
              have hsb : wb.heap.size = w4.heap.size + 1 := by rw [← hwb]; simp
              obtain ⟨b0, b1, b2⟩ := cell3 w4 24 (.int .i64 (t : Int)) (.slice va1 lo e1) (.slice va2 ln e2)
              have hzb : ∀ o, wb.frozen? ⟨w4.heap.size, o, none⟩ = false := fun o => by
                rw [← hwb]
                unfold World.frozen?
                rw [heap_alloc_new]
                simp
              rw [hwb] at b0 b1 b2 ⊢
              replace ca := fb.cell ca (fun e => e)
              replace d0 := fb.cell d0 (fun e => e)
              replace d1 := fb.cell d1 (fun e => e)
              replace d2 := fb.cell d2 (fun e => e)
              have hnb : g ≠ w4.heap.size := fun e => by have := (ownH_lt HR2.out.row (k := g) rfl).2; omega
              clear hwb
              obtain ⟨bx, hbx⟩ : ∃ x, w4.heap.size = x := ⟨_, rfl⟩
              rw [hbx] at b0 b1 b2 hzb hsb hnb ⊢
              have HBX : Hid (w4.heap.size = bx ∧ wb.heap.size = bx + 1 ∧ Fr None' w4 wb) := ⟨hbx, hsb, fb⟩
              clear hbx hsb fb
              have T := HT.out.fr (HF2.out.then HBX.out.2.2) (fun e => e) (fun _ _ e => e)
              have c1 := T.cell i (by omega)
              have c2 := T.cell (i + 1) (by omega)
              have n3 := T.get (i := i + 1) (k := k) (by omega) (by omega)
              have n4 := T.get (i := i) (k := k + 1) (by omega) (by omega)
              obtain ⟨X3, x3⟩ : ∃ X, lcs (a.drop (i + 1)) (b.drop k) = X := ⟨_, rfl⟩
              obtain ⟨X4, x4⟩ : ∃ X, lcs (a.drop i) (b.drop (k + 1)) = X := ⟨_, rfl⟩
              rw [x3] at n3
              rw [x4] at n4
              have q6n : decide (X4 ≤ X3) = true := by rw [← x3, ← x4]; simpa using hle
              have q6 : decide ((X4 : Int) ≤ (X3 : Int)) = true := by rw [← q6n]; congr 1; simp
              have q5 : decide ((m : Int) ≤ (k : Int)) = false := by simp; omega
              clear T x3 x4
              have q5n : decide (m ≤ k) = false := by simp; omega
              clear hle hne y1 y2
              go_wp2_with fail
              go_quiet (fail)
              obtain ⟨wc, hwc⟩ : ∃ wc, wb.drewN nq = wc := ⟨_, rfl⟩
              have fc : Fr None' wb wc := hwc ▸ Fr.drewN None' wb nq
              have hsc : wc.heap.size = wb.heap.size := by rw [← hwc]; rfl
              rw [hwc]
              clear hwc
              have F3 : Fr None' w4 (wc.drew.alloc (.cells #[.string pa] 9)) := (HBX.out.2.2.then fc).then ((fr_drew None' wc).then (Fr.alloc None' _ _))
              have s1 : OwnV w1.heap.size (wc.drew.alloc (.cells #[.string pa] 9)) 9 (.slice va1 lo e1) (h.o.map .string) := (HR2.out.lastStr.1).kept F3
              have s2 : OwnV w1.heap.size (wc.drew.alloc (.cells #[.string pa] 9)) 9 (.slice va2 ln e2) (h.n.map .string) := (HR2.out.lastStr.2).kept F3
              have x0 : RowV (wc.drew.alloc (.cells #[.string pa] 9)) (some ⟨wc.heap.size, 0, none⟩) [.string pa] := one_row wc.drew _ _
              obtain ⟨v', w', hr, oN, fN, hn⟩ := append_run oneS 22 s1 (va := some ⟨wc.heap.size, 0, none⟩) (c := 1) (k := 1) (m := [.string pa]) rfl x0 (fun e => by cases e) (fun u hu => by simp at hu; rw [hu]; rfl) (by rw [List.length_map, HL0.out.2.2.1]; simp; have := HO.out.lo; have := HO.out.ln; have := HL0.out; omega) (Nat.le_trans HF2.out.size F3.size)
              obtain ⟨va1', e1', hv', _⟩ := oN.slice
              rw [List.length_append, List.length_map, HL0.out.2.2.1] at hv'
              simp only [List.length_cons, List.length_nil, Nat.zero_add] at hv'
              subst hv'
              have own1 : ∀ k, Own1 (.slice va1 lo e1) k → k < w4.heap.size := fun k e => (HR2.out.lastStr.1.lt e).2
              have hown' : ∀ k, Own1 (.slice va1' (lo + 1) e1') k → Own1 (.slice va1 lo e1) k ∨ w4.heap.size ≤ k := fun k e => (own_or hn e).imp id (fun e => by have := F3.size; omega)
              have F4 : Fr (Own1 (.slice va1 lo e1)) wb w' := (fc.then ((fr_drew None' wc).then (Fr.alloc None' _ _))).any.then fN
              have nbx : ¬ Own1 (.slice va1 lo e1) bx := fun e => by have := own1 bx e; have := HBX.out.1; omega
              have ngx : ¬ Own1 (.slice va1 lo e1) g := fun e => HR2.out.lastAp (Or.inl e) (show Own1 (.slice (some ⟨g, 0, none⟩) (l0 + 1) cc) g from rfl)
              have ca2 : (wc.drew).cell? _ = some (.string pa) := (fc.then (fr_drew None' wc)).cell ca (fun e => e)
              have b12 := (fc.then (fr_drew None' wc)).cell b1 (fun e => e)
              have b13 := (fc.then ((fr_drew None' wc).then (Fr.alloc None' wc.drew (.cells #[.string pa] 9)))).cell b1 (fun e => e)
              have b14 := (fc.then (Fr.alloc None' wc (.cells #[.string pa] 9))).cell b1 (fun e => e)
              have b0' := F4.cell b0 nbx
              have b1' := F4.cell b1 nbx
              have b2' := F4.cell b2 nbx
              have d0' := F4.cell d0 ngx
              have d1' := F4.cell d1 ngx
              have d2' := F4.cell d2 ngx
              have hzb' : ∀ o, w'.frozen? ⟨bx, o, none⟩ = false := fun o => (frozen_kept' (F4.block bx (cell_lt b0) nbx)).trans (hzb o)
              have hzg' : ∀ o, w'.frozen? ⟨g, o, none⟩ = false := fun o => by
                obtain ⟨_, _, e, _, _, _, z⟩ := HR2.out.last
                rw [HL0.out.1] at e
                cases e
                exact (frozen_kept' (F4.block g (cell_lt d0) ngx)).trans ((frozen_kept' (HBX.out.2.2.block g (ownH_lt HR2.out.row (k := g) rfl).2 (fun e => e))).trans (z o))
              have HE : Hid (∀ w5, w5 = ((((w'.setCell ⟨bx, 1, none⟩ (.slice va1' (lo + 1) e1')).setCell ⟨g, l0 * 3, none⟩ (.int .i64 (t : Int))).setCell ⟨g, l0 * 3 + 1, none⟩ (.slice va1' (lo + 1) e1')).setCell ⟨g, l0 * 3 + 2, none⟩ (.slice va2 ln e2)) → RD w1.heap.size w5 (.slice (some ⟨g, 0, none⟩) (l0 + 1) cc) (L ++ [⟨h.at', h.o ++ [pa], h.n⟩]) (V ++ [(.slice va1' (lo + 1) e1', .slice va2 ln e2)]) ∧ Fr None' w1 w5) := by
                rintro w5 rfl
                have ht1 := HL0.out.2.1
                subst ht1
                have oK := s2.fr fN (fun k e1 e2 => HR2.out.lastTwo e2 e1)
                have f5 : Fr (fun k => k = bx) w' (w'.setCell ⟨bx, 1, none⟩ (.slice va1' (lo + 1) e1')) := Fr.setCell (M := fun k => k = bx) w' (a := ⟨bx, 1, none⟩) rfl _
                have F5 : Fr (fun k => Own1 (.slice va1 lo e1) k ∨ w4.heap.size ≤ k) w4 (w'.setCell ⟨bx, 1, none⟩ (.slice va1' (lo + 1) e1')) := ((HBX.out.2.2.any.then (F4.mono (fun _ e => Or.inl e)))).then (f5.mono (fun k e => Or.inr (by have := HBX.out.1; omega)))
                have nq1 : ∀ k, Own1 (.slice va1' (lo + 1) e1') k → k ≠ bx := fun k e e2 => by
                  rcases own_or hn e with e3 | e3
                  · exact nbx (e2 ▸ e3)
                  · have h1 : (wc.drew.alloc (.cells #[.string pa] 9)).heap.size = wc.heap.size + 1 := by simp
                    have := HBX.out.2.1
                    omega
                have nq2 : ∀ k, Own1 (.slice va2 ln e2) k → k ≠ bx := fun k e e2 => by have := (HR2.out.lastStr.2.lt e).2; have := HBX.out.1; omega
                have oN' : OwnV w1.heap.size (w'.setCell ⟨bx, 1, none⟩ (.slice va1' (lo + 1) e1')) 9 (.slice va1' (lo + 1) e1') ((h.o ++ [pa]).map .string) := by
                  have h1 := oN.fr f5 nq1
                  simpa using h1
                have oK' := oK.fr f5 nq2
                have R5 := HR2.out.put (h' := ⟨h.at', h.o ++ [pa], h.n⟩) F5 (fun k e => e.imp (fun e => Or.inl e) id) oN' oK' (fun k e => e.elim (fun e => (hown' k e).imp Or.inl id) (fun e => Or.inl (Or.inr e))) (fun k e1 e2 => (hown' k e1).elim (fun e => HR2.out.lastTwo e e2) (fun e => by have := (HR2.out.lastStr.2.lt e2).2; omega)) (g := g) (c := cc) (by rw [HL0.out.1])
                rw [HL0.out.1] at R5
                refine ⟨R5, ?_⟩
                have gl := (ownH_lt HR2.out.row (k := g) rfl).1
                have f6 : Fr (fun k => k = g) (w'.setCell ⟨bx, 1, none⟩ (.slice va1' (lo + 1) e1')) ((((w'.setCell ⟨bx, 1, none⟩ (.slice va1' (lo + 1) e1')).setCell ⟨g, l0 * 3, none⟩ (.int .i64 (h.at' : Int))).setCell ⟨g, l0 * 3 + 1, none⟩ (.slice va1' (lo + 1) e1')).setCell ⟨g, l0 * 3 + 2, none⟩ (.slice va2 ln e2)) := ((Fr.setCell (M := fun k => k = g) _ (a := ⟨g, _, none⟩) rfl _).then (Fr.setCell (M := fun k => k = g) _ (a := ⟨g, _, none⟩) rfl _)).then (Fr.setCell (M := fun k => k = g) _ (a := ⟨g, _, none⟩) rfl _)
                exact (HF2.out.trans F5 (fun k e => e.elim (fun e => Or.inr (s1.lt e).1) (fun e => Or.inr (Nat.le_trans HF2.out.size e)))).trans f6 (fun k e => Or.inr (by have e' : k = g := e; omega))
              clear s1 s2 x0 oN fN hn own1 hown' F3 F4 nbx ngx fc hsc
              clear b0 b1 b2 d0 d1 d2 hzb ca HBX HR2 HO HL0 HF2 c1 c2 n3 n4 q6 q6n q5n
              go_wp2_with fail
              go_region_law (refine step_app rfl (.tmp 112) (.tmp 117) rfl (by first | rfl | simp [Act.eval, Act.put]) (by first | rfl | simp [Act.eval, Act.put]) hr ?_)
              all_goals go_wp2_with fail
              all_goals
                obtain ⟨R5, F5⟩ := HE.out _ rfl
                exact ⟨⟨i + 1, k, _, _, true, _, by omega, by omega, by go_num, by go_num, rfl, rfl, R5, HDS.out, F5⟩, by simp [intOf]; omega⟩
          · clear ca
            cases op with
            | true => as_aux_lemma =>
              obtain ⟨L, h, rfl, DO1, _⟩ := HD.out
              have HO : Hid (DO a b i k L h) := DO1
              obtain ⟨V, p, rfl⟩ : ∃ V0 p, V = V0 ++ [p] := ⟨V.dropLast, V.getLast (fun e => by have := HR2.out.len; rw [e] at this; simp at this), (List.dropLast_concat_getLast _).symm⟩
              obtain ⟨p1, p2⟩ := p
              clear DO1 HD
              have HDS : Hid (DS a b i (k + 1) (L ++ [⟨h.at', h.o, h.n ++ [pb]⟩]) true) := by have h1 := HO.out.comes hkb (Or.inr ⟨hia, hne, hle⟩); rw [HPB.out] at h1; exact h1
              obtain ⟨g, cc, rfl, d0, d1, d2, _⟩ := HR2.out.last
              obtain ⟨s1, s2⟩ := HR2.out.lastStr
              obtain ⟨va1, e1, hv1, _⟩ := s1.slice
              obtain ⟨va2, e2, hv2, _⟩ := s2.slice
              rw [List.length_map] at hv1 hv2
              subst hv1 hv2
              obtain ⟨l0, hl0⟩ : ∃ l, L.length = l := ⟨_, rfl⟩
              obtain ⟨t, ht⟩ : ∃ t, h.at' = t := ⟨_, rfl⟩
              obtain ⟨lo, hlo⟩ : ∃ l, h.o.length = l := ⟨_, rfl⟩
              obtain ⟨ln, hln⟩ : ∃ l, h.n.length = l := ⟨_, rfl⟩
              rw [hl0] at d0 d1 d2 HR2
              rw [ht] at d0
              rw [hlo] at d1
              rw [hln] at d2
              have bl : l0 + lo + ln ≤ 2000 := by have := HO.out.len; have := HO.out.lo; have := HO.out.ln; omega
              have b1 : (l0 : Int) ≤ 2000 := by omega
              rw [hlo, hln] at HR2
              have HL0 : Hid (L.length = l0 ∧ h.at' = t ∧ h.o.length = lo ∧ h.n.length = ln) := ⟨hl0, ht, hlo, hln⟩
              rw [hl0]
              clear s1 s2 hl0 ht hlo hln bl
              go_wp2_with fail
              obtain ⟨wb, hwb⟩ : ∃ wb, wq.alloc (.cells #[.int .i64 (t : Int), .slice va1 lo e1, .slice va2 ln e2] 24) = wb := ⟨_, rfl⟩
              have fb : Fr None' wq wb := hwb ▸ Fr.alloc None' wq _
              have hsb : wb.heap.size = wq.heap.size + 1 := by rw [← hwb]; simp
              obtain ⟨b0, b1, b2⟩ := cell3 wq 24 (.int .i64 (t : Int)) (.slice va1 lo e1) (.slice va2 ln e2)
              have hzb : ∀ o, wb.frozen? ⟨wq.heap.size, o, none⟩ = false := fun o => by
                rw [← hwb]
                unfold World.frozen?
                rw [heap_alloc_new]
                simp
              rw [hwb] at b0 b1 b2 ⊢
              replace cb := fb.cell cb (fun e => e)
              replace d0 := fb.cell d0 (fun e => e)
              replace d1 := fb.cell d1 (fun e => e)
              replace d2 := fb.cell d2 (fun e => e)
              have hnb : g ≠ wq.heap.size := fun e => by have := (ownH_lt HR2.out.row (k := g) rfl).2; omega
              clear hwb
              obtain ⟨bx, hbx⟩ : ∃ x, wq.heap.size = x := ⟨_, rfl⟩
              rw [hbx] at b0 b1 b2 hzb hsb hnb ⊢
              have HBX : Hid (wq.heap.size = bx ∧ wb.heap.size = bx + 1 ∧ Fr None' wq wb) := ⟨hbx, hsb, fb⟩
              clear hbx hsb fb
              have T := HT.out.fr (HF2.out.then HBX.out.2.2) (fun e => e) (fun _ _ e => e)
              have c1 := T.cell i (by omega)
              have c2 := T.cell (i + 1) (by omega)
              have n3 := T.get (i := i + 1) (k := k) (by omega) (by omega)
              have n4 := T.get (i := i) (k := k + 1) (by omega) (by omega)
              obtain ⟨X3, x3⟩ : ∃ X, lcs (a.drop (i + 1)) (b.drop k) = X := ⟨_, rfl⟩
              obtain ⟨X4, x4⟩ : ∃ X, lcs (a.drop i) (b.drop (k + 1)) = X := ⟨_, rfl⟩
              rw [x3] at n3
              rw [x4] at n4
              have q6n : decide (X4 ≤ X3) = false := by rw [← x3, ← x4]; simpa using hle
              have q6 : decide ((X4 : Int) ≤ (X3 : Int)) = false := by rw [← q6n]; congr 1; simp
              have q5 : decide ((m : Int) ≤ (k : Int)) = false := by simp; omega
              clear T x3 x4
              have q5n : decide (m ≤ k) = false := by simp; omega
              clear hle hne y1 y2
              go_wp2_with fail
              go_quiet (fail)
              obtain ⟨wc, hwc⟩ : ∃ wc, wb.drewN nq = wc := ⟨_, rfl⟩
              have fc : Fr None' wb wc := hwc ▸ Fr.drewN None' wb nq
              have hsc : wc.heap.size = wb.heap.size := by rw [← hwc]; rfl
              rw [hwc]
              clear hwc
              have F3 : Fr None' wq (wc.drew.alloc (.cells #[.string pb] 9)) := (HBX.out.2.2.then fc).then ((fr_drew None' wc).then (Fr.alloc None' _ _))
              have s1 : OwnV w1.heap.size (wc.drew.alloc (.cells #[.string pb] 9)) 9 (.slice va2 ln e2) (h.n.map .string) := (HR2.out.lastStr.2).kept F3
              have s2 : OwnV w1.heap.size (wc.drew.alloc (.cells #[.string pb] 9)) 9 (.slice va1 lo e1) (h.o.map .string) := (HR2.out.lastStr.1).kept F3
              have x0 : RowV (wc.drew.alloc (.cells #[.string pb] 9)) (some ⟨wc.heap.size, 0, none⟩) [.string pb] := one_row wc.drew _ _
              obtain ⟨v', w', hr, oN, fN, hn⟩ := append_run oneS 22 s1 (va := some ⟨wc.heap.size, 0, none⟩) (c := 1) (k := 1) (m := [.string pb]) rfl x0 (fun e => by cases e) (fun u hu => by simp at hu; rw [hu]; rfl) (by rw [List.length_map, HL0.out.2.2.2]; simp; have := HO.out.lo; have := HO.out.ln; have := HL0.out; omega) (Nat.le_trans HF2.out.size F3.size)
              obtain ⟨va2', e2', hv', _⟩ := oN.slice
              rw [List.length_append, List.length_map, HL0.out.2.2.2] at hv'
              simp only [List.length_cons, List.length_nil, Nat.zero_add] at hv'
              subst hv'
              have own1 : ∀ k, Own1 (.slice va2 ln e2) k → k < wq.heap.size := fun k e => (HR2.out.lastStr.2.lt e).2
              have hown' : ∀ k, Own1 (.slice va2' (ln + 1) e2') k → Own1 (.slice va2 ln e2) k ∨ wq.heap.size ≤ k := fun k e => (own_or hn e).imp id (fun e => by have := F3.size; omega)
              have F4 : Fr (Own1 (.slice va2 ln e2)) wb w' := (fc.then ((fr_drew None' wc).then (Fr.alloc None' _ _))).any.then fN
              have nbx : ¬ Own1 (.slice va2 ln e2) bx := fun e => by have := own1 bx e; have := HBX.out.1; omega
              have ngx : ¬ Own1 (.slice va2 ln e2) g := fun e => HR2.out.lastAp (Or.inr e) (show Own1 (.slice (some ⟨g, 0, none⟩) (l0 + 1) cc) g from rfl)
              have cb2 : (wc.drew).cell? _ = some (.string pb) := (fc.then (fr_drew None' wc)).cell cb (fun e => e)
              have b22 := (fc.then (fr_drew None' wc)).cell b2 (fun e => e)
              have b23 := (fc.then ((fr_drew None' wc).then (Fr.alloc None' wc.drew (.cells #[.string pb] 9)))).cell b2 (fun e => e)
              have b24 := (fc.then (Fr.alloc None' wc (.cells #[.string pb] 9))).cell b2 (fun e => e)
              have b0' := F4.cell b0 nbx
              have b1' := F4.cell b1 nbx
              have b2' := F4.cell b2 nbx
              have d0' := F4.cell d0 ngx
              have d1' := F4.cell d1 ngx
              have d2' := F4.cell d2 ngx
              have hzb' : ∀ o, w'.frozen? ⟨bx, o, none⟩ = false := fun o => (frozen_kept' (F4.block bx (cell_lt b0) nbx)).trans (hzb o)
              have hzg' : ∀ o, w'.frozen? ⟨g, o, none⟩ = false := fun o => by
                obtain ⟨_, _, e, _, _, _, z⟩ := HR2.out.last
                rw [HL0.out.1] at e
                cases e
                exact (frozen_kept' (F4.block g (cell_lt d0) ngx)).trans ((frozen_kept' (HBX.out.2.2.block g (ownH_lt HR2.out.row (k := g) rfl).2 (fun e => e))).trans (z o))
              have HE : Hid (∀ w5, w5 = ((((w'.setCell ⟨bx, 2, none⟩ (.slice va2' (ln + 1) e2')).setCell ⟨g, l0 * 3, none⟩ (.int .i64 (t : Int))).setCell ⟨g, l0 * 3 + 1, none⟩ (.slice va1 lo e1)).setCell ⟨g, l0 * 3 + 2, none⟩ (.slice va2' (ln + 1) e2')) → RD w1.heap.size w5 (.slice (some ⟨g, 0, none⟩) (l0 + 1) cc) (L ++ [⟨h.at', h.o, h.n ++ [pb]⟩]) (V ++ [(.slice va1 lo e1, .slice va2' (ln + 1) e2')]) ∧ Fr None' w1 w5) := by
                rintro w5 rfl
                have ht1 := HL0.out.2.1
                subst ht1
                have oK := s2.fr fN (fun k e1 e2 => HR2.out.lastTwo e1 e2)
                have f5 : Fr (fun k => k = bx) w' (w'.setCell ⟨bx, 2, none⟩ (.slice va2' (ln + 1) e2')) := Fr.setCell (M := fun k => k = bx) w' (a := ⟨bx, 2, none⟩) rfl _
                have F5 : Fr (fun k => Own1 (.slice va2 ln e2) k ∨ wq.heap.size ≤ k) wq (w'.setCell ⟨bx, 2, none⟩ (.slice va2' (ln + 1) e2')) := ((HBX.out.2.2.any.then (F4.mono (fun _ e => Or.inl e)))).then (f5.mono (fun k e => Or.inr (by have := HBX.out.1; omega)))
                have nq1 : ∀ k, Own1 (.slice va2' (ln + 1) e2') k → k ≠ bx := fun k e e2 => by
                  rcases own_or hn e with e3 | e3
                  · exact nbx (e2 ▸ e3)
                  · have h1 : (wc.drew.alloc (.cells #[.string pb] 9)).heap.size = wc.heap.size + 1 := by simp
                    have := HBX.out.2.1
                    omega
                have nq2 : ∀ k, Own1 (.slice va1 lo e1) k → k ≠ bx := fun k e e2 => by have := (HR2.out.lastStr.1.lt e).2; have := HBX.out.1; omega
                have oN' : OwnV w1.heap.size (w'.setCell ⟨bx, 2, none⟩ (.slice va2' (ln + 1) e2')) 9 (.slice va2' (ln + 1) e2') ((h.n ++ [pb]).map .string) := by
                  have h1 := oN.fr f5 nq1
                  simpa using h1
                have oK' := oK.fr f5 nq2
                have R5 := HR2.out.put (h' := ⟨h.at', h.o, h.n ++ [pb]⟩) F5 (fun k e => e.imp (fun e => Or.inr e) id) oK' oN' (fun k e => e.elim (fun e => Or.inl (Or.inl e)) (fun e => (hown' k e).imp Or.inr id)) (fun k e1 e2 => (hown' k e2).elim (fun e => HR2.out.lastTwo e1 e) (fun e => by have := (HR2.out.lastStr.1.lt e1).2; omega)) (g := g) (c := cc) (by rw [HL0.out.1])
                rw [HL0.out.1] at R5
                refine ⟨R5, ?_⟩
                have gl := (ownH_lt HR2.out.row (k := g) rfl).1
                have f6 : Fr (fun k => k = g) (w'.setCell ⟨bx, 2, none⟩ (.slice va2' (ln + 1) e2')) ((((w'.setCell ⟨bx, 2, none⟩ (.slice va2' (ln + 1) e2')).setCell ⟨g, l0 * 3, none⟩ (.int .i64 (h.at' : Int))).setCell ⟨g, l0 * 3 + 1, none⟩ (.slice va1 lo e1)).setCell ⟨g, l0 * 3 + 2, none⟩ (.slice va2' (ln + 1) e2')) := ((Fr.setCell (M := fun k => k = g) _ (a := ⟨g, _, none⟩) rfl _).then (Fr.setCell (M := fun k => k = g) _ (a := ⟨g, _, none⟩) rfl _)).then (Fr.setCell (M := fun k => k = g) _ (a := ⟨g, _, none⟩) rfl _)
                exact (HF2.out.trans F5 (fun k e => e.elim (fun e => Or.inr (s1.lt e).1) (fun e => Or.inr (Nat.le_trans HF2.out.size e)))).trans f6 (fun k e => Or.inr (by have e' : k = g := e; omega))
              clear s1 s2 x0 oN fN hn own1 hown' F3 F4 nbx ngx fc hsc
              clear b0 b1 b2 d0 d1 d2 hzb cb HBX HR2 HO HL0 HF2 c1 c2 n3 n4 q6 q6n q5n
              go_wp2_with fail
              go_region_law (refine step_app rfl (.tmp 123) (.tmp 128) rfl (by first | rfl | simp [Act.eval, Act.put]) (by first | rfl | simp [Act.eval, Act.put]) hr ?_)
              all_goals go_wp2_with fail
              all_goals
                obtain ⟨R5, F5⟩ := HE.out _ rfl
                exact ⟨⟨i, k + 1, _, _, true, _, by omega, by omega, by go_num, by go_num, rfl, rfl, R5, HDS.out, F5⟩, by simp [intOf]; omega⟩
            | false => as_aux_lemma =>
              have HO0 : DO a b i k L ⟨k, [], []⟩ := HD.out.opens
              obtain ⟨gg, cg, w4, hr4, R4, f4⟩ := HR2.out.open k HF2.out.size (by have := HO0.len; omega)
              have F4 : Fr None' w1 w4 := HF2.out.trans f4 (fun k e => Or.inr (ownH_lt HR2.out.row e).1)
              obtain ⟨h, hh⟩ : ∃ h : Hk ByteArray, (⟨k, [], []⟩ : Hk ByteArray) = h := ⟨_, rfl⟩
              obtain ⟨p1, hp1⟩ : ∃ p, nil' = p := ⟨_, rfl⟩
              obtain ⟨v4, hv4⟩ : ∃ v, Value.slice (some ⟨gg, 0, none⟩) (L.length + 1) cg = v := ⟨_, rfl⟩
              have R5 : RD w1.heap.size w4 v4 (L ++ [h]) (V ++ [(p1, p1)]) := by rw [← hh, ← hp1, ← hv4]; exact R4
              obtain ⟨p2, hp2⟩ : ∃ p, p1 = p := ⟨_, rfl⟩
              have R6 : RD w1.heap.size w4 v4 (L ++ [h]) (V ++ [(p1, p2)]) := by rw [← hp2]; exact R5
              have HO : Hid (DO a b i k L h) := by rw [hh] at HO0; exact HO0
              rw [hv4] at hr4
              replace cb := f4.cell cb (fun e => by have h1 : w1.heap.size ≤ gb := (ownH_lt HR2.out.row e).1; have h2 := HLB.out; omega)
              obtain ⟨wq0, hwq0⟩ : ∃ x, wq = x := ⟨_, rfl⟩
              subst hwq0
              have hr5 : Hid ((Builtin.append_ #[28, 28] 28 #[v0, .slice (some ⟨wq.heap.size, 0, none⟩) 1 1]).run Try.prog (wq.alloc (.cells #[.int .i64 (k : Int), .slice none 0 0, .slice none 0 0] 24 (0, 0))) = .ok v4 w4) := hr4
              clear HR2 HF2 hr4 R4 R5 hh hp1 hp2 hv4 f4 HD HO0
              have HR2 : Hid (RD w1.heap.size w4 v4 (L ++ [h]) (V ++ [(p1, p2)])) := R6
              have HF2 : Hid (Fr None' w1 w4) := F4
              clear R6 F4
              have HDS : Hid (DS a b i (k + 1) (L ++ [⟨h.at', h.o, h.n ++ [pb]⟩]) true) := by have h1 := HO.out.comes hkb (Or.inr ⟨hia, hne, hle⟩); rw [HPB.out] at h1; exact h1
              obtain ⟨g, cc, rfl, d0, d1, d2, _⟩ := HR2.out.last
              obtain ⟨s1, s2⟩ := HR2.out.lastStr
              obtain ⟨va1, e1, hv1, _⟩ := s1.slice
              obtain ⟨va2, e2, hv2, _⟩ := s2.slice
              rw [List.length_map] at hv1 hv2
              subst hv1 hv2
              obtain ⟨l0, hl0⟩ : ∃ l, L.length = l := ⟨_, rfl⟩
              obtain ⟨t, ht⟩ : ∃ t, h.at' = t := ⟨_, rfl⟩
              obtain ⟨lo, hlo⟩ : ∃ l, h.o.length = l := ⟨_, rfl⟩
              obtain ⟨ln, hln⟩ : ∃ l, h.n.length = l := ⟨_, rfl⟩
              rw [hl0] at d0 d1 d2 HR2
              rw [ht] at d0
              rw [hlo] at d1
              rw [hln] at d2
              have bl : l0 + lo + ln ≤ 2000 := by have := HO.out.len; have := HO.out.lo; have := HO.out.ln; omega
              have b1 : (l0 : Int) ≤ 2000 := by omega
              rw [hlo, hln] at HR2
              have HL0 : Hid (L.length = l0 ∧ h.at' = t ∧ h.o.length = lo ∧ h.n.length = ln) := ⟨hl0, ht, hlo, hln⟩
              rw [hl0] at hr5
              clear s1 s2 hl0 ht hlo hln bl
              go_wp2_with (at_builtin
                           refine app_list rfl _ _ rfl rfl rfl hr5.out ?_
                           clear hr5)
              obtain ⟨wb, hwb⟩ : ∃ wb, w4.alloc (.cells #[.int .i64 (t : Int), .slice va1 lo e1, .slice va2 ln e2] 24) = wb := ⟨_, rfl⟩
              have fb : Fr None' w4 wb := hwb ▸ Fr.alloc None' w4 _
              have hsb : wb.heap.size = w4.heap.size + 1 := by rw [← hwb]; simp
              obtain ⟨b0, b1, b2⟩ := cell3 w4 24 (.int .i64 (t : Int)) (.slice va1 lo e1) (.slice va2 ln e2)
              have hzb : ∀ o, wb.frozen? ⟨w4.heap.size, o, none⟩ = false := fun o => by
                rw [← hwb]
                unfold World.frozen?
                rw [heap_alloc_new]
                simp
              rw [hwb] at b0 b1 b2 ⊢
              replace cb := fb.cell cb (fun e => e)
              replace d0 := fb.cell d0 (fun e => e)
              replace d1 := fb.cell d1 (fun e => e)
              replace d2 := fb.cell d2 (fun e => e)
              have hnb : g ≠ w4.heap.size := fun e => by have := (ownH_lt HR2.out.row (k := g) rfl).2; omega
              clear hwb
              obtain ⟨bx, hbx⟩ : ∃ x, w4.heap.size = x := ⟨_, rfl⟩
              rw [hbx] at b0 b1 b2 hzb hsb hnb ⊢
              have HBX : Hid (w4.heap.size = bx ∧ wb.heap.size = bx + 1 ∧ Fr None' w4 wb) := ⟨hbx, hsb, fb⟩
              clear hbx hsb fb
              have T := HT.out.fr (HF2.out.then HBX.out.2.2) (fun e => e) (fun _ _ e => e)
              have c1 := T.cell i (by omega)
              have c2 := T.cell (i + 1) (by omega)
              have n3 := T.get (i := i + 1) (k := k) (by omega) (by omega)
              have n4 := T.get (i := i) (k := k + 1) (by omega) (by omega)
              obtain ⟨X3, x3⟩ : ∃ X, lcs (a.drop (i + 1)) (b.drop k) = X := ⟨_, rfl⟩
              obtain ⟨X4, x4⟩ : ∃ X, lcs (a.drop i) (b.drop (k + 1)) = X := ⟨_, rfl⟩
              rw [x3] at n3
              rw [x4] at n4
              have q6n : decide (X4 ≤ X3) = false := by rw [← x3, ← x4]; simpa using hle
              have q6 : decide ((X4 : Int) ≤ (X3 : Int)) = false := by rw [← q6n]; congr 1; simp
              have q5 : decide ((m : Int) ≤ (k : Int)) = false := by simp; omega
              clear T x3 x4
              have q5n : decide (m ≤ k) = false := by simp; omega
              clear hle hne y1 y2
              go_wp2_with fail
              go_quiet (fail)
              obtain ⟨wc, hwc⟩ : ∃ wc, wb.drewN nq = wc := ⟨_, rfl⟩
              have fc : Fr None' wb wc := hwc ▸ Fr.drewN None' wb nq
              have hsc : wc.heap.size = wb.heap.size := by rw [← hwc]; rfl
              rw [hwc]
              clear hwc
              have F3 : Fr None' w4 (wc.drew.alloc (.cells #[.string pb] 9)) := (HBX.out.2.2.then fc).then ((fr_drew None' wc).then (Fr.alloc None' _ _))
              have s1 : OwnV w1.heap.size (wc.drew.alloc (.cells #[.string pb] 9)) 9 (.slice va2 ln e2) (h.n.map .string) := (HR2.out.lastStr.2).kept F3
              have s2 : OwnV w1.heap.size (wc.drew.alloc (.cells #[.string pb] 9)) 9 (.slice va1 lo e1) (h.o.map .string) := (HR2.out.lastStr.1).kept F3
              have x0 : RowV (wc.drew.alloc (.cells #[.string pb] 9)) (some ⟨wc.heap.size, 0, none⟩) [.string pb] := one_row wc.drew _ _
              obtain ⟨v', w', hr, oN, fN, hn⟩ := append_run oneS 22 s1 (va := some ⟨wc.heap.size, 0, none⟩) (c := 1) (k := 1) (m := [.string pb]) rfl x0 (fun e => by cases e) (fun u hu => by simp at hu; rw [hu]; rfl) (by rw [List.length_map, HL0.out.2.2.2]; simp; have := HO.out.lo; have := HO.out.ln; have := HL0.out; omega) (Nat.le_trans HF2.out.size F3.size)
              obtain ⟨va2', e2', hv', _⟩ := oN.slice
              rw [List.length_append, List.length_map, HL0.out.2.2.2] at hv'
              simp only [List.length_cons, List.length_nil, Nat.zero_add] at hv'
              subst hv'
              have own1 : ∀ k, Own1 (.slice va2 ln e2) k → k < w4.heap.size := fun k e => (HR2.out.lastStr.2.lt e).2
              have hown' : ∀ k, Own1 (.slice va2' (ln + 1) e2') k → Own1 (.slice va2 ln e2) k ∨ w4.heap.size ≤ k := fun k e => (own_or hn e).imp id (fun e => by have := F3.size; omega)
              have F4 : Fr (Own1 (.slice va2 ln e2)) wb w' := (fc.then ((fr_drew None' wc).then (Fr.alloc None' _ _))).any.then fN
              have nbx : ¬ Own1 (.slice va2 ln e2) bx := fun e => by have := own1 bx e; have := HBX.out.1; omega
              have ngx : ¬ Own1 (.slice va2 ln e2) g := fun e => HR2.out.lastAp (Or.inr e) (show Own1 (.slice (some ⟨g, 0, none⟩) (l0 + 1) cc) g from rfl)
              have cb2 : (wc.drew).cell? _ = some (.string pb) := (fc.then (fr_drew None' wc)).cell cb (fun e => e)
              have b22 := (fc.then (fr_drew None' wc)).cell b2 (fun e => e)
              have b23 := (fc.then ((fr_drew None' wc).then (Fr.alloc None' wc.drew (.cells #[.string pb] 9)))).cell b2 (fun e => e)
              have b24 := (fc.then (Fr.alloc None' wc (.cells #[.string pb] 9))).cell b2 (fun e => e)
              have b0' := F4.cell b0 nbx
              have b1' := F4.cell b1 nbx
              have b2' := F4.cell b2 nbx
              have d0' := F4.cell d0 ngx
              have d1' := F4.cell d1 ngx
              have d2' := F4.cell d2 ngx
              have hzb' : ∀ o, w'.frozen? ⟨bx, o, none⟩ = false := fun o => (frozen_kept' (F4.block bx (cell_lt b0) nbx)).trans (hzb o)
              have hzg' : ∀ o, w'.frozen? ⟨g, o, none⟩ = false := fun o => by
                obtain ⟨_, _, e, _, _, _, z⟩ := HR2.out.last
                rw [HL0.out.1] at e
                cases e
                exact (frozen_kept' (F4.block g (cell_lt d0) ngx)).trans ((frozen_kept' (HBX.out.2.2.block g (ownH_lt HR2.out.row (k := g) rfl).2 (fun e => e))).trans (z o))
              have HE : Hid (∀ w5, w5 = ((((w'.setCell ⟨bx, 2, none⟩ (.slice va2' (ln + 1) e2')).setCell ⟨g, l0 * 3, none⟩ (.int .i64 (t : Int))).setCell ⟨g, l0 * 3 + 1, none⟩ (.slice va1 lo e1)).setCell ⟨g, l0 * 3 + 2, none⟩ (.slice va2' (ln + 1) e2')) → RD w1.heap.size w5 (.slice (some ⟨g, 0, none⟩) (l0 + 1) cc) (L ++ [⟨h.at', h.o, h.n ++ [pb]⟩]) (V ++ [(.slice va1 lo e1, .slice va2' (ln + 1) e2')]) ∧ Fr None' w1 w5) := by
                rintro w5 rfl
                have ht1 := HL0.out.2.1
                subst ht1
                have oK := s2.fr fN (fun k e1 e2 => HR2.out.lastTwo e1 e2)
                have f5 : Fr (fun k => k = bx) w' (w'.setCell ⟨bx, 2, none⟩ (.slice va2' (ln + 1) e2')) := Fr.setCell (M := fun k => k = bx) w' (a := ⟨bx, 2, none⟩) rfl _
                have F5 : Fr (fun k => Own1 (.slice va2 ln e2) k ∨ w4.heap.size ≤ k) w4 (w'.setCell ⟨bx, 2, none⟩ (.slice va2' (ln + 1) e2')) := ((HBX.out.2.2.any.then (F4.mono (fun _ e => Or.inl e)))).then (f5.mono (fun k e => Or.inr (by have := HBX.out.1; omega)))
                have nq1 : ∀ k, Own1 (.slice va2' (ln + 1) e2') k → k ≠ bx := fun k e e2 => by
                  rcases own_or hn e with e3 | e3
                  · exact nbx (e2 ▸ e3)
                  · have h1 : (wc.drew.alloc (.cells #[.string pb] 9)).heap.size = wc.heap.size + 1 := by simp
                    have := HBX.out.2.1
                    omega
                have nq2 : ∀ k, Own1 (.slice va1 lo e1) k → k ≠ bx := fun k e e2 => by have := (HR2.out.lastStr.1.lt e).2; have := HBX.out.1; omega
                have oN' : OwnV w1.heap.size (w'.setCell ⟨bx, 2, none⟩ (.slice va2' (ln + 1) e2')) 9 (.slice va2' (ln + 1) e2') ((h.n ++ [pb]).map .string) := by
                  have h1 := oN.fr f5 nq1
                  simpa using h1
                have oK' := oK.fr f5 nq2
                have R5 := HR2.out.put (h' := ⟨h.at', h.o, h.n ++ [pb]⟩) F5 (fun k e => e.imp (fun e => Or.inr e) id) oK' oN' (fun k e => e.elim (fun e => Or.inl (Or.inl e)) (fun e => (hown' k e).imp Or.inr id)) (fun k e1 e2 => (hown' k e2).elim (fun e => HR2.out.lastTwo e1 e) (fun e => by have := (HR2.out.lastStr.1.lt e1).2; omega)) (g := g) (c := cc) (by rw [HL0.out.1])
                rw [HL0.out.1] at R5
                refine ⟨R5, ?_⟩
                have gl := (ownH_lt HR2.out.row (k := g) rfl).1
                have f6 : Fr (fun k => k = g) (w'.setCell ⟨bx, 2, none⟩ (.slice va2' (ln + 1) e2')) ((((w'.setCell ⟨bx, 2, none⟩ (.slice va2' (ln + 1) e2')).setCell ⟨g, l0 * 3, none⟩ (.int .i64 (h.at' : Int))).setCell ⟨g, l0 * 3 + 1, none⟩ (.slice va1 lo e1)).setCell ⟨g, l0 * 3 + 2, none⟩ (.slice va2' (ln + 1) e2')) := ((Fr.setCell (M := fun k => k = g) _ (a := ⟨g, _, none⟩) rfl _).then (Fr.setCell (M := fun k => k = g) _ (a := ⟨g, _, none⟩) rfl _)).then (Fr.setCell (M := fun k => k = g) _ (a := ⟨g, _, none⟩) rfl _)
                exact (HF2.out.trans F5 (fun k e => e.elim (fun e => Or.inr (s1.lt e).1) (fun e => Or.inr (Nat.le_trans HF2.out.size e)))).trans f6 (fun k e => Or.inr (by have e' : k = g := e; omega))
              clear s1 s2 x0 oN fN hn own1 hown' F3 F4 nbx ngx fc hsc
              clear b0 b1 b2 d0 d1 d2 hzb cb HBX HR2 HO HL0 HF2 c1 c2 n3 n4 q6 q6n q5n
              go_wp2_with fail
              go_region_law (refine step_app rfl (.tmp 123) (.tmp 128) rfl (by first | rfl | simp [Act.eval, Act.put]) (by first | rfl | simp [Act.eval, Act.put]) hr ?_)
              all_goals go_wp2_with fail
              all_goals
                obtain ⟨R5, F5⟩ := HE.out _ rfl
                exact ⟨⟨i, k + 1, _, _, true, _, by omega, by omega, by go_num, by go_num, rfl, rfl, R5, HDS.out, F5⟩, by simp [intOf]; omega⟩
      · have q4 : decide ((k : Int) < (m : Int)) = false := by simp; omega
        have q5 : decide ((m : Int) ≤ (k : Int)) = true := by simp; omega
        have hia : i < a.length := by rw [HA.out.len]; omega
        obtain ⟨ga, oa, rfl, ca⟩ := (HA.out.row.fr (HF1.out.then HF.out)).get hia
        obtain ⟨pa, hpa⟩ : ∃ p, a[i] = p := ⟨_, rfl⟩
        rw [hpa] at ca
        have HPA : Hid (a[i] = pa) := hpa
        clear hpa
        have j3 : (i : Int) < (n : Int) := by omega
        have q3 : decide ((i : Int) < (n : Int)) = true := by simp; omega
        have HLA : Hid (ga < w1.heap.size) := Nat.lt_of_lt_of_le (HA.out.lt _ rfl) HF1.out.size
        go_wp2_with fail
        go_quiet (fail)
        obtain ⟨wq, hwq⟩ : ∃ wq, wr.drewN nq = wq := ⟨_, rfl⟩
        have fq : Fr None' wr wq := hwq ▸ Fr.drewN None' wr nq
        rw [hwq]
        replace ca := fq.cell ca (fun e => e)
        have HR2 : Hid (RD w1.heap.size wq v0 L V) := HR.out.kept fq
        have HF2 : Hid (Fr None' w1 wq) := HF.out.then fq
        clear fq hwq HR HF
        cases op with
        | true => as_aux_lemma =>
          obtain ⟨L, h, rfl, DO1, _⟩ := HD.out
          have HO : Hid (DO a b i k L h) := DO1
          obtain ⟨V, p, rfl⟩ : ∃ V0 p, V = V0 ++ [p] := ⟨V.dropLast, V.getLast (fun e => by have := HR2.out.len; rw [e] at this; simp at this), (List.dropLast_concat_getLast _).symm⟩
          obtain ⟨p1, p2⟩ := p
          clear DO1 HD
          have HDS : Hid (DS a b (i + 1) k (L ++ [⟨h.at', h.o ++ [pa], h.n⟩]) true) := by have h1 := HO.out.goes hia (Or.inl (by rw [HB.out.len]; omega)); rw [HPA.out] at h1; exact h1
          obtain ⟨g, cc, rfl, d0, d1, d2, _⟩ := HR2.out.last
          obtain ⟨s1, s2⟩ := HR2.out.lastStr
          obtain ⟨va1, e1, hv1, _⟩ := s1.slice
          obtain ⟨va2, e2, hv2, _⟩ := s2.slice
          rw [List.length_map] at hv1 hv2
          subst hv1 hv2
          obtain ⟨l0, hl0⟩ : ∃ l, L.length = l := ⟨_, rfl⟩
          obtain ⟨t, ht⟩ : ∃ t, h.at' = t := ⟨_, rfl⟩
          obtain ⟨lo, hlo⟩ : ∃ l, h.o.length = l := ⟨_, rfl⟩
          obtain ⟨ln, hln⟩ : ∃ l, h.n.length = l := ⟨_, rfl⟩
          rw [hl0] at d0 d1 d2 HR2
          rw [ht] at d0
          rw [hlo] at d1
          rw [hln] at d2
          have bl : l0 + lo + ln ≤ 2000 := by have := HO.out.len; have := HO.out.lo; have := HO.out.ln; omega
          have b1 : (l0 : Int) ≤ 2000 := by omega
          rw [hlo, hln] at HR2
          have HL0 : Hid (L.length = l0 ∧ h.at' = t ∧ h.o.length = lo ∧ h.n.length = ln) := ⟨hl0, ht, hlo, hln⟩
          rw [hl0]
          clear s1 s2 hl0 ht hlo hln bl
          go_wp2_with fail
          obtain ⟨wb, hwb⟩ : ∃ wb, wq.alloc (.cells #[.int .i64 (t : Int), .slice va1 lo e1, .slice va2 ln e2] 24) = wb := ⟨_, rfl⟩
          have fb : Fr None' wq wb := hwb ▸ Fr.alloc None' wq _
          have hsb : wb.heap.size = wq.heap.size + 1 := by rw [← hwb]; simp
          obtain ⟨b0, b1, b2⟩ := cell3 wq 24 (.int .i64 (t : Int)) (.slice va1 lo e1) (.slice va2 ln e2)
          have hzb : ∀ o, wb.frozen? ⟨wq.heap.size, o, none⟩ = false := fun o => by
            rw [← hwb]
            unfold World.frozen?
            rw [heap_alloc_new]
            simp
          rw [hwb] at b0 b1 b2 ⊢
          replace ca := fb.cell ca (fun e => e)
          replace d0 := fb.cell d0 (fun e => e)
          replace d1 := fb.cell d1 (fun e => e)
          replace d2 := fb.cell d2 (fun e => e)
          have hnb : g ≠ wq.heap.size := fun e => by have := (ownH_lt HR2.out.row (k := g) rfl).2; omega
          clear hwb
          obtain ⟨bx, hbx⟩ : ∃ x, wq.heap.size = x := ⟨_, rfl⟩
          rw [hbx] at b0 b1 b2 hzb hsb hnb ⊢
          have HBX : Hid (wq.heap.size = bx ∧ wb.heap.size = bx + 1 ∧ Fr None' wq wb) := ⟨hbx, hsb, fb⟩
          clear hbx hsb fb
          go_wp2_with fail
          go_quiet (fail)
          obtain ⟨wc, hwc⟩ : ∃ wc, wb.drewN nq = wc := ⟨_, rfl⟩
          have fc : Fr None' wb wc := hwc ▸ Fr.drewN None' wb nq
          have hsc : wc.heap.size = wb.heap.size := by rw [← hwc]; rfl
          rw [hwc]
          clear hwc
          have F3 : Fr None' wq (wc.drew.alloc (.cells #[.string pa] 9)) := (HBX.out.2.2.then fc).then ((fr_drew None' wc).then (Fr.alloc None' _ _))
          have s1 : OwnV w1.heap.size (wc.drew.alloc (.cells #[.string pa] 9)) 9 (.slice va1 lo e1) (h.o.map .string) := (HR2.out.lastStr.1).kept F3
          have s2 : OwnV w1.heap.size (wc.drew.alloc (.cells #[.string pa] 9)) 9 (.slice va2 ln e2) (h.n.map .string) := (HR2.out.lastStr.2).kept F3
          have x0 : RowV (wc.drew.alloc (.cells #[.string pa] 9)) (some ⟨wc.heap.size, 0, none⟩) [.string pa] := one_row wc.drew _ _
          obtain ⟨v', w', hr, oN, fN, hn⟩ := append_run oneS 22 s1 (va := some ⟨wc.heap.size, 0, none⟩) (c := 1) (k := 1) (m := [.string pa]) rfl x0 (fun e => by cases e) (fun u hu => by simp at hu; rw [hu]; rfl) (by rw [List.length_map, HL0.out.2.2.1]; simp; have := HO.out.lo; have := HO.out.ln; have := HL0.out; omega) (Nat.le_trans HF2.out.size F3.size)
          obtain ⟨va1', e1', hv', _⟩ := oN.slice
          rw [List.length_append, List.length_map, HL0.out.2.2.1] at hv'
          simp only [List.length_cons, List.length_nil, Nat.zero_add] at hv'
          subst hv'
          have own1 : ∀ k, Own1 (.slice va1 lo e1) k → k < wq.heap.size := fun k e => (HR2.out.lastStr.1.lt e).2
          have hown' : ∀ k, Own1 (.slice va1' (lo + 1) e1') k → Own1 (.slice va1 lo e1) k ∨ wq.heap.size ≤ k := fun k e => (own_or hn e).imp id (fun e => by have := F3.size; omega)
          have F4 : Fr (Own1 (.slice va1 lo e1)) wb w' := (fc.then ((fr_drew None' wc).then (Fr.alloc None' _ _))).any.then fN
          have nbx : ¬ Own1 (.slice va1 lo e1) bx := fun e => by have := own1 bx e; have := HBX.out.1; omega
          have ngx : ¬ Own1 (.slice va1 lo e1) g := fun e => HR2.out.lastAp (Or.inl e) (show Own1 (.slice (some ⟨g, 0, none⟩) (l0 + 1) cc) g from rfl)
          have ca2 : (wc.drew).cell? _ = some (.string pa) := (fc.then (fr_drew None' wc)).cell ca (fun e => e)
          have b12 := (fc.then (fr_drew None' wc)).cell b1 (fun e => e)
          have b13 := (fc.then ((fr_drew None' wc).then (Fr.alloc None' wc.drew (.cells #[.string pa] 9)))).cell b1 (fun e => e)
          have b14 := (fc.then (Fr.alloc None' wc (.cells #[.string pa] 9))).cell b1 (fun e => e)
          have b0' := F4.cell b0 nbx
          have b1' := F4.cell b1 nbx
          have b2' := F4.cell b2 nbx
          have d0' := F4.cell d0 ngx
          have d1' := F4.cell d1 ngx
          have d2' := F4.cell d2 ngx
          have hzb' : ∀ o, w'.frozen? ⟨bx, o, none⟩ = false := fun o => (frozen_kept' (F4.block bx (cell_lt b0) nbx)).trans (hzb o)
          have hzg' : ∀ o, w'.frozen? ⟨g, o, none⟩ = false := fun o => by
            obtain ⟨_, _, e, _, _, _, z⟩ := HR2.out.last
            rw [HL0.out.1] at e
            cases e
            exact (frozen_kept' (F4.block g (cell_lt d0) ngx)).trans ((frozen_kept' (HBX.out.2.2.block g (ownH_lt HR2.out.row (k := g) rfl).2 (fun e => e))).trans (z o))
          have HE : Hid (∀ w5, w5 = ((((w'.setCell ⟨bx, 1, none⟩ (.slice va1' (lo + 1) e1')).setCell ⟨g, l0 * 3, none⟩ (.int .i64 (t : Int))).setCell ⟨g, l0 * 3 + 1, none⟩ (.slice va1' (lo + 1) e1')).setCell ⟨g, l0 * 3 + 2, none⟩ (.slice va2 ln e2)) → RD w1.heap.size w5 (.slice (some ⟨g, 0, none⟩) (l0 + 1) cc) (L ++ [⟨h.at', h.o ++ [pa], h.n⟩]) (V ++ [(.slice va1' (lo + 1) e1', .slice va2 ln e2)]) ∧ Fr None' w1 w5) := by
            rintro w5 rfl
            have ht1 := HL0.out.2.1
            subst ht1
            have oK := s2.fr fN (fun k e1 e2 => HR2.out.lastTwo e2 e1)
            have f5 : Fr (fun k => k = bx) w' (w'.setCell ⟨bx, 1, none⟩ (.slice va1' (lo + 1) e1')) := Fr.setCell (M := fun k => k = bx) w' (a := ⟨bx, 1, none⟩) rfl _
            have F5 : Fr (fun k => Own1 (.slice va1 lo e1) k ∨ wq.heap.size ≤ k) wq (w'.setCell ⟨bx, 1, none⟩ (.slice va1' (lo + 1) e1')) := ((HBX.out.2.2.any.then (F4.mono (fun _ e => Or.inl e)))).then (f5.mono (fun k e => Or.inr (by have := HBX.out.1; omega)))
            have nq1 : ∀ k, Own1 (.slice va1' (lo + 1) e1') k → k ≠ bx := fun k e e2 => by
              rcases own_or hn e with e3 | e3
              · exact nbx (e2 ▸ e3)
              · have h1 : (wc.drew.alloc (.cells #[.string pa] 9)).heap.size = wc.heap.size + 1 := by simp
                have := HBX.out.2.1
                omega
            have nq2 : ∀ k, Own1 (.slice va2 ln e2) k → k ≠ bx := fun k e e2 => by have := (HR2.out.lastStr.2.lt e).2; have := HBX.out.1; omega
            have oN' : OwnV w1.heap.size (w'.setCell ⟨bx, 1, none⟩ (.slice va1' (lo + 1) e1')) 9 (.slice va1' (lo + 1) e1') ((h.o ++ [pa]).map .string) := by
              have h1 := oN.fr f5 nq1
              simpa using h1
            have oK' := oK.fr f5 nq2
            have R5 := HR2.out.put (h' := ⟨h.at', h.o ++ [pa], h.n⟩) F5 (fun k e => e.imp (fun e => Or.inl e) id) oN' oK' (fun k e => e.elim (fun e => (hown' k e).imp Or.inl id) (fun e => Or.inl (Or.inr e))) (fun k e1 e2 => (hown' k e1).elim (fun e => HR2.out.lastTwo e e2) (fun e => by have := (HR2.out.lastStr.2.lt e2).2; omega)) (g := g) (c := cc) (by rw [HL0.out.1])
            rw [HL0.out.1] at R5
            refine ⟨R5, ?_⟩
            have gl := (ownH_lt HR2.out.row (k := g) rfl).1
            have f6 : Fr (fun k => k = g) (w'.setCell ⟨bx, 1, none⟩ (.slice va1' (lo + 1) e1')) ((((w'.setCell ⟨bx, 1, none⟩ (.slice va1' (lo + 1) e1')).setCell ⟨g, l0 * 3, none⟩ (.int .i64 (h.at' : Int))).setCell ⟨g, l0 * 3 + 1, none⟩ (.slice va1' (lo + 1) e1')).setCell ⟨g, l0 * 3 + 2, none⟩ (.slice va2 ln e2)) := ((Fr.setCell (M := fun k => k = g) _ (a := ⟨g, _, none⟩) rfl _).then (Fr.setCell (M := fun k => k = g) _ (a := ⟨g, _, none⟩) rfl _)).then (Fr.setCell (M := fun k => k = g) _ (a := ⟨g, _, none⟩) rfl _)
            exact (HF2.out.trans F5 (fun k e => e.elim (fun e => Or.inr (s1.lt e).1) (fun e => Or.inr (Nat.le_trans HF2.out.size e)))).trans f6 (fun k e => Or.inr (by have e' : k = g := e; omega))
          clear s1 s2 x0 oN fN hn own1 hown' F3 F4 nbx ngx fc hsc
          clear b0 b1 b2 d0 d1 d2 hzb ca HBX HR2 HO HL0 HF2
          go_wp2_with fail
          go_region_law (refine step_app rfl (.tmp 112) (.tmp 117) rfl (by first | rfl | simp [Act.eval, Act.put]) (by first | rfl | simp [Act.eval, Act.put]) hr ?_)
          all_goals go_wp2_with fail
          all_goals
            obtain ⟨R5, F5⟩ := HE.out _ rfl
            exact ⟨⟨i + 1, k, _, _, true, _, by omega, by omega, by go_num, by go_num, rfl, rfl, R5, HDS.out, F5⟩, by simp [intOf]; omega⟩
        | false => as_aux_lemma =>
          have HO0 : DO a b i k L ⟨k, [], []⟩ := HD.out.opens
          obtain ⟨gg, cg, w4, hr4, R4, f4⟩ := HR2.out.open k HF2.out.size (by have := HO0.len; omega)
          have F4 : Fr None' w1 w4 := HF2.out.trans f4 (fun k e => Or.inr (ownH_lt HR2.out.row e).1)
          obtain ⟨h, hh⟩ : ∃ h : Hk ByteArray, (⟨k, [], []⟩ : Hk ByteArray) = h := ⟨_, rfl⟩
          obtain ⟨p1, hp1⟩ : ∃ p, nil' = p := ⟨_, rfl⟩
          obtain ⟨v4, hv4⟩ : ∃ v, Value.slice (some ⟨gg, 0, none⟩) (L.length + 1) cg = v := ⟨_, rfl⟩
          have R5 : RD w1.heap.size w4 v4 (L ++ [h]) (V ++ [(p1, p1)]) := by rw [← hh, ← hp1, ← hv4]; exact R4
          obtain ⟨p2, hp2⟩ : ∃ p, p1 = p := ⟨_, rfl⟩
          have R6 : RD w1.heap.size w4 v4 (L ++ [h]) (V ++ [(p1, p2)]) := by rw [← hp2]; exact R5
          have HO : Hid (DO a b i k L h) := by rw [hh] at HO0; exact HO0
          rw [hv4] at hr4
          replace ca := f4.cell ca (fun e => by have h1 : w1.heap.size ≤ ga := (ownH_lt HR2.out.row e).1; have h2 := HLA.out; omega)
          obtain ⟨wq0, hwq0⟩ : ∃ x, wq = x := ⟨_, rfl⟩
          subst hwq0
          have hr5 : Hid ((Builtin.append_ #[28, 28] 28 #[v0, .slice (some ⟨wq.heap.size, 0, none⟩) 1 1]).run Try.prog (wq.alloc (.cells #[.int .i64 (k : Int), .slice none 0 0, .slice none 0 0] 24 (0, 0))) = .ok v4 w4) := hr4
          clear HR2 HF2 hr4 R4 R5 hh hp1 hp2 hv4 f4 HD HO0
          have HR2 : Hid (RD w1.heap.size w4 v4 (L ++ [h]) (V ++ [(p1, p2)])) := R6
          have HF2 : Hid (Fr None' w1 w4) := F4
          clear R6 F4
          have HDS : Hid (DS a b (i + 1) k (L ++ [⟨h.at', h.o ++ [pa], h.n⟩]) true) := by have h1 := HO.out.goes hia (Or.inl (by rw [HB.out.len]; omega)); rw [HPA.out] at h1; exact h1
          obtain ⟨g, cc, rfl, d0, d1, d2, _⟩ := HR2.out.last
          obtain ⟨s1, s2⟩ := HR2.out.lastStr
          obtain ⟨va1, e1, hv1, _⟩ := s1.slice
          obtain ⟨va2, e2, hv2, _⟩ := s2.slice
          rw [List.length_map] at hv1 hv2
          subst hv1 hv2
          obtain ⟨l0, hl0⟩ : ∃ l, L.length = l := ⟨_, rfl⟩
          obtain ⟨t, ht⟩ : ∃ t, h.at' = t := ⟨_, rfl⟩
          obtain ⟨lo, hlo⟩ : ∃ l, h.o.length = l := ⟨_, rfl⟩
          obtain ⟨ln, hln⟩ : ∃ l, h.n.length = l := ⟨_, rfl⟩
          rw [hl0] at d0 d1 d2 HR2
          rw [ht] at d0
          rw [hlo] at d1
          rw [hln] at d2
          have bl : l0 + lo + ln ≤ 2000 := by have := HO.out.len; have := HO.out.lo; have := HO.out.ln; omega
          have b1 : (l0 : Int) ≤ 2000 := by omega
          rw [hlo, hln] at HR2
          have HL0 : Hid (L.length = l0 ∧ h.at' = t ∧ h.o.length = lo ∧ h.n.length = ln) := ⟨hl0, ht, hlo, hln⟩
          rw [hl0] at hr5
          clear s1 s2 hl0 ht hlo hln bl
          go_wp2_with (at_builtin
                       refine app_list rfl _ _ rfl rfl rfl hr5.out ?_
                       clear hr5)
          obtain ⟨wb, hwb⟩ : ∃ wb, w4.alloc (.cells #[.int .i64 (t : Int), .slice va1 lo e1, .slice va2 ln e2] 24) = wb := ⟨_, rfl⟩
          have fb : Fr None' w4 wb := hwb ▸ Fr.alloc None' w4 _
          have hsb : wb.heap.size = w4.heap.size + 1 := by rw [← hwb]; simp
          obtain ⟨b0, b1, b2⟩ := cell3 w4 24 (.int .i64 (t : Int)) (.slice va1 lo e1) (.slice va2 ln e2)
          have hzb : ∀ o, wb.frozen? ⟨w4.heap.size, o, none⟩ = false := fun o => by
            rw [← hwb]
            unfold World.frozen?
            rw [heap_alloc_new]
            simp
          rw [hwb] at b0 b1 b2 ⊢
          replace ca := fb.cell ca (fun e => e)
          replace d0 := fb.cell d0 (fun e => e)
          replace d1 := fb.cell d1 (fun e => e)
          replace d2 := fb.cell d2 (fun e => e)
          have hnb : g ≠ w4.heap.size := fun e => by have := (ownH_lt HR2.out.row (k := g) rfl).2; omega
          clear hwb
          obtain ⟨bx, hbx⟩ : ∃ x, w4.heap.size = x := ⟨_, rfl⟩
          rw [hbx] at b0 b1 b2 hzb hsb hnb ⊢
          have HBX : Hid (w4.heap.size = bx ∧ wb.heap.size = bx + 1 ∧ Fr None' w4 wb) := ⟨hbx, hsb, fb⟩
          clear hbx hsb fb
          go_wp2_with fail
          go_quiet (fail)
          obtain ⟨wc, hwc⟩ : ∃ wc, wb.drewN nq = wc := ⟨_, rfl⟩
          have fc : Fr None' wb wc := hwc ▸ Fr.drewN None' wb nq
          have hsc : wc.heap.size = wb.heap.size := by rw [← hwc]; rfl
          rw [hwc]
          clear hwc
          have F3 : Fr None' w4 (wc.drew.alloc (.cells #[.string pa] 9)) := (HBX.out.2.2.then fc).then ((fr_drew None' wc).then (Fr.alloc None' _ _))
          have s1 : OwnV w1.heap.size (wc.drew.alloc (.cells #[.string pa] 9)) 9 (.slice va1 lo e1) (h.o.map .string) := (HR2.out.lastStr.1).kept F3
          have s2 : OwnV w1.heap.size (wc.drew.alloc (.cells #[.string pa] 9)) 9 (.slice va2 ln e2) (h.n.map .string) := (HR2.out.lastStr.2).kept F3
          have x0 : RowV (wc.drew.alloc (.cells #[.string pa] 9)) (some ⟨wc.heap.size, 0, none⟩) [.string pa] := one_row wc.drew _ _
          obtain ⟨v', w', hr, oN, fN, hn⟩ := append_run oneS 22 s1 (va := some ⟨wc.heap.size, 0, none⟩) (c := 1) (k := 1) (m := [.string pa]) rfl x0 (fun e => by cases e) (fun u hu => by simp at hu; rw [hu]; rfl) (by rw [List.length_map, HL0.out.2.2.1]; simp; have := HO.out.lo; have := HO.out.ln; have := HL0.out; omega) (Nat.le_trans HF2.out.size F3.size)
          obtain ⟨va1', e1', hv', _⟩ := oN.slice
          rw [List.length_append, List.length_map, HL0.out.2.2.1] at hv'
          simp only [List.length_cons, List.length_nil, Nat.zero_add] at hv'
          subst hv'
          have own1 : ∀ k, Own1 (.slice va1 lo e1) k → k < w4.heap.size := fun k e => (HR2.out.lastStr.1.lt e).2
          have hown' : ∀ k, Own1 (.slice va1' (lo + 1) e1') k → Own1 (.slice va1 lo e1) k ∨ w4.heap.size ≤ k := fun k e => (own_or hn e).imp id (fun e => by have := F3.size; omega)
          have F4 : Fr (Own1 (.slice va1 lo e1)) wb w' := (fc.then ((fr_drew None' wc).then (Fr.alloc None' _ _))).any.then fN
          have nbx : ¬ Own1 (.slice va1 lo e1) bx := fun e => by have := own1 bx e; have := HBX.out.1; omega
          have ngx : ¬ Own1 (.slice va1 lo e1) g := fun e => HR2.out.lastAp (Or.inl e) (show Own1 (.slice (some ⟨g, 0, none⟩) (l0 + 1) cc) g from rfl)
          have ca2 : (wc.drew).cell? _ = some (.string pa) := (fc.then (fr_drew None' wc)).cell ca (fun e => e)
          have b12 := (fc.then (fr_drew None' wc)).cell b1 (fun e => e)
          have b13 := (fc.then ((fr_drew None' wc).then (Fr.alloc None' wc.drew (.cells #[.string pa] 9)))).cell b1 (fun e => e)
          have b14 := (fc.then (Fr.alloc None' wc (.cells #[.string pa] 9))).cell b1 (fun e => e)
          have b0' := F4.cell b0 nbx
          have b1' := F4.cell b1 nbx
          have b2' := F4.cell b2 nbx
          have d0' := F4.cell d0 ngx
          have d1' := F4.cell d1 ngx
          have d2' := F4.cell d2 ngx
          have hzb' : ∀ o, w'.frozen? ⟨bx, o, none⟩ = false := fun o => (frozen_kept' (F4.block bx (cell_lt b0) nbx)).trans (hzb o)
          have hzg' : ∀ o, w'.frozen? ⟨g, o, none⟩ = false := fun o => by
            obtain ⟨_, _, e, _, _, _, z⟩ := HR2.out.last
            rw [HL0.out.1] at e
            cases e
            exact (frozen_kept' (F4.block g (cell_lt d0) ngx)).trans ((frozen_kept' (HBX.out.2.2.block g (ownH_lt HR2.out.row (k := g) rfl).2 (fun e => e))).trans (z o))
          have HE : Hid (∀ w5, w5 = ((((w'.setCell ⟨bx, 1, none⟩ (.slice va1' (lo + 1) e1')).setCell ⟨g, l0 * 3, none⟩ (.int .i64 (t : Int))).setCell ⟨g, l0 * 3 + 1, none⟩ (.slice va1' (lo + 1) e1')).setCell ⟨g, l0 * 3 + 2, none⟩ (.slice va2 ln e2)) → RD w1.heap.size w5 (.slice (some ⟨g, 0, none⟩) (l0 + 1) cc) (L ++ [⟨h.at', h.o ++ [pa], h.n⟩]) (V ++ [(.slice va1' (lo + 1) e1', .slice va2 ln e2)]) ∧ Fr None' w1 w5) := by
            rintro w5 rfl
            have ht1 := HL0.out.2.1
            subst ht1
            have oK := s2.fr fN (fun k e1 e2 => HR2.out.lastTwo e2 e1)
            have f5 : Fr (fun k => k = bx) w' (w'.setCell ⟨bx, 1, none⟩ (.slice va1' (lo + 1) e1')) := Fr.setCell (M := fun k => k = bx) w' (a := ⟨bx, 1, none⟩) rfl _
            have F5 : Fr (fun k => Own1 (.slice va1 lo e1) k ∨ w4.heap.size ≤ k) w4 (w'.setCell ⟨bx, 1, none⟩ (.slice va1' (lo + 1) e1')) := ((HBX.out.2.2.any.then (F4.mono (fun _ e => Or.inl e)))).then (f5.mono (fun k e => Or.inr (by have := HBX.out.1; omega)))
            have nq1 : ∀ k, Own1 (.slice va1' (lo + 1) e1') k → k ≠ bx := fun k e e2 => by
              rcases own_or hn e with e3 | e3
              · exact nbx (e2 ▸ e3)
              · have h1 : (wc.drew.alloc (.cells #[.string pa] 9)).heap.size = wc.heap.size + 1 := by simp
                have := HBX.out.2.1
                omega
            have nq2 : ∀ k, Own1 (.slice va2 ln e2) k → k ≠ bx := fun k e e2 => by have := (HR2.out.lastStr.2.lt e).2; have := HBX.out.1; omega
            have oN' : OwnV w1.heap.size (w'.setCell ⟨bx, 1, none⟩ (.slice va1' (lo + 1) e1')) 9 (.slice va1' (lo + 1) e1') ((h.o ++ [pa]).map .string) := by
              have h1 := oN.fr f5 nq1
              simpa using h1
            have oK' := oK.fr f5 nq2
            have R5 := HR2.out.put (h' := ⟨h.at', h.o ++ [pa], h.n⟩) F5 (fun k e => e.imp (fun e => Or.inl e) id) oN' oK' (fun k e => e.elim (fun e => (hown' k e).imp Or.inl id) (fun e => Or.inl (Or.inr e))) (fun k e1 e2 => (hown' k e1).elim (fun e => HR2.out.lastTwo e e2) (fun e => by have := (HR2.out.lastStr.2.lt e2).2; omega)) (g := g) (c := cc) (by rw [HL0.out.1])
            rw [HL0.out.1] at R5
            refine ⟨R5, ?_⟩
            have gl := (ownH_lt HR2.out.row (k := g) rfl).1
            have f6 : Fr (fun k => k = g) (w'.setCell ⟨bx, 1, none⟩ (.slice va1' (lo + 1) e1')) ((((w'.setCell ⟨bx, 1, none⟩ (.slice va1' (lo + 1) e1')).setCell ⟨g, l0 * 3, none⟩ (.int .i64 (h.at' : Int))).setCell ⟨g, l0 * 3 + 1, none⟩ (.slice va1' (lo + 1) e1')).setCell ⟨g, l0 * 3 + 2, none⟩ (.slice va2 ln e2)) := ((Fr.setCell (M := fun k => k = g) _ (a := ⟨g, _, none⟩) rfl _).then (Fr.setCell (M := fun k => k = g) _ (a := ⟨g, _, none⟩) rfl _)).then (Fr.setCell (M := fun k => k = g) _ (a := ⟨g, _, none⟩) rfl _)
            exact (HF2.out.trans F5 (fun k e => e.elim (fun e => Or.inr (s1.lt e).1) (fun e => Or.inr (Nat.le_trans HF2.out.size e)))).trans f6 (fun k e => Or.inr (by have e' : k = g := e; omega))
          clear s1 s2 x0 oN fN hn own1 hown' F3 F4 nbx ngx fc hsc
          clear b0 b1 b2 d0 d1 d2 hzb ca HBX HR2 HO HL0 HF2
          go_wp2_with fail
          go_region_law (refine step_app rfl (.tmp 112) (.tmp 117) rfl (by first | rfl | simp [Act.eval, Act.put]) (by first | rfl | simp [Act.eval, Act.put]) hr ?_)
          all_goals go_wp2_with fail
          all_goals
            obtain ⟨R5, F5⟩ := HE.out _ rfl
            exact ⟨⟨i + 1, k, _, _, true, _, by omega, by omega, by go_num, by go_num, rfl, rfl, R5, HDS.out, F5⟩, by simp [intOf]; omega⟩
    · have q3 : decide ((i : Int) < (n : Int)) = false := by simp; omega
      by_cases hkm : k < m
      · have q5 : decide ((m : Int) ≤ (k : Int)) = false := by simp; omega
        have hkb : k < b.length := by rw [HB.out.len]; omega
        obtain ⟨gb, ob, rfl, cb⟩ := (HB.out.row.fr (HF1.out.then HF.out)).get hkb
        obtain ⟨pb, hpb⟩ : ∃ p, b[k] = p := ⟨_, rfl⟩
        rw [hpb] at cb
        have HPB : Hid (b[k] = pb) := hpb
        clear hpb
        have j4 : (k : Int) < (m : Int) := by omega
        have q4 : decide ((k : Int) < (m : Int)) = true := by simp; omega
        have HLB : Hid (gb < w1.heap.size) := Nat.lt_of_lt_of_le (HB.out.lt _ rfl) HF1.out.size
        go_wp2_with fail
        go_quiet (fail)
        obtain ⟨wq, hwq⟩ : ∃ wq, wr.drewN nq = wq := ⟨_, rfl⟩
        have fq : Fr None' wr wq := hwq ▸ Fr.drewN None' wr nq
        rw [hwq]
        replace cb := fq.cell cb (fun e => e)
        have HR2 : Hid (RD w1.heap.size wq v0 L V) := HR.out.kept fq
        have HF2 : Hid (Fr None' w1 wq) := HF.out.then fq
        clear fq hwq HR HF
        cases op with
        | true => as_aux_lemma =>
          obtain ⟨L, h, rfl, DO1, _⟩ := HD.out
          have HO : Hid (DO a b i k L h) := DO1
          obtain ⟨V, p, rfl⟩ : ∃ V0 p, V = V0 ++ [p] := ⟨V.dropLast, V.getLast (fun e => by have := HR2.out.len; rw [e] at this; simp at this), (List.dropLast_concat_getLast _).symm⟩
          obtain ⟨p1, p2⟩ := p
          clear DO1 HD
          have HDS : Hid (DS a b i (k + 1) (L ++ [⟨h.at', h.o, h.n ++ [pb]⟩]) true) := by have h1 := HO.out.comes hkb (Or.inl (by rw [HA.out.len]; omega)); rw [HPB.out] at h1; exact h1
          obtain ⟨g, cc, rfl, d0, d1, d2, _⟩ := HR2.out.last
          obtain ⟨s1, s2⟩ := HR2.out.lastStr
          obtain ⟨va1, e1, hv1, _⟩ := s1.slice
          obtain ⟨va2, e2, hv2, _⟩ := s2.slice
          rw [List.length_map] at hv1 hv2
          subst hv1 hv2
          obtain ⟨l0, hl0⟩ : ∃ l, L.length = l := ⟨_, rfl⟩
          obtain ⟨t, ht⟩ : ∃ t, h.at' = t := ⟨_, rfl⟩
          obtain ⟨lo, hlo⟩ : ∃ l, h.o.length = l := ⟨_, rfl⟩
          obtain ⟨ln, hln⟩ : ∃ l, h.n.length = l := ⟨_, rfl⟩
          rw [hl0] at d0 d1 d2 HR2
          rw [ht] at d0
          rw [hlo] at d1
          rw [hln] at d2
          have bl : l0 + lo + ln ≤ 2000 := by have := HO.out.len; have := HO.out.lo; have := HO.out.ln; omega
          have b1 : (l0 : Int) ≤ 2000 := by omega
          rw [hlo, hln] at HR2
          have HL0 : Hid (L.length = l0 ∧ h.at' = t ∧ h.o.length = lo ∧ h.n.length = ln) := ⟨hl0, ht, hlo, hln⟩
          rw [hl0]
          clear s1 s2 hl0 ht hlo hln bl
          go_wp2_with fail
          obtain ⟨wb, hwb⟩ : ∃ wb, wq.alloc (.cells #[.int .i64 (t : Int), .slice va1 lo e1, .slice va2 ln e2] 24) = wb := ⟨_, rfl⟩
          have fb : Fr None' wq wb := hwb ▸ Fr.alloc None' wq _
          have hsb : wb.heap.size = wq.heap.size + 1 := by rw [← hwb]; simp
          obtain ⟨b0, b1, b2⟩ := cell3 wq 24 (.int .i64 (t : Int)) (.slice va1 lo e1) (.slice va2 ln e2)
          have hzb : ∀ o, wb.frozen? ⟨wq.heap.size, o, none⟩ = false := fun o => by
            rw [← hwb]
            unfold World.frozen?
            rw [heap_alloc_new]
            simp
          rw [hwb] at b0 b1 b2 ⊢
          replace cb := fb.cell cb (fun e => e)
          replace d0 := fb.cell d0 (fun e => e)
          replace d1 := fb.cell d1 (fun e => e)
          replace d2 := fb.cell d2 (fun e => e)
          have hnb : g ≠ wq.heap.size := fun e => by have := (ownH_lt HR2.out.row (k := g) rfl).2; omega
          clear hwb
          obtain ⟨bx, hbx⟩ : ∃ x, wq.heap.size = x := ⟨_, rfl⟩
          rw [hbx] at b0 b1 b2 hzb hsb hnb ⊢
          have HBX : Hid (wq.heap.size = bx ∧ wb.heap.size = bx + 1 ∧ Fr None' wq wb) := ⟨hbx, hsb, fb⟩
          clear hbx hsb fb
          go_wp2_with fail
          go_quiet (fail)
          obtain ⟨wc, hwc⟩ : ∃ wc, wb.drewN nq = wc := ⟨_, rfl⟩
          have fc : Fr None' wb wc := hwc ▸ Fr.drewN None' wb nq
          have hsc : wc.heap.size = wb.heap.size := by rw [← hwc]; rfl
          rw [hwc]
          clear hwc
          have F3 : Fr None' wq (wc.drew.alloc (.cells #[.string pb] 9)) := (HBX.out.2.2.then fc).then ((fr_drew None' wc).then (Fr.alloc None' _ _))
          have s1 : OwnV w1.heap.size (wc.drew.alloc (.cells #[.string pb] 9)) 9 (.slice va2 ln e2) (h.n.map .string) := (HR2.out.lastStr.2).kept F3
          have s2 : OwnV w1.heap.size (wc.drew.alloc (.cells #[.string pb] 9)) 9 (.slice va1 lo e1) (h.o.map .string) := (HR2.out.lastStr.1).kept F3
          have x0 : RowV (wc.drew.alloc (.cells #[.string pb] 9)) (some ⟨wc.heap.size, 0, none⟩) [.string pb] := one_row wc.drew _ _
          obtain ⟨v', w', hr, oN, fN, hn⟩ := append_run oneS 22 s1 (va := some ⟨wc.heap.size, 0, none⟩) (c := 1) (k := 1) (m := [.string pb]) rfl x0 (fun e => by cases e) (fun u hu => by simp at hu; rw [hu]; rfl) (by rw [List.length_map, HL0.out.2.2.2]; simp; have := HO.out.lo; have := HO.out.ln; have := HL0.out; omega) (Nat.le_trans HF2.out.size F3.size)
          obtain ⟨va2', e2', hv', _⟩ := oN.slice
          rw [List.length_append, List.length_map, HL0.out.2.2.2] at hv'
          simp only [List.length_cons, List.length_nil, Nat.zero_add] at hv'
          subst hv'
          have own1 : ∀ k, Own1 (.slice va2 ln e2) k → k < wq.heap.size := fun k e => (HR2.out.lastStr.2.lt e).2
          have hown' : ∀ k, Own1 (.slice va2' (ln + 1) e2') k → Own1 (.slice va2 ln e2) k ∨ wq.heap.size ≤ k := fun k e => (own_or hn e).imp id (fun e => by have := F3.size; omega)
          have F4 : Fr (Own1 (.slice va2 ln e2)) wb w' := (fc.then ((fr_drew None' wc).then (Fr.alloc None' _ _))).any.then fN
          have nbx : ¬ Own1 (.slice va2 ln e2) bx := fun e => by have := own1 bx e; have := HBX.out.1; omega
          have ngx : ¬ Own1 (.slice va2 ln e2) g := fun e => HR2.out.lastAp (Or.inr e) (show Own1 (.slice (some ⟨g, 0, none⟩) (l0 + 1) cc) g from rfl)
          have cb2 : (wc.drew).cell? _ = some (.string pb) := (fc.then (fr_drew None' wc)).cell cb (fun e => e)
          have b22 := (fc.then (fr_drew None' wc)).cell b2 (fun e => e)
          have b23 := (fc.then ((fr_drew None' wc).then (Fr.alloc None' wc.drew (.cells #[.string pb] 9)))).cell b2 (fun e => e)
          have b24 := (fc.then (Fr.alloc None' wc (.cells #[.string pb] 9))).cell b2 (fun e => e)
          have b0' := F4.cell b0 nbx
          have b1' := F4.cell b1 nbx
          have b2' := F4.cell b2 nbx
          have d0' := F4.cell d0 ngx
          have d1' := F4.cell d1 ngx
          have d2' := F4.cell d2 ngx
          have hzb' : ∀ o, w'.frozen? ⟨bx, o, none⟩ = false := fun o => (frozen_kept' (F4.block bx (cell_lt b0) nbx)).trans (hzb o)
          have hzg' : ∀ o, w'.frozen? ⟨g, o, none⟩ = false := fun o => by
            obtain ⟨_, _, e, _, _, _, z⟩ := HR2.out.last
            rw [HL0.out.1] at e
            cases e
            exact (frozen_kept' (F4.block g (cell_lt d0) ngx)).trans ((frozen_kept' (HBX.out.2.2.block g (ownH_lt HR2.out.row (k := g) rfl).2 (fun e => e))).trans (z o))
          have HE : Hid (∀ w5, w5 = ((((w'.setCell ⟨bx, 2, none⟩ (.slice va2' (ln + 1) e2')).setCell ⟨g, l0 * 3, none⟩ (.int .i64 (t : Int))).setCell ⟨g, l0 * 3 + 1, none⟩ (.slice va1 lo e1)).setCell ⟨g, l0 * 3 + 2, none⟩ (.slice va2' (ln + 1) e2')) → RD w1.heap.size w5 (.slice (some ⟨g, 0, none⟩) (l0 + 1) cc) (L ++ [⟨h.at', h.o, h.n ++ [pb]⟩]) (V ++ [(.slice va1 lo e1, .slice va2' (ln + 1) e2')]) ∧ Fr None' w1 w5) := by
            rintro w5 rfl
            have ht1 := HL0.out.2.1
            subst ht1
            have oK := s2.fr fN (fun k e1 e2 => HR2.out.lastTwo e1 e2)
            have f5 : Fr (fun k => k = bx) w' (w'.setCell ⟨bx, 2, none⟩ (.slice va2' (ln + 1) e2')) := Fr.setCell (M := fun k => k = bx) w' (a := ⟨bx, 2, none⟩) rfl _
            have F5 : Fr (fun k => Own1 (.slice va2 ln e2) k ∨ wq.heap.size ≤ k) wq (w'.setCell ⟨bx, 2, none⟩ (.slice va2' (ln + 1) e2')) := ((HBX.out.2.2.any.then (F4.mono (fun _ e => Or.inl e)))).then (f5.mono (fun k e => Or.inr (by have := HBX.out.1; omega)))
            have nq1 : ∀ k, Own1 (.slice va2' (ln + 1) e2') k → k ≠ bx := fun k e e2 => by
              rcases own_or hn e with e3 | e3
              · exact nbx (e2 ▸ e3)
              · have h1 : (wc.drew.alloc (.cells #[.string pb] 9)).heap.size = wc.heap.size + 1 := by simp
                have := HBX.out.2.1
                omega
            have nq2 : ∀ k, Own1 (.slice va1 lo e1) k → k ≠ bx := fun k e e2 => by have := (HR2.out.lastStr.1.lt e).2; have := HBX.out.1; omega
            have oN' : OwnV w1.heap.size (w'.setCell ⟨bx, 2, none⟩ (.slice va2' (ln + 1) e2')) 9 (.slice va2' (ln + 1) e2') ((h.n ++ [pb]).map .string) := by
              have h1 := oN.fr f5 nq1
              simpa using h1
            have oK' := oK.fr f5 nq2
            have R5 := HR2.out.put (h' := ⟨h.at', h.o, h.n ++ [pb]⟩) F5 (fun k e => e.imp (fun e => Or.inr e) id) oK' oN' (fun k e => e.elim (fun e => Or.inl (Or.inl e)) (fun e => (hown' k e).imp Or.inr id)) (fun k e1 e2 => (hown' k e2).elim (fun e => HR2.out.lastTwo e1 e) (fun e => by have := (HR2.out.lastStr.1.lt e1).2; omega)) (g := g) (c := cc) (by rw [HL0.out.1])
            rw [HL0.out.1] at R5
            refine ⟨R5, ?_⟩
            have gl := (ownH_lt HR2.out.row (k := g) rfl).1
            have f6 : Fr (fun k => k = g) (w'.setCell ⟨bx, 2, none⟩ (.slice va2' (ln + 1) e2')) ((((w'.setCell ⟨bx, 2, none⟩ (.slice va2' (ln + 1) e2')).setCell ⟨g, l0 * 3, none⟩ (.int .i64 (h.at' : Int))).setCell ⟨g, l0 * 3 + 1, none⟩ (.slice va1 lo e1)).setCell ⟨g, l0 * 3 + 2, none⟩ (.slice va2' (ln + 1) e2')) := ((Fr.setCell (M := fun k => k = g) _ (a := ⟨g, _, none⟩) rfl _).then (Fr.setCell (M := fun k => k = g) _ (a := ⟨g, _, none⟩) rfl _)).then (Fr.setCell (M := fun k => k = g) _ (a := ⟨g, _, none⟩) rfl _)
            exact (HF2.out.trans F5 (fun k e => e.elim (fun e => Or.inr (s1.lt e).1) (fun e => Or.inr (Nat.le_trans HF2.out.size e)))).trans f6 (fun k e => Or.inr (by have e' : k = g := e; omega))
          clear s1 s2 x0 oN fN hn own1 hown' F3 F4 nbx ngx fc hsc
          clear b0 b1 b2 d0 d1 d2 hzb cb HBX HR2 HO HL0 HF2
          go_wp2_with fail
          go_region_law (refine step_app rfl (.tmp 123) (.tmp 128) rfl (by first | rfl | simp [Act.eval, Act.put]) (by first | rfl | simp [Act.eval, Act.put]) hr ?_)
          all_goals go_wp2_with fail
          all_goals
            obtain ⟨R5, F5⟩ := HE.out _ rfl
            exact ⟨⟨i, k + 1, _, _, true, _, by omega, by omega, by go_num, by go_num, rfl, rfl, R5, HDS.out, F5⟩, by simp [intOf]; omega⟩
        | false => as_aux_lemma =>
          have HO0 : DO a b i k L ⟨k, [], []⟩ := HD.out.opens
          obtain ⟨gg, cg, w4, hr4, R4, f4⟩ := HR2.out.open k HF2.out.size (by have := HO0.len; omega)
          have F4 : Fr None' w1 w4 := HF2.out.trans f4 (fun k e => Or.inr (ownH_lt HR2.out.row e).1)
          obtain ⟨h, hh⟩ : ∃ h : Hk ByteArray, (⟨k, [], []⟩ : Hk ByteArray) = h := ⟨_, rfl⟩
          obtain ⟨p1, hp1⟩ : ∃ p, nil' = p := ⟨_, rfl⟩
          obtain ⟨v4, hv4⟩ : ∃ v, Value.slice (some ⟨gg, 0, none⟩) (L.length + 1) cg = v := ⟨_, rfl⟩
          have R5 : RD w1.heap.size w4 v4 (L ++ [h]) (V ++ [(p1, p1)]) := by rw [← hh, ← hp1, ← hv4]; exact R4
          obtain ⟨p2, hp2⟩ : ∃ p, p1 = p := ⟨_, rfl⟩
          have R6 : RD w1.heap.size w4 v4 (L ++ [h]) (V ++ [(p1, p2)]) := by rw [← hp2]; exact R5
          have HO : Hid (DO a b i k L h) := by rw [hh] at HO0; exact HO0
          rw [hv4] at hr4
          replace cb := f4.cell cb (fun e => by have h1 : w1.heap.size ≤ gb := (ownH_lt HR2.out.row e).1; have h2 := HLB.out; omega)
          obtain ⟨wq0, hwq0⟩ : ∃ x, wq = x := ⟨_, rfl⟩
          subst hwq0
          have hr5 : Hid ((Builtin.append_ #[28, 28] 28 #[v0, .slice (some ⟨wq.heap.size, 0, none⟩) 1 1]).run Try.prog (wq.alloc (.cells #[.int .i64 (k : Int), .slice none 0 0, .slice none 0 0] 24 (0, 0))) = .ok v4 w4) := hr4
          clear HR2 HF2 hr4 R4 R5 hh hp1 hp2 hv4 f4 HD HO0
          have HR2 : Hid (RD w1.heap.size w4 v4 (L ++ [h]) (V ++ [(p1, p2)])) := R6
          have HF2 : Hid (Fr None' w1 w4) := F4
          clear R6 F4
          have HDS : Hid (DS a b i (k + 1) (L ++ [⟨h.at', h.o, h.n ++ [pb]⟩]) true) := by have h1 := HO.out.comes hkb (Or.inl (by rw [HA.out.len]; omega)); rw [HPB.out] at h1; exact h1
          obtain ⟨g, cc, rfl, d0, d1, d2, _⟩ := HR2.out.last
          obtain ⟨s1, s2⟩ := HR2.out.lastStr
          obtain ⟨va1, e1, hv1, _⟩ := s1.slice
          obtain ⟨va2, e2, hv2, _⟩ := s2.slice
          rw [List.length_map] at hv1 hv2
          subst hv1 hv2
          obtain ⟨l0, hl0⟩ : ∃ l, L.length = l := ⟨_, rfl⟩
          obtain ⟨t, ht⟩ : ∃ t, h.at' = t := ⟨_, rfl⟩
          obtain ⟨lo, hlo⟩ : ∃ l, h.o.length = l := ⟨_, rfl⟩
          obtain ⟨ln, hln⟩ : ∃ l, h.n.length = l := ⟨_, rfl⟩
          rw [hl0] at d0 d1 d2 HR2
          rw [ht] at d0
          rw [hlo] at d1
          rw [hln] at d2
          have bl : l0 + lo + ln ≤ 2000 := by have := HO.out.len; have := HO.out.lo; have := HO.out.ln; omega
          have b1 : (l0 : Int) ≤ 2000 := by omega
          rw [hlo, hln] at HR2
          have HL0 : Hid (L.length = l0 ∧ h.at' = t ∧ h.o.length = lo ∧ h.n.length = ln) := ⟨hl0, ht, hlo, hln⟩
          rw [hl0] at hr5
          clear s1 s2 hl0 ht hlo hln bl
          go_wp2_with (at_builtin
                       refine app_list rfl _ _ rfl rfl rfl hr5.out ?_
                       clear hr5)
          obtain ⟨wb, hwb⟩ : ∃ wb, w4.alloc (.cells #[.int .i64 (t : Int), .slice va1 lo e1, .slice va2 ln e2] 24) = wb := ⟨_, rfl⟩
          have fb : Fr None' w4 wb := hwb ▸ Fr.alloc None' w4 _
          have hsb : wb.heap.size = w4.heap.size + 1 := by rw [← hwb]; simp
          obtain ⟨b0, b1, b2⟩ := cell3 w4 24 (.int .i64 (t : Int)) (.slice va1 lo e1) (.slice va2 ln e2)
          have hzb : ∀ o, wb.frozen? ⟨w4.heap.size, o, none⟩ = false := fun o => by
            rw [← hwb]
            unfold World.frozen?
            rw [heap_alloc_new]
            simp
          rw [hwb] at b0 b1 b2 ⊢
          replace cb := fb.cell cb (fun e => e)
          replace d0 := fb.cell d0 (fun e => e)
          replace d1 := fb.cell d1 (fun e => e)
          replace d2 := fb.cell d2 (fun e => e)
          have hnb : g ≠ w4.heap.size := fun e => by have := (ownH_lt HR2.out.row (k := g) rfl).2; omega
          clear hwb
          obtain ⟨bx, hbx⟩ : ∃ x, w4.heap.size = x := ⟨_, rfl⟩
          rw [hbx] at b0 b1 b2 hzb hsb hnb ⊢
          have HBX : Hid (w4.heap.size = bx ∧ wb.heap.size = bx + 1 ∧ Fr None' w4 wb) := ⟨hbx, hsb, fb⟩
          clear hbx hsb fb
          go_wp2_with fail
          go_quiet (fail)
          obtain ⟨wc, hwc⟩ : ∃ wc, wb.drewN nq = wc := ⟨_, rfl⟩
          have fc : Fr None' wb wc := hwc ▸ Fr.drewN None' wb nq
          have hsc : wc.heap.size = wb.heap.size := by rw [← hwc]; rfl
          rw [hwc]
          clear hwc
          have F3 : Fr None' w4 (wc.drew.alloc (.cells #[.string pb] 9)) := (HBX.out.2.2.then fc).then ((fr_drew None' wc).then (Fr.alloc None' _ _))
          have s1 : OwnV w1.heap.size (wc.drew.alloc (.cells #[.string pb] 9)) 9 (.slice va2 ln e2) (h.n.map .string) := (HR2.out.lastStr.2).kept F3
          have s2 : OwnV w1.heap.size (wc.drew.alloc (.cells #[.string pb] 9)) 9 (.slice va1 lo e1) (h.o.map .string) := (HR2.out.lastStr.1).kept F3
          have x0 : RowV (wc.drew.alloc (.cells #[.string pb] 9)) (some ⟨wc.heap.size, 0, none⟩) [.string pb] := one_row wc.drew _ _
          obtain ⟨v', w', hr, oN, fN, hn⟩ := append_run oneS 22 s1 (va := some ⟨wc.heap.size, 0, none⟩) (c := 1) (k := 1) (m := [.string pb]) rfl x0 (fun e => by cases e) (fun u hu => by simp at hu; rw [hu]; rfl) (by rw [List.length_map, HL0.out.2.2.2]; simp; have := HO.out.lo; have := HO.out.ln; have := HL0.out; omega) (Nat.le_trans HF2.out.size F3.size)
          obtain ⟨va2', e2', hv', _⟩ := oN.slice
          rw [List.length_append, List.length_map, HL0.out.2.2.2] at hv'
          simp only [List.length_cons, List.length_nil, Nat.zero_add] at hv'
          subst hv'
          have own1 : ∀ k, Own1 (.slice va2 ln e2) k → k < w4.heap.size := fun k e => (HR2.out.lastStr.2.lt e).2
          have hown' : ∀ k, Own1 (.slice va2' (ln + 1) e2') k → Own1 (.slice va2 ln e2) k ∨ w4.heap.size ≤ k := fun k e => (own_or hn e).imp id (fun e => by have := F3.size; omega)
          have F4 : Fr (Own1 (.slice va2 ln e2)) wb w' := (fc.then ((fr_drew None' wc).then (Fr.alloc None' _ _))).any.then fN
          have nbx : ¬ Own1 (.slice va2 ln e2) bx := fun e => by have := own1 bx e; have := HBX.out.1; omega
          have ngx : ¬ Own1 (.slice va2 ln e2) g := fun e => HR2.out.lastAp (Or.inr e) (show Own1 (.slice (some ⟨g, 0, none⟩) (l0 + 1) cc) g from rfl)
          have cb2 : (wc.drew).cell? _ = some (.string pb) := (fc.then (fr_drew None' wc)).cell cb (fun e => e)
          have b22 := (fc.then (fr_drew None' wc)).cell b2 (fun e => e)
          have b23 := (fc.then ((fr_drew None' wc).then (Fr.alloc None' wc.drew (.cells #[.string pb] 9)))).cell b2 (fun e => e)
          have b24 := (fc.then (Fr.alloc None' wc (.cells #[.string pb] 9))).cell b2 (fun e => e)
          have b0' := F4.cell b0 nbx
          have b1' := F4.cell b1 nbx
          have b2' := F4.cell b2 nbx
          have d0' := F4.cell d0 ngx
          have d1' := F4.cell d1 ngx
          have d2' := F4.cell d2 ngx
          have hzb' : ∀ o, w'.frozen? ⟨bx, o, none⟩ = false := fun o => (frozen_kept' (F4.block bx (cell_lt b0) nbx)).trans (hzb o)
          have hzg' : ∀ o, w'.frozen? ⟨g, o, none⟩ = false := fun o => by
            obtain ⟨_, _, e, _, _, _, z⟩ := HR2.out.last
            rw [HL0.out.1] at e
            cases e
            exact (frozen_kept' (F4.block g (cell_lt d0) ngx)).trans ((frozen_kept' (HBX.out.2.2.block g (ownH_lt HR2.out.row (k := g) rfl).2 (fun e => e))).trans (z o))
          have HE : Hid (∀ w5, w5 = ((((w'.setCell ⟨bx, 2, none⟩ (.slice va2' (ln + 1) e2')).setCell ⟨g, l0 * 3, none⟩ (.int .i64 (t : Int))).setCell ⟨g, l0 * 3 + 1, none⟩ (.slice va1 lo e1)).setCell ⟨g, l0 * 3 + 2, none⟩ (.slice va2' (ln + 1) e2')) → RD w1.heap.size w5 (.slice (some ⟨g, 0, none⟩) (l0 + 1) cc) (L ++ [⟨h.at', h.o, h.n ++ [pb]⟩]) (V ++ [(.slice va1 lo e1, .slice va2' (ln + 1) e2')]) ∧ Fr None' w1 w5) := by
            rintro w5 rfl
            have ht1 := HL0.out.2.1
            subst ht1
            have oK := s2.fr fN (fun k e1 e2 => HR2.out.lastTwo e1 e2)
            have f5 : Fr (fun k => k = bx) w' (w'.setCell ⟨bx, 2, none⟩ (.slice va2' (ln + 1) e2')) := Fr.setCell (M := fun k => k = bx) w' (a := ⟨bx, 2, none⟩) rfl _
            have F5 : Fr (fun k => Own1 (.slice va2 ln e2) k ∨ w4.heap.size ≤ k) w4 (w'.setCell ⟨bx, 2, none⟩ (.slice va2' (ln + 1) e2')) := ((HBX.out.2.2.any.then (F4.mono (fun _ e => Or.inl e)))).then (f5.mono (fun k e => Or.inr (by have := HBX.out.1; omega)))
            have nq1 : ∀ k, Own1 (.slice va2' (ln + 1) e2') k → k ≠ bx := fun k e e2 => by
              rcases own_or hn e with e3 | e3
              · exact nbx (e2 ▸ e3)
              · have h1 : (wc.drew.alloc (.cells #[.string pb] 9)).heap.size = wc.heap.size + 1 := by simp
                have := HBX.out.2.1
                omega
            have nq2 : ∀ k, Own1 (.slice va1 lo e1) k → k ≠ bx := fun k e e2 => by have := (HR2.out.lastStr.1.lt e).2; have := HBX.out.1; omega
            have oN' : OwnV w1.heap.size (w'.setCell ⟨bx, 2, none⟩ (.slice va2' (ln + 1) e2')) 9 (.slice va2' (ln + 1) e2') ((h.n ++ [pb]).map .string) := by
              have h1 := oN.fr f5 nq1
              simpa using h1
            have oK' := oK.fr f5 nq2
            have R5 := HR2.out.put (h' := ⟨h.at', h.o, h.n ++ [pb]⟩) F5 (fun k e => e.imp (fun e => Or.inr e) id) oK' oN' (fun k e => e.elim (fun e => Or.inl (Or.inl e)) (fun e => (hown' k e).imp Or.inr id)) (fun k e1 e2 => (hown' k e2).elim (fun e => HR2.out.lastTwo e1 e) (fun e => by have := (HR2.out.lastStr.1.lt e1).2; omega)) (g := g) (c := cc) (by rw [HL0.out.1])
            rw [HL0.out.1] at R5
            refine ⟨R5, ?_⟩
            have gl := (ownH_lt HR2.out.row (k := g) rfl).1
            have f6 : Fr (fun k => k = g) (w'.setCell ⟨bx, 2, none⟩ (.slice va2' (ln + 1) e2')) ((((w'.setCell ⟨bx, 2, none⟩ (.slice va2' (ln + 1) e2')).setCell ⟨g, l0 * 3, none⟩ (.int .i64 (h.at' : Int))).setCell ⟨g, l0 * 3 + 1, none⟩ (.slice va1 lo e1)).setCell ⟨g, l0 * 3 + 2, none⟩ (.slice va2' (ln + 1) e2')) := ((Fr.setCell (M := fun k => k = g) _ (a := ⟨g, _, none⟩) rfl _).then (Fr.setCell (M := fun k => k = g) _ (a := ⟨g, _, none⟩) rfl _)).then (Fr.setCell (M := fun k => k = g) _ (a := ⟨g, _, none⟩) rfl _)
            exact (HF2.out.trans F5 (fun k e => e.elim (fun e => Or.inr (s1.lt e).1) (fun e => Or.inr (Nat.le_trans HF2.out.size e)))).trans f6 (fun k e => Or.inr (by have e' : k = g := e; omega))
          clear s1 s2 x0 oN fN hn own1 hown' F3 F4 nbx ngx fc hsc
          clear b0 b1 b2 d0 d1 d2 hzb cb HBX HR2 HO HL0 HF2
          go_wp2_with fail
          go_region_law (refine step_app rfl (.tmp 123) (.tmp 128) rfl (by first | rfl | simp [Act.eval, Act.put]) (by first | rfl | simp [Act.eval, Act.put]) hr ?_)
          all_goals go_wp2_with fail
          all_goals
            obtain ⟨R5, F5⟩ := HE.out _ rfl
            exact ⟨⟨i, k + 1, _, _, true, _, by omega, by omega, by go_num, by go_num, rfl, rfl, R5, HDS.out, F5⟩, by simp [intOf]; omega⟩
      · have e : L = diffs a b := HD.out.ends (by rw [HA.out.len]; omega) (by rw [HB.out.len]; omega)
        have q4 : decide ((k : Int) < (m : Int)) = false := by simp; omega
        go_wp2_with fail
        go_ret
        exact ⟨_, rfl, e ▸ HR.out.at, HF1.out.then HF.out⟩

end Go.Proofs.Ytoophkpmbinmlaa
