/-
  What is proved here: the contracts that the statement stands on: DPut13, DGet13. Conditions: as each theorem names them.
-/
import Derived.Test.YtofpkpomhdhkgaaGreatDoorMDRig13
import Derived.Test.YtofpkpomhdhkgaaGreatDoorMPut13
import Derived.Test.YtofpkpomhdhkgaaGreatDoorM26Head13
import Derived.Test.YtofpkpomhdhkgaaGreatDoorM29Bod13
import Derived.Lib.AppendStr
import Derived.Lib.UnsafeStr
import Derived.Test.YtofpkpomhdhkgaaGreatDoorM31DRdN13
import Derived.Test.YtofpkpomhdhkgaaGreatDoorMGet13
namespace Go.Proofs.YtofpkpomhdhkgaaGreatDoor
open Go.RowKit Go.Shelf
set_option maxRecDepth 100000

/-- v is a row of bytes of the call's own. -/
def OwnB13 (B : Nat) (w : World) (v : Value) (l : B13) : Prop := w.ownsRow B 5 1 v l.length (Lib.byteCells l)

theorem OwnB13.nil (B : Nat) (w : World) : OwnB13 B w (.slice none 0 0) [] := World.ownsRow_nil w B 5 1

theorem OwnB13.by {B : Nat} {w : World} {v : Value} {l : B13} (h : OwnB13 B w v l) : ByAt w v l := by
  rcases h.2 with ⟨hv, h0⟩ | ⟨g, cap, cur, hv, hb, hh, hc, _, hs, ht⟩
  · have e : l = [] := List.length_eq_zero_iff.1 h0
    subst e
    exact ⟨none, 0, hv, Nat.le_refl _, fun _ => rfl, fun j x hj => by simp at hj⟩
  · refine ⟨some ⟨g, 0, none⟩, cap, hv, hc, (fun e => by cases e), fun i x hi => ⟨g, 0, rfl, ?_⟩⟩
    have hlt := (List.getElem?_eq_some_iff.1 hi).1
    have hl : (Lib.byteCells l)[i]? = some (.int .u8 x.toNat) := by unfold Lib.byteCells; rw [List.getElem?_map, hi]; rfl
    rw [← ht, List.getElem?_take, if_pos (by omega)] at hl
    rw [World.cell?, Nat.zero_add, hh]
    simpa using hl

theorem OwnB13.frame {B : Nat} {w w' : World} {v : Value} {l : B13} (h : OwnB13 B w v l) {M : Nat → Prop} (f : Fr M w w') (hM : ∀ k, M k → k < B) : OwnB13 B w' v l := by
  refine ⟨h.1, ?_⟩
  rcases h.2 with h | ⟨g, cap, cur, hv, hb, hh, h⟩
  · exact Or.inl h
  · exact Or.inr ⟨g, cap, cur, hv, hb, f.at hh (fun e => by have := hM g e; omega), h⟩

theorem OwnB13.ge {B : Nat} {w : World} {v : Value} {l : B13} (h : OwnB13 B w v l) : ∀ k, v.ownBlock = some k → B ≤ k := fun k hk => by
  rcases h.2 with ⟨hv, _⟩ | ⟨g, cap, cur, hv, hb, _⟩
  · rw [hv] at hk; cases hk
  · rw [hv] at hk; cases hk; exact hb

theorem OwnB13.lt {B : Nat} {w : World} {v : Value} {l : B13} (h : OwnB13 B w v l) {k : Nat} (hk : v.ownBlock = some k) : k < w.heap.size := by
  rcases h.2 with ⟨hv, _⟩ | ⟨g, cap, cur, hv, hb, hh, _⟩
  · rw [hv] at hk; cases hk
  · rw [hv] at hk; cases hk; exact (Array.getElem?_eq_some_iff.1 hh).1

theorem T13.fr {B : Nat} {w w' : World} {M : Nat → Prop} (h : T13 B w) (f : Fr M w w') (hm : ∀ k, M k → B ≤ k) : T13 B w' := ⟨tab_heap h.1 (fun g _ hg hn => f.at hg (fun e => by have := hm g e; have := h.2 g hn; omega)), h.2⟩

theorem OwnB13.slice {B : Nat} {w : World} {v : Value} {l : B13} (h : OwnB13 B w v l) : ∃ va c, v = .slice va l.length c := by
  obtain ⟨ad, c, e, _⟩ := h.by
  exact ⟨ad, c, e⟩

/-- 'append(out, s...)'. -/
theorem OwnB13.app {B : Nat} {w : World} {v : Value} {l : B13} (h : OwnB13 B w v l) (s : ByteArray) (hl : l.length + s.size ≤ 140737488355328) (hB : B ≤ w.heap.size) :
    ∃ v' w', (Builtin.append_ #[26, 9] 26 #[v, .string s]).run Tryz.prog w = .ok v' w' ∧ OwnB13 B w' v' (l ++ unB s) ∧ Fr (fun k => v.ownBlock = some k) w w' := by
  obtain ⟨i0, hi, hz0, hz1, hz2⟩ := info_parts info8_13
  obtain ⟨v', w', hr, h5, h6, _⟩ := Lib.run_append_own_string (P := Tryz.prog) (w := w) B 26 9 26 5 i0 Tryz.underlying26 Tryz.underlying9 hi hz0 hz1 hz2 v l.length _ h s (by unfold maxLen; omega) hl hB
  refine ⟨v', w', hr, ?_, Fr.grown h6 (fun k e => e)⟩
  unfold OwnB13
  rw [List.length_append, Lib.byteCells_append, un_len]
  exact h5

/-- An append of a text whose run is known, as one operation of a region that draws. -/
theorem wpIn_app13 {F : Fence} {n : Nat} {o : Oper} {a : Act} {w : World} {K : Act → World → Prop} {Q : Exit → Act → World → Prop} (hF : F.round = none) (hF2 : ∀ f, o.about Tryz.prog w a.eval = some f → F.fn f) (s x : Operand) (t u : TypeId)
    (ho : o.op = .call { callee := .builtin .append, args := #[s, x], argTypes := #[t, u] }) {vs vx v' : Value} {w' : World} (hs : a.eval s = vs) (hx : a.eval x = vx) (hr : (Builtin.append_ #[t, u] o.type #[vs, vx]).run Tryz.prog w = .ok v' w') (h : K (a.put o.dst v') w') : o.wpIn F n Tryz.prog a w K Q := by
  refine ⟨hF2, ?_⟩
  rw [hF, Oper.semAt_none]
  unfold execOp
  simp only [ho, resolve, invoke, builtin, Sem.run_bind, Sem.run_pure, Result.andThen_ok, List.map_toArray, List.map_cons, List.map_nil, hs, hx, hr]
  exact h

theorem prim_app (K A : Nat) (P T F : ByteArray) (lo ln : List ByteArray) : unB (mkB (num13 K) ++ mkB (text13 (unB P)) ++ mkB (text13 (unB T)) ++ mkB (text13 (unB F)) ++ mkB (num13 A) ++ mkB (list13 text13 (lo.map unB)) ++ mkB (list13 text13 (ln.map unB))) = num13 K ++ (text13 (unB P) ++ (text13 (unB T) ++ (text13 (unB F) ++ (num13 A ++ (list13 text13 (lo.map unB) ++ list13 text13 (ln.map unB)))))) := by
  simp only [← mkB_app, un_mk, List.append_assoc]

/-- The body's bytes. -/
def primsB (L : List Pr) : B13 := (L.map prim13).flatten

theorem primsB_snoc {L : List Pr} {k : Nat} (h : k < L.length) : primsB (L.take (k + 1)) = primsB (L.take k) ++ prim13 L[k] := by
  unfold primsB
  rw [List.take_succ_eq_append_getElem h, List.map_append, List.flatten_append]
  simp

theorem primsB_le (L : List Pr) (k : Nat) : (primsB (L.take k)).length ≤ (primsB L).length := by
  have e : primsB L = primsB (L.take k) ++ primsB (L.drop k) := by
    unfold primsB
    rw [← List.flatten_append, ← List.map_append, List.take_append_drop]
  rw [e, List.length_append]
  omega

structure R4 (wb : World) (B bP : Nat) (N : ByteArray) (pa pb : Option Addr) (n ca nb cb : Nat) (S1 S2 S3 : ByteArray) (t10 t11 t12 t13 t14 t15 t16 t17 t18 t19 t20 t21 t22 t23 t4 : Value) (S : Nat → Bool) (w' : World) : Prop where
  fr : Fr (fun k => (.slice none 0 0 : Value).ownBlock = some k) wb w'
  o0 : S 0 = true → t10 = .slice none 0 0
  o1 : S 1 = true → t11 = .pointer (some ⟨bP, 0, none⟩)
  o2 : S 2 = true → t12 = .string N
  o3 : S 3 = true → t13 = .string S1
  o4 : S 4 = true → t14 = .pointer (some ⟨bP, 1, none⟩)
  o5 : S 5 = true → t15 = .slice pa n ca
  o6 : S 6 = true → t16 = .string S2
  o7 : S 7 = true → t17 = .string (S1 ++ S2)
  o8 : S 8 = true → t18 = .pointer (some ⟨bP, 2, none⟩)
  o9 : S 9 = true → t19 = .slice pb nb cb
  o10 : S 10 = true → t20 = .int .i64 nb
  o11 : S 11 = true → t21 = .string S3
  o12 : S 12 = true → t22 = .string (S1 ++ S2 ++ S3)
  q0 : S 13 = false → OwnB13 B w' (.slice none 0 0) ([])
  q1 : S 13 = true → OwnB13 B w' t23 (([]) ++ unB (S1 ++ S2 ++ S3))
  d0 : S 14 = false → t4 = .slice none 0 0
  d1 : S 14 = true → t4 = t23 ∧ S 13 = true
  d2 : S 13 = true → S 0 = true

def R4I (wb : World) (B bP : Nat) (N : ByteArray) (pa pb : Option Addr) (n ca nb cb : Nat) (S1 S2 S3 : ByteArray) (T : Value → Value → Value → Value → Value → Value → Value → Value → Value → Value → Value → Value → Value → Value → Value → Array Value) (S : Nat → Bool) (a : Act) (w' : World) : Prop := ∃ t10 t11 t12 t13 t14 t15 t16 t17 t18 t19 t20 t21 t22 t23 t4, a = { tmps := T t10 t11 t12 t13 t14 t15 t16 t17 t18 t19 t20 t21 t22 t23 t4, defers := [] } ∧ R4 wb B bP N pa pb n ca nb cb S1 S2 S3 t10 t11 t12 t13 t14 t15 t16 t17 t18 t19 t20 t21 t22 t23 t4 S w'

structure R9 (wb : World) (B bX : Nat) (out : Value) (l : B13) (KK : Nat) (PP TT FF : ByteArray) (AA : Nat) (po pn : Option Addr) (lo co ln cn : Nat) (Q0 Q1 Q2 Q3 Q4 Q5 Q6 : ByteArray) (r36 r37 r38 r39 r40 r41 r42 r43 r44 r45 r46 r47 r48 r49 r50 r51 r52 r53 r54 r55 r56 r57 r58 r59 r60 r61 r62 r63 r64 r4 : Value) (S : Nat → Bool) (w' : World) : Prop where
  fr : Fr (fun k => (out : Value).ownBlock = some k) wb w'
  o0 : S 0 = true → r36 = out
  o1 : S 1 = true → r37 = .pointer (some ⟨bX, 0, none⟩)
  o2 : S 2 = true → r38 = .int .i64 KK
  o3 : S 3 = true → r39 = .string Q0
  o4 : S 4 = true → r40 = .pointer (some ⟨bX, 1, none⟩)
  o5 : S 5 = true → r41 = .string PP
  o6 : S 6 = true → r42 = .string Q1
  o7 : S 7 = true → r43 = .string (Q0 ++ Q1)
  o8 : S 8 = true → r44 = .pointer (some ⟨bX, 2, none⟩)
  o9 : S 9 = true → r45 = .string TT
  o10 : S 10 = true → r46 = .string Q2
  o11 : S 11 = true → r47 = .string (Q0 ++ Q1 ++ Q2)
  o12 : S 12 = true → r48 = .pointer (some ⟨bX, 3, none⟩)
  o13 : S 13 = true → r49 = .string FF
  o14 : S 14 = true → r50 = .string Q3
  o15 : S 15 = true → r51 = .string (Q0 ++ Q1 ++ Q2 ++ Q3)
  o16 : S 16 = true → r52 = .pointer (some ⟨bX, 4, none⟩)
  o17 : S 17 = true → r53 = .int .i64 AA
  o18 : S 18 = true → r54 = .string Q4
  o19 : S 19 = true → r55 = .string (Q0 ++ Q1 ++ Q2 ++ Q3 ++ Q4)
  o20 : S 20 = true → r56 = .pointer (some ⟨bX, 5, none⟩)
  o21 : S 21 = true → r57 = .slice po lo co
  o22 : S 22 = true → r58 = .string Q5
  o23 : S 23 = true → r59 = .string (Q0 ++ Q1 ++ Q2 ++ Q3 ++ Q4 ++ Q5)
  o24 : S 24 = true → r60 = .pointer (some ⟨bX, 6, none⟩)
  o25 : S 25 = true → r61 = .slice pn ln cn
  o26 : S 26 = true → r62 = .string Q6
  o27 : S 27 = true → r63 = .string (Q0 ++ Q1 ++ Q2 ++ Q3 ++ Q4 ++ Q5 ++ Q6)
  q0 : S 28 = false → OwnB13 B w' (out) (l)
  q1 : S 28 = true → OwnB13 B w' r64 ((l) ++ unB (Q0 ++ Q1 ++ Q2 ++ Q3 ++ Q4 ++ Q5 ++ Q6))
  d0 : S 29 = false → r4 = out
  d1 : S 29 = true → r4 = r64 ∧ S 28 = true
  d2 : S 28 = true → S 0 = true

def R9I (wb : World) (B bX : Nat) (out : Value) (l : B13) (KK : Nat) (PP TT FF : ByteArray) (AA : Nat) (po pn : Option Addr) (lo co ln cn : Nat) (Q0 Q1 Q2 Q3 Q4 Q5 Q6 : ByteArray) (T : Value → Value → Value → Value → Value → Value → Value → Value → Value → Value → Value → Value → Value → Value → Value → Value → Value → Value → Value → Value → Value → Value → Value → Value → Value → Value → Value → Value → Value → Value → Array Value) (S : Nat → Bool) (a : Act) (w' : World) : Prop := ∃ r36 r37 r38 r39 r40 r41 r42 r43 r44 r45 r46 r47 r48 r49 r50 r51 r52 r53 r54 r55 r56 r57 r58 r59 r60 r61 r62 r63 r64 r4, a = { tmps := T r36 r37 r38 r39 r40 r41 r42 r43 r44 r45 r46 r47 r48 r49 r50 r51 r52 r53 r54 r55 r56 r57 r58 r59 r60 r61 r62 r63 r64 r4, defers := [] } ∧ R9 wb B bX out l KK PP TT FF AA po pn lo co ln cn Q0 Q1 Q2 Q3 Q4 Q5 Q6 r36 r37 r38 r39 r40 r41 r42 r43 r44 r45 r46 r47 r48 r49 r50 r51 r52 r53 r54 r55 r56 r57 r58 r59 r60 r61 r62 r63 r64 r4 S w'

set_option maxHeartbeats 32000000 in
theorem dnput_any (p : Pa) (vd : Value) (pb : Option Addr) (nb cb : Nat) (w : World) (hnb : p.body.length = nb) (hd : StrsAt w vd p.deps) (hb : PrsAt w pb p.body) (hs : SmallPa p) (hlen : rightPa p = true → (patch13 p).length ≤ 60000000000000) (hT : Lib.TabIs Tryz.prog w pow10 .u64 Lib.pow10Tab) :
    Calls Tryz.prog 11 #[.agg #[.string p.name, vd, .slice pb nb cb]] w fun e w' => PutPost w p e w' := by
  have q1' := fun w1 (f : Fr None' w w1) => dnright_any p vd pb nb cb w1 hnb (hd.kept f) (hb.kept f) hs
  have HSd := toHid8 hd
  have HSb := toHid8 hb
  have HS := toHid8 hs
  have HT := toHid8 (T13.of hT)
  have HLen := toHid8 hlen
  obtain ⟨pa, ca, rfl, -, -, -⟩ := hd
  obtain ⟨n, hna⟩ : ∃ n, p.deps.length = n := ⟨_, rfl⟩
  have HA := toHid8 hna
  have HNb := toHid8 hnb
  obtain ⟨R, hR⟩ : ∃ R, rightPa p = R := ⟨_, rfl⟩
  have HR := toHid8 hR
  obtain ⟨w1, hw1⟩ : ∃ w1, w.alloc (.cells #[.string p.name, .slice pa n ca, .slice pb nb cb] 25) = w1 := ⟨_, rfl⟩
  have F1 : Fr None' w w1 := hw1 ▸ Fr.alloc None' w _
  have B1 : Box3 w1 w.heap.size (.string p.name) (.slice pa n ca) (.slice pb nb cb) := hw1 ▸ Box3.new w _ _ _
  have q1 := q1' w1 F1
  rw [hR, hna] at q1
  rw [hna]
  have HF1 := toHid8 F1
  have HB := toHid8 (fun w' (f : Fr None' w1 w') => (B1.kept f).cells)
  have HBx := toHid8 B1
  obtain ⟨a0, a1, a2⟩ := B1.cells
  unfold PutPost
  clear q1' hnb hb hs hlen hT hna hR F1 B1
  go_enter Tryz.func11, Tryz.ntmps11
  go_wp2_with fail
  with_reducible refine q1.mono ?_
  rintro e w2 ⟨rfl, f2⟩
  have HF2 := toHid8 f2
  clear a0 a1 a2 q1
  obtain ⟨a0, a1, a2⟩ := HB.out w2 f2
  clear f2
  cases R with
  | false =>
    go_wp2_with fail
    go_ret2
    exact ⟨fun h => by (rw [HR.out] at h; cases h), fun _ => rfl, HF1.out.then7 HF2.out⟩
  | true =>
    have HPu := toHid8 (HS.out.put HR.out)
    go_wp2_with fail
    obtain ⟨S1, hS1⟩ : ∃ S, mkB (text13 (unB p.name)) = S := ⟨_, rfl⟩
    obtain ⟨S2, hS2⟩ : ∃ S, mkB (list13 text13 (p.deps.map unB)) = S := ⟨_, rfl⟩
    obtain ⟨S3, hS3⟩ : ∃ S, mkB (num13 nb) = S := ⟨_, rfl⟩
    have HLn := toHid8 (HLen.out HR.out)
    have HPat := toHid8 (show patch13 p = unB (S1 ++ S2 ++ S3) ++ primsB p.body from by
      rw [← hS1, ← hS2, ← hS3, ← mkB_app, ← mkB_app, un_mk]
      unfold patch13 primsB list13
      rw [HNb.out]
      simp only [List.append_assoc])
    have HZs := toHid8 (show S1.size + S2.size + S3.size + (primsB p.body).length ≤ 60000000000000 from by
      have h1 := HLn.out
      rw [HPat.out, List.length_append, un_len, ByteArray.size_append, ByteArray.size_append] at h1
      exact h1)
    have z1 : S1.size ≤ 60000000000000 := by have := HZs.out; omega
    have z2 : S2.size ≤ 60000000000000 := by have := HZs.out; omega
    have z3 : S3.size ≤ 60000000000000 := by have := HZs.out; omega
    have z4 : ¬ (9223372036854775807 < S1.size + S2.size) := by omega
    have z5 : ¬ (9223372036854775807 < S1.size + S2.size + S3.size) := by omega
    have hF12 := HF1.out.then7 HF2.out
    have ht13 : top13 = 9223372036854775807 := rfl
    have HTw := toHid8 (fun w' (f : Fr (fun k => (.slice none 0 0 : Value).ownBlock = some k) w2 w') => (HT.out.kept hF12).kept (f.mono (fun k e => by cases e)))
    have HC1 := toHid8 (fun w' (f : Fr (fun k => (.slice none 0 0 : Value).ownBlock = some k) w2 w') => show Calls Tryz.prog 24 #[.string p.name] w' fun e w'' => e = .returned (.string S1) ∧ Fr None' w' w'' from by
      rw [← hS1]; exact dtext_any p.name _ HS.out.name w' (HTw.out w' f))
    have HC2 := toHid8 (fun w' (f : Fr (fun k => (.slice none 0 0 : Value).ownBlock = some k) w2 w') => show Calls Tryz.prog 25 #[.slice pa n ca] w' fun e w'' => e = .returned (.string S2) ∧ Fr None' w' w'' from by
      rw [← hS2]
      have h := dlist_any _ (.slice pa p.deps.length ca) p.deps w' (HTw.out w' f) (HSd.out.kept (hF12.then7 (f.mono (fun k e => by cases e)))) HS.out.deps.1 HS.out.deps.2
      rwa [HA.out] at h)
    have hnb13 : nb ≤ top13 := by rw [← HNb.out]; exact Nat.le_trans HS.out.body.1 (by decide)
    have HC3 := toHid8 (fun w' (f : Fr (fun k => (.slice none 0 0 : Value).ownBlock = some k) w2 w') => show Calls Tryz.prog 26 #[.int .i64 nb] w' fun e w'' => e = .returned (.string S3) ∧ Fr None' w' w'' from by
      rw [← hS3]; exact dnum_any nb _ hnb13 w' (HTw.out w' f))
    have HCl := toHid8 (fun w' (f : Fr (fun k => (.slice none 0 0 : Value).ownBlock = some k) w2 w') => HB.out w' (HF2.out.then7 (f.mono (fun k e => by cases e))))
    clear hS1 hS2 hS3 HTw hF12 ht13 hnb13 a0 a1 a2
    refine (wpIn_wide (n := 4)).1 (region_inv (by kernel_rfl) (by decide +kernel) (R4I w2 w2.heap.size w.heap.size p.name pa pb n ca nb cb S1 S2 S3 (fun t10 t11 t12 t13 t14 t15 t16 t17 t18 t19 t20 t21 t22 t23 t4 => #[.agg #[.string p.name, .slice pa n ca, .slice pb nb cb], .pointer (some ⟨w.heap.size, 0, none⟩), .slice none 0 0, .int .i64 0, t4, undef, undef, .agg #[.string p.name, .slice pa n ca, .slice pb nb cb], .bool true, .bool false, t10, t11, t12, t13, t14, t15, t16, t17, t18, t19, t20, t21, t22, t23, undef, undef, undef, undef, undef, undef, undef, undef, undef, undef, undef, undef, undef, undef, undef, undef, undef, undef, undef, undef, undef, undef, undef, undef, undef, undef, undef, undef, undef, undef, undef, undef, undef, undef, undef, undef, undef, undef, undef, undef, undef, undef])) ?h0 ?step ?done4)
    case h0 => exact ⟨undef, undef, undef, undef, undef, undef, undef, undef, undef, undef, undef, undef, undef, undef, _, rfl, Fr.drew _ _, (fun h => by cases h), (fun h => by cases h), (fun h => by cases h), (fun h => by cases h), (fun h => by cases h), (fun h => by cases h), (fun h => by cases h), (fun h => by cases h), (fun h => by cases h), (fun h => by cases h), (fun h => by cases h), (fun h => by cases h), (fun h => by cases h), (fun _ => OwnB13.nil _ _), (fun h => by cases h), (fun _ => rfl), (fun h => by cases h), (fun h => by cases h)⟩
    case step =>
      rintro S a w' ⟨t10, t11, t12, t13, t14, t15, t16, t17, t18, t19, t20, t21, t22, t23, t4, rfl, R⟩
      dsimp only
      refine StepsL.cons (fun h0 hd => ?s0) (StepsL.cons (fun h0 hd => ?s1) (StepsL.cons (fun h0 hd => ?s2) (StepsL.cons (fun h0 hd => ?s3) (StepsL.cons (fun h0 hd => ?s4) (StepsL.cons (fun h0 hd => ?s5) (StepsL.cons (fun h0 hd => ?s6) (StepsL.cons (fun h0 hd => ?s7) (StepsL.cons (fun h0 hd => ?s8) (StepsL.cons (fun h0 hd => ?s9) (StepsL.cons (fun h0 hd => ?s10) (StepsL.cons (fun h0 hd => ?s11) (StepsL.cons (fun h0 hd => ?s12) (StepsL.cons (fun h0 hd => ?s13) (StepsL.cons (fun h0 hd => ?s14) (StepsL.nil)))))))))))))))
      case s0 =>
       as_aux_lemma =>
        have hE : S 14 = false := by
          cases h : S 14 with
          | false => rfl
          | true => exact absurd (R.d2 (R.d1 h).2) (by rw [h0]; decide)
        have e4 := R.d0 hE
        subst e4
        clear hd hE
        go_simp
        exact ⟨_, _, _, _, _, _, _, _, _, _, _, _, _, _, _, rfl, R.fr, (fun _ => rfl), R.o1, R.o2, R.o3, R.o4, R.o5, R.o6, R.o7, R.o8, R.o9, R.o10, R.o11, R.o12, R.q0, R.q1, (fun _ => rfl), R.d1, (fun _ => rfl)⟩
      case s1 =>
       as_aux_lemma =>
        clear hd
        go_simp
        exact ⟨_, _, _, _, _, _, _, _, _, _, _, _, _, _, _, rfl, R.fr, R.o0, (fun _ => rfl), R.o2, R.o3, R.o4, R.o5, R.o6, R.o7, R.o8, R.o9, R.o10, R.o11, R.o12, R.q0, R.q1, R.d0, R.d1, R.d2⟩
      case s2 =>
       as_aux_lemma =>
        have hk1 : S 1 = true := hd { on := 1, ground := .data } (by simp) rfl
        have e1 := R.o1 hk1
        subst e1
        obtain ⟨c0, c1, c2⟩ := HCl.out w' R.fr
        clear hd hk1
        go_simp
        exact ⟨_, _, _, _, _, _, _, _, _, _, _, _, _, _, _, rfl, R.fr, R.o0, (fun _ => rfl), (fun _ => rfl), R.o3, R.o4, R.o5, R.o6, R.o7, R.o8, R.o9, R.o10, R.o11, R.o12, R.q0, R.q1, R.d0, R.d1, R.d2⟩
      case s3 =>
       as_aux_lemma =>
        have hk2 : S 2 = true := hd { on := 2, ground := .data } (by simp) rfl
        have e2 := R.o2 hk2
        subst e2
        clear hd hk2
        go_simp
        refine ⟨trivial, (callsIn_wide.2 (HC1.out w' R.fr)).mono ?_⟩
        rintro e w'' ⟨rfl, f⟩
        exact ⟨_, _, _, _, _, _, _, _, _, _, _, _, _, _, _, rfl, R.fr.trans f (fun _ e => e.elim), R.o0, R.o1, (fun _ => rfl), (fun _ => rfl), R.o4, R.o5, R.o6, R.o7, R.o8, R.o9, R.o10, R.o11, R.o12, (fun h => (R.q0 h).frame f (fun _ e => e.elim)), (fun h => (R.q1 h).frame f (fun _ e => e.elim)), R.d0, R.d1, R.d2⟩
      case s4 =>
       as_aux_lemma =>
        clear hd
        go_simp
        exact ⟨_, _, _, _, _, _, _, _, _, _, _, _, _, _, _, rfl, R.fr, R.o0, R.o1, R.o2, R.o3, (fun _ => rfl), R.o5, R.o6, R.o7, R.o8, R.o9, R.o10, R.o11, R.o12, R.q0, R.q1, R.d0, R.d1, R.d2⟩
      case s5 =>
       as_aux_lemma =>
        have hk4 : S 4 = true := hd { on := 4, ground := .data } (by simp) rfl
        have e4 := R.o4 hk4
        subst e4
        obtain ⟨c0, c1, c2⟩ := HCl.out w' R.fr
        clear hd hk4
        go_simp
        exact ⟨_, _, _, _, _, _, _, _, _, _, _, _, _, _, _, rfl, R.fr, R.o0, R.o1, R.o2, R.o3, (fun _ => rfl), (fun _ => rfl), R.o6, R.o7, R.o8, R.o9, R.o10, R.o11, R.o12, R.q0, R.q1, R.d0, R.d1, R.d2⟩
      case s6 =>
       as_aux_lemma =>
        have hk5 : S 5 = true := hd { on := 5, ground := .data } (by simp) rfl
        have e5 := R.o5 hk5
        subst e5
        clear hd hk5
        go_simp
        refine ⟨trivial, (callsIn_wide.2 (HC2.out w' R.fr)).mono ?_⟩
        rintro e w'' ⟨rfl, f⟩
        exact ⟨_, _, _, _, _, _, _, _, _, _, _, _, _, _, _, rfl, R.fr.trans f (fun _ e => e.elim), R.o0, R.o1, R.o2, R.o3, R.o4, (fun _ => rfl), (fun _ => rfl), R.o7, R.o8, R.o9, R.o10, R.o11, R.o12, (fun h => (R.q0 h).frame f (fun _ e => e.elim)), (fun h => (R.q1 h).frame f (fun _ e => e.elim)), R.d0, R.d1, R.d2⟩
      case s7 =>
       as_aux_lemma =>
        have hk3 : S 3 = true := hd { on := 3, ground := .data } (by simp) rfl
        have e3 := R.o3 hk3
        subst e3
        have hk6 : S 6 = true := hd { on := 6, ground := .data } (by simp) rfl
        have e6 := R.o6 hk6
        subst e6
        clear hd hk3 hk6
        go_simp
        exact ⟨_, _, _, _, _, _, _, _, _, _, _, _, _, _, _, rfl, R.fr, R.o0, R.o1, R.o2, (fun _ => rfl), R.o4, R.o5, (fun _ => rfl), (fun _ => rfl), R.o8, R.o9, R.o10, R.o11, R.o12, R.q0, R.q1, R.d0, R.d1, R.d2⟩
      case s8 =>
       as_aux_lemma =>
        clear hd
        go_simp
        exact ⟨_, _, _, _, _, _, _, _, _, _, _, _, _, _, _, rfl, R.fr, R.o0, R.o1, R.o2, R.o3, R.o4, R.o5, R.o6, R.o7, (fun _ => rfl), R.o9, R.o10, R.o11, R.o12, R.q0, R.q1, R.d0, R.d1, R.d2⟩
      case s9 =>
       as_aux_lemma =>
        have hk8 : S 8 = true := hd { on := 8, ground := .data } (by simp) rfl
        have e8 := R.o8 hk8
        subst e8
        obtain ⟨c0, c1, c2⟩ := HCl.out w' R.fr
        clear hd hk8
        go_simp
        exact ⟨_, _, _, _, _, _, _, _, _, _, _, _, _, _, _, rfl, R.fr, R.o0, R.o1, R.o2, R.o3, R.o4, R.o5, R.o6, R.o7, (fun _ => rfl), (fun _ => rfl), R.o10, R.o11, R.o12, R.q0, R.q1, R.d0, R.d1, R.d2⟩
      case s10 =>
       as_aux_lemma =>
        have hk9 : S 9 = true := hd { on := 9, ground := .data } (by simp) rfl
        have e9 := R.o9 hk9
        subst e9
        clear hd hk9
        go_simp
        exact ⟨_, _, _, _, _, _, _, _, _, _, _, _, _, _, _, rfl, R.fr, R.o0, R.o1, R.o2, R.o3, R.o4, R.o5, R.o6, R.o7, R.o8, (fun _ => rfl), (fun _ => rfl), R.o11, R.o12, R.q0, R.q1, R.d0, R.d1, R.d2⟩
      case s11 =>
       as_aux_lemma =>
        have hk10 : S 10 = true := hd { on := 10, ground := .data } (by simp) rfl
        have e10 := R.o10 hk10
        subst e10
        clear hd hk10
        go_simp
        refine ⟨trivial, (callsIn_wide.2 (HC3.out w' R.fr)).mono ?_⟩
        rintro e w'' ⟨rfl, f⟩
        exact ⟨_, _, _, _, _, _, _, _, _, _, _, _, _, _, _, rfl, R.fr.trans f (fun _ e => e.elim), R.o0, R.o1, R.o2, R.o3, R.o4, R.o5, R.o6, R.o7, R.o8, R.o9, (fun _ => rfl), (fun _ => rfl), R.o12, (fun h => (R.q0 h).frame f (fun _ e => e.elim)), (fun h => (R.q1 h).frame f (fun _ e => e.elim)), R.d0, R.d1, R.d2⟩
      case s12 =>
       as_aux_lemma =>
        have hk7 : S 7 = true := hd { on := 7, ground := .data } (by simp) rfl
        have e7 := R.o7 hk7
        subst e7
        have hk11 : S 11 = true := hd { on := 11, ground := .data } (by simp) rfl
        have e11 := R.o11 hk11
        subst e11
        clear hd hk7 hk11
        go_simp
        exact ⟨_, _, _, _, _, _, _, _, _, _, _, _, _, _, _, rfl, R.fr, R.o0, R.o1, R.o2, R.o3, R.o4, R.o5, R.o6, (fun _ => rfl), R.o8, R.o9, R.o10, (fun _ => rfl), (fun _ => rfl), R.q0, R.q1, R.d0, R.d1, R.d2⟩
      case s13 =>
       as_aux_lemma =>
        have hk0 : S 0 = true := hd { on := 0, ground := .data } (by simp) rfl
        have e0 := R.o0 hk0
        subst e0
        have hk12 : S 12 = true := hd { on := 12, ground := .data } (by simp) rfl
        have e12 := R.o12 hk12
        subst e12
        have hE : S 14 = false := by
          cases h : S 14 with
          | false => rfl
          | true => exact absurd (R.d1 h).2 (by rw [h0]; decide)
        have k0 := h0
        have hz : S 0 = true := hk0
        obtain ⟨v', w'', hr, hO, f⟩ := (R.q0 h0).app (S1 ++ S2 ++ S3) (by rw [ByteArray.size_append, ByteArray.size_append]; have := HZs.out; simp; omega) (Nat.le_trans (Nat.le_refl _) R.fr.size)
        refine wpIn_app13 rfl (fun f hf => trivial) (.tmp 10) (.tmp 22) _ _ rfl rfl rfl hr ?_
        clear hd hk0 hk12
        go_simp
        exact ⟨_, _, _, _, _, _, _, _, _, _, _, _, _, _, _, rfl, R.fr.trans f (fun _ e => Or.inl e), (fun _ => rfl), R.o1, R.o2, R.o3, R.o4, R.o5, R.o6, R.o7, R.o8, R.o9, R.o10, R.o11, (fun _ => rfl), (fun h => by cases h), (fun _ => hO), R.d0, (fun h => absurd (show S 14 = true from h) (by rw [hE]; decide)), (fun _ => hz)⟩
      case s14 =>
       as_aux_lemma =>
        have hA : S 13 = true := hd { on := 13, ground := .data } (by simp) rfl
        clear hd
        go_simp
        exact ⟨_, _, _, _, _, _, _, _, _, _, _, _, _, _, _, rfl, R.fr, R.o0, R.o1, R.o2, R.o3, R.o4, R.o5, R.o6, R.o7, R.o8, R.o9, R.o10, R.o11, R.o12, R.q0, R.q1, (fun h => by cases h), (fun _ => ⟨rfl, hA⟩), R.d2⟩
    case done4 =>
      rintro S a w3 ⟨t10, t11, t12, t13, t14, t15, t16, t17, t18, t19, t20, t21, t22, t23, t4, rfl, R⟩ hall
      dsimp only
      obtain ⟨e4, hA⟩ := R.d1 (hall 14 (by simp))
      subst e4
      have HFR := toHid8 R.fr
      have HOW := toHid8 (R.q1 hA)
      clear R hall hA
      have HUl := toHid8 (show (unB (S1 ++ S2 ++ S3)).length = S1.size + S2.size + S3.size from by rw [un_len, ByteArray.size_append, ByteArray.size_append])
      obtain ⟨U, hU⟩ : ∃ U, unB (S1 ++ S2 ++ S3) = U := ⟨_, rfl⟩
      rw [hU] at HOW HPat HUl
      have H3 := toHid8 (show OwnB13 w2.heap.size w3 t4 (U ++ primsB (p.body.take 0)) ∧ Fr None' w2 w3 from ⟨by
        have h := HOW.out
        rw [List.nil_append] at h
        show OwnB13 _ _ _ (U ++ [])
        rw [List.append_nil]
        exact h, HFR.out.mono (fun k e => by cases e)⟩)
      have hnbI : (nb : Int) ≤ 1000000 := by have h1 := HS.out.body.1; rw [HNb.out] at h1; omega
      have HTop := toHid8 (show U.length + (primsB p.body).length ≤ 60000000000000 from by rw [HUl.out]; exact HZs.out)
      have HQ := toHid8 (show ∀ w', Fr None' w2 w' → w'.cell? ⟨w.heap.size, 0, none⟩ = some (.string p.name) ∧ w'.cell? ⟨w.heap.size, 1, none⟩ = some (.slice pa n ca) ∧ w'.cell? ⟨w.heap.size, 2, none⟩ = some (.slice pb nb cb) from fun w' f => HB.out w' (HF2.out.then7 f))
      obtain ⟨a0, a1, a2⟩ := HQ.out w3 H3.out.2
      clear hU HOW HFR HC1 HC2 HC3 HCl z1 z2 z3 z4 z5 HZs HUl HLn
      go_wp2_with fail
      go_loopw [4, 5] (fun vo vi wr => ∃ k : Nat, k ≤ nb ∧ vi = .int .i64 k ∧ Hid (OwnB13 w2.heap.size wr vo (U ++ primsB (p.body.take k)) ∧ Fr None' w2 wr)) (fun _ vi _ => nb - (intOf vi).toNat)
      case atStart => exact ⟨0, Nat.zero_le _, rfl, H3.out⟩
      case round =>
        obtain ⟨k, hk, rfl, HK⟩ := hrel
        obtain ⟨a0, a1, a2⟩ := HQ.out wr HK.out.2
        by_cases hlt : k < nb
        case neg =>
          have HE := toHid8 (show OwnB13 w2.heap.size wr u4 (patch13 p) from by
            have h := HK.out.1
            rw [List.take_of_length_le (by rw [HNb.out]; omega)] at h
            rw [HPat.out]
            exact h)
          have i2 : ¬ (k : Int) < (nb : Int) := by omega
          clear hlt
          go_wp2_with fail
          go_ret2
          exact ⟨fun _ => ⟨_, rfl, HE.out.by⟩, fun h => by (rw [HR.out] at h; cases h), (HF1.out.then7 HF2.out).then7 HK.out.2⟩
        case pos =>
          have hka : k < p.body.length := by rw [HNb.out]; exact hlt
          have hsn := primsB_snoc hka
          have hle := primsB_le p.body (k + 1)
          have hpx := HPu.out.body.2 _ (List.getElem_mem hka)
          have fwr := (HF1.out.then7 HF2.out).then7 HK.out.2
          obtain ⟨g, o, rfl, vo, vn, c0, c1, c2, c3, c4, c5, c6, s1, s2⟩ := HSb.out.get hka
          have c0 := fwr.keepCell c0 (fun e => e)
          have c1 := fwr.keepCell c1 (fun e => e)
          have c2 := fwr.keepCell c2 (fun e => e)
          have c3 := fwr.keepCell c3 (fun e => e)
          have c4 := fwr.keepCell c4 (fun e => e)
          have c5 := fwr.keepCell c5 (fun e => e)
          have c6 := fwr.keepCell c6 (fun e => e)
          have hsx := HS.out.body.2 _ (List.getElem_mem hka)
          obtain ⟨x, hx⟩ : ∃ x, p.body[k] = x := ⟨_, rfl⟩
          rw [hx] at hsn hpx hsx c0 c1 c2 c3 c4 s1 s2
          rw [hsn, List.length_append] at hle
          have HSn := toHid8 hsn
          have HLe := toHid8 hle
          have HPx := toHid8 hpx
          have HSx := toHid8 hsx
          have HS1 := toHid8 s1
          have HS2 := toHid8 s2
          obtain ⟨po, co, rfl, -, -, -⟩ := s1
          obtain ⟨pn, cn, rfl, -, -, -⟩ := s2
          obtain ⟨lo, hlo⟩ : ∃ y, x.old.length = y := ⟨_, rfl⟩
          obtain ⟨ln, hln⟩ : ∃ y, x.new.length = y := ⟨_, rfl⟩
          rw [hlo] at c5
          rw [hln] at c6
          have HLo := toHid8 hlo
          have HLn := toHid8 hln
          have i2 : (k : Int) < (nb : Int) := by omega
          have i3 : (0 : Int) ≤ (k : Int) := by omega
          have HLt := toHid8 hlt
          clear hsn hle hpx hsx hx hlo hln fwr
          obtain ⟨KK, hKK⟩ : ∃ y : Nat, x.kind = (y : Int) := ⟨x.kind.toNat, (Int.toNat_of_nonneg HPx.out.kind.1).symm⟩
          obtain ⟨PP, hPP⟩ : ∃ y, x.path = y := ⟨_, rfl⟩
          obtain ⟨TT, hTT⟩ : ∃ y, x.dst = y := ⟨_, rfl⟩
          obtain ⟨FF, hFF⟩ : ∃ y, x.src = y := ⟨_, rfl⟩
          obtain ⟨AA, hAA⟩ : ∃ y : Nat, x.pos = (y : Int) := ⟨x.pos.toNat, (Int.toNat_of_nonneg HPx.out.pos.1).symm⟩
          rw [hKK] at c0
          rw [hPP] at c1
          rw [hTT] at c2
          rw [hFF] at c3
          rw [hAA] at c4
          have HXs := toHid8 (show x.kind = (KK : Int) ∧ x.path = PP ∧ x.dst = TT ∧ x.src = FF ∧ x.pos = (AA : Int) from ⟨hKK, hPP, hTT, hFF, hAA⟩)
          clear hKK hPP hTT hFF hAA
          obtain ⟨wx, hwx⟩ : ∃ y, wr.alloc (.cells #[.int .i64 KK, .string PP, .string TT, .string FF, .int .i64 AA, .slice po lo co, .slice pn ln cn] 41) = y := ⟨_, rfl⟩
          have Fx : Fr None' wr wx := hwx ▸ Fr.alloc None' wr _
          have HBx := toHid8 (show Box wx wr.heap.size (.int .i64 KK) (.string PP) (.string TT) (.string FF) (.int .i64 AA) (.slice po lo co) (.slice pn ln cn) from hwx ▸ Box.new wr _ _ _ _ _ _ _)
          have HFx := toHid8 Fx
          clear Fx
          go_wp2_with fail
          have HOx := toHid8 (HK.out.1.frame HFx.out (fun _ e => e.elim))
          have HBw := toHid8 (show w2.heap.size ≤ wx.heap.size from Nat.le_trans HK.out.2.size HFx.out.size)
          have hge := HK.out.1.ge
          have hlt4 := fun i (e : u4.ownBlock = some i) => HK.out.1.lt e
          have hww : w.heap.size ≤ w2.heap.size := (HF1.out.then7 HF2.out).size
          have hwx0 : Fr None' w wx := ((HF1.out.then7 HF2.out).then7 HK.out.2).then7 HFx.out
          have HTw := toHid8 (fun w' (f : Fr (fun k => u4.ownBlock = some k) wx w') => (HT.out.kept hwx0).fr f (fun i e => Nat.le_trans hww (hge i e)))
          have HCl := toHid8 (fun w' (f : Fr (fun k => u4.ownBlock = some k) wx w') => (HBx.out.fr f (fun e => by have := hlt4 _ e; omega)).cells)
          have HR1 := toHid8 (fun w' (f : Fr (fun k => u4.ownBlock = some k) wx w') => (HS1.out.kept hwx0).far f (fun hl i e e' => by have h1 := HS1.out.lt hl e; have h2 := hge i e'; omega))
          have HR2 := toHid8 (fun w' (f : Fr (fun k => u4.ownBlock = some k) wx w') => (HS2.out.kept hwx0).far f (fun hl i e e' => by have h1 := HS2.out.lt hl e; have h2 := hge i e'; omega))
          obtain ⟨ek, ep, et, ef, ea⟩ := HXs.out
          obtain ⟨⟨-, kk2⟩, bp, bt, bf, ⟨-, aa2⟩, bo, bn⟩ := HPx.out
          have hsx := HSx.out
          obtain ⟨Q0, hQ0⟩ : ∃ S, mkB (num13 KK) = S := ⟨_, rfl⟩
          obtain ⟨Q1, hQ1⟩ : ∃ S, mkB (text13 (unB PP)) = S := ⟨_, rfl⟩
          obtain ⟨Q2, hQ2⟩ : ∃ S, mkB (text13 (unB TT)) = S := ⟨_, rfl⟩
          obtain ⟨Q3, hQ3⟩ : ∃ S, mkB (text13 (unB FF)) = S := ⟨_, rfl⟩
          obtain ⟨Q4, hQ4⟩ : ∃ S, mkB (num13 AA) = S := ⟨_, rfl⟩
          obtain ⟨Q5, hQ5⟩ : ∃ S, mkB (list13 text13 (x.old.map unB)) = S := ⟨_, rfl⟩
          obtain ⟨Q6, hQ6⟩ : ∃ S, mkB (list13 text13 (x.new.map unB)) = S := ⟨_, rfl⟩
          have HXb := toHid8 (show prim13 x = unB (Q0 ++ Q1 ++ Q2 ++ Q3 ++ Q4 ++ Q5 ++ Q6) from by
            rw [← hQ0, ← hQ1, ← hQ2, ← hQ3, ← hQ4, ← hQ5, ← hQ6, prim_app]
            unfold prim13
            rw [ek, ep, et, ef, ea]
            rfl)
          have hsum : Q0.size + Q1.size + Q2.size + Q3.size + Q4.size + Q5.size + Q6.size + (U ++ primsB (p.body.take k)).length ≤ 60000000000000 := by
            have h1 := HLe.out
            have h2 := HTop.out
            rw [HXb.out, un_len] at h1
            simp only [ByteArray.size_append] at h1
            rw [List.length_append]
            omega
          have HLe9 := toHid8 (show (U ++ primsB (p.body.take k)).length + (Q0 ++ Q1 ++ Q2 ++ Q3 ++ Q4 ++ Q5 ++ Q6).size ≤ 140737488355328 from by
            simp only [ByteArray.size_append]
            omega)
          have y2 : ¬ (9223372036854775807 < Q0.size + Q1.size) := by omega
          have y3 : ¬ (9223372036854775807 < Q0.size + Q1.size + Q2.size) := by omega
          have y4 : ¬ (9223372036854775807 < Q0.size + Q1.size + Q2.size + Q3.size) := by omega
          have y5 : ¬ (9223372036854775807 < Q0.size + Q1.size + Q2.size + Q3.size + Q4.size) := by omega
          have y6 : ¬ (9223372036854775807 < Q0.size + Q1.size + Q2.size + Q3.size + Q4.size + Q5.size) := by omega
          have y7 : ¬ (9223372036854775807 < Q0.size + Q1.size + Q2.size + Q3.size + Q4.size + Q5.size + Q6.size) := by omega
          have HD0 := toHid8 (fun w' (f : Fr (fun k => u4.ownBlock = some k) wx w') => show Calls Tryz.prog 26 #[.int .i64 KK] w' fun e w'' => e = .returned (.string Q0) ∧ Fr None' w' w'' from by
            rw [← hQ0]; exact dnum_any KK _ (by rw [ek] at kk2; exact kk2) w' (HTw.out w' f))
          have HD1 := toHid8 (fun w' (f : Fr (fun k => u4.ownBlock = some k) wx w') => show Calls Tryz.prog 24 #[.string PP] w' fun e w'' => e = .returned (.string Q1) ∧ Fr None' w' w'' from by
            rw [← hQ1]; exact dtext_any PP _ (by rw [← ep]; exact bp) w' (HTw.out w' f))
          have HD2 := toHid8 (fun w' (f : Fr (fun k => u4.ownBlock = some k) wx w') => show Calls Tryz.prog 24 #[.string TT] w' fun e w'' => e = .returned (.string Q2) ∧ Fr None' w' w'' from by
            rw [← hQ2]; exact dtext_any TT _ (by rw [← et]; exact bt) w' (HTw.out w' f))
          have HD3 := toHid8 (fun w' (f : Fr (fun k => u4.ownBlock = some k) wx w') => show Calls Tryz.prog 24 #[.string FF] w' fun e w'' => e = .returned (.string Q3) ∧ Fr None' w' w'' from by
            rw [← hQ3]; exact dtext_any FF _ (by rw [← ef]; exact bf) w' (HTw.out w' f))
          have HD4 := toHid8 (fun w' (f : Fr (fun k => u4.ownBlock = some k) wx w') => show Calls Tryz.prog 26 #[.int .i64 AA] w' fun e w'' => e = .returned (.string Q4) ∧ Fr None' w' w'' from by
            rw [← hQ4]; exact dnum_any AA _ (by rw [ea] at aa2; exact aa2) w' (HTw.out w' f))
          have HD5 := toHid8 (fun w' (f : Fr (fun k => u4.ownBlock = some k) wx w') => show Calls Tryz.prog 25 #[.slice po lo co] w' fun e w'' => e = .returned (.string Q5) ∧ Fr None' w' w'' from by
            rw [← hQ5]
            have h := dlist_any _ (.slice po x.old.length co) x.old w' (HTw.out w' f) (HR1.out w' f) (by have := hsx.old; omega) bo.2
            rwa [HLo.out] at h)
          have HD6 := toHid8 (fun w' (f : Fr (fun k => u4.ownBlock = some k) wx w') => show Calls Tryz.prog 25 #[.slice pn ln cn] w' fun e w'' => e = .returned (.string Q6) ∧ Fr None' w' w'' from by
            rw [← hQ6]
            have h := dlist_any _ (.slice pn x.new.length cn) x.new w' (HTw.out w' f) (HR2.out w' f) (by have := hsx.new; omega) bn.2
            rwa [HLn.out] at h)
          have HGe := toHid8 hge
          clear hQ0 hQ1 hQ2 hQ3 hQ4 hQ5 hQ6 ek ep et ef ea kk2 bp bt bf aa2 bo bn hsx hsum hge hlt4 hww hwx0 c0 c1 c2 c3 c4 c5 c6 a0 a1 a2
          refine (wpIn_wide (n := 9)).1 (region_inv (by kernel_rfl) (by decide +kernel) (R9I wx w2.heap.size wr.heap.size u4 (U ++ primsB (p.body.take k)) KK PP TT FF AA po pn lo co ln cn Q0 Q1 Q2 Q3 Q4 Q5 Q6 (fun r36 r37 r38 r39 r40 r41 r42 r43 r44 r45 r46 r47 r48 r49 r50 r51 r52 r53 r54 r55 r56 r57 r58 r59 r60 r61 r62 r63 r64 r4 => #[.agg #[.string p.name, .slice pa n ca, .slice (some ⟨g, o, none⟩) nb cb], .pointer (some ⟨w.heap.size, 0, none⟩), .slice none 0 0, .int .i64 0, r4, .int .i64 k, .pointer (some ⟨wr.heap.size, 0, none⟩), .agg #[.string p.name, .slice pa n ca, .slice (some ⟨g, o, none⟩) nb cb], .bool true, .bool false, t10, t11, t12, t13, t14, t15, t16, t17, t18, t19, t20, t21, t22, t4, .int .i64 k, .pointer (some ⟨w.heap.size, 2, none⟩), .slice (some ⟨g, o, none⟩) nb cb, .int .i64 nb, .bool true, u29, u30, .pointer (some ⟨w.heap.size, 2, none⟩), .slice (some ⟨g, o, none⟩) nb cb, .int .i64 k, .pointer (some ⟨g, o + k * 7, none⟩), .agg #[.int .i64 KK, .string PP, .string TT, .string FF, .int .i64 AA, .slice po lo co, .slice pn ln cn], r36, r37, r38, r39, r40, r41, r42, r43, r44, r45, r46, r47, r48, r49, r50, r51, r52, r53, r54, r55, r56, r57, r58, r59, r60, r61, r62, r63, r64, undef])) ?h0 ?step ?done9)
          case h0 => exact ⟨u36, u37, u38, u39, u40, u41, u42, u43, u44, u45, u46, u47, u48, u49, u50, u51, u52, u53, u54, u55, u56, u57, u58, u59, u60, u61, u62, u63, u64, _, rfl, Fr.drew _ _, (fun h => by cases h), (fun h => by cases h), (fun h => by cases h), (fun h => by cases h), (fun h => by cases h), (fun h => by cases h), (fun h => by cases h), (fun h => by cases h), (fun h => by cases h), (fun h => by cases h), (fun h => by cases h), (fun h => by cases h), (fun h => by cases h), (fun h => by cases h), (fun h => by cases h), (fun h => by cases h), (fun h => by cases h), (fun h => by cases h), (fun h => by cases h), (fun h => by cases h), (fun h => by cases h), (fun h => by cases h), (fun h => by cases h), (fun h => by cases h), (fun h => by cases h), (fun h => by cases h), (fun h => by cases h), (fun h => by cases h), (fun _ => HOx.out), (fun h => by cases h), (fun _ => rfl), (fun h => by cases h), (fun h => by cases h)⟩
          case step =>
            rintro S a w' ⟨r36, r37, r38, r39, r40, r41, r42, r43, r44, r45, r46, r47, r48, r49, r50, r51, r52, r53, r54, r55, r56, r57, r58, r59, r60, r61, r62, r63, r64, r4, rfl, R⟩
            dsimp only
            refine StepsL.cons (fun h0 hd => ?s0) (StepsL.cons (fun h0 hd => ?s1) (StepsL.cons (fun h0 hd => ?s2) (StepsL.cons (fun h0 hd => ?s3) (StepsL.cons (fun h0 hd => ?s4) (StepsL.cons (fun h0 hd => ?s5) (StepsL.cons (fun h0 hd => ?s6) (StepsL.cons (fun h0 hd => ?s7) (StepsL.cons (fun h0 hd => ?s8) (StepsL.cons (fun h0 hd => ?s9) (StepsL.cons (fun h0 hd => ?s10) (StepsL.cons (fun h0 hd => ?s11) (StepsL.cons (fun h0 hd => ?s12) (StepsL.cons (fun h0 hd => ?s13) (StepsL.cons (fun h0 hd => ?s14) (StepsL.cons (fun h0 hd => ?s15) (StepsL.cons (fun h0 hd => ?s16) (StepsL.cons (fun h0 hd => ?s17) (StepsL.cons (fun h0 hd => ?s18) (StepsL.cons (fun h0 hd => ?s19) (StepsL.cons (fun h0 hd => ?s20) (StepsL.cons (fun h0 hd => ?s21) (StepsL.cons (fun h0 hd => ?s22) (StepsL.cons (fun h0 hd => ?s23) (StepsL.cons (fun h0 hd => ?s24) (StepsL.cons (fun h0 hd => ?s25) (StepsL.cons (fun h0 hd => ?s26) (StepsL.cons (fun h0 hd => ?s27) (StepsL.cons (fun h0 hd => ?s28) (StepsL.cons (fun h0 hd => ?s29) (StepsL.nil))))))))))))))))))))))))))))))
            case s0 =>
             as_aux_lemma =>
              have hE : S 29 = false := by
                cases h : S 29 with
                | false => rfl
                | true => exact absurd (R.d2 (R.d1 h).2) (by rw [h0]; decide)
              have e4 := R.d0 hE
              subst e4
              clear hd hE
              go_simp
              exact ⟨_, _, _, _, _, _, _, _, _, _, _, _, _, _, _, _, _, _, _, _, _, _, _, _, _, _, _, _, _, _, rfl, R.fr, (fun _ => rfl), R.o1, R.o2, R.o3, R.o4, R.o5, R.o6, R.o7, R.o8, R.o9, R.o10, R.o11, R.o12, R.o13, R.o14, R.o15, R.o16, R.o17, R.o18, R.o19, R.o20, R.o21, R.o22, R.o23, R.o24, R.o25, R.o26, R.o27, R.q0, R.q1, (fun _ => rfl), R.d1, (fun _ => rfl)⟩
            case s1 =>
             as_aux_lemma =>
              clear hd
              go_simp
              exact ⟨_, _, _, _, _, _, _, _, _, _, _, _, _, _, _, _, _, _, _, _, _, _, _, _, _, _, _, _, _, _, rfl, R.fr, R.o0, (fun _ => rfl), R.o2, R.o3, R.o4, R.o5, R.o6, R.o7, R.o8, R.o9, R.o10, R.o11, R.o12, R.o13, R.o14, R.o15, R.o16, R.o17, R.o18, R.o19, R.o20, R.o21, R.o22, R.o23, R.o24, R.o25, R.o26, R.o27, R.q0, R.q1, R.d0, R.d1, R.d2⟩
            case s2 =>
             as_aux_lemma =>
              have hk1 : S 1 = true := hd { on := 1, ground := .data } (by simp) rfl
              have e1 := R.o1 hk1
              subst e1
              obtain ⟨x0, x1, x2, x3, x4, x5, x6⟩ := HCl.out w' R.fr
              clear hd hk1
              go_simp
              exact ⟨_, _, _, _, _, _, _, _, _, _, _, _, _, _, _, _, _, _, _, _, _, _, _, _, _, _, _, _, _, _, rfl, R.fr, R.o0, (fun _ => rfl), (fun _ => rfl), R.o3, R.o4, R.o5, R.o6, R.o7, R.o8, R.o9, R.o10, R.o11, R.o12, R.o13, R.o14, R.o15, R.o16, R.o17, R.o18, R.o19, R.o20, R.o21, R.o22, R.o23, R.o24, R.o25, R.o26, R.o27, R.q0, R.q1, R.d0, R.d1, R.d2⟩
            case s3 =>
             as_aux_lemma =>
              have hk2 : S 2 = true := hd { on := 2, ground := .data } (by simp) rfl
              have e2 := R.o2 hk2
              subst e2
              clear hd hk2
              go_simp
              refine ⟨trivial, (callsIn_wide.2 (HD0.out w' R.fr)).mono ?_⟩
              rintro e w'' ⟨rfl, f⟩
              exact ⟨_, _, _, _, _, _, _, _, _, _, _, _, _, _, _, _, _, _, _, _, _, _, _, _, _, _, _, _, _, _, rfl, R.fr.trans f (fun _ e => e.elim), R.o0, R.o1, (fun _ => rfl), (fun _ => rfl), R.o4, R.o5, R.o6, R.o7, R.o8, R.o9, R.o10, R.o11, R.o12, R.o13, R.o14, R.o15, R.o16, R.o17, R.o18, R.o19, R.o20, R.o21, R.o22, R.o23, R.o24, R.o25, R.o26, R.o27, (fun h => (R.q0 h).frame f (fun _ e => e.elim)), (fun h => (R.q1 h).frame f (fun _ e => e.elim)), R.d0, R.d1, R.d2⟩
            case s4 =>
             as_aux_lemma =>
              clear hd
              go_simp
              exact ⟨_, _, _, _, _, _, _, _, _, _, _, _, _, _, _, _, _, _, _, _, _, _, _, _, _, _, _, _, _, _, rfl, R.fr, R.o0, R.o1, R.o2, R.o3, (fun _ => rfl), R.o5, R.o6, R.o7, R.o8, R.o9, R.o10, R.o11, R.o12, R.o13, R.o14, R.o15, R.o16, R.o17, R.o18, R.o19, R.o20, R.o21, R.o22, R.o23, R.o24, R.o25, R.o26, R.o27, R.q0, R.q1, R.d0, R.d1, R.d2⟩
            case s5 =>
             as_aux_lemma =>
              have hk4 : S 4 = true := hd { on := 4, ground := .data } (by simp) rfl
              have e4 := R.o4 hk4
              subst e4
              obtain ⟨x0, x1, x2, x3, x4, x5, x6⟩ := HCl.out w' R.fr
              clear hd hk4
              go_simp
              exact ⟨_, _, _, _, _, _, _, _, _, _, _, _, _, _, _, _, _, _, _, _, _, _, _, _, _, _, _, _, _, _, rfl, R.fr, R.o0, R.o1, R.o2, R.o3, (fun _ => rfl), (fun _ => rfl), R.o6, R.o7, R.o8, R.o9, R.o10, R.o11, R.o12, R.o13, R.o14, R.o15, R.o16, R.o17, R.o18, R.o19, R.o20, R.o21, R.o22, R.o23, R.o24, R.o25, R.o26, R.o27, R.q0, R.q1, R.d0, R.d1, R.d2⟩
            case s6 =>
             as_aux_lemma =>
              have hk5 : S 5 = true := hd { on := 5, ground := .data } (by simp) rfl
              have e5 := R.o5 hk5
              subst e5
              clear hd hk5
              go_simp
              refine ⟨trivial, (callsIn_wide.2 (HD1.out w' R.fr)).mono ?_⟩
              rintro e w'' ⟨rfl, f⟩
              exact ⟨_, _, _, _, _, _, _, _, _, _, _, _, _, _, _, _, _, _, _, _, _, _, _, _, _, _, _, _, _, _, rfl, R.fr.trans f (fun _ e => e.elim), R.o0, R.o1, R.o2, R.o3, R.o4, (fun _ => rfl), (fun _ => rfl), R.o7, R.o8, R.o9, R.o10, R.o11, R.o12, R.o13, R.o14, R.o15, R.o16, R.o17, R.o18, R.o19, R.o20, R.o21, R.o22, R.o23, R.o24, R.o25, R.o26, R.o27, (fun h => (R.q0 h).frame f (fun _ e => e.elim)), (fun h => (R.q1 h).frame f (fun _ e => e.elim)), R.d0, R.d1, R.d2⟩
            case s7 =>
             as_aux_lemma =>
              have hk3 : S 3 = true := hd { on := 3, ground := .data } (by simp) rfl
              have e3 := R.o3 hk3
              subst e3
              have hk6 : S 6 = true := hd { on := 6, ground := .data } (by simp) rfl
              have e6 := R.o6 hk6
              subst e6
              clear hd hk3 hk6
              go_simp
              exact ⟨_, _, _, _, _, _, _, _, _, _, _, _, _, _, _, _, _, _, _, _, _, _, _, _, _, _, _, _, _, _, rfl, R.fr, R.o0, R.o1, R.o2, (fun _ => rfl), R.o4, R.o5, (fun _ => rfl), (fun _ => rfl), R.o8, R.o9, R.o10, R.o11, R.o12, R.o13, R.o14, R.o15, R.o16, R.o17, R.o18, R.o19, R.o20, R.o21, R.o22, R.o23, R.o24, R.o25, R.o26, R.o27, R.q0, R.q1, R.d0, R.d1, R.d2⟩
            case s8 =>
             as_aux_lemma =>
              clear hd
              go_simp
              exact ⟨_, _, _, _, _, _, _, _, _, _, _, _, _, _, _, _, _, _, _, _, _, _, _, _, _, _, _, _, _, _, rfl, R.fr, R.o0, R.o1, R.o2, R.o3, R.o4, R.o5, R.o6, R.o7, (fun _ => rfl), R.o9, R.o10, R.o11, R.o12, R.o13, R.o14, R.o15, R.o16, R.o17, R.o18, R.o19, R.o20, R.o21, R.o22, R.o23, R.o24, R.o25, R.o26, R.o27, R.q0, R.q1, R.d0, R.d1, R.d2⟩
            case s9 =>
             as_aux_lemma =>
              have hk8 : S 8 = true := hd { on := 8, ground := .data } (by simp) rfl
              have e8 := R.o8 hk8
              subst e8
              obtain ⟨x0, x1, x2, x3, x4, x5, x6⟩ := HCl.out w' R.fr
              clear hd hk8
              go_simp
              exact ⟨_, _, _, _, _, _, _, _, _, _, _, _, _, _, _, _, _, _, _, _, _, _, _, _, _, _, _, _, _, _, rfl, R.fr, R.o0, R.o1, R.o2, R.o3, R.o4, R.o5, R.o6, R.o7, (fun _ => rfl), (fun _ => rfl), R.o10, R.o11, R.o12, R.o13, R.o14, R.o15, R.o16, R.o17, R.o18, R.o19, R.o20, R.o21, R.o22, R.o23, R.o24, R.o25, R.o26, R.o27, R.q0, R.q1, R.d0, R.d1, R.d2⟩
            case s10 =>
             as_aux_lemma =>
              have hk9 : S 9 = true := hd { on := 9, ground := .data } (by simp) rfl
              have e9 := R.o9 hk9
              subst e9
              clear hd hk9
              go_simp
              refine ⟨trivial, (callsIn_wide.2 (HD2.out w' R.fr)).mono ?_⟩
              rintro e w'' ⟨rfl, f⟩
              exact ⟨_, _, _, _, _, _, _, _, _, _, _, _, _, _, _, _, _, _, _, _, _, _, _, _, _, _, _, _, _, _, rfl, R.fr.trans f (fun _ e => e.elim), R.o0, R.o1, R.o2, R.o3, R.o4, R.o5, R.o6, R.o7, R.o8, (fun _ => rfl), (fun _ => rfl), R.o11, R.o12, R.o13, R.o14, R.o15, R.o16, R.o17, R.o18, R.o19, R.o20, R.o21, R.o22, R.o23, R.o24, R.o25, R.o26, R.o27, (fun h => (R.q0 h).frame f (fun _ e => e.elim)), (fun h => (R.q1 h).frame f (fun _ e => e.elim)), R.d0, R.d1, R.d2⟩
            case s11 =>
             as_aux_lemma =>
              have hk7 : S 7 = true := hd { on := 7, ground := .data } (by simp) rfl
              have e7 := R.o7 hk7
              subst e7
              have hk10 : S 10 = true := hd { on := 10, ground := .data } (by simp) rfl
              have e10 := R.o10 hk10
              subst e10
              clear hd hk7 hk10
              go_simp
              exact ⟨_, _, _, _, _, _, _, _, _, _, _, _, _, _, _, _, _, _, _, _, _, _, _, _, _, _, _, _, _, _, rfl, R.fr, R.o0, R.o1, R.o2, R.o3, R.o4, R.o5, R.o6, (fun _ => rfl), R.o8, R.o9, (fun _ => rfl), (fun _ => rfl), R.o12, R.o13, R.o14, R.o15, R.o16, R.o17, R.o18, R.o19, R.o20, R.o21, R.o22, R.o23, R.o24, R.o25, R.o26, R.o27, R.q0, R.q1, R.d0, R.d1, R.d2⟩
            case s12 =>
             as_aux_lemma =>
              clear hd
              go_simp
              exact ⟨_, _, _, _, _, _, _, _, _, _, _, _, _, _, _, _, _, _, _, _, _, _, _, _, _, _, _, _, _, _, rfl, R.fr, R.o0, R.o1, R.o2, R.o3, R.o4, R.o5, R.o6, R.o7, R.o8, R.o9, R.o10, R.o11, (fun _ => rfl), R.o13, R.o14, R.o15, R.o16, R.o17, R.o18, R.o19, R.o20, R.o21, R.o22, R.o23, R.o24, R.o25, R.o26, R.o27, R.q0, R.q1, R.d0, R.d1, R.d2⟩
            case s13 =>
             as_aux_lemma =>
              have hk12 : S 12 = true := hd { on := 12, ground := .data } (by simp) rfl
              have e12 := R.o12 hk12
              subst e12
              obtain ⟨x0, x1, x2, x3, x4, x5, x6⟩ := HCl.out w' R.fr
              clear hd hk12
              go_simp
              exact ⟨_, _, _, _, _, _, _, _, _, _, _, _, _, _, _, _, _, _, _, _, _, _, _, _, _, _, _, _, _, _, rfl, R.fr, R.o0, R.o1, R.o2, R.o3, R.o4, R.o5, R.o6, R.o7, R.o8, R.o9, R.o10, R.o11, (fun _ => rfl), (fun _ => rfl), R.o14, R.o15, R.o16, R.o17, R.o18, R.o19, R.o20, R.o21, R.o22, R.o23, R.o24, R.o25, R.o26, R.o27, R.q0, R.q1, R.d0, R.d1, R.d2⟩
            case s14 =>
             as_aux_lemma =>
              have hk13 : S 13 = true := hd { on := 13, ground := .data } (by simp) rfl
              have e13 := R.o13 hk13
              subst e13
              clear hd hk13
              go_simp
              refine ⟨trivial, (callsIn_wide.2 (HD3.out w' R.fr)).mono ?_⟩
              rintro e w'' ⟨rfl, f⟩
              exact ⟨_, _, _, _, _, _, _, _, _, _, _, _, _, _, _, _, _, _, _, _, _, _, _, _, _, _, _, _, _, _, rfl, R.fr.trans f (fun _ e => e.elim), R.o0, R.o1, R.o2, R.o3, R.o4, R.o5, R.o6, R.o7, R.o8, R.o9, R.o10, R.o11, R.o12, (fun _ => rfl), (fun _ => rfl), R.o15, R.o16, R.o17, R.o18, R.o19, R.o20, R.o21, R.o22, R.o23, R.o24, R.o25, R.o26, R.o27, (fun h => (R.q0 h).frame f (fun _ e => e.elim)), (fun h => (R.q1 h).frame f (fun _ e => e.elim)), R.d0, R.d1, R.d2⟩
            case s15 =>
             as_aux_lemma =>
              have hk11 : S 11 = true := hd { on := 11, ground := .data } (by simp) rfl
              have e11 := R.o11 hk11
              subst e11
              have hk14 : S 14 = true := hd { on := 14, ground := .data } (by simp) rfl
              have e14 := R.o14 hk14
              subst e14
              clear hd hk11 hk14
              go_simp
              exact ⟨_, _, _, _, _, _, _, _, _, _, _, _, _, _, _, _, _, _, _, _, _, _, _, _, _, _, _, _, _, _, rfl, R.fr, R.o0, R.o1, R.o2, R.o3, R.o4, R.o5, R.o6, R.o7, R.o8, R.o9, R.o10, (fun _ => rfl), R.o12, R.o13, (fun _ => rfl), (fun _ => rfl), R.o16, R.o17, R.o18, R.o19, R.o20, R.o21, R.o22, R.o23, R.o24, R.o25, R.o26, R.o27, R.q0, R.q1, R.d0, R.d1, R.d2⟩
            case s16 =>
             as_aux_lemma =>
              clear hd
              go_simp
              exact ⟨_, _, _, _, _, _, _, _, _, _, _, _, _, _, _, _, _, _, _, _, _, _, _, _, _, _, _, _, _, _, rfl, R.fr, R.o0, R.o1, R.o2, R.o3, R.o4, R.o5, R.o6, R.o7, R.o8, R.o9, R.o10, R.o11, R.o12, R.o13, R.o14, R.o15, (fun _ => rfl), R.o17, R.o18, R.o19, R.o20, R.o21, R.o22, R.o23, R.o24, R.o25, R.o26, R.o27, R.q0, R.q1, R.d0, R.d1, R.d2⟩
            case s17 =>
             as_aux_lemma =>
              have hk16 : S 16 = true := hd { on := 16, ground := .data } (by simp) rfl
              have e16 := R.o16 hk16
              subst e16
              obtain ⟨x0, x1, x2, x3, x4, x5, x6⟩ := HCl.out w' R.fr
              clear hd hk16
              go_simp
              exact ⟨_, _, _, _, _, _, _, _, _, _, _, _, _, _, _, _, _, _, _, _, _, _, _, _, _, _, _, _, _, _, rfl, R.fr, R.o0, R.o1, R.o2, R.o3, R.o4, R.o5, R.o6, R.o7, R.o8, R.o9, R.o10, R.o11, R.o12, R.o13, R.o14, R.o15, (fun _ => rfl), (fun _ => rfl), R.o18, R.o19, R.o20, R.o21, R.o22, R.o23, R.o24, R.o25, R.o26, R.o27, R.q0, R.q1, R.d0, R.d1, R.d2⟩
            case s18 =>
             as_aux_lemma =>
              have hk17 : S 17 = true := hd { on := 17, ground := .data } (by simp) rfl
              have e17 := R.o17 hk17
              subst e17
              clear hd hk17
              go_simp
              refine ⟨trivial, (callsIn_wide.2 (HD4.out w' R.fr)).mono ?_⟩
              rintro e w'' ⟨rfl, f⟩
              exact ⟨_, _, _, _, _, _, _, _, _, _, _, _, _, _, _, _, _, _, _, _, _, _, _, _, _, _, _, _, _, _, rfl, R.fr.trans f (fun _ e => e.elim), R.o0, R.o1, R.o2, R.o3, R.o4, R.o5, R.o6, R.o7, R.o8, R.o9, R.o10, R.o11, R.o12, R.o13, R.o14, R.o15, R.o16, (fun _ => rfl), (fun _ => rfl), R.o19, R.o20, R.o21, R.o22, R.o23, R.o24, R.o25, R.o26, R.o27, (fun h => (R.q0 h).frame f (fun _ e => e.elim)), (fun h => (R.q1 h).frame f (fun _ e => e.elim)), R.d0, R.d1, R.d2⟩
            case s19 =>
             as_aux_lemma =>
              have hk15 : S 15 = true := hd { on := 15, ground := .data } (by simp) rfl
              have e15 := R.o15 hk15
              subst e15
              have hk18 : S 18 = true := hd { on := 18, ground := .data } (by simp) rfl
              have e18 := R.o18 hk18
              subst e18
              clear hd hk15 hk18
              go_simp
              exact ⟨_, _, _, _, _, _, _, _, _, _, _, _, _, _, _, _, _, _, _, _, _, _, _, _, _, _, _, _, _, _, rfl, R.fr, R.o0, R.o1, R.o2, R.o3, R.o4, R.o5, R.o6, R.o7, R.o8, R.o9, R.o10, R.o11, R.o12, R.o13, R.o14, (fun _ => rfl), R.o16, R.o17, (fun _ => rfl), (fun _ => rfl), R.o20, R.o21, R.o22, R.o23, R.o24, R.o25, R.o26, R.o27, R.q0, R.q1, R.d0, R.d1, R.d2⟩
            case s20 =>
             as_aux_lemma =>
              clear hd
              go_simp
              exact ⟨_, _, _, _, _, _, _, _, _, _, _, _, _, _, _, _, _, _, _, _, _, _, _, _, _, _, _, _, _, _, rfl, R.fr, R.o0, R.o1, R.o2, R.o3, R.o4, R.o5, R.o6, R.o7, R.o8, R.o9, R.o10, R.o11, R.o12, R.o13, R.o14, R.o15, R.o16, R.o17, R.o18, R.o19, (fun _ => rfl), R.o21, R.o22, R.o23, R.o24, R.o25, R.o26, R.o27, R.q0, R.q1, R.d0, R.d1, R.d2⟩
            case s21 =>
             as_aux_lemma =>
              have hk20 : S 20 = true := hd { on := 20, ground := .data } (by simp) rfl
              have e20 := R.o20 hk20
              subst e20
              obtain ⟨x0, x1, x2, x3, x4, x5, x6⟩ := HCl.out w' R.fr
              clear hd hk20
              go_simp
              exact ⟨_, _, _, _, _, _, _, _, _, _, _, _, _, _, _, _, _, _, _, _, _, _, _, _, _, _, _, _, _, _, rfl, R.fr, R.o0, R.o1, R.o2, R.o3, R.o4, R.o5, R.o6, R.o7, R.o8, R.o9, R.o10, R.o11, R.o12, R.o13, R.o14, R.o15, R.o16, R.o17, R.o18, R.o19, (fun _ => rfl), (fun _ => rfl), R.o22, R.o23, R.o24, R.o25, R.o26, R.o27, R.q0, R.q1, R.d0, R.d1, R.d2⟩
            case s22 =>
             as_aux_lemma =>
              have hk21 : S 21 = true := hd { on := 21, ground := .data } (by simp) rfl
              have e21 := R.o21 hk21
              subst e21
              clear hd hk21
              go_simp
              refine ⟨trivial, (callsIn_wide.2 (HD5.out w' R.fr)).mono ?_⟩
              rintro e w'' ⟨rfl, f⟩
              exact ⟨_, _, _, _, _, _, _, _, _, _, _, _, _, _, _, _, _, _, _, _, _, _, _, _, _, _, _, _, _, _, rfl, R.fr.trans f (fun _ e => e.elim), R.o0, R.o1, R.o2, R.o3, R.o4, R.o5, R.o6, R.o7, R.o8, R.o9, R.o10, R.o11, R.o12, R.o13, R.o14, R.o15, R.o16, R.o17, R.o18, R.o19, R.o20, (fun _ => rfl), (fun _ => rfl), R.o23, R.o24, R.o25, R.o26, R.o27, (fun h => (R.q0 h).frame f (fun _ e => e.elim)), (fun h => (R.q1 h).frame f (fun _ e => e.elim)), R.d0, R.d1, R.d2⟩
            case s23 =>
             as_aux_lemma =>
              have hk19 : S 19 = true := hd { on := 19, ground := .data } (by simp) rfl
              have e19 := R.o19 hk19
              subst e19
              have hk22 : S 22 = true := hd { on := 22, ground := .data } (by simp) rfl
              have e22 := R.o22 hk22
              subst e22
              clear hd hk19 hk22
              go_simp
              exact ⟨_, _, _, _, _, _, _, _, _, _, _, _, _, _, _, _, _, _, _, _, _, _, _, _, _, _, _, _, _, _, rfl, R.fr, R.o0, R.o1, R.o2, R.o3, R.o4, R.o5, R.o6, R.o7, R.o8, R.o9, R.o10, R.o11, R.o12, R.o13, R.o14, R.o15, R.o16, R.o17, R.o18, (fun _ => rfl), R.o20, R.o21, (fun _ => rfl), (fun _ => rfl), R.o24, R.o25, R.o26, R.o27, R.q0, R.q1, R.d0, R.d1, R.d2⟩
            case s24 =>
             as_aux_lemma =>
              clear hd
              go_simp
              exact ⟨_, _, _, _, _, _, _, _, _, _, _, _, _, _, _, _, _, _, _, _, _, _, _, _, _, _, _, _, _, _, rfl, R.fr, R.o0, R.o1, R.o2, R.o3, R.o4, R.o5, R.o6, R.o7, R.o8, R.o9, R.o10, R.o11, R.o12, R.o13, R.o14, R.o15, R.o16, R.o17, R.o18, R.o19, R.o20, R.o21, R.o22, R.o23, (fun _ => rfl), R.o25, R.o26, R.o27, R.q0, R.q1, R.d0, R.d1, R.d2⟩
            case s25 =>
             as_aux_lemma =>
              have hk24 : S 24 = true := hd { on := 24, ground := .data } (by simp) rfl
              have e24 := R.o24 hk24
              subst e24
              obtain ⟨x0, x1, x2, x3, x4, x5, x6⟩ := HCl.out w' R.fr
              clear hd hk24
              go_simp
              exact ⟨_, _, _, _, _, _, _, _, _, _, _, _, _, _, _, _, _, _, _, _, _, _, _, _, _, _, _, _, _, _, rfl, R.fr, R.o0, R.o1, R.o2, R.o3, R.o4, R.o5, R.o6, R.o7, R.o8, R.o9, R.o10, R.o11, R.o12, R.o13, R.o14, R.o15, R.o16, R.o17, R.o18, R.o19, R.o20, R.o21, R.o22, R.o23, (fun _ => rfl), (fun _ => rfl), R.o26, R.o27, R.q0, R.q1, R.d0, R.d1, R.d2⟩
            case s26 =>
             as_aux_lemma =>
              have hk25 : S 25 = true := hd { on := 25, ground := .data } (by simp) rfl
              have e25 := R.o25 hk25
              subst e25
              clear hd hk25
              go_simp
              refine ⟨trivial, (callsIn_wide.2 (HD6.out w' R.fr)).mono ?_⟩
              rintro e w'' ⟨rfl, f⟩
              exact ⟨_, _, _, _, _, _, _, _, _, _, _, _, _, _, _, _, _, _, _, _, _, _, _, _, _, _, _, _, _, _, rfl, R.fr.trans f (fun _ e => e.elim), R.o0, R.o1, R.o2, R.o3, R.o4, R.o5, R.o6, R.o7, R.o8, R.o9, R.o10, R.o11, R.o12, R.o13, R.o14, R.o15, R.o16, R.o17, R.o18, R.o19, R.o20, R.o21, R.o22, R.o23, R.o24, (fun _ => rfl), (fun _ => rfl), R.o27, (fun h => (R.q0 h).frame f (fun _ e => e.elim)), (fun h => (R.q1 h).frame f (fun _ e => e.elim)), R.d0, R.d1, R.d2⟩
            case s27 =>
             as_aux_lemma =>
              have hk23 : S 23 = true := hd { on := 23, ground := .data } (by simp) rfl
              have e23 := R.o23 hk23
              subst e23
              have hk26 : S 26 = true := hd { on := 26, ground := .data } (by simp) rfl
              have e26 := R.o26 hk26
              subst e26
              clear hd hk23 hk26
              go_simp
              exact ⟨_, _, _, _, _, _, _, _, _, _, _, _, _, _, _, _, _, _, _, _, _, _, _, _, _, _, _, _, _, _, rfl, R.fr, R.o0, R.o1, R.o2, R.o3, R.o4, R.o5, R.o6, R.o7, R.o8, R.o9, R.o10, R.o11, R.o12, R.o13, R.o14, R.o15, R.o16, R.o17, R.o18, R.o19, R.o20, R.o21, R.o22, (fun _ => rfl), R.o24, R.o25, (fun _ => rfl), (fun _ => rfl), R.q0, R.q1, R.d0, R.d1, R.d2⟩
            case s28 =>
             as_aux_lemma =>
              have hk0 : S 0 = true := hd { on := 0, ground := .data } (by simp) rfl
              have e0 := R.o0 hk0
              subst e0
              have hk27 : S 27 = true := hd { on := 27, ground := .data } (by simp) rfl
              have e27 := R.o27 hk27
              subst e27
              have hE : S 29 = false := by
                cases h : S 29 with
                | false => rfl
                | true => exact absurd (R.d1 h).2 (by rw [h0]; decide)
              have k0 := h0
              have hz : S 0 = true := hk0
              obtain ⟨v', w'', hr, hO, f⟩ := (R.q0 h0).app (Q0 ++ Q1 ++ Q2 ++ Q3 ++ Q4 ++ Q5 ++ Q6) (HLe9.out) (Nat.le_trans (HBw.out) R.fr.size)
              refine wpIn_app13 rfl (fun f hf => trivial) (.tmp 36) (.tmp 63) _ _ rfl rfl rfl hr ?_
              clear hd hk0 hk27
              go_simp
              exact ⟨_, _, _, _, _, _, _, _, _, _, _, _, _, _, _, _, _, _, _, _, _, _, _, _, _, _, _, _, _, _, rfl, R.fr.trans f (fun _ e => Or.inl e), (fun _ => rfl), R.o1, R.o2, R.o3, R.o4, R.o5, R.o6, R.o7, R.o8, R.o9, R.o10, R.o11, R.o12, R.o13, R.o14, R.o15, R.o16, R.o17, R.o18, R.o19, R.o20, R.o21, R.o22, R.o23, R.o24, R.o25, R.o26, (fun _ => rfl), (fun h => by cases h), (fun _ => hO), R.d0, (fun h => absurd (show S 29 = true from h) (by rw [hE]; decide)), (fun _ => hz)⟩
            case s29 =>
             as_aux_lemma =>
              have hA : S 28 = true := hd { on := 28, ground := .data } (by simp) rfl
              clear hd
              go_simp
              exact ⟨_, _, _, _, _, _, _, _, _, _, _, _, _, _, _, _, _, _, _, _, _, _, _, _, _, _, _, _, _, _, rfl, R.fr, R.o0, R.o1, R.o2, R.o3, R.o4, R.o5, R.o6, R.o7, R.o8, R.o9, R.o10, R.o11, R.o12, R.o13, R.o14, R.o15, R.o16, R.o17, R.o18, R.o19, R.o20, R.o21, R.o22, R.o23, R.o24, R.o25, R.o26, R.o27, R.q0, R.q1, (fun h => by cases h), (fun _ => ⟨rfl, hA⟩), R.d2⟩
          case done9 =>
            rintro S a wy ⟨r36, r37, r38, r39, r40, r41, r42, r43, r44, r45, r46, r47, r48, r49, r50, r51, r52, r53, r54, r55, r56, r57, r58, r59, r60, r61, r62, r63, r64, r4, rfl, R⟩ hall
            dsimp only
            obtain ⟨e4, hA⟩ := R.d1 (hall 29 (by simp))
            subst e4
            have HFR := toHid8 R.fr
            have HOW := toHid8 (R.q1 hA)
            clear R hall hA
            have HKn := toHid8 (show OwnB13 w2.heap.size wy r4 (U ++ primsB (p.body.take (k + 1))) ∧ Fr None' w2 wy from ⟨by
              rw [HSn.out, ← List.append_assoc, HXb.out]
              exact HOW.out, (HK.out.2.then7 HFx.out).trans HFR.out (fun i e => Or.inr (HGe.out i e))⟩)
            clear HOW HFR y2 y3 y4 y5 y6 y7
            go_wp2_with fail
            exact ⟨⟨k + 1, by omega, by go_num, HKn.out⟩, by simp [intOf]; have := HLt.out; omega⟩

end Go.Proofs.YtofpkpomhdhkgaaGreatDoor

namespace Go.Proofs.YtofpkpomhdhkgaaGreatDoor
open Go.RowKit
set_option maxRecDepth 100000

/-- While a change is read: its block, the reader. -/
structure DSt (w w' : World) (r rB : Nat) (s : ByteArray) (b : Bool) (y0 y1 y2 y3 y4 y5 y6 : Value) : Prop where
  rd : DRdAt w' r s b
  bx : Box w' rB y0 y1 y2 y3 y4 y5 y6
  fr : Fr (fun k => k = r) w w'
  lo : r < w.heap.size ∧ w.heap.size ≤ rB

theorem DSt.call {w w1 w2 : World} {r rB : Nat} {s s2 : ByteArray} {b b2 : Bool} {y0 y1 y2 y3 y4 y5 y6 : Value} (h : DSt w w1 r rB s b y0 y1 y2 y3 y4 y5 y6) (f : Fr (fun k => k = r) w1 w2) (hR : DRdAt w2 r s2 b2) : DSt w w2 r rB s2 b2 y0 y1 y2 y3 y4 y5 y6 :=
  ⟨hR, h.bx.fr f (by have := h.lo; omega), h.fr.then f, h.lo⟩

theorem DSt.set0 {w w1 : World} {r rB : Nat} {s : ByteArray} {b : Bool} {y0 y1 y2 y3 y4 y5 y6 : Value} (h : DSt w w1 r rB s b y0 y1 y2 y3 y4 y5 y6) (v : Value) : DSt w (w1.setCell ⟨rB, 0, none⟩ v) r rB s b v y1 y2 y3 y4 y5 y6 := by
  have f : Fr (fun k => k = rB) w1 (w1.setCell ⟨rB, 0, none⟩ v) := Fr.setCell (M := fun k => k = rB) w1 (a := ⟨rB, 0, none⟩) rfl v
  have hl := h.lo
  exact ⟨h.rd.fr f (by omega), h.bx.set0 v, h.fr.trans f (fun k e => Or.inr (by omega)), hl⟩

theorem DSt.set1 {w w1 : World} {r rB : Nat} {s : ByteArray} {b : Bool} {y0 y1 y2 y3 y4 y5 y6 : Value} (h : DSt w w1 r rB s b y0 y1 y2 y3 y4 y5 y6) (v : Value) : DSt w (w1.setCell ⟨rB, 1, none⟩ v) r rB s b y0 v y2 y3 y4 y5 y6 := by
  have f : Fr (fun k => k = rB) w1 (w1.setCell ⟨rB, 1, none⟩ v) := Fr.setCell (M := fun k => k = rB) w1 (a := ⟨rB, 1, none⟩) rfl v
  have hl := h.lo
  exact ⟨h.rd.fr f (by omega), h.bx.set1 v, h.fr.trans f (fun k e => Or.inr (by omega)), hl⟩

theorem DSt.set2 {w w1 : World} {r rB : Nat} {s : ByteArray} {b : Bool} {y0 y1 y2 y3 y4 y5 y6 : Value} (h : DSt w w1 r rB s b y0 y1 y2 y3 y4 y5 y6) (v : Value) : DSt w (w1.setCell ⟨rB, 2, none⟩ v) r rB s b y0 y1 v y3 y4 y5 y6 := by
  have f : Fr (fun k => k = rB) w1 (w1.setCell ⟨rB, 2, none⟩ v) := Fr.setCell (M := fun k => k = rB) w1 (a := ⟨rB, 2, none⟩) rfl v
  have hl := h.lo
  exact ⟨h.rd.fr f (by omega), h.bx.set2 v, h.fr.trans f (fun k e => Or.inr (by omega)), hl⟩

theorem DSt.set3 {w w1 : World} {r rB : Nat} {s : ByteArray} {b : Bool} {y0 y1 y2 y3 y4 y5 y6 : Value} (h : DSt w w1 r rB s b y0 y1 y2 y3 y4 y5 y6) (v : Value) : DSt w (w1.setCell ⟨rB, 3, none⟩ v) r rB s b y0 y1 y2 v y4 y5 y6 := by
  have f : Fr (fun k => k = rB) w1 (w1.setCell ⟨rB, 3, none⟩ v) := Fr.setCell (M := fun k => k = rB) w1 (a := ⟨rB, 3, none⟩) rfl v
  have hl := h.lo
  exact ⟨h.rd.fr f (by omega), h.bx.set3 v, h.fr.trans f (fun k e => Or.inr (by omega)), hl⟩

theorem DSt.set4 {w w1 : World} {r rB : Nat} {s : ByteArray} {b : Bool} {y0 y1 y2 y3 y4 y5 y6 : Value} (h : DSt w w1 r rB s b y0 y1 y2 y3 y4 y5 y6) (v : Value) : DSt w (w1.setCell ⟨rB, 4, none⟩ v) r rB s b y0 y1 y2 y3 v y5 y6 := by
  have f : Fr (fun k => k = rB) w1 (w1.setCell ⟨rB, 4, none⟩ v) := Fr.setCell (M := fun k => k = rB) w1 (a := ⟨rB, 4, none⟩) rfl v
  have hl := h.lo
  exact ⟨h.rd.fr f (by omega), h.bx.set4 v, h.fr.trans f (fun k e => Or.inr (by omega)), hl⟩

theorem DSt.set5 {w w1 : World} {r rB : Nat} {s : ByteArray} {b : Bool} {y0 y1 y2 y3 y4 y5 y6 : Value} (h : DSt w w1 r rB s b y0 y1 y2 y3 y4 y5 y6) (v : Value) : DSt w (w1.setCell ⟨rB, 5, none⟩ v) r rB s b y0 y1 y2 y3 y4 v y6 := by
  have f : Fr (fun k => k = rB) w1 (w1.setCell ⟨rB, 5, none⟩ v) := Fr.setCell (M := fun k => k = rB) w1 (a := ⟨rB, 5, none⟩) rfl v
  have hl := h.lo
  exact ⟨h.rd.fr f (by omega), h.bx.set5 v, h.fr.trans f (fun k e => Or.inr (by omega)), hl⟩

theorem DSt.set6 {w w1 : World} {r rB : Nat} {s : ByteArray} {b : Bool} {y0 y1 y2 y3 y4 y5 y6 : Value} (h : DSt w w1 r rB s b y0 y1 y2 y3 y4 y5 y6) (v : Value) : DSt w (w1.setCell ⟨rB, 6, none⟩ v) r rB s b y0 y1 y2 y3 y4 y5 v := by
  have f : Fr (fun k => k = rB) w1 (w1.setCell ⟨rB, 6, none⟩ v) := Fr.setCell (M := fun k => k = rB) w1 (a := ⟨rB, 6, none⟩) rfl v
  have hl := h.lo
  exact ⟨h.rd.fr f (by omega), h.bx.set6 v, h.fr.trans f (fun k e => Or.inr (by omega)), hl⟩

/-- While a patch is read: the answer's block, the reader, the patch's block. -/
structure GSt (w w' : World) (r rP rR : Nat) (s : ByteArray) (b : Bool) (n d y : Value) : Prop where
  rd : DRdAt w' r s b
  pp : Box3 w' rP n d y
  zR : Box3 w' rR (.string ⟨#[]⟩) (.slice none 0 0) (.slice none 0 0)
  fr : Fr (fun k => k = r ∨ k = rP) w w'
  lo : rR < r ∧ r < rP ∧ rP < w.heap.size

theorem GSt.call {w w1 w2 : World} {r rP rR : Nat} {s s2 : ByteArray} {b b2 : Bool} {n d y : Value} (h : GSt w w1 r rP rR s b n d y) (f : Fr (fun k => k = r) w1 w2) (hR : DRdAt w2 r s2 b2) : GSt w w2 r rP rR s2 b2 n d y :=
  ⟨hR, h.pp.fr f (by have := h.lo; omega), h.zR.fr f (by have := h.lo; omega), h.fr.trans f (fun k e => Or.inl (Or.inl e)), h.lo⟩

theorem GSt.far {w w1 w2 : World} {r rP rR : Nat} {s : ByteArray} {b : Bool} {n d y : Value} (h : GSt w w1 r rP rR s b n d y) {M : Nat → Prop} (f : Fr M w1 w2) (hM : ∀ k, M k → w.heap.size ≤ k) : GSt w w2 r rP rR s b n d y :=
  ⟨h.rd.fr f (fun e => by have := hM _ e; have := h.lo; omega), h.pp.fr f (fun e => by have := hM _ e; have := h.lo; omega), h.zR.fr f (fun e => by have := hM _ e; have := h.lo; omega), h.fr.trans f (fun k e => Or.inr (hM k e)), h.lo⟩

theorem GSt.set0 {w w1 : World} {r rP rR : Nat} {s : ByteArray} {b : Bool} {n d y : Value} (h : GSt w w1 r rP rR s b n d y) (v : Value) : GSt w (w1.setCell ⟨rP, 0, none⟩ v) r rP rR s b v d y := by
  have f : Fr (fun k => k = rP) w1 (w1.setCell ⟨rP, 0, none⟩ v) := Fr.setCell (M := fun k => k = rP) w1 (a := ⟨rP, 0, none⟩) rfl v
  have hl := h.lo
  exact ⟨h.rd.fr f (by omega), h.pp.set0 v, h.zR.fr f (by omega), h.fr.trans f (fun k e => Or.inl (Or.inr e)), hl⟩

theorem GSt.set1 {w w1 : World} {r rP rR : Nat} {s : ByteArray} {b : Bool} {n d y : Value} (h : GSt w w1 r rP rR s b n d y) (v : Value) : GSt w (w1.setCell ⟨rP, 1, none⟩ v) r rP rR s b n v y := by
  have f : Fr (fun k => k = rP) w1 (w1.setCell ⟨rP, 1, none⟩ v) := Fr.setCell (M := fun k => k = rP) w1 (a := ⟨rP, 1, none⟩) rfl v
  have hl := h.lo
  exact ⟨h.rd.fr f (by omega), h.pp.set1 v, h.zR.fr f (by omega), h.fr.trans f (fun k e => Or.inl (Or.inr e)), hl⟩

theorem GSt.set2 {w w1 : World} {r rP rR : Nat} {s : ByteArray} {b : Bool} {n d y : Value} (h : GSt w w1 r rP rR s b n d y) (v : Value) : GSt w (w1.setCell ⟨rP, 2, none⟩ v) r rP rR s b n d v := by
  have f : Fr (fun k => k = rP) w1 (w1.setCell ⟨rP, 2, none⟩ v) := Fr.setCell (M := fun k => k = rP) w1 (a := ⟨rP, 2, none⟩) rfl v
  have hl := h.lo
  exact ⟨h.rd.fr f (by omega), h.pp.set2 v, h.zR.fr f (by omega), h.fr.trans f (fun k e => Or.inl (Or.inr e)), hl⟩

theorem small_readD {l : B13} (hl : l.length ≤ 20000) {p : Pa} (h : patchD l = some (p, [])) : SmallPa p := by
  have h2 := (code_patchD.fwd _ _ _ h).2
  rw [List.append_nil] at h2
  exact small_len (by rw [← h2]; omega)

theorem primD_len {s t : B13} {x : Pr} (h : primD s = some (x, t)) : t.length < s.length := by
  have hl := congrArg List.length (code_primD.fwd _ _ _ h).2
  have h3 := prim_pos x
  rw [List.length_append] at hl
  omega

theorem OwnS13.lt {B : Nat} {w : World} {v : Value} {l : List ByteArray} (h : OwnS13 B w v l) {k : Nat} (hk : v.ownBlock = some k) : k < w.heap.size := by
  rcases h.2 with ⟨hv, _⟩ | ⟨g, cap, cur, hv, hb, hh, _⟩
  · rw [hv] at hk; cases hk
  · rw [hv] at hk; cases hk; exact (Array.getElem?_eq_some_iff.1 hh).1

/-- What is said of the bytes that are read. -/
theorem getD_none {l : B13} (hl : l.length ≤ 20000) (h : patchD l = none) : getP l = none := by
  rw [← getD_eq hl]; unfold getD; rw [h]

theorem getD_more {l t : B13} {p : Pa} (hl : l.length ≤ 20000) (h : patchD l = some (p, t)) (ht : t ≠ []) : getP l = none := by
  rw [← getD_eq hl]; unfold getD; rw [h]; simp only; rw [if_neg (fun h => ht h.1)]

theorem getD_some {l : B13} {p : Pa} (hl : l.length ≤ 20000) (h : patchD l = some (p, [])) : getP l = if rightPa p = true then some p else none := by
  rw [← getD_eq hl]; unfold getD; rw [h]; simp

set_option maxHeartbeats 32000000 in
theorem dnget_any (v : Value) (l : B13) (w : World) (h : ByAt w v l) (hl : l.length ≤ 20000) :
    Calls Tryz.prog 13 #[v] w fun e w' => GetPost w l e w' := by
  obtain ⟨ad, c, rfl, hc, hn, hrow⟩ := h
  obtain ⟨n0, hln⟩ : ∃ n, l.length = n := ⟨_, rfl⟩
  obtain ⟨w1, hw1⟩ : ∃ x, w.alloc (.cells #[.string ⟨#[]⟩, .slice none 0 0, .slice none 0 0] 25) = x := ⟨_, rfl⟩
  have F1 : Fr None' w w1 := hw1 ▸ Fr.alloc None' w _
  have hcv := conv_13 w1 ad c l (fun j x hj => by
    obtain ⟨g, o, e, hcell⟩ := hrow j x hj
    exact ⟨g, o, e, F1.keepCell hcell (fun e => e)⟩) (fun e => ⟨hn e, List.length_eq_zero_iff.1 (by have := hn e; omega)⟩)
  obtain ⟨s0, hs0⟩ : ∃ s, mkB l = s := ⟨_, rfl⟩
  have hu0 : unB s0 = l := by rw [← hs0]; rfl
  rw [hs0, hln] at hcv
  obtain ⟨w2, hw2⟩ : ∃ x, w1.alloc (.cells #[.string s0, .bool false] 63) = x := ⟨_, rfl⟩
  obtain ⟨w3, hw3⟩ : ∃ x, w2.alloc (.cells #[.string ⟨#[]⟩, .slice none 0 0, .slice none 0 0] 25) = x := ⟨_, rfl⟩
  have F2 : Fr None' w1 w2 := hw2 ▸ Fr.alloc None' w1 _
  have F3 : Fr None' w2 w3 := hw3 ▸ Fr.alloc None' w2 _
  have e1 : w1.heap.size = w.heap.size + 1 := by rw [← hw1]; simp
  have e2 : w2.heap.size = w1.heap.size + 1 := by rw [← hw2]; simp
  have e3 : w3.heap.size = w2.heap.size + 1 := by rw [← hw3]; simp
  obtain ⟨rR, hrR⟩ : ∃ r, w.heap.size = r := ⟨_, rfl⟩
  obtain ⟨r, hr⟩ : ∃ r, w1.heap.size = r := ⟨_, rfl⟩
  obtain ⟨rP, hrP⟩ : ∃ r, w2.heap.size = r := ⟨_, rfl⟩
  have S0 := toHid8 (show GSt w3 w3 r rP rR s0 false (.string ⟨#[]⟩) (.slice none 0 0) (.slice none 0 0) from ⟨DRdAt.kept ⟨by rw [← hr, ← hw2]; exact heap_alloc_new w1 _, by have h1 := un_len s0; rw [hu0] at h1; omega⟩ F3, by rw [← hrP, ← hw3]; exact Box3.new w2 _ _ _, Box3.kept (by rw [← hrR, ← hw1]; exact Box3.new w _ _ _) (F2.then7 F3), Fr.refl _ _, by omega⟩)
  have HF3 := toHid8 ((F1.then7 F2).then7 F3)
  have HL := toHid8 hl
  have HU := toHid8 hu0
  have HrR := toHid8 hrR
  have HLt := toHid8 (show rR < r ∧ r < rP ∧ rP < w3.heap.size from S0.out.lo)
  have HE3 := toHid8 e3
  have HrP := toHid8 hrP
  have q0 := drtext_any r s0 false w3 S0.out.rd
  rw [hln]
  unfold GetPost
  clear hc hn hrow hl F1 F2 F3 e1 e2 hs0 hu0 hln
  go_enter Tryz.func13, Tryz.ntmps13
  go_wp2_with fail
  with_reducible refine q0.mono ?_
  rintro e wc0 ⟨x0, t0, b0, rfl, hR0, hS0, hF0, hz0⟩
  have G0 := toHid8 hS0
  have U0 := toHid8 (S0.out.call hF0 hR0)
  obtain ⟨a0, a1, a2⟩ := U0.out.pp.cells
  have fz := U0.out.pp.frozen
  obtain ⟨ws0, hws0⟩ : ∃ x, wc0.setCell ⟨rP, 0, none⟩ (.string x0) = x := ⟨_, rfl⟩
  have S1 := toHid8 (show GSt w3 ws0 r rP rR t0 b0 (.string x0) (.slice none 0 0) (.slice none 0 0) from hws0 ▸ U0.out.set0 (.string x0))
  have q1 := drlist_any r t0 b0 ws0 S1.out.rd
  clear q0 hR0 hS0 hF0
  go_wp2_with fail
  clear a0 a1 a2 fz hws0
  with_reducible refine q1.mono ?_
  rintro e wc1 ⟨v1, x1, t1, b1, rfl, hO1, hR1, hS1, hF1, hz1⟩
  obtain ⟨p1, n1, hv, -, -⟩ := hO1.slice
  rw [List.length_map] at hv
  obtain ⟨m1, hm1⟩ : ∃ m, x1.length = m := ⟨_, rfl⟩
  rw [hm1] at hv
  subst hv
  have HM1 := toHid8 hm1
  have G1 := toHid8 hS1
  have U1 := toHid8 (S1.out.call hF1 hR1)
  obtain ⟨a0, a1, a2⟩ := U1.out.pp.cells
  have fz := U1.out.pp.frozen
  obtain ⟨ws1, hws1⟩ : ∃ x, wc1.setCell ⟨rP, 1, none⟩ (.slice p1 m1 n1) = x := ⟨_, rfl⟩
  have S2 := toHid8 (show GSt w3 ws1 r rP rR t1 b1 (.string x0) (.slice p1 m1 n1) (.slice none 0 0) from hws1 ▸ U1.out.set1 (.slice p1 m1 n1))
  have O1 := toHid8 (show OwnS13 w3.heap.size ws1 (.slice p1 m1 n1) (x1.map mkB) from (hO1.mono S1.out.fr.size).frame (hws1 ▸ Fr.setCell (M := fun k => k = rP) wc1 (a := ⟨rP, 1, none⟩) rfl _) (fun k e => by have := HLt.out; omega))
  have HD1 := toHid8 (show StrsAt ws1 (.slice p1 m1 n1) (x1.map mkB) from by
    obtain ⟨_, _, -, -, h⟩ := O1.out.slice
    exact h)
  obtain ⟨B, hB⟩ : ∃ B, ws1.heap.size = B := ⟨_, rfl⟩
  have HB := toHid8 hB
  have HW3 := toHid8 (show w3.heap.size ≤ B from by rw [← hB]; exact S2.out.fr.size)
  have HP1 := toHid8 (show ∀ i, (Value.slice p1 m1 n1).ownBlock = some i → w3.heap.size ≤ i ∧ i < B from fun i e => ⟨O1.out.ge i e, by rw [← hB]; exact O1.out.lt e⟩)
  have q2 := dnumber_any r t1 b1 ws1 S2.out.rd
  clear hB
  clear q1 hR1 hS1 hF1 hO1 hm1
  go_wp2_with fail
  clear a0 a1 a2 fz hws1
  with_reducible refine q2.mono ?_
  rintro e wc2 ⟨n, t2, b2, rfl, hn, hR2, hS2, hF2, hz2⟩
  obtain ⟨X, hX⟩ : ∃ X, listG numD primD (unB t1) = X := ⟨_, rfl⟩
  have HX := toHid8 hX
  have S3 := toHid8 (S2.out.call hF2 hR2)
  have HS3 := toHid8 hF2.size
  have O3 := toHid8 (HD1.out.far hF2 (fun _ i e e' => by have := (HP1.out i e).1; have := HLt.out; omega))
  have H0 := toHid8 (show (b2 = false → b1 = false ∧ 0 ≤ n ∧ X = comb [] (manyR primD (n - 0) (unB t2)) ∧ 0 + t2.size ≤ s0.size) ∧ (b2 = true → b1 = true ∨ X = none) from by
    refine ⟨fun hb => ?_, fun hb => ?_⟩
    · rcases hS2 with ⟨_, h1, h2⟩ | ⟨h1, _⟩
      · refine ⟨h1, Nat.zero_le _, ?_, by omega⟩
        rw [← HX.out, comb_nil]
        unfold listG
        rw [h2]
        rfl
      · rw [hb] at h1; cases h1
    · rcases hS2 with ⟨h1, _⟩ | ⟨_, h | h⟩
      · rw [hb] at h1; cases h1
      · exact .inl h
      · refine .inr ?_
        rw [← HX.out]
        unfold listG
        rw [h])
  have HZ0 := toHid8 (show s0.size ≤ 20000 from by have h1 := un_len s0; rw [HU.out] at h1; have := HL.out; omega)
  clear q2 hR2 hS2 hF2 hX hz0 hz1 hz2
  go_wp2_with fail
  go_loopw [7] (fun vi wr => ∃ (xs : List Pr) (V : List (Value × Value)) (t : ByteArray) (b : Bool) (va : Option Addr) (ca : Nat), vi = .int .i64 xs.length ∧ Hid (GSt w3 wr r rP rR t b (.string x0) (.slice p1 m1 n1) (.slice va xs.length ca)) ∧ Hid ((OwnP B wr (.slice va xs.length ca) xs V ∧ VGe B V) ∧ B ≤ wr.heap.size) ∧ Hid (StrsAt wr (.slice p1 m1 n1) (x1.map mkB)) ∧ Hid ((b = false → b1 = false ∧ xs.length ≤ n ∧ X = comb xs (manyR primD (n - xs.length) (unB t)) ∧ xs.length + t.size ≤ s0.size) ∧ (b = true → b1 = true ∨ X = none)) ∧ xs.length ≤ 20001) (fun vi _ => n - (intOf vi).toNat)
  case atStart => exact ⟨[], [], t2, b2, none, 0, rfl, S3.out, ⟨⟨OwnP.nil _ _, fun u hu => (by cases hu)⟩, by have h1 := HB.out; have h2 := HS3.out; omega⟩, O3.out, H0.out, by show 0 ≤ _; omega⟩
  case round =>
    obtain ⟨xs, V, u, b, va, ca, rfl, HG, HO, HD, HJ, hxl⟩ := hrel
    obtain ⟨hf, ht⟩ := HJ.out
    obtain ⟨c0, c1, z0, z1⟩ := HG.out.rd.cells
    obtain ⟨k, hk⟩ : ∃ k, xs.length = k := ⟨_, rfl⟩
    have HK := toHid8 hk
    rw [hk] at hf hxl HG HO ⊢
    have i1 : (k : Int) ≤ 20001 := by omega
    clear hk HJ
    by_cases hgo : k < n ∧ b = false
    case neg =>
      have HSt := toHid8 (show Step false (patchD l) (mkPa (unB x0, x1, xs)) (unB u) b from by
        have h3 : Step b1 (listG numD primD (unB t1)) xs (unB u) b := by
          cases b with
          | true => exact .inr ⟨rfl, by rw [HX.out]; exact ht rfl⟩
          | false =>
            obtain ⟨g1, g2, g3, _⟩ := hf rfl
            refine .inl ⟨rfl, g1, ?_⟩
            rw [HX.out, g3]
            exact comb_end _ _ (by have : ¬ k < n := fun h => hgo ⟨h, rfl⟩; omega) _
        have h0 := G0.out
        rw [HU.out] at h0
        exact (h0.pair (G1.out.pair h3)).iso mkPa)
      have HRd := HG
      obtain ⟨a0, a1, a2⟩ := HG.out.pp.cells
      obtain ⟨d0, d1, d2⟩ := HG.out.zR.cells
      have fzA := HG.out.zR.frozen
      have FX := toHid8 (HF3.out.trans HG.out.fr (fun k e => Or.inr (by have := HrR.out; have := HLt.out; omega)))
      have AX := toHid8 HG.out.zR
      clear hf ht
      cases b with
      | true =>
        have HGn := toHid8 (show getP l = none from getD_none HL.out (by
          rcases HSt.out with ⟨e, _⟩ | ⟨_, e | e⟩
          · cases e
          · cases e
          · exact e))
        by_cases hlt : k < n
        all_goals (
          first | have i2 : (k : Int) < (n : Int) := by omega | have i2 : ¬ (k : Int) < (n : Int) := by omega
          go_wp2_with fail
          refine ret_box3t rfl rfl rfl rfl (AX.out.all _ _ _) ⟨fun q e => (by rw [HGn.out] at e; cases e), fun _ => rfl, ?_⟩
          exact FX.out.trans (setP3_fr _ rR _ _ _) (fun k e => Or.inr (by have := HrR.out; omega)))
      | false =>
        have i2 : ¬ (k : Int) < (n : Int) := by
          have : ¬ k < n := fun h => hgo ⟨h, rfl⟩
          omega
        have HP := toHid8 (show patchD l = some (mkPa (unB x0, x1, xs), unB u) by
          rcases HSt.out with ⟨_, _, e⟩ | ⟨e, _⟩
          · exact e
          · cases e)
        clear hgo
        by_cases hu : u.size = 0
        case neg =>
          have hne : ¬ u.data.toList = [] := fun e => hu (by rw [← un_len]; show (u.data.toList).length = 0; rw [e]; rfl)
          obtain ⟨o1, o2⟩ := Lines.asks_no hne
          have o3 : (u.toList != []) = true := by unfold bne; rw [o2]; rfl
          have HGn := toHid8 (getD_more HL.out HP.out hne)
          clear hne hu
          go_wp2_with fail
          refine ret_box3t rfl rfl rfl rfl (AX.out.all _ _ _) ⟨fun q e => (by rw [HGn.out] at e; cases e), fun _ => rfl, ?_⟩
          exact FX.out.trans (setP3_fr _ rR _ _ _) (fun k e => Or.inr (by have := HrR.out; omega))
        case pos =>
          have hne : u.data.toList = [] := List.length_eq_zero_iff.1 (by have := un_len u; unfold unB at this; omega)
          obtain ⟨o1, o2⟩ := Lines.asks_yes hne
          have o3 : (u.toList != []) = false := by unfold bne; rw [o2]; rfl
          have HP2 := toHid8 (show patchD l = some (mkPa (unB x0, x1, xs), []) by rw [HP.out]; exact congrArg (fun z => some (mkPa (unB x0, x1, xs), z)) hne)
          have sd := HD.out
          have sb : PrsAt wr va xs := by
            obtain ⟨_, _, ep, _, _, sb⟩ := HO.out.1.1.slice
            cases ep
            exact sb
          have HSd := toHid8 sd
          have HSb := toHid8 sb
          have q3 := dnright_any (mkPa (unB x0, x1, xs)) (.slice p1 m1 n1) va k ca wr HK.out sd sb (small_readD HL.out HP2.out)
          obtain ⟨R, hR⟩ : ∃ R, rightPa (mkPa (unB x0, x1, xs)) = R := ⟨_, rfl⟩
          rw [hR] at q3
          change Calls Tryz.prog 15 #[.agg #[.string x0, .slice p1 m1 n1, .slice va k ca]] wr _ at q3
          have HGs := toHid8 (getD_some HL.out HP2.out)
          rw [hR] at HGs
          clear hR sd sb hne hu
          go_wp2_with fail
          with_reducible refine q3.mono ?_
          rintro e w5 ⟨rfl, f5⟩
          have AX5 := toHid8 (AX.out.kept f5)
          have FX5 := toHid8 (FX.out.then7 f5)
          have HF5 := toHid8 f5
          have HPP := toHid8 (HG.out.pp.kept f5)
          clear q3 f5 a0 a1 a2 d0 d1 d2 fzA c0 c1 z0 z1
          obtain ⟨a0, a1, a2⟩ := HPP.out.cells
          obtain ⟨d0, d1, d2⟩ := AX5.out.cells
          have fzA := AX5.out.frozen
          cases R with
          | false =>
            have HGn := toHid8 (show getP l = none from HGs.out)
            go_wp2_with fail
            refine ret_box3t rfl rfl rfl rfl (AX5.out.all _ _ _) ⟨fun q e => (by rw [HGn.out] at e; cases e), fun _ => rfl, ?_⟩
            exact FX5.out.trans (setP3_fr _ rR _ _ _) (fun k e => Or.inr (by have := HrR.out; omega))
          | true =>
            have HGn := toHid8 (show getP l = some (mkPa (unB x0, x1, xs)) from HGs.out)
            go_wp2_with fail
            refine ret_box3t rfl rfl rfl rfl (AX5.out.all _ _ _) ⟨fun q e => ?_, fun e => (by rw [HGn.out] at e; cases e), ?_⟩
            · rw [HGn.out] at e
              cases e
              have ff := setP3_fr w5 rR (.string x0) (.slice p1 m1 n1) (.slice va k ca)
              have hlt := HLt.out
              have g1 := (HD.out.kept HF5.out).far ff (fun _ i e e' => by have := (HP1.out i e).1; omega)
              have hk5 := HO.out.1.1.kept HF5.out
              have hW3 := HW3.out
              have h2 := (hk5.fr ff (fun k e => by have := (hk5.ge e).1; omega) (fun u hu k e _ => by have := HO.out.1.2 u hu k e; omega)).slice
              obtain ⟨_, _, g2, _, _, g3⟩ := h2
              cases g2
              exact ⟨.slice p1 m1 n1, va, ca, by show _ = Ending.returned (.tuple #[.agg #[.string x0, _, .slice va xs.length ca], _]); rw [HK.out]; rfl, g1, g3⟩
            · exact FX5.out.trans (setP3_fr _ rR _ _ _) (fun k e => Or.inr (by have := HrR.out; omega))
    case pos =>
      obtain ⟨hlt, rfl⟩ := hgo
      obtain ⟨hb0, hkn, hXc, hsz⟩ := hf rfl
      have HB0 := toHid8 hb0
      have HXc := toHid8 hXc
      have HSz := toHid8 hsz
      have HLk := toHid8 hlt
      have i2 : (k : Int) < (n : Int) := by omega
      clear hf ht hb0 hXc hsz hkn
      obtain ⟨wb, hwb⟩ : ∃ x, wr.alloc (.cells #[.int .i64 0, .string ⟨#[]⟩, .string ⟨#[]⟩, .string ⟨#[]⟩, .int .i64 0, .slice none 0 0, .slice none 0 0] 41) = x := ⟨_, rfl⟩
      have Fb : Fr None' wr wb := hwb ▸ Fr.alloc None' wr _
      have HFb := toHid8 Fb
      obtain ⟨rB, hrB⟩ : ∃ x, wr.heap.size = x := ⟨_, rfl⟩
      have HrB := toHid8 hrB
      have HGb := toHid8 (HG.out.far Fb (fun k e => e.elim))
      have P0 := toHid8 (show DSt wr wb r rB u false (.int .i64 0) (.string ⟨#[]⟩) (.string ⟨#[]⟩) (.string ⟨#[]⟩) (.int .i64 0) (.slice none 0 0) (.slice none 0 0) from ⟨HGb.out.rd, by rw [← hrB, ← hwb]; exact Box.new wr _ _ _ _ _ _ _, Fb.mono (fun _ e => e.elim), by have h1 := HG.out.fr.size; have h2 := HLt.out; omega⟩)
      have q3 := dnumber_any r u false wb P0.out.rd
      clear Fb
      go_wp2_with fail
      clear c0 c1 z0 z1
      with_reducible refine q3.mono ?_
      rintro e wd0 ⟨y0, sx0, g0, rfl, -, hR, hS, hF, hz0⟩
      have E0 := toHid8 hS
      have T0 := toHid8 (P0.out.call hF hR)
      have V0 := toHid8 hF
      obtain ⟨wx0, hwx0⟩ : ∃ x, wd0.setCell ⟨rB, 0, none⟩ (.int .i64 y0) = x := ⟨_, rfl⟩
      have P1 := toHid8 (show DSt wr wx0 r rB sx0 g0 (.int .i64 y0) (.string ⟨#[]⟩) (.string ⟨#[]⟩) (.string ⟨#[]⟩) (.int .i64 0) (.slice none 0 0) (.slice none 0 0) from hwx0 ▸ T0.out.set0 (.int .i64 y0))
      have W0 := toHid8 (show Fr (fun k => k = rB) wd0 wx0 from hwx0 ▸ Fr.setCell (M := fun k => k = rB) wd0 (a := ⟨rB, 0, none⟩) rfl _)
      obtain ⟨a0, a1, a2, a3, a4, a5, a6⟩ := T0.out.bx.cells
      have fz := T0.out.bx.frozen
      have q4 := drtext_any r sx0 g0 wx0 P1.out.rd
      clear q3 hR hS hF
      go_wp2_with fail
      clear a0 a1 a2 a3 a4 a5 a6 fz hwx0
      with_reducible refine q4.mono ?_
      rintro e wd1 ⟨y1, sx1, g1, rfl, hR, hS, hF, hz1⟩
      have E1 := toHid8 hS
      have T1 := toHid8 (P1.out.call hF hR)
      have V1 := toHid8 hF
      obtain ⟨wx1, hwx1⟩ : ∃ x, wd1.setCell ⟨rB, 1, none⟩ (.string y1) = x := ⟨_, rfl⟩
      have P2 := toHid8 (show DSt wr wx1 r rB sx1 g1 (.int .i64 y0) (.string y1) (.string ⟨#[]⟩) (.string ⟨#[]⟩) (.int .i64 0) (.slice none 0 0) (.slice none 0 0) from hwx1 ▸ T1.out.set1 (.string y1))
      have W1 := toHid8 (show Fr (fun k => k = rB) wd1 wx1 from hwx1 ▸ Fr.setCell (M := fun k => k = rB) wd1 (a := ⟨rB, 1, none⟩) rfl _)
      obtain ⟨a0, a1, a2, a3, a4, a5, a6⟩ := T1.out.bx.cells
      have fz := T1.out.bx.frozen
      have q5 := drtext_any r sx1 g1 wx1 P2.out.rd
      clear q4 hR hS hF
      go_wp2_with fail
      clear a0 a1 a2 a3 a4 a5 a6 fz hwx1
      with_reducible refine q5.mono ?_
      rintro e wd2 ⟨y2, sx2, g2, rfl, hR, hS, hF, hz2⟩
      have E2 := toHid8 hS
      have T2 := toHid8 (P2.out.call hF hR)
      have V2 := toHid8 hF
      obtain ⟨wx2, hwx2⟩ : ∃ x, wd2.setCell ⟨rB, 2, none⟩ (.string y2) = x := ⟨_, rfl⟩
      have P3 := toHid8 (show DSt wr wx2 r rB sx2 g2 (.int .i64 y0) (.string y1) (.string y2) (.string ⟨#[]⟩) (.int .i64 0) (.slice none 0 0) (.slice none 0 0) from hwx2 ▸ T2.out.set2 (.string y2))
      have W2 := toHid8 (show Fr (fun k => k = rB) wd2 wx2 from hwx2 ▸ Fr.setCell (M := fun k => k = rB) wd2 (a := ⟨rB, 2, none⟩) rfl _)
      obtain ⟨a0, a1, a2, a3, a4, a5, a6⟩ := T2.out.bx.cells
      have fz := T2.out.bx.frozen
      have q6 := drtext_any r sx2 g2 wx2 P3.out.rd
      clear q5 hR hS hF
      go_wp2_with fail
      clear a0 a1 a2 a3 a4 a5 a6 fz hwx2
      with_reducible refine q6.mono ?_
      rintro e wd3 ⟨y3, sx3, g3, rfl, hR, hS, hF, hz3⟩
      have E3 := toHid8 hS
      have T3 := toHid8 (P3.out.call hF hR)
      have V3 := toHid8 hF
      obtain ⟨wx3, hwx3⟩ : ∃ x, wd3.setCell ⟨rB, 3, none⟩ (.string y3) = x := ⟨_, rfl⟩
      have P4 := toHid8 (show DSt wr wx3 r rB sx3 g3 (.int .i64 y0) (.string y1) (.string y2) (.string y3) (.int .i64 0) (.slice none 0 0) (.slice none 0 0) from hwx3 ▸ T3.out.set3 (.string y3))
      have W3 := toHid8 (show Fr (fun k => k = rB) wd3 wx3 from hwx3 ▸ Fr.setCell (M := fun k => k = rB) wd3 (a := ⟨rB, 3, none⟩) rfl _)
      obtain ⟨a0, a1, a2, a3, a4, a5, a6⟩ := T3.out.bx.cells
      have fz := T3.out.bx.frozen
      have q7 := dnumber_any r sx3 g3 wx3 P4.out.rd
      clear q6 hR hS hF
      go_wp2_with fail
      clear a0 a1 a2 a3 a4 a5 a6 fz hwx3
      with_reducible refine q7.mono ?_
      rintro e wd4 ⟨y4, sx4, g4, rfl, -, hR, hS, hF, hz4⟩
      have E4 := toHid8 hS
      have T4 := toHid8 (P4.out.call hF hR)
      have V4 := toHid8 hF
      obtain ⟨wx4, hwx4⟩ : ∃ x, wd4.setCell ⟨rB, 4, none⟩ (.int .i64 y4) = x := ⟨_, rfl⟩
      have P5 := toHid8 (show DSt wr wx4 r rB sx4 g4 (.int .i64 y0) (.string y1) (.string y2) (.string y3) (.int .i64 y4) (.slice none 0 0) (.slice none 0 0) from hwx4 ▸ T4.out.set4 (.int .i64 y4))
      have W4 := toHid8 (show Fr (fun k => k = rB) wd4 wx4 from hwx4 ▸ Fr.setCell (M := fun k => k = rB) wd4 (a := ⟨rB, 4, none⟩) rfl _)
      obtain ⟨a0, a1, a2, a3, a4, a5, a6⟩ := T4.out.bx.cells
      have fz := T4.out.bx.frozen
      have q8 := drlist_any r sx4 g4 wx4 P5.out.rd
      clear q7 hR hS hF
      go_wp2_with fail
      clear a0 a1 a2 a3 a4 a5 a6 fz hwx4
      with_reducible refine q8.mono ?_
      rintro e wd5 ⟨v5, y5, sx5, g5, rfl, hO, hR, hS, hF, hz5⟩
      obtain ⟨p5, n5, hv, -, -⟩ := hO.slice
      rw [List.length_map] at hv
      obtain ⟨m5, hm5⟩ : ∃ m, y5.length = m := ⟨_, rfl⟩
      rw [hm5] at hv
      subst hv
      have HM5 := toHid8 hm5
      have Q5 := toHid8 hO
      have E5 := toHid8 hS
      have T5 := toHid8 (P5.out.call hF hR)
      have V5 := toHid8 hF
      obtain ⟨wx5, hwx5⟩ : ∃ x, wd5.setCell ⟨rB, 5, none⟩ (.slice p5 m5 n5) = x := ⟨_, rfl⟩
      have P6 := toHid8 (show DSt wr wx5 r rB sx5 g5 (.int .i64 y0) (.string y1) (.string y2) (.string y3) (.int .i64 y4) (.slice p5 m5 n5) (.slice none 0 0) from hwx5 ▸ T5.out.set5 (.slice p5 m5 n5))
      have W5 := toHid8 (show Fr (fun k => k = rB) wd5 wx5 from hwx5 ▸ Fr.setCell (M := fun k => k = rB) wd5 (a := ⟨rB, 5, none⟩) rfl _)
      obtain ⟨a0, a1, a2, a3, a4, a5, a6⟩ := T5.out.bx.cells
      have fz := T5.out.bx.frozen
      have q9 := drlist_any r sx5 g5 wx5 P6.out.rd
      clear q8 hR hS hF hO
      go_wp2_with fail
      clear a0 a1 a2 a3 a4 a5 a6 fz hwx5
      with_reducible refine q9.mono ?_
      rintro e wd6 ⟨v6, y6, sx6, g6, rfl, hO, hR, hS, hF, hz6⟩
      obtain ⟨p6, n6, hv, -, -⟩ := hO.slice
      rw [List.length_map] at hv
      obtain ⟨m6, hm6⟩ : ∃ m, y6.length = m := ⟨_, rfl⟩
      rw [hm6] at hv
      subst hv
      have HM6 := toHid8 hm6
      have Q6 := toHid8 hO
      have E6 := toHid8 hS
      have T6 := toHid8 (P6.out.call hF hR)
      have V6 := toHid8 hF
      obtain ⟨wx6, hwx6⟩ : ∃ x, wd6.setCell ⟨rB, 6, none⟩ (.slice p6 m6 n6) = x := ⟨_, rfl⟩
      have P7 := toHid8 (show DSt wr wx6 r rB sx6 g6 (.int .i64 y0) (.string y1) (.string y2) (.string y3) (.int .i64 y4) (.slice p5 m5 n5) (.slice p6 m6 n6) from hwx6 ▸ T6.out.set6 (.slice p6 m6 n6))
      have W6 := toHid8 (show Fr (fun k => k = rB) wd6 wx6 from hwx6 ▸ Fr.setCell (M := fun k => k = rB) wd6 (a := ⟨rB, 6, none⟩) rfl _)
      obtain ⟨a0, a1, a2, a3, a4, a5, a6⟩ := T6.out.bx.cells
      have fz := T6.out.bx.frozen
      clear q9 hR hS hF hO
      have HS := toHid8 (show Step false (primD (unB u)) (mkP (y0, unB y1, unB y2, unB y3, y4, y5, y6)) (unB sx6) g6 from (E0.out.pair (E1.out.pair (E2.out.pair (E3.out.pair (E4.out.pair (E5.out.pair E6.out)))))).iso mkP)
      obtain ⟨x, hx⟩ : ∃ x, mkP (y0, unB y1, unB y2, unB y3, y4, y5, y6) = x := ⟨_, rfl⟩
      rw [hx] at HS
      have hb := P7.out.bx
      have hlo := P7.out.lo
      have hfr := P7.out.fr
      have hLt := HLt.out
      have hwr3 := HG.out.fr.size
      have hr4 := P5.out.fr.size
      have hBw := HO.out.2
      have hW3 := HW3.out
      have hb5 : rB < wx4.heap.size := P5.out.bx.lt
      have hr5 := P6.out.fr.size
      have hb6 : rB < wx5.heap.size := P6.out.bx.lt
      have ow5 := (((Q5.out.frame W5.out (fun k e => by omega)).frame V6.out (fun k e => by omega)).frame W6.out (fun k e => by omega))
      have ow6 := Q6.out.frame W6.out (fun k e => by omega)
      have hO1 := HO.out.1.1.fr hfr (fun k e => by have := (HO.out.1.1.ge e).1; omega) (fun y hy k e _ => by have := HO.out.1.2 y hy k e; omega)
      have fo : Far (.slice va k ca) (.slice p5 m5 n5) x.old := fun _ i e e' => by
        have h1 := ow5.ge i e
        have h2 := (HO.out.1.1.ge e').2
        omega
      have fn : Far (.slice va k ca) (.slice p6 m6 n6) x.new := fun _ i e e' => by
        have h1 := ow6.ge i e
        have h2 := (HO.out.1.1.ge e').2
        omega
      have eo : x.old = y5.map mkB := by rw [← hx]; rfl
      have en : x.new = y6.map mkB := by rw [← hx]; rfl
      obtain ⟨_, _, -, -, so⟩ := ow5.slice
      obtain ⟨_, _, -, -, sn⟩ := ow6.slice
      rw [← eo] at so
      rw [← en] at sn
      obtain ⟨wn, hwn⟩ : ∃ y, wx6.alloc (.cells #[.int .i64 y0, .string y1, .string y2, .string y3, .int .i64 y4, .slice p5 m5 n5, .slice p6 m6 n6] 41) = y := ⟨_, rfl⟩
      have Fn : Fr None' wx6 wn := hwn ▸ Fr.alloc None' wx6 _
      have Bn : Box wn wx6.heap.size (.int .i64 x.kind) (.string x.path) (.string x.dst) (.string x.src) (.int .i64 x.pos) (.slice p5 m5 n5) (.slice p6 m6 n6) := by rw [← hx, ← hwn]; exact Box.new wx6 _ _ _ _ _ _ _
      obtain ⟨v', wp, hr', hO5, hF5, -⟩ := (hO1.kept Fn).push Bn (so.kept Fn) (sn.kept Fn) fo fn (by rw [HK.out]; omega) (by have := Fn.size; have := hfr.size; omega)
      have hge : ∀ i, (Value.slice va k ca).ownBlock = some i → B ≤ i := fun i e => (HO.out.1.1.ge e).1
      have hGp := ((HG.out.call (hfr) P7.out.rd).far Fn (fun k e => e.elim)).far hF5 (fun i e => Nat.le_trans hW3 (hge i e))
      obtain ⟨c0, c1, c2⟩ := (HG.out.call hfr P7.out.rd).pp.cells
      obtain ⟨x0', x1', x2', x3', x4', x5', x6'⟩ := P7.out.bx.cells
      have z2 := hGp.pp.frozen 2
      obtain ⟨k0', k1', k2'⟩ := hGp.pp.cells
      obtain ⟨wq, hwq⟩ : ∃ y, wp.setCell ⟨rP, 2, none⟩ v' = y := ⟨_, rfl⟩
      have HGq := toHid8 (show GSt w3 wq r rP rR sx6 g6 (.string x0) (.slice p1 m1 n1) v' from hwq ▸ hGp.set2 v')
      have Fq : Fr (fun k => k = rP) wp wq := hwq ▸ Fr.setCell (M := fun k => k = rP) wp (a := ⟨rP, 2, none⟩) rfl v'
      have hV : VGe B (V ++ [(.slice p5 m5 n5, .slice p6 m6 n6)]) := fun y hy i e => by
        rcases List.mem_append.1 hy with hy | hy
        · exact HO.out.1.2 y hy i e
        · rw [List.mem_singleton.1 hy] at e
          rcases e with e | e
          · have := ow5.ge i e; omega
          · have := ow6.ge i e; omega
      have HOq := toHid8 (show (OwnP B wq v' (xs ++ [x]) (V ++ [(.slice p5 m5 n5, .slice p6 m6 n6)]) ∧ VGe B (V ++ [(.slice p5 m5 n5, .slice p6 m6 n6)])) ∧ B ≤ wq.heap.size from ⟨⟨hO5.fr Fq (fun k e => by have := (hO5.ge e).1; omega) (fun y hy k e _ => by have := hV y hy k e; omega), hV⟩, by have := Fn.size; have := hF5.size; have := Fq.size; have := hfr.size; omega⟩)
      have HDq := toHid8 (show StrsAt wq (.slice p1 m1 n1) (x1.map mkB) from (((HD.out.far hfr (fun _ i e e' => by have := (HP1.out i e).1; omega)).kept Fn).far hF5 (fun _ i e e' => by have := (HP1.out i e).2; have := hge i e'; omega)).far Fq (fun _ i e e' => by have := (HP1.out i e).1; omega))
      have HJq := toHid8 (show (g6 = false → b1 = false ∧ (xs ++ [x]).length ≤ n ∧ X = comb (xs ++ [x]) (manyR primD (n - (xs ++ [x]).length) (unB sx6)) ∧ (xs ++ [x]).length + sx6.size ≤ s0.size) ∧ (g6 = true → b1 = true ∨ X = none) from by
        have e1 : (xs ++ [x]).length = k + 1 := by rw [List.length_append, HK.out]; rfl
        rw [e1]
        rcases HS.out with ⟨q1, _, q3⟩ | ⟨q1, q2⟩
        · refine ⟨fun _ => ⟨HB0.out, HLk.out, by rw [HXc.out]; exact comb_yes HLk.out q3, ?_⟩, fun e => (by rw [q1] at e; cases e)⟩
          have h1 := primD_len q3
          rw [un_len, un_len] at h1
          have := HSz.out
          omega
        · refine ⟨fun e => (by rw [q1] at e; cases e), fun _ => .inr ?_⟩
          rcases q2 with q2 | q2
          · cases q2
          · rw [HXc.out]; exact comb_no HLk.out q2)
      obtain ⟨va4, ca4, hv4, -, -, -⟩ := HOq.out.1.1.slice
      have HLn := toHid8 (show (xs ++ [x]).length ≤ 20001 by rw [List.length_append, HK.out]; have := HSz.out; have := HZ0.out; simp; omega)
      have HI := toHid8 (show ((xs ++ [x]).length : Int) = (k : Int) + 1 by rw [List.length_append, HK.out]; simp)
      obtain ⟨q, hq⟩ : ∃ q, (xs ++ [x]).length = q := ⟨_, rfl⟩
      have HQ := toHid8 hq
      rw [hq] at hv4
      subst hv4
      clear hq
      clear hb hlo hfr hLt hwr3 hr4 hb5 hr5 hb6 ow5 ow6 hO1 fo fn eo en so sn Fn Bn hO5 hF5 hge hGp Fq hV
      go_wp2_with (at_builtin
                   refine app_list9 rfl _ _ rfl rfl rfl hr' ?_)
      exact ⟨⟨xs ++ [x], V ++ [(.slice p5 m5 n5, .slice p6 m6 n6)], sx6, g6, va4, ca4, by rw [HI.out], by rw [HQ.out]; exact HGq.out, by rw [HQ.out]; exact HOq.out, HDq.out, HJq.out, HLn.out⟩, by simp [intOf]; have := HLk.out; omega⟩

end Go.Proofs.YtofpkpomhdhkgaaGreatDoor
