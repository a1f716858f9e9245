/-
  What is proved here: the contracts that the statement stands on: Past10, Past11, Head10, Back10. Conditions: as each theorem names them.
-/
import Derived.Test.YtpfkkpghgmmijaaGreatDoorM36CommD10
import Derived.Test.YtpfkkpghgmmijaaGreatDoorM16Plain10
import Derived.Test.YtpfkkpghgmmijaaGreatDoorM29Back9
import Derived.Test.YtpfkkpghgmmijaaGreatDoorM11Great9
namespace Go.Proofs.YtpfkkpghgmmijaaGreatDoor
open Go.RowKit
set_option maxRecDepth 100000

theorem OwnP.fr2 {M : Nat → Prop} {base : Nat} {w w' : World} {v : Value} {L : List Pr} {V : List (Value × Value)} (h : OwnP base w v L V) (f : Fr M w w') (hv : ∀ k, v.ownBlock = some k → ¬ M k) (hs : ∀ (k : Nat) (x : Pr) (u : Value × Value), L[k]? = some x → V[k]? = some u → (x.old ≠ [] → ∀ j, u.1.ownBlock = some j → ¬ M j) ∧ (x.new ≠ [] → ∀ j, u.2.ownBlock = some j → ¬ M j)) : OwnP base w' v L V := by
  refine ⟨h.len, ⟨h.row.1, ?_⟩, fun k x u e1 e2 => ?_⟩
  · rcases h.row.2 with h | ⟨g, cap, cur, he, hb, hh, h⟩
    · exact Or.inl h
    · exact Or.inr ⟨g, cap, cur, he, hb, f.at hh (hv g (by rw [he]; rfl)), h⟩
  · obtain ⟨h1, h2, h3, h4⟩ := h.str k x u e1 e2
    obtain ⟨g1, g2⟩ := hs k x u e1 e2
    exact ⟨h1.far f g1, h2.far f g2, h3, h4⟩

def Apt (b5 b8 : Nat) (v : Value) (l : List ByteArray) : Prop := l ≠ [] → ∀ j, v.ownBlock = some j → ¬ (j = b5 ∨ j = b8)

structure PastAt (x : Pr) (L : List Pr) (k : Nat) (A : List Pr) (b : Pr) : Prop where
  eq : pastP x (L.take k) = (A, b, true)
  small : SmallP b
  len : A.length = k

theorem past_take {x : Pr} {L : List Pr} {k : Nat} (hk : k < L.length) {A : List Pr} {b : Pr} (h : pastP x (L.take k) = (A, b, true)) : pastP x (L.take (k + 1)) = if (commP b L[k]).2.2 then (A ++ [(commP b L[k]).1], (commP b L[k]).2.1, true) else ([], zeroP, false) := by
  rw [List.take_succ_eq_append_getElem hk, past_append, h]
  simp only [pastP, if_true]
  by_cases hc : (commP b L[k]).2.2 = true
  · rw [if_pos hc, if_pos hc]
    rfl
  · rw [if_neg hc, if_neg hc]
    rfl

theorem past_stop {x : Pr} {L : List Pr} {k : Nat} (h : (pastP x (L.take k)).2.2 = false) : pastP x L = ([], zeroP, false) := by
  conv => lhs; rw [← List.take_append_drop k L]
  rw [past_append, if_neg (by rw [h]; simp)]

theorem results_tct {fn : Func} {p q r : Tmp} (hres : fn.results = #[.tmp p, .cell q 45, .tmp r]) (tmps : Array Value) {w : World} {c : Nat} {z0 z1 z2 z3 z4 z5 z6 : Value} (hq : tmps.getD q undef = .pointer (some ⟨c, 0, none⟩)) (k : Box w c z0 z1 z2 z3 z4 z5 z6) :
    (results fn tmps).run Tryz.prog w = .ok (.tuple #[tmps.getD p undef, .agg #[z0, z1, z2, z3, z4, z5, z6], tmps.getD r undef]) w := by
  have hq' : tmps[q]?.getD undef = .pointer (some ⟨c, 0, none⟩) := by simpa using hq
  simp [results, hres, hq', asAddr, k.load]

theorem ret_tct {fn : Func} {p q r : Tmp} (hres : fn.results = #[.tmp p, .cell q 45, .tmp r]) {Q : Ending → World → Prop} {a : Act} {w : World} {c : Nat} {z0 z1 z2 z3 z4 z5 z6 u v : Value} (hd : a.defers = []) (hq : a.tmps.getD q undef = .pointer (some ⟨c, 0, none⟩)) (hv : a.tmps.getD p undef = v) (hu : a.tmps.getD r undef = u) (k : Box w c z0 z1 z2 z3 z4 z5 z6)
    (hQ : Q (.returned (.tuple #[v, .agg #[z0, z1, z2, z3, z4, z5, z6], u])) w) : bodyPost Tryz.prog fn Q .ret a w := by
  subst hu hv
  exact bodyPost_ret (results_tct hres _ hq k) hd hQ

theorem OwnP.made {base : Nat} {w' : World} {g n : Nat} {cur : Array Value} (hb : base ≤ g) (hh : w'.heap[g]? = some (.cells cur 45 (0, 0))) (hs : cur.size = n * 7) (hn : n ≤ 90000) : OwnP base w' (.slice (some ⟨g, 0, none⟩) 0 n) [] [] :=
  ⟨rfl, ⟨rfl, Or.inr ⟨g, n, cur, rfl, hb, hh, Nat.zero_le _, by unfold maxLen; omega, hs, rfl⟩⟩, fun k x u e => by simp at e⟩

end Go.Proofs.YtpfkkpghgmmijaaGreatDoor

namespace Go.Proofs.YtpfkkpghgmmijaaGreatDoor
open Go.RowKit
set_option maxRecDepth 100000

structure PastIn11 (w : World) (b5 b8 : Nat) (wr : World) (va : Value) (A : List Pr) (b : Pr) (V : List (Value × Value)) (po pn : Option Addr) (co cn : Nat) : Prop where
  fr : Fr None' w wr
  own : OwnP w.heap.size wr va A V
  far : ∀ k, va.ownBlock = some k → ¬ (k = b5 ∨ k = b8)
  apt : ∀ (k : Nat) (x : Pr) (u : Value × Value), A[k]? = some x → V[k]? = some u → Apt b5 b8 u.1 x.old ∧ Apt b5 b8 u.2 x.new
  nw : ∀ u ∈ V, ∀ k, (u.1.ownBlock = some k ∨ u.2.ownBlock = some k) → w.heap.size ≤ k
  bx : Box wr b8 (.int .i64 b.kind) (.string b.path) (.string b.dst) (.string b.src) (.int .i64 b.pos) (.slice po b.old.length co) (.slice pn b.new.length cn)
  so : StrsAt wr (.slice po b.old.length co) b.old
  sn : StrsAt wr (.slice pn b.new.length cn) b.new
  ao : Apt b5 b8 (.slice po b.old.length co) b.old
  an : Apt b5 b8 (.slice pn b.new.length cn) b.new
  go : ∀ k, (Value.slice po b.old.length co).ownBlock = some k → w.heap.size ≤ k
  gn : ∀ k, (Value.slice pn b.new.length cn).ownBlock = some k → w.heap.size ≤ k
  res : Box wr b5 (.int .i64 0) (.string ⟨#[]⟩) (.string ⟨#[]⟩) (.string ⟨#[]⟩) (.int .i64 0) (.slice none 0 0) (.slice none 0 0)

def PastPost11 (x : Pr) (L : List Pr) (w : World) (e : Ending) (w' : World) : Prop := ∃ va vb V, e = .returned (.tuple #[va, vb, .bool (pastP x L).2.2]) ∧ OwnP w.heap.size w' va (pastP x L).1 V ∧ (∀ u ∈ V, ∀ k, (u.1.ownBlock = some k ∨ u.2.ownBlock = some k) → w.heap.size ≤ k) ∧ PrNew w w' vb (pastP x L).2.1 ∧ Fr None' w w'

set_option maxHeartbeats 16000000 in
theorem past_new (hC : CommuteAll) (x : Pr) (vo vn : Value) (va : Option Addr) (n c : Nat) (L : List Pr) (w : World) (ho : StrsAt w vo x.old) (hn : StrsAt w vn x.new) (sx : SmallP x) (hl : L.length = n) (hn60 : n ≤ 200) (hL : PrsAt w va L) (sL : ∀ y ∈ L, SmallP y) :
    Calls Tryz.prog 26 #[.agg #[.int .i64 x.kind, .string x.path, .string x.dst, .string x.src, .int .i64 x.pos, vo, vn], .slice va n c] w fun e w' => PastPost11 x L w e w' := by
  have HCp := toHid10 (show ∀ w', Fr None' w w' → Calls Tryz.prog 43 #[.agg #[.int .i64 x.kind, .string x.path, .string x.dst, .string x.src, .int .i64 x.pos, vo, vn]] w' (fun e w'' => ∃ v, e = .returned v ∧ PrNew w' w'' v x ∧ Fr None' w' w'') from fun w' f => copied_any x vo vn w' (ho.kept f) (hn.kept f) (by have := sx.old; omega) (by have := sx.new; omega))
  have HCm := toHid10 (show ∀ (b : Pr) (k : Nat) (hk : k < L.length) w' po co pn cn ra rc rb rd, SmallP b → StrsAt w' (.slice po b.old.length co) b.old → StrsAt w' (.slice pn b.new.length cn) b.new → StrsAt w' (.slice ra L[k].old.length rc) L[k].old → StrsAt w' (.slice rb L[k].new.length rd) L[k].new → Calls Tryz.prog 44 #[.agg #[.int .i64 b.kind, .string b.path, .string b.dst, .string b.src, .int .i64 b.pos, .slice po b.old.length co, .slice pn b.new.length cn], .agg #[.int .i64 L[k].kind, .string L[k].path, .string L[k].dst, .string L[k].src, .int .i64 L[k].pos, .slice ra L[k].old.length rc, .slice rb L[k].new.length rd]] w' (fun e w'' => CommPost b L[k] w' e w'') from fun b k hk w' po co pn cn ra rc rb rd sb h1 h2 h3 h4 => hC b L[k] _ _ _ _ w' h1 h2 h3 h4 sb (sL _ (List.getElem_mem hk)))
  have HLe := toHid10 hl
  have HLs := toHid10 hL
  have HSL := toHid10 sL
  have HSx := toHid10 sx
  have HRx := toHid10 (And.intro ho hn)
  obtain ⟨pa, ca, rfl⟩ := ho.as2
  obtain ⟨pb, cb, rfl⟩ := hn.as2
  obtain ⟨no, hno⟩ : ∃ m, x.old.length = m := ⟨_, rfl⟩
  obtain ⟨nn, hnn⟩ : ∃ m, x.new.length = m := ⟨_, rfl⟩
  rw [hno] at HCp ⊢
  rw [hnn] at HCp ⊢
  obtain ⟨i0, hi, hz0, hz1, hz2⟩ := info_parts infoP
  obtain ⟨w1, hw1⟩ : ∃ w1, w.alloc (.cells #[.int .i64 x.kind, .string x.path, .string x.dst, .string x.src, .int .i64 x.pos, .slice pa no ca, .slice pb nn cb] 45) = w1 := ⟨_, rfl⟩
  obtain ⟨w2, hw2⟩ : ∃ w2, w1.alloc (.cells #[.int .i64 0, .string ⟨#[]⟩, .string ⟨#[]⟩, .string ⟨#[]⟩, .int .i64 0, .slice none 0 0, .slice none 0 0] 45) = w2 := ⟨_, rfl⟩
  have F1 : Fr None' w w1 := hw1 ▸ Fr.alloc None' w _
  have F2 : Fr None' w1 w2 := hw2 ▸ Fr.alloc None' w1 _
  have s1 : w1.heap.size = w.heap.size + 1 := by rw [← hw1]; simp
  have s2 : w2.heap.size = w1.heap.size + 1 := by rw [← hw2]; simp
  obtain ⟨w3, hmk, F3, s3, O3⟩ : ∃ w3, (Instr.makeSlice 22 (.int .i64 0) (.int .i64 (n : Int))).run Tryz.prog w2 = .ok (.slice (some ⟨w2.heap.size, 0, none⟩) 0 n) w3 ∧ Fr None' w2 w3 ∧ w3.heap.size = w2.heap.size + 1 ∧ OwnP w.heap.size w3 (.slice (some ⟨w2.heap.size, 0, none⟩) 0 n) [] [] := by
    have hmk := run_make (P := Tryz.prog) w2 22 45 i0 _ Tryz.underlying22 hi hz0 .i64 .i64 0 (n : Int) (Int.le_refl _) (by omega) (by rw [hz2]; omega) (by omega)
    exact ⟨_, hmk, Fr.alloc _ _ _, by simp, OwnP.made (by omega) (heap_alloc_new _ _) (by simp [size_madeCells, hz1]) (by omega)⟩
  have BX : Box w3 w.heap.size (.int .i64 x.kind) (.string x.path) (.string x.dst) (.string x.src) (.int .i64 x.pos) (.slice pa no ca) (.slice pb nn cb) := (hw1 ▸ Box.new w _ _ _ _ _ _ _ : Box w1 _ _ _ _ _ _ _ _).kept (F2.then7 F3)
  have BR : Box w3 w1.heap.size (.int .i64 0) (.string ⟨#[]⟩) (.string ⟨#[]⟩) (.string ⟨#[]⟩) (.int .i64 0) (.slice none 0 0) (.slice none 0 0) := (hw2 ▸ Box.new w1 _ _ _ _ _ _ _ : Box w2 _ _ _ _ _ _ _ _).kept F3
  have HF3 := toHid10 ((F1.then7 F2).then7 F3)
  have HO3 := toHid10 O3
  have HBR := toHid10 BR
  have HN := toHid10 (show w1.heap.size = w.heap.size + 1 ∧ w2.heap.size = w1.heap.size + 1 ∧ w3.heap.size = w2.heap.size + 1 from ⟨s1, s2, s3⟩)
  obtain ⟨x0, x1, x2, x3, x4, x5, x6⟩ := BX.cells
  have q1 := HCp.out w3 HF3.out
  have i1 : (n : Int) ≤ 200 := by omega
  have i2 : (0 : Int) ≤ (n : Int) := by omega
  have HN60 := toHid10 hn60
  clear hC ho hn sx hl hL sL hno hnn hi hz0 hz1 hz2 F1 F2 F3 s1 s2 s3 O3 BX BR HCp hn60
  go_enter Tryz.func26, Tryz.ntmps26
  go_wp2_with fail
  with_reducible refine q1.mono ?_
  rintro e w4 ⟨v, rfl, ⟨vo4, vn4, rfl, r1, r2, g1, g2⟩, f4⟩
  obtain ⟨po4, co4, rfl⟩ := r1.as2
  obtain ⟨pn4, cn4, rfl⟩ := r2.as2
  clear q1 x0 x1 x2 x3 x4 x5 x6
  obtain ⟨w5, hw5⟩ : ∃ w5, w4.alloc (.cells #[.int .i64 x.kind, .string x.path, .string x.dst, .string x.src, .int .i64 x.pos, .slice po4 x.old.length co4, .slice pn4 x.new.length cn4] 45) = w5 := ⟨_, rfl⟩
  have F5 : Fr None' w4 w5 := hw5 ▸ Fr.alloc None' w4 _
  have B5 : Box w5 w4.heap.size (.int .i64 x.kind) (.string x.path) (.string x.dst) (.string x.src) (.int .i64 x.pos) (.slice po4 x.old.length co4) (.slice pn4 x.new.length cn4) := hw5 ▸ Box.new w4 _ _ _ _ _ _ _
  obtain ⟨b5, hb5⟩ : ∃ b, w1.heap.size = b := ⟨_, rfl⟩
  obtain ⟨b8, hb8⟩ : ∃ b, w4.heap.size = b := ⟨_, rfl⟩
  have h34 := f4.size
  have HP0 := toHid10 (show PastAt x L 0 [] x from ⟨rfl, HSx.out, rfl⟩)
  have HI0 := toHid10 (show PastIn11 w b5 b8 w5 (.slice (some ⟨w2.heap.size, 0, none⟩) 0 n) [] x [] po4 pn4 co4 cn4 from
    ⟨(HF3.out.then7 f4).then7 F5, (HO3.out.kept f4).kept F5, (fun k e => by have hk : w2.heap.size = k := Option.some.inj e; have := HN.out; omega), (fun k x u e => by simp at e), (fun u hu => by cases hu), hb8 ▸ B5, r1.kept F5, r2.kept F5,
      (fun hl j e => by have := r1.lt hl e; have := g1 j e; have := HN.out; omega), (fun hl j e => by have := r2.lt hl e; have := g2 j e; have := HN.out; omega),
      (fun k e => by have := g1 k e; have := HN.out; omega), (fun k e => by have := g2 k e; have := HN.out; omega), hb5 ▸ (HBR.out.kept f4).kept F5⟩)
  have HB58 := toHid10 (show w.heap.size ≤ b5 ∧ b5 < b8 from by have := HN.out; omega)
  clear r1 r2 g1 g2 f4 F5 B5 h34 HO3 HBR hmk HRx HSx
  go_wp2_with fail
  go_loopw [7, 21] (fun va vi wr => ∃ (k : Nat) (A : List Pr) (b : Pr) (V : List (Value × Value)) (po pn : Option Addr) (co cn : Nat), k ≤ n ∧ vi = .int .i64 k ∧ Hid (PastAt x L k A b) ∧ Hid (PastIn11 w b5 b8 wr va A b V po pn co cn)) (fun _ vi _ => n - (intOf vi).toNat)
  case atStart => exact ⟨0, [], x, [], po4, pn4, co4, cn4, Nat.zero_le _, rfl, HP0.out, HI0.out⟩
  case round =>
    obtain ⟨k, A, b, V, po, pn, co, cn, hk, rfl, HP, HI⟩ := hrel
    obtain ⟨vg, vc, hva, _, _, _⟩ := HI.out.own.slice
    by_cases hlt : k < n
    · have hkL : k < L.length := by rw [HLe.out]; exact hlt
      obtain ⟨g, o, rfl, uo, un, d0, d1, d2, d3, d4, d5, d6, t1, t2⟩ := (HLs.out.kept HI.out.fr).get hkL
      have HT := toHid10 (past_take hkL HP.out.eq)
      have HSq := toHid10 (HSL.out _ (List.getElem_mem hkL))
      obtain ⟨ra, rc, rfl⟩ := t1.as2
      obtain ⟨rb, rd, rfl⟩ := t2.as2
      have HCk := toHid10 (fun w' (f : Fr None' wr w') => HCm.out b k hkL w' po co pn cn ra rc rb rd HP.out.small (HI.out.so.kept f) (HI.out.sn.kept f) (t1.kept f) (t2.kept f))
      generalize L[k] = q at d0 d1 d2 d3 d4 d5 d6 HT HCk HSq
      obtain ⟨c0, c1, c2, c3, c4, c5, c6⟩ := HI.out.bx.cells
      have hnew := HI.out.bx.lt
      have i3 : (k : Int) < (n : Int) := by omega
      have i4 : (0 : Int) ≤ (k : Int) := by omega
      obtain ⟨wA, hwA⟩ : ∃ wA, wr.alloc (.cells #[.int .i64 q.kind, .string q.path, .string q.dst, .string q.src, .int .i64 q.pos, .slice ra q.old.length rc, .slice rb q.new.length rd] 45) = wA := ⟨_, rfl⟩
      have FA : Fr None' wr wA := hwA ▸ Fr.alloc None' wr _
      have BA : Box wA wr.heap.size (.int .i64 q.kind) (.string q.path) (.string q.dst) (.string q.src) (.int .i64 q.pos) (.slice ra q.old.length rc) (.slice rb q.new.length rd) := hwA ▸ Box.new wr _ _ _ _ _ _ _
      have q2 := HCk.out wA FA
      obtain ⟨e0, e1, e2, e3, e4, e5, e6⟩ := BA.cells
      obtain ⟨h0, h1, h2, h3, h4, h5, h6⟩ := (HI.out.bx.kept FA).cells
      have HFA := toHid10 FA
      have HNA := toHid10 (show b8 < wr.heap.size ∧ wr.heap.size < wA.heap.size from ⟨hnew, BA.lt⟩)
      clear FA BA t1 t2 hlt hnew HCk
      subst hva
      go_wp2_with fail
      with_reducible refine q2.mono ?_
      rintro e w6 ⟨va6, vb6, rfl, ⟨vo1, vn1, rfl, r1, r2, g1, g2⟩, ⟨vo2, vn2, rfl, r3, r4, g3, g4⟩, f6⟩
      clear q2 c0 c1 c2 c3 c4 c5 c6 d0 d1 d2 d3 d4 d5 d6 e0 e1 e2 e3 e4 e5 e6 h0 h1 h2 h3 h4 h5 h6
      obtain ⟨r, hr⟩ : ∃ r, commP b q = r := ⟨_, rfl⟩
      have HCy := toHid10 (show (commP b q).2.2 = true → SmallP (commP b q).2.1 from fun h => by
        obtain ⟨y1, y2, y3, _⟩ := commP_yes h
        rw [y3]
        exact (rule_small y1 y2 HP.out.small HSq.out).2)
      rw [hr] at r1 r2 r3 r4 HT HCy ⊢
      obtain ⟨⟨k1, p1, t1, f1, a1, o1, m1⟩, ⟨k2, p2, t2, f2, a2, o2, m2⟩, rt⟩ := r
      simp only at r1 r2 r3 r4 HT HCy ⊢
      obtain ⟨po1, co1, rfl⟩ := r1.as2
      obtain ⟨pn1, cn1, rfl⟩ := r2.as2
      obtain ⟨po2, co2, rfl⟩ := r3.as2
      obtain ⟨pn2, cn2, rfl⟩ := r4.as2
      have HI6 := toHid10 (show Fr None' w w6 ∧ Box w6 b5 (.int .i64 0) (.string ⟨#[]⟩) (.string ⟨#[]⟩) (.string ⟨#[]⟩) (.int .i64 0) (.slice none 0 0) (.slice none 0 0) from ⟨HI.out.fr.then7 (HFA.out.then7 f6), HI.out.res.kept (HFA.out.then7 f6)⟩)
      have HF6 := toHid10 (HFA.out.then7 f6)
      have HR6 := toHid10 (And.intro (And.intro r1 r2) (And.intro g1 g2))
      have HR7 := toHid10 (And.intro (And.intro r3 r4) (And.intro g3 g4))
      have HS6 := toHid10 f6.size
      clear hr r1 r2 r3 r4 g1 g2 g3 g4 f6
      cases rt with
      | false =>
        have HE := toHid10 (show pastP x L = ([], zeroP, false) from past_stop (k := k + 1) (by rw [HT.out]; rfl))
        obtain ⟨w7, hw7⟩ : ∃ w7, (w6.alloc (.cells #[.int .i64 k1, .string p1, .string t1, .string f1, .int .i64 a1, .slice po1 o1.length co1, .slice pn1 m1.length cn1] 45)).alloc (.cells #[.int .i64 k2, .string p2, .string t2, .string f2, .int .i64 a2, .slice po2 o2.length co2, .slice pn2 m2.length cn2] 45) = w7 := ⟨_, rfl⟩
        have F7 : Fr None' w6 w7 := hw7 ▸ (Fr.alloc None' _ _).then7 (Fr.alloc None' _ _)
        have B7 := HI6.out.2.kept F7
        have HB7 := toHid10 B7
        have HF7 := toHid10 (HI6.out.1.then7 F7)
        obtain ⟨c0, c1, c2, c3, c4, c5, c6⟩ := B7.cells
        have cz := B7.frozen
        clear F7 B7
        go_wp2_with fail
        have hfin := fin9 (W := w7) HF7.out HB7.out (Fr.refl (fun k => k = w7.heap.size) _) (by have := HB7.out.lt; omega) HB58.out.1 HF7.out.size (.int .i64 0) (.string ⟨#[]⟩) (.string ⟨#[]⟩) (.string ⟨#[]⟩) (.int .i64 0) (.slice none 0 0) (.slice none 0 0)
        refine ret_tct (u := .bool false) (v := .slice none 0 0) rfl rfl rfl rfl rfl hfin.1 ?_
        unfold PastPost11
        rw [HE.out]
        exact ⟨_, _, [], rfl, OwnP.nil _ _, (fun u hu => by cases hu), zero_new _ _, hfin.2⟩
      | true =>
        obtain ⟨w7, hw7⟩ : ∃ w7, (w6.alloc (.cells #[.int .i64 k1, .string p1, .string t1, .string f1, .int .i64 a1, .slice po1 o1.length co1, .slice pn1 m1.length cn1] 45)).alloc (.cells #[.int .i64 k2, .string p2, .string t2, .string f2, .int .i64 a2, .slice po2 o2.length co2, .slice pn2 m2.length cn2] 45) = w7 := ⟨_, rfl⟩
        obtain ⟨wC, hwC⟩ : ∃ wC, w6.alloc (.cells #[.int .i64 k1, .string p1, .string t1, .string f1, .int .i64 a1, .slice po1 o1.length co1, .slice pn1 m1.length cn1] 45) = wC := ⟨_, rfl⟩
        have FC : Fr None' w6 wC := hwC ▸ Fr.alloc None' _ _
        have FC7 : Fr None' wC w7 := by rw [← hw7, hwC]; exact Fr.alloc None' _ _
        have F7 := FC.then7 FC7
        have sC : wC.heap.size = w6.heap.size + 1 := by rw [← hwC]; simp
        have B11 : Box w7 w6.heap.size (.int .i64 k1) (.string p1) (.string t1) (.string f1) (.int .i64 a1) (.slice po1 o1.length co1) (.slice pn1 m1.length cn1) := (hwC ▸ Box.new w6 _ _ _ _ _ _ _ : Box wC _ _ _ _ _ _ _ _).kept FC7
        have B12 : Box w7 (w6.heap.size + 1) (.int .i64 k2) (.string p2) (.string t2) (.string f2) (.int .i64 a2) (.slice po2 o2.length co2) (.slice pn2 m2.length cn2) := by rw [← sC, ← hw7, hwC]; exact Box.new wC _ _ _ _ _ _ _
        have l12 := B12.lt
        obtain ⟨⟨r1, r2⟩, g1, g2⟩ := HR6.out
        obtain ⟨⟨r3, r4⟩, g3, g4⟩ := HR7.out
        have hI := HI.out
        have hA := HNA.out
        have h6 := HS6.out
        have FR7 := HF6.out.then7 F7
        obtain ⟨W8, hW8⟩ : ∃ W8, (w7.alloc (.cells #[.int .i64 k1, .string p1, .string t1, .string f1, .int .i64 a1, .slice po1 o1.length co1, .slice pn1 m1.length cn1] 45)).drew = W8 := ⟨_, rfl⟩
        have F8 : Fr None' w7 W8 := hW8 ▸ (Fr.alloc None' _ _).then7 (Fr.drew None' _)
        have B8 : Box W8 w7.heap.size (.int .i64 k1) (.string p1) (.string t1) (.string f1) (.int .i64 a1) (.slice po1 o1.length co1) (.slice pn1 m1.length cn1) := hW8 ▸ (Box.new w7 _ _ _ _ _ _ _).drew
        have s8 : W8.heap.size = w7.heap.size + 1 := by rw [← hW8]; simp
        have own8 := (hI.own.kept FR7).kept F8
        have hlt7 : ∀ j, (Value.slice vg A.length vc).ownBlock = some j → w.heap.size ≤ j ∧ j < wr.heap.size := fun j e => hI.own.ge e
        obtain ⟨v9, w9, hr9, own9, hf9, ho9⟩ := own8.push (b := w7.heap.size) (x := ⟨k1, p1, t1, f1, a1, o1, m1⟩) B8 ((r1.kept F7).kept F8) ((r2.kept F7).kept F8) (fun hl j e e' => by have := g1 j e; have := hlt7 j e'; omega) (fun hl j e e' => by have := g2 j e; have := hlt7 j e'; omega) (by rw [HP.out.len]; have := HN60.out; omega) (by have := hI.fr.size; omega)
        obtain ⟨vg9, vc9, hv9, _⟩ := own9.slice
        have hne9 : ∀ j, v9.ownBlock = some j → ¬ (j = b5 ∨ j = b8) := fun j e => by
          rcases ho9 with h | h
          · rw [h] at e; exact hI.far j e
          · rw [h] at e; have : W8.heap.size = j := Option.some.inj e; have := HB58.out; omega
        have bx9 : Box w9 b8 (.int .i64 b.kind) (.string b.path) (.string b.dst) (.string b.src) (.int .i64 b.pos) (.slice po b.old.length co) (.slice pn b.new.length cn) := ((hI.bx.kept FR7).kept F8).fr hf9 (fun e => hI.far b8 e (Or.inr rfl))
        have FS : Fr (fun k => k = b8) w9 (setP w9 b8 (.int .i64 k2) (.string p2) (.string t2) (.string f2) (.int .i64 a2) (.slice po2 o2.length co2) (.slice pn2 m2.length cn2)) := Fr.setP (M := fun k => k = b8) w9 rfl _ _ _ _ _ _ _
        have HIn := toHid10 (show PastIn11 w b5 b8 (setP w9 b8 (.int .i64 k2) (.string p2) (.string t2) (.string f2) (.int .i64 a2) (.slice po2 o2.length co2) (.slice pn2 m2.length cn2)) v9 (A ++ [⟨k1, p1, t1, f1, a1, o1, m1⟩]) ⟨k2, p2, t2, f2, a2, o2, m2⟩ (V ++ [(.slice po1 o1.length co1, .slice pn1 m1.length cn1)]) po2 pn2 co2 cn2 from by
          have apt9 : ∀ (k : Nat) (x : Pr) (u : Value × Value), (A ++ [⟨k1, p1, t1, f1, a1, o1, m1⟩])[k]? = some x → (V ++ [(.slice po1 o1.length co1, .slice pn1 m1.length cn1)])[k]? = some u → Apt b5 b8 u.1 x.old ∧ Apt b5 b8 u.2 x.new := fun i y u e1 e2 => by
            have hVA := hI.own.len
            rcases Nat.lt_or_ge i A.length with hi | hi
            · rw [List.getElem?_append_left hi] at e1
              rw [List.getElem?_append_left (by omega)] at e2
              exact hI.apt i y u e1 e2
            · rw [List.getElem?_append_right hi] at e1
              rw [List.getElem?_append_right (by omega), hVA] at e2
              have hi0 : i - A.length = 0 := by
                have := (List.getElem?_eq_some_iff.1 e1).1
                simpa using this
              rw [hi0] at e1 e2
              simp at e1 e2
              subst e1 e2
              have := HB58.out
              exact ⟨fun _ j e => by have := g1 j e; omega, fun _ j e => by have := g2 j e; omega⟩
          have hb := HB58.out
          have fr9 : Fr None' w w9 := ((hI.fr.then7 FR7).then7 F8).trans hf9 (fun i e => Or.inr (hlt7 i e).1)
          have st3 : StrsAt w9 (.slice po2 o2.length co2) o2 := ((r3.kept F7).kept F8).far hf9 (fun _ j e e' => by have := g3 j e; have := hlt7 j e'; omega)
          have st4 : StrsAt w9 (.slice pn2 m2.length cn2) m2 := ((r4.kept F7).kept F8).far hf9 (fun _ j e e' => by have := g4 j e; have := hlt7 j e'; omega)
          refine ⟨fr9.trans FS (fun i e => Or.inr (by omega)), own9.fr2 FS (fun j e h => hne9 j e (Or.inr h)) (fun i y u e1 e2 => ⟨fun hl j e h => (apt9 i y u e1 e2).1 hl j e (Or.inr h), fun hl j e h => (apt9 i y u e1 e2).2 hl j e (Or.inr h)⟩), hne9, apt9, (fun u hu j e => by
            rcases List.mem_append.1 hu with hu | hu
            · exact hI.nw u hu j e
            · have hu := List.mem_singleton.1 hu
              subst hu
              have := hI.fr.size
              rcases e with e | e
              · have := g1 j e; omega
              · have := g2 j e; omega), bx9.all _ _ _ _ _ _ _, st3.far FS (fun _ j e h => by have := g3 j e; omega), st4.far FS (fun _ j e h => by have := g4 j e; omega), (fun _ j e => by have := g3 j e; omega), (fun _ j e => by have := g4 j e; omega), (fun j e => by have := g3 j e; have := hI.fr.size; omega), (fun j e => by have := g4 j e; have := hI.fr.size; omega), ?_⟩
          exact (((hI.res.kept FR7).kept F8).fr hf9 (fun e => hI.far b5 e (Or.inl rfl))).fr FS (by omega))
        have HPn := toHid10 (show PastAt x L (k + 1) (A ++ [⟨k1, p1, t1, f1, a1, o1, m1⟩]) ⟨k2, p2, t2, f2, a2, o2, m2⟩ from ⟨HT.out, HCy.out rfl, by rw [List.length_append, HP.out.len]; rfl⟩)
        have HS := toHid10 (show ∀ w', Fr (fun k => k = b8 ∨ (Value.slice vg A.length vc).ownBlock = some k) w7 w' → Fr (fun k => k = b8 ∨ (Value.slice vg A.length vc).ownBlock = some k) w7 w' ∧ w'.cell? ⟨w6.heap.size, 0, none⟩ = some (.int .i64 k1) ∧ w'.cell? ⟨w6.heap.size, 1, none⟩ = some (.string p1) ∧ w'.cell? ⟨w6.heap.size, 2, none⟩ = some (.string t1) ∧ w'.cell? ⟨w6.heap.size, 3, none⟩ = some (.string f1) ∧ w'.cell? ⟨w6.heap.size, 4, none⟩ = some (.int .i64 a1) ∧ w'.cell? ⟨w6.heap.size, 5, none⟩ = some (.slice po1 o1.length co1) ∧ w'.cell? ⟨w6.heap.size, 6, none⟩ = some (.slice pn1 m1.length cn1) ∧ w'.cell? ⟨w6.heap.size + 1, 0, none⟩ = some (.int .i64 k2) ∧ w'.cell? ⟨w6.heap.size + 1, 1, none⟩ = some (.string p2) ∧ w'.cell? ⟨w6.heap.size + 1, 2, none⟩ = some (.string t2) ∧ w'.cell? ⟨w6.heap.size + 1, 3, none⟩ = some (.string f2) ∧ w'.cell? ⟨w6.heap.size + 1, 4, none⟩ = some (.int .i64 a2) ∧ w'.cell? ⟨w6.heap.size + 1, 5, none⟩ = some (.slice po2 o2.length co2) ∧ w'.cell? ⟨w6.heap.size + 1, 6, none⟩ = some (.slice pn2 m2.length cn2) from fun w' f => by
          have hm1 : ¬ (w6.heap.size = b8 ∨ (Value.slice vg A.length vc).ownBlock = some w6.heap.size) := fun h => by rcases h with h | h; omega; have := hlt7 _ h; omega
          have hm2 : ¬ (w6.heap.size + 1 = b8 ∨ (Value.slice vg A.length vc).ownBlock = some (w6.heap.size + 1)) := fun h => by rcases h with h | h; omega; have := hlt7 _ h; omega
          obtain ⟨x0, x1, x2, x3, x4, x5, x6⟩ := (B11.fr f hm1).cells
          obtain ⟨y0, y1, y2, y3, y4, y5, y6⟩ := (B12.fr f hm2).cells
          exact ⟨f, x0, x1, x2, x3, x4, x5, x6, y0, y1, y2, y3, y4, y5, y6⟩)
        have hS0 := HS.out w7.drew (Fr.drew _ w7)
        have hS1 := HS.out (w7.alloc (.cells #[.int .i64 k1, .string p1, .string t1, .string f1, .int .i64 a1, .slice po1 o1.length co1, .slice pn1 m1.length cn1] 45)).drew (Fr.then (Fr.alloc _ _ _) (Fr.drew _ _))
        have f79 : Fr (fun k => k = b8 ∨ (Value.slice vg A.length vc).ownBlock = some k) w7 w9 := (Fr.any F8).then (hf9.mono (fun _ e => Or.inr e))
        have hS2 := HS.out w9 f79
        have hS3 := HS.out (setP w9 b8 (.int .i64 k2) (.string p2) (.string t2) (.string f2) (.int .i64 a2) (.slice po2 o2.length co2) (.slice pn2 m2.length cn2)) (f79.then (Fr.setP _ (Or.inl rfl) _ _ _ _ _ _ _))
        obtain ⟨c0, c1, c2, c3, c4, c5, c6⟩ := bx9.cells
        have cz := bx9.frozen
        rw [← hW8] at hr9
        have HRr := toHid10 hr9
        subst hv9
        generalize (A ++ [(⟨k1, p1, t1, f1, a1, o1, m1⟩ : Pr)]).length = al at HRr HIn
        clear FC FC7 F7 sC B11 B12 l12 r1 r2 r3 r4 g1 g2 g3 g4 hI hA h6 FR7 F8 B8 s8 own8 hlt7 hr9 own9 hf9 ho9 hne9 bx9 FS f79 hwC hW8
        go_wp2_with fail
        go_region_held3 (fun w' => Fr (fun k => k = b8 ∨ (Value.slice vg A.length vc).ownBlock = some k) w7 w' ∧ w'.cell? ⟨w6.heap.size, 0, none⟩ = some (.int .i64 k1) ∧ w'.cell? ⟨w6.heap.size, 1, none⟩ = some (.string p1) ∧ w'.cell? ⟨w6.heap.size, 2, none⟩ = some (.string t1) ∧ w'.cell? ⟨w6.heap.size, 3, none⟩ = some (.string f1) ∧ w'.cell? ⟨w6.heap.size, 4, none⟩ = some (.int .i64 a1) ∧ w'.cell? ⟨w6.heap.size, 5, none⟩ = some (.slice po1 o1.length co1) ∧ w'.cell? ⟨w6.heap.size, 6, none⟩ = some (.slice pn1 m1.length cn1) ∧ w'.cell? ⟨w6.heap.size + 1, 0, none⟩ = some (.int .i64 k2) ∧ w'.cell? ⟨w6.heap.size + 1, 1, none⟩ = some (.string p2) ∧ w'.cell? ⟨w6.heap.size + 1, 2, none⟩ = some (.string t2) ∧ w'.cell? ⟨w6.heap.size + 1, 3, none⟩ = some (.string f2) ∧ w'.cell? ⟨w6.heap.size + 1, 4, none⟩ = some (.int .i64 a2) ∧ w'.cell? ⟨w6.heap.size + 1, 5, none⟩ = some (.slice po2 o2.length co2) ∧ w'.cell? ⟨w6.heap.size + 1, 6, none⟩ = some (.slice pn2 m2.length cn2))
          (first | with_reducible exact hS0 | with_reducible exact hS1 | with_reducible exact hS2 | with_reducible exact hS3)
          (refine step_app9 rfl _ _ rfl rfl rfl (Hid.out HRr) ?_)
        clear hS0 hS1 hS2 hS3 c0 c1 c2 c3 c4 c5 c6 cz
        go_wp2_with fail
        exact ⟨⟨k + 1, _, _, _, po2, pn2, co2, cn2, by omega, by go_num, HPn.out, HIn.out⟩, by simp [intOf]; omega⟩
    · have e : k = n := by omega
      subst e
      have HE := toHid10 (show pastP x L = (A, b, true) from by have h := HP.out.eq; rw [List.take_of_length_le (by rw [HLe.out]; exact Nat.le_refl _)] at h; exact h)
      obtain ⟨bK, bP, bT, bF, bA, bO, bN⟩ := b
      have HBx := HI.out.bx
      have HRs := HI.out.res
      simp only at HBx
      obtain ⟨xo, hxo⟩ : ∃ m, bO.length = m := ⟨_, rfl⟩
      obtain ⟨xn, hxn⟩ : ∃ m, bN.length = m := ⟨_, rfl⟩
      rw [hxo, hxn] at HBx
      have HBx2 := toHid10 HBx
      have HRs2 := toHid10 HRs
      have hb58 := HB58.out
      have HS := toHid10 (show ∀ w', Fr (fun k => k = b5) wr w' → Fr (fun k => k = b5) wr w' ∧ w'.cell? ⟨b8, 0, none⟩ = some (.int .i64 bK) ∧ w'.cell? ⟨b8, 1, none⟩ = some (.string bP) ∧ w'.cell? ⟨b8, 2, none⟩ = some (.string bT) ∧ w'.cell? ⟨b8, 3, none⟩ = some (.string bF) ∧ w'.cell? ⟨b8, 4, none⟩ = some (.int .i64 bA) ∧ w'.cell? ⟨b8, 5, none⟩ = some (.slice po xo co) ∧ w'.cell? ⟨b8, 6, none⟩ = some (.slice pn xn cn) from fun w' f => by
        obtain ⟨x0, x1, x2, x3, x4, x5, x6⟩ := (HBx2.out.fr f (by omega)).cells
        exact ⟨f, x0, x1, x2, x3, x4, x5, x6⟩)
      have hS0 := HS.out wr.drew (Fr.drew _ wr)
      have hS1 := HS.out (setP wr b5 (.int .i64 bK) (.string bP) (.string bT) (.string bF) (.int .i64 bA) (.slice po xo co) (.slice pn xn cn)).drew (Fr.then (Fr.setP (M := fun k => k = b5) _ rfl _ _ _ _ _ _ _) (Fr.drew _ _))
      obtain ⟨c0, c1, c2, c3, c4, c5, c6⟩ := HRs.cells
      have cz := HRs.frozen
      subst hva
      clear HBx HRs hlt
      go_wp2_with fail
      go_region_held3 (fun w' => Fr (fun k => k = b5) wr w' ∧ w'.cell? ⟨b8, 0, none⟩ = some (.int .i64 bK) ∧ w'.cell? ⟨b8, 1, none⟩ = some (.string bP) ∧ w'.cell? ⟨b8, 2, none⟩ = some (.string bT) ∧ w'.cell? ⟨b8, 3, none⟩ = some (.string bF) ∧ w'.cell? ⟨b8, 4, none⟩ = some (.int .i64 bA) ∧ w'.cell? ⟨b8, 5, none⟩ = some (.slice po xo co) ∧ w'.cell? ⟨b8, 6, none⟩ = some (.slice pn xn cn))
        (first | with_reducible exact hS0 | with_reducible exact hS1)
        (fail)
      clear hS0 hS1 c0 c1 c2 c3 c4 c5 c6 cz
      go_wp2_with fail
      have hB := (HRs2.out.all (.int .i64 bK) (.string bP) (.string bT) (.string bF) (.int .i64 bA) (.slice po xo co) (.slice pn xn cn)).drew
      have hF : Fr (fun k => k = b5) wr (setP wr b5 (.int .i64 bK) (.string bP) (.string bT) (.string bF) (.int .i64 bA) (.slice po xo co) (.slice pn xn cn)).drew := (Fr.setP (M := fun k => k = b5) wr rfl _ _ _ _ _ _ _).then (Fr.drew _ _)
      have hI := HI.out
      refine ret_tct (u := .bool true) rfl rfl rfl rfl rfl hB ?_
      unfold PastPost11
      rw [HE.out]
      refine ⟨_, _, V, rfl, hI.own.fr2 hF (fun k e h => hI.far k e (Or.inl h)) (fun k x u e1 e2 => ⟨fun hl j e h => (hI.apt k x u e1 e2).1 hl j e (Or.inl h), fun hl j e h => (hI.apt k x u e1 e2).2 hl j e (Or.inl h)⟩), hI.nw, ⟨_, _, rfl, ?_, ?_, ?_, ?_⟩, hI.fr.trans hF (fun i e => Or.inr (by omega))⟩
      · have h := hI.so.far hF (fun hl j e h => hI.ao hl j e (Or.inl h)); simp only at h; rw [hxo] at h; exact h
      · have h := hI.sn.far hF (fun hl j e h => hI.an hl j e (Or.inl h)); simp only at h; rw [hxn] at h; exact h
      · have h := hI.go; simp only at h; rw [hxo] at h; exact h
      · have h := hI.gn; simp only at h; rw [hxn] at h; exact h

end Go.Proofs.YtpfkkpghgmmijaaGreatDoor

namespace Go.Proofs.YtpfkkpghgmmijaaGreatDoor
open Go.RowKit
set_option maxRecDepth 100000

theorem nilS10 (w : World) : StrsAt w (.slice none 0 0) [] := ⟨none, 0, rfl, fun _ => rfl, Nat.le_refl _, Lines.Row.nil _ _⟩

def CommC (a b : Pr) (r : Bool) (w : World) (e : Ending) (w' : World) : Prop := ∃ (po1 pn1 po2 pn2 : Option Addr) (co1 cn1 co2 cn2 : Nat), e = .returned (.tuple #[.agg #[.int .i64 a.kind, .string a.path, .string a.dst, .string a.src, .int .i64 a.pos, .slice po1 a.old.length co1, .slice pn1 a.new.length cn1], .agg #[.int .i64 b.kind, .string b.path, .string b.dst, .string b.src, .int .i64 b.pos, .slice po2 b.old.length co2, .slice pn2 b.new.length cn2], .bool r]) ∧ Hid ((StrsAt w' (.slice po1 a.old.length co1) a.old ∧ StrsAt w' (.slice pn1 a.new.length cn1) a.new) ∧ StrsAt w' (.slice po2 b.old.length co2) b.old ∧ StrsAt w' (.slice pn2 b.new.length cn2) b.new) ∧ Fr None' w w'

theorem CommPost.at {x y a b : Pr} {r : Bool} {w w' : World} {e : Ending} (hc : commP x y = (a, b, r)) (h : CommPost x y w e w') : CommC a b r w e w' := by
  obtain ⟨va, vb, he, ⟨vo1, vn1, rfl, s1, s2, _, _⟩, ⟨vo2, vn2, rfl, s3, s4, _, _⟩, f⟩ := h
  rw [hc] at he s1 s2 s3 s4
  simp only at he s1 s2 s3 s4
  obtain ⟨po1, co1, rfl⟩ := s1.as2
  obtain ⟨pn1, cn1, rfl⟩ := s2.as2
  obtain ⟨po2, co2, rfl⟩ := s3.as2
  obtain ⟨pn2, cn2, rfl⟩ := s4.as2
  exact ⟨po1, pn1, po2, pn2, co1, cn1, co2, cn2, he, ⟨⟨s1, s2⟩, s3, s4⟩, f⟩

def hdP : Pr := ⟨7, ⟨#[97]⟩, ⟨#[]⟩, ⟨#[]⟩, 0, [⟨#[120]⟩], [⟨#[121]⟩, ⟨#[122]⟩]⟩
def hdQ : Pr := ⟨7, ⟨#[97]⟩, ⟨#[]⟩, ⟨#[]⟩, 5, [⟨#[119]⟩], []⟩
def hdM : Pr := ⟨10, ⟨#[109]⟩, ⟨#[110]⟩, ⟨#[]⟩, 0, [], []⟩
def hdB : Pr := ⟨9, ⟨#[110, 47, 120]⟩, ⟨#[49]⟩, ⟨#[]⟩, 0, [], []⟩

theorem hd1 : commP hdP hdQ = (⟨7, ⟨#[97]⟩, ⟨#[]⟩, ⟨#[]⟩, 4, [⟨#[119]⟩], []⟩, hdP, true) := by kernel_rfl
theorem hd2 : commP hdM hdB = (⟨9, ⟨#[109, 47, 120]⟩, ⟨#[49]⟩, ⟨#[]⟩, 0, [], []⟩, hdM, true) := by kernel_rfl
theorem hd3 : commP hdP hdP = (zeroP, zeroP, false) := by kernel_rfl

end Go.Proofs.YtpfkkpghgmmijaaGreatDoor

namespace Go.Proofs.YtpfkkpghgmmijaaGreatDoor
open Go.RowKit
set_option maxRecDepth 100000

theorem comm_small {x y : Pr} (sx : SmallP x) (sy : SmallP y) (h : (commP x y).2.2 = true) : SmallP (commP x y).1 ∧ SmallP (commP x y).2.1 := by
  obtain ⟨h1, h2, h3, _⟩ := commP_yes h
  rw [h3]
  exact rule_small h1 h2 sx sy

end Go.Proofs.YtpfkkpghgmmijaaGreatDoor
