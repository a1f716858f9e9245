/-
  What is proved here: the contracts that the statement stands on: WriP13, WriQ13. Conditions: as each theorem names them.
-/
import Derived.Test.YtofpkpomhdhkgaaGreatDoorM13Wri13
import Derived.Test.YtofpkpomhdhkgaaGreatDoorM8Strs9
namespace Go.Proofs.YtofpkpomhdhkgaaGreatDoor
open Go.RowKit Go.Shelf
set_option maxRecDepth 100000

theorem box_others {b c : Nat} {w w' : World} {y0 y1 y2 y3 y4 y5 y6 : Value} (h : Box w c y0 y1 y2 y3 y4 y5 y6) (f : Lib.OthersKept 5 (some b) w w') (hne : c ≠ b) : Box w' c y0 y1 y2 y3 y4 y5 y6 :=
  f c _ h (fun e => hne (Option.some.inj e)) (fun _ _ e => by injection e with _ e2; exact absurd e2 (by decide))

theorem bld_lt {B b : Nat} {bs : List Value} {w : World} (h : Lib.IsBuilderF 51 5 B b bs w) : b < w.heap.size := by
  rcases h with h | h
  · exact h.lt
  · exact h.lt

/-- May that be put? -/
structure PutP (x : Pr) : Prop where
  kind : 0 ≤ x.kind ∧ x.kind.toNat ≤ top13
  path : x.path.size ≤ 1000000000
  dst : x.dst.size ≤ 1000000000
  src : x.src.size ≤ 1000000000
  pos : 0 ≤ x.pos ∧ x.pos.toNat ≤ top13
  old : x.old.length ≤ 1000000 ∧ ∀ y ∈ x.old, y.size ≤ 1000000000
  new : x.new.length ≤ 1000000 ∧ ∀ y ∈ x.new, y.size ≤ 1000000000

set_option maxHeartbeats 4000000 in
theorem wprim_any (B b : Nat) (l : List UInt8) (x : Pr) (vo vn : Value) (w : World) (h : Lib.IsBuilderF 51 5 B b (Lib.byteCells l) w) (hT : T13 B w) (ho : ∀ w', Below B w w' → StrsAt w' vo x.old) (hn : ∀ w', Below B w w' → StrsAt w' vn x.new) (hs : PutP x) (hlen : l.length + (prim13 x).length ≤ 70000000000000) (hBw : B ≤ w.heap.size) :
    Calls Tryz.prog 41 #[.pointer (some ⟨b, 0, none⟩), .agg #[.int .i64 x.kind, .string x.path, .string x.dst, .string x.src, .int .i64 x.pos, vo, vn]] w fun e w' => e = .returned (.tuple #[]) ∧ Wrote B b (l ++ prim13 x) w w' := by
  obtain ⟨K, P, T, F, A, lO, lN⟩ := x
  obtain ⟨⟨zK0, zK⟩, zP, zT, zF, ⟨zA0, zA⟩, zO, zN⟩ := hs
  simp only at ho hn zK0 zK zP zT zF zA0 zA zO zN hlen ⊢
  obtain ⟨k, rfl⟩ : ∃ k : Nat, K = k := ⟨K.toNat, by omega⟩
  obtain ⟨a, rfl⟩ : ∃ k : Nat, A = k := ⟨A.toNat, by omega⟩
  rw [Int.toNat_natCast] at zK zA
  have ePrim : prim13 ⟨(k : Int), P, T, F, (a : Int), lO, lN⟩ = num13 k ++ (text13 (unB P) ++ (text13 (unB T) ++ (text13 (unB F) ++ (num13 a ++ (list13 text13 (lO.map unB) ++ list13 text13 (lN.map unB)))))) := rfl
  rw [ePrim] at hlen ⊢
  simp only [List.length_append] at hlen
  obtain ⟨pa, ca, eo, _⟩ := ho w (Below.refl _ _)
  obtain ⟨pb, cb, en, _⟩ := hn w (Below.refl _ _)
  obtain ⟨w1, hw1⟩ : ∃ w1, w.alloc (.cells #[.int .i64 k, .string P, .string T, .string F, .int .i64 a, vo, vn] 41) = w1 := ⟨_, rfl⟩
  have F1 : Fr None' w w1 := hw1 ▸ Fr.alloc None' w _
  have B1 : Box w1 w.heap.size (.int .i64 k) (.string P) (.string T) (.string F) (.int .i64 a) vo vn := hw1 ▸ Box.new w _ _ _ _ _ _ _
  have hlt := bld_lt h
  have hB1 : B ≤ w1.heap.size := Nat.le_trans hBw F1.size
  have G1 : Below B w w1 := below_fr F1 hBw
  have HB := toHid8 (fun w' (f : Lib.OthersKept 5 (some b) w1 w') => (box_others B1 f (by omega)).cells)
  have HN := toHid8 (fun l' n (h1 : n ≤ top13) (h2 : l'.length ≤ 70000000000000) w' (q : Wrote B b l' w1 w') => wnumber_any B b l' n w' q.at' ((hT.below G1).below q.below) h1 (by omega) (Nat.le_trans hB1 q.below.size))
  have HX := toHid8 (fun l' s (h1 : s.size ≤ 1000000000) (h2 : l'.length ≤ 70000000000000) w' (q : Wrote B b l' w1 w') => wtext_any B b l' s w' q.at' ((hT.below G1).below q.below) h1 (by omega) (Nat.le_trans hB1 q.below.size))
  have HO := toHid8 (fun l' (h2 : l'.length + (list13 text13 (lO.map unB)).length ≤ 70000000000000) w' (q : Wrote B b l' w1 w') => wlist_any B b l' vo lO w' q.at' ((hT.below G1).below q.below) (fun w'' f => ho w'' ((G1.trans q.below).trans f)) zO.1 zO.2 (by omega) (Nat.le_trans hB1 q.below.size))
  have HNn := toHid8 (fun l' (h2 : l'.length + (list13 text13 (lN.map unB)).length ≤ 70000000000000) w' (q : Wrote B b l' w1 w') => wlist_any B b l' vn lN w' q.at' ((hT.below G1).below q.below) (fun w'' f => hn w'' ((G1.trans q.below).trans f)) zN.1 zN.2 (by omega) (Nat.le_trans hB1 q.below.size))
  have H0 := toHid8 (show Wrote B b l w1 w1 from ⟨bld_fr h F1, Below.refl _ _, Lib.OthersKept.refl _ _ _⟩)
  have HF1 := toHid8 F1
  have HBw := toHid8 hBw
  obtain ⟨l1, e1⟩ : ∃ x, l ++ num13 k = x := ⟨_, rfl⟩
  obtain ⟨l2, e2⟩ : ∃ x, l1 ++ text13 (unB P) = x := ⟨_, rfl⟩
  obtain ⟨l3, e3⟩ : ∃ x, l2 ++ text13 (unB T) = x := ⟨_, rfl⟩
  obtain ⟨l4, e4⟩ : ∃ x, l3 ++ text13 (unB F) = x := ⟨_, rfl⟩
  obtain ⟨l5, e5⟩ : ∃ x, l4 ++ num13 a = x := ⟨_, rfl⟩
  obtain ⟨l6, e6⟩ : ∃ x, l5 ++ list13 text13 (lO.map unB) = x := ⟨_, rfl⟩
  obtain ⟨l7, e7⟩ : ∃ x, l6 ++ list13 text13 (lN.map unB) = x := ⟨_, rfl⟩
  have HL := toHid8 (show l ++ (num13 k ++ (text13 (unB P) ++ (text13 (unB T) ++ (text13 (unB F) ++ (num13 a ++ (list13 text13 (lO.map unB) ++ (list13 text13 (lN.map unB)))))))) = l7 by rw [← e7, ← e6, ← e5, ← e4, ← e3, ← e2, ← e1]; simp only [List.append_assoc])
  have z1 : l1.length = l.length + (num13 k).length := by rw [← e1, List.length_append]
  have z2 : l2.length = l1.length + (text13 (unB P)).length := by rw [← e2, List.length_append]
  have z3 : l3.length = l2.length + (text13 (unB T)).length := by rw [← e3, List.length_append]
  have z4 : l4.length = l3.length + (text13 (unB F)).length := by rw [← e4, List.length_append]
  have z5 : l5.length = l4.length + (num13 a).length := by rw [← e5, List.length_append]
  have z6 : l6.length = l5.length + (list13 text13 (lO.map unB)).length := by rw [← e6, List.length_append]
  have z7 : l7.length = l6.length + (list13 text13 (lN.map unB)).length := by rw [← e7, List.length_append]
  have Q1 := toHid8 (show ∀ w', Wrote B b l w1 w' → Calls Tryz.prog 40 #[.pointer (some ⟨b, 0, none⟩), .int .i64 k] w' fun e w'' => e = .returned (.tuple #[]) ∧ Wrote B b l1 w' w'' from fun w' q => by rw [← e1]; exact HN.out l k zK (by omega) w' q)
  have Q2 := toHid8 (show ∀ w', Wrote B b l1 w1 w' → Calls Tryz.prog 38 #[.pointer (some ⟨b, 0, none⟩), .string P] w' fun e w'' => e = .returned (.tuple #[]) ∧ Wrote B b l2 w' w'' from fun w' q => by rw [← e2]; exact HX.out l1 P zP (by omega) w' q)
  have Q3 := toHid8 (show ∀ w', Wrote B b l2 w1 w' → Calls Tryz.prog 38 #[.pointer (some ⟨b, 0, none⟩), .string T] w' fun e w'' => e = .returned (.tuple #[]) ∧ Wrote B b l3 w' w'' from fun w' q => by rw [← e3]; exact HX.out l2 T zT (by omega) w' q)
  have Q4 := toHid8 (show ∀ w', Wrote B b l3 w1 w' → Calls Tryz.prog 38 #[.pointer (some ⟨b, 0, none⟩), .string F] w' fun e w'' => e = .returned (.tuple #[]) ∧ Wrote B b l4 w' w'' from fun w' q => by rw [← e4]; exact HX.out l3 F zF (by omega) w' q)
  have Q5 := toHid8 (show ∀ w', Wrote B b l4 w1 w' → Calls Tryz.prog 40 #[.pointer (some ⟨b, 0, none⟩), .int .i64 a] w' fun e w'' => e = .returned (.tuple #[]) ∧ Wrote B b l5 w' w'' from fun w' q => by rw [← e5]; exact HN.out l4 a zA (by omega) w' q)
  have Q6 := toHid8 (show ∀ w', Wrote B b l5 w1 w' → Calls Tryz.prog 39 #[.pointer (some ⟨b, 0, none⟩), vo] w' fun e w'' => e = .returned (.tuple #[]) ∧ Wrote B b l6 w' w'' from fun w' q => by rw [← e6]; exact HO.out l5 (by omega) w' q)
  have Q7 := toHid8 (show ∀ w', Wrote B b l6 w1 w' → Calls Tryz.prog 39 #[.pointer (some ⟨b, 0, none⟩), vn] w' fun e w'' => e = .returned (.tuple #[]) ∧ Wrote B b l7 w' w'' from fun w' q => by rw [← e7]; exact HNn.out l6 (by omega) w' q)
  rw [HL.out]
  subst eo en
  clear e7 e6 e5 e4 e3 e2 e1 z7 z6 z5 z4 z3 z2 z1 HN HX HO HNn HL h hT ho hn zK zP zT zF zA zO zN hlen hBw F1 G1 hB1 hlt ePrim
  obtain ⟨a0, a1, a2, a3, a4, a5, a6⟩ := B1.cells
  have q1 := Q1.out w1 H0.out
  clear B1
  go_enter Tryz.func41, Tryz.ntmps41
  go_wp2_with fail
  with_reducible refine q1.mono ?_
  rintro e w2 ⟨rfl, k1⟩
  have H1 := toHid8 (H0.out.then k1)
  have q2 := Q2.out w2 H1.out
  clear q1 k1 a0 a1 a2 a3 a4 a5 a6
  obtain ⟨a0, a1, a2, a3, a4, a5, a6⟩ := HB.out w2 H1.out.others
  go_wp2_with fail
  with_reducible refine q2.mono ?_
  rintro e w3 ⟨rfl, k2⟩
  have H2 := toHid8 (H1.out.then k2)
  have q3 := Q3.out w3 H2.out
  clear q2 k2 a0 a1 a2 a3 a4 a5 a6
  obtain ⟨a0, a1, a2, a3, a4, a5, a6⟩ := HB.out w3 H2.out.others
  go_wp2_with fail
  with_reducible refine q3.mono ?_
  rintro e w4 ⟨rfl, k3⟩
  have H3 := toHid8 (H2.out.then k3)
  have q4 := Q4.out w4 H3.out
  clear q3 k3 a0 a1 a2 a3 a4 a5 a6
  obtain ⟨a0, a1, a2, a3, a4, a5, a6⟩ := HB.out w4 H3.out.others
  go_wp2_with fail
  with_reducible refine q4.mono ?_
  rintro e w5 ⟨rfl, k4⟩
  have H4 := toHid8 (H3.out.then k4)
  have q5 := Q5.out w5 H4.out
  clear q4 k4 a0 a1 a2 a3 a4 a5 a6
  obtain ⟨a0, a1, a2, a3, a4, a5, a6⟩ := HB.out w5 H4.out.others
  go_wp2_with fail
  with_reducible refine q5.mono ?_
  rintro e w6 ⟨rfl, k5⟩
  have H5 := toHid8 (H4.out.then k5)
  have q6 := Q6.out w6 H5.out
  clear q5 k5 a0 a1 a2 a3 a4 a5 a6
  obtain ⟨a0, a1, a2, a3, a4, a5, a6⟩ := HB.out w6 H5.out.others
  go_wp2_with fail
  with_reducible refine q6.mono ?_
  rintro e w7 ⟨rfl, k6⟩
  have H6 := toHid8 (H5.out.then k6)
  have q7 := Q7.out w7 H6.out
  clear q6 k6 a0 a1 a2 a3 a4 a5 a6
  obtain ⟨a0, a1, a2, a3, a4, a5, a6⟩ := HB.out w7 H6.out.others
  go_wp2_with fail
  with_reducible refine q7.mono ?_
  rintro e w8 ⟨rfl, k7⟩
  have H7 := toHid8 (H6.out.then k7)
  clear q7 k7 a0 a1 a2 a3 a4 a5 a6
  go_wp2_with fail
  go_end0
  exact ⟨rfl, H7.out.early HF1.out HBw.out⟩

end Go.Proofs.YtofpkpomhdhkgaaGreatDoor

namespace Go.Proofs.YtofpkpomhdhkgaaGreatDoor
open Go.RowKit Go.Shelf
set_option maxRecDepth 100000

theorem box3_others {b c : Nat} {w w' : World} {y0 y1 y2 : Value} (h : Box3 w c y0 y1 y2) (f : Lib.OthersKept 5 (some b) w w') (hne : c ≠ b) : Box3 w' c y0 y1 y2 :=
  f c _ h (fun e => hne (Option.some.inj e)) (fun _ _ e => by injection e with _ e2; exact absurd e2 (by decide))

/-- May that patch be put? -/
structure PutPa (p : Pa) : Prop where
  name : p.name.size ≤ 1000000000
  deps : p.deps.length ≤ 1000000 ∧ ∀ y ∈ p.deps, y.size ≤ 1000000000
  body : p.body.length ≤ 1000000 ∧ ∀ x ∈ p.body, PutP x

theorem Wrote.alloc {B b : Nat} {l : List UInt8} {w w1 : World} (h : Wrote B b l w w1) (hB : B ≤ w.heap.size) (o : Obj) : Wrote B b l w (w1.alloc o) :=
  ⟨bld_fr h.at' (Fr.alloc None' _ _), h.below.alloc (Nat.le_trans hB h.below.size) _, h.others.alloc _⟩

set_option maxHeartbeats 8000000 in
theorem wpatch_any (B b : Nat) (l : List UInt8) (p : Pa) (vd : Value) (pb : Option Addr) (cb : Nat) (w : World) (w0 : World) (h0 : w0.heap.size = B) (G0 : Below B w0 w) (h : Lib.IsBuilderF 51 5 B b (Lib.byteCells l) w) (hT : T13 B w) (hd0 : StrsAt w0 vd p.deps) (hb0 : PrsAt w0 pb p.body) (hs : PutPa p) (hlen : l.length + (patch13 p).length ≤ 60000000000000) (hBw : B ≤ w.heap.size) :
    Calls Tryz.prog 22 #[.pointer (some ⟨b, 0, none⟩), .agg #[.string p.name, vd, .slice pb p.body.length cb]] w fun e w' => e = .returned (.tuple #[]) ∧ Wrote B b (l ++ patch13 p) w w' := by
  have HW0 := toHid8 (fun w' (f : Below B w w') => (show Fr None' w0 w' from ofBelow (by rw [h0]; exact G0.trans f)))
  have hd := fun w' f => hd0.kept (HW0.out w' f)
  obtain ⟨N, D, L⟩ := p
  obtain ⟨zN, zD, zL⟩ := hs
  simp only at hd hb0 zN zD zL hlen ⊢
  have ePat : patch13 ⟨N, D, L⟩ = text13 (unB N) ++ (list13 text13 (D.map unB) ++ list13 prim13 L) := rfl
  rw [ePat] at hlen ⊢
  simp only [List.length_append] at hlen
  obtain ⟨pa, ca, eo, _⟩ := hd w (Below.refl _ _)
  subst eo
  obtain ⟨n, hna⟩ : ∃ n, L.length = n := ⟨_, rfl⟩
  obtain ⟨m, hma⟩ : ∃ m, D.length = m := ⟨_, rfl⟩
  obtain ⟨w1, hw1⟩ : ∃ w1, w.alloc (.cells #[.string N, .slice pa m ca, .slice pb n cb] 25) = w1 := ⟨_, rfl⟩
  have F1 : Fr None' w w1 := hw1 ▸ Fr.alloc None' w _
  have B1 : Box3 w1 w.heap.size (.string N) (.slice pa m ca) (.slice pb n cb) := hw1 ▸ Box3.new w _ _ _
  have hlt := bld_lt h
  have hB1 : B ≤ w1.heap.size := Nat.le_trans hBw F1.size
  have G1 : Below B w w1 := below_fr F1 hBw
  have HB := toHid8 (fun w' (f : Lib.OthersKept 5 (some b) w1 w') => (box3_others B1 f (by omega)).cells)
  have H0 := toHid8 (show Wrote B b l w1 w1 from ⟨bld_fr h F1, Below.refl _ _, Lib.OthersKept.refl _ _ _⟩)
  obtain ⟨l1, e1⟩ : ∃ x, l ++ text13 (unB N) = x := ⟨_, rfl⟩
  obtain ⟨l2, e2⟩ : ∃ x, l1 ++ list13 text13 (D.map unB) = x := ⟨_, rfl⟩
  have z1 : l1.length = l.length + (text13 (unB N)).length := by rw [← e1, List.length_append]
  have z2 : l2.length = l1.length + (list13 text13 (D.map unB)).length := by rw [← e2, List.length_append]
  have Q1 := toHid8 (show ∀ w', Wrote B b l w1 w' → Calls Tryz.prog 38 #[.pointer (some ⟨b, 0, none⟩), .string N] w' fun e w'' => e = .returned (.tuple #[]) ∧ Wrote B b l1 w' w'' from fun w' q => by rw [← e1]; exact wtext_any B b l N w' q.at' ((hT.below G1).below q.below) zN (by omega) (Nat.le_trans hB1 q.below.size))
  have Q2 := toHid8 (show ∀ w', Wrote B b l1 w1 w' → Calls Tryz.prog 39 #[.pointer (some ⟨b, 0, none⟩), .slice pa m ca] w' fun e w'' => e = .returned (.tuple #[]) ∧ Wrote B b l2 w' w'' from fun w' q => by rw [← e2, ← hma]; exact wlist_any B b l1 _ D w' q.at' ((hT.below G1).below q.below) (fun w'' f => hd w'' ((G1.trans q.below).trans f)) zD.1 zD.2 (by omega) (Nat.le_trans hB1 q.below.size))
  have Q3 := toHid8 (show ∀ w', Wrote B b l2 w1 w' → Calls Tryz.prog 40 #[.pointer (some ⟨b, 0, none⟩), .int .i64 n] w' fun e w'' => e = .returned (.tuple #[]) ∧ Wrote B b (pre13 prim13 l2 L 0) w' w'' from fun w' q => by rw [pre_zero, hna]; exact wnumber_any B b l2 n w' q.at' ((hT.below G1).below q.below) (by have := zL.1; show _ ≤ 9223372036854775807; omega) (by omega) (Nat.le_trans hB1 q.below.size))
  have Q4 := toHid8 (fun k (hk : k < L.length) vo vn w' (ho : ∀ w'', Below B w' w'' → StrsAt w'' vo L[k].old) (hn : ∀ w'', Below B w' w'' → StrsAt w'' vn L[k].new) (q : Wrote B b (pre13 prim13 l2 L k) w1 w') => wprim_any B b _ L[k] vo vn w' q.at' ((hT.below G1).below q.below) ho hn (zL.2 _ (List.getElem_mem hk)) (by
    have h1 := pre_le prim13 l2 L (k := k + 1)
    rw [← pre_succ prim13 l2 L hk, List.length_append] at h1
    omega) (Nat.le_trans hB1 q.below.size))
  have HS := toHid8 (fun k (hk : k < L.length) => pre_succ prim13 l2 L hk)
  have HL := toHid8 (show l ++ (text13 (unB N) ++ (list13 text13 (D.map unB) ++ list13 prim13 L)) = pre13 prim13 l2 L L.length by rw [pre_all, ← e2, ← e1]; simp only [List.append_assoc])
  rw [HL.out]
  have HP := toHid8 (fun w' (f : Below B w1 w') => HW0.out w' (G1.trans f))
  have HBd := toHid8 hb0
  generalize pre13 prim13 l2 L = PF at Q3 Q4 HS HL ⊢
  have HA := toHid8 hna
  have HF1 := toHid8 F1
  have HBw := toHid8 hBw
  have HB1 := toHid8 hB1
  have i1 : n ≤ 1000000 := by have := zL.1; omega
  rw [hna, hma]
  obtain ⟨a0, a1, a2⟩ := B1.cells
  have q1 := Q1.out w1 H0.out
  clear h hT hd hb0 hd0 h0 G0 HW0 zN zD zL hlen hBw hB1 F1 G1 B1 e1 e2 z1 z2 HL ePat hlt hna hma
  go_enter Tryz.func22, Tryz.ntmps22
  go_wp2_with fail
  with_reducible refine q1.mono ?_
  rintro e w2 ⟨rfl, k1⟩
  have H1 := toHid8 (H0.out.then k1)
  have q2 := Q2.out w2 H1.out
  clear q1 k1 a0 a1 a2
  obtain ⟨a0, a1, a2⟩ := HB.out w2 H1.out.others
  go_wp2_with fail
  with_reducible refine q2.mono ?_
  rintro e w3 ⟨rfl, k2⟩
  have H2 := toHid8 (H1.out.then k2)
  have q3 := Q3.out w3 H2.out
  clear q2 k2 a0 a1 a2
  obtain ⟨a0, a1, a2⟩ := HB.out w3 H2.out.others
  go_wp2_with fail
  with_reducible refine q3.mono ?_
  rintro e w4 ⟨rfl, k3⟩
  have H3 := toHid8 (H2.out.then k3)
  clear q3 k3 a0 a1 a2
  obtain ⟨a0, a1, a2⟩ := HB.out w4 H3.out.others
  go_wp2_with fail
  go_loopw [22] (fun i wr => ∃ k : Nat, k ≤ n ∧ i = .int .i64 k ∧ Hid (Wrote B b (PF k) w1 wr)) (fun i _ => n - (intOf i).toNat)
  case atStart => exact ⟨0, Nat.zero_le _, rfl, H3.out⟩
  case round =>
    obtain ⟨k, hk, rfl, HW⟩ := hrel
    by_cases hlt : k < n
    · have hka : k < L.length := by rw [HA.out]; exact hlt
      obtain ⟨g, o, rfl, vo, vn, d0, d1, d2, d3, d4, d5, d6, s1, s2⟩ := HBd.out.get hka
      have q4 := Q4.out k hka vo vn
      have HSk := toHid8 (HS.out k hka)
      rw [HSk.out] at q4
      obtain ⟨x, hx⟩ : ∃ x, L[k] = x := ⟨_, rfl⟩
      rw [hx] at q4 d0 d1 d2 d3 d4 s1 s2
      have f0 := HP.out wr HW.out.below
      have c0 := f0.keepCell d0 (fun e => e)
      have c1 := f0.keepCell d1 (fun e => e)
      have c2 := f0.keepCell d2 (fun e => e)
      have c3 := f0.keepCell d3 (fun e => e)
      have c4 := f0.keepCell d4 (fun e => e)
      have c5 := f0.keepCell d5 (fun e => e)
      have c6 := f0.keepCell d6 (fun e => e)
      have s1c := s1
      obtain ⟨po, co, e1, _⟩ := s1c
      have s2c := s2
      obtain ⟨pn, cn, e2, _⟩ := s2c
      subst e1 e2
      obtain ⟨w5, hw5⟩ : ∃ w5, wr.alloc (.cells #[.int .i64 x.kind, .string x.path, .string x.dst, .string x.src, .int .i64 x.pos, .slice po x.old.length co, .slice pn x.new.length cn] 41) = w5 := ⟨_, rfl⟩
      have B5 : Box w5 wr.heap.size (.int .i64 x.kind) (.string x.path) (.string x.dst) (.string x.src) (.int .i64 x.pos) (.slice po x.old.length co) (.slice pn x.new.length cn) := hw5 ▸ Box.new wr _ _ _ _ _ _ _
      have HW5 := toHid8 (show Wrote B b (PF k) w1 w5 from hw5 ▸ HW.out.alloc HB1.out _)
      have q5 := q4 w5 (fun w'' f => s1.kept (HP.out w'' (HW5.out.below.trans f))) (fun w'' f => s2.kept (HP.out w'' (HW5.out.below.trans f))) HW5.out
      obtain ⟨b0, b1, b2, b3, b4, b5, b6⟩ := B5.cells
      have i2 : (k : Int) < (n : Int) := by omega
      have i3 : (0 : Int) ≤ (k : Int) := by omega
      clear d0 d1 d2 d3 d4 d5 d6 s1 s2 f0 B5 q4 hx
      obtain ⟨XK, XP, XT, XF, XA, XO, XN⟩ := x
      simp only at c0 c1 c2 c3 c4 c5 c6 b0 b1 b2 b3 b4 b5 b6 q5 hw5
      generalize XO.length = xo at c5 b5 q5 hw5
      generalize XN.length = xn at c6 b6 q5 hw5
      go_wp2_with fail
      with_reducible refine q5.mono ?_
      rintro e w6 ⟨rfl, k5⟩
      have HW6 := toHid8 (HW5.out.then k5)
      clear q5 k5 b0 b1 b2 b3 b4 b5 b6 c0 c1 c2 c3 c4 c5 c6 hw5
      go_wp2_with fail
      exact ⟨⟨k + 1, by omega, by go_num, HW6.out⟩, by simp [intOf]; omega⟩
    · obtain rfl : k = n := by omega
      go_wp2_with fail
      go_end0
      exact ⟨rfl, HW.out.early HF1.out HBw.out⟩

end Go.Proofs.YtofpkpomhdhkgaaGreatDoor
