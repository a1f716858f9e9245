/- What is proved here: contracts that SeqTells stands on. Conditions: as each theorem names them. -/
import Derived.Test.YtbnfjjjdnbcehaaGreatDoorMRComA10
import Derived.Test.YtbnfjjjdnbcehaaGreatDoorM29Settle11
set_option maxHeartbeats 16000000
namespace Go.Proofs.YtbnfjjjdnbcehaaGreatDoor
open Go.RowKit
set_option maxRecDepth 100000
def RCommC (c1 c2 : Pr) (t : Bool) (w0 w : World) (e : Ending) (w' : World) : Prop := ∃ (po1 pn1 po2 pn2 : Option Addr) (co1 cn1 co2 cn2 : Nat), e = .returned (.tuple #[.agg #[.int .i64 c1.kind, .string c1.path, .string c1.dst, .string c1.src, .int .i64 c1.pos, .slice po1 c1.old.length co1, .slice pn1 c1.new.length cn1], .agg #[.int .i64 c2.kind, .string c2.path, .string c2.dst, .string c2.src, .int .i64 c2.pos, .slice po2 c2.old.length co2, .slice pn2 c2.new.length cn2], .bool t]) ∧ Hid ((Zv w0 (.slice po1 c1.old.length co1) c1.old ∧ Zv w0 (.slice pn1 c1.new.length cn1) c1.new) ∧ Zv w0 (.slice po2 c2.old.length co2) c2.old ∧ Zv w0 (.slice pn2 c2.new.length cn2) c2.new) ∧ Fr None' w w'
theorem Z9.at {x y c1 c2 : Pr} {t : Bool} {w0 w w' : World} {e : Ending} (hc : Zj x y = (c1, c2, t)) (h : Z9 x y w0 w e w') : RCommC c1 c2 t w0 w e w' := by
 obtain ⟨va, vb, he, ⟨vo1, vn1, rfl, s1, s2⟩, ⟨vo2, vn2, rfl, s3, s4⟩, f⟩ := h
 rw [hc] at he s1 s2 s3 s4
 simp only at he s1 s2 s3 s4
 obtain ⟨po1, co1, rfl⟩ := s1.as2
 obtain ⟨pn1, cn1, rfl⟩ := s2.as2
 obtain ⟨po2, co2, rfl⟩ := s3.as2
 obtain ⟨pn2, cn2, rfl⟩ := s4.as2
 exact ⟨po1, pn1, po2, pn2, co1, cn1, co2, cn2, he, ⟨⟨s1, s2⟩, s3, s4⟩, f⟩
theorem comm_smallL {x y : Pr} (sx : Zs x) (sy : Zs y) (lx : Zo x) : Zs (Zj x y).2.1 ∧ Zo (Zj x y).2.1 ∨ (Zj x y).2.2 = false := by
 cases h : (Zj x y).2.2 with
 | false => exact Or.inr rfl
 | true =>
  obtain ⟨h1, h2, h3, _⟩ := commP_yes h
  rw [h3]
  obtain ⟨_, _, r3, r4⟩ := Yj x y
  exact Or.inl ⟨(rule_small h1 h2 sx sy).2, by rw [r3]; exact lx.1, by rw [r4]; exact lx.2⟩
theorem past_lenT {x b : Pr} {L A : List Pr} {k : Nat} (h : Zk x (L.take k) = (A, b, true)) : A.length ≤ 90000 ∨ 90000 < L.length := by
 have h1 : ∀ (l : List Pr) (p : Pr), (Zk p l).1.length ≤ l.length := fun l => by
  induction l with
  | nil => intro p; simp [Zk]
  | cons q l ih =>
   intro p
   have ih := ih (Zj p q).2.1
   unfold Zk
   split
   ·generalize Zk (Zj p q).2.1 l = r at ih ⊢
    obtain ⟨a, b, t⟩ := r
    simp only at ih ⊢
    split <;> simp <;> omega
   ·simp
 have h2 := h1 (L.take k) x
 rw [h] at h2
 simp at h2
 omega
theorem Zh.weakenR {base base' : Nat} {w : World} {v : Value} {L : List Pr} {V : List (Value × Value)} (h : Zh base w v L V) (hb : base' ≤ base) : Zh base' w v L V := by
 refine ⟨h.len, ⟨h.row.1, ?_⟩, h.str⟩
 rcases h.row.2 with h | ⟨g, cap, cur, he, h1, h2⟩
 ·exact Or.inl h
 ·exact Or.inr ⟨g, cap, cur, he, Nat.le_trans hb h1, h2⟩
end Go.Proofs.YtbnfjjjdnbcehaaGreatDoor
namespace Go.Proofs.YtbnfjjjdnbcehaaGreatDoor
open Go.RowKit
set_option maxRecDepth 100000
def PrsLie (w0 w : World) (va : Option Addr) (L : List Pr) : Prop := ∀ (k : Nat) (x : Pr), L[k]? = some x → ∃ g o, va = some ⟨g, o, none⟩ ∧ ∃ vo vn, w.cell? ⟨g, o + k * 7, none⟩ = some (.int .i64 x.kind) ∧ w.cell? ⟨g, o + k * 7 + 1, none⟩ = some (.string x.path) ∧ w.cell? ⟨g, o + k * 7 + 2, none⟩ = some (.string x.dst) ∧ w.cell? ⟨g, o + k * 7 + 3, none⟩ = some (.string x.src) ∧ w.cell? ⟨g, o + k * 7 + 4, none⟩ = some (.int .i64 x.pos) ∧ w.cell? ⟨g, o + k * 7 + 5, none⟩ = some vo ∧ w.cell? ⟨g, o + k * 7 + 6, none⟩ = some vn ∧ Zv w0 vo x.old ∧ Zv w0 vn x.new
theorem PrsLie.get {w0 w : World} {va : Option Addr} {L : List Pr} (h : PrsLie w0 w va L) {k : Nat} (hk : k < L.length) : ∃ g o, va = some ⟨g, o, none⟩ ∧ ∃ vo vn, w.cell? ⟨g, o + k * 7, none⟩ = some (.int .i64 L[k].kind) ∧ w.cell? ⟨g, o + k * 7 + 1, none⟩ = some (.string L[k].path) ∧ w.cell? ⟨g, o + k * 7 + 2, none⟩ = some (.string L[k].dst) ∧ w.cell? ⟨g, o + k * 7 + 3, none⟩ = some (.string L[k].src) ∧ w.cell? ⟨g, o + k * 7 + 4, none⟩ = some (.int .i64 L[k].pos) ∧ w.cell? ⟨g, o + k * 7 + 5, none⟩ = some vo ∧ w.cell? ⟨g, o + k * 7 + 6, none⟩ = some vn ∧ Zv w0 vo L[k].old ∧ Zv w0 vn L[k].new := h k _ (List.getElem?_eq_getElem hk)
theorem PrsLie.kept {w0 w w' : World} {va : Option Addr} {L : List Pr} (h : PrsLie w0 w va L) (f : Fr None' w w') : PrsLie w0 w' va L := fun k x hk => by
 obtain ⟨g, o, e, vo, vn, c0, c1, c2, c3, c4, c5, c6, s1, s2⟩ := h k x hk
 exact ⟨g, o, e, vo, vn, f.keepCell c0 (fun e => e), f.keepCell c1 (fun e => e), f.keepCell c2 (fun e => e), f.keepCell c3 (fun e => e), f.keepCell c4 (fun e => e), f.keepCell c5 (fun e => e), f.keepCell c6 (fun e => e), s1, s2⟩
theorem PrsLie.prs {w0 w : World} {va : Option Addr} {L : List Pr} (h : PrsLie w0 w va L) (f : Fr None' w0 w) : Zc w va L := fun k x hk => by
 obtain ⟨g, o, e, vo, vn, c0, c1, c2, c3, c4, c5, c6, s1, s2⟩ := h k x hk
 exact ⟨g, o, e, vo, vn, c0, c1, c2, c3, c4, c5, c6, s1.kept f, s2.kept f⟩
theorem Zc.lie {w : World} {va : Option Addr} {L : List Pr} (h : Zc w va L) : PrsLie w w va L := fun k x hk => by
 obtain ⟨g, o, e, vo, vn, c0, c1, c2, c3, c4, c5, c6, s1, s2⟩ := h k x hk
 exact ⟨g, o, e, vo, vn, c0, c1, c2, c3, c4, c5, c6, s1, s2⟩
structure RPastInL (w0 w : World) (b1 base : Nat) (L : List Pr) (x : Pr) (k : Nat) (wr : World) (v : Value) (A : List Pr) (b : Pr) (V : List (Value × Value)) (po pn : Option Addr) (co cn : Nat) : Prop where
 eq : Zk x (L.take k) = (A, b, true)
 small : Zs b
 lines : Zo b
 fr : Fr None' w wr
 size : base ≤ wr.heap.size
 own : Zh base wr v A V
 lie : ∀ (k : Nat) (y : Pr) (u : Value × Value), A[k]? = some y → V[k]? = some u → Zv w0 u.1 y.old ∧ Zv w0 u.2 y.new
 bx : Box wr w.heap.size (.int .i64 b.kind) (.string b.path) (.string b.dst) (.string b.src) (.int .i64 b.pos) (.slice po b.old.length co) (.slice pn b.new.length cn)
 so : Zv w0 (.slice po b.old.length co) b.old
 sn : Zv w0 (.slice pn b.new.length cn) b.new
 res : Box wr b1 (.int .i64 0) (.string ⟨#[]⟩) (.string ⟨#[]⟩) (.string ⟨#[]⟩) (.int .i64 0) (.slice none 0 0) (.slice none 0 0)
def RPastPostL (x : Pr) (L : List Pr) (w0 w : World) (e : Ending) (w' : World) : Prop := ∃ v vb V, e = .returned (.tuple #[v, vb, .bool (Zk x L).2.2]) ∧ Zh w.heap.size w' v (Zk x L).1 V ∧ (∀ (k : Nat) (y : Pr) (u : Value × Value), (Zk x L).1[k]? = some y → V[k]? = some u → Zv w0 u.1 y.old ∧ Zv w0 u.2 y.new) ∧ Yf w0 vb (Zk x L).2.1 ∧ Fr None' w w'
theorem rpastL_any (x : Pr) (vo vn : Value) (va : Option Addr) (n c : Nat) (L : List Pr) (w0 w : World) (f0 : Fr None' w0 w) (ho : Zv w0 vo x.old) (hn : Zv w0 vn x.new) (sx : Zs x) (lx : Zo x) (hl : L.length = n) (hn2 : n ≤ 200) (hL : PrsLie w0 w va L) (sL : ∀ y ∈ L, Zs y ∧ Zo y) :
  Calls Tryz.prog 30 #[.agg #[.int .i64 x.kind, .string x.path, .string x.dst, .string x.src, .int .i64 x.pos, vo, vn], .slice va n c] w fun e w' => RPastPostL x L w0 w e w' := by
 have HCm := Zz (fun (b : Pr) (k : Nat) (hk : k < L.length) w' po co pn cn ra rc rb rd (sb : Zs b) (lb : Zo b) (f : Fr None' w w') (h1 : Zv w0 (.slice po b.old.length co) b.old) (h2 : Zv w0 (.slice pn b.new.length cn) b.new) (h3 : Zv w0 (.slice ra L[k].old.length rc) L[k].old) (h4 : Zv w0 (.slice rb L[k].new.length rd) L[k].new) => (rcommute_any b L[k] _ _ _ _ w0 w' h1 h2 h3 h4 (f0.then7 f) sb (sL _ (List.getElem_mem hk)).1 lb (sL _ (List.getElem_mem hk)).2).mono (fun e w'' h => Z9.at (c1 := (Zj b L[k]).1) (c2 := (Zj b L[k]).2.1) (t := (Zj b L[k]).2.2) rfl h))
 have HSm := Zz (fun (b : Pr) (k : Nat) (hk : k < L.length) (sb : Zs b) (lb : Zo b) => comm_smallL sb (sL _ (List.getElem_mem hk)).1 lb)
 have HLe := Zz hl
 have HLs := Zz hL
 obtain ⟨pa, ca, rfl⟩ := ho.as2
 obtain ⟨pb, cb, rfl⟩ := hn.as2
 obtain ⟨w1, hw1⟩ : ∃ w1, w.alloc (.cells #[.int .i64 x.kind, .string x.path, .string x.dst, .string x.src, .int .i64 x.pos, .slice pa x.old.length ca, .slice pb x.new.length cb] 43) = w1 := ⟨_, rfl⟩
 obtain ⟨w2, hw2⟩ : ∃ w2, w1.alloc (.cells #[.int .i64 0, .string ⟨#[]⟩, .string ⟨#[]⟩, .string ⟨#[]⟩, .int .i64 0, .slice none 0 0, .slice none 0 0] 43) = w2 := ⟨_, rfl⟩
 have F1 : Fr None' w w1 := hw1 ▸ Fr.alloc None' w _
 have F2 : Fr None' w1 w2 := hw2 ▸ Fr.alloc None' w1 _
 have s1 : w1.heap.size = w.heap.size + 1 := by rw [← hw1]; simp
 have s2 : w2.heap.size = w1.heap.size + 1 := by rw [← hw2]; simp
 have HI0 := Zz (show RPastInL w0 w w1.heap.size w2.heap.size L x 0 w2 (.slice none 0 0) [] x [] pa pb ca cb from ⟨rfl, sx, lx, F1.then7 F2, Nat.le_refl _, Zh.nil _ _, (fun k y u e => by simp at e), (hw1 ▸ Box.new w _ _ _ _ _ _ _ : Box w1 _ _ _ _ _ _ _ _).kept F2, ho, hn, hw2 ▸ Box.new w1 _ _ _ _ _ _ _⟩)
 have HN := Zz (show w1.heap.size = w.heap.size + 1 ∧ w2.heap.size = w1.heap.size + 1 from ⟨s1, s2⟩)
 obtain ⟨no, hno⟩ : ∃ m, x.old.length = m := ⟨_, rfl⟩
 obtain ⟨nn, hnn⟩ : ∃ m, x.new.length = m := ⟨_, rfl⟩
 rw [hno, hnn] at hw1
 rw [hno, hnn]
 have i1 : (n : Int) ≤ 200 := by omega
 have i2 : (0 : Int) ≤ (n : Int) := by omega
 have HN2 := Zz hn2
 clear ho hn sx lx hl hn2 hL sL F1 F2 s1 s2 hno hnn
 go_enter Tryz.func30, Tryz.ntmps30
 go_wp2_with fail
 go_loopw [7, 8] (fun vv vi wr => ∃ (k : Nat) (A : List Pr) (b : Pr) (V : List (Value × Value)) (po pn : Option Addr) (co cn : Nat), k ≤ n ∧ vi = .int .i64 k ∧ Hid (RPastInL w0 w w1.heap.size w2.heap.size L x k wr vv A b V po pn co cn)) (fun _ vi _ => n - (intOf vi).toNat)
 case atStart => exact ⟨0, [], x, [], pa, pb, ca, cb, Nat.zero_le _, rfl, HI0.out⟩
 case round =>
  clear HI0
  obtain ⟨k, A, b, V, po, pn, co, cn, hk, rfl, HI⟩ := hrel
  obtain ⟨pv, cv, hvv, _⟩ := HI.out.own.slice
  subst hvv
  by_cases hlt : k < n
  ·have hkL : k < L.length := by rw [HLe.out]; exact hlt
   obtain ⟨g, o, rfl, uo, un, d0, d1, d2, d3, d4, d5, d6, t1, t2⟩ := HLs.out.get hkL
   obtain ⟨ra, rc, rfl⟩ := t1.as2
   obtain ⟨rb, rd, rfl⟩ := t2.as2
   have HCk := Zz (fun w' (f : Fr None' wr w') => HCm.out b k hkL w' po co pn cn ra rc rb rd HI.out.small HI.out.lines (HI.out.fr.then7 f) HI.out.so HI.out.sn t1 t2)
   have HT := Zz (past_take hkL HI.out.eq)
   have HSk := Zz (HSm.out b k hkL HI.out.small HI.out.lines)
   have HS := Zz (show ∀ w', Fr None' wr w' → Fr None' wr w' ∧ w'.cell? ⟨w.heap.size, 0, none⟩ = some (.int .i64 b.kind) ∧ w'.cell? ⟨w.heap.size, 1, none⟩ = some (.string b.path) ∧ w'.cell? ⟨w.heap.size, 2, none⟩ = some (.string b.dst) ∧ w'.cell? ⟨w.heap.size, 3, none⟩ = some (.string b.src) ∧ w'.cell? ⟨w.heap.size, 4, none⟩ = some (.int .i64 b.pos) ∧ w'.cell? ⟨w.heap.size, 5, none⟩ = some (.slice po b.old.length co) ∧ w'.cell? ⟨w.heap.size, 6, none⟩ = some (.slice pn b.new.length cn) ∧ w'.cell? ⟨g, o + k * 7, none⟩ = some (.int .i64 L[k].kind) ∧ w'.cell? ⟨g, o + k * 7 + 1, none⟩ = some (.string L[k].path) ∧ w'.cell? ⟨g, o + k * 7 + 2, none⟩ = some (.string L[k].dst) ∧ w'.cell? ⟨g, o + k * 7 + 3, none⟩ = some (.string L[k].src) ∧ w'.cell? ⟨g, o + k * 7 + 4, none⟩ = some (.int .i64 L[k].pos) ∧ w'.cell? ⟨g, o + k * 7 + 5, none⟩ = some (.slice ra L[k].old.length rc) ∧ w'.cell? ⟨g, o + k * 7 + 6, none⟩ = some (.slice rb L[k].new.length rd) from fun w' f => by
    obtain ⟨x0, x1, x2, x3, x4, x5, x6⟩ := (HI.out.bx.kept f).cells
    have f' := HI.out.fr.then7 f
    exact ⟨f, x0, x1, x2, x3, x4, x5, x6, f'.keepCell d0 (fun e => e), f'.keepCell d1 (fun e => e), f'.keepCell d2 (fun e => e), f'.keepCell d3 (fun e => e), f'.keepCell d4 (fun e => e), f'.keepCell d5 (fun e => e), f'.keepCell d6 (fun e => e)⟩)
   unfold RCommC at HCk
   generalize L[k] = q at HCk HT HS HSk
   generalize Zj b q = cc at HCk HT HSk
   obtain ⟨c1, c2, t⟩ := cc
   simp only at HCk HT HSk
   clear d0 d1 d2 d3 d4 d5 d6 t1 t2 hkL
   have i3 : (k : Int) < (n : Int) := by omega
   have i4 : (0 : Int) ≤ (k : Int) := by omega
   have frr := Fr.refl None' wr
   go_wp2_with fail
   refine region_told (fun a' w' => ∃ (po1 pn1 po2 pn2 : Option Addr) (co1 cn1 co2 cn2 : Nat), Hid ((Zv w0 (.slice po1 c1.old.length co1) c1.old ∧ Zv w0 (.slice pn1 c1.new.length cn1) c1.new) ∧ Zv w0 (.slice po2 c2.old.length co2) c2.old ∧ Zv w0 (.slice pn2 c2.new.length cn2) c2.new) ∧ (fun a' w' => ∃ b9 b10 v4 v6 u12 u13 u14 u15 u16 u17 u18 u19 u20 u21 u22 u23 u24 u25 u26 u27 u28 u29 u30 u31 u32 u33 u34 u35, a' = { tmps := #[.agg #[.int .i64 x.kind, .string x.path, .string x.dst, .string x.src, .int .i64 x.pos, .slice pa no ca, .slice pb nn cb], .slice (some ⟨g, o, none⟩) n c, .pointer (some ⟨w.heap.size, 0, none⟩), undef, v4, .pointer (some ⟨w1.heap.size, 0, none⟩), v6, .slice pv A.length cv, .int .i64 k, .pointer (some ⟨b9, 0, none⟩), .pointer (some ⟨b10, 0, none⟩), .bool t, u12, u13, u14, u15, u16, u17, u18, u19, u20, u21, u22, u23, u24, u25, u26, u27, u28, u29, u30, u31, u32, u33, u34, u35, undef, undef], defers := [] } ∧ Box w' b9 (.int .i64 c1.kind) (.string c1.path) (.string c1.dst) (.string c1.src) (.int .i64 c1.pos) (.slice po1 c1.old.length co1) (.slice pn1 c1.new.length cn1) ∧ Box w' b10 (.int .i64 c2.kind) (.string c2.path) (.string c2.dst) (.string c2.src) (.int .i64 c2.pos) (.slice po2 c2.old.length co2) (.slice pn2 c2.new.length cn2) ∧ Fr None' wr w' ∧ wr.heap.size ≤ b9 ∧ wr.heap.size ≤ b10) a' w') ?reg ?rest
   case reg =>
    go_region_held3 (fun w' => Fr None' wr w' ∧ w'.cell? ⟨w.heap.size, 0, none⟩ = some (.int .i64 b.kind) ∧ w'.cell? ⟨w.heap.size, 1, none⟩ = some (.string b.path) ∧ w'.cell? ⟨w.heap.size, 2, none⟩ = some (.string b.dst) ∧ w'.cell? ⟨w.heap.size, 3, none⟩ = some (.string b.src) ∧ w'.cell? ⟨w.heap.size, 4, none⟩ = some (.int .i64 b.pos) ∧ w'.cell? ⟨w.heap.size, 5, none⟩ = some (.slice po b.old.length co) ∧ w'.cell? ⟨w.heap.size, 6, none⟩ = some (.slice pn b.new.length cn) ∧ w'.cell? ⟨g, o + k * 7, none⟩ = some (.int .i64 q.kind) ∧ w'.cell? ⟨g, o + k * 7 + 1, none⟩ = some (.string q.path) ∧ w'.cell? ⟨g, o + k * 7 + 2, none⟩ = some (.string q.dst) ∧ w'.cell? ⟨g, o + k * 7 + 3, none⟩ = some (.string q.src) ∧ w'.cell? ⟨g, o + k * 7 + 4, none⟩ = some (.int .i64 q.pos) ∧ w'.cell? ⟨g, o + k * 7 + 5, none⟩ = some (.slice ra q.old.length rc) ∧ w'.cell? ⟨g, o + k * 7 + 6, none⟩ = some (.slice rb q.new.length rd))
     (exact HS.out _ (by (repeat (first | with_reducible assumption | with_reducible refine alloc10 ?_ _ | with_reducible refine Ye ?_ | (with_reducible refine set10 ?_ ?_ _ _ _ _ _ _ _; rotate_left; focus (first | exact Nat.le_refl _ | (simp; done) | (have h1 := Fr.size g7; simp; omega)))))))
     (first
      | (go_at_call 57; with_reducible (refine (HCk.out _ (by (repeat (first | with_reducible assumption | with_reducible refine alloc10 ?_ _ | with_reducible refine Ye ?_ | (with_reducible refine set10 ?_ ?_ _ _ _ _ _ _ _; rotate_left; focus (first | exact Nat.le_refl _ | (simp; done) | (have h1 := Fr.size g7; simp; omega))))))).mono ?_); rintro e w7 ⟨po1, pn1, po2, pn2, co1, cn1, co2, cn2, rfl, HSt, f7⟩; have g7 := Fr.then7 (show Fr None' wr _ by (repeat (first | with_reducible assumption | with_reducible refine alloc10 ?_ _ | with_reducible refine Ye ?_ | (with_reducible refine set10 ?_ ?_ _ _ _ _ _ _ _; rotate_left; focus (first | exact Nat.le_refl _ | (simp; done) | (have h1 := Fr.size g7; simp; omega)))))) f7; (try (refine (fun (na : Box w7 wr.heap.size (.int .i64 0) (.string ⟨#[]⟩) (.string ⟨#[]⟩) (.string ⟨#[]⟩) (.int .i64 0) (.slice none 0 0) (.slice none 0 0)) => ?_) (Box.kept ?_ f7); rotate_left; (focus ((repeat (first | with_reducible assumption | (with_reducible refine Box.new10 ?_ _ _ _ _ _ _ _; focus (simp; done)) | with_reducible refine Box.alloc10 ?_ _ | with_reducible refine Box.drew ?_)); done)); obtain ⟨na0, na1, na2, na3, na4, na5, na6⟩ := Box.cells na; have naz := Box.frozen na; have naA := fun o => Box.cells (Box.alloc10 na o); have naA0 := fun o => (naA o).1; have naA1 := fun o => (naA o).2.1; have naA2 := fun o => (naA o).2.2.1; have naA3 := fun o => (naA o).2.2.2.1; have naA4 := fun o => (naA o).2.2.2.2.1; have naA5 := fun o => (naA o).2.2.2.2.2.1; have naA6 := fun o => (naA o).2.2.2.2.2.2; have naAz := fun o => Box.frozen (Box.alloc10 na o); clear naA; have nav : ¬ wr.heap.size = w7.heap.size := Nat.ne_of_lt (Box.lt na); have nau : ¬ w7.heap.size = wr.heap.size := Nat.ne_of_gt (Box.lt na))); (try (refine (fun (nb : Box w7 (wr.heap.size + 1) (.int .i64 0) (.string ⟨#[]⟩) (.string ⟨#[]⟩) (.string ⟨#[]⟩) (.int .i64 0) (.slice none 0 0) (.slice none 0 0)) => ?_) (Box.kept ?_ f7); rotate_left; (focus ((repeat (first | with_reducible assumption | (with_reducible refine Box.new10 ?_ _ _ _ _ _ _ _; focus (simp; done)) | with_reducible refine Box.alloc10 ?_ _ | with_reducible refine Box.drew ?_)); done)); obtain ⟨nb0, nb1, nb2, nb3, nb4, nb5, nb6⟩ := Box.cells nb; have nbz := Box.frozen nb; have nbA := fun o => Box.cells (Box.alloc10 nb o); have nbA0 := fun o => (nbA o).1; have nbA1 := fun o => (nbA o).2.1; have nbA2 := fun o => (nbA o).2.2.1; have nbA3 := fun o => (nbA o).2.2.2.1; have nbA4 := fun o => (nbA o).2.2.2.2.1; have nbA5 := fun o => (nbA o).2.2.2.2.2.1; have nbA6 := fun o => (nbA o).2.2.2.2.2.2; have nbAz := fun o => Box.frozen (Box.alloc10 nb o); clear nbA; have nbv : ¬ (wr.heap.size + 1) = w7.heap.size := Nat.ne_of_lt (Box.lt nb); have nbu : ¬ w7.heap.size = (wr.heap.size + 1) := Nat.ne_of_gt (Box.lt nb))))
      | fail)
    all_goals
     refine ⟨po1, pn1, po2, pn2, co1, cn1, co2, cn2, HSt.out, _, _, _, _, _, _, _, _, _, _, _, _, _, _, _, _, _, _, _, _, _, _, _, _, _, _, _, _, rfl, ?_, ?_, ?_, ?_, ?_⟩
     ·(repeat (first | with_reducible assumption | (with_reducible (refine Box.new10 ?_ _ _ _ _ _ _ _); (focus (simp; done))) | with_reducible refine Box.alloc10 ?_ _ | with_reducible refine all10 ?_ _ _ _ _ _ _ _ | (with_reducible (refine far10 ?_ ?_ _ _ _ _ _ _ _); rotate_left; (focus (first | assumption | omega | (simp; done))))))
     ·(repeat (first | with_reducible assumption | (with_reducible (refine Box.new10 ?_ _ _ _ _ _ _ _); (focus (simp; done))) | with_reducible refine Box.alloc10 ?_ _ | with_reducible refine all10 ?_ _ _ _ _ _ _ _ | (with_reducible (refine far10 ?_ ?_ _ _ _ _ _ _ _); rotate_left; (focus (first | assumption | omega | (simp; done))))))
     ·(repeat (first | with_reducible assumption | with_reducible refine alloc10 ?_ _ | with_reducible refine Ye ?_ | (with_reducible refine set10 ?_ ?_ _ _ _ _ _ _ _; rotate_left; focus (first | exact Nat.le_refl _ | (simp; done) | (have h1 := Fr.size g7; simp; omega)))))
     ·(first | exact Nat.le_refl _ | omega | (have h1 := Fr.size g7; omega))
     ·(first | exact Nat.le_refl _ | omega | (have h1 := Fr.size g7; omega))
   case rest =>
    rintro a' w9 ⟨po1, pn1, po2, pn2, co1, cn1, co2, cn2, HSt, b9, b10, v4, v6, u12, u13, u14, u15, u16, u17, u18, u19, u20, u21, u22, u23, u24, u25, u26, u27, u28, u29, u30, u31, u32, u33, u34, u35, rfl, B9, B10, F9, l9, l10⟩
    have HB := Zz (And.intro B9 B10)
    have HF9 := Zz F9
    have HL9 := Zz (And.intro l9 l10)
    clear HS HCk B9 B10 F9 l9 l10 frr
    cases t with
    | false =>
     have HE := Zz (show Zk x L = ([], Yr, false) from past_stop (k := k + 1) (by rw [HT.out]; rfl))
     have HR9 := Zz (HI.out.res.kept HF9.out)
     have HW9 := Zz (HI.out.fr.then7 HF9.out)
     obtain ⟨c0, c1', c2', c3, c4, c5, c6⟩ := HR9.out.cells
     have cz := HR9.out.frozen
     go_wp2_with fail
     have hfin := fin9 (W := w9) HW9.out HR9.out (Fr.refl (fun k => k = w9.heap.size) _) (by have := HR9.out.lt; omega) (by have := HN.out; omega) HW9.out.size (.int .i64 0) (.string ⟨#[]⟩) (.string ⟨#[]⟩) (.string ⟨#[]⟩) (.int .i64 0) (.slice none 0 0) (.slice none 0 0)
     refine ret_tct (u := .bool false) (v := .slice none 0 0) rfl rfl rfl rfl rfl hfin.1 ?_
     unfold RPastPostL
     rw [HE.out]
     exact ⟨_, _, [], rfl, Zh.nil _ _, (fun k y u e => by simp at e), (zero_new w0 w0).val, hfin.2⟩
    | true =>
     obtain ⟨wA, hwA⟩ : ∃ wA, w9.alloc (.cells #[.int .i64 c1.kind, .string c1.path, .string c1.dst, .string c1.src, .int .i64 c1.pos, .slice po1 c1.old.length co1, .slice pn1 c1.new.length cn1] 43) = wA := ⟨_, rfl⟩
     have hI := HI.out
     have hN := HN.out
     have hb := HL9.out
     have FA : Fr None' w9 wA := hwA ▸ Fr.alloc None' _ _
     have FrA : Fr None' wr wA := HF9.out.then7 FA
     have fwA := hI.fr.then7 FrA
     have BA : Box wA w9.heap.size (.int .i64 c1.kind) (.string c1.path) (.string c1.dst) (.string c1.src) (.int .i64 c1.pos) (.slice po1 c1.old.length co1) (.slice pn1 c1.new.length cn1) := hwA ▸ Box.new w9 _ _ _ _ _ _ _
     have hge : ∀ j, (Value.slice pv A.length cv).ownBlock = some j → w2.heap.size ≤ j ∧ j < wr.heap.size := fun j e => hI.own.ge e
     have low : ∀ (z : Value) (l : List ByteArray), Zv w0 z l → ∀ j, l ≠ [] → z.ownBlock = some j → j < w.heap.size := fun z l h j hl e => Nat.lt_of_lt_of_le (h.lt hl e) f0.size
     obtain ⟨v10, w10, hr10, own10, hf10, ho10⟩ := (hI.own.kept FrA).push (b := w9.heap.size) (x := c1) BA (HSt.out.1.1.kept (f0.then7 fwA)) (HSt.out.1.2.kept (f0.then7 fwA)) (fun hl j e e' => by have := low _ _ HSt.out.1.1 j hl e; have := hge j e'; omega) (fun hl j e e' => by have := low _ _ HSt.out.1.2 j hl e; have := hge j e'; omega) (by have := past_lenT hI.eq; have := HN2.out; have := HLe.out; omega) (by have := hI.size; have := FrA.size; omega)
     obtain ⟨pv10, cv10, hv10, _⟩ := own10.slice
     have fr10 : Fr None' w w10 := fwA.trans hf10 (fun i e => Or.inr (by have := hge i e; omega))
     have bp10 : Box w10 w.heap.size (.int .i64 b.kind) (.string b.path) (.string b.dst) (.string b.src) (.int .i64 b.pos) (.slice po b.old.length co) (.slice pn b.new.length cn) := (hI.bx.kept FrA).fr hf10 (fun e => by have := hge _ e; omega)
     have bn10 : Box w10 b10 (.int .i64 c2.kind) (.string c2.path) (.string c2.dst) (.string c2.src) (.int .i64 c2.pos) (.slice po2 c2.old.length co2) (.slice pn2 c2.new.length cn2) := (HB.out.2.kept FA).fr hf10 (fun e => by have := hge _ e; omega)
     have FS : Fr (fun k => k = w.heap.size) w10 (setP w10 w.heap.size (.int .i64 c2.kind) (.string c2.path) (.string c2.dst) (.string c2.src) (.int .i64 c2.pos) (.slice po2 c2.old.length co2) (.slice pn2 c2.new.length cn2)) := Fr.setP (M := fun k => k = w.heap.size) w10 rfl _ _ _ _ _ _ _
     have lie10 : ∀ (k : Nat) (y : Pr) (u : Value × Value), (A ++ [c1])[k]? = some y → (V ++ [(.slice po1 c1.old.length co1, .slice pn1 c1.new.length cn1)])[k]? = some u → Zv w0 u.1 y.old ∧ Zv w0 u.2 y.new := fun i y u e1 e2 => by
      have hVA := hI.own.len
      rcases Nat.lt_or_ge i A.length with hi | hi
      ·rw [List.getElem?_append_left hi] at e1
       rw [List.getElem?_append_left (by omega)] at e2
       exact hI.lie i y u e1 e2
      ·rw [List.getElem?_append_right hi] at e1
       rw [List.getElem?_append_right (by omega), hVA] at e2
       have hi0 : i - A.length = 0 := by
        have := (List.getElem?_eq_some_iff.1 e1).1
        simpa using this
       rw [hi0] at e1 e2
       simp at e1 e2
       subst e1 e2
       exact HSt.out.1
     have hown : ∀ j, v10.ownBlock = some j → ¬ j = w.heap.size ∧ ¬ j = w1.heap.size := fun j e => by
      have := own10.ge e
      omega
     have HIn := Zz (show RPastInL w0 w w1.heap.size w2.heap.size L x (k + 1) (setP w10 w.heap.size (.int .i64 c2.kind) (.string c2.path) (.string c2.dst) (.string c2.src) (.int .i64 c2.pos) (.slice po2 c2.old.length co2) (.slice pn2 c2.new.length cn2)) v10 (A ++ [c1]) c2 (V ++ [(.slice po1 c1.old.length co1, .slice pn1 c1.new.length cn1)]) po2 pn2 co2 cn2 from by
      obtain ⟨m1, m2⟩ : Zs c2 ∧ Zo c2 := HSk.out.resolve_right (by simp)
      refine ⟨HT.out, m1, m2, fr10.trans FS (fun i e => Or.inr (by omega)), by have := hI.size; have := FrA.size; have := hf10.size; have := FS.size; omega, own10.fr2 FS (fun j e h => (hown j e).1 h) (fun i y u e1 e2 => ⟨fun hl j e h => by have := low _ _ (lie10 i y u e1 e2).1 j hl e; omega, fun hl j e h => by have := low _ _ (lie10 i y u e1 e2).2 j hl e; omega⟩), lie10, bp10.all _ _ _ _ _ _ _, HSt.out.2.1, HSt.out.2.2, ?_⟩
      exact ((hI.res.kept FrA).fr hf10 (fun e => by have := hge _ e; omega)).fr FS (by omega))
     subst hv10
     obtain ⟨e0, e1, e2, e3, e4, e5, e6⟩ := HB.out.1.cells
     obtain ⟨h0, h1, h2, h3, h4, h5, h6⟩ := bn10.cells
     obtain ⟨p0, p1, p2, p3, p4, p5, p6⟩ := bp10.cells
     have pz := bp10.frozen
     have HR := Zz hr10
     clear hI hN hb FA FrA fwA BA hge low hr10 own10 hf10 ho10 fr10 bp10 bn10 FS lie10 hown HT HSk
     generalize (A ++ [c1]).length = al at HR HIn
     go_wp2_with (at_builtin
                  refine Y0 rfl _ _ rfl rfl rfl HR.out ?_)
     exact ⟨⟨k + 1, _, _, _, _, _, _, _, by omega, by go_num, HIn.out⟩, by simp [intOf]; omega⟩
  ·have e : k = n := by omega
   subst e
   have hI := HI.out
   have heq := hI.eq
   rw [List.take_of_length_le (by rw [HLe.out]; exact Nat.le_refl _)] at heq
   have HE := Zz heq
   have hN := HN.out
   have HS := Zz (show ∀ w', Fr (fun k => k = w1.heap.size) wr w' → Fr (fun k => k = w1.heap.size) wr w' ∧ w'.cell? ⟨w.heap.size, 0, none⟩ = some (.int .i64 b.kind) ∧ w'.cell? ⟨w.heap.size, 1, none⟩ = some (.string b.path) ∧ w'.cell? ⟨w.heap.size, 2, none⟩ = some (.string b.dst) ∧ w'.cell? ⟨w.heap.size, 3, none⟩ = some (.string b.src) ∧ w'.cell? ⟨w.heap.size, 4, none⟩ = some (.int .i64 b.pos) ∧ w'.cell? ⟨w.heap.size, 5, none⟩ = some (.slice po b.old.length co) ∧ w'.cell? ⟨w.heap.size, 6, none⟩ = some (.slice pn b.new.length cn) from fun w' f => by
    obtain ⟨x0, x1, x2, x3, x4, x5, x6⟩ := (hI.bx.fr f (by omega)).cells
    exact ⟨f, x0, x1, x2, x3, x4, x5, x6⟩)
   have hS0 := HS.out wr.drew (Fr.drew _ wr)
   have hS1 := HS.out (setP wr w1.heap.size (.int .i64 b.kind) (.string b.path) (.string b.dst) (.string b.src) (.int .i64 b.pos) (.slice po b.old.length co) (.slice pn b.new.length cn)).drew (Fr.then (Fr.setP (M := fun k => k = w1.heap.size) _ rfl _ _ _ _ _ _ _) (Fr.drew _ _))
   obtain ⟨c0, c1, c2, c3, c4, c5, c6⟩ := hI.res.cells
   have cz := hI.res.frozen
   clear hI heq hN
   go_wp2_with fail
   go_region_held3 (fun w' => Fr (fun k => k = w1.heap.size) wr w' ∧ w'.cell? ⟨w.heap.size, 0, none⟩ = some (.int .i64 b.kind) ∧ w'.cell? ⟨w.heap.size, 1, none⟩ = some (.string b.path) ∧ w'.cell? ⟨w.heap.size, 2, none⟩ = some (.string b.dst) ∧ w'.cell? ⟨w.heap.size, 3, none⟩ = some (.string b.src) ∧ w'.cell? ⟨w.heap.size, 4, none⟩ = some (.int .i64 b.pos) ∧ w'.cell? ⟨w.heap.size, 5, none⟩ = some (.slice po b.old.length co) ∧ w'.cell? ⟨w.heap.size, 6, none⟩ = some (.slice pn b.new.length cn))
    (first | with_reducible exact hS0 | with_reducible exact hS1)
    (fail)
   clear hS0 hS1 c0 c1 c2 c3 c4 c5 c6 cz
   go_wp2_with fail
   have hI := HI.out
   have hN := HN.out
   have hB := (hI.res.all (.int .i64 b.kind) (.string b.path) (.string b.dst) (.string b.src) (.int .i64 b.pos) (.slice po b.old.length co) (.slice pn b.new.length cn)).drew
   have hF : Fr (fun k => k = w1.heap.size) wr (setP wr w1.heap.size (.int .i64 b.kind) (.string b.path) (.string b.dst) (.string b.src) (.int .i64 b.pos) (.slice po b.old.length co) (.slice pn b.new.length cn)).drew := (Fr.setP (M := fun k => k = w1.heap.size) wr rfl _ _ _ _ _ _ _).then (Fr.drew _ _)
   refine ret_tct (u := .bool true) rfl rfl rfl rfl rfl hB ?_
   unfold RPastPostL
   rw [HE.out]
   exact ⟨_, _, V, rfl, (hI.own.fr2 hF (fun j e h => by have := hI.own.ge e; omega) (fun i y u e1 e2 => ⟨fun hl j e h => by have := (hI.lie i y u e1 e2).1.lt hl e; have := f0.size; omega, fun hl j e h => by have := (hI.lie i y u e1 e2).2.lt hl e; have := f0.size; omega⟩)).weakenR (by omega), hI.lie, ⟨_, _, rfl, hI.so, hI.sn⟩, hI.fr.trans hF (fun i e => Or.inr (by omega))⟩
end Go.Proofs.YtbnfjjjdnbcehaaGreatDoor
