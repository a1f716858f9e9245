/- What is proved here: contracts for RecordMakes. Conditions: as named. -/
import Derived.Test.YtbnfjjjdnbcehaaGreatDoorXRecG12
import Derived.Test.YtbnfjjjdnbcehaaGreatDoorX57Laws8
import Derived.Test.YtbnfjjjdnbcehaaGreatDoorX25RightT
import Derived.Test.YtbnfjjjdnbcehaaGreatDoorX2Base
import Derived.Test.YtbnfjjjdnbcehaaGreatDoorX55RecD12
import Derived.Test.YtbnfjjjdnbcehaaGreatDoorX30RecC12
import Derived.Test.YtbnfjjjdnbcehaaGreatDoorXSameE
import Derived.Test.YtbnfjjjdnbcehaaGreatDoorXAll9
set_option maxHeartbeats 16000000
namespace Go.Proofs.YtbnfjjjdnbcehaaGreatDoor
open Go.RowKit Go.Shelf
set_option maxRecDepth 100000
attribute [local go_sem] Oper.semAt_some run_store_func9
def TabsAt (w : World) : Prop := ∀ k : Nat, (k = 1 ∨ k = 2 ∨ k = 3) → w.cell? ⟨0, k, none⟩ = some (.int .i64 (2 * (k : Int))) ∧ w.cell? ⟨1, k, none⟩ = some (.int .i64 (2 * (k : Int) - 1))
theorem TabsAt.kept {w w' : World} (h : TabsAt w) (f : Fr None' w w') : TabsAt w' := fun k hk => ⟨f.keepCell (h k hk).1 (fun e => e), f.keepCell (h k hk).2 (fun e => e)⟩
structure Env12 (w w6 : World) (bx gx hx ix bA bB n m : Nat) (TA TB : List Th) : Prop where
 fr : Fr None' w w6
 lo : w.heap.size ≤ bx
 b0 : w6.heap[bx]? = some (.cells #[.slice none 0 0] 22 (0, 0))
 g0 : w6.cell? ⟨gx, 0, none⟩ = some (.func (.func 37) #[] #[.pointer (some ⟨bx, 0, none⟩)])
 h0 : w6.cell? ⟨hx, 0, none⟩ = some (.map (some bA))
 i0 : w6.cell? ⟨ix, 0, none⟩ = some (.map (some bB))
 mA : Yt w6 bA n TA
 mB : Yt w6 bB m TB
 sA : ∀ t ∈ TA, Zy w t.sl t.x.lines
 sB : ∀ t ∈ TB, Zy w t.sl t.x.lines
 ne : ¬ gx = bx ∧ ¬ hx = bx ∧ ¬ ix = bx ∧ ¬ bA = bx ∧ ¬ bB = bx
 tb : TabsAt w
theorem Env12.at {w w6 W : World} {bx gx hx ix bA bB n m ib : Nat} {TA TB : List Th} {L : List Pr} (E : Env12 w w6 bx gx hx ix bA bB n m TA TB) (G : GatAt w6 bx ib L W) :
  Fr None' w W ∧ W.cell? ⟨gx, 0, none⟩ = some (.func (.func 37) #[] #[.pointer (some ⟨bx, 0, none⟩)]) ∧ W.cell? ⟨hx, 0, none⟩ = some (.map (some bA)) ∧ W.cell? ⟨ix, 0, none⟩ = some (.map (some bB)) ∧ Yt W bA n TA ∧ Yt W bB m TB ∧ TabsAt W := by
 have f : Fr None' w W := E.fr.trans G.fr (fun i e => Or.inr (by have e : i = bx := e; have := E.lo; omega))
 obtain ⟨n1, n2, n3, n4, n5⟩ := E.ne
 exact ⟨f, G.fr.keepCell E.g0 n1, G.fr.keepCell E.h0 n2, G.fr.keepCell E.i0 n3, E.mA.move E.sA f G.fr n4, E.mB.move E.sB f G.fr n5, E.tb.kept f⟩
def I1 (w6 : World) (bx ib : Nat) (a b : List En) (U : List Value) (pre : List (Nat × Value)) (W : World) : Prop := ∃ t, t ≤ a.length ∧ pre = Zj (aggE a U) t ∧ GatAt w6 bx ib ((a.reverse.take t).flatMap (goL b)) W
def I2 (w6 : World) (bx ib D : Nat) (a b : List En) (U : List Value) (pre : List Value) (W : World) : Prop := ∃ t, t ≤ b.length ∧ pre = (aggE b U).take t ∧ GatAt w6 bx ib (a.reverse.flatMap (goL b) ++ (b.take t).flatMap (comeL a)) W ∧ W.heap[D]? = some (.deferred (some []))
def BoxOfV (f : Nat → Value → Act) (x : Value) (a : Act) (W : World) : Prop := ∃ p y0 y1 y2 y3, x = .agg #[y0, y1, y2, y3] ∧ a = f p x ∧ W.heap[p]? = some (.cells #[y0, y1, y2, y3] 45 (0, 0))
theorem come_step {b : List En} (a : List En) {k : Nat} (h : k < b.length) : (b.take (k + 1)).flatMap (comeL a) = (b.take k).flatMap (comeL a) ++ comeL a b[k] := by
 rw [List.take_succ_eq_append_getElem h, List.flatMap_append]
 simp
def BoxOfE (f : Nat → Nat × Value → Act) (x : Nat × Value) (a : Act) (W : World) : Prop := ∃ p y0 y1 y2 y3, x.2 = .agg #[y0, y1, y2, y3] ∧ a = f p x ∧ W.heap[p]? = some (.cells #[y0, y1, y2, y3] 45 (0, 0))
theorem go_step {a : List En} (b : List En) {t k : Nat} (h : t + k + 1 = a.length) : (a.reverse.take (t + 1)).flatMap (goL b) = (a.reverse.take t).flatMap (goL b) ++ goL b (a[k]'(by omega)) := by
 have ht : t < a.reverse.length := by rw [List.length_reverse]; omega
 have e : a.reverse[t] = a[k]'(by omega) := by
  rw [List.getElem_reverse]
  congr 1
  omega
 rw [List.take_succ_eq_append_getElem ht, List.flatMap_append, e]
 simp
theorem take_flat {α β : Type} (l : List α) (f : α → List β) (k : Nat) : ((l.take k).flatMap f).length ≤ (l.flatMap f).length := by
 have h : (l.take k).flatMap f ++ (l.drop k).flatMap f = l.flatMap f := by rw [← List.flatMap_append, List.take_append_drop]
 rw [← h, List.length_append]
 omega
def InvC (T : Value → Value → Value → Value → Value → Value → Value → Array Value) (W : World) (G p vp vf vt : Value) (w4 : World) (bx ib : Nat) (Lg C : List Pr) (S : Nat → Bool) (a : Act) (w' : World) : Prop :=
 ∃ t0 t1 t2 t3 t4 t5 t6, a = { tmps := T t0 t1 t2 t3 t4 t5 t6, defers := [] } ∧ (S 0 = true → t0 = G) ∧ (S 1 = true → t1 = p) ∧ (S 2 = true → t2 = vp ∧ S 1 = true) ∧ (S 3 = true → t3 = vf) ∧ (S 4 = true → t4 = vt) ∧
  (S 5 = true → S 2 = true ∧ S 3 = true ∧ S 4 = true) ∧ (S 6 = true → S 0 = true ∧ S 5 = true) ∧ (S 6 = false → Fr None' W w') ∧ (S 6 = false → S 5 = true → ∃ w5 V, W.heap.size ≤ w5.heap.size ∧ ChgAt w5.heap.size w5 w' t5 C V) ∧ (S 6 = true → GatPost w4 bx ib (Lg ++ C) W w')
def InvA (T : Value → Value → Value → Value → Value → Value → Value → Value → Value → Value → Array Value) (W : World) (G p1 vk gk vg p0 vp : Value) (w4 : World) (bx ib : Nat) (Lg : List Pr) (x : Pr) (S : Nat → Bool) (a : Act) (w' : World) : Prop :=
 ∃ t0 t1 t2 t3 t4 t5 t6 t7 t8 t9, a = { tmps := T t0 t1 t2 t3 t4 t5 t6 t7 t8 t9, defers := [] } ∧ (S 0 = true → t0 = G) ∧ (S 1 = true → t1 = p1) ∧ (S 2 = true → t2 = vk ∧ S 1 = true) ∧ (S 3 = true → t3 = gk ∧ S 2 = true) ∧ (S 4 = true → t4 = vg ∧ S 3 = true) ∧ (S 5 = true → t5 = p0) ∧ (S 6 = true → t6 = vp ∧ S 5 = true) ∧
  (S 7 = true → t7 = .agg #[.int .i64 x.kind, .string x.path, .string x.dst, .string x.src, .int .i64 x.pos, .slice none 0 0, .slice none 0 0] ∧ S 4 = true ∧ S 6 = true) ∧ (S 8 = true → S 7 = true) ∧ (S 9 = true → S 0 = true ∧ S 8 = true) ∧ (S 9 = false → Fr None' W w') ∧ (S 9 = false → S 8 = true → ∃ g, W.heap.size ≤ g ∧ t8 = .slice (some ⟨g, 0, none⟩) 1 1 ∧ w'.heap[g]? = some (.cells #[.int .i64 x.kind, .string x.path, .string x.dst, .string x.src, .int .i64 x.pos, .slice none 0 0, .slice none 0 0] 43 (0, 0))) ∧ (S 9 = true → GatPost w4 bx ib (Lg ++ [x]) W w')
theorem own_one12 {w : World} {g : Nat} {x : Pr} (hg : w.heap[g]? = some (.cells #[.int .i64 x.kind, .string x.path, .string x.dst, .string x.src, .int .i64 x.pos, .slice none 0 0, .slice none 0 0] 43 (0, 0))) (ho : x.old = []) (hn : x.new = []) : Zk g w (.slice (some ⟨g, 0, none⟩) 1 1) [x] [(.slice none 0 0, .slice none 0 0)] := by
 refine ⟨rfl, ⟨rfl, Or.inr ⟨g, 1, _, rfl, Nat.le_refl _, hg, Nat.le_refl _, by unfold maxLen; omega, rfl, rfl⟩⟩, fun k y u e1 e2 => ?_⟩
 have hk : k = 0 := by
  have := (List.getElem?_eq_some_iff.1 e1).1
  simpa using this
 subst hk
 simp at e1 e2
 subst e1 e2
 rw [ho, hn]
 exact ⟨⟨none, 0, rfl, fun _ => rfl, Nat.le_refl _, fun j x e => by simp at e⟩, ⟨none, 0, rfl, fun _ => rfl, Nat.le_refl _, fun j x e => by simp at e⟩, fun hl => absurd rfl hl, fun hl => absurd rfl hl⟩
theorem record12_yes (hD0 : DiffAll12) (va vb : Option Addr) (n c m d : Nat) (a b : List En) (w : World) (hl : a.length = n) (hm : b.length = m) (ha : Z0 w va a) (hb : Z0 w vb b) (hn : n ≤ 1000) (hm2 : m ≤ 1000) (ra : Zw a = true) (rb : Zw b = true) (wa : weight a < 4000) (wb : weight b < 4000) (sa : SmallE a) (sb : SmallE b) (ht : TabsAt w) :
  Calls Tryz.prog 19 #[.slice va n c, .slice vb m d] w fun e w' => ∃ v V, e = .returned (.tuple #[v, .int .i64 0]) ∧ Zk w.heap.size w' v (recL a b) V ∧ (∀ u ∈ V, ∀ k, (u.1.ownBlock = some k ∨ u.2.ownBlock = some k) → w.heap.size ≤ k) ∧ Fr None' w w' := by
 have i1 : (n : Int) ≤ 1000 := by omega
 have i2 : (m : Int) ≤ 1000 := by omega
 have q1 := tright_any va n c a w hl ha (by omega) sa
 have HQ2 := Zz (fun w' (f : Fr None' w w') => tright_any vb m d b w' hm (hb.kept f) (by omega) sb)
 have HOA := Zz (fun w' (f : Fr None' w w') => of12_any va n c a w w' hl ha f (by omega) sa)
 have HOB := Zz (fun w' (f : Fr None' w w') => of12_any vb m d b w w' hm hb f (by omega) sb)
 rw [ra] at q1
 simp only [rb] at HQ2
 refine (callsIn_wide (n := 3)).1 ?_
 refine callsIn_of_wp_marks Tryz.func19 rfl trivial ?_ rfl
 simp only [Tryz.ntmps19, List.size_toArray, List.length_cons, List.length_nil, Nat.reduceAdd, Nat.reduceSub, Array.replicate_succ, Array.replicate_zero, List.push_toArray, List.append_toArray, List.nil_append, List.cons_append]
 gi_wp2_with fail
 refine ⟨trivial, (callsIn_wide.2 q1).mono ?_⟩
 rintro e w1 ⟨rfl, f1⟩
 have q2 := HQ2.out w1 f1
 gi_wp2_with fail
 refine ⟨trivial, (callsIn_wide.2 q2).mono ?_⟩
 rintro e w2 ⟨rfl, f2⟩
 have F2 := f1.then7 f2
 obtain ⟨wz, hwz⟩ : ∃ wz, (w2.alloc (.cells #[.slice none 0 0] 22)).alloc (.cells #[.nilFunc] 59) = wz := ⟨_, rfl⟩
 have Fz : Fr None' w2 wz := hwz ▸ (Fr.alloc None' w2 _).then7 (Fr.alloc None' _ _)
 have hz1 : wz.heap[w2.heap.size]? = some (.cells #[.slice none 0 0] 22 (0, 0)) := hwz ▸ (Fr.alloc None' _ _).at (heap_alloc_new w2 _) (fun e => e)
 have hz2 : wz.heap[w2.heap.size + 1]? = some (.cells #[.nilFunc] 59 (0, 0)) := hwz ▸ heap_two w2 _ _
 have hzs : wz.heap.size = w2.heap.size + 2 := by rw [← hwz]; simp
 have z1 : wz.cell? ⟨w2.heap.size + 1, 0, none⟩ = some .nilFunc := by rw [World.cell?, hz2]; rfl
 have z2 : ∀ o, wz.frozen? ⟨w2.heap.size + 1, o, none⟩ = false := fun o => by unfold World.frozen?; rw [hz2]; simp
 obtain ⟨w3, hw3⟩ : ∃ w3, wz.setCell ⟨w2.heap.size + 1, 0, none⟩ (.func (.func 37) #[] #[.pointer (some ⟨w2.heap.size, 0, none⟩)]) = w3 := ⟨_, rfl⟩
 have F3 : Fr (fun k => k = w2.heap.size + 1) wz w3 := hw3 ▸ Fr.setQ _ _ _ _
 have h31 : w3.heap[w2.heap.size]? = some (.cells #[.slice none 0 0] 22 (0, 0)) := F3.at hz1 (by omega)
 have h32 : w3.cell? ⟨w2.heap.size + 1, 0, none⟩ = some (.func (.func 37) #[] #[.pointer (some ⟨w2.heap.size, 0, none⟩)]) := by
  have := Go.heap_setCell_same wz (w2.heap.size + 1) 0 _ _ (.func (.func 37) #[] #[.pointer (some ⟨w2.heap.size, 0, none⟩)]) hz2
  rw [hw3] at this
  rw [World.cell?, this]
  rfl
 have FW3 : Fr None' w w3 := (F2.then7 Fz).trans F3 (fun i e => Or.inr (by have e : i = w2.heap.size + 1 := e; have := F2.size; omega))
 have q3 := HOA.out w3 FW3
 have H3 := Zz (And.intro (And.intro h31 h32) FW3)
 have HS3 := Zz (show w3.heap.size = w2.heap.size + 2 ∧ w.heap.size ≤ w2.heap.size from ⟨by rw [← hw3]; simpa using hzs, F2.size⟩)
 clear q1 q2 HQ2 Fz hz1 hz2 hzs F3 h31 h32 FW3
 gi_wp2_with fail
 refine ⟨trivial, (callsIn_wide.2 q3).mono ?_⟩
 rintro e w4 ⟨bA, TA, rfl, tA, eA, sA, f4, lA⟩
 have FW4 := H3.out.2.then7 f4
 have q4 := HOB.out w4 FW4
 clear q3
 gi_wp2_with fail
 refine ⟨trivial, (callsIn_wide.2 q4).mono ?_⟩
 rintro e w5 ⟨bB, TB, rfl, tB, eB, sB, f5, lB⟩
 clear q4
 obtain ⟨w6, hw6⟩ : ∃ w6, (w5.alloc (.cells #[.map (some bA)] 61)).alloc (.cells #[.map (some bB)] 61) = w6 := ⟨_, rfl⟩
 have F6 : Fr None' w5 w6 := hw6 ▸ (Fr.alloc None' w5 _).then7 (Fr.alloc None' _ _)
 have hs6 : w6.heap.size = w5.heap.size + 2 := by rw [← hw6]; simp
 have h61 : w6.cell? ⟨w5.heap.size, 0, none⟩ = some (.map (some bA)) := by
  have h := (Fr.alloc None' (w5.alloc (.cells #[.map (some bA)] 61)) (.cells #[.map (some bB)] 61)).at (heap_alloc_new w5 (.cells #[.map (some bA)] 61)) (fun e => e)
  rw [hw6] at h
  rw [World.cell?, h]
  rfl
 have h62 : w6.cell? ⟨w5.heap.size + 1, 0, none⟩ = some (.map (some bB)) := by
  have h := heap_two w5 (.cells #[.map (some bA)] 61) (.cells #[.map (some bB)] 61)
  rw [hw6] at h
  rw [World.cell?, h]
  rfl
 have f35 := f4.then7 f5
 have f36 := f35.then7 F6
 have l4 := f4.size
 have l5 := f5.size
 have hs3 := HS3.out
 have hE : Env12 w w6 w2.heap.size (w2.heap.size + 1) w5.heap.size (w5.heap.size + 1) bA bB n m TA TB :=
  ⟨H3.out.2.then7 f36, hs3.2, f36.at H3.out.1.1 (fun e => e), f36.keepCell H3.out.1.2 (fun e => e), h61, h62, (tA.kept f5).kept F6, tB.kept F6, sA, sB, ⟨by omega, by omega, by omega, by omega, by omega⟩, ht⟩
 have HE := Zz hE
 have HN := Zz (show w3.heap.size = w2.heap.size + 2 ∧ w.heap.size ≤ w2.heap.size ∧ w3.heap.size ≤ w5.heap.size ∧ w6.heap.size = w5.heap.size + 2 from ⟨hs3.1, hs3.2, by omega, hs6⟩)
 have HEA := Zz (eA.trans (puts_self12 ((treeR a).1 ra).strict))
 have cB := backE_any va n c w6
 clear h61 h62 f35 f36 l4 l5 hs3 hE F6 f4 f5 tA tB sA sB lA lB FW4 H3 HS3 HOA HOB f1 f2 F2 hwz z1 z2 hw3 hs6 eA ht
 gi_wp2_with fail
 refine ⟨trivial, (callsIn_wide.2 cB).mono ?_⟩
 rintro e w7 ⟨rfl, hw7⟩
 clear cB hw6
 gi_wp2_with fail
 obtain ⟨Ua, hU1, hU2, hU3⟩ := ha.units
 have hsl : ∀ u ∈ Ua, ∃ a n c, u = .slice a n c := fun u hu => by
  obtain ⟨j, hj, rfl⟩ := List.getElem_of_mem hu
  obtain ⟨p1, c1, e1, _⟩ := hU3 j (a[j]'(by omega)) Ua[j] (List.getElem?_eq_getElem (by omega)) (List.getElem?_eq_getElem hj)
  exact ⟨_, _, _, e1⟩
 have F7 : Fr None' w6 w7 := hw7 ▸ Fr.alloc None' w6 _
 have hs7 : w7.heap.size = w6.heap.size + 1 := by rw [hw7]; simp
 have h7i : w7.cell? ⟨w6.heap.size, 0, none⟩ = some (.slice va n c) := by rw [hw7, World.cell?, heap_alloc_new]; rfl
 have hva : a ≠ [] → ∀ x, va = some x → x.block < w.heap.size := fun hne x e => by
  cases a with
  | nil => exact absurd rfl hne
  | cons z L =>
   obtain ⟨g, o, e', _, hc, _⟩ := ha 0 z rfl
   rw [e'] at e
   cases e
   exact Zq hc
 have hG0 : GatAt w6 w2.heap.size w6.heap.size [] w7 := (GatAt.start (ib := w2.heap.size + 1) HE.out.b0 (by omega) (by have := HN.out; omega)).turn F7 (by omega)
 rw [← hw7]
 refine range_box (α := Nat × Value) rfl (by omega) (gf := 67) (lb := #[.pointer (some ⟨w6.heap.size, 0, none⟩)]) rfl trivial (enters_of Tryz.func67 (by kernel_rfl) rfl) (backE_seq w6.heap.size _ c va a Ua n (fun k => k = w6.heap.size ∨ k < w.heap.size) (Or.inl rfl) (fun hne x e => Or.inr (hva hne x e)) hU1 hl (by omega) hsl)
  (fun k hk => hk.elim) (fun W hB => ⟨(ofBelow hB).keepCell h7i (fun e => e), hU2.kept ((HE.out.fr.then7 F7).then7 (ofBelow hB))⟩) (fun h1 h2 => h1.trans h2) (fun W l o' hl' => Zh.put W (fun k hk => by
   have := HN.out
   rcases hk with rfl | hk
   ·omega
   ·omega) o') (fun _ => rfl)
  (I1 w6 w2.heap.size w6.heap.size a b Ua) (fun _ _ _ => False) (fun pre A B h f => by
   obtain ⟨t, h1, h2, h3⟩ := h
   exact ⟨t, h1, h2, h3.abide (by omega) f⟩) (fun _ _ _ _ h _ => h) ⟨0, Nat.zero_le _, rfl, hG0⟩
  (BoxOfE (fun p x => { tmps := #[.slice va n c, .slice vb m d, undef, undef, .slice none 0 0, .int .i64 0, .pointer (some ⟨w2.heap.size, 0, none⟩), .pointer (some ⟨w2.heap.size + 1, 0, none⟩), .pointer (some ⟨w5.heap.size, 0, none⟩), .pointer (some ⟨w5.heap.size + 1, 0, none⟩), undef, .pointer (some ⟨p, 0, none⟩), undef, undef, undef, undef, undef, .slice va n c, .bool true, .bool false, .bool false, .slice vb m d, .bool true, .bool false, .bool false, .func (.func 37) #[] #[.pointer (some ⟨w2.heap.size, 0, none⟩)], .slice va n c, .map (some bA), .slice vb m d, .map (some bB), .slice va n c, .func (.func 67) #[] #[.pointer (some ⟨w6.heap.size, 0, none⟩)], .int .i64 x.1, x.2, undef, undef, undef, undef, undef, undef, undef, undef, undef, undef, undef, undef, undef, undef, undef, undef, undef, undef, undef, undef, undef, undef, undef, undef, undef, undef, undef, undef, undef, undef, undef, undef, undef, undef, undef, undef, undef, undef, undef, undef, undef, undef, undef, undef, undef, undef, undef, undef, undef, undef, undef, undef, undef, undef], defers := [] }))
  (fun A B f => Zh.of f (fun _ _ e => e)) (fun x a' A B h f => ?keep) ?assign ?body ?done ?stop
 case keep =>
  obtain ⟨p, y0, y1, y2, y3, h1, h2, h3⟩ := h
  exact ⟨p, y0, y1, y2, y3, h1, h2, f.at h3 (fun e => e _ _ _ h3)⟩
 case assign =>
  rintro l pre x W K ⟨m', hm', hp⟩ hK
  obtain ⟨t, rfl, hpre, rfl⟩ := uptoB_snoc hp
  obtain ⟨k, hk⟩ : ∃ k, t + k + 1 = a.length := ⟨a.length - 1 - t, by omega⟩
  have hkL : k < a.length := by omega
  have hel := elB_get (L := aggE a Ua) (t := t) (k := k) (by rw [Yr hU1]; exact hk)
  rw [aggE_get hU1 hkL] at hel
  obtain ⟨pa, na, ca, hua⟩ := hsl (Ua[k]'(by omega)) (List.getElem_mem _)
  rw [hua] at hel
  rw [hel] at hK ⊢
  generalize a[k] = x at hK ⊢
  obtain ⟨xP, xK, xL, xD⟩ := x
  simp only at hK ⊢
  clear hel hua hp hG0 ha hb hU2 hU3 hsl hva ra rb wa wb sa sb
  gi_wp2_with fail
  exact hK _ _ (Fr.alloc _ _ _) ⟨W.heap.size, _, _, _, _, rfl, rfl, heap_alloc_new W _⟩
 case stop => exact fun D c pre W _ h => h.elim
 case done =>
  rintro D xs W hxs ⟨t, ht, hpre, G⟩ hK hD
  have htn : n = t := by
   have := congrArg List.length (hpre.symm.trans hxs)
   rw [Zd, Zd] at this
   exact this.symm
  subst htn
  rw [List.take_of_length_le (by rw [List.length_reverse]; omega)] at G
  have cV := valuesE_any vb m d W
  obtain ⟨Ub, hV1, hV2, hV3⟩ := hb.units
  have hvl : ∀ u ∈ Ub, ∃ a n c, u = .slice a n c := fun u hu => by
   obtain ⟨j, hj, rfl⟩ := List.getElem_of_mem hu
   obtain ⟨p1, c1, e1, _⟩ := hV3 j (b[j]'(by omega)) Ub[j] (List.getElem?_eq_getElem (by omega)) (List.getElem?_eq_getElem hj)
   exact ⟨_, _, _, e1⟩
  have hvb : b ≠ [] → ∀ x, vb = some x → x.block < w.heap.size := fun hne x e => by
   cases b with
   | nil => exact absurd rfl hne
   | cons z L =>
    obtain ⟨g, o, e', _, hc, _⟩ := hb 0 z rfl
    rw [e'] at e
    cases e
    exact Zq hc
  clear hxs hpre hsl hU2 hU3 hva ha
  gi_wp2_with fail
  refine ⟨trivial, (callsIn_wide.2 cV).mono ?_⟩
  rintro e w8 ⟨rfl, hw8⟩
  clear cV
  have F8 : Fr None' W w8 := hw8 ▸ Fr.alloc None' W _
  have hs8 : w8.heap.size = W.heap.size + 1 := by rw [hw8]; simp
  have h8i : w8.cell? ⟨W.heap.size, 0, none⟩ = some (.slice vb m d) := by rw [hw8, World.cell?, heap_alloc_new]; rfl
  have G8 := G.turn F8 (by omega)
  have hFW := (HE.out.at G).1
  have hsW := hFW.size
  have hDl : D < W.heap.size := (Array.getElem?_eq_some_iff.1 hK).1
  have hK8 : w8.heap[D]? = some (.deferred (some [])) := F8.at hK (fun e => e)
  have hG6 := G.fr.size
  gi_wp2_with fail
  rw [← hw8]
  refine range_box (α := Value) rfl (by omega) (gf := 69) (lb := #[.pointer (some ⟨W.heap.size, 0, none⟩)]) rfl trivial (enters_of Tryz.func69 (by kernel_rfl) rfl) (valuesE_seq W.heap.size _ d vb b Ub m (fun k => k = W.heap.size ∨ k < w.heap.size) (fun hne x e => Or.inr (hvb hne x e)) hV1 hm (by omega) hvl)
   (fun k hk => hk.elim) (fun Wq hB => ⟨(ofBelow hB).keepCell h8i (fun e => e), hV2.kept ((hFW.then7 F8).then7 (ofBelow hB))⟩) (fun h1 h2 => h1.trans h2) (fun Wq l o' hl' => Zh.put Wq (fun k hk => by
    rcases hk with rfl | hk
    ·omega
    ·omega) o') (fun _ => rfl)
   (I2 w6 w2.heap.size W.heap.size D a b Ub) (fun _ _ _ => False) (fun pre A B h f => by
    obtain ⟨t, h1, h2, h3, h4⟩ := h
    exact ⟨t, h1, h2, h3.abide (by omega) f, f.at h4 (fun e => e.elim (fun e => e) (fun e => by omega))⟩) (fun _ _ _ _ h _ => h) ⟨0, Nat.zero_le _, rfl, by simpa using G8, hK8⟩
   (BoxOfV (fun p x => { tmps := #[.slice va n c, .slice vb m d, undef, undef, .slice none 0 0, .int .i64 0, .pointer (some ⟨w2.heap.size, 0, none⟩), .pointer (some ⟨w2.heap.size + 1, 0, none⟩), .pointer (some ⟨w5.heap.size, 0, none⟩), .pointer (some ⟨w5.heap.size + 1, 0, none⟩), undef, undef, undef, undef, .pointer (some ⟨p, 0, none⟩), undef, undef, .slice va n c, .bool true, .bool false, .bool false, .slice vb m d, .bool true, .bool false, .bool false, .func (.func 37) #[] #[.pointer (some ⟨w2.heap.size, 0, none⟩)], .slice va n c, .map (some bA), .slice vb m d, .map (some bB), .slice va n c, .func (.func 67) #[] #[.pointer (some ⟨w6.heap.size, 0, none⟩)], undef, undef, undef, undef, undef, undef, undef, undef, undef, undef, undef, undef, undef, undef, undef, undef, undef, undef, undef, undef, undef, undef, undef, undef, undef, undef, undef, .slice vb m d, .func (.func 69) #[] #[.pointer (some ⟨W.heap.size, 0, none⟩)], x, undef, undef, undef, undef, undef, undef, undef, undef, undef, undef, undef, undef, undef, undef, undef, undef, undef, undef, undef, undef, undef, undef, undef, undef, undef, undef], defers := [] }))
   (fun A B f => Zh.of f (fun _ _ e => e)) (fun x a' A B h f => ?keep2) ?assign2 ?body2 ?done2 ?stop2
  case keep2 =>
   obtain ⟨p, y0, y1, y2, y3, h1, h2, h3⟩ := h
   exact ⟨p, y0, y1, y2, y3, h1, h2, f.at h3 (fun e => e _ _ _ h3)⟩
  case assign2 =>
   rintro l pre x Wq K ⟨m', hm', hp⟩ hK'
   obtain ⟨k, rfl, hpre, hx⟩ := take_snoc (by rw [Yr hV1]; omega) hp
   have hkA : k < (aggE b Ub).length := by rw [Yr hV1]; omega
   have hkL : k < b.length := by omega
   rw [List.getElem?_eq_getElem hkA, aggE_get hV1 hkL] at hx
   obtain ⟨pa, na, ca, hua⟩ := hvl (Ub[k]'(by omega)) (List.getElem_mem _)
   rw [hua] at hx
   have hx := Option.some.inj hx
   rw [← hx] at hK' ⊢
   generalize b[k] = x at hK' ⊢
   obtain ⟨xP, xK, xL, xD⟩ := x
   simp only at hK' ⊢
   clear hua hp hx G8 hb hV2 hV3 hvl hvb ra rb wa wb sa sb G hK hK8
   gi_wp2_with fail
   exact hK' _ _ (Fr.alloc _ _ _) ⟨Wq.heap.size, _, _, _, _, rfl, rfl, heap_alloc_new Wq _⟩
  case stop2 => exact fun D c pre W _ h => h.elim
  case done2 =>
   rintro D2 xs W2 hxs ⟨t, ht, hpre, G2, hK1⟩ hK2 hD2
   have htm : m = t := by
    have h := congrArg List.length (hpre.symm.trans hxs)
    rw [List.length_take, Yr hV1] at h
    omega
   subst htm
   rw [List.take_of_length_le (by omega)] at G2
   obtain ⟨v, V, r1, r2, r3, r4⟩ := G2.row
   have c1 : W2.cell? ⟨w2.heap.size, 0, none⟩ = some v := by rw [World.cell?, r1]; rfl
   obtain ⟨pv, nv, cv, rfl⟩ : ∃ p n c, v = .slice p n c := let ⟨p, c, e, _⟩ := r2.slice; ⟨p, _, c, e⟩
   have hDD : ¬ D = D2 := by omega
   have f1 : Fr (fun k => None' k ∨ (w8.heap.size ≤ k ∧ Za W2 k)) W2 (W2.putObj D2 (.deferred none)) := Fr.putObj _ (Or.inr ⟨hD2, fun c t f e => by rw [hK2] at e; cases e⟩) _
   have hK3 : (W2.putObj D2 (.deferred none)).heap[D]? = some (.deferred (some [])) := (World.putObj_heap_other hDD).trans hK1
   have f2 : Fr (fun k => None' k ∨ (w7.heap.size ≤ k ∧ Za (W2.putObj D2 (.deferred none)) k)) (W2.putObj D2 (.deferred none)) ((W2.putObj D2 (.deferred none)).putObj D (.deferred none)) := Fr.putObj _ (Or.inr ⟨hD, fun c t f e => by rw [hK3] at e; cases e⟩) _
   have O5 := (r2.abide f1).abide f2
   have hle := G2.fr.size
   have hN := HN.out
   have fE := (((HE.out.at G2).1.trans f1 (fun i e => e.elim (fun e => e.elim) (fun e => Or.inr (by omega)))).trans f2 (fun i e => e.elim (fun e => e.elim) (fun e => Or.inr (by omega))) : Fr None' w _)
   have HR := Zz (show Zk w.heap.size _ (.slice pv nv cv) (recL a b) V ∧ (∀ u ∈ V, ∀ k, (u.1.ownBlock = some k ∨ u.2.ownBlock = some k) → w.heap.size ≤ k) ∧ Fr None' w _ from ⟨O5.weaken (by omega), fun u hu k e => Nat.le_trans (by omega) (r4 u hu k e), fE⟩)
   clear hxs hpre hvl hV2 hV3 hvb hb G8 G hK hK8 hV1 O5 fE r1 r2 r3 r4 f1 f2
   gi_wp2_with fail
   refine ⟨by simp, .inl ⟨_, _, rfl, run_takeDeferred hK2, ?_⟩⟩
   refine ⟨by simp, .inl ⟨_, _, rfl, run_takeDeferred hK3, ?_⟩⟩
   exact ⟨_, results_tmp2 (show Tryz.f19.results = #[.tmp 4, .tmp 5] from rfl) _ _ _, _, V, rfl, HR.out⟩
  case body2 =>
   rintro l pre x a' W' ⟨t', ht', hpre', G', hKD⟩ ⟨m', hm', hp⟩ ⟨p, y0, y1, y2, y3, rfl, rfl, hB⟩ hl'
   obtain ⟨k, rfl, hpre, hx⟩ := take_snoc (by rw [Yr hV1]; omega) hp
   have htt : t' = k := by
    have h := congrArg List.length (hpre'.symm.trans hpre)
    rw [List.length_take, List.length_take, Yr hV1] at h
    omega
   subst htt
   have hkA : t' < (aggE b Ub).length := by rw [Yr hV1]; omega
   have hkL : t' < b.length := by omega
   rw [List.getElem?_eq_getElem hkA, aggE_get hV1 hkL] at hx
   obtain ⟨pa, na, ca, hua⟩ := hvl (Ub[t']'(by omega)) (List.getElem_mem _)
   have sx := hV3 t' b[t'] (Ub[t']'(by omega)) (List.getElem?_eq_getElem hkL) (List.getElem?_eq_getElem (by omega))
   rw [hua] at hx sx
   have hx := Option.some.inj hx
   simp only [Value.agg.injEq, Array.mk.injEq, List.cons.injEq, and_true] at hx
   obtain ⟨rfl, rfl, rfl, rfl⟩ := hx
   have hstep := come_step a hkL
   have HLn := Zz (show (a.reverse.flatMap (goL b)).length + ((b.take (t' + 1)).flatMap (comeL a)).length ≤ 20000 from by
    have h1 := take_flat b (comeL a) (t' + 1)
    have h2 := (rec_count ((treeR a).1 ra) ((treeR b).1 rb) wa wb).1
    unfold recL at h2
    rw [List.length_append] at h2
    omega)
   obtain ⟨fw, cg, ch, ci, tA, tB, tb⟩ := HE.out.at G'
   have q5 := like12_any bA n TA b[t'] pa na ca W' tA (by have := (en_sm wb (List.getElem_mem hkL)).1; omega)
   rw [HEA.out] at q5
   obtain ⟨b0, b1, b2, b3, _⟩ := Zo hB
   have HG := Zz G'
   have HSt := Zz hstep
   have HM := Zz hm'
   have HSX0 := Zz sx
   have HTb := Zz tb
   have HB := Zz hB
   have HX := Zz (List.getElem_mem hkL)
   have hG : ∀ W'', GatPost w6 w2.heap.size W.heap.size (a.reverse.flatMap (goL b) ++ (b.take (t' + 1)).flatMap (comeL a)) W' W'' → KeepsOthers W' W'' ∧ Zh (fun k => k = W.heap.size ∨ k < w.heap.size) W' W'' ∧ I2 w6 w2.heap.size W.heap.size D a b Ub (pre ++ [.agg #[.string b[t'].path, .int .i64 b[t'].kind, .slice pa na ca, .string b[t'].data]]) W'' := fun W'' h => ⟨h.oth, HG.out.keepB h.at' h.oth.size h.ibk (by have := HN.out; omega), t' + 1, by omega, hp, h.at', h.oth.same D _ hKD rfl⟩
   have HGo := Zz hG
   have hD12 := hD0
   clear hstep hpre hpre' hp hua sx tA tB tb hB fw G' hm' hG hvl hV3 hV2 hvb hb ci hG0 G8 hKD
   generalize b[t'] = x' at *
   obtain ⟨xP, xK, xL, xD⟩ := x'
   simp only at *
   obtain ⟨kn, hkn, hk3⟩ : ∃ kn : Nat, xK = (kn : Int) ∧ (kn = 1 ∨ kn = 2 ∨ kn = 3) := by
    have h := kind_ways ((treeR b).1 rb) HX.out
    simp only at h
    exact ⟨xK.toNat, by omega, by omega⟩
   subst hkn
   obtain ⟨_, _, esx, _⟩ := HSX0.out
   simp only [Value.slice.injEq] at esx
   obtain ⟨-, esx, -⟩ := esx
   subst esx
   gi_wp2_with fail
   refine ⟨trivial, (CallsIn.inRound l (callsIn_wide.2 q5)).mono ?_⟩
   rintro e W5 ⟨f5, hlk⟩
   clear q5
   cases hll : likeE a ⟨xP, kn, xL, xD⟩ with
   | some y =>
    rw [hll] at hlk
    obtain ⟨vl, rfl, sy⟩ := hlk
    obtain ⟨py, cy, rfl⟩ := sy.is
    have hy := (like_some hll).1
    have HC := Zz (show comeL a ⟨xP, kn, xL, xD⟩ = chgL xP y ⟨xP, kn, xL, xD⟩ from by unfold comeL; rw [hll])
    have HLc := Zz (show (a.reverse.flatMap (goL b) ++ (b.take t').flatMap (comeL a)).length + (chgL xP y ⟨xP, kn, xL, xD⟩).length ≤ 90000 from by
     have h := HLn.out
     rw [HSt.out, HC.out] at h
     simp only [List.length_append] at h ⊢
     omega)
    obtain ⟨W9, hW9⟩ : ∃ W9, W5.alloc (.cells #[.string y.path, .int .i64 y.kind, .slice py y.lines.length cy, .string y.data] 45) = W9 := ⟨_, rfl⟩
    have F59 : Fr None' W5 W9 := hW9 ▸ Fr.alloc None' W5 _
    have F9 := f5.then7 F59
    have HF9 := Zz F9
    have HG9 := Zz (HG.out.kept F9)
    have HE9 := Zz (HE.out.at HG9.out)
    have HB9 := Zz (F9.at HB.out (fun e => e))
    have HQ9 := Zz (show W9.heap[W5.heap.size]? = some (.cells #[.string y.path, .int .i64 y.kind, .slice py y.lines.length cy, .string y.data] 45 (0, 0)) from hW9 ▸ heap_alloc_new W5 _)
    have HCh := Zz (show ∀ w', Fr None' W9 w' → Calls Tryz.prog 41 #[.string xP, .agg #[.string y.path, .int .i64 y.kind, .slice py y.lines.length cy, .string y.data], .agg #[.string xP, .int .i64 kn, .slice pa xL.length ca, .string xD]] w' (fun e w'' => ∃ v V, e = .returned v ∧ ChgAt w'.heap.size w' w'' v (chgL xP y ⟨xP, kn, xL, xD⟩) V) from fun w' f => changes12_any hD12 xP y ⟨xP, kn, xL, xD⟩ (.slice py y.lines.length cy) (.slice pa xL.length ca) w' ((sy.kept F59).kept f) ((HSX0.out.kept HE9.out.1).kept f) (en_sm wa hy).2.1 (en_sm wb HX.out).2.1 (fun z hz => by have := (en_sm wa hy).2.2.2 z hz; unfold maxLen; omega) (fun z hz => by have := (en_sm wb HX.out).2.2.2 z hz; unfold maxLen; omega))
    have HW9 := Zz hW9
    clear b0 b1 b2 b3 cg ch hW9 sy F59 F9 f5 hll hy
    gi_wp2_with fail
    rw [HW9.out]
    refine region_inv (by kernel_rfl) (by decide +kernel) (InvC (fun t0 t1 t2 t3 t4 t5 t6 => #[.slice va n c, .slice vb m d, undef, undef, .slice none 0 0, .int .i64 0, .pointer (some ⟨w2.heap.size, 0, none⟩), .pointer (some ⟨w2.heap.size + 1, 0, none⟩), .pointer (some ⟨w5.heap.size, 0, none⟩), .pointer (some ⟨w5.heap.size + 1, 0, none⟩), undef, undef, undef, undef, .pointer (some ⟨p, 0, none⟩), .pointer (some ⟨W5.heap.size, 0, none⟩), .bool true, .slice va n c, .bool true, .bool false, .bool false, .slice vb m d, .bool true, .bool false, .bool false, .func (.func 37) #[] #[.pointer (some ⟨w2.heap.size, 0, none⟩)], .slice va n c, .map (some bA), .slice vb m d, .map (some bB), .slice va n c, .func (.func 67) #[] #[.pointer (some ⟨w6.heap.size, 0, none⟩)], undef, undef, undef, undef, undef, undef, undef, undef, undef, undef, undef, undef, undef, undef, undef, undef, undef, undef, undef, undef, undef, undef, undef, undef, undef, undef, undef, .slice vb m d, .func (.func 69) #[] #[.pointer (some ⟨W.heap.size, 0, none⟩)], .agg #[.string xP, .int .i64 kn, .slice pa xL.length ca, .string xD], .tuple #[.agg #[.string y.path, .int .i64 y.kind, .slice py y.lines.length cy, .string y.data], .bool true], .map (some bA), .agg #[.string xP, .int .i64 kn, .slice pa xL.length ca, .string xD], .tuple #[.agg #[.string y.path, .int .i64 y.kind, .slice py y.lines.length cy, .string y.data], .bool true], .agg #[.string y.path, .int .i64 y.kind, .slice py y.lines.length cy, .string y.data], .bool true, .bool true, .bool false, undef, undef, undef, undef, undef, undef, undef, undef, undef, undef, t0, t1, t2, t3, t4, t5, t6, undef]) W9 (.func (.func 37) #[] #[.pointer (some ⟨w2.heap.size, 0, none⟩)]) (.pointer (some ⟨p, 0, none⟩)) (.string xP) (.agg #[.string y.path, .int .i64 y.kind, .slice py y.lines.length cy, .string y.data]) (.agg #[.string xP, .int .i64 kn, .slice pa xL.length ca, .string xD]) w6 w2.heap.size W.heap.size (a.reverse.flatMap (goL b) ++ (b.take t').flatMap (comeL a)) (chgL xP y ⟨xP, kn, xL, xD⟩)) ?h07 ?step7 ?fin7
    case h07 => exact ⟨undef, undef, undef, undef, undef, undef, undef, rfl, (fun h => by cases h), (fun h => by cases h), (fun h => by cases h), (fun h => by cases h), (fun h => by cases h), (fun h => by cases h), (fun h => by cases h), (fun _ => Fr.drew None' W9), (fun _ h => by cases h), (fun h => by cases h)⟩
    case step7 =>
     rintro S a w' ⟨t0, t1, t2, t3, t4, t5, t6, rfl, o0, o1, o2, o3, o4, o5, o6, oW, oC, oG⟩
     refine Zn.cons (fun h0 hd => ?s07) (Zn.cons (fun h0 hd => ?s17) (Zn.cons (fun h0 hd => ?s27) (Zn.cons (fun h0 hd => ?s37) (Zn.cons (fun h0 hd => ?s47) (Zn.cons (fun h0 hd => ?s57) (Zn.cons (fun h0 hd => ?s67) Zn.nil))))))
     case s07 =>
      have h6 : S 6 = false := by
       cases h : S 6 with
       | false => rfl
       | true => exact absurd (o6 h).1 (by rw [h0]; decide)
      have c0 := (oW h6).keepCell HE9.out.2.1 (fun e => e)
      clear hd
      go_simp
      exact ⟨.func (.func 37) #[] #[.pointer (some ⟨w2.heap.size, 0, none⟩)], t1, t2, t3, t4, t5, t6, rfl, (fun _ => rfl), o1, o2, o3, o4, o5, (fun h => ⟨rfl, (o6 h).2⟩), oW, oC, oG⟩
     case s17 =>
      clear hd
      go_simp
      exact ⟨t0, .pointer (some ⟨p, 0, none⟩), t2, t3, t4, t5, t6, rfl, o0, (fun _ => rfl), (fun h => ⟨(o2 h).1, rfl⟩), o3, o4, o5, o6, oW, oC, oG⟩
     case s27 =>
      have h6 : S 6 = false := by
       cases h : S 6 with
       | false => rfl
       | true => exact absurd (o5 (o6 h).2).1 (by rw [h0]; decide)
      have k1 : S 1 = true := hd { on := 1, ground := .data } (by simp) rfl
      obtain rfl := o1 k1
      obtain ⟨c0, _⟩ := Zo ((oW h6).at HB9.out (fun e => e))
      have K1 := Zz k1
      clear hd k1
      go_simp
      exact ⟨t0, .pointer (some ⟨p, 0, none⟩), .string xP, t3, t4, t5, t6, rfl, o0, o1, (fun _ => ⟨rfl, K1.out⟩), o3, o4, (fun h => ⟨rfl, (o5 h).2⟩), o6, oW, oC, oG⟩
     case s37 =>
      have h6 : S 6 = false := by
       cases h : S 6 with
       | false => rfl
       | true => exact absurd (o5 (o6 h).2).2.1 (by rw [h0]; decide)
      obtain ⟨c0, c1, c2, c3, _⟩ := Zo ((oW h6).at HQ9.out (fun e => e))
      clear hd
      go_simp
      exact ⟨t0, t1, t2, .agg #[.string y.path, .int .i64 y.kind, .slice py y.lines.length cy, .string y.data], t4, t5, t6, rfl, o0, o1, o2, (fun _ => rfl), o4, (fun h => ⟨(o5 h).1, rfl, (o5 h).2.2⟩), o6, oW, oC, oG⟩
     case s47 =>
      have h6 : S 6 = false := by
       cases h : S 6 with
       | false => rfl
       | true => exact absurd (o5 (o6 h).2).2.2 (by rw [h0]; decide)
      obtain ⟨c0, c1, c2, c3, _⟩ := Zo ((oW h6).at HB9.out (fun e => e))
      clear hd
      go_simp
      exact ⟨t0, t1, t2, t3, .agg #[.string xP, .int .i64 kn, .slice pa xL.length ca, .string xD], t5, t6, rfl, o0, o1, o2, o3, (fun _ => rfl), (fun h => ⟨(o5 h).1, (o5 h).2.1, rfl⟩), o6, oW, oC, oG⟩
     case s57 =>
      have h6 : S 6 = false := by
       cases h : S 6 with
       | false => rfl
       | true => exact absurd (o6 h).2 (by rw [h0]; decide)
      have k2 : S 2 = true := hd { on := 2, ground := .data } (by simp) rfl
      have k3 : S 3 = true := hd { on := 3, ground := .data } (by simp) rfl
      have k4 : S 4 = true := hd { on := 4, ground := .data } (by simp) rfl
      obtain ⟨rfl, -⟩ := o2 k2
      obtain rfl := o3 k3
      obtain rfl := o4 k4
      clear hd
      have K2 := Zz k2
      have K3 := Zz k3
      have K4 := Zz k4
      clear k2 k3 k4
      go_simp
      refine ⟨trivial, (CallsIn.inRound l (callsIn_wide.2 (HCh.out w' (oW h6)))).mono ?_⟩
      rintro e w'' ⟨v', V', rfl, hA⟩
      exact ⟨t0, t1, .string xP, .agg #[.string y.path, .int .i64 y.kind, .slice py y.lines.length cy, .string y.data], .agg #[.string xP, .int .i64 kn, .slice pa xL.length ca, .string xD], v', t6, rfl, o0, o1, o2, o3, o4, (fun _ => ⟨K2.out, K3.out, K4.out⟩), (fun h => absurd h (by show ¬ S 6 = true; rw [h6]; decide)), (fun _ => (oW h6).then7 hA.fr), (fun _ _ => ⟨w', V', (oW h6).size, hA⟩), (fun h => absurd h (by show ¬ S 6 = true; rw [h6]; decide))⟩
     case s67 =>
      have k0 : S 0 = true := hd { on := 0, ground := .data } (by simp) rfl
      have k5 : S 5 = true := hd { on := 5, ground := .data } (by simp) rfl
      obtain rfl := o0 k0
      obtain ⟨w5', V', hle, hA⟩ := oC h0 k5
      clear hd
      have K0 := Zz k0
      have K5 := Zz k5
      clear k0 k5
      go_simp
      refine ⟨trivial, (CallsIn.inRound l (callsIn_wide.2 (gather12_any HG9.out (oW h0) hA.own (fun u hu j e => Nat.le_trans hle (hA.new u hu j e)) HLc.out))).mono ?_⟩
      rintro e w'' ⟨rfl, hP⟩
      exact ⟨.func (.func 37) #[] #[.pointer (some ⟨w2.heap.size, 0, none⟩)], t1, t2, t3, t4, t5, .tuple #[], rfl, o0, o1, o2, o3, o4, o5, (fun _ => ⟨K0.out, K5.out⟩), (fun h => by cases h), (fun h => by cases h), (fun _ => hP)⟩
    case fin7 =>
     rintro S a w' ⟨t0, t1, t2, t3, t4, t5, t6, rfl, o0, o1, o2, o3, o4, o5, o6, oW, oC, oG⟩ hall
     have hP := oG (hall 6 (by simp))
     clear o0 o1 o2 o3 o4 o5 o6 oW oC oG hall
     have HF := Zz (HGo.out w' (by
      rw [HSt.out, HC.out, ← List.append_assoc]
      exact (HG.out.none' HF9.out).trans hP))
     clear hP HGo HSt HC
     gi_wp2_with fail
     exact HF.out
   | none =>
    rw [hll] at hlk
    subst hlk
    have HC := Zz (show comeL a ⟨xP, kn, xL, xD⟩ = [pathP (2 * (kn : Int) - 1) xP] ++ chgL xP Yp ⟨xP, kn, xL, xD⟩ from by unfold comeL; rw [hll]; rfl)
    have HLc := Zz (show (a.reverse.flatMap (goL b) ++ (b.take t').flatMap (comeL a)).length + [pathP (2 * (kn : Int) - 1) xP].length ≤ 90000 ∧ (a.reverse.flatMap (goL b) ++ (b.take t').flatMap (comeL a) ++ [pathP (2 * (kn : Int) - 1) xP]).length + (chgL xP Yp ⟨xP, kn, xL, xD⟩).length ≤ 90000 from by
     have h := HLn.out
     rw [HSt.out, HC.out] at h
     simp only [List.length_append, List.length_cons, List.length_nil] at h ⊢
     omega)
    obtain ⟨W9, hW9⟩ : ∃ W9, W5.alloc (.cells #[.string ⟨#[]⟩, .int .i64 0, .slice none 0 0, .string ⟨#[]⟩] 45) = W9 := ⟨_, rfl⟩
    have F9 : Fr None' W' W9 := f5.then7 (hW9 ▸ Fr.alloc None' W5 _)
    have HF9 := Zz F9
    have HG9 := Zz (HG.out.kept F9)
    have HE9 := Zz (HE.out.at HG9.out)
    have HB9 := Zz (F9.at HB.out (fun e => e))
    have HQ9 := Zz (show W9.heap[W5.heap.size]? = some (.cells #[.string ⟨#[]⟩, .int .i64 0, .slice none 0 0, .string ⟨#[]⟩] 45 (0, 0)) from hW9 ▸ heap_alloc_new W5 _)
    obtain ⟨_, hT⟩ := HE9.out.2.2.2.2.2.2 kn hk3
    have HT9 := Zz hT
    have i5 : (0 : Int) ≤ (kn : Int) := by omega
    have i6 : (kn : Int) < 4 := by omega
    have HW9 := Zz hW9
    clear b0 b1 b2 b3 cg ch hW9 F9 f5 hll hT
    gi_wp2_with fail
    rw [HW9.out]
    refine region_inv (by kernel_rfl) (by decide +kernel) (InvA (fun r0 r1 r2 r3 r4 r5 r6 r7 r8 r9 => #[.slice va n c, .slice vb m d, undef, undef, .slice none 0 0, .int .i64 0, .pointer (some ⟨w2.heap.size, 0, none⟩), .pointer (some ⟨w2.heap.size + 1, 0, none⟩), .pointer (some ⟨w5.heap.size, 0, none⟩), .pointer (some ⟨w5.heap.size + 1, 0, none⟩), undef, undef, undef, undef, .pointer (some ⟨p, 0, none⟩), .pointer (some ⟨W5.heap.size, 0, none⟩), .bool false, .slice va n c, .bool true, .bool false, .bool false, .slice vb m d, .bool true, .bool false, .bool false, .func (.func 37) #[] #[.pointer (some ⟨w2.heap.size, 0, none⟩)], .slice va n c, .map (some bA), .slice vb m d, .map (some bB), .slice va n c, .func (.func 67) #[] #[.pointer (some ⟨w6.heap.size, 0, none⟩)], undef, undef, undef, undef, undef, undef, undef, undef, undef, undef, undef, undef, undef, undef, undef, undef, undef, undef, undef, undef, undef, undef, undef, undef, undef, undef, undef, .slice vb m d, .func (.func 69) #[] #[.pointer (some ⟨W.heap.size, 0, none⟩)], .agg #[.string xP, .int .i64 kn, .slice pa xL.length ca, .string xD], .tuple #[.agg #[.string ⟨#[]⟩, .int .i64 0, .slice none 0 0, .string ⟨#[]⟩], .bool false], .map (some bA), .agg #[.string xP, .int .i64 kn, .slice pa xL.length ca, .string xD], .tuple #[.agg #[.string ⟨#[]⟩, .int .i64 0, .slice none 0 0, .string ⟨#[]⟩], .bool false], .agg #[.string ⟨#[]⟩, .int .i64 0, .slice none 0 0, .string ⟨#[]⟩], .bool false, .bool false, .bool true, r0, r1, r2, r3, r4, r5, r6, r7, r8, r9, undef, undef, undef, undef, undef, undef, undef, undef]) W9 (.func (.func 37) #[] #[.pointer (some ⟨w2.heap.size, 0, none⟩)]) (.pointer (some ⟨p, 1, none⟩)) (.int .i64 kn) (.pointer (some ⟨1, kn, none⟩)) (.int .i64 (2 * (kn : Int) - 1)) (.pointer (some ⟨p, 0, none⟩)) (.string xP) w6 w2.heap.size W.heap.size (a.reverse.flatMap (goL b) ++ (b.take t').flatMap (comeL a)) (pathP (2 * (kn : Int) - 1) xP)) ?h09 ?step9 ?fin9
    case h09 => exact ⟨undef, undef, undef, undef, undef, undef, undef, undef, undef, undef, rfl, (fun h => by cases h), (fun h => by cases h), (fun h => by cases h), (fun h => by cases h), (fun h => by cases h), (fun h => by cases h), (fun h => by cases h), (fun h => by cases h), (fun h => by cases h), (fun h => by cases h), (fun _ => Fr.drew None' W9), (fun _ h => by cases h), (fun h => by cases h)⟩
    case step9 =>
     rintro S a w'' ⟨r0, r1, r2, r3, r4, r5, r6, r7, r8, r9, rfl, o0, o1, o2, o3, o4, o5, o6, o7, o8, o9, oW, oB, oG⟩
     have no9 : ∀ i, i < 9 → S i = false → S 9 = false := fun i hi h0 => by
      cases h : S 9 with
      | false => rfl
      | true =>
       exfalso
       obtain ⟨z0, z8⟩ := o9 h
       have z7 := o8 z8
       obtain ⟨_, z4, z6⟩ := o7 z7
       have z3 := (o4 z4).2
       have z2 := (o3 z3).2
       have z1 := (o2 z2).2
       have z5 := (o6 z6).2
       match i, hi with
       | 0, _ => rw [z0] at h0; cases h0
       | 1, _ => rw [z1] at h0; cases h0
       | 2, _ => rw [z2] at h0; cases h0
       | 3, _ => rw [z3] at h0; cases h0
       | 4, _ => rw [z4] at h0; cases h0
       | 5, _ => rw [z5] at h0; cases h0
       | 6, _ => rw [z6] at h0; cases h0
       | 7, _ => rw [z7] at h0; cases h0
       | 8, _ => rw [z8] at h0; cases h0
     refine Zn.cons (fun h0 hd => ?r09) (Zn.cons (fun h0 hd => ?r19) (Zn.cons (fun h0 hd => ?r29) (Zn.cons (fun h0 hd => ?r39) (Zn.cons (fun h0 hd => ?r49) (Zn.cons (fun h0 hd => ?r59) (Zn.cons (fun h0 hd => ?r69) (Zn.cons (fun h0 hd => ?r79) (Zn.cons (fun h0 hd => ?r89) (Zn.cons (fun h0 hd => ?r99) Zn.nil)))))))))
     case r09 =>
      have c0 := (oW (no9 0 (by omega) h0)).keepCell HE9.out.2.1 (fun e => e)
      clear hd
      go_simp
      exact ⟨.func (.func 37) #[] #[.pointer (some ⟨w2.heap.size, 0, none⟩)], r1, r2, r3, r4, r5, r6, r7, r8, r9, rfl, (fun _ => rfl), o1, o2, o3, o4, o5, o6, o7, o8, (fun h => ⟨rfl, (o9 h).2⟩), oW, oB, oG⟩
     case r19 =>
      clear hd
      go_simp
      exact ⟨r0, .pointer (some ⟨p, 1, none⟩), r2, r3, r4, r5, r6, r7, r8, r9, rfl, o0, (fun _ => rfl), (fun h => ⟨(o2 h).1, rfl⟩), o3, o4, o5, o6, o7, o8, o9, oW, oB, oG⟩
     case r29 =>
      have k1 : S 1 = true := hd { on := 1, ground := .data } (by simp) rfl
      obtain rfl := o1 k1
      obtain ⟨_, c1, _⟩ := Zo ((oW (no9 2 (by omega) h0)).at HB9.out (fun e => e))
      have K1 := Zz k1
      clear hd k1
      go_simp
      exact ⟨r0, .pointer (some ⟨p, 1, none⟩), .int .i64 kn, r3, r4, r5, r6, r7, r8, r9, rfl, o0, o1, (fun _ => ⟨rfl, K1.out⟩), (fun h => ⟨(o3 h).1, rfl⟩), o4, o5, o6, o7, o8, o9, oW, oB, oG⟩
     case r39 =>
      have k2 : S 2 = true := hd { on := 2, ground := .data } (by simp) rfl
      obtain ⟨rfl, -⟩ := o2 k2
      have K2 := Zz k2
      clear hd k2
      go_simp
      exact ⟨r0, r1, .int .i64 kn, .pointer (some ⟨1, kn, none⟩), r4, r5, r6, r7, r8, r9, rfl, o0, o1, o2, (fun _ => ⟨rfl, K2.out⟩), (fun h => ⟨(o4 h).1, rfl⟩), o5, o6, o7, o8, o9, oW, oB, oG⟩
     case r49 =>
      have k3 : S 3 = true := hd { on := 3, ground := .data } (by simp) rfl
      obtain ⟨rfl, -⟩ := o3 k3
      have c1 := (oW (no9 4 (by omega) h0)).keepCell HT9.out (fun e => e)
      have K3 := Zz k3
      clear hd k3
      go_simp
      exact ⟨r0, r1, r2, .pointer (some ⟨1, kn, none⟩), .int .i64 (2 * (kn : Int) - 1), r5, r6, r7, r8, r9, rfl, o0, o1, o2, o3, (fun _ => ⟨rfl, K3.out⟩), o5, o6, (fun h => ⟨(o7 h).1, rfl, (o7 h).2.2⟩), o8, o9, oW, oB, oG⟩
     case r59 =>
      clear hd
      go_simp
      exact ⟨r0, r1, r2, r3, r4, .pointer (some ⟨p, 0, none⟩), r6, r7, r8, r9, rfl, o0, o1, o2, o3, o4, (fun _ => rfl), (fun h => ⟨(o6 h).1, rfl⟩), o7, o8, o9, oW, oB, oG⟩
     case r69 =>
      have k5 : S 5 = true := hd { on := 5, ground := .data } (by simp) rfl
      obtain rfl := o5 k5
      obtain ⟨c0, _⟩ := Zo ((oW (no9 6 (by omega) h0)).at HB9.out (fun e => e))
      have K5 := Zz k5
      clear hd k5
      go_simp
      exact ⟨r0, r1, r2, r3, r4, .pointer (some ⟨p, 0, none⟩), .string xP, r7, r8, r9, rfl, o0, o1, o2, o3, o4, o5, (fun _ => ⟨rfl, K5.out⟩), (fun h => ⟨(o7 h).1, (o7 h).2.1, rfl⟩), o8, o9, oW, oB, oG⟩
     case r79 =>
      have k4 : S 4 = true := hd { on := 4, ground := .data } (by simp) rfl
      have k6 : S 6 = true := hd { on := 6, ground := .data } (by simp) rfl
      obtain ⟨rfl, -⟩ := o4 k4
      obtain ⟨rfl, -⟩ := o6 k6
      have K4 := Zz k4
      have K6 := Zz k6
      clear hd k4 k6
      go_simp
      exact ⟨r0, r1, r2, r3, .int .i64 (2 * (kn : Int) - 1), r5, .string xP, .agg #[.int .i64 (2 * (kn : Int) - 1), .string xP, .string ⟨#[]⟩, .string ⟨#[]⟩, .int .i64 0, .slice none 0 0, .slice none 0 0], r8, r9, rfl, o0, o1, o2, o3, o4, o5, o6, (fun _ => ⟨rfl, K4.out, K6.out⟩), (fun _ => rfl), o9, oW, (fun h h8 => by obtain ⟨g, h1, h2, h3⟩ := oB h h8; exact ⟨g, h1, h2, h3⟩), oG⟩
     case r89 =>
      have k7 : S 7 = true := hd { on := 7, ground := .data } (by simp) rfl
      obtain ⟨rfl, -⟩ := o7 k7
      have fw := oW (no9 8 (by omega) h0)
      have K7 := Zz k7
      clear hd k7
      go_simp
      exact ⟨r0, r1, r2, r3, r4, r5, r6, .agg #[.int .i64 (2 * (kn : Int) - 1), .string xP, .string ⟨#[]⟩, .string ⟨#[]⟩, .int .i64 0, .slice none 0 0, .slice none 0 0], .slice (some ⟨w''.heap.size, 0, none⟩) 1 1, r9, rfl, o0, o1, o2, o3, o4, o5, o6, o7, (fun _ => K7.out), (fun h => ⟨(o9 h).1, rfl⟩), (fun _ => fw.then7 (Fr.alloc None' _ _)), (fun _ _ => ⟨w''.heap.size, fw.size, rfl, heap_alloc_new _ _⟩), (fun h => absurd h (by show ¬ S 9 = true; rw [no9 8 (by omega) h0]; decide))⟩
     case r99 =>
      have k0 : S 0 = true := hd { on := 0, ground := .data } (by simp) rfl
      have k8 : S 8 = true := hd { on := 8, ground := .data } (by simp) rfl
      obtain rfl := o0 k0
      obtain ⟨g, hg1, rfl, hg2⟩ := oB h0 k8
      have K0 := Zz k0
      have K8 := Zz k8
      clear hd k0 k8
      go_simp
      refine ⟨trivial, (CallsIn.inRound l (callsIn_wide.2 (gather12_any HG9.out (oW h0) (own_one12 hg2 rfl rfl) (fun u hu j e => by rw [List.mem_singleton] at hu; subst hu; rcases e with e | e <;> cases e) HLc.out.1))).mono ?_⟩
      rintro e w3 ⟨rfl, hP⟩
      exact ⟨.func (.func 37) #[] #[.pointer (some ⟨w2.heap.size, 0, none⟩)], r1, r2, r3, r4, r5, r6, r7, .slice (some ⟨g, 0, none⟩) 1 1, .tuple #[], rfl, o0, o1, o2, o3, o4, o5, o6, o7, o8, (fun _ => ⟨K0.out, K8.out⟩), (fun h => by cases h), (fun h => by cases h), (fun _ => hP)⟩
    case fin9 =>
     rintro S a w'' ⟨r0, r1, r2, r3, r4, r5, r6, r7, r8, r9, rfl, o0, o1, o2, o3, o4, o5, o6, o7, o8, o9, oW, oB, oG⟩ hall
     have hP := oG (hall 9 (by simp))
     clear o0 o1 o2 o3 o4 o5 o6 o7 o8 o9 oW oB oG hall
     have HP10 := Zz hP
     have HE10 := Zz (HE.out.at hP.at')
     have HB10 := Zz (hP.box _ _ HB9.out)
     have HQ10 := Zz (hP.box _ _ HQ9.out)
     have HG10 := Zz hP.at'
     have HFx := Zz HE10.out.1
     have HCh := Zz (show ∀ w', Fr None' w'' w' → Calls Tryz.prog 41 #[.string xP, .agg #[.string ⟨#[]⟩, .int .i64 0, .slice none 0 0, .string ⟨#[]⟩], .agg #[.string xP, .int .i64 kn, .slice pa xL.length ca, .string xD]] w' (fun e w'' => ∃ v V, e = .returned v ∧ ChgAt w'.heap.size w' w'' v (chgL xP Yp ⟨xP, kn, xL, xD⟩) V) from fun w' f => changes12_any hD12 xP Yp ⟨xP, kn, xL, xD⟩ (.slice none 0 0) (.slice pa xL.length ca) w' ⟨none, 0, rfl, fun _ => rfl, Nat.le_refl _, fun j x e => by simp [Yp] at e⟩ ((HSX0.out.kept HFx.out).kept f) (Nat.zero_le _) (en_sm wb HX.out).2.1 (fun z hz => by cases hz) (fun z hz => by have := (en_sm wb HX.out).2.2.2 z hz; unfold maxLen; omega))
     obtain ⟨LG, hLG⟩ : ∃ LG, a.reverse.flatMap (goL b) ++ (b.take t').flatMap (comeL a) ++ [pathP (2 * (kn : Int) - 1) xP] = LG := ⟨_, rfl⟩
     rw [hLG] at HP10 HG10 HLc
     have HLG := Zz hLG
     clear hP HE9 HB9 HQ9 HT9 hLG
     gi_wp2_with fail
     refine region_inv (by kernel_rfl) (by decide +kernel) (InvC (fun t0 t1 t2 t3 t4 t5 t6 => #[.slice va n c, .slice vb m d, undef, undef, .slice none 0 0, .int .i64 0, .pointer (some ⟨w2.heap.size, 0, none⟩), .pointer (some ⟨w2.heap.size + 1, 0, none⟩), .pointer (some ⟨w5.heap.size, 0, none⟩), .pointer (some ⟨w5.heap.size + 1, 0, none⟩), undef, undef, undef, undef, .pointer (some ⟨p, 0, none⟩), .pointer (some ⟨W5.heap.size, 0, none⟩), .bool false, .slice va n c, .bool true, .bool false, .bool false, .slice vb m d, .bool true, .bool false, .bool false, .func (.func 37) #[] #[.pointer (some ⟨w2.heap.size, 0, none⟩)], .slice va n c, .map (some bA), .slice vb m d, .map (some bB), .slice va n c, .func (.func 67) #[] #[.pointer (some ⟨w6.heap.size, 0, none⟩)], undef, undef, undef, undef, undef, undef, undef, undef, undef, undef, undef, undef, undef, undef, undef, undef, undef, undef, undef, undef, undef, undef, undef, undef, undef, undef, undef, .slice vb m d, .func (.func 69) #[] #[.pointer (some ⟨W.heap.size, 0, none⟩)], .agg #[.string xP, .int .i64 kn, .slice pa xL.length ca, .string xD], .tuple #[.agg #[.string ⟨#[]⟩, .int .i64 0, .slice none 0 0, .string ⟨#[]⟩], .bool false], .map (some bA), .agg #[.string xP, .int .i64 kn, .slice pa xL.length ca, .string xD], .tuple #[.agg #[.string ⟨#[]⟩, .int .i64 0, .slice none 0 0, .string ⟨#[]⟩], .bool false], .agg #[.string ⟨#[]⟩, .int .i64 0, .slice none 0 0, .string ⟨#[]⟩], .bool false, .bool false, .bool true, r0, r1, r2, r3, r4, r5, r6, r7, r8, r9, t0, t1, t2, t3, t4, t5, t6, undef]) w'' (.func (.func 37) #[] #[.pointer (some ⟨w2.heap.size, 0, none⟩)]) (.pointer (some ⟨p, 0, none⟩)) (.string xP) (.agg #[.string ⟨#[]⟩, .int .i64 0, .slice none 0 0, .string ⟨#[]⟩]) (.agg #[.string xP, .int .i64 kn, .slice pa xL.length ca, .string xD]) w6 w2.heap.size W.heap.size (LG) (chgL xP Yp ⟨xP, kn, xL, xD⟩)) ?h08 ?step8 ?fin8
     case h08 => exact ⟨undef, undef, undef, undef, undef, undef, undef, rfl, (fun h => by cases h), (fun h => by cases h), (fun h => by cases h), (fun h => by cases h), (fun h => by cases h), (fun h => by cases h), (fun h => by cases h), (fun _ => Fr.drew None' w''), (fun _ h => by cases h), (fun h => by cases h)⟩
     case step8 =>
      rintro S a w' ⟨t0, t1, t2, t3, t4, t5, t6, rfl, o0, o1, o2, o3, o4, o5, o6, oW, oC, oG⟩
      refine Zn.cons (fun h0 hd => ?s08) (Zn.cons (fun h0 hd => ?s18) (Zn.cons (fun h0 hd => ?s28) (Zn.cons (fun h0 hd => ?s38) (Zn.cons (fun h0 hd => ?s48) (Zn.cons (fun h0 hd => ?s58) (Zn.cons (fun h0 hd => ?s68) Zn.nil))))))
      case s08 =>
       have h6 : S 6 = false := by
        cases h : S 6 with
        | false => rfl
        | true => exact absurd (o6 h).1 (by rw [h0]; decide)
       have c0 := (oW h6).keepCell HE10.out.2.1 (fun e => e)
       clear hd
       go_simp
       exact ⟨.func (.func 37) #[] #[.pointer (some ⟨w2.heap.size, 0, none⟩)], t1, t2, t3, t4, t5, t6, rfl, (fun _ => rfl), o1, o2, o3, o4, o5, (fun h => ⟨rfl, (o6 h).2⟩), oW, oC, oG⟩
      case s18 =>
       clear hd
       go_simp
       exact ⟨t0, .pointer (some ⟨p, 0, none⟩), t2, t3, t4, t5, t6, rfl, o0, (fun _ => rfl), (fun h => ⟨(o2 h).1, rfl⟩), o3, o4, o5, o6, oW, oC, oG⟩
      case s28 =>
       have h6 : S 6 = false := by
        cases h : S 6 with
        | false => rfl
        | true => exact absurd (o5 (o6 h).2).1 (by rw [h0]; decide)
       have k1 : S 1 = true := hd { on := 1, ground := .data } (by simp) rfl
       obtain rfl := o1 k1
       obtain ⟨c0, _⟩ := Zo ((oW h6).at HB10.out (fun e => e))
       have K1 := Zz k1
       clear hd k1
       go_simp
       exact ⟨t0, .pointer (some ⟨p, 0, none⟩), .string xP, t3, t4, t5, t6, rfl, o0, o1, (fun _ => ⟨rfl, K1.out⟩), o3, o4, (fun h => ⟨rfl, (o5 h).2⟩), o6, oW, oC, oG⟩
      case s38 =>
       have h6 : S 6 = false := by
        cases h : S 6 with
        | false => rfl
        | true => exact absurd (o5 (o6 h).2).2.1 (by rw [h0]; decide)
       obtain ⟨c0, c1, c2, c3, _⟩ := Zo ((oW h6).at HQ10.out (fun e => e))
       clear hd
       go_simp
       exact ⟨t0, t1, t2, .agg #[.string ⟨#[]⟩, .int .i64 0, .slice none 0 0, .string ⟨#[]⟩], t4, t5, t6, rfl, o0, o1, o2, (fun _ => rfl), o4, (fun h => ⟨(o5 h).1, rfl, (o5 h).2.2⟩), o6, oW, oC, oG⟩
      case s48 =>
       have h6 : S 6 = false := by
        cases h : S 6 with
        | false => rfl
        | true => exact absurd (o5 (o6 h).2).2.2 (by rw [h0]; decide)
       obtain ⟨c0, c1, c2, c3, _⟩ := Zo ((oW h6).at HB10.out (fun e => e))
       clear hd
       go_simp
       exact ⟨t0, t1, t2, t3, .agg #[.string xP, .int .i64 kn, .slice pa xL.length ca, .string xD], t5, t6, rfl, o0, o1, o2, o3, (fun _ => rfl), (fun h => ⟨(o5 h).1, (o5 h).2.1, rfl⟩), o6, oW, oC, oG⟩
      case s58 =>
       have h6 : S 6 = false := by
        cases h : S 6 with
        | false => rfl
        | true => exact absurd (o6 h).2 (by rw [h0]; decide)
       have k2 : S 2 = true := hd { on := 2, ground := .data } (by simp) rfl
       have k3 : S 3 = true := hd { on := 3, ground := .data } (by simp) rfl
       have k4 : S 4 = true := hd { on := 4, ground := .data } (by simp) rfl
       obtain ⟨rfl, -⟩ := o2 k2
       obtain rfl := o3 k3
       obtain rfl := o4 k4
       clear hd
       have K2 := Zz k2
       have K3 := Zz k3
       have K4 := Zz k4
       clear k2 k3 k4
       go_simp
       refine ⟨trivial, (CallsIn.inRound l (callsIn_wide.2 (HCh.out w' (oW h6)))).mono ?_⟩
       rintro e w'' ⟨v', V', rfl, hA⟩
       exact ⟨t0, t1, .string xP, .agg #[.string ⟨#[]⟩, .int .i64 0, .slice none 0 0, .string ⟨#[]⟩], .agg #[.string xP, .int .i64 kn, .slice pa xL.length ca, .string xD], v', t6, rfl, o0, o1, o2, o3, o4, (fun _ => ⟨K2.out, K3.out, K4.out⟩), (fun h => absurd h (by show ¬ S 6 = true; rw [h6]; decide)), (fun _ => (oW h6).then7 hA.fr), (fun _ _ => ⟨w', V', (oW h6).size, hA⟩), (fun h => absurd h (by show ¬ S 6 = true; rw [h6]; decide))⟩
      case s68 =>
       have k0 : S 0 = true := hd { on := 0, ground := .data } (by simp) rfl
       have k5 : S 5 = true := hd { on := 5, ground := .data } (by simp) rfl
       obtain rfl := o0 k0
       obtain ⟨w5', V', hle, hA⟩ := oC h0 k5
       clear hd
       have K0 := Zz k0
       have K5 := Zz k5
       clear k0 k5
       go_simp
       refine ⟨trivial, (CallsIn.inRound l (callsIn_wide.2 (gather12_any HG10.out (oW h0) hA.own (fun u hu j e => Nat.le_trans hle (hA.new u hu j e)) HLc.out.2))).mono ?_⟩
       rintro e w'' ⟨rfl, hP⟩
       exact ⟨.func (.func 37) #[] #[.pointer (some ⟨w2.heap.size, 0, none⟩)], t1, t2, t3, t4, t5, .tuple #[], rfl, o0, o1, o2, o3, o4, o5, (fun _ => ⟨K0.out, K5.out⟩), (fun h => by cases h), (fun h => by cases h), (fun _ => hP)⟩
     case fin8 =>
      rintro S a w' ⟨t0, t1, t2, t3, t4, t5, t6, rfl, o0, o1, o2, o3, o4, o5, o6, oW, oC, oG⟩ hall
      have hP := oG (hall 6 (by simp))
      clear o0 o1 o2 o3 o4 o5 o6 oW oC oG hall
      have HF := Zz (HGo.out w' (by
       rw [HSt.out, HC.out, ← List.append_assoc, ← List.append_assoc, HLG.out]
       exact ((HG.out.none' HF9.out).trans HP10.out).trans hP))
      clear hP HGo HSt HC
      gi_wp2_with fail
      exact HF.out
 case body =>
  rintro l pre x a' W ⟨t', ht', hpre', G⟩ ⟨m', hm', hp⟩ ⟨p, y0, y1, y2, y3, hx2, rfl, hB⟩ hl'
  obtain ⟨t, rfl, hpre, rfl⟩ := uptoB_snoc hp
  have htt : t' = t := by
   have := congrArg List.length (hpre'.symm.trans hpre)
   rw [Zd, Zd] at this
   exact this
  subst htt
  obtain ⟨k, hk⟩ : ∃ k, t' + k + 1 = a.length := ⟨a.length - 1 - t', by omega⟩
  have hkL : k < a.length := by omega
  have hel := elB_get (L := aggE a Ua) (t := t') (k := k) (by rw [Yr hU1]; exact hk)
  rw [aggE_get hU1 hkL] at hel
  obtain ⟨pa, na, ca, hua⟩ := hsl (Ua[k]'(by omega)) (List.getElem_mem _)
  have sx := hU3 k a[k] (Ua[k]'(by omega)) (List.getElem?_eq_getElem hkL) (List.getElem?_eq_getElem (by omega))
  rw [hua] at hel sx
  rw [hel] at hx2
  simp at hx2
  obtain ⟨rfl, rfl, rfl, rfl⟩ := hx2
  have hstep := go_step b hk
  have HLn := Zz (show ((a.reverse.take (t' + 1)).flatMap (goL b)).length ≤ 20000 from Nat.le_trans (take_flat _ _ _) (by have := (rec_count ((treeR a).1 ra) ((treeR b).1 rb) wa wb).1; unfold recL at this; rw [List.length_append] at this; omega))
  obtain ⟨fw, cg, ch, ci, tA, tB, tb⟩ := HE.out.at G
  have q5 := like12_any bB m TB a[k] pa na ca W tB (by have := (en_sm wa (List.getElem_mem hkL)).1; omega)
  rw [eB, puts_self12 ((treeR b).1 rb).strict] at q5
  obtain ⟨b0, b1, b2, b3, _⟩ := Zo hB
  have HG := Zz G
  have HSt := Zz hstep
  have HU := Zz (show pre ++ [elB (aggE a Ua) t'] = Zj (aggE a Ua) (t' + 1) from hp)
  have HM := Zz hm'
  have HSX := Zz (sx.kept fw)
  have HTb := Zz tb
  have HB := Zz hB
  have HX := Zz (List.getElem_mem hkL)
  have HFW := Zz fw
  have hG : ∀ W', GatPost w6 w2.heap.size w6.heap.size ((a.reverse.take (t' + 1)).flatMap (goL b)) W W' → KeepsOthers W W' ∧ Zh (fun k => k = w6.heap.size ∨ k < w.heap.size) W W' ∧ I1 w6 w2.heap.size w6.heap.size a b Ua (pre ++ [elB (aggE a Ua) t']) W' := fun W' h => ⟨h.oth, HG.out.keepB h.at' h.oth.size h.ibk (by have := HN.out; omega), t' + 1, by omega, HU.out, h.at'⟩
  have HGo := Zz hG
  rw [HU.out, hel] at *
  clear hstep hpre hpre' hp hel hua sx tA tB tb hB fw G hm' hG hsl hU3 hU2 hva ha hb ch hG0
  generalize a[k] = x at *
  obtain ⟨xP, xK, xL, xD⟩ := x
  simp only at *
  obtain ⟨kn, hkn, hk3⟩ : ∃ kn : Nat, xK = (kn : Int) ∧ (kn = 1 ∨ kn = 2 ∨ kn = 3) := by
   have h := kind_ways ((treeR a).1 ra) HX.out
   simp only at h
   exact ⟨xK.toNat, by omega, by omega⟩
  subst hkn
  obtain ⟨_, _, esx, _⟩ := HSX.out
  simp only [Value.slice.injEq] at esx
  obtain ⟨-, esx, -⟩ := esx
  subst esx
  gi_wp2_with fail
  refine ⟨trivial, (CallsIn.inRound l (callsIn_wide.2 q5)).mono ?_⟩
  rintro e W5 ⟨f5, hlk⟩
  clear q5
  cases hll : likeE b ⟨xP, kn, xL, xD⟩ with
  | some y =>
   rw [hll] at hlk
   obtain ⟨vl, rfl, sy⟩ := hlk
   have HP := Zz (fun o => HGo.out (W5.alloc o) (by
    have h : goL b ⟨xP, kn, xL, xD⟩ = [] := by unfold goL; rw [hll]
    rw [HSt.out, h, List.append_nil]
    exact HG.out.none' (f5.then7 (Fr.alloc None' W5 o))))
   obtain ⟨py, cy, rfl⟩ := sy.is
   generalize y.lines.length = ny at *
   clear HGo HSt f5 hll
   gi_wp2_with fail
   exact HP.out _
  | none =>
   rw [hll] at hlk
   subst hlk
   have HC := Zz (show goL b ⟨xP, kn, xL, xD⟩ = chgL xP ⟨xP, kn, xL, xD⟩ Yp ++ [pathP (2 * (kn : Int)) xP] from by unfold goL; rw [hll])
   clear hll
   have HLc := Zz (show ((a.reverse.take t').flatMap (goL b)).length + (chgL xP ⟨xP, kn, xL, xD⟩ Yp).length ≤ 90000 ∧ ((a.reverse.take t').flatMap (goL b) ++ chgL xP ⟨xP, kn, xL, xD⟩ Yp).length + [pathP (2 * (kn : Int)) xP].length ≤ 90000 from by
    have h := HLn.out
    rw [HSt.out, HC.out] at h
    simp only [List.length_append, List.length_cons, List.length_nil] at h ⊢
    omega)
   obtain ⟨W9, hW9⟩ : ∃ W9, W5.alloc (.cells #[.string ⟨#[]⟩, .int .i64 0, .slice none 0 0, .string ⟨#[]⟩] 45) = W9 := ⟨_, rfl⟩
   have F9 : Fr None' W W9 := f5.then7 (hW9 ▸ Fr.alloc None' W5 _)
   have HF9 := Zz F9
   have HG9 := Zz (HG.out.kept F9)
   have HE9 := Zz (HE.out.at HG9.out)
   have HB9 := Zz (F9.at HB.out (fun e => e))
   have HCh := Zz (fun w' (f : Fr None' W9 w') => changes12_any hD0 xP ⟨xP, kn, xL, xD⟩ Yp (.slice pa xL.length ca) (.slice none 0 0) w' ((HSX.out.kept F9).kept f) ⟨none, 0, rfl, fun _ => rfl, Nat.le_refl _, fun j x e => by simp [Yp] at e⟩ (en_sm wa HX.out).2.1 (Nat.zero_le _) (fun z hz => by have := (en_sm wa HX.out).2.2.2 z hz; unfold maxLen; omega) (fun z hz => by cases hz))
   have HW9 := Zz hW9
   clear b0 b1 b2 b3 cg ci hW9
   gi_wp2_with fail
   rw [HW9.out]
   refine region_inv (by kernel_rfl) (by decide +kernel) (InvC (fun t0 t1 t2 t3 t4 t5 t6 => #[.slice va n c, .slice vb m d, undef, undef, .slice none 0 0, .int .i64 0, .pointer (some ⟨w2.heap.size, 0, none⟩), .pointer (some ⟨w2.heap.size + 1, 0, none⟩), .pointer (some ⟨w5.heap.size, 0, none⟩), .pointer (some ⟨w5.heap.size + 1, 0, none⟩), undef, .pointer (some ⟨p, 0, none⟩), .pointer (some ⟨W5.heap.size, 0, none⟩), .bool false, undef, undef, undef, .slice va n c, .bool true, .bool false, .bool false, .slice vb m d, .bool true, .bool false, .bool false, .func (.func 37) #[] #[.pointer (some ⟨w2.heap.size, 0, none⟩)], .slice va n c, .map (some bA), .slice vb m d, .map (some bB), .slice va n c, .func (.func 67) #[] #[.pointer (some ⟨w6.heap.size, 0, none⟩)], .int .i64 k, .agg #[.string xP, .int .i64 kn, .slice pa xL.length ca, .string xD], .tuple #[.agg #[.string ⟨#[]⟩, .int .i64 0, .slice none 0 0, .string ⟨#[]⟩], .bool false], .map (some bB), .agg #[.string xP, .int .i64 kn, .slice pa xL.length ca, .string xD], .tuple #[.agg #[.string ⟨#[]⟩, .int .i64 0, .slice none 0 0, .string ⟨#[]⟩], .bool false], .agg #[.string ⟨#[]⟩, .int .i64 0, .slice none 0 0, .string ⟨#[]⟩], .bool false, .bool false, .bool true, t0, t1, t2, t3, t4, t5, t6, undef, undef, undef, undef, undef, undef, undef, undef, undef, undef, undef, undef, undef, undef, undef, undef, undef, undef, undef, undef, undef, undef, undef, undef, undef, undef, undef, undef, undef, undef, undef, undef, undef, undef, undef, undef, undef, undef, undef]) W9 (.func (.func 37) #[] #[.pointer (some ⟨w2.heap.size, 0, none⟩)]) (.pointer (some ⟨p, 0, none⟩)) (.string xP) (.agg #[.string xP, .int .i64 kn, .slice pa xL.length ca, .string xD]) (.agg #[.string ⟨#[]⟩, .int .i64 0, .slice none 0 0, .string ⟨#[]⟩]) w6 w2.heap.size w6.heap.size ((a.reverse.take t').flatMap (goL b)) (chgL xP ⟨xP, kn, xL, xD⟩ Yp)) ?h0 ?step ?fin
   case h0 => exact ⟨undef, undef, undef, undef, undef, undef, undef, rfl, (fun h => by cases h), (fun h => by cases h), (fun h => by cases h), (fun h => by cases h), (fun h => by cases h), (fun h => by cases h), (fun h => by cases h), (fun _ => Fr.drew None' W9), (fun _ h => by cases h), (fun h => by cases h)⟩
   case step =>
    rintro S a w' ⟨t0, t1, t2, t3, t4, t5, t6, rfl, o0, o1, o2, o3, o4, o5, o6, oW, oC, oG⟩
    refine Zn.cons (fun h0 hd => ?s0) (Zn.cons (fun h0 hd => ?s1) (Zn.cons (fun h0 hd => ?s2) (Zn.cons (fun h0 hd => ?s3) (Zn.cons (fun h0 hd => ?s4) (Zn.cons (fun h0 hd => ?s5) (Zn.cons (fun h0 hd => ?s6) Zn.nil))))))
    case s0 =>
     have h6 : S 6 = false := by
      cases h : S 6 with
      | false => rfl
      | true => exact absurd (o6 h).1 (by rw [h0]; decide)
     have c0 := (oW h6).keepCell HE9.out.2.1 (fun e => e)
     clear hd
     go_simp
     exact ⟨_, t1, t2, t3, t4, t5, t6, rfl, (fun _ => rfl), o1, o2, o3, o4, o5, (fun h => ⟨rfl, (o6 h).2⟩), oW, oC, oG⟩
    case s1 =>
     clear hd
     go_simp
     exact ⟨t0, _, t2, t3, t4, t5, t6, rfl, o0, (fun _ => rfl), (fun h => ⟨(o2 h).1, rfl⟩), o3, o4, o5, o6, oW, oC, oG⟩
    case s2 =>
     have h6 : S 6 = false := by
      cases h : S 6 with
      | false => rfl
      | true => exact absurd (o5 (o6 h).2).1 (by rw [h0]; decide)
     have k1 : S 1 = true := hd { on := 1, ground := .data } (by simp) rfl
     obtain rfl := o1 k1
     obtain ⟨c0, _⟩ := Zo ((oW h6).at HB9.out (fun e => e))
     clear hd
     go_simp
     exact ⟨t0, _, _, t3, t4, t5, t6, rfl, o0, o1, (fun _ => ⟨rfl, k1⟩), o3, o4, (fun h => ⟨rfl, (o5 h).2⟩), o6, oW, oC, oG⟩
    case s3 =>
     have h6 : S 6 = false := by
      cases h : S 6 with
      | false => rfl
      | true => exact absurd (o5 (o6 h).2).2.1 (by rw [h0]; decide)
     obtain ⟨c0, c1, c2, c3, _⟩ := Zo ((oW h6).at HB9.out (fun e => e))
     clear hd
     go_simp
     exact ⟨t0, t1, t2, _, t4, t5, t6, rfl, o0, o1, o2, (fun _ => rfl), o4, (fun h => ⟨(o5 h).1, rfl, (o5 h).2.2⟩), o6, oW, oC, oG⟩
    case s4 =>
     clear hd
     go_simp
     exact ⟨t0, t1, t2, t3, _, t5, t6, rfl, o0, o1, o2, o3, (fun _ => rfl), (fun h => ⟨(o5 h).1, (o5 h).2.1, rfl⟩), o6, oW, oC, oG⟩
    case s5 =>
     have h6 : S 6 = false := by
      cases h : S 6 with
      | false => rfl
      | true => exact absurd (o6 h).2 (by rw [h0]; decide)
     have k2 : S 2 = true := hd { on := 2, ground := .data } (by simp) rfl
     have k3 : S 3 = true := hd { on := 3, ground := .data } (by simp) rfl
     have k4 : S 4 = true := hd { on := 4, ground := .data } (by simp) rfl
     obtain ⟨rfl, -⟩ := o2 k2
     obtain rfl := o3 k3
     obtain rfl := o4 k4
     clear hd
     have K2 := Zz k2
     have K3 := Zz k3
     have K4 := Zz k4
     clear k2 k3 k4
     go_simp
     refine ⟨trivial, (CallsIn.inRound l (callsIn_wide.2 (HCh.out w' (oW h6)))).mono ?_⟩
     rintro e w'' ⟨v', V', rfl, hA⟩
     exact ⟨t0, t1, .string xP, .agg #[.string xP, .int .i64 kn, .slice pa xL.length ca, .string xD], .agg #[.string ⟨#[]⟩, .int .i64 0, .slice none 0 0, .string ⟨#[]⟩], v', t6, rfl, o0, o1, o2, o3, o4, (fun _ => ⟨K2.out, K3.out, K4.out⟩), (fun h => absurd h (by show ¬ S 6 = true; rw [h6]; decide)), (fun _ => (oW h6).then7 hA.fr), (fun _ _ => ⟨w', V', (oW h6).size, hA⟩), (fun h => absurd h (by show ¬ S 6 = true; rw [h6]; decide))⟩
    case s6 =>
     have k0 : S 0 = true := hd { on := 0, ground := .data } (by simp) rfl
     have k5 : S 5 = true := hd { on := 5, ground := .data } (by simp) rfl
     obtain rfl := o0 k0
     obtain ⟨w5', V', hle, hA⟩ := oC h0 k5
     clear hd
     have K0 := Zz k0
     have K5 := Zz k5
     clear k0 k5
     go_simp
     refine ⟨trivial, (CallsIn.inRound l (callsIn_wide.2 (gather12_any HG9.out (oW h0) hA.own (fun u hu j e => Nat.le_trans hle (hA.new u hu j e)) HLc.out.1))).mono ?_⟩
     rintro e w'' ⟨rfl, hP⟩
     exact ⟨.func (.func 37) #[] #[.pointer (some ⟨w2.heap.size, 0, none⟩)], t1, t2, t3, t4, t5, .tuple #[], rfl, o0, o1, o2, o3, o4, o5, (fun _ => ⟨K0.out, K5.out⟩), (fun h => by cases h), (fun h => by cases h), (fun _ => hP)⟩
   case fin =>
    rintro S a w' ⟨t0, t1, t2, t3, t4, t5, t6, rfl, o0, o1, o2, o3, o4, o5, o6, oW, oC, oG⟩ hall
    have hP := oG (hall 6 (by simp))
    clear o0 o1 o2 o3 o4 o5 o6 oW oC oG hall
    have HP10 := Zz hP
    have HE10 := Zz (HE.out.at hP.at')
    have HB10 := Zz (hP.box _ _ HB9.out)
    obtain ⟨hT, _⟩ := HE10.out.2.2.2.2.2.2 kn hk3
    have HT10 := Zz hT
    have i5 : (0 : Int) ≤ (kn : Int) := by omega
    have i6 : (kn : Int) < 4 := by omega
    clear hP hT HCh HE9 HB9
    gi_wp2_with fail
    refine region_inv (by kernel_rfl) (by decide +kernel) (InvA (fun r0 r1 r2 r3 r4 r5 r6 r7 r8 r9 => #[.slice va n c, .slice vb m d, undef, undef, .slice none 0 0, .int .i64 0, .pointer (some ⟨w2.heap.size, 0, none⟩), .pointer (some ⟨w2.heap.size + 1, 0, none⟩), .pointer (some ⟨w5.heap.size, 0, none⟩), .pointer (some ⟨w5.heap.size + 1, 0, none⟩), undef, .pointer (some ⟨p, 0, none⟩), .pointer (some ⟨W5.heap.size, 0, none⟩), .bool false, undef, undef, undef, .slice va n c, .bool true, .bool false, .bool false, .slice vb m d, .bool true, .bool false, .bool false, .func (.func 37) #[] #[.pointer (some ⟨w2.heap.size, 0, none⟩)], .slice va n c, .map (some bA), .slice vb m d, .map (some bB), .slice va n c, .func (.func 67) #[] #[.pointer (some ⟨w6.heap.size, 0, none⟩)], .int .i64 k, .agg #[.string xP, .int .i64 kn, .slice pa xL.length ca, .string xD], .tuple #[.agg #[.string ⟨#[]⟩, .int .i64 0, .slice none 0 0, .string ⟨#[]⟩], .bool false], .map (some bB), .agg #[.string xP, .int .i64 kn, .slice pa xL.length ca, .string xD], .tuple #[.agg #[.string ⟨#[]⟩, .int .i64 0, .slice none 0 0, .string ⟨#[]⟩], .bool false], .agg #[.string ⟨#[]⟩, .int .i64 0, .slice none 0 0, .string ⟨#[]⟩], .bool false, .bool false, .bool true, t0, t1, t2, t3, t4, t5, t6, r0, r1, r2, r3, r4, r5, r6, r7, r8, r9, undef, undef, undef, undef, undef, undef, undef, undef, undef, undef, undef, undef, undef, undef, undef, undef, undef, undef, undef, undef, undef, undef, undef, undef, undef, undef, undef, undef, undef]) w' (.func (.func 37) #[] #[.pointer (some ⟨w2.heap.size, 0, none⟩)]) (.pointer (some ⟨p, 1, none⟩)) (.int .i64 kn) (.pointer (some ⟨0, kn, none⟩)) (.int .i64 (2 * (kn : Int))) (.pointer (some ⟨p, 0, none⟩)) (.string xP) w6 w2.heap.size w6.heap.size ((a.reverse.take t').flatMap (goL b) ++ chgL xP ⟨xP, kn, xL, xD⟩ Yp) (pathP (2 * (kn : Int)) xP)) ?h0 ?step ?fin2
    case h0 => exact ⟨undef, undef, undef, undef, undef, undef, undef, undef, undef, undef, rfl, (fun h => by cases h), (fun h => by cases h), (fun h => by cases h), (fun h => by cases h), (fun h => by cases h), (fun h => by cases h), (fun h => by cases h), (fun h => by cases h), (fun h => by cases h), (fun h => by cases h), (fun _ => Fr.drew None' w'), (fun _ h => by cases h), (fun h => by cases h)⟩
    case step =>
     rintro S a w'' ⟨r0, r1, r2, r3, r4, r5, r6, r7, r8, r9, rfl, o0, o1, o2, o3, o4, o5, o6, o7, o8, o9, oW, oB, oG⟩
     have no9 : ∀ i, i < 9 → S i = false → S 9 = false := fun i hi h0 => by
      cases h : S 9 with
      | false => rfl
      | true =>
       exfalso
       obtain ⟨z0, z8⟩ := o9 h
       have z7 := o8 z8
       obtain ⟨_, z4, z6⟩ := o7 z7
       have z3 := (o4 z4).2
       have z2 := (o3 z3).2
       have z1 := (o2 z2).2
       have z5 := (o6 z6).2
       match i, hi with
       | 0, _ => rw [z0] at h0; cases h0
       | 1, _ => rw [z1] at h0; cases h0
       | 2, _ => rw [z2] at h0; cases h0
       | 3, _ => rw [z3] at h0; cases h0
       | 4, _ => rw [z4] at h0; cases h0
       | 5, _ => rw [z5] at h0; cases h0
       | 6, _ => rw [z6] at h0; cases h0
       | 7, _ => rw [z7] at h0; cases h0
       | 8, _ => rw [z8] at h0; cases h0
     refine Zn.cons (fun h0 hd => ?r0) (Zn.cons (fun h0 hd => ?r1) (Zn.cons (fun h0 hd => ?r2) (Zn.cons (fun h0 hd => ?r3) (Zn.cons (fun h0 hd => ?r4) (Zn.cons (fun h0 hd => ?r5) (Zn.cons (fun h0 hd => ?r6) (Zn.cons (fun h0 hd => ?r7) (Zn.cons (fun h0 hd => ?r8) (Zn.cons (fun h0 hd => ?r9) Zn.nil)))))))))
     case r0 =>
      have c0 := (oW (no9 0 (by omega) h0)).keepCell HE10.out.2.1 (fun e => e)
      clear hd
      go_simp
      exact ⟨.func (.func 37) #[] #[.pointer (some ⟨w2.heap.size, 0, none⟩)], r1, r2, r3, r4, r5, r6, r7, r8, r9, rfl, (fun _ => rfl), o1, o2, o3, o4, o5, o6, o7, o8, (fun h => ⟨rfl, (o9 h).2⟩), oW, oB, oG⟩
     case r1 =>
      clear hd
      go_simp
      exact ⟨r0, .pointer (some ⟨p, 1, none⟩), r2, r3, r4, r5, r6, r7, r8, r9, rfl, o0, (fun _ => rfl), (fun h => ⟨(o2 h).1, rfl⟩), o3, o4, o5, o6, o7, o8, o9, oW, oB, oG⟩
     case r2 =>
      have k1 : S 1 = true := hd { on := 1, ground := .data } (by simp) rfl
      obtain rfl := o1 k1
      obtain ⟨_, c1, _⟩ := Zo ((oW (no9 2 (by omega) h0)).at HB10.out (fun e => e))
      clear hd
      have K1 := Zz k1
      clear k1
      go_simp
      exact ⟨r0, .pointer (some ⟨p, 1, none⟩), .int .i64 kn, r3, r4, r5, r6, r7, r8, r9, rfl, o0, o1, (fun _ => ⟨rfl, K1.out⟩), (fun h => ⟨(o3 h).1, rfl⟩), o4, o5, o6, o7, o8, o9, oW, oB, oG⟩
     case r3 =>
      have k2 : S 2 = true := hd { on := 2, ground := .data } (by simp) rfl
      obtain ⟨rfl, -⟩ := o2 k2
      clear hd
      have K2 := Zz k2
      clear k2
      go_simp
      exact ⟨r0, r1, .int .i64 kn, .pointer (some ⟨0, kn, none⟩), r4, r5, r6, r7, r8, r9, rfl, o0, o1, o2, (fun _ => ⟨rfl, K2.out⟩), (fun h => ⟨(o4 h).1, rfl⟩), o5, o6, o7, o8, o9, oW, oB, oG⟩
     case r4 =>
      have k3 : S 3 = true := hd { on := 3, ground := .data } (by simp) rfl
      obtain ⟨rfl, -⟩ := o3 k3
      have c1 := (oW (no9 4 (by omega) h0)).keepCell HT10.out (fun e => e)
      clear hd
      have K3 := Zz k3
      clear k3
      go_simp
      exact ⟨r0, r1, r2, .pointer (some ⟨0, kn, none⟩), .int .i64 (2 * (kn : Int)), r5, r6, r7, r8, r9, rfl, o0, o1, o2, o3, (fun _ => ⟨rfl, K3.out⟩), o5, o6, (fun h => ⟨(o7 h).1, rfl, (o7 h).2.2⟩), o8, o9, oW, oB, oG⟩
     case r5 =>
      clear hd
      go_simp
      exact ⟨r0, r1, r2, r3, r4, .pointer (some ⟨p, 0, none⟩), r6, r7, r8, r9, rfl, o0, o1, o2, o3, o4, (fun _ => rfl), (fun h => ⟨(o6 h).1, rfl⟩), o7, o8, o9, oW, oB, oG⟩
     case r6 =>
      have k5 : S 5 = true := hd { on := 5, ground := .data } (by simp) rfl
      obtain rfl := o5 k5
      obtain ⟨c0, _⟩ := Zo ((oW (no9 6 (by omega) h0)).at HB10.out (fun e => e))
      clear hd
      have K5 := Zz k5
      clear k5
      go_simp
      exact ⟨r0, r1, r2, r3, r4, .pointer (some ⟨p, 0, none⟩), .string xP, r7, r8, r9, rfl, o0, o1, o2, o3, o4, o5, (fun _ => ⟨rfl, K5.out⟩), (fun h => ⟨(o7 h).1, (o7 h).2.1, rfl⟩), o8, o9, oW, oB, oG⟩
     case r7 =>
      have k4 : S 4 = true := hd { on := 4, ground := .data } (by simp) rfl
      have k6 : S 6 = true := hd { on := 6, ground := .data } (by simp) rfl
      obtain ⟨rfl, -⟩ := o4 k4
      obtain ⟨rfl, -⟩ := o6 k6
      clear hd
      have K4 := Zz k4
      have K6 := Zz k6
      clear k4 k6
      go_simp
      exact ⟨r0, r1, r2, r3, .int .i64 (2 * (kn : Int)), r5, .string xP, .agg #[.int .i64 (2 * (kn : Int)), .string xP, .string ⟨#[]⟩, .string ⟨#[]⟩, .int .i64 0, .slice none 0 0, .slice none 0 0], r8, r9, rfl, o0, o1, o2, o3, o4, o5, o6, (fun _ => ⟨rfl, K4.out, K6.out⟩), (fun _ => rfl), o9, oW, (fun h h8 => by obtain ⟨g, h1, h2, h3⟩ := oB h h8; exact ⟨g, h1, h2, h3⟩), oG⟩
     case r8 =>
      have k7 : S 7 = true := hd { on := 7, ground := .data } (by simp) rfl
      obtain ⟨rfl, -⟩ := o7 k7
      have fw := oW (no9 8 (by omega) h0)
      clear hd
      have K7 := Zz k7
      clear k7
      go_simp
      exact ⟨r0, r1, r2, r3, r4, r5, r6, .agg #[.int .i64 (2 * (kn : Int)), .string xP, .string ⟨#[]⟩, .string ⟨#[]⟩, .int .i64 0, .slice none 0 0, .slice none 0 0], .slice (some ⟨w''.heap.size, 0, none⟩) 1 1, r9, rfl, o0, o1, o2, o3, o4, o5, o6, o7, (fun _ => K7.out), (fun h => ⟨(o9 h).1, rfl⟩), (fun _ => fw.then7 (Fr.alloc None' _ _)), (fun _ _ => ⟨w''.heap.size, fw.size, rfl, heap_alloc_new _ _⟩), (fun h => absurd h (by show ¬ S 9 = true; rw [no9 8 (by omega) h0]; decide))⟩
     case r9 =>
      have k0 : S 0 = true := hd { on := 0, ground := .data } (by simp) rfl
      have k8 : S 8 = true := hd { on := 8, ground := .data } (by simp) rfl
      obtain rfl := o0 k0
      obtain ⟨g, hg1, rfl, hg2⟩ := oB h0 k8
      clear hd
      have K0 := Zz k0
      have K8 := Zz k8
      clear k0 k8
      go_simp
      refine ⟨trivial, (CallsIn.inRound l (callsIn_wide.2 (gather12_any HP10.out.at' (oW h0) (own_one12 hg2 rfl rfl) (fun u hu j e => by rw [List.mem_singleton] at hu; subst hu; rcases e with e | e <;> cases e) HLc.out.2))).mono ?_⟩
      rintro e w3 ⟨rfl, hP⟩
      exact ⟨.func (.func 37) #[] #[.pointer (some ⟨w2.heap.size, 0, none⟩)], r1, r2, r3, r4, r5, r6, r7, .slice (some ⟨g, 0, none⟩) 1 1, .tuple #[], rfl, o0, o1, o2, o3, o4, o5, o6, o7, o8, (fun _ => ⟨K0.out, K8.out⟩), (fun h => by cases h), (fun h => by cases h), (fun _ => hP)⟩
    case fin2 =>
     rintro S a w'' ⟨r0, r1, r2, r3, r4, r5, r6, r7, r8, r9, rfl, o0, o1, o2, o3, o4, o5, o6, o7, o8, o9, oW, oB, oG⟩ hall
     have hP := oG (hall 9 (by simp))
     clear o0 o1 o2 o3 o4 o5 o6 o7 o8 o9 oW oB oG hall
     have HF := Zz (HGo.out w'' (by
      rw [HSt.out, HC.out, ← List.append_assoc]
      exact ((HG.out.none' HF9.out).trans HP10.out).trans hP))
     clear hP HGo HSt HC
     gi_wp2_with fail
     exact HF.out
end Go.Proofs.YtbnfjjjdnbcehaaGreatDoor
namespace Go.Proofs.YtbnfjjjdnbcehaaGreatDoor
open Go.RowKit Go.Shelf
set_option maxRecDepth 100000
def RecPost (a b : List En) (w : World) (e : Ending) (w' : World) : Prop := Fr None' w w' ∧ ((Zw a = true ∧ Zw b = true ∧ ∃ v V, e = .returned (.tuple #[v, .int .i64 0]) ∧ Zk w.heap.size w' v (recL a b) V ∧ ∀ u ∈ V, ∀ k, (u.1.ownBlock = some k ∨ u.2.ownBlock = some k) → w.heap.size ≤ k) ∨ ((Zw a = false ∨ Zw b = false) ∧ e = .returned (.tuple #[.slice none 0 0, .int .i64 1])))
theorem record12_any (va vb : Option Addr) (n c m d : Nat) (a b : List En) (w : World) (hl : a.length = n) (hm : b.length = m) (ha : Z0 w va a) (hb : Z0 w vb b) (wa : weight a < 4000) (wb : weight b < 4000) (ht : TabsAt w) :
  Calls Tryz.prog 19 #[.slice va n c, .slice vb m d] w (RecPost a b w) := by
 obtain ⟨sa, na, _⟩ := Z8 wa
 obtain ⟨sb, nb, _⟩ := Z8 wb
 have q1 := tright_any va n c a w hl ha (by omega) sa
 have HQ2 := Zz (fun w' (f : Fr None' w w') => tright_any vb m d b w' hm (hb.kept f) (by omega) sb)
 cases ra : Zw a with
 | false =>
  rw [ra] at q1
  have H := Zz (fun w' (f : Fr None' w w') => (show RecPost a b w (.returned (.tuple #[.slice none 0 0, .int .i64 1])) w' from ⟨f, Or.inr ⟨Or.inl ra, rfl⟩⟩))
  clear ra HQ2 ha hb hl hm wa wb sa sb na nb ht
  go_enter Tryz.func19, Tryz.ntmps19
  go_wp2_with fail
  with_reducible refine q1.mono ?_
  rintro e w1 ⟨rfl, f1⟩
  have H1 := Zz (H.out w1 f1)
  clear q1 f1 H
  go_wp2_with fail
  go_ret2
  exact H1.out
 | true =>
  cases rb : Zw b with
  | true => exact (record12_yes diff_all12 va vb n c m d a b w hl hm ha hb (by omega) (by omega) ra rb wa wb sa sb ht).mono fun e w' ⟨v, V, h1, h2, h3, h4⟩ => ⟨h4, Or.inl ⟨ra, rb, v, V, h1, h2, h3⟩⟩
  | false =>
   rw [ra] at q1
   simp only [rb] at HQ2
   have H := Zz (fun w' (f : Fr None' w w') => (show RecPost a b w (.returned (.tuple #[.slice none 0 0, .int .i64 1])) w' from ⟨f, Or.inr ⟨Or.inr rb, rfl⟩⟩))
   clear ra rb ha hb hl hm wa wb sa sb na nb ht
   go_enter Tryz.func19, Tryz.ntmps19
   go_wp2_with fail
   with_reducible refine q1.mono ?_
   rintro e w1 ⟨rfl, f1⟩
   have q2 := HQ2.out w1 f1
   have HF := Zz f1
   clear q1 f1 HQ2
   go_wp2_with fail
   with_reducible refine q2.mono ?_
   rintro e w2 ⟨rfl, f2⟩
   have H1 := Zz (H.out w2 (HF.out.then7 f2))
   clear q2 f2 H
   go_wp2_with fail
   go_ret2
   exact H1.out
end Go.Proofs.YtbnfjjjdnbcehaaGreatDoor
namespace Go.Proofs.YtbnfjjjdnbcehaaGreatDoor
open Go.RowKit
set_option maxRecDepth 100000
def hA12 : List En := [⟨⟨#[97]⟩, 2, [⟨#[120]⟩], ⟨#[]⟩⟩]
def hB12 : List En := [⟨⟨#[97]⟩, 2, [⟨#[120]⟩, ⟨#[121]⟩], ⟨#[]⟩⟩]
def hP12 : Pr := ⟨7, ⟨#[97]⟩, ⟨#[]⟩, ⟨#[]⟩, 1, [], [⟨#[121]⟩]⟩
def hQ12 : Pr := ⟨7, ⟨#[97]⟩, ⟨#[]⟩, ⟨#[]⟩, 0, [⟨#[120]⟩], []⟩
def hR12 : Pr := ⟨4, ⟨#[97]⟩, ⟨#[]⟩, ⟨#[]⟩, 0, [], []⟩
theorem h12a : Zw hA12 = true := by kernel_rfl
theorem h12b : Zw hB12 = true := by kernel_rfl
theorem h12z : Zw [Yp] = false := by kernel_rfl
theorem h12n : Zw [] = true := by kernel_rfl
theorem diffs12 (x y : ByteArray) : Diff.diffs [x] [x, y] = [⟨1, [], [y]⟩] := by
 unfold Diff.diffs
 rw [Diff.hunks_same, Diff.hunks_nc, Diff.hunks_nn]
 rfl
theorem h12r : recL hA12 hB12 = [hP12] := by
 have h1 : likeE hB12 ⟨⟨#[97]⟩, 2, [⟨#[120]⟩], ⟨#[]⟩⟩ = some ⟨⟨#[97]⟩, 2, [⟨#[120]⟩, ⟨#[121]⟩], ⟨#[]⟩⟩ := by kernel_rfl
 have h2 : likeE hA12 ⟨⟨#[97]⟩, 2, [⟨#[120]⟩, ⟨#[121]⟩], ⟨#[]⟩⟩ = some ⟨⟨#[97]⟩, 2, [⟨#[120]⟩], ⟨#[]⟩⟩ := by kernel_rfl
 unfold recL
 show [(⟨⟨#[97]⟩, 2, [⟨#[120]⟩], ⟨#[]⟩⟩ : En)].flatMap (goL hB12) ++ [(⟨⟨#[97]⟩, 2, [⟨#[120]⟩, ⟨#[121]⟩], ⟨#[]⟩⟩ : En)].flatMap (comeL hA12) = _
 rw [List.flatMap_singleton, List.flatMap_singleton]
 unfold goL comeL
 rw [h1, h2]
 unfold chgL
 simp only [diffs12]
 rfl
theorem h12s : recL hA12 [] = [hQ12, hR12] := by
 have h1 : likeE [] ⟨⟨#[97]⟩, 2, [⟨#[120]⟩], ⟨#[]⟩⟩ = none := rfl
 unfold recL
 show [(⟨⟨#[97]⟩, 2, [⟨#[120]⟩], ⟨#[]⟩⟩ : En)].flatMap (goL []) ++ [] = _
 rw [List.flatMap_singleton]
 unfold goL
 rw [h1]
 unfold chgL Yp
 simp only [diffs_gone]
 rfl
theorem ents12 {w : World} {x : En} {vl : Value} (hs : Zy w vl x.lines) {w' : World} (hw : w.alloc (.cells #[.string x.path, .int .i64 x.kind, vl, .string x.data] 45) = w') : Z0 w' (some ⟨w.heap.size, 0, none⟩) [x] := fun k y hk => by
 have hk0 : k = 0 := by have := (List.getElem?_eq_some_iff.1 hk).1; simpa using this
 subst hk0
 have hx0 : y = x := by simpa using hk.symm
 subst hx0
 have B : w'.heap[w.heap.size]? = some (.cells #[.string y.path, .int .i64 y.kind, vl, .string y.data] 45 (0, 0)) := by rw [← hw]; exact heap_alloc_new w _
 obtain ⟨c0, c1, c2, c3, _⟩ := Zo B
 exact ⟨w.heap.size, 0, rfl, vl, c0, c1, c2, c3, hs.kept (hw ▸ Fr.alloc None' w _)⟩
theorem ents_nil12 (w : World) (va : Option Addr) : Z0 w va [] := fun k x hk => by simp at hk
theorem head12_any (w : World) (ht : TabsAt w) : Calls Tryz.prog 17 #[] w fun e w' => e = .returned (.bool true) ∧ Fr None' w w' := by
 obtain ⟨w1, hw1⟩ : ∃ w1, w.alloc (.cells #[.string ⟨#[120]⟩] 9) = w1 := ⟨_, rfl⟩
 obtain ⟨w2, hw2⟩ : ∃ w2, w1.alloc (.cells #[.string ⟨#[97]⟩, .int .i64 2, .slice (some ⟨w.heap.size, 0, none⟩) 1 1, .string ⟨#[]⟩] 45) = w2 := ⟨_, rfl⟩
 obtain ⟨w3, hw3⟩ : ∃ w3, w2.alloc (.cells #[.string ⟨#[120]⟩, .string ⟨#[121]⟩] 9) = w3 := ⟨_, rfl⟩
 obtain ⟨w4, hw4⟩ : ∃ w4, w3.alloc (.cells #[.string ⟨#[97]⟩, .int .i64 2, .slice (some ⟨w2.heap.size, 0, none⟩) 2 2, .string ⟨#[]⟩] 45) = w4 := ⟨_, rfl⟩
 have F1 : Fr None' w w1 := hw1 ▸ Fr.alloc None' _ _
 have F2 : Fr None' w1 w2 := hw2 ▸ Fr.alloc None' _ _
 have F3 : Fr None' w2 w3 := hw3 ▸ Fr.alloc None' _ _
 have F4 : Fr None' w3 w4 := hw4 ▸ Fr.alloc None' _ _
 have EA : Z0 w2 (some ⟨w1.heap.size, 0, none⟩) hA12 := ents12 (x := ⟨⟨#[97]⟩, 2, [⟨#[120]⟩], ⟨#[]⟩⟩) ⟨_, 1, rfl, (fun e => by cases e), Nat.le_refl _, (hw1 ▸ row_one8 w _ rfl : Lines.Row w1 _ [⟨#[120]⟩])⟩ hw2
 have EB : Z0 w4 (some ⟨w3.heap.size, 0, none⟩) hB12 := ents12 (x := ⟨⟨#[97]⟩, 2, [⟨#[120]⟩, ⟨#[121]⟩], ⟨#[]⟩⟩) ⟨_, 2, rfl, (fun e => by cases e), Nat.le_refl _, (hw3 ▸ row_two8 w2 _ _ rfl : Lines.Row w3 _ [⟨#[120]⟩, ⟨#[121]⟩])⟩ hw4
 have EA4 := (EA.kept F3).kept F4
 have FW := ((F1.then7 F2).then7 F3).then7 F4
 have HT := Zz (ht.kept FW)
 have q1 := record12_any (some ⟨w1.heap.size, 0, none⟩) (some ⟨w3.heap.size, 0, none⟩) 1 1 1 1 hA12 hB12 w4 rfl rfl EA4 EB (by decide) (by decide) HT.out
 have HQ2 := Zz (fun w' (f : Fr None' w4 w') => record12_any (some ⟨w1.heap.size, 0, none⟩) none 1 1 0 0 hA12 [] w' rfl rfl (EA4.kept f) (ents_nil12 _ _) (by decide) (by decide) (HT.out.kept f))
 have HQ3 := Zz (fun w' w'' (f : Fr None' w4 w') (hw : w'.alloc (.cells #[.string ⟨#[]⟩, .int .i64 0, .slice none 0 0, .string ⟨#[]⟩] 45) = w'') => record12_any (some ⟨w'.heap.size, 0, none⟩) none 1 1 0 0 [Yp] [] w'' rfl rfl (ents12 (x := Yp) (nilS8 w') hw) (ents_nil12 _ _) (by decide) (by decide) (HT.out.kept (f.then7 (hw ▸ Fr.alloc None' w' _))))
 have HFW := Zz FW
 clear F1 F2 F3 F4 EA EB EA4 FW ht
 go_enter Tryz.func17, Tryz.ntmps17
 go_wp2_with fail
 with_reducible refine q1.mono ?_
 rintro e w5 ⟨f5, (⟨_, _, v5, V5, rfl, O5, _⟩ | ⟨h, _⟩)⟩
 rotate_left
 ·rw [h12a, h12b] at h
  rcases h with h | h <;> cases h
 rw [h12r] at O5
 obtain ⟨p5, c5, hv5, _, _, P5⟩ := O5.slice
 subst hv5
 have HF5 := Zz f5
 have HP5 := Zz P5
 have q2 := HQ2.out w5 f5
 clear q1 HQ2 f5 O5 P5 hw1 hw2 hw3 hw4
 go_wp2_with fail
 with_reducible refine q2.mono ?_
 rintro e w6 ⟨f6, (⟨_, _, v6, V6, rfl, O6, _⟩ | ⟨h, _⟩)⟩
 rotate_left
 ·rw [h12a, h12n] at h
  rcases h with h | h <;> cases h
 rw [h12s] at O6
 obtain ⟨p6, c6, hv6, _, _, P6⟩ := O6.slice
 subst hv6
 have HF6 := Zz (HF5.out.then7 f6)
 have HP56 := Zz (HP5.out.kept f6)
 have HP6 := Zz P6
 obtain ⟨w7, hw7⟩ : ∃ w7, w6.alloc (.cells #[.string ⟨#[]⟩, .int .i64 0, .slice none 0 0, .string ⟨#[]⟩] 45) = w7 := ⟨_, rfl⟩
 have q3 := HQ3.out w6 w7 HF6.out hw7
 have HF7 := Zz (HF6.out.then7 (hw7 ▸ Fr.alloc None' w6 _))
 have HF67 := Zz (show Fr None' w6 w7 from hw7 ▸ Fr.alloc None' w6 _)
 have HW7 := Zz hw7
 clear q2 HQ3 f6 O6 P6 HP5 HF5 HF6 hw7
 go_wp2_with fail
 rw [HW7.out]
 with_reducible refine q3.mono ?_
 rintro e w8 ⟨f8, (⟨h, _⟩ | ⟨_, rfl⟩)⟩
 ·rw [h12z] at h
  cases h
 obtain ⟨g5, o5, e5, uo5, un5, a0, a1, a2, a3, a4, a5, a6, s5o, s5n⟩ := HP56.out.kept (HF67.out.then7 f8) 0 _ rfl
 obtain ⟨g6, o6, e6, uo6, un6, b0, b1, b2, b3, b4, b5, b6, _, _⟩ := HP6.out.kept (HF67.out.then7 f8) 1 _ rfl
 subst e5 e6
 obtain ⟨p9, c9, rfl, _, _, hr9⟩ := s5n
 obtain ⟨g9, o9, e9, d9⟩ := hr9 0 _ rfl
 subst e9
 have HF8 := Zz (HFW.out.then7 (HF7.out.then7 f8))
 simp only [hP12, hR12, Nat.zero_mul, Nat.add_zero, Nat.one_mul, List.length_cons, List.length_nil, Nat.zero_add] at a0 a4 a6 b0 d9
 clear q3 f8 HF67 HF7 HW7 HP56 HP6 s5o hr9 a1 a2 a3 a5 b1 b2 b3 b4 b5 b6
 go_wp2_with fail
 go_ret
 exact ⟨rfl, HF8.out⟩
end Go.Proofs.YtbnfjjjdnbcehaaGreatDoor
namespace Go.Proofs.YtbnfjjjdnbcehaaGreatDoor
open Go.RowKit Go.Maps Go.WideMaps
set_option maxRecDepth 100000
theorem rec12_no {a b : List En} {w : World} {args : Array Value} (hr : Zw a = false ∨ Zw b = false) (h : Calls Tryz.prog 19 args w (RecPost a b w)) : Calls Tryz.prog 19 args w fun e w' => e = .returned (.tuple #[.slice none 0 0, .int .i64 1]) ∧ Fr None' w w' := h.mono fun e w' q => by
 obtain ⟨f, ⟨ra, rb, _⟩ | ⟨_, rfl⟩⟩ := q
 ·rcases hr with h | h
  ·rw [ra] at h; cases h
  ·rw [rb] at h; cases h
 ·exact ⟨rfl, f⟩
theorem rec12_yes {a b : List En} {w : World} {args : Array Value} (ra : Zw a = true) (rb : Zw b = true) (h : Calls Tryz.prog 19 args w (RecPost a b w)) : Calls Tryz.prog 19 args w fun e w' => ∃ (p : Option Addr) (n c : Nat), e = .returned (.tuple #[.slice p n c, .int .i64 0]) ∧ Hid ((recL a b).length = n ∧ PrsAt w' p (recL a b) ∧ (p = none → c = 0) ∧ n ≤ c ∧ c ≤ 9223372036854775807) ∧ Fr None' w w' := h.mono fun e w' q => by
 obtain ⟨f, ⟨_, _, v, V, rfl, O, _⟩ | ⟨hr, _⟩⟩ := q
 ·obtain ⟨p, c, rfl, h1, h2, P⟩ := O.slice
  exact ⟨p, _, c, rfl, ⟨rfl, P, h2, h1, O.max⟩, f⟩
 ·rcases hr with h | h
  ·rw [ra] at h; cases h
  ·rw [rb] at h; cases h
theorem mk_len {L : List En} (h : weight L < 4000) : ∀ x ∈ L, x.lines.length ≤ 1073741824 := fun x hx => by have := ((Z8 h).2.2 x hx).1.1; omega
theorem mk_all {a b : List En} (ra : Zw a = true) (rb : Zw b = true) (wb : weight b < 4000) : runE a (recL a b) 0 = (b, 0, 0) := rec_makes ((treeR a).1 ra) ((treeR b).1 rb) (mk_len wb)
theorem mk_count {a b : List En} (ra : Zw a = true) (rb : Zw b = true) (wa : weight a < 4000) (wb : weight b < 4000) : (recL a b).length ≤ 20000 ∧ newS (recL a b) ≤ 12000 := by
 have h := rec_count ((treeR a).1 ra) ((treeR b).1 rb) wa wb
 exact ⟨h.1, Nat.le_trans (new_both _).1 h.2⟩
theorem mk_both {a b : List En} (ra : Zw a = true) (rb : Zw b = true) (wa : weight a < 4000) (wb : weight b < 4000) : newS ((recL a b).reverse.map inv) ≤ 24000 := by
 have h := (rec_count ((treeR a).1 ra) ((treeR b).1 rb) wa wb).2
 obtain ⟨h1, h2⟩ := new_both (recL a b)
 have h3 := inv_new (recL a b)
 rw [List.map_reverse, newS_reverse]
 omega
theorem rmakes_walk (va : Option Addr) (n c : Nat) (a : List En) (vb : Option Addr) (m d : Nat) (b : List En) (W : World) (ht : TabsAt W) (hl : a.length = n) (ha : Z0 W va a) (hn : n ≤ 140737488355328) (hx : ∀ x ∈ a, x.lines.length ≤ 140737488355328) (hl2 : b.length = m) (ha2 : Z0 W vb b) (hn2 : m ≤ 140737488355328) (hx2 : ∀ x ∈ b, x.lines.length ≤ 140737488355328) :
  Calls Tryz.prog 4 #[.slice va n c, .slice vb m d] W fun e w' => e = .returned (.bool true) ∧ Fr None' W w' := by
 have HG1 := Zz (fun w' (f : Fr None' W w') => great_any va n c a w' hl (ha.kept f) hn hx)
 have HG2 := Zz (fun w' (f : Fr None' W w') => great_any vb m d b w' hl2 (ha2.kept f) hn2 hx2)
 unfold GreatPost at HG1 HG2
 have HL := Zz (And.intro hl hl2)
 have HE := Zz (show (∀ w', Fr None' W w' → Z0 w' va a) ∧ (∀ w', Fr None' W w' → Z0 w' vb b) from ⟨fun w' f => ha.kept f, fun w' f => ha2.kept f⟩)
 have HT := Zz (fun w' (f : Fr None' W w') => ht.kept f)
 have HF0 := Zz (Fr.refl None' W)
 have q1 := head12_any W ht
 clear ht hl ha hn hx hl2 ha2 hn2 hx2
 go_enter Tryz.func4, Tryz.ntmps4
 go_wp2_with fail
 with_reducible refine q1.mono ?_
 rintro e w1 ⟨rfl, f⟩
 have HF1 := Zz (HF0.out.then7 f)
 clear q1 f HF0
 have q2 := HG1.out w1 HF1.out
 clear HG1
 go_wp2_with fail
 with_reducible refine q2.mono ?_
 rintro e w2 ⟨g, rfl, hg, f⟩
 have HF2 := Zz (HF1.out.then7 f)
 have HGf := Zz hg
 clear q2 f hg HF1
 cases g with
 | true =>
  go_wp2_with fail
  go_ret
  exact ⟨rfl, HF2.out⟩
 | false =>
 have HWa := Zz (HGf.out rfl)
 have q3 := HG2.out w2 HF2.out
 clear HGf HG2
 go_wp2_with fail
 with_reducible refine q3.mono ?_
 rintro e w3 ⟨g, rfl, hg, f⟩
 have HF3 := Zz (HF2.out.then7 f)
 have HGf := Zz hg
 clear q3 f hg HF2
 cases g with
 | true =>
  go_wp2_with fail
  go_ret
  exact ⟨rfl, HF3.out⟩
 | false =>
 have HWb := Zz (HGf.out rfl)
 have q5 := record12_any va vb n c m d a b w3 HL.out.1 HL.out.2 (HE.out.1 w3 HF3.out) (HE.out.2 w3 HF3.out) HWa.out HWb.out (HT.out w3 HF3.out)
 have HRa := Zz (fun w' f => eright_any va n c a w' HL.out.1 (HE.out.1 w' f) (by have := (Z8 HWa.out).2.1; have := HL.out.1; omega) (Z8 HWa.out).1)
 have HRb := Zz (fun w' f => eright_any vb m d b w' HL.out.2 (HE.out.2 w' f) (by have := (Z8 HWb.out).2.1; have := HL.out.2; omega) (Z8 HWb.out).1)
 clear HGf HT
 cases ra : Zw a with
 | false =>
  replace q5 := rec12_no (.inl ra) q5
  rw [ra] at HRa
  clear ra
  go_wp2_with fail
  with_reducible refine q5.mono ?_
  rintro e w5 ⟨rfl, f⟩
  have HF5 := Zz (HF3.out.then7 f)
  have q8 := HRa.out w5 HF5.out
  clear q5 f HF3
  go_wp2_with fail
  with_reducible refine q8.mono ?_
  rintro e w8 ⟨rfl, f⟩
  have HF8 := Zz (HF5.out.then7 f)
  clear q8 f HF5
  go_wp2_with fail
  go_ret
  exact ⟨rfl, HF8.out⟩
 | true =>
 cases rb : Zw b with
 | false =>
  replace q5 := rec12_no (.inr rb) q5
  rw [ra] at HRa
  rw [rb] at HRb
  clear ra rb
  go_wp2_with fail
  with_reducible refine q5.mono ?_
  rintro e w5 ⟨rfl, f⟩
  have HF5 := Zz (HF3.out.then7 f)
  have q8 := HRa.out w5 HF5.out
  clear q5 f HF3
  go_wp2_with fail
  with_reducible refine q8.mono ?_
  rintro e w8 ⟨rfl, f⟩
  have HF8 := Zz (HF5.out.then7 f)
  have q9 := HRb.out w8 HF8.out
  clear q8 f HF5
  go_wp2_with fail
  with_reducible refine q9.mono ?_
  rintro e w9 ⟨rfl, f⟩
  have HF9 := Zz (HF8.out.then7 f)
  clear q9 f HF8
  go_wp2_with fail
  go_ret
  exact ⟨rfl, HF9.out⟩
 | true =>
  replace q5 := rec12_yes ra rb q5
  have k1 := mk_count ra rb HWa.out HWb.out
  have k2 := mk_both ra rb HWa.out HWb.out
  have hA := show allE a (recL a b) = (b, 0, 0) from by rw [runE_good ra]; exact mk_all ra rb HWb.out
  have hS := rec_sm (a := a) (b := b) HWa.out HWb.out
  have hI := (all_many hA (Z8 HWa.out).2.2 hS).2.2
  have hC := all_coal hA
  have hCn := coal_new (recL a b)
  clear ra rb HRa HRb
  obtain ⟨X, hX⟩ : ∃ X, recL a b = X := ⟨_, rfl⟩
  rw [hX] at q5 k1 k2 hA hS hI hC hCn
  have HK := Zz (show X.length ≤ 20000 ∧ newS X ≤ 12000 ∧ newS (X.reverse.map inv) ≤ 24000 ∧ newS (coalP X) ≤ 12000 from ⟨k1.1, k1.2, k2, Nat.le_trans hCn k1.2⟩)
  have HS := Zz (show (∀ p ∈ X, SmPr p) ∧ (∀ p ∈ X.reverse.map inv, SmPr p) ∧ (∀ p ∈ coalP X, SmPr p) from ⟨hS, inv_sms hS, coal_sm hS⟩)
  have HQx := Zz (fun (p : Option Addr) (k r : Nat) (Z : List Pr) w' f (hk : Z.length = k) (hz : PrsAt w' p Z) (h2 : k ≤ 20000) (h3 : newS Z ≤ 24000) (h4 : ∀ p ∈ Z, SmPr p) => all8_any va n c a p k r Z 4000 w' HL.out.1 (HE.out.1 w' f) (by have := (Z8 HWa.out).2.1; have := HL.out.1; omega) (Z8 HWa.out).1 hk hz (by omega) (Z8 HWa.out).2.2 (by rw [newTo_all]; omega) h4)
  have HQy := Zz (fun (p : Option Addr) (k r : Nat) (Z : List Pr) w' f (hk : Z.length = k) (hz : PrsAt w' p Z) (h2 : k ≤ 20000) (h3 : newS Z ≤ 24000) (h4 : ∀ p ∈ Z, SmPr p) => all8_any vb m d b p k r Z 4000 w' HL.out.2 (HE.out.2 w' f) (by have := (Z8 HWb.out).2.1; have := HL.out.2; omega) (Z8 HWb.out).1 hk hz (by omega) (Z8 HWb.out).2.2 (by rw [newTo_all]; omega) h4)
  have HSa := Zz (fun vz cz w' (f : Fr None' W w') (hz : Z0 w' vz a) => esame_any vz va n cz c a w' HL.out.1 hz (HE.out.1 w' f) (by have := (Z8 HWa.out).2.1; have := HL.out.1; omega) (Z8 HWa.out).1)
  have HSb := Zz (fun vz cz w' (f : Fr None' W w') (hz : Z0 w' vz b) => esame_any vz vb m cz d b w' HL.out.2 hz (HE.out.2 w' f) (by have := (Z8 HWb.out).2.1; have := HL.out.2; omega) (Z8 HWb.out).1)
  have HA := Zz (And.intro hA (And.intro hI hC))
  clear k1 k2 hA hS hI hC hCn hX
  go_wp2_with fail
  with_reducible refine q5.mono ?_
  rintro e w5 ⟨p5, n5, c5, rfl, HX, f⟩
  have HF5 := Zz (HF3.out.then7 f)
  have HXl := Zz HX.out.1
  have HXc := Zz HX.out.2.2
  have HP5 := Zz HX.out.2.1
  have hk5 : n5 ≤ 20000 := by have := HX.out.1; have := HK.out.1; omega
  have Hk5 := Zz hk5
  have q6 := HQx.out p5 n5 c5 X w5 HF5.out HXl.out HP5.out hk5 (by have := HK.out.2.1; omega) HS.out.1
  rw [HA.out.1] at q6
  unfold AllPost at q6
  simp only [HL.out.2] at q6
  clear q5 f HF3 HX hk5
  go_wp2_with fail
  with_reducible refine q6.mono ?_
  rintro e w6 ⟨v6, c6, rfl, HE6, _, f⟩
  have HF6 := Zz (HF5.out.then7 f)
  have HP6 := Zz (HP5.out.kept f)
  have q7 := all_any p5 n5 c5 X w6 HXl.out HP6.out (by have := Hk5.out; omega) (fun x hx => by have h := HS.out.1 x hx; have := h.old; have := h.new; omega)
  clear q6 f HF5 HP5
  go_wp2_with fail
  with_reducible refine q7.mono ?_
  rintro e w7 ⟨v7, V7, rfl, O7, f⟩
  obtain ⟨p7, c7, hv7, _, _, P7⟩ := O7.slice
  have hn7 : (X.reverse.map inv).length = n5 := by rw [List.length_map, List.length_reverse, HXl.out]
  rw [hn7] at hv7
  subst hv7
  have HF7 := Zz (HF6.out.then7 f)
  have HP7 := Zz (HP6.out.kept f)
  have HE7 := Zz (HE6.out.kept f)
  have q8 := HQy.out p7 n5 c7 (X.reverse.map inv) w7 HF7.out hn7 P7 Hk5.out HK.out.2.2.1 HS.out.2.1
  rw [HA.out.2.1] at q8
  unfold AllPost at q8
  simp only [HL.out.1] at q8
  clear q7 f HF6 HP6 HE6 O7 P7 hn7 V7
  go_wp2_with fail
  with_reducible refine q8.mono ?_
  rintro e w8 ⟨v8, c8, rfl, HE8, _, f⟩
  have HF8 := Zz (HF7.out.then7 f)
  have HP8 := Zz (HP7.out.kept f)
  have HX8 := Zz (HE7.out.kept f)
  have q9 := coalesce_any p5 n5 c5 X w8 HXl.out HP8.out HXc.out.1 HXc.out.2.1 HXc.out.2.2 (by have := Hk5.out; omega) (fun x hx => (HS.out.1 x hx).small)
  clear q8 f HF7 HP7 HE7
  go_wp2_with fail
  with_reducible refine q9.mono ?_
  rintro e w9 ⟨p9, n9, c9, rfl, H9⟩
  obtain ⟨V9, O9, hn9, f, _⟩ := H9.out
  obtain ⟨p9', c9', e9, _, _, P9⟩ := O9.slice
  obtain ⟨rfl, -, rfl⟩ : p9 = p9' ∧ n9 = (coalP X).length ∧ c9 = c9' := by simpa using e9
  have HF9 := Zz (HF8.out.then7 f)
  have HX9 := Zz (HX8.out.kept f)
  have HY9 := Zz (HE8.out.kept f)
  have q10 := HQx.out p9 n9 c9 (coalP X) w9 HF9.out hn9 P9 (by have := coal_len X; have := HK.out.1; omega) (by have := HK.out.2.2.2; omega) HS.out.2.2
  rw [HA.out.2.2] at q10
  unfold AllPost at q10
  simp only [HL.out.2] at q10
  clear q9 f HF8 HP8 HX8 HE8 H9 O9 hn9 P9 V9 e9 HQx HQy
  go_wp2_with fail
  with_reducible refine q10.mono ?_
  rintro e w10 ⟨v10, c10, rfl, HE10, _, f⟩
  have HF10 := Zz (HF9.out.then7 f)
  have HY10 := Zz (HY9.out.kept f)
  have q11 := HSb.out v6 c6 w10 HF10.out (HX9.out.kept f)
  clear q10 f HF9 HX9 HY9
  go_wp2_with fail
  with_reducible refine q11.mono ?_
  rintro e w11 ⟨rfl, f⟩
  have HF11 := Zz (HF10.out.then7 f)
  have HZ11 := Zz (HE10.out.kept f)
  have q12 := HSa.out v8 c8 w11 HF11.out (HY10.out.kept f)
  clear q11 f HF10 HY10
  go_wp2_with fail
  with_reducible refine q12.mono ?_
  rintro e w12 ⟨rfl, f⟩
  have HF12 := Zz (HF11.out.then7 f)
  have q13 := HSb.out v10 c10 w12 HF12.out (HZ11.out.kept f)
  clear q12 f HF11
  go_wp2_with fail
  with_reducible refine q13.mono ?_
  rintro e w13 ⟨rfl, f⟩
  have HF13 := Zz (HF12.out.then7 f)
  clear q13 f HF12
  go_wp2_with fail
  go_ret
  exact ⟨rfl, HF13.out⟩
end Go.Proofs.YtbnfjjjdnbcehaaGreatDoor
