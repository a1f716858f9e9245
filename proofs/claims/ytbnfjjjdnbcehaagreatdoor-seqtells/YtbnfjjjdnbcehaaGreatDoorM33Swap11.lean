/- What is proved here: contracts that SeqTells stands on. Conditions: as each theorem names them. -/
import Derived.Test.YtbnfjjjdnbcehaaGreatDoorMSwapD11
import Derived.Test.YtbnfjjjdnbcehaaGreatDoorM1Base
import Derived.Test.YtbnfjjjdnbcehaaGreatDoorM29Settle11
set_option maxHeartbeats 16000000
namespace Go.Proofs.YtbnfjjjdnbcehaaGreatDoor
open Go.RowKit Go.Shelf
set_option maxRecDepth 100000
attribute [local go_sem] Oper.semAt_some
theorem Zh.boxed {base : Nat} {w : World} {v : Value} {L : List Pr} {V : List (Value × Value)} (h : Zh base w v L V) {g : Nat} {x : Value} (hg : w.heap[g]? = some (.cells #[x] 22 (0, 0))) (hx : ∃ p n c, x = .slice p n c) (y : Value) : Zh base (w.setCell ⟨g, 0, none⟩ y) v L V := by
 have key : ∀ (u : Value) (l : List ByteArray), Zv w u l → l ≠ [] → ∀ j, u.ownBlock = some j → ¬ j = g := fun u l hs hl j e ej => by
  obtain ⟨pa, ca, rfl, _, _, hr⟩ := hs
  cases hll : l with
  | nil => exact hl hll
  | cons z l =>
   obtain ⟨g', o, e', hc⟩ := hr 0 z (by rw [hll]; rfl)
   subst e'
   cases e
   subst ej
   obtain ⟨p, n, c, rfl⟩ := hx
   rw [World.cell?, hg] at hc
   simp only [Nat.add_zero] at hc
   cases o with
   | zero => simp at hc
   | succ o => simp at hc
 refine h.fr2 (Fr.setQ w g 0 y) (fun k e ek => ?_) (fun k z u e1 e2 => ?_)
 ·rcases h.row.2 with ⟨hv, _⟩ | ⟨g', cap, cur, hv, _, hh, _⟩
  ·rw [hv] at e; cases e
  ·rw [hv] at e
   cases e
   subst ek
   rw [hg] at hh
   simp at hh
 ·obtain ⟨s1, s2, _, _⟩ := h.str k z u e1 e2
  exact ⟨fun hl j e => key _ _ s1 hl j e, fun hl j e => key _ _ s2 hl j e⟩
theorem results_three {fn : Func} {p q r : Tmp} {t1 t2 t3 : TypeId} (h : fn.results = #[.cell p t1, .cell q t2, .cell r t3]) (tmps : Array Value) {P : Program} {w : World} {a b c : Addr} {x y z : Value} (hp : tmps.getD p undef = .pointer (some a)) (hq : tmps.getD q undef = .pointer (some b)) (hr : tmps.getD r undef = .pointer (some c)) (h1 : (loadVar t1 a).run P w = .ok x w) (h2 : (loadVar t2 b).run P w = .ok y w) (h3 : (loadVar t3 c).run P w = .ok z w) :
  (results fn tmps).run P w = .ok (.tuple #[x, y, z]) w := by
 have hp' : tmps[p]?.getD undef = .pointer (some a) := by simpa using hp
 have hq' : tmps[q]?.getD undef = .pointer (some b) := by simpa using hq
 have hr' : tmps[r]?.getD undef = .pointer (some c) := by simpa using hr
 simp [results, h, hp', hq', hr', asAddr, h1, h2, h3]
theorem load_slice {w : World} {g : Nat} {v : Value} (h : w.heap[g]? = some (.cells #[v] 22 (0, 0))) : (loadVar 22 ⟨g, 0, none⟩).run Tryz.prog w = .ok v w := by
 have h1 : w.cell? ⟨g, 0, none⟩ = some v := by rw [World.cell?, h]; rfl
 go_simp
theorem load_bool {w : World} {g : Nat} {v : Bool} (h : w.heap[g]? = some (.cells #[.bool v] 4 (0, 0))) : (loadVar 4 ⟨g, 0, none⟩).run Tryz.prog w = .ok (.bool v) w := by
 have h1 : w.cell? ⟨g, 0, none⟩ = some (.bool v) := by rw [World.cell?, h]; rfl
 go_simp
structure R1 (w1 : World) (va vb : Option Addr) (n c m d : Nat) (B : List Pr) (t7 t8 t14 t15 t16 t17 t18 : Value) (V : List (Value × Value)) (g4 g5 g6 : Nat) (S : Nat → Bool) (w' : World) : Prop where
 fr : Fr None' w1 w'
 o0 : S 0 = true → t14 = .slice vb m d
 o2 : S 2 = true → t16 = .slice va n c
 o3 : S 3 = true → t17 = .int .i64 n
 o1 : S 1 = true → Zh w1.heap.size w' t15 B V ∧ ∀ u ∈ V, ∀ j, (u.1.ownBlock = some j ∨ u.2.ownBlock = some j) → w1.heap.size ≤ j
 o4 : S 4 = true → t18 = .slice (some ⟨g4, 0, none⟩) n n ∧ Zh w1.heap.size w' t18 (List.replicate n Yr) (List.replicate n (.slice none 0 0, .slice none 0 0))
 o5 : S 5 = true → t7 = .pointer (some ⟨g5, 0, none⟩) ∧ w1.heap.size ≤ g5 ∧ w'.heap[g5]? = some (.cells #[if S 7 then t15 else .slice none 0 0] 22 (0, 0))
 o6 : S 6 = true → t8 = .pointer (some ⟨g6, 0, none⟩) ∧ w1.heap.size ≤ g6 ∧ w'.heap[g6]? = some (.cells #[if S 8 then t18 else .slice none 0 0] 22 (0, 0))
 o56 : S 5 = true → S 6 = true → ¬ g5 = g6
 o7 : S 7 = true → S 1 = true ∧ S 5 = true
 o8 : S 8 = true → S 4 = true ∧ S 6 = true
theorem Zh.sl {base : Nat} {w : World} {v : Value} {L : List Pr} {V : List (Value × Value)} (h : Zh base w v L V) : ∃ p n c, v = .slice p n c := by
 obtain ⟨p, c, hv, _⟩ := h.slice
 exact ⟨p, _, c, hv⟩
def SwapNo (w : World) (L B : List Pr) (c : Code) (_pre : List (Nat × Value)) (W : World) : Prop := c = .ret ∧ Z1 L B = ([], [], false) ∧ Fr None' w W ∧ W.heap[w.heap.size]? = some (.cells #[.slice none 0 0] 22 (0, 0)) ∧ W.heap[w.heap.size + 1]? = some (.cells #[.slice none 0 0] 22 (0, 0)) ∧ W.heap[w.heap.size + 1 + 1]? = some (.cells #[.bool false] 4 (0, 0))
theorem SwapNo.abide {w : World} {L B : List Pr} {base : Nat} (hb : w.heap.size ≤ base) (c : Code) : AbideN base None' (SwapNo w L B c) := fun _ A' B' h f => by
 obtain ⟨h1, h2, h3, h4, h5, h6⟩ := h
 exact ⟨h1, h2, h3.trans f (fun i e => e.elim (fun e => e.elim) (fun e => Or.inr (by omega))), f.at h4 (fun e => e.elim (fun e => e) (fun e => e.2 _ _ _ h4)), f.at h5 (fun e => e.elim (fun e => e) (fun e => e.2 _ _ _ h5)), f.at h6 (fun e => e.elim (fun e => e) (fun e => e.2 _ _ _ h6))⟩
def Inv8 (T : Value → Value → Value → Value → Value → Array Value) (X0 X1 X2 : World) (v32 v33 v34 v35 v36 : Value) (S : Nat → Bool) (a : Act) (w' : World) : Prop := ∃ t32 t33 t34 t35 t36, a = { tmps := T t32 t33 t34 t35 t36, defers := [] } ∧ Hid (w' = if S 6 = true then X2 else if S 4 = true then X1 else X0) ∧ (S 0 = true → t32 = v32) ∧ (S 1 = true → t33 = v33) ∧ (S 2 = true → t34 = v34) ∧ (S 3 = true → t35 = v35) ∧ (S 5 = true → t36 = v36) ∧ (S 6 = true → S 0 = true ∧ S 1 = true ∧ S 2 = true ∧ S 3 = true ∧ S 4 = true ∧ S 5 = true)
def Inv9 (T : Value → Value → Array Value) (ds : List Deferred) (b : Nat) (W : World) (v37 v38 : Value) (S : Nat → Bool) (a : Act) (w' : World) : Prop := ∃ t37 t38, a = { tmps := T t37 t38, defers := ds } ∧ Fr (fun k => k = b ∨ k = b + 1 ∨ k = b + 1 + 1) W w' ∧ w'.heap[b]? = some (.cells #[if S 2 = true then t37 else .slice none 0 0] 22 (0, 0)) ∧ w'.heap[b + 1]? = some (.cells #[if S 3 = true then t38 else .slice none 0 0] 22 (0, 0)) ∧ w'.heap[b + 1 + 1]? = some (.cells #[.bool (S 4)] 4 (0, 0)) ∧ (S 0 = true → t37 = v37) ∧ (S 1 = true → t38 = v38) ∧ (S 2 = true → S 0 = true) ∧ (S 3 = true → S 1 = true)
@[reducible] def setNo (w : World) (b : Nat) (x y : Value) (z : Bool) : World := ((w.setCell ⟨b, 0, none⟩ x).setCell ⟨b + 1, 0, none⟩ y).setCell ⟨b + 1 + 1, 0, none⟩ (.bool z)
theorem no_sets (w : World) (b : Nat) : Fr (fun k => k = b ∨ k = b + 1 ∨ k = b + 1 + 1) w (setNo w b (.slice none 0 0) (.slice none 0 0) false) :=
 (((Fr.setQ w b 0 _).mono (fun _ e => Or.inl e)).then ((Fr.setQ _ (b + 1) 0 _).mono (fun _ e => Or.inr (Or.inl e)))).then ((Fr.setQ _ (b + 1 + 1) 0 _).mono (fun _ e => Or.inr (Or.inr e)))
theorem no_set1 {w : World} {b : Nat} {u x y : Value} {z : Bool} (h : w.heap[b]? = some (.cells #[u] 22 (0, 0))) : (setNo w b x y z).heap[b]? = some (.cells #[x] 22 (0, 0)) := by
 have e1 := Go.heap_setCell_same w b 0 _ _ x h
 exact (Fr.setQ _ (b + 1 + 1) 0 _).at ((Fr.setQ _ (b + 1) 0 _).at (by simpa using e1) (by omega)) (by omega)
theorem no_set2 {w : World} {b : Nat} {u x y : Value} {z : Bool} (h : w.heap[b + 1]? = some (.cells #[u] 22 (0, 0))) : (setNo w b x y z).heap[b + 1]? = some (.cells #[y] 22 (0, 0)) := by
 have e0 : (w.setCell ⟨b, 0, none⟩ x).heap[b + 1]? = some (.cells #[u] 22 (0, 0)) := (Fr.setQ w b 0 _).at h (by omega)
 have e1 := Go.heap_setCell_same _ (b + 1) 0 _ _ y e0
 exact (Fr.setQ _ (b + 1 + 1) 0 _).at (by simpa using e1) (by omega)
theorem no_set3 {w : World} {b : Nat} {u x y : Value} {z : Bool} (h : w.heap[b + 1 + 1]? = some (.cells #[u] 4 (0, 0))) : (setNo w b x y z).heap[b + 1 + 1]? = some (.cells #[.bool z] 4 (0, 0)) := by
 have e0 : ((w.setCell ⟨b, 0, none⟩ x).setCell ⟨b + 1, 0, none⟩ y).heap[b + 1 + 1]? = some (.cells #[u] 4 (0, 0)) := (Fr.setQ _ (b + 1) 0 _).at ((Fr.setQ w b 0 _).at h (by omega)) (by omega)
 have e1 := Go.heap_setCell_same _ (b + 1 + 1) 0 _ _ (.bool z) e0
 simpa using e1
def Inv1 (w w1 : World) (va vb : Option Addr) (n c m d : Nat) (B : List Pr) (S : Nat → Bool) (a : Act) (w' : World) : Prop := ∃ t7 t8 t14 t15 t16 t17 t18 V g4 g5 g6, a = { tmps := #[.slice va n c, .slice vb m d, undef, undef, .pointer (some ⟨w.heap.size, 0, none⟩), .pointer (some ⟨w.heap.size + 1, 0, none⟩), .pointer (some ⟨w.heap.size + 1 + 1, 0, none⟩), t7, t8, undef, undef, undef, undef, undef, t14, t15, t16, t17, t18, undef, undef, undef, undef, undef, undef, undef, undef, undef, undef, undef, undef, undef, undef, undef, undef, undef, undef, undef, undef], defers := [] } ∧ R1 w1 va vb n c m d B t7 t8 t14 t15 t16 t17 t18 V g4 g5 g6 S w'
theorem swap_any (hC : CommuteAll) (va vb : Option Addr) (n c m d : Nat) (L B : List Pr) (w : World) (hl : L.length = n) (hm : B.length = m) (ha : Zc w va L) (hb : Zc w vb B) (hd : vb = none → d = 0) (hn : n ≤ 200) (hm2 : m ≤ 200) (hs : ∀ x ∈ L, Zs x) (ht : ∀ x ∈ B, Zs x) :
  Calls Tryz.prog 10 #[.slice va n c, .slice vb m d] w fun e w' => ∃ v u, e = .returned (.tuple #[v, u, .bool (Z1 L B).2.2]) ∧ PrsIn w' v (Z1 L B).1 ∧ PrsIn w' u (Z1 L B).2.1 ∧ Fr None' w w' := by
 have i1 : (n : Int) ≤ 200 := by omega
 have i2 : (0 : Int) ≤ (n : Int) := by omega
 obtain ⟨w1, hw1⟩ : ∃ w1, ((w.alloc (.cells #[.slice none 0 0] 22)).alloc (.cells #[.slice none 0 0] 22)).alloc (.cells #[.bool false] 4) = w1 := ⟨_, rfl⟩
 have F1 : Fr None' w w1 := hw1 ▸ alloc10 (alloc10 (Fr.alloc None' _ _) _) _
 have HCp := Zy (fun w' (f : Fr None' w1 w') => copiedR_any vb m d B w' hm ((hb.kept F1).kept f) hd (by omega) (fun x hx => by have h1 := (ht x hx).old; have h2 := (ht x hx).new; omega))
 obtain ⟨U, hU1, hU2, hU3⟩ : ∃ U : List (Value × Value), U.length = L.length ∧ RowC w va (pcells L U) ∧ ∀ (k : Nat) (x : Pr) (u : Value × Value), L[k]? = some x → U[k]? = some u → Zv w u.1 x.old ∧ Zv w u.2 x.new := by
  cases L with
  | nil => exact ⟨[], rfl, fun j v h => by simp [pcells] at h, fun k x u e => by simp at e⟩
  | cons x L =>
   obtain ⟨g, o, rfl, _⟩ := ha 0 x rfl
   obtain ⟨U, h1, h2, h3⟩ := prs_cells (x :: L) o ha
   exact ⟨U, h1, fun j v h => ⟨g, o, rfl, h2 j v h⟩, h3⟩
 have hva : L ≠ [] → ∀ a, va = some a → a.block < w1.heap.size := fun hne a e => by
  cases L with
  | nil => exact absurd rfl hne
  | cons x L =>
   obtain ⟨g, o, e', hc⟩ := ha 0 x rfl
   rw [e'] at e
   cases e
   obtain ⟨_, _, h0, _⟩ := hc
   exact Nat.lt_of_lt_of_le (cell_lt h0) F1.size
 have hsl : ∀ u ∈ U, (∃ a n c, u.1 = .slice a n c) ∧ ∃ a n c, u.2 = .slice a n c := fun u hu => by
  obtain ⟨j, hj, rfl⟩ := List.getElem_of_mem hu
  obtain ⟨⟨p1, c1, e1, _⟩, p2, c2, e2, _⟩ := hU3 j (L[j]'(by omega)) U[j] (List.getElem?_eq_getElem (by omega)) (List.getElem?_eq_getElem hj)
  exact ⟨⟨_, _, _, e1⟩, _, _, _, e2⟩
 refine (callsIn_wide (n := 3)).1 ?_
 refine callsIn_of_wp_marks Tryz.func10 rfl trivial ?_ rfl
 simp only [Tryz.ntmps10, List.size_toArray, List.length_cons, List.length_nil, Nat.reduceAdd, Nat.reduceSub, Array.replicate_succ, Array.replicate_zero, List.push_toArray, List.append_toArray, List.nil_append, List.cons_append]
 gi_wp2_with fail
 refine region_inv (by kernel_rfl) (by decide +kernel) (Inv1 w w1 va vb n c m d B) ?h0 ?step ?done
 case h0 => exact ⟨undef, undef, undef, undef, undef, undef, undef, [], 0, 0, 0, rfl, Fr.drew None' w1, (fun h => by cases h), (fun h => by cases h), (fun h => by cases h), (fun h => by cases h), (fun h => by cases h), (fun h => by cases h), (fun h => by cases h), (fun h => by cases h), (fun h => by cases h), (fun h => by cases h)⟩
 case step =>
  rintro S a w' ⟨t7, t8, t14, t15, t16, t17, t18, V, g4, g5, g6, rfl, R⟩
  refine Z3.cons (fun h0 hd => ?s0) (Z3.cons (fun h0 hd => ?s1) (Z3.cons (fun h0 hd => ?s2) (Z3.cons (fun h0 hd => ?s3) (Z3.cons (fun h0 hd => ?s4) (Z3.cons (fun h0 hd => ?s5) (Z3.cons (fun h0 hd => ?s6) (Z3.cons (fun h0 hd => ?s7) (Z3.cons (fun h0 hd => ?s8) Z3.nil))))))))
  case s0 =>
   clear hd
   go_simp
   exact ⟨t7, t8, _, t15, t16, t17, t18, V, g4, g5, g6, rfl, R.fr, (fun _ => rfl), R.o2, R.o3, R.o1, R.o4, R.o5, R.o6, R.o56, R.o7, R.o8⟩
  case s1 =>
   have e14 := R.o0 (hd { on := 0, ground := .data } (by simp) rfl)
   have h7 : S 7 = false := by
    cases h : S 7 with
    | false => rfl
    | true => exact absurd (R.o7 h).1 (by rw [h0]; decide)
   subst e14
   clear hd
   go_simp
   refine ⟨trivial, (callsIn_wide.2 (HCp.out w' R.fr)).mono ?_⟩
   rintro e w'' ⟨v', V', rfl, hO, f, hV⟩
   refine ⟨t7, t8, _, v', t16, t17, t18, V', g4, g5, g6, rfl, R.fr.then7 f, R.o0, R.o2, R.o3, (fun _ => ⟨hO.weaken R.fr.size, fun u hu j e => Nat.le_trans R.fr.size (hV u hu j e)⟩), (fun h => ⟨(R.o4 h).1, (R.o4 h).2.kept f⟩), (fun h => ?_), (fun h => ⟨(R.o6 h).1, (R.o6 h).2.1, f.at (R.o6 h).2.2 (fun e => e)⟩), R.o56, (fun h => ⟨rfl, (R.o7 h).2⟩), R.o8⟩
   obtain ⟨x1, x2, x3⟩ := R.o5 h
   refine ⟨x1, x2, ?_⟩
   rw [h7] at x3
   show w''.heap[g5]? = some (.cells #[if S 7 = true then v' else .slice none 0 0] 22 (0, 0))
   rw [h7]
   exact f.at x3 (fun e => e)
  case s2 =>
   clear hd
   go_simp
   exact ⟨t7, t8, t14, t15, _, t17, t18, V, g4, g5, g6, rfl, R.fr, R.o0, (fun _ => rfl), R.o3, R.o1, R.o4, R.o5, R.o6, R.o56, R.o7, R.o8⟩
  case s3 =>
   have e16 := R.o2 (hd { on := 2, ground := .data } (by simp) rfl)
   subst e16
   clear hd
   go_simp
   exact ⟨t7, t8, t14, t15, _, _, t18, V, g4, g5, g6, rfl, R.fr, R.o0, R.o2, (fun _ => rfl), R.o1, R.o4, R.o5, R.o6, R.o56, R.o7, R.o8⟩
  case s4 =>
   have e17 := R.o3 (hd { on := 3, ground := .data } (by simp) rfl)
   have h8 : S 8 = false := by
    cases h : S 8 with
    | false => rfl
    | true => exact absurd (R.o8 h).1 (by rw [h0]; decide)
   subst e17
   obtain ⟨w'', hmk, hw'', hO⟩ := makeP_run w' n (by omega)
   have f : Fr None' w' w'' := hw'' ▸ Fr.alloc None' w' _
   clear hd hw''
   go_simp
   refine ⟨t7, t8, t14, t15, t16, _, _, V, w'.heap.size, g5, g6, rfl, R.fr.then7 f, R.o0, R.o2, (fun _ => rfl), (fun h => ⟨(R.o1 h).1.kept f, (R.o1 h).2⟩), (fun _ => ⟨rfl, hO.weaken R.fr.size⟩), (fun h => ⟨(R.o5 h).1, (R.o5 h).2.1, f.at (R.o5 h).2.2 (fun e => e)⟩), (fun h => ?_), R.o56, R.o7, (fun h => ⟨rfl, (R.o8 h).2⟩)⟩
   obtain ⟨x1, x2, x3⟩ := R.o6 h
   refine ⟨x1, x2, ?_⟩
   rw [h8] at x3
   show w''.heap[g6]? = some (.cells #[if S 8 = true then _ else .slice none 0 0] 22 (0, 0))
   rw [h8]
   exact f.at x3 (fun e => e)
  case s5 =>
   have h7 : S 7 = false := by
    cases h : S 7 with
    | false => rfl
    | true => exact absurd (R.o7 h).2 (by rw [h0]; decide)
   clear hd
   go_simp
   have f : Fr None' w' (w'.alloc (.cells #[.slice none 0 0] 22)) := Fr.alloc None' w' _
   refine ⟨_, t8, t14, t15, t16, t17, t18, V, g4, w'.heap.size, g6, rfl, R.fr.then7 f, R.o0, R.o2, R.o3, (fun h => ⟨(R.o1 h).1.kept f, (R.o1 h).2⟩), (fun h => ⟨(R.o4 h).1, (R.o4 h).2.kept f⟩), (fun _ => ⟨rfl, R.fr.size, ?_⟩), (fun h => ⟨(R.o6 h).1, (R.o6 h).2.1, f.at (R.o6 h).2.2 (fun e => e)⟩), (fun _ h e => ?_), (fun h => absurd h (by show ¬ S 7 = true; rw [h7]; decide)), R.o8⟩
   ·show (w'.alloc (.cells #[.slice none 0 0] 22)).heap[w'.heap.size]? = some (.cells #[if S 7 = true then t15 else .slice none 0 0] 22 (0, 0))
    rw [h7]
    exact heap_alloc_new w' _
   ·have := (Array.getElem?_eq_some_iff.1 (R.o6 h).2.2).1
    omega
  case s6 =>
   have h8 : S 8 = false := by
    cases h : S 8 with
    | false => rfl
    | true => exact absurd (R.o8 h).2 (by rw [h0]; decide)
   clear hd
   go_simp
   have f : Fr None' w' (w'.alloc (.cells #[.slice none 0 0] 22)) := Fr.alloc None' w' _
   refine ⟨t7, _, t14, t15, t16, t17, t18, V, g4, g5, w'.heap.size, rfl, R.fr.then7 f, R.o0, R.o2, R.o3, (fun h => ⟨(R.o1 h).1.kept f, (R.o1 h).2⟩), (fun h => ⟨(R.o4 h).1, (R.o4 h).2.kept f⟩), (fun h => ⟨(R.o5 h).1, (R.o5 h).2.1, f.at (R.o5 h).2.2 (fun e => e)⟩), (fun _ => ⟨rfl, R.fr.size, ?_⟩), (fun h _ e => ?_), R.o7, (fun h => absurd h (by show ¬ S 8 = true; rw [h8]; decide))⟩
   ·show (w'.alloc (.cells #[.slice none 0 0] 22)).heap[w'.heap.size]? = some (.cells #[if S 8 = true then t18 else .slice none 0 0] 22 (0, 0))
    rw [h8]
    exact heap_alloc_new w' _
   ·have := (Array.getElem?_eq_some_iff.1 (R.o5 h).2.2).1
    omega
  case s7 =>
   have h1 : S 1 = true := hd { on := 1, ground := .data } (by simp) rfl
   have h5 : S 5 = true := hd { on := 5, ground := .data } (by simp) rfl
   obtain ⟨rfl, hg5, hh5⟩ := R.o5 h5
   obtain ⟨hO1, hV1⟩ := R.o1 h1
   obtain ⟨p3, n3, c3, rfl⟩ := hO1.sl
   rw [if_neg (by rw [h0]; decide)] at hh5
   have z1 : w'.cell? ⟨g5, 0, none⟩ = some (.slice none 0 0) := by rw [World.cell?, hh5]; rfl
   have z2 : ∀ o, w'.frozen? ⟨g5, o, none⟩ = false := fun o => by unfold World.frozen?; rw [hh5]; simp
   clear hd
   go_simp
   have f : Fr (fun k => k = g5) w' (w'.setCell ⟨g5, 0, none⟩ (.slice p3 n3 c3)) := Fr.setQ _ _ _ _
   refine ⟨_, t8, t14, _, t16, t17, t18, V, g4, g5, g6, rfl, R.fr.trans f (fun i e => Or.inr (by omega)), R.o0, R.o2, R.o3, (fun _ => ⟨hO1.boxed hh5 ⟨_, _, _, rfl⟩ _, hV1⟩), (fun h => ⟨(R.o4 h).1, (R.o4 h).2.boxed hh5 ⟨_, _, _, rfl⟩ _⟩), (fun _ => ⟨rfl, hg5, ?_⟩), (fun h => ⟨(R.o6 h).1, (R.o6 h).2.1, f.at (R.o6 h).2.2 (fun e => R.o56 h5 h e.symm)⟩), R.o56, (fun _ => ⟨h1, h5⟩), R.o8⟩
   have := Go.heap_setCell_same w' g5 0 _ _ (.slice p3 n3 c3) hh5
   simpa [upd] using this
  case s8 =>
   have h4 : S 4 = true := hd { on := 4, ground := .data } (by simp) rfl
   have h6 : S 6 = true := hd { on := 6, ground := .data } (by simp) rfl
   obtain ⟨rfl, hg6, hh6⟩ := R.o6 h6
   obtain ⟨rfl, hO4⟩ := R.o4 h4
   rw [if_neg (by rw [h0]; decide)] at hh6
   have z1 : w'.cell? ⟨g6, 0, none⟩ = some (.slice none 0 0) := by rw [World.cell?, hh6]; rfl
   have z2 : ∀ o, w'.frozen? ⟨g6, o, none⟩ = false := fun o => by unfold World.frozen?; rw [hh6]; simp
   clear hd
   go_simp
   have f : Fr (fun k => k = g6) w' (w'.setCell ⟨g6, 0, none⟩ (.slice (some ⟨g4, 0, none⟩) n n)) := Fr.setQ _ _ _ _
   refine ⟨t7, _, t14, t15, t16, t17, _, V, g4, g5, g6, rfl, R.fr.trans f (fun i e => Or.inr (by omega)), R.o0, R.o2, R.o3, (fun h => ⟨(R.o1 h).1.boxed hh6 ⟨_, _, _, rfl⟩ _, (R.o1 h).2⟩), (fun _ => ⟨rfl, hO4.boxed hh6 ⟨_, _, _, rfl⟩ _⟩), (fun h => ⟨(R.o5 h).1, (R.o5 h).2.1, f.at (R.o5 h).2.2 (fun e => R.o56 h h6 e)⟩), (fun _ => ⟨rfl, hg6, ?_⟩), R.o56, R.o7, (fun _ => ⟨h4, h6⟩)⟩
   have := Go.heap_setCell_same w' g6 0 _ _ (.slice (some ⟨g4, 0, none⟩) n n) hh6
   simpa [upd] using this
 case done =>
  rintro S a w2 ⟨t7, t8, t14, t15, t16, t17, t18, V, bh, ba, bb, rfl, R⟩ hall
  obtain ⟨O1, V1⟩ := R.o1 (hall 1 (by simp))
  obtain ⟨rfl, O4⟩ := R.o4 (hall 4 (by simp))
  obtain ⟨rfl, ga, ha5⟩ := R.o5 (hall 5 (by simp))
  obtain ⟨rfl, gb, hb6⟩ := R.o6 (hall 6 (by simp))
  have dab := R.o56 (hall 5 (by simp)) (hall 6 (by simp))
  rw [if_pos (hall 7 (by simp))] at ha5
  rw [if_pos (hall 8 (by simp))] at hb6
  obtain rfl := R.o0 (hall 0 (by simp))
  obtain rfl := R.o2 (hall 2 (by simp))
  obtain rfl := R.o3 (hall 3 (by simp))
  have F2 := R.fr
  clear R hall
  have cB := backP_any va n c w2
  gi_wp2_with fail
  refine ⟨trivial, (callsIn_wide.2 cB).mono ?_⟩
  rintro e w3 ⟨rfl, hw3⟩
  clear cB
  gi_wp2_with fail
  have hsz : w2.heap.size < w3.heap.size := by rw [hw3]; simp
  have F3 : Fr None' w2 w3 := hw3 ▸ Fr.alloc None' w2 _
  have hbox : w3.cell? ⟨w2.heap.size, 0, none⟩ = some (.slice va n c) := by rw [hw3, World.cell?, heap_alloc_new]; rfl
  have lta := (Array.getElem?_eq_some_iff.1 ha5).1
  have ltb := (Array.getElem?_eq_some_iff.1 hb6).1
  obtain ⟨csh, hbh⟩ : ∃ cs, w2.heap[bh]? = some (.cells cs 43 (0, 0)) := by
   rcases O4.row.2 with ⟨hv, _⟩ | ⟨g', cap', cur, he, hb', hh, _⟩
   ·cases hv
   ·simp at he; rw [he.1]; exact ⟨_, hh⟩
  have lth := (Array.getElem?_eq_some_iff.1 hbh).1
  have gh := (O4.ge (k := bh) rfl).1
  have dah : ¬ ba = bh := fun e => by rw [e, hbh] at ha5; simp at ha5
  have dbh : ¬ bh = bb := fun e => by rw [← e, hbh] at hb6; simp at hb6
  have hAt : SwapAt w1 ba bb bh w2.heap.size n L B U [] w3 := ⟨F2.then7 F3, ⟨by omega, by omega, by omega, by omega⟩, F3.at hb6 (fun e => e), 0, n, t15, B, [], V, _, by omega, rfl, by rw [List.drop_of_length_le (by omega)]; rfl, F3.at ha5 (fun e => e), O1.kept F3, V1, by rw [List.append_nil]; exact O4.kept F3, fun u hu j e => by rw [List.eq_of_mem_replicate hu] at e; rcases e with e | e <;> cases e⟩
  have hdd : ¬ ba = w2.heap.size := by omega
  have hdh : ¬ bh = w2.heap.size := by omega
  rw [← hw3]
  have HB4 : Hid (w1.heap[w.heap.size]? = some (.cells #[.slice none 0 0] 22 (0, 0)) ∧ w1.heap[w.heap.size + 1]? = some (.cells #[.slice none 0 0] 22 (0, 0)) ∧ w1.heap[w.heap.size + 1 + 1]? = some (.cells #[.bool false] 4 (0, 0)) ∧ w1.heap.size = w.heap.size + 3) := by
   have e1 := heap_alloc_new w (.cells #[.slice none 0 0] 22)
   have e2 := heap_two w (.cells #[.slice none 0 0] 22) (.cells #[.slice none 0 0] 22)
   have e3 := heap_alloc_new ((w.alloc (.cells #[.slice none 0 0] 22)).alloc (.cells #[.slice none 0 0] 22)) (.cells #[.bool false] 4)
   rw [hw1] at e3
   have fz : Fr None' ((w.alloc (.cells #[.slice none 0 0] 22)).alloc (.cells #[.slice none 0 0] 22)) w1 := hw1 ▸ Fr.alloc None' _ _
   exact ⟨fz.at ((Fr.alloc None' _ _).at e1 (fun e => e)) (fun e => e), fz.at e2 (fun e => e), by simpa using e3, by rw [← hw1]; simp⟩
  obtain ⟨p15, n15, c15, rfl⟩ := O1.sl
  refine range_box (α := Nat × Value) rfl (by omega) (gf := 54) (lb := #[.pointer (some ⟨w2.heap.size, 0, none⟩)]) rfl trivial (enters_of Tryz.func54 (by kernel_rfl) rfl) (backP_seq w2.heap.size _ c va L U n (fun k => k = w2.heap.size ∨ k < w1.heap.size) (Or.inl rfl) (fun hne a e => Or.inr (hva hne a e)) hU1 hl (by omega) hsl)
   (fun k hk => hk.elim) (fun W hb => ⟨(ofBelow hb).keepCell hbox (fun e => e), fun j v h => by
    obtain ⟨g, o, e, hc⟩ := hU2 j v h
    exact ⟨g, o, e, (((F1.then7 F2).then7 F3).then7 (ofBelow hb)).keepCell hc (fun e => e)⟩⟩) (fun h1 h2 => h1.trans h2) (fun W l o' hl' => KeepB.put W (fun k hk => by
    have := F2.size
    rcases hk with rfl | hk
    ·omega
    ·omega) o') (fun _ => rfl)
   (SwapAt w1 ba bb bh w2.heap.size n L B U) (SwapNo w L B) (SwapAt.abide (by have := F2.size; have := F3.size; omega)) (SwapNo.abide (by have := F1.size; have := F2.size; have := F3.size; omega)) hAt
   (BoxOf (fun p x => { tmps := #[.slice va n c, .slice vb m d, undef, undef, .pointer (some ⟨w.heap.size, 0, none⟩), .pointer (some ⟨w.heap.size + 1, 0, none⟩), .pointer (some ⟨w.heap.size + 1 + 1, 0, none⟩), .pointer (some ⟨ba, 0, none⟩), .pointer (some ⟨bb, 0, none⟩), .int .i64 x.1, .pointer (some ⟨p, 0, none⟩), undef, undef, undef, .slice vb m d, .slice p15 n15 c15, .slice va n c, .int .i64 n, .slice (some ⟨bh, 0, none⟩) n n, .slice va n c, .func (.func 54) #[] #[.pointer (some ⟨w2.heap.size, 0, none⟩)], .int .i64 x.1, x.2, undef, undef, undef, undef, undef, undef, undef, undef, undef, undef, undef, undef, undef, undef, undef, undef], defers := [] }))
   (fun A B f => KeepB.of f (fun _ _ e => e)) (fun x a' A B h f => ?keep) ?assign ?body ?done ?stop
  case keep =>
   obtain ⟨p, y0, y1, y2, y3, y4, y5, y6, h1, h2, h3⟩ := h
   exact ⟨p, y0, y1, y2, y3, y4, y5, y6, h1, h2, h3.fr f (fun e => e _ _ _ h3)⟩
  case assign =>
   rintro l pre x W K ⟨m, hm, hp⟩ hK
   obtain ⟨t, rfl, hpre, rfl⟩ := uptoB_snoc hp
   obtain ⟨k, hk⟩ : ∃ k, t + k + 1 = L.length := ⟨L.length - 1 - t, by omega⟩
   have hkL : k < L.length := by omega
   have hel := elB_get (L := aggs L U) (t := t) (k := k) (by rw [aggs_length hU1]; exact hk)
   rw [aggs_get hU1 hkL] at hel
   obtain ⟨⟨pa, na, ca, hua⟩, pb, nb, cb, hub⟩ := hsl (U[k]'(by omega)) (List.getElem_mem _)
   rw [hua, hub] at hel
   rw [hel] at hK ⊢
   generalize L[k] = x at hK ⊢
   obtain ⟨xK, xP, xT, xF, xA, xO, xN⟩ := x
   simp only at hK ⊢
   clear hel hua hub hp hAt hbox ha hb hU2 hU3 hs ht hsl O1 V1 O4 ha5 hb6 hbh
   gi_wp2_with fail
   exact hK _ _ (Fr.alloc _ _ _) ⟨W.heap.size, _, _, _, _, _, _, _, rfl, rfl, Box.new W _ _ _ _ _ _ _⟩
  case body =>
   rintro l pre x a' W hA ⟨m', hm', hp⟩ ⟨p, y0, y1, y2, y3, y4, y5, y6, hx2, rfl, hB⟩ hl'
   obtain ⟨t, rfl, hpre, rfl⟩ := uptoB_snoc hp
   obtain ⟨m1, k1, va1, A1, back1, V1', Vb1, h1, h2, h3, h4, h5, h6, h7, h8⟩ := hA.row
   have hmt : m1 = t := by
    have := congrArg List.length (hpre.symm.trans h2)
    rw [uptoB_length, uptoB_length] at this
    exact this.symm
   subst hmt
   obtain ⟨k, rfl⟩ : ∃ k, k1 = k + 1 := ⟨k1 - 1, by omega⟩
   have hk : m1 + k + 1 = L.length := by omega
   have hkL : k < L.length := by omega
   have hel := elB_get (L := aggs L U) (t := m1) (k := k) (by rw [aggs_length hU1]; exact hk)
   rw [aggs_get hU1 hkL] at hel
   obtain ⟨⟨pa, na, ca, hua⟩, pb, nb, cb, hub⟩ := hsl (U[k]'(by omega)) (List.getElem_mem _)
   obtain ⟨s1, s2⟩ := hU3 k L[k] (U[k]'(by omega)) (List.getElem?_eq_getElem hkL) (List.getElem?_eq_getElem (by omega))
   rw [hua] at s1
   rw [hub] at s2
   rw [hua, hub] at hel
   have HUP : Hid (pre ++ [elB (aggs L U) m1] = uptoB (aggs L U) (m1 + 1)) := hp
   obtain ⟨vz, cz, rfl, hcz, hvz, PA⟩ := h5.slice
   have fW : Fr None' w W := F1.then7 hA.fr
   obtain ⟨sA, _⟩ := swap_small _ B (fun y hy => hs y (List.mem_of_mem_drop hy)) ht (show (Z1 (L.drop (k + 1)) B).2.2 = true by rw [h3])
   rw [h3] at sA
   have lA : A1.length ≤ 200 := by
    have := swap_len (L.drop (k + 1)) B
    rw [h3] at this
    exact Nat.le_trans this (by omega)
   have cT := past_new hC L[k] (.slice pa na ca) (.slice pb nb cb) vz A1.length cz A1 W (s1.kept fW) (s2.kept fW) (hs _ (List.getElem_mem hkL)) rfl lA PA sA
   have HStep := Zy (fun (A' : List Pr) (y : Pr) (hp : Zk L[k] A1 = (A', y, true)) w5 (f5 : Fr None' W w5) (pv vo vn : Value) (V' : List (Value × Value)) hO hV s1 s2 g1 g2 => swap_step (pv := pv) (vo := vo) (vn := vn) (V' := V') (w5 := w5) (m := m1) hA ⟨ga, gh⟩ ⟨dab, dah, hdd⟩ ⟨dbh, hdh⟩ hl h1 h3 h4 h7 h8 hkL hp f5 hO hV s1 s2 g1 g2)
   have HNo := Zy (fun (A' : List Pr) (y : Pr) (hp : Zk L[k] A1 = (A', y, false)) => swap_fails hkL h3 hp)
   rw [hel] at hx2
   simp at hx2
   obtain ⟨rfl, rfl, rfl, rfl, rfl, rfl, rfl⟩ := hx2
   obtain ⟨b0, b1, b2, b3, b4, b5, b6⟩ := hB.cells
   rw [HUP.out, hel]
   have ca1 : W.cell? ⟨ba, 0, none⟩ = some (.slice vz A1.length cz) := by rw [World.cell?, h4]; rfl
   have HA := Zy hA
   have H4 := Zy h4
   have H7 := Zy h7
   obtain ⟨rp, hrp⟩ : ∃ r, Zk L[k] A1 = r := ⟨_, rfl⟩
   unfold PastPost11 at cT
   rw [hrp] at cT
   obtain ⟨A', y, tt⟩ := rp
   have HRP := Zy hrp
   have HFW := Zy (show Fr None' w1 W from hA.fr)
   have cbb : ∀ w', Fr None' W w' → w'.cell? ⟨bb, 0, none⟩ = some (.slice (some ⟨bh, 0, none⟩) n n) := fun w' f => by rw [World.cell?, f.at hA.beh (fun e => e)]; rfl
   have HBB := Zy cbb
   clear hAt hbox ha hb hU2 hU3 hs ht hsl O1 V1 O4 ha5 hb6 hbh h1 h2 h3 h4 h5 h6 h7 h8 hA hB hrp sA lA PA s1 s2 hua hub hel hcz hvz hp HUP cbb hva hU1 HCp hC
   dsimp only
   gi_wp2_with fail
   refine ⟨trivial, (CallsIn.inRound l (callsIn_wide.2 cT)).mono ?_⟩
   rintro e w5 ⟨va', vb', V', rfl, hO, hV, ⟨vo, vn, rfl, t1, t2, g1, g2⟩, f5⟩
   obtain ⟨pv, cv, rfl, _⟩ := hO.slice
   obtain ⟨po, co, rfl⟩ := t1.as2
   obtain ⟨pn, cn, rfl⟩ := t2.as2
   obtain ⟨w6, hw6⟩ : ∃ w6, w5.alloc (.cells #[.int .i64 y.kind, .string y.path, .string y.dst, .string y.src, .int .i64 y.pos, .slice po y.old.length co, .slice pn y.new.length cn] 43) = w6 := ⟨_, rfl⟩
   have F6 : Fr None' w5 w6 := hw6 ▸ Fr.alloc None' w5 _
   have B6 : Box w6 w5.heap.size (.int .i64 y.kind) (.string y.path) (.string y.dst) (.string y.src) (.int .i64 y.pos) (.slice po y.old.length co) (.slice pn y.new.length cn) := hw6 ▸ Box.new w5 _ _ _ _ _ _ _
   have HG := Zy (And.intro g1 g2)
   have HT := Zy (And.intro t1 t2)
   have HO := Zy (And.intro hO hV)
   have HF5 := Zy f5
   have HF6 := Zy F6
   have HB6 := Zy B6
   clear cT g1 g2 t1 t2 hO hV f5 F6 B6 b0 b1 b2 b3 b4 b5 b6 ca1
   cases tt with
   | false =>
    have HN := HNo.out _ _ HRP.out
    have f16 : Fr None' w1 w6 := HFW.out.then7 (HF5.out.then7 HF6.out)
    obtain ⟨e1, e2, e3, e4⟩ := HB4.out
    have e1 := f16.at e1 (fun e => e)
    have e2 := f16.at e2 (fun e => e)
    have e3 := f16.at e3 (fun e => e)
    have c1 : w6.cell? ⟨w.heap.size, 0, none⟩ = some (.slice none 0 0) := by rw [World.cell?, e1]; rfl
    have c2 : w6.cell? ⟨w.heap.size + 1, 0, none⟩ = some (.slice none 0 0) := by rw [World.cell?, e2]; rfl
    have c3 : w6.cell? ⟨w.heap.size + 1 + 1, 0, none⟩ = some (.bool false) := by rw [World.cell?, e3]; rfl
    have z1 : ∀ o, w6.frozen? ⟨w.heap.size, o, none⟩ = false := fun o => by unfold World.frozen?; rw [e1]; simp
    have z2 : ∀ o, w6.frozen? ⟨w.heap.size + 1, o, none⟩ = false := fun o => by unfold World.frozen?; rw [e2]; simp
    have z3 : ∀ o, w6.frozen? ⟨w.heap.size + 1 + 1, o, none⟩ = false := fun o => by unfold World.frozen?; rw [e3]; simp
    gi_wp2_with fail
    have fX := no_sets w6 w.heap.size
    refine ⟨⟨Nat.le_trans (HF5.out.then7 HF6.out).size fX.size, fun j o' hj ho => ?_⟩, rfl, HN, (F1.then7 f16).trans fX (fun i e => Or.inr (by omega)), no_set1 e1, no_set2 e2, no_set3 e3⟩
    have hj6 := (HF5.out.then7 HF6.out).at hj (fun e => e)
    refine fX.at hj6 (fun e => ?_)
    rcases e with rfl | rfl | rfl
    ·rw [e1] at hj6; cases hj6; cases ho
    ·rw [e2] at hj6; cases hj6; cases ho
    ·rw [e3] at hj6; cases hj6; cases ho
   | true =>
    obtain ⟨w7, hw7⟩ : ∃ w7, w6.drew = w7 := ⟨_, rfl⟩
    have F7 : Fr None' W w7 := HF5.out.then7 (HF6.out.then7 (hw7 ▸ Fr.drew None' w6))
    have HRow := Zy (H7.out.kept F7)
    have hba7 : w7.heap[ba]? = some (.cells #[.slice vz A1.length cz] 22 (0, 0)) := F7.at H4.out (fun e => e)
    obtain ⟨X1, hX1⟩ : ∃ X1, w7.setCell ⟨ba, 0, none⟩ (.slice pv A'.length cv) = X1 := ⟨_, rfl⟩
    have fX1 : Fr (fun j => j = ba) w7 X1 := hX1 ▸ Fr.setQ _ _ _ _
    obtain ⟨X2, hX2⟩ : ∃ X2, setAt X1 bh (k * 7) (.int .i64 y.kind) (.string y.path) (.string y.dst) (.string y.src) (.int .i64 y.pos) (.slice po y.old.length co) (.slice pn y.new.length cn) = X2 := ⟨_, rfl⟩
    have HRowX := Zy (show Zh w1.heap.size X1 (.slice (some ⟨bh, 0, none⟩) n n) (List.replicate (k + 1) Yr ++ back1) Vb1 from hX1 ▸ HRow.out.boxed hba7 ⟨_, _, _, rfl⟩ _)
    have klt : k < (List.replicate (k + 1) Yr ++ back1).length := by simp; omega
    have HB7 := Zy (HB6.out.kept (hw7 ▸ Fr.drew None' w6 : Fr None' w6 w7))
    have HBX := Zy (HB7.out.fr fX1 (fun e => by have := (Array.getElem?_eq_some_iff.1 H4.out).1; have := HF5.out.size; omega))
    have HC7 := Zy (HBB.out w7 F7)
    have HCX := Zy (fX1.keepCell HC7.out (fun e => dab e.symm))
    have HBa := Zy hba7
    have HW7 := Zy hw7
    have HX1 := Zy hX1
    have HX2 := Zy hX2
    have HF7 := Zy F7
    have j1 : (k : Int) < (n : Int) := by omega
    have j2 : (0 : Int) ≤ (k : Int) := by omega
    clear hw7 hX1 hX2 fX1 hba7 F7
    gi_wp2_with fail
    refine region_inv (by kernel_rfl) (by decide +kernel) (Inv8 (fun t32 t33 t34 t35 t36 => #[.slice va n c, .slice vb m d, undef, undef, .pointer (some ⟨w.heap.size, 0, none⟩), .pointer (some ⟨w.heap.size + 1, 0, none⟩), .pointer (some ⟨w.heap.size + 1 + 1, 0, none⟩), .pointer (some ⟨ba, 0, none⟩), .pointer (some ⟨bb, 0, none⟩), .int .i64 k, .pointer (some ⟨p, 0, none⟩), .slice pv A'.length cv, .pointer (some ⟨w5.heap.size, 0, none⟩), .bool true, .slice vb m d, .slice p15 n15 c15, .slice va n c, .int .i64 n, .slice (some ⟨bh, 0, none⟩) n n, .slice va n c, .func (.func 54) #[] #[.pointer (some ⟨w2.heap.size, 0, none⟩)], .int .i64 k, .agg #[.int .i64 L[k].kind, .string L[k].path, .string L[k].dst, .string L[k].src, .int .i64 L[k].pos, .slice pa na ca, .slice pb nb cb], .tuple #[.slice pv A'.length cv, .agg #[.int .i64 y.kind, .string y.path, .string y.dst, .string y.src, .int .i64 y.pos, .slice po y.old.length co, .slice pn y.new.length cn], .bool true], .agg #[.int .i64 L[k].kind, .string L[k].path, .string L[k].dst, .string L[k].src, .int .i64 L[k].pos, .slice pa na ca, .slice pb nb cb], .slice vz A1.length cz, .tuple #[.slice pv A'.length cv, .agg #[.int .i64 y.kind, .string y.path, .string y.dst, .string y.src, .int .i64 y.pos, .slice po y.old.length co, .slice pn y.new.length cn], .bool true], .slice pv A'.length cv, .agg #[.int .i64 y.kind, .string y.path, .string y.dst, .string y.src, .int .i64 y.pos, .slice po y.old.length co, .slice pn y.new.length cn], .bool true, .bool true, .bool false, t32, t33, t34, t35, t36, undef, undef]) w7 X1 X2 (.slice (some ⟨bh, 0, none⟩) n n) (.int .i64 k) (.slice pv A'.length cv) (.agg #[.int .i64 y.kind, .string y.path, .string y.dst, .string y.src, .int .i64 y.pos, .slice po y.old.length co, .slice pn y.new.length cn]) (.pointer (some ⟨bh, k * 7, none⟩))) ?h0 ?step ?done8
    case h0 => exact ⟨_, _, _, _, _, rfl, HW7.out, (fun h => by cases h), (fun h => by cases h), (fun h => by cases h), (fun h => by cases h), (fun h => by cases h), (fun h => by cases h)⟩
    case step =>
     rintro S a w' ⟨t32, t33, t34, t35, t36, rfl, Hw', o0, o1, o2, o3, o5, o6⟩
     dsimp only
     refine Z3.cons (fun h0 hd => ?s0) (Z3.cons (fun h0 hd => ?s1) (Z3.cons (fun h0 hd => ?s2) (Z3.cons (fun h0 hd => ?s3) (Z3.cons (fun h0 hd => ?s4) (Z3.cons (fun h0 hd => ?s5) (Z3.cons (fun h0 hd => ?s6) Z3.nil))))))
     case s0 =>
      have h6 : S 6 = false := by
       cases h : S 6 with
       | false => rfl
       | true => exact absurd (o6 h).1 (by rw [h0]; decide)
      have hc : w'.cell? ⟨bb, 0, none⟩ = some (.slice (some ⟨bh, 0, none⟩) n n) := by
       rw [Hw'.out, h6]
       cases h4 : S 4
       ·exact HC7.out
       ·exact HCX.out
      clear hd
      go_simp
      exact ⟨_, t33, t34, t35, t36, rfl, Hw', (fun _ => rfl), o1, o2, o3, o5, fun h => absurd h (by show ¬ S 6 = true; rw [h6]; decide)⟩
     case s1 =>
      have h6 : S 6 = false := by
       cases h : S 6 with
       | false => rfl
       | true => exact absurd (o6 h).2.1 (by rw [h0]; decide)
      clear hd
      go_simp
      exact ⟨t32, _, t34, t35, t36, rfl, Hw', o0, (fun _ => rfl), o2, o3, o5, fun h => absurd h (by show ¬ S 6 = true; rw [h6]; decide)⟩
     case s2 =>
      have h6 : S 6 = false := by
       cases h : S 6 with
       | false => rfl
       | true => exact absurd (o6 h).2.2.1 (by rw [h0]; decide)
      clear hd
      go_simp
      exact ⟨t32, t33, _, t35, t36, rfl, Hw', o0, o1, (fun _ => rfl), o3, o5, fun h => absurd h (by show ¬ S 6 = true; rw [h6]; decide)⟩
     case s3 =>
      have h6 : S 6 = false := by
       cases h : S 6 with
       | false => rfl
       | true => exact absurd (o6 h).2.2.2.1 (by rw [h0]; decide)
      have hbx : Box w' w5.heap.size (.int .i64 y.kind) (.string y.path) (.string y.dst) (.string y.src) (.int .i64 y.pos) (.slice po y.old.length co) (.slice pn y.new.length cn) := by
       rw [Hw'.out, h6]
       cases h4 : S 4
       ·exact HB7.out
       ·exact HBX.out
      obtain ⟨y0, y1, y2, y3, y4, y5, y6⟩ := hbx.cells
      clear hd
      go_simp
      exact ⟨t32, t33, t34, _, t36, rfl, Hw', o0, o1, o2, (fun _ => rfl), o5, fun h => absurd h (by show ¬ S 6 = true; rw [h6]; decide)⟩
     case s4 =>
      have h6 : S 6 = false := by
       cases h : S 6 with
       | false => rfl
       | true => exact absurd (o6 h).2.2.2.2.1 (by rw [h0]; decide)
      have e34 := o2 (hd { on := 2, ground := .data } (by simp) rfl)
      subst e34
      have hw' : w' = w7 := by
       have := Hw'.out
       rw [h6, show S 4 = false from h0] at this
       exact this
      subst hw'
      have z1 : w'.cell? ⟨ba, 0, none⟩ = some (.slice vz A1.length cz) := by rw [World.cell?, HBa.out]; rfl
      have z2 : ∀ o, w'.frozen? ⟨ba, o, none⟩ = false := fun o => by unfold World.frozen?; rw [HBa.out]; simp
      clear hd Hw'
      go_simp
      refine ⟨t32, t33, _, t35, t36, rfl, ?_, o0, o1, (fun _ => rfl), o3, o5, fun h => absurd h (by show ¬ S 6 = true; rw [h6]; decide)⟩
      show _ = if S 6 = true then X2 else X1
      rw [h6]
      exact HX1.out
     case s5 =>
      have h6 : S 6 = false := by
       cases h : S 6 with
       | false => rfl
       | true => exact absurd (o6 h).2.2.2.2.2 (by rw [h0]; decide)
      have e32 := o0 (hd { on := 0, ground := .data } (by simp) rfl)
      have e33 := o1 (hd { on := 1, ground := .data } (by simp) rfl)
      subst e32 e33
      clear hd
      go_simp
      exact ⟨_, _, t34, t35, _, rfl, Hw', (fun _ => rfl), (fun _ => rfl), o2, o3, (fun _ => rfl), fun h => absurd h (by show ¬ S 6 = true; rw [h6]; decide)⟩
     case s6 =>
      have h0' : S 0 = true := hd { on := 0, ground := .phase } (by simp) rfl
      have h1' : S 1 = true := hd { on := 1, ground := .phase } (by simp) rfl
      have h2' : S 2 = true := hd { on := 2, ground := .phase } (by simp) rfl
      have h3' : S 3 = true := hd { on := 3, ground := .data } (by simp) rfl
      have h4' : S 4 = true := hd { on := 4, ground := .chain } (by simp) rfl
      have h5' : S 5 = true := hd { on := 5, ground := .data } (by simp) rfl
      have e35 := o3 h3'
      have e36 := o5 h5'
      subst e35 e36
      have hw' : w' = X1 := by
       have := Hw'.out
       rw [show S 6 = false from h0, h4'] at this
       exact this
      subst hw'
      obtain ⟨u7, _, ⟨x0, x1, x2, x3, x4, x5, x6⟩, _, fz⟩ := HRowX.out.cellsAt klt
      clear hd Hw'
      go_simp
      exact ⟨_, _, _, _, _, rfl, HX2.out, (fun _ => rfl), (fun _ => rfl), (fun _ => rfl), (fun _ => rfl), (fun _ => rfl), (fun _ => ⟨h0', h1', h2', h3', h4', h5'⟩)⟩
    case done8 =>
     rintro S a w' ⟨t32, t33, t34, t35, t36, rfl, Hw', _⟩ hall
     have hw' := Hw'.out
     rw [if_pos (hall 6 (by simp))] at hw'
     have hfin := HStep.out A' y HRP.out w7 HF7.out (.slice pv A'.length cv) (.slice po y.old.length co) (.slice pn y.new.length cn) V' (HO.out.1.kept (HF6.out.then7 (HW7.out ▸ Fr.drew None' w6))) HO.out.2 (HT.out.1.kept (HF6.out.then7 (HW7.out ▸ Fr.drew None' w6))) (HT.out.2.kept (HF6.out.then7 (HW7.out ▸ Fr.drew None' w6))) HG.out.1 HG.out.2
     rw [HX1.out, HX2.out] at hfin
     rw [hw']
     exact hfin
  case done =>
   rintro D xs W hxs hA hK hD
   obtain ⟨m1, k1, va1, A1, back1, V1', Vb1, h1, h2, h3, h4, h5, h6, h7, h8⟩ := hA.row
   have hmn : m1 = n := by
    have := congrArg List.length (hxs.symm.trans h2)
    rw [uptoB_length, uptoB_length] at this
    exact this.symm
   subst hmn
   obtain rfl : k1 = 0 := by omega
   rw [List.drop_zero] at h3
   simp only [List.replicate_zero, List.nil_append] at h7
   obtain ⟨vz, cz, rfl, hcz, hvz, PA⟩ := h5.slice
   have c7 : ∀ w', Fr (fun k => k = w.heap.size ∨ k = w.heap.size + 1 ∨ k = w.heap.size + 1 + 1) W w' → w'.cell? ⟨ba, 0, none⟩ = some (.slice vz A1.length cz) := fun w' f => by
    have hz := HB4.out.2.2.2
    rw [World.cell?, f.at h4 (by omega)]; rfl
   have c8 : ∀ w', Fr (fun k => k = w.heap.size ∨ k = w.heap.size + 1 ∨ k = w.heap.size + 1 + 1) W w' → w'.cell? ⟨bb, 0, none⟩ = some (.slice (some ⟨bh, 0, none⟩) m1 m1) := fun w' f => by
    have hz := HB4.out.2.2.2
    rw [World.cell?, f.at hA.beh (by omega)]; rfl
   have hf := hA.fr
   obtain ⟨e1, e2, e3, e4⟩ := HB4.out
   have e1 := hf.at e1 (fun e => e)
   have e2 := hf.at e2 (fun e => e)
   have e3 := hf.at e3 (fun e => e)
   gi_wp2_with fail
   refine region_inv (by kernel_rfl) (by decide +kernel) (Inv9 (fun t37 t38 => #[.slice va m1 c, .slice vb m d, undef, undef, .pointer (some ⟨w.heap.size, 0, none⟩), .pointer (some ⟨w.heap.size + 1, 0, none⟩), .pointer (some ⟨w.heap.size + 1 + 1, 0, none⟩), .pointer (some ⟨ba, 0, none⟩), .pointer (some ⟨bb, 0, none⟩), undef, undef, undef, undef, undef, .slice vb m d, .slice p15 n15 c15, .slice va m1 c, .int .i64 m1, .slice (some ⟨bh, 0, none⟩) m1 m1, .slice va m1 c, .func (.func 54) #[] #[.pointer (some ⟨w2.heap.size, 0, none⟩)], undef, undef, undef, undef, undef, undef, undef, undef, undef, undef, undef, undef, undef, undef, undef, undef, t37, t38]) [{ target := Target.collected D, args := #[] }] w.heap.size W (.slice vz A1.length cz) (.slice (some ⟨bh, 0, none⟩) m1 m1)) ?h0 ?step ?done9
   case h0 =>
    have f := Fr.drew (fun k => k = w.heap.size ∨ k = w.heap.size + 1 ∨ k = w.heap.size + 1 + 1) W
    have f0 := Fr.drew None' W
    exact ⟨_, _, rfl, f, f0.at e1 (fun e => e), f0.at e2 (fun e => e), f0.at e3 (fun e => e), (fun h => by cases h), (fun h => by cases h), (fun h => by cases h), (fun h => by cases h)⟩
   case step =>
    rintro S a w' ⟨t37, t38, rfl, f, x1, x2, x3, o0, o1, o2, o3⟩
    dsimp only
    refine Z3.cons (fun h0 hd => ?s0) (Z3.cons (fun h0 hd => ?s1) (Z3.cons (fun h0 hd => ?s2) (Z3.cons (fun h0 hd => ?s3) (Z3.cons (fun h0 hd => ?s4) Z3.nil))))
    case s0 =>
     have hs2 : S 2 = false := by
      cases h : S 2 with
      | false => rfl
      | true => exact absurd (o2 h) (by rw [h0]; decide)
     have hc := c7 w' f
     clear hd
     go_simp
     rw [hs2] at x1
     refine ⟨_, t38, rfl, f, ?_, x2, x3, (fun _ => rfl), o1, (fun _ => rfl), o3⟩
     show w'.heap[w.heap.size]? = some (.cells #[if S 2 = true then _ else .slice none 0 0] 22 (0, 0))
     rw [hs2]
     exact x1
    case s1 =>
     have hs3 : S 3 = false := by
      cases h : S 3 with
      | false => rfl
      | true => exact absurd (o3 h) (by rw [h0]; decide)
     have hc := c8 w' f
     clear hd
     go_simp
     rw [hs3] at x2
     refine ⟨t37, _, rfl, f, x1, ?_, x3, o0, (fun _ => rfl), o2, (fun _ => rfl)⟩
     show w'.heap[w.heap.size + 1]? = some (.cells #[if S 3 = true then _ else .slice none 0 0] 22 (0, 0))
     rw [hs3]
     exact x2
    case s2 =>
     have h0' : S 0 = true := hd { on := 0, ground := .data } (by simp) rfl
     have e37 := o0 h0'
     subst e37
     rw [if_neg (by rw [h0]; decide)] at x1
     have z1 : w'.cell? ⟨w.heap.size, 0, none⟩ = some (.slice none 0 0) := by rw [World.cell?, x1]; rfl
     have z2 : ∀ o, w'.frozen? ⟨w.heap.size, o, none⟩ = false := fun o => by unfold World.frozen?; rw [x1]; simp
     clear hd
     go_simp
     have f' : Fr (fun k => k = w.heap.size) w' (w'.setCell ⟨w.heap.size, 0, none⟩ (.slice vz A1.length cz)) := Fr.setQ _ _ _ _
     have y1 := Go.heap_setCell_same w' w.heap.size 0 _ _ (.slice vz A1.length cz) x1
     exact ⟨_, t38, rfl, f.then (f'.mono (fun _ e => Or.inl e)), (by simpa [upd] using y1), f'.at x2 (by omega), f'.at x3 (by omega), (fun _ => rfl), o1, (fun _ => h0'), o3⟩
    case s3 =>
     have h1' : S 1 = true := hd { on := 1, ground := .data } (by simp) rfl
     have e38 := o1 h1'
     subst e38
     rw [if_neg (by rw [h0]; decide)] at x2
     have z1 : w'.cell? ⟨w.heap.size + 1, 0, none⟩ = some (.slice none 0 0) := by rw [World.cell?, x2]; rfl
     have z2 : ∀ o, w'.frozen? ⟨w.heap.size + 1, o, none⟩ = false := fun o => by unfold World.frozen?; rw [x2]; simp
     clear hd
     go_simp
     have f' : Fr (fun k => k = w.heap.size + 1) w' (w'.setCell ⟨w.heap.size + 1, 0, none⟩ (.slice (some ⟨bh, 0, none⟩) m1 m1)) := Fr.setQ _ _ _ _
     have y1 := Go.heap_setCell_same w' (w.heap.size + 1) 0 _ _ (.slice (some ⟨bh, 0, none⟩) m1 m1) x2
     exact ⟨t37, _, rfl, f.then (f'.mono (fun _ e => Or.inr (Or.inl e))), f'.at x1 (by omega), (by simpa [upd] using y1), f'.at x3 (by omega), o0, (fun _ => rfl), o2, (fun _ => h1')⟩
    case s4 =>
     have z1 : w'.cell? ⟨w.heap.size + 1 + 1, 0, none⟩ = some (.bool (S 4)) := by rw [World.cell?, x3]; rfl
     have z2 : ∀ o, w'.frozen? ⟨w.heap.size + 1 + 1, o, none⟩ = false := fun o => by unfold World.frozen?; rw [x3]; simp
     clear hd
     go_simp
     have f' : Fr (fun k => k = w.heap.size + 1 + 1) w' (w'.setCell ⟨w.heap.size + 1 + 1, 0, none⟩ (.bool true)) := Fr.setQ _ _ _ _
     have y1 := Go.heap_setCell_same w' (w.heap.size + 1 + 1) 0 _ _ (.bool true) x3
     exact ⟨t37, t38, rfl, f.then (f'.mono (fun _ e => Or.inr (Or.inr e))), f'.at x1 (by omega), f'.at x2 (by omega), (by simpa [upd] using y1), o0, o1, o2, o3⟩
   case done9 =>
    rintro S a w' ⟨t37, t38, rfl, f, x1, x2, x3, o0, o1, o2, o3⟩ hall
    rw [if_pos (hall 2 (by simp))] at x1
    rw [if_pos (hall 3 (by simp))] at x2
    rw [hall 4 (by simp)] at x3
    obtain rfl := o0 (hall 0 (by simp))
    obtain rfl := o1 (hall 1 (by simp))
    have hz := HB4.out.2.2.2
    have hKD : w'.heap[D]? = some (.deferred (some [])) := f.at hK (fun e => by have := F1.size; have := F2.size; omega)
    have fD : Fr (fun k => None' k ∨ (w3.heap.size ≤ k ∧ NoCells w' k)) w' (w'.putObj D (.deferred none)) := Fr.putObj _ (Or.inr ⟨hD, fun c t f e => by rw [hKD] at e; cases e⟩) _
    have a1 := fD.at x1 (fun e => e.elim (fun e => e) (fun e => e.2 _ _ _ x1))
    have a2 := fD.at x2 (fun e => e.elim (fun e => e) (fun e => e.2 _ _ _ x2))
    have a3 := fD.at x3 (fun e => e.elim (fun e => e) (fun e => e.2 _ _ _ x3))
    have O5 := (h5.fr f (fun k e e' => by have := (h5.ge e).1; omega) (fun u hu k e _ e' => by have := h6 u hu k e; omega)).abide fD
    have O7 := (h7.fr f (fun k e e' => by have := (h7.ge e).1; omega) (fun u hu k e _ e' => by have := (h8 u hu k e).1; omega)).abide fD
    gi_wp2_with fail
    refine ⟨by simp, .inl ⟨_, _, rfl, run_takeDeferred hKD, ?_⟩⟩
    refine ⟨_, results_three (show Tryz.f10.results = #[.cell 4 22, .cell 5 22, .cell 6 4] from rfl) _ rfl rfl rfl (load_slice a1) (load_slice a2) (load_bool a3), .slice vz A1.length cz, .slice (some ⟨bh, 0, none⟩) m1 m1, ?_⟩
    exact ⟨rfl, O5.prsIn, O7.prsIn, ((F1.then7 hf).trans f (fun i e => Or.inr (by omega))).trans fD (fun i e => e.elim (fun e => e.elim) (fun e => Or.inr (by have := F1.size; have := F2.size; omega)))⟩
  case stop =>
   rintro D c' pre W _ ⟨rfl, hno, fW, e1, e2, e3⟩ hK hD
   gi_wp2_with fail
   have fD : Fr (fun k => None' k ∨ (w3.heap.size ≤ k ∧ NoCells W k)) W (W.putObj D (.deferred none)) := Fr.putObj _ (Or.inr ⟨hD, fun c t f e => by rw [hK] at e; cases e⟩) _
   have a1 := fD.at e1 (fun e => e.elim (fun e => e) (fun e => e.2 _ _ _ e1))
   have a2 := fD.at e2 (fun e => e.elim (fun e => e) (fun e => e.2 _ _ _ e2))
   have a3 := fD.at e3 (fun e => e.elim (fun e => e) (fun e => e.2 _ _ _ e3))
   refine ⟨by simp, .inl ⟨_, _, rfl, run_takeDeferred hK, ?_⟩⟩
   refine ⟨_, results_three (show Tryz.f10.results = #[.cell 4 22, .cell 5 22, .cell 6 4] from rfl) _ rfl rfl rfl (load_slice a1) (load_slice a2) (load_bool a3), .slice none 0 0, .slice none 0 0, ?_⟩
   rw [hno]
   exact ⟨rfl, ⟨none, 0, rfl, fun _ => rfl, fun k x hk => by simp at hk⟩, ⟨none, 0, rfl, fun _ => rfl, fun k x hk => by simp at hk⟩, fW.trans fD (fun i e => e.elim (fun e => e.elim) (fun e => Or.inr (by have := F1.size; have := F2.size; omega)))⟩
end Go.Proofs.YtbnfjjjdnbcehaaGreatDoor
namespace Go.Proofs.YtbnfjjjdnbcehaaGreatDoor
open Go.RowKit
set_option maxRecDepth 100000
def hA1 : Pr := ⟨1, ⟨#[97]⟩, ⟨#[]⟩, ⟨#[]⟩, 0, [], []⟩
def hB1 : Pr := ⟨1, ⟨#[98]⟩, ⟨#[]⟩, ⟨#[]⟩, 0, [], []⟩
def hA2 : Pr := ⟨2, ⟨#[97]⟩, ⟨#[]⟩, ⟨#[]⟩, 0, [], []⟩
def hB2 : Pr := ⟨2, ⟨#[98]⟩, ⟨#[]⟩, ⟨#[]⟩, 0, [], []⟩
theorem h11a : coalP [hA1, hB1, hB2, hA2] = [] := by kernel_rfl
theorem h11b : Z1 [hA1] [hB1] = ([hB1], [hA1], true) := by kernel_rfl
theorem h11c : lastQ [hA1, hB1] 0 = ([hB1, hA1], true) := by kernel_rfl
theorem h11d : lastQ [] 0 = ([], false) := by kernel_rfl
theorem h11e : coalP [hA1] = [hA1] := by kernel_rfl
theorem prs_new {w : World} {L : List Pr} {V : List (Value × Value)} (hl : V.length = L.length) (hs : ∀ (k : Nat) (x : Pr) (u : Value × Value), L[k]? = some x → V[k]? = some u → Zv w u.1 x.old ∧ Zv w u.2 x.new) {cs : Array Value} (hc : cs = (pcells L V).toArray) : Zc (w.alloc (.cells cs 43)) (some ⟨w.heap.size, 0, none⟩) L := fun k x hk => by
 subst hc
 have hkl := (List.getElem?_eq_some_iff.1 hk).1
 obtain ⟨u, hu⟩ : ∃ u, V[k]? = some u := ⟨_, List.getElem?_eq_getElem (by omega)⟩
 have hx := pcells_get L V k x u hk hu
 have hcell : ∀ j v, (prCells x u.1 u.2)[j]? = some v → j < 7 → (w.alloc (.cells (pcells L V).toArray 43)).cell? ⟨w.heap.size, 0 + k * 7 + j, none⟩ = some v := fun j v hv hj => by
  rw [World.cell?, heap_alloc_new]
  simp only [Nat.zero_add, List.getElem?_toArray]
  rw [hx j hj]
  exact hv
 obtain ⟨s1, s2⟩ := hs k x u hk hu
 have f := Fr.alloc None' w (.cells (pcells L V).toArray 43)
 exact ⟨w.heap.size, 0, rfl, u.1, u.2, hcell 0 _ rfl (by omega), hcell 1 _ rfl (by omega), hcell 2 _ rfl (by omega), hcell 3 _ rfl (by omega), hcell 4 _ rfl (by omega), hcell 5 _ rfl (by omega), hcell 6 _ rfl (by omega), s1.kept f, s2.kept f⟩
theorem nilV {w : World} {L : List Pr} {n : Nat} (h : ∀ x ∈ L, x.old = [] ∧ x.new = []) : ∀ (k : Nat) (x : Pr) (u : Value × Value), L[k]? = some x → (List.replicate n (Value.slice none 0 0, Value.slice none 0 0))[k]? = some u → Zv w u.1 x.old ∧ Zv w u.2 x.new := fun k x u hx hu => by
 have hu := List.eq_of_mem_replicate (List.mem_of_getElem? hu)
 obtain ⟨h1, h2⟩ := h x (List.mem_of_getElem? hx)
 subst hu
 rw [h1, h2]
 exact ⟨nilS10 w, nilS10 w⟩
theorem small1 : ∀ x ∈ [hA1, hB1, hB2, hA2], Zs x := fun x hx => by
 simp only [List.mem_cons, List.not_mem_nil, or_false] at hx
 rcases hx with rfl | rfl | rfl | rfl <;> exact ⟨by decide, by decide, by decide, by decide, by decide⟩
theorem nil1 : ∀ x ∈ [hA1, hB1, hB2, hA2], x.old = [] ∧ x.new = [] := fun x hx => by
 simp only [List.mem_cons, List.not_mem_nil, or_false] at hx
 rcases hx with rfl | rfl | rfl | rfl <;> exact ⟨rfl, rfl⟩
theorem prs_new2 {w : World} {L : List Pr} {b n : Nat} (hb : w.heap.size = b) (hl : n = L.length) (hs : ∀ x ∈ L, x.old = [] ∧ x.new = []) {cs : Array Value} (hc : cs = (pcells L (List.replicate n (Value.slice none 0 0, Value.slice none 0 0))).toArray) : Zc (w.alloc (.cells cs 43)) (some ⟨b, 0, none⟩) L := by
 subst hb
 exact prs_new (V := List.replicate n (Value.slice none 0 0, Value.slice none 0 0)) (by simp [hl]) (nilV hs) hc
theorem PrsIn.cell1 {w : World} {v : Value} {x : Pr} {L : List Pr} (h : PrsIn w v (x :: L)) : ∃ g o c, v = .slice (some ⟨g, o, none⟩) (L.length + 1) c ∧ w.cell? ⟨g, o + 1, none⟩ = some (.string x.path) := by
 obtain ⟨va, c, rfl, _, h1⟩ := h
 obtain ⟨g, o, rfl, _, _, _, c1, _⟩ := h1 0 x rfl
 refine ⟨g, o, c, by simp, ?_⟩
 simpa using c1
theorem PrsIn.cell2 {w : World} {v : Value} {x y : Pr} (h : PrsIn w v [x, y]) : ∃ g o c, v = .slice (some ⟨g, o, none⟩) 2 c ∧ w.cell? ⟨g, o + 7 + 1, none⟩ = some (.string y.path) := by
 obtain ⟨va, c, rfl, _, h1⟩ := h
 obtain ⟨g, o, rfl, _, _, _, c1, _⟩ := h1 1 y rfl
 refine ⟨g, o, c, by simp, ?_⟩
 simpa using c1
theorem shead_any (hC : CommuteAll) (w : World) : Calls Tryz.prog 8 #[] w fun e w' => e = .returned (.bool true) ∧ Fr None' w w' := by
 have f3 : Fr None' w (((w.alloc (.cells #[.int .i64 1, .string ⟨#[97]⟩, .string ⟨#[]⟩, .string ⟨#[]⟩, .int .i64 0, .slice none 0 0, .slice none 0 0] 43)).alloc (.cells #[.int .i64 1, .string ⟨#[98]⟩, .string ⟨#[]⟩, .string ⟨#[]⟩, .int .i64 0, .slice none 0 0, .slice none 0 0] 43)).alloc (.cells #[.int .i64 1, .string ⟨#[97]⟩, .string ⟨#[]⟩, .string ⟨#[]⟩, .int .i64 0, .slice none 0 0, .slice none 0 0, .int .i64 1, .string ⟨#[98]⟩, .string ⟨#[]⟩, .string ⟨#[]⟩, .int .i64 0, .slice none 0 0, .slice none 0 0, .int .i64 2, .string ⟨#[98]⟩, .string ⟨#[]⟩, .string ⟨#[]⟩, .int .i64 0, .slice none 0 0, .slice none 0 0, .int .i64 2, .string ⟨#[97]⟩, .string ⟨#[]⟩, .string ⟨#[]⟩, .int .i64 0, .slice none 0 0, .slice none 0 0] 43)) := alloc10 (alloc10 (Fr.alloc None' _ _) _) _
 have BA : Box (((w.alloc (.cells #[.int .i64 1, .string ⟨#[97]⟩, .string ⟨#[]⟩, .string ⟨#[]⟩, .int .i64 0, .slice none 0 0, .slice none 0 0] 43)).alloc (.cells #[.int .i64 1, .string ⟨#[98]⟩, .string ⟨#[]⟩, .string ⟨#[]⟩, .int .i64 0, .slice none 0 0, .slice none 0 0] 43)).alloc (.cells #[.int .i64 1, .string ⟨#[97]⟩, .string ⟨#[]⟩, .string ⟨#[]⟩, .int .i64 0, .slice none 0 0, .slice none 0 0, .int .i64 1, .string ⟨#[98]⟩, .string ⟨#[]⟩, .string ⟨#[]⟩, .int .i64 0, .slice none 0 0, .slice none 0 0, .int .i64 2, .string ⟨#[98]⟩, .string ⟨#[]⟩, .string ⟨#[]⟩, .int .i64 0, .slice none 0 0, .slice none 0 0, .int .i64 2, .string ⟨#[97]⟩, .string ⟨#[]⟩, .string ⟨#[]⟩, .int .i64 0, .slice none 0 0, .slice none 0 0] 43)) w.heap.size (.int .i64 1) (.string ⟨#[97]⟩) (.string ⟨#[]⟩) (.string ⟨#[]⟩) (.int .i64 0) (.slice none 0 0) (.slice none 0 0) := ((Box.new w _ _ _ _ _ _ _).alloc10 _).alloc10 _
 have BB : Box (((w.alloc (.cells #[.int .i64 1, .string ⟨#[97]⟩, .string ⟨#[]⟩, .string ⟨#[]⟩, .int .i64 0, .slice none 0 0, .slice none 0 0] 43)).alloc (.cells #[.int .i64 1, .string ⟨#[98]⟩, .string ⟨#[]⟩, .string ⟨#[]⟩, .int .i64 0, .slice none 0 0, .slice none 0 0] 43)).alloc (.cells #[.int .i64 1, .string ⟨#[97]⟩, .string ⟨#[]⟩, .string ⟨#[]⟩, .int .i64 0, .slice none 0 0, .slice none 0 0, .int .i64 1, .string ⟨#[98]⟩, .string ⟨#[]⟩, .string ⟨#[]⟩, .int .i64 0, .slice none 0 0, .slice none 0 0, .int .i64 2, .string ⟨#[98]⟩, .string ⟨#[]⟩, .string ⟨#[]⟩, .int .i64 0, .slice none 0 0, .slice none 0 0, .int .i64 2, .string ⟨#[97]⟩, .string ⟨#[]⟩, .string ⟨#[]⟩, .int .i64 0, .slice none 0 0, .slice none 0 0] 43)) (w.heap.size + 1) (.int .i64 1) (.string ⟨#[98]⟩) (.string ⟨#[]⟩) (.string ⟨#[]⟩) (.int .i64 0) (.slice none 0 0) (.slice none 0 0) := (Box.new10 (by simp) _ _ _ _ _ _ _).alloc10 _
 have q1 := coalesce_any (some ⟨w.heap.size + 1 + 1, 0, none⟩) 4 4 [hA1, hB1, hB2, hA2] (((w.alloc (.cells #[.int .i64 1, .string ⟨#[97]⟩, .string ⟨#[]⟩, .string ⟨#[]⟩, .int .i64 0, .slice none 0 0, .slice none 0 0] 43)).alloc (.cells #[.int .i64 1, .string ⟨#[98]⟩, .string ⟨#[]⟩, .string ⟨#[]⟩, .int .i64 0, .slice none 0 0, .slice none 0 0] 43)).alloc (.cells #[.int .i64 1, .string ⟨#[97]⟩, .string ⟨#[]⟩, .string ⟨#[]⟩, .int .i64 0, .slice none 0 0, .slice none 0 0, .int .i64 1, .string ⟨#[98]⟩, .string ⟨#[]⟩, .string ⟨#[]⟩, .int .i64 0, .slice none 0 0, .slice none 0 0, .int .i64 2, .string ⟨#[98]⟩, .string ⟨#[]⟩, .string ⟨#[]⟩, .int .i64 0, .slice none 0 0, .slice none 0 0, .int .i64 2, .string ⟨#[97]⟩, .string ⟨#[]⟩, .string ⟨#[]⟩, .int .i64 0, .slice none 0 0, .slice none 0 0] 43)) rfl (prs_new2 (n := 4) (by simp) rfl nil1 rfl) (fun e => by cases e) (Nat.le_refl _) (by decide) (by decide) small1
 have HF3 := Zy f3
 have HBA := Zy BA
 have HBB := Zy BB
 have HC := Zy hC
 clear f3 BA BB hC
 go_enter Tryz.func8, Tryz.ntmps8
 go_wp2_with fail
 with_reducible refine q1.mono ?_
 rintro e w4 ⟨pv, nv, cv, rfl, H4⟩
 obtain ⟨V4, _, hn4, f4, _⟩ := H4.out
 rw [h11a] at hn4
 obtain rfl : nv = 0 := by simpa using hn4.symm
 have HF4 := Zy (HF3.out.then7 f4)
 have HBA4 := Zy (HBA.out.kept f4)
 have HBB4 := Zy (HBB.out.kept f4)
 clear q1 H4 hn4 f4 HF3 HBA HBB
 obtain ⟨a0, a1, a2, a3, a4, a5, a6⟩ := HBA4.out.cells
 obtain ⟨b0, b1, b2, b3, b4, b5, b6⟩ := (HBB4.out.alloc10 (.cells #[.int .i64 1, .string ⟨#[97]⟩, .string ⟨#[]⟩, .string ⟨#[]⟩, .int .i64 0, .slice none 0 0, .slice none 0 0] 43)).cells
 have f5 : Fr None' w4 ((w4.alloc (.cells #[.int .i64 1, .string ⟨#[97]⟩, .string ⟨#[]⟩, .string ⟨#[]⟩, .int .i64 0, .slice none 0 0, .slice none 0 0] 43)).alloc (.cells #[.int .i64 1, .string ⟨#[98]⟩, .string ⟨#[]⟩, .string ⟨#[]⟩, .int .i64 0, .slice none 0 0, .slice none 0 0] 43)) := alloc10 (Fr.alloc None' _ _) _
 have q2 := swap_any HC.out (some ⟨w4.heap.size, 0, none⟩) (some ⟨w4.heap.size + 1, 0, none⟩) 1 1 1 1 [hA1] [hB1] ((w4.alloc (.cells #[.int .i64 1, .string ⟨#[97]⟩, .string ⟨#[]⟩, .string ⟨#[]⟩, .int .i64 0, .slice none 0 0, .slice none 0 0] 43)).alloc (.cells #[.int .i64 1, .string ⟨#[98]⟩, .string ⟨#[]⟩, .string ⟨#[]⟩, .int .i64 0, .slice none 0 0, .slice none 0 0] 43)) rfl rfl (Zc.kept (prs_new2 (n := 1) rfl rfl (fun x hx => nil1 x (by simp at hx; simp [hx])) rfl) (Fr.alloc None' _ _)) (prs_new2 (n := 1) (by simp) rfl (fun x hx => nil1 x (by simp at hx; simp [hx])) rfl) (fun e => by cases e) (by decide) (by decide) (fun x hx => small1 x (by simp at hx; simp [hx])) (fun x hx => small1 x (by simp at hx; simp [hx]))
 rw [h11b] at q2
 have HF5 := Zy f5
 clear f5
 go_wp2_with fail
 with_reducible refine q2.mono ?_
 rintro e w6 ⟨vx, vy, rfl, hx6, hy6, f6⟩
 have HX6 := Zy hx6
 obtain ⟨gx, ox, cx, rfl, x1⟩ := hx6.cell1
 obtain ⟨gy, oy, cy, rfl, _⟩ := hy6.cell1
 have HF6 := Zy (HF5.out.then7 f6)
 have HBA6 := Zy (HBA4.out.kept HF6.out)
 have HBB6 := Zy (HBB4.out.kept HF6.out)
 clear q2 f6 hx6 hy6 a0 a1 a2 a3 a4 a5 a6 b0 b1 b2 b3 b4 b5 b6 HBA4 HBB4 HF5 x1
 obtain ⟨a0, a1, a2, a3, a4, a5, a6⟩ := HBA6.out.cells
 obtain ⟨b0, b1, b2, b3, b4, b5, b6⟩ := HBB6.out.cells
 have q3 := last_any HC.out (some ⟨w6.heap.size, 0, none⟩) 2 2 [hA1, hB1] 0 (w6.alloc (.cells #[.int .i64 1, .string ⟨#[97]⟩, .string ⟨#[]⟩, .string ⟨#[]⟩, .int .i64 0, .slice none 0 0, .slice none 0 0, .int .i64 1, .string ⟨#[98]⟩, .string ⟨#[]⟩, .string ⟨#[]⟩, .int .i64 0, .slice none 0 0, .slice none 0 0] 43)) rfl (prs_new2 (n := 2) rfl rfl (fun x hx => nil1 x (by simp at hx; rcases hx with h | h <;> simp [h])) rfl) (fun e => by cases e) (Nat.le_refl _) (by decide) (by decide) (fun x hx => small1 x (by simp at hx; rcases hx with h | h <;> simp [h]))
 rw [h11c] at q3
 have HF7 := Zy (Fr.alloc None' w6 (.cells #[.int .i64 1, .string ⟨#[97]⟩, .string ⟨#[]⟩, .string ⟨#[]⟩, .int .i64 0, .slice none 0 0, .slice none 0 0, .int .i64 1, .string ⟨#[98]⟩, .string ⟨#[]⟩, .string ⟨#[]⟩, .int .i64 0, .slice none 0 0, .slice none 0 0] 43))
 go_wp2_with fail
 with_reducible refine q3.mono ?_
 rintro e w8 ⟨vz, rfl, hz8, f8⟩
 obtain ⟨gz, oz, cz, rfl, z1⟩ := hz8.cell2
 have HF8 := Zy (HF7.out.then7 f8)
 have HBA8 := Zy (HBA6.out.kept HF8.out)
 have HZ := Zy z1
 clear q3 f8 hz8 a0 a1 a2 a3 a4 a5 a6 b0 b1 b2 b3 b4 b5 b6 HBA6 HBB6 HF7 z1
 have q4 := last_any HC.out none 0 0 [] 0 w8 rfl (fun k x hk => by simp at hk) (fun _ => rfl) (Nat.le_refl _) (by decide) (by decide) (fun x hx => by cases hx)
 rw [h11d] at q4
 go_wp2_with fail
 with_reducible refine q4.mono ?_
 rintro e w9 ⟨vn, rfl, _, f9⟩
 have HF9 := Zy (HF4.out.then7 (HF6.out.then7 (HF8.out.then7 f9)))
 obtain ⟨a0, a1, a2, a3, a4, a5, a6⟩ := (HBA8.out.kept f9).cells
 have z1 := (show Fr None' w8 w9 from f9).keepCell HZ.out (fun e => e)
 obtain ⟨gx', ox', cx', ex, x1⟩ := (HX6.out.kept (HF8.out.then7 f9)).cell1
 obtain ⟨⟨rfl, rfl⟩, rfl⟩ : (gx' = gx ∧ ox' = ox) ∧ cx' = cx := by simpa using ex.symm
 have q5 := coalesce_any (some ⟨w9.heap.size, 0, none⟩) 1 1 [hA1] (w9.alloc (.cells #[.int .i64 1, .string ⟨#[97]⟩, .string ⟨#[]⟩, .string ⟨#[]⟩, .int .i64 0, .slice none 0 0, .slice none 0 0] 43)) rfl (prs_new2 (n := 1) rfl rfl (fun x hx => nil1 x (by simp at hx; simp [hx])) rfl) (fun e => by cases e) (Nat.le_refl _) (by decide) (by decide) (fun x hx => small1 x (by simp at hx; simp [hx]))
 have HFa := Zy (Fr.alloc None' w9 (.cells #[.int .i64 1, .string ⟨#[97]⟩, .string ⟨#[]⟩, .string ⟨#[]⟩, .int .i64 0, .slice none 0 0, .slice none 0 0] 43))
 clear q4 f9 HBA8 HX6 HZ HF4 HF6 HF8 ex
 simp only [hA1, hB1] at x1 z1
 go_wp2_with fail
 with_reducible refine q5.mono ?_
 rintro e wa ⟨pa, na, ca, rfl, Ha⟩
 obtain ⟨Va, _, hna, fa, _⟩ := Ha.out
 rw [h11e] at hna
 obtain rfl : na = 1 := by simpa using hna.symm
 have HFb := Zy (HF9.out.then7 (HFa.out.then7 fa))
 clear q5 Ha hna fa HFa HF9
 go_wp2_with fail
 go_ret
 exact ⟨rfl, HFb.out⟩
end Go.Proofs.YtbnfjjjdnbcehaaGreatDoor
