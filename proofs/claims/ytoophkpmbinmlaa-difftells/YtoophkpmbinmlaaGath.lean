/-
  What is proved here: what gather holds, and that a hunk more is gathered. Conditions: as each theorem names them.
-/
import Derived.Test.YtoophkpmbinmlaaHunks
import Derived.Test.YtoophkpmbinmlaaBelow
namespace Go.Proofs.Ytoophkpmbinmlaa
open Go.RowKit
set_option maxRecDepth 100000

/-- What gather stands on. -/
structure GB where
  (pa pb ph pl pi pj H1 ahead na nb ca cb : Nat)
  (va vb : Option Addr)
  A : List ByteArray
  B : List ByteArray

structure GB.Fit (E : GB) : Prop where
  o1 : E.pa < E.pb
  o2 : E.pb < E.ph
  o3 : E.ph < E.pl
  o4 : E.pl < E.pi
  o5 : E.pi < E.pj
  o6 : E.pj < E.H1
  lA : E.A.length = E.na
  lB : E.B.length = E.nb
  nA : E.na ≤ 800
  nB : E.nb ≤ 800
  nh : E.ahead ≤ 800
  cA : E.na ≤ E.ca
  cB : E.nb ≤ E.cb
  vA : E.va = none → E.ca = 0
  vB : E.vb = none → E.cb = 0
  lowA : ∀ x, E.va = some x → x.block < E.pa
  lowB : ∀ x, E.vb = some x → x.block < E.pa

structure GAt (E : GB) (w : World) (i j : Nat) (L : List (Hk ByteArray)) (vl : Value) (V : List (Value × Value)) (G : Nat → Prop) : Prop where
  ca : w.cell? ⟨E.pa, 0, none⟩ = some (.slice E.va E.na E.ca)
  cb : w.cell? ⟨E.pb, 0, none⟩ = some (.slice E.vb E.nb E.cb)
  ch : w.cell? ⟨E.ph, 0, none⟩ = some (.int .i64 E.ahead)
  cl : w.cell? ⟨E.pl, 0, none⟩ = some vl
  ci : w.cell? ⟨E.pi, 0, none⟩ = some (.int .i64 i)
  cj : w.cell? ⟨E.pj, 0, none⟩ = some (.int .i64 j)
  zl : w.frozen? ⟨E.pl, 0, none⟩ = false
  zi : w.frozen? ⟨E.pi, 0, none⟩ = false
  zj : w.frozen? ⟨E.pj, 0, none⟩ = false
  ra : Row w E.va E.A
  rb : Row w E.vb E.B
  own : w.ownsRow E.H1 24 3 vl L.length (hcells L V)
  len : V.length = L.length
  gl : ∀ k, Own1 vl k → G k
  st : ∀ (k : Nat) (h : Hk ByteArray) (p : Value × Value), L[k]? = some h → V[k]? = some p → StrAt w p.1 h.o ∧ StrAt w p.2 h.n ∧ ∀ b, Own1 p.1 b ∨ Own1 p.2 b → G b ∧ ¬ Own1 vl b
  gH : ∀ k, G k → E.H1 ≤ k ∧ k < w.heap.size
  top : E.H1 ≤ w.heap.size

theorem ownH_fr {M : Nat → Prop} {base n s : Nat} {w w' : World} {e : TypeId} {v : Value} {vs : List Value} (h : w.ownsRow base e s v n vs) (f : Fr M w w') (hm : ∀ k, Own1 v k → ¬ M k) : w'.ownsRow base e s v n vs := by
  refine ⟨h.1, ?_⟩
  rcases h.2 with h | ⟨g, cap, cur, hv, hg, hh, h⟩
  · exact Or.inl h
  · exact Or.inr ⟨g, cap, cur, hv, hg, f.at hh (hm g (by rw [hv]; rfl)), h⟩

theorem ownH_lt {base n s : Nat} {w : World} {e : TypeId} {v : Value} {vs : List Value} (h : w.ownsRow base e s v n vs) {k : Nat} (hk : Own1 v k) : base ≤ k ∧ k < w.heap.size := by
  rcases h.2 with ⟨hv, _⟩ | ⟨g, cap, cur, hv, hg, hh, _⟩
  · rw [Own1, hv] at hk; cases hk
  · rw [Own1, hv] at hk; cases hk; exact ⟨hg, (Array.getElem?_eq_some_iff.1 hh).1⟩

/-- What is done elsewhere leaves it. -/
theorem GAt.fr {E : GB} (hE : E.Fit) {w w' : World} {i j : Nat} {L : List (Hk ByteArray)} {vl : Value} {V : List (Value × Value)} {G : Nat → Prop} (h : GAt E w i j L vl V G) {M : Nat → Prop} (f : Fr M w w') (hM : ∀ k, M k → E.H1 ≤ k ∧ ¬ G k) : GAt E w' i j L vl V G := by
  have := hE.o1; have := hE.o2; have := hE.o3; have := hE.o4; have := hE.o5; have := hE.o6
  have low : ∀ k, k < E.H1 → ¬ M k := fun k hk e => by have := (hM k e).1; omega
  have nG : ∀ k, G k → ¬ M k := fun k hk e => (hM k e).2 hk
  refine ⟨f.cell h.ca (low E.pa (by omega)), f.cell h.cb (low E.pb (by omega)), f.cell h.ch (low E.ph (by omega)), f.cell h.cl (low E.pl (by omega)), f.cell h.ci (low E.pi (by omega)), f.cell h.cj (low E.pj (by omega)), (frozen_kept' (f.block _ (cell_lt h.cl) (low E.pl (by omega)))).trans h.zl, (frozen_kept' (f.block _ (cell_lt h.ci) (low E.pi (by omega)))).trans h.zi, (frozen_kept' (f.block _ (cell_lt h.cj) (low E.pj (by omega)))).trans h.zj,
    h.ra.frM f (fun x e => low x.block (by have := hE.lowA x e; omega)), h.rb.frM f (fun x e => low x.block (by have := hE.lowB x e; omega)), ownH_fr h.own f (fun k e => nG k (h.gl k e)), h.len, h.gl, fun k x p e1 e2 => ?_, fun k hk => ⟨(h.gH k hk).1, Nat.lt_of_lt_of_le (h.gH k hk).2 f.size⟩, Nat.le_trans h.top f.size⟩
  · obtain ⟨s1, s2, s3⟩ := h.st k x p e1 e2
    exact ⟨s1.fr f (fun b hb => nG b (s3 b (Or.inl hb)).1), s2.fr f (fun b hb => nG b (s3 b (Or.inr hb)).1), s3⟩

/-- The places are laid anew. -/
theorem GAt.go {E : GB} (hE : E.Fit) {w : World} {i j : Nat} {L : List (Hk ByteArray)} {vl : Value} {V : List (Value × Value)} {G : Nat → Prop} (h : GAt E w i j L vl V G) (x y : Nat) :
    GAt E ((w.setCell ⟨E.pi, 0, none⟩ (.int .i64 (x : Int))).setCell ⟨E.pj, 0, none⟩ (.int .i64 (y : Int))) x y L vl V G ∧ Fr (fun k => k = E.pi ∨ k = E.pj) w ((w.setCell ⟨E.pi, 0, none⟩ (.int .i64 (x : Int))).setCell ⟨E.pj, 0, none⟩ (.int .i64 (y : Int))) := by
  have := hE.o1; have := hE.o2; have := hE.o3; have := hE.o4; have := hE.o5; have := hE.o6
  have f1 : Fr (fun k => k = E.pi ∨ k = E.pj) w (w.setCell ⟨E.pi, 0, none⟩ (.int .i64 (x : Int))) := Fr.setCell (M := fun k => k = E.pi ∨ k = E.pj) w (a := ⟨E.pi, 0, none⟩) (Or.inl rfl) _
  have f2 : Fr (fun k => k = E.pi ∨ k = E.pj) (w.setCell ⟨E.pi, 0, none⟩ (.int .i64 (x : Int))) ((w.setCell ⟨E.pi, 0, none⟩ (.int .i64 (x : Int))).setCell ⟨E.pj, 0, none⟩ (.int .i64 (y : Int))) := Fr.setCell (M := fun k => k = E.pi ∨ k = E.pj) _ (a := ⟨E.pj, 0, none⟩) (Or.inr rfl) _
  have f := f1.then f2
  have low : ∀ k, k ≠ E.pi → k ≠ E.pj → ¬ (k = E.pi ∨ k = E.pj) := fun k h1 h2 e => e.elim h1 h2
  have high : ∀ k, E.H1 ≤ k → ¬ (k = E.pi ∨ k = E.pj) := fun k h1 e => by omega
  have np : (⟨E.pj, 0, none⟩ : Addr).block ≠ (⟨E.pi, 0, none⟩ : Addr).block := by show E.pj ≠ E.pi; omega
  have nG : ∀ k, G k → ¬ (k = E.pi ∨ k = E.pj) := fun k hk => high k (h.gH k hk).1
  refine ⟨⟨f.cell h.ca (low E.pa (by omega) (by omega)), f.cell h.cb (low E.pb (by omega) (by omega)), f.cell h.ch (low E.ph (by omega) (by omega)), f.cell h.cl (low E.pl (by omega) (by omega)), ?_, ?_, (frozen_kept' (f.block _ (cell_lt h.cl) (low E.pl (by omega) (by omega)))).trans h.zl, ?_, ?_,
    h.ra.frM f (fun x e => low x.block (by have := hE.lowA x e; omega) (by have := hE.lowA x e; omega)), h.rb.frM f (fun x e => low x.block (by have := hE.lowB x e; omega) (by have := hE.lowB x e; omega)), ownH_fr h.own f (fun k e => nG k (h.gl k e)), h.len, h.gl, fun k x p e1 e2 => ?_, fun k hk => ⟨(h.gH k hk).1, Nat.lt_of_lt_of_le (h.gH k hk).2 f.size⟩, Nat.le_trans h.top f.size⟩, f⟩
  · rw [World.cell?_setCell_far _ _ _ _ np]
    exact World.cell?_setCell_same' _ _ _ (by rw [h.ci]; rfl)
  · refine World.cell?_setCell_same' _ _ _ ?_
    rw [World.cell?_setCell_far _ _ _ _ np.symm, h.cj]
    rfl
  · rw [World.frozen?_setCell, World.frozen?_setCell]
    exact h.zi
  · rw [World.frozen?_setCell, World.frozen?_setCell]
    exact h.zj
  · obtain ⟨s1, s2, s3⟩ := h.st k x p e1 e2
    exact ⟨s1.fr f (fun b hb => nG b (s3 b (Or.inl hb)).1), s2.fr f (fun b hb => nG b (s3 b (Or.inr hb)).1), s3⟩

/-- A hunk more. -/
theorem GAt.app {E : GB} (hE : E.Fit) {w w2 : World} {i j : Nat} {L : List (Hk ByteArray)} {vl : Value} {V : List (Value × Value)} {G : Nat → Prop} (h : GAt E w i j L vl V G) (F : Fr None' w w2) {v1 v2 : Value} {o n : List ByteArray}
    (o1 : OwnV w.heap.size w2 9 v1 (o.map .string)) (o2 : OwnV w.heap.size w2 9 v2 (n.map .string)) (at' : Nat) (hL : L.length ≤ 2000) :
    ∃ g c w4, (Builtin.append_ #[28, 28] 28 #[vl, .slice (some ⟨w2.heap.size, 0, none⟩) 1 1]).run Try.prog (w2.alloc (.cells #[.int .i64 (at' : Int), v1, v2] 24 (0, 0))) = .ok (.slice (some ⟨g, 0, none⟩) (L.length + 1) c) w4 ∧
      Fr (Own1 vl) w w4 ∧ Fr (fun k => k = E.pl ∨ Own1 vl k) w (w4.setCell ⟨E.pl, 0, none⟩ (.slice (some ⟨g, 0, none⟩) (L.length + 1) c)) ∧ w4.cell? ⟨E.pl, 0, none⟩ = some vl ∧ w4.frozen? ⟨E.pl, 0, none⟩ = false ∧
      GAt E (w4.setCell ⟨E.pl, 0, none⟩ (.slice (some ⟨g, 0, none⟩) (L.length + 1) c)) i j (L ++ [⟨at', o, n⟩]) (.slice (some ⟨g, 0, none⟩) (L.length + 1) c) (V ++ [(v1, v2)]) (fun k => (G k ∨ w.heap.size ≤ k) ∧ k < w4.heap.size) := by
  have := hE.o1; have := hE.o2; have := hE.o3; have := hE.o4; have := hE.o5; have := hE.o6
  have one : ∀ {v : Value} {l : List ByteArray}, OwnV w.heap.size w2 9 v (l.map .string) → v.oneCell' = true := fun hv => by
    obtain ⟨va, c, e, _⟩ := hv.slice
    rw [e]; rfl
  have F3 : Fr None' w (w2.alloc (.cells #[.int .i64 (at' : Int), v1, v2] 24 (0, 0))) := F.then (Fr.alloc None' _ _)
  have hs3 : (w2.alloc (.cells #[.int .i64 (at' : Int), v1, v2] 24 (0, 0))).heap.size = w2.heap.size + 1 := by simp
  have hb : (w2.alloc (.cells #[.int .i64 (at' : Int), v1, v2] 24 (0, 0))).heap[w2.heap.size]? = some (.cells #[.int .i64 (at' : Int), v1, v2] 24 (0, 0)) := Array.getElem?_push_size
  have r1 : OwnV w.heap.size (w2.alloc (.cells #[.int .i64 (at' : Int), v1, v2] 24 (0, 0))) 9 v1 (o.map .string) := o1.fr (Fr.alloc None' _ _) (fun _ _ e => e)
  have r2 : OwnV w.heap.size (w2.alloc (.cells #[.int .i64 (at' : Int), v1, v2] 24 (0, 0))) 9 v2 (n.map .string) := o2.fr (Fr.alloc None' _ _) (fun _ _ e => e)
  obtain ⟨w3, hw3⟩ : ∃ w3, w2.alloc (.cells #[.int .i64 (at' : Int), v1, v2] 24 (0, 0)) = w3 := ⟨_, rfl⟩
  rw [hw3] at F3 hs3 hb r1 r2 ⊢
  have hs2 := F.size
  obtain ⟨g, c, w4, hr, own4, f4, hg⟩ := append_hunk (ownH_fr h.own F3 (fun _ _ e => e)) hb rfl (one o1) (one o2) (by omega) (by have := h.top; omega)
  have F4 : Fr (Own1 vl) w w4 := (F3.mono (fun _ e => e.elim)).then f4
  have nvl : ∀ k, Own1 vl k → E.H1 ≤ k ∧ k < w.heap.size := fun k hk => ownH_lt h.own hk
  have f5 : Fr (fun k => k = E.pl) w4 (w4.setCell ⟨E.pl, 0, none⟩ (.slice (some ⟨g, 0, none⟩) (L.length + 1) c)) := Fr.setCell (M := fun k => k = E.pl) w4 (a := ⟨E.pl, 0, none⟩) rfl _
  have F5 : Fr (fun k => k = E.pl ∨ Own1 vl k) w (w4.setCell ⟨E.pl, 0, none⟩ (.slice (some ⟨g, 0, none⟩) (L.length + 1) c)) := (F4.mono (fun _ e => Or.inr e)).then (f5.mono (fun _ e => Or.inl e))
  have cl4 : w4.cell? ⟨E.pl, 0, none⟩ = some vl := F4.cell h.cl (fun e => by have : E.H1 ≤ E.pl := (nvl _ e).1; omega)
  have zl4 : w4.frozen? ⟨E.pl, 0, none⟩ = false := (frozen_kept' (F4.block _ (cell_lt h.cl) (fun e => by have : E.H1 ≤ E.pl := (nvl _ e).1; omega))).trans h.zl
  have low : ∀ k, k < E.H1 → k ≠ E.pl → ¬ (k = E.pl ∨ Own1 vl k) := fun k hk h1 e => e.elim h1 (fun e => by have := (nvl k e).1; omega)
  have hgw4 : g < w4.heap.size := (ownH_lt own4 (k := g) rfl).2
  have hsz5 : (w4.setCell ⟨E.pl, 0, none⟩ (.slice (some ⟨g, 0, none⟩) (L.length + 1) c)).heap.size = w4.heap.size := by simp [World.setCell]
  have hs4 := f4.size
  have hgo : ∀ k, Own1 (.slice (some ⟨g, 0, none⟩) (L.length + 1) c) k → k = g := fun k hk => by cases hk; rfl
  have new : ∀ {v : Value} {l : List ByteArray}, OwnV w.heap.size w3 9 v (l.map .string) → OwnV w.heap.size w2 9 v (l.map .string) → StrAt (w4.setCell ⟨E.pl, 0, none⟩ (.slice (some ⟨g, 0, none⟩) (L.length + 1) c)) v l ∧ ∀ b, Own1 v b → ((G b ∨ w.heap.size ≤ b) ∧ b < w4.heap.size) ∧ ¬ Own1 (.slice (some ⟨g, 0, none⟩) (L.length + 1) c) b := fun {v l} hv hv2 => by
    refine ⟨((OwnV.strAt hv).fr f4 (fun k hk e => ?_)).fr f5 (fun k hk e => ?_), fun b hb => ⟨⟨Or.inr (hv.lt hb).1, ?_⟩, fun e => ?_⟩⟩
    · have := (hv.lt hk).1; have := (nvl k e).2; omega
    · have := (hv.lt hk).1; have : k = E.pl := e; have := h.top; omega
    · have := (hv.lt hb).2; omega
    · have e2 := hgo b e
      have h1 := (hv.lt hb).1
      have h2 := (hv2.lt hb).2
      rcases hg with hg | hg
      · have := (nvl g hg).2; omega
      · omega
  refine ⟨g, c, w4, hr, F4, F5, cl4, zl4, ?_⟩
  refine ⟨F5.cell h.ca (low E.pa (by omega) (by omega)), F5.cell h.cb (low E.pb (by omega) (by omega)), F5.cell h.ch (low E.ph (by omega) (by omega)), World.cell?_setCell_same' _ _ _ (by rw [cl4]; rfl), F5.cell h.ci (low E.pi (by omega) (by omega)), F5.cell h.cj (low E.pj (by omega) (by omega)), by rw [World.frozen?_setCell]; exact zl4, (frozen_kept' (F5.block _ (cell_lt h.ci) (low E.pi (by omega) (by omega)))).trans h.zi, (frozen_kept' (F5.block _ (cell_lt h.cj) (low E.pj (by omega) (by omega)))).trans h.zj,
    h.ra.frM F5 (fun x e => low x.block (by have := hE.lowA x e; omega) (by have := hE.lowA x e; omega)), h.rb.frM F5 (fun x e => low x.block (by have := hE.lowB x e; omega) (by have := hE.lowB x e; omega)), ?_, by rw [List.length_append, List.length_append, h.len]; rfl, fun k e => ?_, fun k x p e1 e2 => ?_, fun k hk => ⟨?_, by rw [hsz5]; exact hk.2⟩, by have := h.top; omega⟩
  · rw [List.length_append, hcells_snoc _ _ _ _ _ h.len]
    exact ownH_fr own4 f5 (fun k e e' => by have := (ownH_lt own4 e).1; have : k = E.pl := e'; omega)
  · have := hgo k e
    subst this
    refine ⟨?_, hgw4⟩
    rcases hg with hg | hg
    · exact Or.inl (h.gl _ hg)
    · exact Or.inr (by omega)
  · by_cases ek : k < L.length
    · rw [List.getElem?_append_left ek] at e1
      rw [List.getElem?_append_left (by rw [h.len]; exact ek)] at e2
      obtain ⟨s1, s2, s3⟩ := h.st k x p e1 e2
      have nb : ∀ b, Own1 p.1 b ∨ Own1 p.2 b → ¬ (b = E.pl ∨ Own1 vl b) := fun b hb e => by
        rcases e with e | e
        · have := (h.gH b (s3 b hb).1).1; omega
        · exact (s3 b hb).2 e
      refine ⟨s1.fr F5 (fun b hb => nb b (Or.inl hb)), s2.fr F5 (fun b hb => nb b (Or.inr hb)), fun b hb => ⟨⟨Or.inl (s3 b hb).1, ?_⟩, fun e => ?_⟩⟩
      · have := (h.gH b (s3 b hb).1).2; have := F4.size; omega
      · have e2 := hgo b e
        rcases hg with hg | hg
        · exact (s3 b hb).2 (e2 ▸ hg)
        · have := (h.gH b (s3 b hb).1).2; omega
    · have hk : k = L.length := by
        have := (List.getElem?_eq_some_iff.1 e1).1
        rw [List.length_append] at this
        simp at this
        omega
      subst hk
      rw [List.getElem?_append_right (Nat.le_refl _), Nat.sub_self] at e1
      rw [List.getElem?_append_right (by rw [h.len]; exact Nat.le_refl _), h.len, Nat.sub_self] at e2
      cases e1
      cases e2
      exact ⟨(new r1 o1).1, (new r2 o2).1, fun b hb => hb.elim ((new r1 o1).2 b) ((new r2 o2).2 b)⟩
  · rcases hk.1 with e | e
    · exact (h.gH k e).1
    · have := h.top; omega

end Go.Proofs.Ytoophkpmbinmlaa
