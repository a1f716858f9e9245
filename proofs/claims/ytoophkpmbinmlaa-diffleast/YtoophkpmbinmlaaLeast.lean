/-
  What is proved here: what an argument that is a row of hunks is in memory, and the walk through DiffLeast. Conditions: the arguments lie in memory.
-/
import Derived.Test.YtoophkpmbinmlaaBack1
import Derived.Test.YtoophkpmbinmlaaRKept2
import Derived.Test.YtoophkpmbinmlaaCostI
import Derived.Deep.Slices
namespace Go.Proofs.Ytoophkpmbinmlaa
open Go.ChangeShapes Go.WideShapes Go.ChangeAt Go.RowKit Go.Shelf Go.Deep
set_option maxRecDepth 100000

theorem mapM_at {α β : Type} (f : α → Option β) : ∀ (l : List α) (r : List β), l.mapM f = some r → ∀ (j : Nat) (u : β), r[j]? = some u → ∃ x, l[j]? = some x ∧ f x = some u
  | [], r, h, j, u, hu => by
    simp at h; subst h; simp at hu
  | a :: l, r, h, j, u, hu => by
    rw [List.mapM_cons] at h
    obtain ⟨y, hy, h⟩ := Option.bind_eq_some_iff.1 h
    obtain ⟨ys, hys, h⟩ := Option.bind_eq_some_iff.1 h
    obtain rfl : y :: ys = r := by simpa using h
    cases j with
    | zero => simp at hu; subst hu; exact ⟨a, rfl, hy⟩
    | succ j => simpa using mapM_at f l ys hys j u (by simpa using hu)

theorem cells_at {w : World} {a : Addr} {n : Nat} {cs : List Value} (h : w.cells? 0 a n = some cs) (j : Nat) (u : Value) (hj : cs[j]? = some u) : w.cell? (a.add j) = some u := by
  unfold World.cells? at h
  rw [if_pos (Nat.zero_le _)] at h
  obtain ⟨x, h1, h2⟩ := mapM_at _ _ _ h j u hj
  have : x = j := by
    obtain ⟨h3, h4⟩ := List.getElem?_eq_some_iff.1 h1
    simpa using h4.symm
  rw [← this]; exact h2

/-- Texts in a slice of bounded length. -/
def StrTop (w : World) (v : Value) (l : List ByteArray) : Prop := StrAt w v l ∧ l.length ≤ maxLen

theorem trod_strs {H : Type} {enc : TypeId × Value → H} {W : World} {fuel : Nat} {sp : Nat → Bool} {held : Bool} {cs : List Value} {x : DataW H × List MemPlace} (h : DataW.trod enc Try.prog W 0 sp held fuel 22 cs = some x) : ∃ v l, cs = [v] ∧ StrTop W v l := by
  rcases Deep.open_strs Try.underlying22 Try.underlying9 (by kernel_rfl) h with ⟨hcs, _⟩ | ⟨ad, len, cap, m, Sx, hcs, _, hl, hm, hmm, _, hcell⟩
  · exact ⟨_, [], hcs, ⟨none, 0, rfl, fun _ => rfl, Nat.le_refl _, Row.nil _ _⟩, Nat.zero_le _⟩
  · have hlm : len ≤ m := by rw [hmm]; split <;> omega
    refine ⟨_, (List.range len).map Sx, hcs, ⟨some ad, cap, by simp, (fun e => by cases e), by simpa using hl, fun j x hj => ?_⟩, by simp; omega⟩
    have hjn : j < len := by simpa using (List.getElem?_eq_some_iff.1 hj).1
    have hx : Sx j = x := by simpa [hjn] using hj
    have h0 := spot_none (hcell 0 (by omega)).1
    rw [show ad.add 0 = ad from rfl] at h0
    refine ⟨ad.block, ad.off, ?_, ?_⟩
    · obtain ⟨b, o, s⟩ := ad
      simp_all
    · rw [← add_none h0, ← hx]
      exact (hcell j (by omega)).1

theorem trod_hunk {H : Type} {enc : TypeId × Value → H} {W : World} {fuel : Nat} {sp : Nat → Bool} {held : Bool} {cs : List Value} {x : DataW H × List MemPlace} (h : DataW.trod enc Try.prog W 0 sp held fuel 24 cs = some x) :
    ∃ (t : HI) (vo vn : Value), cs = [.int .i64 t.x, vo, vn] ∧ StrTop W vo t.o ∧ StrTop W vn t.n ∧ -9223372036854775808 ≤ t.x ∧ t.x < 9223372036854775808 := by
  obtain ⟨xs, n, _, rfl, hl, hlen, hf⟩ := DataW.trod_struct Try.underlying24 h
  have h3 : Try.prog.cellsOf 24 = 3 := by kernel_rfl
  have hcI : Try.prog.cellsOf 3 = 1 := by kernel_rfl
  have hcS : Try.prog.cellsOf 22 = 1 := by kernel_rfl
  rw [h3] at hl
  match cs, hl, xs, hlen with
  | [c0, c1, c2], _, [x0, x1, x2], _ =>
    have f0 := hf 0 _ rfl
    have f1 := hf 1 _ rfl
    have f2 := hf 2 _ rfl
    simp [hcI, hcS] at f0 f1 f2
    obtain ⟨z, e0, _, w0⟩ := DataW.trod_int Try.underlying3 f0
    obtain ⟨vo, lo, e1, s1⟩ := trod_strs f1
    obtain ⟨vn, ln, e2, s2⟩ := trod_strs f2
    simp only [List.cons.injEq, and_true] at e0 e1 e2
    subst e0 e1 e2
    have hz : IntKind.i64.min ≤ z ∧ z ≤ IntKind.i64.max := by
      simpa [Lit.wf] using w0
    have h1 : IntKind.i64.min = -9223372036854775808 := by decide
    have h2 : IntKind.i64.max = 9223372036854775807 := by decide
    rw [h1, h2] at hz
    exact ⟨⟨z, lo, ln⟩, c1, c2, rfl, s1, s2, hz.1, by show z < _; omega⟩

/-- A row of hunks as an argument is. -/
structure ArgHs (W : World) (a : Option Addr) (n c : Nat) (L : List HI) : Prop where
  len : L.length = n
  top : n ≤ maxLen
  no : a = none → c = 0
  cell : ∀ k h, L[k]? = some h → ∃ g o vo vn, a = some ⟨g, o, none⟩ ∧ W.cell? ⟨g, o + k * 3, none⟩ = some (.int .i64 h.x) ∧ W.cell? ⟨g, o + k * 3 + 1, none⟩ = some vo ∧ W.cell? ⟨g, o + k * 3 + 2, none⟩ = some vn ∧ StrTop W vo h.o ∧ StrTop W vn h.n ∧ -9223372036854775808 ≤ h.x ∧ h.x < 9223372036854775808

theorem ArgHs.at {W : World} {a : Option Addr} {n c : Nat} {L : List HI} (h : ArgHs W a n c L) : HIsAt W (.slice a n c) L := by
  refine ⟨a, c, by rw [h.len], h.no, fun k x hk => ?_⟩
  obtain ⟨g, o, vo, vn, e, c1, c2, c3, s1, s2, _⟩ := h.cell k x hk
  exact ⟨g, o, vo, vn, e, c1, c2, c3, s1.1, s2.1⟩

theorem arg_hunks {H : Type} {enc : TypeId × Value → H} {W : World} {sp : Nat → Bool} {held : Bool} {base : Nat} {v : Value} {d : DataW H} {ps : List MemPlace} (hv : Value.okWide Try.prog W .any base 28 v) (h : DataW.Trod enc Try.prog W 0 sp held 28 v d ps) :
    ∃ a n c L, v = .slice a n c ∧ ArgHs W a n c L := by
  obtain ⟨a, n, c, rfl⟩ := okWide_slice Try.underlying28 hv
  obtain ⟨fuel, hf⟩ := h
  rcases open_slice Try.underlying28 hf with ⟨hcs, _⟩ | ⟨ad, len, cap, m, f, D, Pl, hcs, _, hl, hm, hmm, _, hx⟩
  · simp only [Value.cells, List.cons.injEq, Value.slice.injEq, and_true] at hcs
    obtain ⟨rfl, rfl, rfl⟩ := hcs
    exact ⟨none, 0, 0, [], rfl, rfl, Nat.zero_le _, fun _ => rfl, fun k h e => by simp at e⟩
  · simp only [Value.cells, List.cons.injEq, Value.slice.injEq, and_true] at hcs
    obtain ⟨rfl, rfl, rfl⟩ := hcs
    have hlm : n ≤ m := by rw [hmm]; split <;> omega
    have h3 : Try.prog.cellsOf 24 = 3 := by kernel_rfl
    rw [h3] at hx
    have hall : ∀ i, i < n → ∃ t : HI × Value × Value, ∃ cs', W.cells? 0 (ad.add (i * 3)) 3 = some cs' ∧ cs' = [.int .i64 t.1.x, t.2.1, t.2.2] ∧ StrTop W t.2.1 t.1.o ∧ StrTop W t.2.2 t.1.n ∧ -9223372036854775808 ≤ t.1.x ∧ t.1.x < 9223372036854775808 := fun i hi => by
      obtain ⟨cs', h1, h2⟩ := hx i (by omega)
      obtain ⟨t, vo, vn, e, ho⟩ := trod_hunk h2
      exact ⟨(t, vo, vn), cs', h1, e, ho⟩
    have hin : Inhabited (HI × Value × Value) := ⟨(⟨0, [], []⟩, .nilFunc, .nilFunc)⟩
    obtain ⟨T, hT⟩ := choose_lt hall
    refine ⟨some ad, n, c, (List.range n).map (fun i => (T i).1), rfl, by simp, by omega, (fun e => by cases e), fun i t hi => ?_⟩
    have hil : i < n := by simpa using (List.getElem?_eq_some_iff.1 hi).1
    have e : (T i).1 = t := by simpa [hil] using hi
    obtain ⟨cs', h1, h2, s1, s2, hz⟩ := hT i hil
    subst h2
    have c0 := cells_at h1 0 _ rfl
    have c1 := cells_at h1 1 _ rfl
    have c2 := cells_at h1 2 _ rfl
    have hsp : ad.spot = none := by
      obtain ⟨cs0, g1, g2, _⟩ := hT 0 (by omega)
      subst g2
      have := spot_none (cells_at g1 0 _ rfl)
      simpa [Addr.add] using this
    have ead : ad.add (i * 3) = ⟨ad.block, ad.off + i * 3, none⟩ := add_none hsp _
    rw [ead] at c0 c1 c2
    rw [add_none rfl] at c0 c1 c2
    rw [← e]
    refine ⟨ad.block, ad.off, _, _, ?_, c0, c1, c2, s1, s2, hz⟩
    obtain ⟨b, o, s⟩ := ad
    simp_all

theorem ArgHs.kept {W W' : World} {a : Option Addr} {n c : Nat} {L : List HI} (h : ArgHs W a n c L) (f : Fr None' W W') : ArgHs W' a n c L := by
  refine ⟨h.len, h.top, h.no, fun k x hk => ?_⟩
  obtain ⟨g, o, vo, vn, e, c1, c2, c3, s1, s2, hz⟩ := h.cell k x hk
  exact ⟨g, o, vo, vn, e, f.cell c1 (fun e => e), f.cell c2 (fun e => e), f.cell c3 (fun e => e), ⟨s1.1.kept f, s1.2⟩, ⟨s2.1.kept f, s2.2⟩, hz⟩

def HI.hk (h : HI) : Hk ByteArray := ⟨h.x.toNat, h.o, h.n⟩

theorem costI_hk (L : List HI) : costI L = cost (L.map HI.hk) := by
  unfold costI cost
  rw [List.map_map]
  rfl

theorem applyAll_snoc {l l' l'' : List ByteArray} {L : List (Hk ByteArray)} {h : Hk ByteArray} (h1 : applyAll l L = some l') (h2 : apply1 l' h = some l'') : applyAll l (L ++ [h]) = some l'' := by
  induction L generalizing l with
  | nil =>
    rw [applyAll] at h1
    cases h1
    rw [List.nil_append, applyAll, h2]
    rfl
  | cons x L ih =>
    rw [List.cons_append, applyAll]
    rw [applyAll] at h1
    cases hx : apply1 l x with
    | none => rw [hx] at h1; cases h1
    | some y => rw [hx] at h1; exact ih h1

/-- What k of the hunks have made. -/
structure LS (L : List HI) (l0 : List ByteArray) (k : Nat) (X : List ByteArray) : Prop where
  eq : applyAll l0 ((L.take k).map HI.hk) = some X
  len : X.length ≤ 200 + 200 * k
  low : ∀ h ∈ L.take k, h.o.length ≤ 200 ∧ h.n.length ≤ 200

theorem LS.start (L : List HI) (l0 : List ByteArray) (h : l0.length ≤ 200) : LS L l0 0 l0 := ⟨rfl, by omega, fun h hm => by simp at hm⟩

theorem LS.next {L : List HI} {l0 X X' : List ByteArray} {k : Nat} (h : LS L l0 k X) (hk : k < L.length) (ho : L[k].o.length ≤ 200) (hn : L[k].n.length ≤ 200) (e : applyI X L[k].x L[k].o L[k].n = some X') : LS L l0 (k + 1) X' := by
  have hl := (applyI_some e).2
  refine ⟨?_, by have := h.len; omega, fun x hm => ?_⟩
  · rw [List.take_succ_eq_append_getElem hk, List.map_append]
    refine applyAll_snoc h.eq ?_
    unfold applyI at e
    split at e
    · exact e
    · cases e
  · rw [List.take_succ_eq_append_getElem hk] at hm
    rcases List.mem_append.1 hm with h1 | h1
    · exact h.low x h1
    · simp at h1; subst h1; exact ⟨ho, hn⟩

theorem costI_bound (L : List HI) (h : ∀ x ∈ L, x.o.length ≤ 200 ∧ x.n.length ≤ 200) : costI L ≤ 400 * L.length := by
  induction L with
  | nil => simp [costI]
  | cons x L ih =>
    have h1 := ih (fun y hy => h y (List.mem_cons_of_mem _ hy))
    have h2 := h x List.mem_cons_self
    simp only [costI, List.map_cons, List.sum_cons, List.length_cons] at h1 ⊢
    omega

theorem LS.done {L : List HI} {l0 X : List ByteArray} (h : LS L l0 L.length X) (hL : L.length ≤ 20) : costI L ≤ 8000 ∧ ∀ l1, X = l1 → l0.length + l1.length ≤ costI L + 2 * lcs l0 l1 := by
  have h1 := h.eq
  have h2 := h.low
  rw [List.take_length] at h1 h2
  refine ⟨by have := costI_bound L h2; omega, fun l1 e => ?_⟩
  subst e
  rw [costI_hk]
  exact least _ _ _ h1

theorem greatHunk_any2 {w : World} {x : Int} {po pn : Option Addr} {no nn co cn : Nat} {o n : List ByteArray} (lo : o.length = no) (ln : n.length = nn) (ro : Row w po o) (rn : Row w pn n) (to : no ≤ maxLen) (tn : nn ≤ maxLen) :
    Calls Try.prog 11 #[.agg #[.int .i64 x, .slice po no co, .slice pn nn cn]] w fun e w' => Told o n e ∧ Fr None' w w' := by
  have hg := great_any po pn co cn no nn o n (w.alloc (.cells #[.int .i64 x, .slice po no co, .slice pn nn cn] 24)) lo ln (ro.fr (Fr.alloc None' w _)) (rn.fr (Fr.alloc None' w _)) (by unfold maxLen at to; omega) (by unfold maxLen at tn; omega)
  clear lo ln ro rn
  go_enter Try.func11, Try.ntmps11
  go_wp2_with fail
  refine hg.mono ?_
  rintro e w2 ⟨⟨r, rfl, hr⟩, rfl⟩
  have HR : Hid (r = false → o.length ≤ 200 ∧ n.length ≤ 200 ∧ (∀ s ∈ o, s.size ≤ 3000) ∧ ∀ s ∈ n, s.size ≤ 3000) := hr
  clear hr hg
  go_wp2_with fail
  go_ret
  exact ⟨⟨r, rfl, HR.out⟩, Fr.alloc None' w _⟩

end Go.Proofs.Ytoophkpmbinmlaa
