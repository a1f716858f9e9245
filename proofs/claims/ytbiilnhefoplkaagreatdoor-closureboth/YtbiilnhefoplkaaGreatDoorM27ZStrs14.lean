/-
  What is proved here: the contracts that the statement stands on: ZStrs14, ZCall14, ArgB14, BothW14. Conditions: as each theorem names them.
-/
import Derived.Test.YtbiilnhefoplkaaGreatDoorM26ZDown14
import Derived.Maps.AppendAt
import Derived.Laws.OwnMore
namespace Go.Proofs.YtbiilnhefoplkaaGreatDoor
open Go.RowKit Go.Maps Go.WideMaps
set_option maxRecDepth 100000

/-- v is a row of texts of the call's own. -/
def OwnS14 (B : Nat) (w : World) (v : Value) (l : List ByteArray) : Prop := w.ownsRow B 9 1 v l.length (l.map Value.string)

theorem OwnS14.slice {B : Nat} {w : World} {v : Value} {l : List ByteArray} (h : OwnS14 B w v l) : ∃ va c, v = .slice va l.length c ∧ (∀ a, va = some a → B ≤ a.block) ∧ StrsAt w v l := by
  rcases h.2 with ⟨hv, h0⟩ | ⟨g, cap, cur, hv, hb, hh, hc, _, hs, ht⟩
  · have e : l = [] := List.length_eq_zero_iff.1 h0
    subst e
    exact ⟨none, 0, hv, (fun a e => by cases e), ⟨none, 0, hv, fun _ => rfl, Nat.le_refl _, Lines.Row.nil _ _⟩⟩
  · refine ⟨_, cap, hv, (fun a e => by cases e; exact hb), ⟨_, cap, hv, (fun e => by cases e), hc, fun i x hi => ⟨g, 0, rfl, ?_⟩⟩⟩
    have hlt := (List.getElem?_eq_some_iff.1 hi).1
    have hl : (l.map Value.string)[i]? = some (.string x) := by rw [List.getElem?_map, hi]; rfl
    rw [← ht, List.getElem?_take, if_pos (by omega)] at hl
    rw [World.cell?, Nat.zero_add, hh]
    simpa using hl

theorem OwnS14.nil (B : Nat) (w : World) : OwnS14 B w (.slice none 0 0) [] := World.ownsRow_nil w B 9 1

theorem OwnS14.empty (w : World) : OwnS14 w.heap.size (w.alloc (.cells #[] 9)) (.slice (some ⟨w.heap.size, 0, none⟩) 0 0) [] := ⟨rfl, .inr ⟨w.heap.size, 0, #[], rfl, Nat.le_refl _, heap_alloc_new w _, Nat.le_refl _, Nat.zero_le _, rfl, rfl⟩⟩

theorem OwnS14.ge {B : Nat} {w : World} {v : Value} {l : List ByteArray} (h : OwnS14 B w v l) : ∀ k, v.ownBlock = some k → B ≤ k := fun k hk => by
  rcases h.2 with ⟨hv, _⟩ | ⟨g, cap, cur, hv, hb, _⟩
  · rw [hv] at hk; cases hk
  · rw [hv] at hk; cases hk; exact hb

theorem OwnS14.frame {B : Nat} {w w' : World} {v : Value} {l : List ByteArray} (h : OwnS14 B w v l) {M : Nat → Prop} (f : Fr M w w') (hM : ∀ k, M k → k < B) : OwnS14 B w' v l := by
  refine ⟨h.1, ?_⟩
  rcases h.2 with h | ⟨g, cap, cur, hv, hb, hh, h⟩
  · exact Or.inl h
  · exact Or.inr ⟨g, cap, cur, hv, hb, f.at hh (fun e => by have := hM g e; omega), h⟩

theorem OwnS14.push {B : Nat} {w : World} {v : Value} {l : List ByteArray} (h : OwnS14 B w v l) (x : ByteArray) (hB : B ≤ w.heap.size) (hl : l.length ≤ 2000000000) :
    ∃ v' w', (Builtin.append_ #[23, 23] 23 #[v, .slice (some ⟨w.heap.size, 0, none⟩) 1 1]).run Tryz.prog (w.alloc (.cells #[.string x] 9)) = .ok v' w' ∧ OwnS14 B w' v' (l ++ [x]) ∧ Fr (fun k => v.ownBlock = some k) w w' := by
  obtain ⟨i0, hi, hz0, hz1, hz2⟩ := info_parts Lines.Tryz.infoS
  have F1 : Fr None' w (w.alloc (.cells #[.string x] 9)) := Fr.alloc None' w _
  have hown : OwnS14 B (w.alloc (.cells #[.string x] 9)) v l := h.frame F1 (fun _ e => e.elim)
  obtain ⟨v', w', hr, h5, h6, _, _⟩ := run_append_own_at (P := Tryz.prog) (w.alloc (.cells #[.string x] 9)) B 23 23 9 i0 (.string ⟨#[]⟩) 1 16 Tryz.underlying23 hi hz0 hz1 hz2 rfl (by decide) v l.length _ hown ⟨w.heap.size, 0, none⟩ 1 1 [.string x] rfl (fun j u hj => by
    match j, hj with
    | 0, hj => simp at hj; subst hj; simp [Addr.add]) (fun u hu => by simp at hu; subst hu; rfl) (by unfold maxLen; omega) (by omega) (by have := F1.size; omega)
  refine ⟨v', w', hr, ?_, (F1.mono (M' := fun k => v.ownBlock = some k) (fun _ e => e.elim)).then (Fr.grown h6 (fun k e => e))⟩
  unfold OwnS14
  rw [List.length_append, List.map_append]
  exact h5

/-- Texts put behind a row of the call's own. -/
theorem OwnS14.addAll {B : Nat} {w : World} {v : Value} {l : List ByteArray} (h : OwnS14 B w v l) {va : Option Addr} {n c : Nat} {m : List ByteArray} (hm : StrsAt w (.slice va n c) m) (hB : B ≤ w.heap.size) (hl : l.length + m.length ≤ 2000000000) :
    ∃ v' w', (Builtin.append_ #[23, 23] 23 #[v, .slice va n c]).run Tryz.prog w = .ok v' w' ∧ OwnS14 B w' v' (l ++ m) ∧ Fr (fun k => v.ownBlock = some k) w w' := by
  obtain ⟨i0, hi, hz0, hz1, hz2⟩ := info_parts Lines.Tryz.infoS
  obtain ⟨va', c', e, h1, h2, h3⟩ := hm
  cases e
  cases va with
  | none =>
    have hc := h1 rfl
    subst hc
    obtain rfl : m = [] := List.length_eq_zero_iff.1 (by omega)
    refine ⟨v, w, run_append_owned_none (P := Tryz.prog) (w := w) B 23 23 9 i0 1 Tryz.underlying23 hi v l.length _ h, ?_, Fr.refl _ _⟩
    rw [List.append_nil]
    exact h
  | some a =>
    obtain ⟨v', w', hr, h5, h6, _, _⟩ := run_append_own_at (P := Tryz.prog) w B 23 23 9 i0 (.string ⟨#[]⟩) 1 16 Tryz.underlying23 hi hz0 hz1 hz2 rfl (by decide) v l.length _ h a m.length c (m.map Value.string) (by rw [List.length_map, Nat.mul_one]) (fun j u hj => by
      rw [List.getElem?_map] at hj
      cases hx : m[j]? with
      | none => rw [hx] at hj; cases hj
      | some x =>
        rw [hx] at hj
        cases hj
        obtain ⟨g, o, e1, e2⟩ := h3 j x hx
        cases e1
        have e3 : (Addr.mk g o none).add j = ⟨g, o + j, none⟩ := by simp only [Addr.add]; split <;> simp_all
        rw [e3]; exact e2) (fun u hu => by
      obtain ⟨x, _, rfl⟩ := List.mem_map.1 hu
      rfl) (by unfold maxLen; omega) (by omega) hB
    refine ⟨v', w', hr, ?_, Fr.grown h6 (fun k e => e)⟩
    unfold OwnS14
    rw [List.length_append, List.map_append]
    exact h5

/-- 'append([]string{}, a...)'. -/
theorem copy_run14 (w : World) {va : Option Addr} {n c : Nat} {m : List ByteArray} (hm : StrsAt w (.slice va n c) m) (hl : m.length ≤ 1000000000) :
    ∃ v1 w1, (Builtin.append_ #[23, 23] 23 #[.slice (some ⟨w.heap.size, 0, none⟩) 0 0, .slice va n c]).run Tryz.prog (w.alloc (.cells #[] 9)) = .ok v1 w1 ∧ OwnS14 w.heap.size w1 v1 m ∧ Fr None' w w1 := by
  have F0 : Fr None' w (w.alloc (.cells #[] 9)) := Fr.alloc None' w _
  obtain ⟨v1, w1, r1, o1, f1⟩ := (OwnS14.empty w).addAll (hm.kept F0) F0.size (by simp; omega)
  rw [List.nil_append] at o1
  exact ⟨v1, w1, r1, o1, F0.trans f1 (fun i e => Or.inr (by cases e; exact Nat.le_refl _))⟩

/-- 'append(append([]string{}, a...), b...)': both runs. -/
theorem both_run14 (w : World) {va : Option Addr} {n c : Nat} {m : List ByteArray} (hm : StrsAt w (.slice va n c) m) (hl : m.length ≤ 1000000000) {vb : Option Addr} {k d : Nat} {q : List ByteArray} (hq : StrsAt w (.slice vb k d) q) (hk : q.length ≤ 1000000000) :
    ∃ v1 w1 v2 w2, (Builtin.append_ #[23, 23] 23 #[.slice (some ⟨w.heap.size, 0, none⟩) 0 0, .slice va n c]).run Tryz.prog (w.alloc (.cells #[] 9)) = .ok v1 w1 ∧ (Builtin.append_ #[23, 23] 23 #[v1, .slice vb k d]).run Tryz.prog w1 = .ok v2 w2 ∧ StrsAt w2 v2 (m ++ q) ∧ Fr None' w w2 := by
  obtain ⟨v1, w1, r1, o1, F1⟩ := copy_run14 w hm hl
  obtain ⟨v2, w2, r2, o2, f2⟩ := o1.addAll (hq.kept F1) F1.size (by omega)
  obtain ⟨_, _, _, _, hs⟩ := o2.slice
  exact ⟨v1, w1, v2, w2, r1, r2, hs, F1.trans f2 (fun i e => Or.inr (o1.ge i e))⟩

end Go.Proofs.YtbiilnhefoplkaaGreatDoor

namespace Go.Proofs.YtbiilnhefoplkaaGreatDoor
open Go.RowKit Go.Maps Go.WideMaps
set_option maxRecDepth 100000

/-- A call of Down or Up, told in one. -/
theorem DownPost.calls {R : Option (List (Kv Pv))} {Nx : List (Kv Pv) → B13 → List ByteArray} {N : List B13} {f : Nat} {args : Array Value} {w : World} (h : Calls Tryz.prog f args w fun e w' => DownPost R Nx N w e w') (hl : ∀ er K, DP R Nx N er K → K.length ≤ 256) :
    Calls Tryz.prog f args w fun e w' => ∃ er K p n c, e = .returned (.tuple #[.slice p n c, .int .i64 er]) ∧ (K.map mkB).length = n ∧ n ≤ 256 ∧ StrsAt w' (.slice p n c) (K.map mkB) ∧ DP R Nx N er K ∧ Fr None' w w' :=
  h.mono fun e w' hp => by
    obtain ⟨er, K, p, c, h1, h2, h3, h4⟩ := hp.told
    exact ⟨er, K, p, _, c, h1, rfl, by rw [List.length_map]; exact hl _ _ h3, h2, h3, h4⟩

end Go.Proofs.YtbiilnhefoplkaaGreatDoor

namespace Go.Proofs.YtbiilnhefoplkaaGreatDoor
open Go.ChangeShapes Go.WideShapes Go.ChangeAt Go.RowKit Go.Deep
set_option maxRecDepth 100000

theorem trod_stringB {H : Type} {enc : TypeId × Value → H} {W : World} {fuel : Nat} {sp : Nat → Bool} {held : Bool} {cs : List Value} {x : DataW H × List MemPlace} (h : DataW.trod enc Tryz.prog W 0 sp held fuel 9 cs = some x) (hr : ∀ n ∈ x.1.weights Tryz.prog 9, n ≤ reachBytes) : ∃ s : ByteArray, cs = [.string s] ∧ s.size ≤ reachBytes := by
  obtain ⟨s, e, hx, _⟩ := DataW.trod_string Tryz.underlying9 h
  refine ⟨s, e, ?_⟩
  have := hr s.data.toList.length (by rw [hx]; simp [DataW.weights])
  have e2 : s.data.toList.length = s.size := by simp
  omega

theorem trod_strsB {H : Type} {enc : TypeId × Value → H} {W : World} {fuel : Nat} {sp : Nat → Bool} {held : Bool} {cs : List Value} {x : DataW H × List MemPlace} (h : DataW.trod enc Tryz.prog W 0 sp held fuel 23 cs = some x) (hr : ∀ n ∈ x.1.weights Tryz.prog 23, n ≤ reachBytes) : ∃ v l, cs = [v] ∧ StrsAt W v l ∧ l.length ≤ reachBytes ∧ ∀ y ∈ l, y.size ≤ reachBytes := by
  have hle : ∀ va len cap, cs = [.slice va len cap] → len ≤ reachBytes := fun va len cap e => by
    rcases open_slice Tryz.underlying23 h with ⟨hcs, _⟩ | ⟨a, len', cap', m, n, D, Pl, hcs, _, hl, hm, hmm, rfl, hx⟩
    · rw [hcs] at e
      injection e with e
      injection e with e1 e2 e3
      omega
    · rw [hcs] at e
      injection e with e
      injection e with e1 e2 e3
      have h1 := hr ((((List.range len').map D).length + ((List.range (m - len')).map fun j => D (len' + j)).length) * Tryz.prog.bytesOf 9) (by simp [DataW.weights, Tryz.underlying23])
      have e16 : Tryz.prog.bytesOf 9 = 16 := by kernel_rfl
      rw [e16] at h1
      simp at h1
      omega
  rcases Deep.open_strs Tryz.underlying23 Tryz.underlying9 (by kernel_rfl) h with ⟨hcs, _⟩ | ⟨ad, len, cap, m, Sx, hcs, _, hl, hm, hmm, hxe, hcell⟩
  · exact ⟨_, [], hcs, ⟨none, 0, rfl, fun _ => rfl, Nat.le_refl _, fun j x e => by simp at e⟩, Nat.zero_le _, fun y e => by cases e⟩
  · have hlm : len ≤ m := by rw [hmm]; split <;> omega
    refine ⟨_, (List.range len).map Sx, hcs, ⟨some ad, cap, by simp, (fun e => by cases e), by simpa using hl, fun j x hj => ?_⟩, by simpa using hle _ _ _ hcs, fun y hy => ?_⟩
    · have hjn : j < len := by simpa using (List.getElem?_eq_some_iff.1 hj).1
      have hx : Sx j = x := by simpa [hjn] using hj
      have h0 := spot_none7 (hcell 0 (by omega)).1
      rw [show ad.add 0 = ad from rfl] at h0
      refine ⟨ad.block, ad.off, ?_, ?_⟩
      · obtain ⟨b, o, s⟩ := ad
        simp_all
      · rw [← add_none7 h0, ← hx]
        exact (hcell j (by omega)).1
    · obtain ⟨i, hi, rfl⟩ := List.mem_map.1 hy
      have hil := List.mem_range.1 hi
      have := hr ((Sx i).data.toList.length) (by
        rw [hxe]
        simp only [DataW.weights, Tryz.underlying23]
        refine List.mem_cons_of_mem _ (List.mem_append_left _ (weightsAll_mem (d := .lit (.string (Sx i).data.toList)) (List.mem_map.2 ⟨i, hi, rfl⟩) _ ?_))
        simp [DataW.weights])
      have e : (Sx i).data.toList.length = (Sx i).size := by simp
      omega

theorem trod_primB {H : Type} {enc : TypeId × Value → H} {W : World} {fuel : Nat} {sp : Nat → Bool} {held : Bool} {cs : List Value} {x : DataW H × List MemPlace} (h : DataW.trod enc Tryz.prog W 0 sp held fuel 67 cs = some x) (hr : ∀ n ∈ x.1.weights Tryz.prog 67, n ≤ reachBytes) :
    ∃ (t : Pr) (vo vn : Value), cs = [.int .i64 t.kind, .string t.path, .string t.dst, .string t.src, .int .i64 t.pos, vo, vn] ∧ StrsAt W vo t.old ∧ StrsAt W vn t.new ∧ BigP t ∧ (∀ y ∈ t.old, y.size ≤ reachBytes) ∧ ∀ y ∈ t.new, y.size ≤ reachBytes := by
  obtain ⟨xs, n, _, rfl, hl, hlen, hf⟩ := DataW.trod_struct Tryz.underlying67 h
  have h7 : Tryz.prog.cellsOf 67 = 7 := by kernel_rfl
  have hcI : Tryz.prog.cellsOf 3 = 1 := by kernel_rfl
  have hcS : Tryz.prog.cellsOf 9 = 1 := by kernel_rfl
  have hcL : Tryz.prog.cellsOf 23 = 1 := by kernel_rfl
  rw [h7] at hl
  match cs, hl, xs, hlen with
  | [c0, c1, c2, c3, c4, c5, c6], _, [x0, x1, x2, x3, x4, x5, x6], _ =>
    have f0 := hf 0 _ rfl
    have f1 := hf 1 _ rfl
    have f2 := hf 2 _ rfl
    have f3 := hf 3 _ rfl
    have f4 := hf 4 _ rfl
    have f5 := hf 5 _ rfl
    have f6 := hf 6 _ rfl
    simp [hcI, hcS, hcL] at f0 f1 f2 f3 f4 f5 f6
    obtain ⟨z0, e0, _, _⟩ := DataW.trod_int Tryz.underlying3 f0
    obtain ⟨s1, e1, b1⟩ := trod_stringB f1 (fun k hk => hr k (by
      simp [DataW.weights, Tryz.underlying67, DataW.weightsEach]
      simp [hk]))
    obtain ⟨s2, e2, b2⟩ := trod_stringB f2 (fun k hk => hr k (by
      simp [DataW.weights, Tryz.underlying67, DataW.weightsEach]
      simp [hk]))
    obtain ⟨s3, e3, b3⟩ := trod_stringB f3 (fun k hk => hr k (by
      simp [DataW.weights, Tryz.underlying67, DataW.weightsEach]
      simp [hk]))
    obtain ⟨z4, e4, _, _⟩ := DataW.trod_int Tryz.underlying3 f4
    obtain ⟨vo, lo, e5, t5, l5, z5⟩ := trod_strsB f5 (fun k hk => hr k (by
      simp [DataW.weights, Tryz.underlying67, DataW.weightsEach]
      simp [hk]))
    obtain ⟨vn, ln, e6, t6, l6, z6⟩ := trod_strsB f6 (fun k hk => hr k (by
      simp [DataW.weights, Tryz.underlying67, DataW.weightsEach]
      simp [hk]))
    simp only [List.cons.injEq, and_true] at e0 e1 e2 e3 e4 e5 e6
    subst e0 e1 e2 e3 e4 e5 e6
    exact ⟨⟨z0, s1, s2, s3, z4, lo, ln⟩, c5, c6, rfl, t5, t6, ⟨Nat.lt_of_le_of_lt b1 (by decide), Nat.lt_of_le_of_lt b2 (by decide), Nat.lt_of_le_of_lt b3 (by decide), Nat.lt_of_le_of_lt l5 (by decide), Nat.lt_of_le_of_lt l6 (by decide)⟩, z5, z6⟩

theorem prims_cellsB {H : Type} {enc : TypeId × Value → H} {W : World} {fuel : Nat} {sp : Nat → Bool} {held : Bool} {cs : List Value} {d : DataW H} {ps : List MemPlace} (h : DataW.trod enc Tryz.prog W 0 sp held fuel 34 cs = some (d, ps)) (hr : ∀ n ∈ d.weights Tryz.prog 34, n ≤ reachBytes) :
    ∃ a n c L, cs = [.slice a n c] ∧ L.length = n ∧ PrsAt W a L ∧ (a = none → c = 0) ∧ ∀ x ∈ L, BigP x ∧ (∀ y ∈ x.old, y.size ≤ reachBytes) ∧ ∀ y ∈ x.new, y.size ≤ reachBytes := by
  rcases open_slice Tryz.underlying34 h with ⟨hcs, _⟩ | ⟨ad, n, c, m, fu, D, Pl, hcs, _, hl, hm, hmm, hd, hx⟩
  · exact ⟨none, 0, 0, [], hcs, rfl, (fun k x e => by simp at e), fun _ => rfl, fun x e => by cases e⟩
  · injection hd with hd1 hd2
    subst hd1
    have hlm : n ≤ m := by rw [hmm]; split <;> omega
    have h7 : Tryz.prog.cellsOf 67 = 7 := by kernel_rfl
    rw [h7] at hx
    have hall : ∀ i, i < n → ∃ t : Pr × Value × Value, ∃ cs', W.cells? 0 (ad.add (i * 7)) 7 = some cs' ∧ cs' = [.int .i64 t.1.kind, .string t.1.path, .string t.1.dst, .string t.1.src, .int .i64 t.1.pos, t.2.1, t.2.2] ∧ StrsAt W t.2.1 t.1.old ∧ StrsAt W t.2.2 t.1.new ∧ BigP t.1 ∧ (∀ y ∈ t.1.old, y.size ≤ reachBytes) ∧ ∀ y ∈ t.1.new, y.size ≤ reachBytes := fun i hi => by
      obtain ⟨cs', h1, h2⟩ := hx i (by omega)
      obtain ⟨t, vo, vn, e, s1, s2, s3, s4⟩ := trod_primB h2 (fun k hk => hr k (by
        simp only [DataW.weights, Tryz.underlying34]
        refine List.mem_cons_of_mem _ (List.mem_append_left _ (weightsAll_mem (d := D i) (List.mem_map_of_mem (List.mem_range.2 hi)) k hk))))
      exact ⟨(t, vo, vn), cs', h1, e, s1, s2, s3, s4⟩
    have hin : Inhabited (Pr × Value × Value) := ⟨(⟨0, ⟨#[]⟩, ⟨#[]⟩, ⟨#[]⟩, 0, [], []⟩, .nilFunc, .nilFunc)⟩
    obtain ⟨T, hT⟩ := choose_lt hall
    refine ⟨some ad, n, c, (List.range n).map (fun i => (T i).1), hcs, by simp, fun i t hi => ?_, (fun e => by cases e), fun x hx => ?_⟩
    · have hil : i < n := by simpa using (List.getElem?_eq_some_iff.1 hi).1
      have e : (T i).1 = t := by simpa [hil] using hi
      obtain ⟨cs', h1, h2, s1, s2, _⟩ := hT i hil
      subst h2
      have c0 := cells_at7 h1 0 _ rfl
      have c1 := cells_at7 h1 1 _ rfl
      have c2 := cells_at7 h1 2 _ rfl
      have c3 := cells_at7 h1 3 _ rfl
      have c4 := cells_at7 h1 4 _ rfl
      have c5 := cells_at7 h1 5 _ rfl
      have c6 := cells_at7 h1 6 _ rfl
      have hsp : ad.spot = none := by
        obtain ⟨cs0, g1, g2, _⟩ := hT 0 (by omega)
        subst g2
        have := spot_none7 (cells_at7 g1 0 _ rfl)
        simpa [Addr.add] using this
      have ead : ad.add (i * 7) = ⟨ad.block, ad.off + i * 7, none⟩ := add_none7 hsp _
      rw [ead] at c0 c1 c2 c3 c4 c5 c6
      rw [add_none7 rfl] at c0 c1 c2 c3 c4 c5 c6
      rw [← e]
      refine ⟨ad.block, ad.off, ?_, (T i).2.1, (T i).2.2, c0, c1, c2, c3, c4, c5, c6, s1, s2⟩
      obtain ⟨b, o, s⟩ := ad
      simp_all
    · obtain ⟨i, hi, rfl⟩ := List.mem_map.1 hx
      obtain ⟨_, _, _, _, _, s3, s4⟩ := hT i (List.mem_range.1 hi)
      exact ⟨s3, s4⟩

theorem trod_patchB {H : Type} {enc : TypeId × Value → H} {W : World} {fuel : Nat} {sp : Nat → Bool} {held : Bool} {cs : List Value} {x : DataW H × List MemPlace} (h : DataW.trod enc Tryz.prog W 0 sp held fuel 36 cs = some x) (hr : ∀ n ∈ x.1.weights Tryz.prog 36, n ≤ reachBytes) :
    ∃ c : Pv, cs = vcell c ∧ PvIn W c ∧ BigPa c.x := by
  obtain ⟨xs, n, _, rfl, hl, hlen, hfx⟩ := DataW.trod_struct Tryz.underlying36 h
  have h3 : Tryz.prog.cellsOf 36 = 3 := by kernel_rfl
  have hcS : Tryz.prog.cellsOf 9 = 1 := by kernel_rfl
  have hcL : Tryz.prog.cellsOf 23 = 1 := by kernel_rfl
  have hcP : Tryz.prog.cellsOf 34 = 1 := by kernel_rfl
  rw [h3] at hl
  match cs, hl, xs, hlen with
  | [c0, c1, c2], _, [x0, x1, (x2a, x2b)], _ =>
    have f0 := hfx 0 _ rfl
    have f1 := hfx 1 _ rfl
    have f2 := hfx 2 _ rfl
    simp [hcS, hcL, hcP] at f0 f1 f2
    obtain ⟨s0, e0, b0⟩ := trod_stringB f0 (fun k hk => hr k (by
      simp [DataW.weights, Tryz.underlying36, DataW.weightsEach]
      simp [hk]))
    obtain ⟨vd, ld, e1, t1, l1, y1⟩ := trod_strsB f1 (fun k hk => hr k (by
      simp [DataW.weights, Tryz.underlying36, DataW.weightsEach]
      simp [hk]))
    have hrb : ∀ k ∈ (x2a, x2b).1.weights Tryz.prog 34, k ≤ reachBytes := fun k hk => hr k (by
      simp [DataW.weights, Tryz.underlying36, DataW.weightsEach]
      simp [hk])
    obtain ⟨a, nb, cb, L, e2, z1, z2, z3, z4⟩ := prims_cellsB f2 hrb
    have hlb := prims_len f2 hrb _ _ _ e2
    simp only [List.cons.injEq, and_true] at e0 e1 e2
    subst e0 e1 e2
    have t1' := t1
    obtain ⟨pu, cu, rfl, -⟩ := t1
    subst z1
    exact ⟨⟨⟨s0, ld, L⟩, pu, cu, a, cb⟩, rfl, ⟨t1', z3, z2⟩, ⟨Nat.le_trans b0 (by decide), ⟨Nat.le_trans l1 (by decide), fun y hy => Nat.le_trans (y1 y hy) (by decide)⟩, ⟨Nat.le_trans hlb (by decide), fun x hx => (z4 x hx).1⟩, fun x hx => ⟨fun y hy => Nat.lt_of_le_of_lt ((z4 x hx).2.1 y hy) (by decide), fun y hy => Nat.lt_of_le_of_lt ((z4 x hx).2.2 y hy) (by decide)⟩⟩⟩

theorem arg_patchesB {H : Type} {enc : TypeId × Value → H} {W : World} {sp : Nat → Bool} {held : Bool} {base : Nat} {v : Value} {d : DataW H} {ps : List MemPlace} (hv : Value.okWide Tryz.prog W .any base 22 v) (h : DataW.Trod enc Tryz.prog W 0 sp held 22 v d ps) (hr : ∀ n ∈ d.weights Tryz.prog 22, n ≤ reachBytes) :
    ∃ a n c Z, v = .slice a n c ∧ Z.length = n ∧ RowV W a Z ∧ n ≤ reachBytes ∧ ∀ c ∈ Z, BigPa c.x := by
  obtain ⟨a, n, c, rfl⟩ := okWide_slice Tryz.underlying22 hv
  obtain ⟨fuel, hf⟩ := h
  rcases open_slice Tryz.underlying22 hf with ⟨hcs, _⟩ | ⟨ad, len, cap, m, fu, D, Pl, hcs, _, hl, hm, hmm, hd, hx⟩
  · simp only [Value.cells, List.cons.injEq, Value.slice.injEq, and_true] at hcs
    obtain ⟨rfl, rfl, rfl⟩ := hcs
    exact ⟨none, 0, 0, [], rfl, rfl, (fun k x e => by simp at e), Nat.zero_le _, fun x e => by cases e⟩
  · simp only [Value.cells, List.cons.injEq, Value.slice.injEq, and_true] at hcs
    obtain ⟨rfl, rfl, rfl⟩ := hcs
    injection hd with hd1 hd2
    subst hd1
    have hlm : n ≤ m := by rw [hmm]; split <;> omega
    have hnr : n ≤ reachBytes := by
      have h1 := hr ((((List.range n).map D).length + ((List.range (m - n)).map fun j => D (n + j)).length) * Tryz.prog.bytesOf 36) (by simp [DataW.weights, Tryz.underlying22])
      have e64 : Tryz.prog.bytesOf 36 = 64 := by kernel_rfl
      rw [e64] at h1
      simp at h1
      omega
    have h3 : Tryz.prog.cellsOf 36 = 3 := by kernel_rfl
    rw [h3] at hx
    have hall : ∀ i, i < n → ∃ t : Pv, ∃ cs', W.cells? 0 (ad.add (i * 3)) 3 = some cs' ∧ cs' = vcell t ∧ PvIn W t ∧ BigPa t.x := fun i hi => by
      obtain ⟨cs', h1, h2⟩ := hx i (by omega)
      obtain ⟨t, e, h4⟩ := trod_patchB h2 (fun k hk => hr k (by
        simp only [DataW.weights, Tryz.underlying22]
        refine List.mem_cons_of_mem _ (List.mem_append_left _ (weightsAll_mem (d := D i) (List.mem_map_of_mem (List.mem_range.2 hi)) k hk))))
      exact ⟨t, cs', h1, e, h4⟩
    have hin : Inhabited Pv := ⟨zeroPv⟩
    obtain ⟨T, hT⟩ := choose_lt hall
    refine ⟨some ad, n, c, (List.range n).map T, rfl, by simp, fun i t hi => ?_, hnr, fun x hx => ?_⟩
    · have hil : i < n := by simpa using (List.getElem?_eq_some_iff.1 hi).1
      have e : T i = t := by simpa [hil] using hi
      obtain ⟨cs', h1, h2, s1, _⟩ := hT i hil
      subst h2
      have c0 := cells_at7 h1 0 _ rfl
      have c1 := cells_at7 h1 1 _ rfl
      have c2 := cells_at7 h1 2 _ rfl
      have hsp : ad.spot = none := by
        obtain ⟨cs0, g1, g2, _⟩ := hT 0 (by omega)
        subst g2
        have := spot_none7 (cells_at7 g1 0 _ rfl)
        simpa [Addr.add] using this
      have ead : ad.add (i * 3) = ⟨ad.block, ad.off + i * 3, none⟩ := add_none7 hsp _
      rw [ead] at c0 c1 c2
      rw [add_none7 rfl] at c0 c1 c2
      rw [← e]
      refine ⟨ad.block, ad.off, ?_, c0, c1, c2, s1⟩
      obtain ⟨b, o, s⟩ := ad
      simp_all
    · obtain ⟨i, hi, rfl⟩ := List.mem_map.1 hx
      obtain ⟨_, _, _, _, s3⟩ := hT i (List.mem_range.1 hi)
      exact s3

end Go.Proofs.YtbiilnhefoplkaaGreatDoor

namespace Go.Proofs.YtbiilnhefoplkaaGreatDoor
open Go.RowKit Go.Maps Go.WideMaps
set_option maxRecDepth 100000

theorem BigPa.bigV {Z : List Pv} (h : ∀ d ∈ Z, BigPa d.x) : BigV Z := fun d hd => ⟨(h d hd).deps.1, (h d hd).body.1, fun x hx => ⟨Nat.le_of_lt_succ ((h d hd).body.2 x hx).old, Nat.le_of_lt_succ ((h d hd).body.2 x hx).new⟩⟩

/-- A row of one text. -/
theorem one_strs14 (w : World) (x : ByteArray) : StrsAt (w.alloc (.cells #[.string x] 9)) (.slice (some ⟨w.heap.size, 0, none⟩) 1 1) [x] := by
  refine ⟨_, 1, rfl, (fun e => by cases e), Nat.le_refl _, fun i y hi => ⟨w.heap.size, 0, rfl, ?_⟩⟩
  match i, hi with
  | 0, hi =>
    simp at hi
    subst hi
    simp

set_option maxHeartbeats 16000000 in
theorem both_walk (va : Option Addr) (n c : Nat) (Z : List Pv) (a b : Nat) (w : World) (hn : Z.length = n) (hr : RowV w va Z) (ln : n ≤ 140737488355328) (hb : ∀ d ∈ Z, BigPa d.x) (la : (a : Int) < 256) (lb : (b : Int) < 256) :
    Calls Tryz.prog 5 #[.slice va n c, .int .u8 a, .int .u8 b] w fun e w' => e = .returned (.bool true) ∧ Fr None' w w' := by
  have HL := toHid8 hn
  have HRow := toHid8 hr
  have HB := toHid8 hb
  have HLn := toHid8 ln
  have i9 : (n : Int) ≤ 140737488355328 := by omega
  have q1 := head14_any w
  clear hn hr hb ln
  go_enter Tryz.func5, Tryz.ntmps5
  go_wp2_with fail
  refine q1.mono ?_
  rintro e w1 ⟨rfl, f1⟩
  have HF1 := toHid8 f1
  have q2 := order14_any va n c Z w1 HL.out (HRow.out.kept f1) HLn.out HB.out
  clear q1 f1
  go_wp2_with fail
  refine q2.mono ?_
  intro e w2 hP
  obtain ⟨po, co, rfl, -, f2⟩ := OrdPost.told hP
  have HF2 := toHid8 (HF1.out.then7 f2)
  obtain ⟨no, hno⟩ : ∃ y, (ordE Z).2.length = y := ⟨_, rfl⟩
  obtain ⟨eo, heo⟩ : ∃ y, (ordE Z).1 = y := ⟨_, rfl⟩
  rw [hno, heo]
  have HEo := toHid8 heo
  clear q2 hP f2 hno heo
  have q3 := greatList14_any va n c Z w2 HL.out (HRow.out.kept HF2.out) (BigPa.bigV HB.out)
  go_wp2_with fail
  refine q3.mono ?_
  rintro e w3 ⟨g, rfl, hg, f3⟩
  have HF3 := toHid8 (HF2.out.then7 f3)
  have HG := toHid8 hg
  clear q3 f3 hg
  cases g with
  | true =>
    go_wp2_with fail
    go_ret
    exact ⟨rfl, HF3.out⟩
  | false =>
    have hn60 : n ≤ 60 := by have := (HG.out rfl).1; rw [HL.out] at this; exact this
    have HS := toHid8 (show ∀ d ∈ Z, SmallPa d.x from fun d hd => ((HG.out rfl).2 d hd).small14)
    have H60 := toHid8 hn60
    have i0 : (n : Int) ≤ 60 := by omega
    by_cases he : eo = 0
    case neg =>
      have b1 : (eo != 0) = true := by simpa using he
      clear hn60 he
      go_wp2_with fail
      go_ret
      exact ⟨rfl, HF3.out⟩
    case pos =>
      subst he
      by_cases hn0 : n = 0
      case pos =>
        subst hn0
        clear hn60
        go_wp2_with fail
        go_ret
        exact ⟨rfl, HF3.out⟩
      case neg =>
        obtain ⟨T, hT, hO⟩ := ordE_ok HEo.out
        have HO := toHid8 (ords_of hT hO)
        have HT := toHid8 hT
        have hne : Z ≠ [] := fun e => hn0 (by rw [← HL.out, e]; rfl)
        have HNe := toHid8 hne
        have HN0 := toHid8 hn0
        have i1 : ¬ (n : Int) = 0 := by omega
        have i2 : (0 : Int) < (n : Int) := by omega
        clear hn60 hT hO hne hn0
        have hka : a % n < n := Nat.mod_lt _ (Nat.pos_of_ne_zero HN0.out)
        have hkb : b % n < n := Nat.mod_lt _ (Nat.pos_of_ne_zero HN0.out)
        have hka2 : a % n < Z.length := by rw [HL.out]; exact hka
        have hkb2 : b % n < Z.length := by rw [HL.out]; exact hkb
        obtain ⟨ka, hkae⟩ : ∃ k, a % n = k := ⟨_, rfl⟩
        obtain ⟨kb, hkbe⟩ : ∃ k, b % n = k := ⟨_, rfl⟩
        have ra : ((a : Int).tmod (n : Int)) = (ka : Int) := by rw [← hkae]; exact (Int.ofNat_tmod a n).symm
        have rb : ((b : Int).tmod (n : Int)) = (kb : Int) := by rw [← hkbe]; exact (Int.ofNat_tmod b n).symm
        rw [hkae] at hka hka2
        rw [hkbe] at hkb hkb2
        obtain ⟨g, o, rfl, a0, -, -, -⟩ := HRow.out.kept HF3.out ka _ (List.getElem?_eq_getElem hka2)
        obtain ⟨g', o', hv, b0, -, -, -⟩ := HRow.out.kept HF3.out kb _ (List.getElem?_eq_getElem hkb2)
        cases hv
        obtain ⟨hr, hget⟩ := setV_get HT.out
        have hinx : InM T (unB Z[ka].x.name) := by unfold InM; rw [hget _ (List.getElem_mem hka2)]; rfl
        have hiny : InM T (unB Z[kb].x.name) := by unfold InM; rw [hget _ (List.getElem_mem hkb2)]; rfl
        have hsx : Z[ka].x.name.size ≤ 1000000000 := (HS.out _ (List.getElem_mem hka2)).name
        have hsy : Z[kb].x.name.size ≤ 1000000000 := (HS.out _ (List.getElem_mem hkb2)).name
        obtain ⟨x, hx⟩ : ∃ x, Z[ka].x.name = x := ⟨_, rfl⟩
        obtain ⟨y, hy⟩ : ∃ y, Z[kb].x.name = y := ⟨_, rfl⟩
        rw [hx] at a0 hinx hsx
        rw [hy] at b0 hiny hsy
        have HX := toHid8 (And.intro hinx hsx)
        have HY := toHid8 (And.intro hiny hsy)
        have i3 : (ka : Int) < (n : Int) := by omega
        have i4 : (0 : Int) ≤ (ka : Int) := by omega
        have i5 : (kb : Int) < (n : Int) := by omega
        have i6 : (0 : Int) ≤ (kb : Int) := by omega
        clear hka hkb hka2 hkb2 hkae hkbe hr hget hinx hiny hsx hsy hx hy
        have HF4 := toHid8 (HF3.out.then7 (Fr.alloc None' w3 (.cells #[.string x] 9)))
        have q4 := DownPost.calls (down14_any (some ⟨g, o, none⟩) n c Z (some ⟨w3.heap.size, 0, none⟩) 1 1 [x] _ HL.out (HRow.out.kept HF4.out) (by have := H60.out; omega) HS.out rfl (by decide) (fun z hz => by rw [List.mem_singleton.1 hz]; exact HX.out.2) (one_strs14 w3 x)) (fun _ _ h => h.len)
        go_wp2_with fail
        refine q4.mono ?_
        rintro e w5 ⟨er1, K1, p1, n1, c1, rfl, hk1, hl1, hst1, hd1, f5⟩
        obtain ⟨rfl, hK1⟩ := hd1.yes HT.out (fun k hk => by rw [List.map_singleton, List.mem_singleton] at hk; rw [hk]; exact HX.out.1) (fun k z hz => HO.out.closed hz)
        have HK1 := toHid8 (And.intro hk1 (And.intro hl1 hK1))
        have HT1 := toHid8 hst1
        have HF5 := toHid8 (HF4.out.then7 f5)
        clear q4 hk1 hl1 hst1 hd1 f5 hK1
        have HF6 := toHid8 (HF5.out.then7 (Fr.alloc None' w5 (.cells #[.string y] 9)))
        have HA6 := toHid8 (Fr.alloc None' w5 (.cells #[.string y] 9))
        have q5 := DownPost.calls (up14_any (some ⟨g, o, none⟩) n c Z (some ⟨w5.heap.size, 0, none⟩) 1 1 [y] _ HL.out (HRow.out.kept HF6.out) (by have := H60.out; omega) HS.out rfl (by decide) (fun z hz => by rw [List.mem_singleton.1 hz]; exact HY.out.2) (one_strs14 w5 y)) (fun _ _ h => h.len)
        go_wp2_with fail
        refine q5.mono ?_
        rintro e w7 ⟨er2, K2, p2, n2, c2, rfl, hk2, hl2, hst2, hd2, f7⟩
        obtain ⟨rfl, hK2⟩ := hd2.yes HT.out (fun k hk => by rw [List.map_singleton, List.mem_singleton] at hk; rw [hk]; exact HY.out.1) (fun k z hz => by
          obtain ⟨t, ht, _, rfl⟩ := mem_above.1 hz
          rw [← ((setV_is HT.out t).1 ht).2]
          unfold InM
          rw [(setV_get HT.out).1.get ht]
          rfl)
        have HK2 := toHid8 (And.intro hk2 (And.intro hl2 hK2))
        have HT2 := toHid8 hst2
        have HF7 := toHid8 (HF6.out.then7 f7)
        have HG7 := toHid8 (HA6.out.then7 f7)
        clear q5 hk2 hl2 hst2 hd2 f7 hK2
        obtain ⟨H, hH⟩ : ∃ H, headsV Z = some H := by unfold headsV; rw [HT.out]; exact ⟨_, rfl⟩
        have HH := toHid8 hH
        have q6 := heads14_any (some ⟨g, o, none⟩) n c Z w7 HL.out (HRow.out.kept HF7.out) (by have := H60.out; omega) HS.out
        rw [hH] at q6
        have HHs := toHid8 (show ∀ z ∈ H.map mkB, z.size ≤ 1000000000 from fun z hz => by
          obtain ⟨k, hk, rfl⟩ := List.mem_map.1 hz
          unfold headsV at hH
          rw [HT.out] at hH
          injection hH with hH
          rw [← hH] at hk
          obtain ⟨t, ht, e⟩ := List.mem_map.1 ((del_all _ _ _).1 hk).1
          obtain ⟨h1, h2⟩ := (setV_is HT.out t).1 ht
          rw [← e, h2]
          exact (HS.out _ h1).name)
        have HHl := toHid8 (show H.length ≤ 256 from by
          unfold headsV at hH
          rw [HT.out] at hH
          injection hH with hH
          rw [← hH, List.length_map]
          have := delAll_len (depsV Z) T
          have := setV_len HT.out
          omega)
        clear hH
        go_wp2_with fail
        refine q6.mono ?_
        intro e w8 hP
        obtain ⟨nh, hnh⟩ : ∃ y, H.length = y := ⟨_, rfl⟩
        obtain ⟨ph, ch, rfl, hsh, f8⟩ := names_some hnh hP
        have HNh := toHid8 hnh
        have HTh := toHid8 hsh
        have HF8 := toHid8 (HF7.out.then7 f8)
        have HG8 := toHid8 f8
        clear q6 hP hsh f8 hnh
        have q7 := DownPost.calls (down14_any (some ⟨g, o, none⟩) n c Z ph nh ch (H.map mkB) w8 HL.out (HRow.out.kept HF8.out) (by have := H60.out; omega) HS.out (by rw [List.length_map]; exact HNh.out) (by have := HHl.out; have := HNh.out; omega) HHs.out HTh.out) (fun _ _ h => h.len)
        go_wp2_with fail
        refine q7.mono ?_
        rintro e w9 ⟨er3, K3, p3, n3, c3, rfl, hk3, hl3, hst3, hd3, f9⟩
        rw [un_mks] at hd3
        obtain ⟨rfl, hl4, hl5, -⟩ := heads_all HT.out HO.out HH.out hd3 HNe.out
        have e3 : n3 = n := by rw [← hk3, List.length_map, hl4, HL.out]
        subst e3
        have HPos := toHid8 (show 0 < nh from by have := HNh.out; omega)
        have HF9 := toHid8 (HF8.out.then7 f9)
        have HG9 := toHid8 ((HG7.out.then7 HG8.out).then7 f9)
        have HG9b := toHid8 (HG8.out.then7 f9)
        clear q7 hk3 hl3 hst3 hd3 f9 hl4 hl5
        obtain ⟨bH, hbH⟩ : ∃ z, hasB (K1.map mkB) y = z := ⟨_, rfl⟩
        have hbH2 : hasB (K2.map mkB) x = bH := by rw [← hbH]; exact (both_has HT.out HK1.out.2.2 HK2.out.2.2).symm
        have q8 := has14_any p1 n1 c1 (K1.map mkB) y w9 HK1.out.1 (HT1.out.kept HG9.out) (by have := HK1.out.2.1; omega)
        rw [hbH] at q8
        have HBH2 := toHid8 hbH2
        clear hbH hbH2
        go_wp2_with fail
        refine q8.mono ?_
        rintro e wa ⟨rfl, fa⟩
        have HFa := toHid8 (HF9.out.then7 fa)
        have q9 := has14_any p2 n2 c2 (K2.map mkB) x wa HK2.out.1 (HT2.out.kept (HG9b.out.then7 fa)) (by have := HK2.out.2.1; omega)
        rw [HBH2.out] at q9
        clear q8 fa
        go_wp2_with fail
        refine q9.mono ?_
        rintro e wb ⟨rfl, fb⟩
        have HFb := toHid8 (HFa.out.then7 fb)
        clear q9 fb
        cases bH
        all_goals
          go_wp2_with fail
          go_ret
          exact ⟨by show Ending.returned (.bool (decide (0 < nh))) = _; rw [decide_eq_true HPos.out], HFb.out⟩

end Go.Proofs.YtbiilnhefoplkaaGreatDoor
