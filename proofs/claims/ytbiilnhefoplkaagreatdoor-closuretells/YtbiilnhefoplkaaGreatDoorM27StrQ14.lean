/-
  What is proved here: the contracts that the statement stands on: StrQ14, DSoP14, DLab13, DAny14, Sam13. Conditions: as each theorem names them.
-/
import Derived.Test.YtbiilnhefoplkaaGreatDoorM26Down14
import Derived.ArgAppend
import Derived.Test.YtbiilnhefoplkaaGreatDoorMRigD13
import Derived.Test.YtbiilnhefoplkaaGreatDoorMPRPart
import Derived.Laws.Concat
import Derived.Test.YtbiilnhefoplkaaGreatDoorM18Rig13
namespace Go.Proofs.YtbiilnhefoplkaaGreatDoor
open Go.RowKit Go.Maps Go.WideMaps
set_option maxRecDepth 100000

theorem Fr.setCells14 {M : Nat → Prop} {g : Nat} (hg : M g) : ∀ (vs : List Value) (o : Nat) (w : World), Fr M w (w.setCells g o vs)
  | [], _, w => Fr.refl _ w
  | v :: r, o, w => (Fr.setCell w (a := ⟨g, o, none⟩) hg v).then (Fr.setCells14 hg r (o + 1) _)

/-- v is a row of texts of the call's own, wherever it begins in its block. -/
def OwnQ14 (B : Nat) (w : World) (v : Value) (l : List ByteArray) : Prop := (v = .slice none 0 0 ∧ l = []) ∨ ∃ g o cap, v = .slice (some ⟨g, o, none⟩) l.length cap ∧ B ≤ g ∧ g < w.heap.size ∧ l.length ≤ cap ∧ (∀ j, j < cap → (w.cell? ⟨g, o + j, none⟩).isSome = true ∧ w.frozen? ⟨g, o + j, none⟩ = false) ∧ ∀ (i : Nat) (x : ByteArray), l[i]? = some x → w.cell? ⟨g, o + i, none⟩ = some (.string x)

theorem OwnS14.q {B : Nat} {w : World} {v : Value} {l : List ByteArray} (h : OwnS14 B w v l) : OwnQ14 B w v l := by
  have hsl := h.slice
  rcases h.2 with ⟨hv, h0⟩ | ⟨g, cap, cur, hv, hb, hh, hc, _, hs, ht⟩
  · exact .inl ⟨hv, List.length_eq_zero_iff.1 h0⟩
  · refine .inr ⟨g, 0, cap, hv, hb, (Array.getElem?_eq_some_iff.1 hh).1, hc, fun j hj => ?_, fun i x hi => ?_⟩
    · rw [Nat.zero_add]
      have hlt : j < cur.size := by omega
      constructor
      · rw [World.cell?, hh]
        simp [hlt]
      · rw [World.frozen?, hh]
        simp
    · obtain ⟨va, c, e, _, hst⟩ := hsl
      rw [hv] at e hst
      obtain ⟨gd, od, hpd, hcd⟩ := strs_two hst hi
      cases hpd
      exact hcd

theorem OwnQ14.slice {B : Nat} {w : World} {v : Value} {l : List ByteArray} (h : OwnQ14 B w v l) : ∃ va c, v = .slice va l.length c ∧ (∀ k, v.ownBlock = some k → B ≤ k ∧ k < w.heap.size) ∧ StrsAt w v l := by
  rcases h with ⟨rfl, rfl⟩ | ⟨g, o, cap, hv, hb, hlt, hc, _, hs⟩
  · exact ⟨none, 0, rfl, (fun k e => by cases e), strs_none w⟩
  · subst hv
    exact ⟨_, cap, rfl, (fun k e => by cases e; exact ⟨hb, hlt⟩), ⟨_, cap, rfl, (fun e => by cases e), hc, fun i x hi => ⟨g, o, rfl, hs i x hi⟩⟩⟩

theorem OwnQ14.fr {B : Nat} {w w' : World} {v : Value} {l : List ByteArray} (h : OwnQ14 B w v l) {M : Nat → Prop} (f : Fr M w w') (hM : ∀ k, v.ownBlock = some k → ¬ M k) : OwnQ14 B w' v l := by
  rcases h with h | ⟨g, o, cap, hv, hb, hlt, hc, hi, hs⟩
  · exact .inl h
  · have hg : ¬ M g := hM g (by rw [hv]; rfl)
    have hbl : w'.heap[g]? = w.heap[g]? := f.block g hlt hg
    refine .inr ⟨g, o, cap, hv, hb, Nat.lt_of_lt_of_le hlt f.size, hc, fun j hj => ?_, fun i x hx => ?_⟩
    · have h1 := hi j hj
      simp only [World.cell?, World.frozen?, hbl] at h1 ⊢
      exact h1
    · have h1 := hs i x hx
      simp only [World.cell?, hbl] at h1 ⊢
      exact h1

theorem OwnQ14.tail {B : Nat} {w : World} {g o n cap : Nat} {x : ByteArray} {l : List ByteArray} (h : OwnQ14 B w (.slice (some ⟨g, o, none⟩) n cap) (x :: l)) : OwnQ14 B w (.slice (some ⟨g, o + 1, none⟩) (n - 1) (cap - 1)) l := by
  rcases h with ⟨hv, _⟩ | ⟨g', o', cap', hv, hb, hlt, hc, hi, hs⟩
  · cases hv
  · injection hv with e1 e2 e3
    injection e1 with e1
    injection e1 with e4 e5 _
    subst e3 e4 e5 e2
    refine .inr ⟨g, o + 1, cap - 1, by simp, hb, hlt, by simp at hc; omega, fun j hj => ?_, fun i y hy => ?_⟩
    · have := hi (j + 1) (by omega)
      rwa [show o + (j + 1) = o + 1 + j by omega] at this
    · have := hs (i + 1) y (by simpa using hy)
      rwa [show o + (i + 1) = o + 1 + i by omega] at this

/-- Texts put behind it. -/
theorem OwnQ14.addAll {B : Nat} {w : World} {v : Value} {l : List ByteArray} (h : OwnQ14 B w v l) {va : Option Addr} {n c : Nat} {m : List ByteArray} (hm : StrsAt w (.slice va n c) m) (hB : B ≤ w.heap.size) (hl : l.length + m.length ≤ 2000000000) :
    ∃ v' w', (Builtin.append_ #[23, 23] 23 #[v, .slice va n c]).run Tryz.prog w = .ok v' w' ∧ OwnQ14 B w' v' (l ++ m) ∧ Fr (fun k => v.ownBlock = some k) w w' ∧ ∀ k, v'.ownBlock = some k → v.ownBlock = some k ∨ w.heap.size ≤ k := by
  rcases h with ⟨rfl, rfl⟩ | ⟨g, o, cap, hv, hb, hlt, hc, hi, hs⟩
  · obtain ⟨v', w', h1, h2, h3⟩ := (OwnS14.nil w.heap.size w).addAll hm (Nat.le_refl _) (by simpa using hl)
    refine ⟨v', w', h1, ?_, h3, fun k e => .inr (h2.ge k e)⟩
    rcases h2.q with h | ⟨g', o', cap', a1, a2, a3, a4, a5, a6⟩
    · exact .inl h
    · exact .inr ⟨g', o', cap', a1, Nat.le_trans hB a2, a3, a4, a5, a6⟩
  · subst hv
    obtain ⟨i0, hin, hz0, hz1, hz2⟩ := info_parts Lines.Tryz.infoS
    obtain ⟨va', c', e, h1, h2, h3⟩ := hm
    cases e
    cases va with
    | none =>
      have hc0 := h1 rfl
      subst hc0
      obtain rfl : m = [] := List.length_eq_zero_iff.1 (by omega)
      refine ⟨.slice (some ⟨g, o, none⟩) l.length cap, w, ?_, .inr ⟨g, o, cap, by simp, hb, hlt, by simpa using hc, hi, by simpa using hs⟩, Fr.refl _ _, fun k e => .inl e⟩
      simp [Builtin.append_, run_underlying Tryz.underlying23, sizeOf, typeInfo, hin, Builtin.lenOf, Builtin.firstCells, loadCells, hc, storeCells]
    | some a =>
      have hnews : ∀ (j : Nat) (u : Value), (m.map Value.string)[j]? = some u → w.cell? (a.add j) = some u := fun j u hj => by
        rw [List.getElem?_map] at hj
        cases hx : m[j]? with
        | none => rw [hx] at hj; cases hj
        | some x =>
          rw [hx] at hj
          cases hj
          obtain ⟨g', o', e1, e2⟩ := h3 j x hx
          cases e1
          have e3 : (Addr.mk g' o' none).add j = ⟨g', o' + j, none⟩ := by simp only [Addr.add]; split <;> simp_all
          rw [e3]; exact e2
      have hone : ∀ u ∈ m.map Value.string, u.oneCell' = true := fun u hu => by
        obtain ⟨x, _, rfl⟩ := List.mem_map.1 hu
        rfl
      by_cases hr : l.length + m.length ≤ cap
      · have hrun := run_append_room_cells (P := Tryz.prog) w 23 23 9 i0 Tryz.underlying23 hin g o l.length cap a m.length c (m.map Value.string) (by rw [List.length_map, hz1, Nat.mul_one]) hnews hone hr
          (fun j hj => by rw [hz1, Nat.mul_one, Nat.add_assoc]; exact (hi (l.length + j) (by rw [List.length_map] at hj; omega)).1) (fun j hj => by rw [hz1, Nat.mul_one, Nat.add_assoc]; exact (hi (l.length + j) (by rw [List.length_map] at hj; omega)).2)
        rw [hz1, Nat.mul_one] at hrun
        have F := Fr.setCells14 (M := fun k => (Value.slice (some ⟨g, o, none⟩) l.length cap).ownBlock = some k) (g := g) rfl (m.map Value.string) (o + l.length) w
        have hin' : ∀ j, j < (m.map Value.string).length → (w.cell? ⟨g, o + l.length + j, none⟩).isSome = true := fun j hj => by rw [Nat.add_assoc]; exact (hi (l.length + j) (by rw [List.length_map] at hj; omega)).1
        have hread : ∀ (j : Nat) (hj : j < m.length), (w.setCells g (o + l.length) (m.map Value.string)).cell? ⟨g, o + (l.length + j), none⟩ = some (.string m[j]) := fun j hj => by
          have := World.cell?_setCells_in g (m.map Value.string) (o + l.length) w hin' j (by rw [List.length_map]; exact hj)
          rw [List.getElem_map] at this
          rwa [← Nat.add_assoc]
        have hout : ∀ j, j < l.length ∨ l.length + m.length ≤ j → (w.setCells g (o + l.length) (m.map Value.string)).cell? ⟨g, o + j, none⟩ = w.cell? ⟨g, o + j, none⟩ := fun j hj => World.cell?_setCells_out g _ _ w _ (fun _ _ => by
          rw [List.length_map]
          show o + j < o + l.length ∨ o + l.length + m.length ≤ o + j
          omega)
        refine ⟨_, _, hrun, .inr ⟨g, o, cap, by simp, hb, Nat.lt_of_lt_of_le hlt F.size, by rw [List.length_append]; exact hr, fun j hj => ⟨?_, ?_⟩, fun i x hx => ?_⟩, F, fun k e => .inl e⟩
        · by_cases hj2 : j < l.length ∨ l.length + m.length ≤ j
          · rw [hout j hj2]; exact (hi j hj).1
          · have := hread (j - l.length) (by omega)
            rw [show l.length + (j - l.length) = j by omega] at this
            rw [this]; rfl
        · rw [World.frozen?_setCells]; exact (hi j hj).2
        · by_cases hi2 : i < l.length
          · rw [hout i (.inl hi2)]
            rw [List.getElem?_append_left hi2] at hx
            exact hs i x hx
          · rw [List.getElem?_append_right (by omega)] at hx
            obtain ⟨hlt2, hx2⟩ := List.getElem?_eq_some_iff.1 hx
            have := hread (i - l.length) hlt2
            rw [show l.length + (i - l.length) = i by omega, hx2] at this
            exact this
      · obtain ⟨v', w', hrun, hown, hg⟩ := run_append_arg_grows (P := Tryz.prog) w 23 23 9 i0 (.string ⟨#[]⟩) 1 16 Tryz.underlying23 hin hz0 hz1 hz2 rfl (by decide) ⟨g, o, none⟩ l.length cap (l.map Value.string) (by rw [List.length_map, Nat.mul_one]) (fun j u hj => by
          rw [List.getElem?_map] at hj
          cases hx : l[j]? with
          | none => rw [hx] at hj; cases hj
          | some x =>
            rw [hx] at hj
            cases hj
            have e3 : (Addr.mk g o none).add j = ⟨g, o + j, none⟩ := by simp only [Addr.add]; split <;> simp_all
            rw [e3]; exact hs j x hx) a m.length c (m.map Value.string) (by rw [List.length_map, Nat.mul_one]) hnews (by omega) (by unfold maxLen; omega) (by omega)
        have ho : OwnS14 w.heap.size w' v' (l ++ m) := by
          unfold OwnS14
          rw [List.length_append, List.map_append]
          exact hown
        refine ⟨v', w', hrun, ?_, (Fr.grown hg (fun k e => by cases e) : Fr None' w w').any, fun k e => .inr (ho.ge k e)⟩
        rcases ho.q with h | ⟨g', o', cap', a1, a2, a3, a4, a5, a6⟩
        · exact .inl h
        · exact .inr ⟨g', o', cap', a1, Nat.le_trans hB a2, a3, a4, a5, a6⟩

/-- One text more, and where the row lies then. -/
theorem OwnS14.push2 {B : Nat} {w : World} {v : Value} {l : List ByteArray} (h : OwnS14 B w v l) (x : ByteArray) (hB : B ≤ w.heap.size) (hl : l.length ≤ 2000000000) :
    ∃ v' w', (Builtin.append_ #[23, 23] 23 #[v, .slice (some ⟨w.heap.size, 0, none⟩) 1 1]).run Tryz.prog (w.alloc (.cells #[.string x] 9)) = .ok v' w' ∧ OwnS14 B w' v' (l ++ [x]) ∧ Fr (fun k => v.ownBlock = some k) w w' ∧ ∀ k, v'.ownBlock = some k → v.ownBlock = some k ∨ w.heap.size ≤ k := by
  obtain ⟨i0, hi, hz0, hz1, hz2⟩ := info_parts Lines.Tryz.infoS
  have F1 : Fr None' w (w.alloc (.cells #[.string x] 9)) := Fr.alloc None' w _
  have hown : OwnS14 B (w.alloc (.cells #[.string x] 9)) v l := h.frame F1 (fun _ e => e.elim)
  obtain ⟨v', w', hr, h5, h6, _, h8⟩ := run_append_own_at (P := Tryz.prog) (w.alloc (.cells #[.string x] 9)) B 23 23 9 i0 (.string ⟨#[]⟩) 1 16 Tryz.underlying23 hi hz0 hz1 hz2 rfl (by decide) v l.length _ hown ⟨w.heap.size, 0, none⟩ 1 1 [.string x] rfl (fun j u hj => by
    match j, hj with
    | 0, hj => simp at hj; subst hj; simp [Addr.add]) (fun u hu => by simp at hu; subst hu; rfl) (by unfold maxLen; omega) (by omega) (by have := F1.size; omega)
  refine ⟨v', w', hr, ?_, (F1.mono (M' := fun k => v.ownBlock = some k) (fun _ e => e.elim)).then (Fr.grown h6 (fun k e => e)), fun k e => ?_⟩
  · unfold OwnS14
    rw [List.length_append, List.map_append]
    exact h5
  · rcases h8 with h8 | h8
    · rw [h8] at e; exact .inl e
    · rw [h8] at e; cases e; exact .inr F1.size

end Go.Proofs.YtbiilnhefoplkaaGreatDoor

namespace Go.Proofs.YtbiilnhefoplkaaGreatDoor
open Go.RowKit Go.Maps Go.WideMaps
set_option maxRecDepth 100000

/-- Where the new row is, once O was gone through: b tells whether the new one is in it. -/
def InsV (k : B13) (d : Pv) (O L : List (Kv Pv)) (b : Bool) : Prop := ∃ A B, A ++ B = O ∧ (∀ y ∈ A, y.1 < k) ∧ (∀ y ∈ B, k < y.1) ∧ (b = false → B = [] ∧ L = A) ∧ (b = true → B ≠ [] ∧ L = A ++ (k, d) :: B)

theorem InsV.nil (k : B13) (d : Pv) : InsV k d [] [] false := ⟨[], [], rfl, fun y h => (by cases h), fun y h => (by cases h), fun _ => ⟨rfl, rfl⟩, fun e => (by cases e)⟩

theorem InsV.less {k : B13} {d : Pv} {O L : List (Kv Pv)} (h : InsV k d O L false) {y : Kv Pv} (hy : y.1 < k) : InsV k d (O ++ [y]) (L ++ [y]) false := by
  obtain ⟨A, B, e, hA, hB, h0, _⟩ := h
  obtain ⟨rfl, rfl⟩ := h0 rfl
  rw [List.append_nil] at e
  subst e
  refine ⟨L ++ [y], [], List.append_nil _, fun z hz => ?_, fun z h => (by cases h), fun _ => ⟨rfl, rfl⟩, fun e => (by cases e)⟩
  rcases List.mem_append.1 hz with hz | hz
  · exact hA z hz
  · rw [List.mem_singleton.1 hz]; exact hy

theorem InsV.above {k : B13} {d : Pv} {O L : List (Kv Pv)} (h : InsV k d O L false) {y : Kv Pv} (hy : k < y.1) : InsV k d (O ++ [y]) (L ++ [(k, d)] ++ [y]) true := by
  obtain ⟨A, B, e, hA, hB, h0, _⟩ := h
  obtain ⟨rfl, rfl⟩ := h0 rfl
  rw [List.append_nil] at e
  subst e
  refine ⟨L, [y], rfl, hA, fun z hz => by rw [List.mem_singleton.1 hz]; exact hy, fun e => (by cases e), fun _ => ⟨(by simp), by simp⟩⟩

theorem InsV.done {k : B13} {d : Pv} {O L : List (Kv Pv)} (h : InsV k d O L true) {y : Kv Pv} (hr : RiseM (O ++ [y])) : InsV k d (O ++ [y]) (L ++ [y]) true ∧ k < y.1 := by
  obtain ⟨A, B, rfl, hA, hB, _, h1⟩ := h
  obtain ⟨hne, rfl⟩ := h1 rfl
  have hy : k < y.1 := by
    obtain ⟨z, hz⟩ := List.exists_mem_of_ne_nil _ hne
    unfold RiseM at hr
    rw [List.map_append, List.pairwise_append] at hr
    exact List.lt_trans (hB z hz) (hr.2.2 z.1 (List.mem_map.2 ⟨z, List.mem_append_right _ hz, rfl⟩) y.1 (by simp))
  refine ⟨⟨A, B ++ [y], by rw [List.append_assoc], hA, fun z hz => ?_, fun e => (by cases e), fun _ => ⟨by simp, by simp⟩⟩, hy⟩
  rcases List.mem_append.1 hz with hz | hz
  · exact hB z hz
  · rw [List.mem_singleton.1 hz]; exact hy

theorem InsV.mem {k : B13} {d : Pv} {O L : List (Kv Pv)} {b : Bool} (h : InsV k d O L b) {y : Kv Pv} (hy : y ∈ L) : y ∈ O ∨ y = (k, d) := by
  obtain ⟨A, B, rfl, _, _, h0, h1⟩ := h
  cases b with
  | false =>
    obtain ⟨rfl, rfl⟩ := h0 rfl
    exact .inl (List.mem_append_left _ hy)
  | true =>
    obtain ⟨_, rfl⟩ := h1 rfl
    rcases List.mem_append.1 hy with hy | hy
    · exact .inl (List.mem_append_left _ hy)
    · rcases List.mem_cons.1 hy with rfl | hy
      · exact .inr rfl
      · exact .inl (List.mem_append_right _ hy)

theorem InsV.len {k : B13} {d : Pv} {O L : List (Kv Pv)} {b : Bool} (h : InsV k d O L b) : L.length ≤ O.length + 1 := by
  obtain ⟨A, B, rfl, _, _, h0, h1⟩ := h
  cases b with
  | false =>
    obtain ⟨rfl, rfl⟩ := h0 rfl
    simp
  | true =>
    obtain ⟨_, rfl⟩ := h1 rfl
    simp
    omega

theorem InsV.apart {k : B13} {d : Pv} {O L : List (Kv Pv)} {b : Bool} (h : InsV k d O L b) : ∀ y ∈ O, y.1 ≠ k := by
  obtain ⟨A, B, rfl, hA, hB, _, _⟩ := h
  intro y hy e
  rcases List.mem_append.1 hy with hy | hy
  · have := hA y hy; rw [e] at this; exact List.lt_irrefl _ this
  · have := hB y hy; rw [e] at this; exact List.lt_irrefl _ this

theorem InsV.none {k : B13} {d : Pv} {O L : List (Kv Pv)} {b : Bool} (h : InsV k d O L b) : getM O k = none := by
  cases e : getM O k with
  | none => rfl
  | some c => exact absurd rfl (h.apart _ (getM_mem e))

theorem ins_rise {k : B13} {d : Pv} {A B : List (Kv Pv)} (hr : RiseM (A ++ B)) (hA : ∀ y ∈ A, y.1 < k) (hB : ∀ y ∈ B, k < y.1) : A ++ (k, d) :: B = putM (A ++ B) k d := by
  have hn : ∀ y ∈ A ++ B, y.1 ≠ k := fun y hy e => by
    rcases List.mem_append.1 hy with hy | hy
    · have := hA y hy; rw [e] at this; exact List.lt_irrefl _ this
    · have := hB y hy; rw [e] at this; exact List.lt_irrefl _ this
  refine riseM_ext ?_ (rise_put hr k d) (fun t => ?_)
  · unfold RiseM at hr ⊢
    rw [List.map_append, List.pairwise_append] at hr
    rw [List.map_append, List.map_cons, List.pairwise_append]
    refine ⟨hr.1, List.pairwise_cons.2 ⟨fun a ha => ?_, hr.2.1⟩, fun a ha b hb => ?_⟩
    · obtain ⟨y, hy, rfl⟩ := List.mem_map.1 ha
      exact hB y hy
    · obtain ⟨y, hy, rfl⟩ := List.mem_map.1 ha
      rcases List.mem_cons.1 hb with rfl | hb
      · exact hA y hy
      · exact hr.2.2 _ (List.mem_map.2 ⟨y, hy, rfl⟩) b hb
  · rw [mem_putM]
    constructor
    · intro h
      rcases List.mem_append.1 h with h | h
      · exact .inr ⟨List.mem_append_left _ h, hn t (List.mem_append_left _ h)⟩
      · rcases List.mem_cons.1 h with rfl | h
        · exact .inl rfl
        · exact .inr ⟨List.mem_append_right _ h, hn t (List.mem_append_right _ h)⟩
    · rintro (rfl | ⟨h, _⟩)
      · exact List.mem_append_right _ (List.mem_cons_self ..)
      · rcases List.mem_append.1 h with h | h
        · exact List.mem_append_left _ h
        · exact List.mem_append_right _ (List.mem_cons_of_mem _ h)

theorem InsV.end0 {k : B13} {d : Pv} {O L : List (Kv Pv)} (h : InsV k d O L false) (hr : RiseM O) : L ++ [(k, d)] = putM O k d := by
  obtain ⟨A, B, rfl, hA, hB, h0, _⟩ := h
  obtain ⟨rfl, rfl⟩ := h0 rfl
  exact ins_rise hr hA hB

theorem InsV.end1 {k : B13} {d : Pv} {O L : List (Kv Pv)} (h : InsV k d O L true) (hr : RiseM O) : L = putM O k d := by
  obtain ⟨A, B, rfl, hA, hB, _, h1⟩ := h
  obtain ⟨_, rfl⟩ := h1 rfl
  exact ins_rise hr hA hB

/-- Where the document's Sorted is, once k patches are in. -/
structure SoAt (Z : List Pv) (k : Nat) (T : List (Kv Pv)) : Prop where
  go : setGo [] Z = setGo T (Z.drop k)
  rise : RiseM T
  len : T.length = k
  mem : ∀ t ∈ T, t.2 ∈ Z ∧ t.1 = unB t.2.x.name

theorem SoAt.start (Z : List Pv) : SoAt Z 0 [] := ⟨rfl, rise_nil, rfl, fun t h => (by cases h)⟩

theorem SoAt.no {Z : List Pv} {k : Nat} {T : List (Kv Pv)} (h : SoAt Z k T) (hk : k < Z.length) (hn : (getM T (unB Z[k].x.name)).isSome = true ∨ rightPa Z[k].x = false) : setGo [] Z = none := by
  rw [h.go, setGo_step T hk, if_pos hn]

theorem SoAt.yes {Z : List Pv} {k : Nat} {T : List (Kv Pv)} (h : SoAt Z k T) (hk : k < Z.length) (hn : getM T (unB Z[k].x.name) = none) (hr : rightPa Z[k].x = true) : SoAt Z (k + 1) (putM T (unB Z[k].x.name) Z[k]) := by
  refine ⟨?_, rise_put h.rise _ _, by rw [len_put _ hn, h.len], fun t ht => ?_⟩
  · rw [h.go, setGo_step T hk, if_neg (by rw [hn, hr]; simp)]
  · rcases mem_putM.1 ht with rfl | ⟨ht, _⟩
    · exact ⟨List.getElem_mem hk, rfl⟩
    · exact h.mem t ht

theorem SoAt.end {Z : List Pv} {T : List (Kv Pv)} (h : SoAt Z Z.length T) : setGo [] Z = some T := by
  rw [h.go, List.drop_length]
  rfl

/-- What the document's Sorted hands back. -/
def DSoPost (w : World) (R : Option (List (Kv Pv))) (e : Ending) (w' : World) : Prop :=
  (∀ T, R = some T → ∃ v, e = .returned (.tuple #[v, .int .i64 0]) ∧ OwnA w.heap.size w' v (T.map (·.2))) ∧ (R = none → e = .returned (.tuple #[.slice none 0 0, .int .i64 1])) ∧ Fr None' w w'

end Go.Proofs.YtbiilnhefoplkaaGreatDoor

namespace Go.Proofs.YtbiilnhefoplkaaGreatDoor
open Go.RowKit Go.Shelf
set_option maxRecDepth 100000

set_option maxHeartbeats 2000000 in
theorem dlabel_any (s : ByteArray) (w : World) (hs : s.size ≤ 1000000000) : Calls Tryz.prog 43 #[.string s] w fun e w' => e = .returned (.bool (labelB (unB s))) ∧ w' = w := by
  have hR := toHid8 (show labelB (unB s) = (decide (0 < s.size) && decide (s.size ≤ 24) && s.data.toList.all letB) by unfold labelB; rw [un_len]; rfl)
  have i0 : (s.size : Int) ≤ 1000000000 := by omega
  go_enter Tryz.func43, Tryz.ntmps43
  go_wp2_with fail
  go_loop [3] (fun i => ∃ k : Nat, k ≤ s.size ∧ i = .int .i64 k ∧ Hid ((s.data.toList.take k).all letB = true)) (fun i => s.size - (intOf i).toNat)
  case atStart => exact ⟨0, Nat.zero_le _, rfl, rfl⟩
  case round =>
    obtain ⟨k, hk, rfl, HA⟩ := hrel
    by_cases hlt : k < s.size
    · obtain ⟨v, hv⟩ : ∃ v : Nat, (s[k]).toNat = v := ⟨_, rfl⟩
      have hg : Hid (letB s[k] = (decide (v = 46) || decide (v = 45) || (decide (97 ≤ v) && decide (v ≤ 122)) || (decide (48 ≤ v) && decide (v ≤ 57)))) := by
        unfold Hid letB
        have e : ∀ n : UInt8, (s[k] == n) = decide (v = n.toNat) := fun n => by
          rw [← hv]
          by_cases h : s[k] = n
          · rw [h]; simp
          · have h2 : ¬ s[k].toNat = n.toNat := fun e => h (UInt8.toNat_inj.1 e)
            rw [beq_eq_false_iff_ne.2 h, decide_eq_false h2]
        rw [e, e, ← hv]
        rfl
      go_wp2_with fail
      all_goals (try simp only [bne_eq_false_iff_eq, bne_iff_ne, ne_eq] at *)
      all_goals first
        | (go_ret
           refine ⟨?_, rfl⟩
           have hc : letB s[k] = false := by rw [hg.out]; simp; omega
           rw [hR.out, Path.all_no hlt hc, Bool.and_false]; rfl)
        | exact ⟨⟨k + 1, by omega, by go_num, Path.all_step hlt HA.out (by rw [hg.out]; simp; omega)⟩, by simp [intOf]; omega⟩
        | (exfalso; omega)
    · have hR2 := toHid8 (show labelB (unB s) = (decide (0 < s.size) && decide (s.size ≤ 24)) by
        have ht := HA.out
        rw [List.take_of_length_le (by rw [Path.len_eq]; omega)] at ht
        rw [hR.out, ht, Bool.and_true])
      by_cases h1 : 1 ≤ s.size
      · have i1 : (1 : Int) ≤ (s.size : Int) := by omega
        have i1' : ¬ ((s.size : Int) < 1) := by omega
        by_cases h2 : s.size ≤ 24
        · have i2 : (s.size : Int) ≤ 24 := by omega
          go_wp2_with fail
          go_ret
          exact ⟨by rw [hR2.out, decide_eq_true (by omega), decide_eq_true h2]; rfl, rfl⟩
        · have i2 : ¬ (s.size : Int) ≤ 24 := by omega
          have i2' : (24 : Int) < (s.size : Int) := by omega
          go_wp2_with fail
          go_ret
          exact ⟨by rw [hR2.out, decide_eq_false h2, Bool.and_false]; rfl, rfl⟩
      · have i1 : ¬ (1 : Int) ≤ (s.size : Int) := by omega
        have i1' : (s.size : Int) < 1 := by omega
        go_wp2_with fail
        go_ret
        exact ⟨by rw [hR2.out, decide_eq_false (by omega)]; rfl, rfl⟩

theorem mkB_app (a b : B13) : mkB (a ++ b) = mkB a ++ mkB b := (ByteArray.mk_append_mk a b).symm

theorem mkB_len (a : B13) : (mkB a).size = a.length := by show (List.toArray a).size = a.length; simp

def textsB (l : List ByteArray) : B13 := ((l.map unB).map text13).flatten

end Go.Proofs.YtbiilnhefoplkaaGreatDoor

namespace Go.Proofs.YtbiilnhefoplkaaGreatDoor
set_option maxRecDepth 100000

theorem any_snoc14 {l : List ByteArray} (f : ByteArray → Bool) {k : Nat} (h : k < l.length) : (l.take (k + 1)).any f = ((l.take k).any f || f l[k]) := by
  rw [List.take_succ_eq_append_getElem h, List.any_append, List.any_cons, List.any_nil, Bool.or_false]

end Go.Proofs.YtbiilnhefoplkaaGreatDoor

namespace Go.Proofs.YtbiilnhefoplkaaGreatDoor
open Go.RowKit
set_option maxRecDepth 100000

/-- Are two rows of changes one? -/
def sameL : List Pr → List Pr → Bool
  | [], [] => true
  | a :: l, b :: m => alikeP a b && sameL l m
  | _, _ => false

theorem sameL_iff : ∀ {L M : List Pr}, sameL L M = true ↔ L = M
  | [], [] => by simp [sameL]
  | a :: l, [] => by simp [sameL]
  | [], b :: m => by simp [sameL]
  | a :: l, b :: m => by rw [sameL, Bool.and_eq_true, alike_iff, sameL_iff, List.cons.injEq]

theorem sameL_yes {L M : List Pr} (h : L = M) : sameL L M = true := sameL_iff.2 h

theorem sameL_no {L M : List Pr} (h : ¬ L = M) : sameL L M = false := by
  cases e : sameL L M with
  | false => rfl
  | true => exact absurd (sameL_iff.1 e) h

theorem take_eq {α : Type} {L M : List α} {k : Nat} (h : L.take k = M.take k) (hl : k < L.length) (hm : k < M.length) (he : L[k] = M[k]) : L.take (k + 1) = M.take (k + 1) := by
  rw [List.take_succ_eq_append_getElem hl, List.take_succ_eq_append_getElem hm, h, he]

set_option maxHeartbeats 8000000 in
theorem psames_dec (va vb : Option Addr) (n m c d : Nat) (L M : List Pr) (w : World) (hl : L.length = n) (hm : M.length = m) (ha : PrsAt w va L) (hb : PrsAt w vb M) (hn : n ≤ 90000000) (hs : ∀ x ∈ L, x.old.length ≤ 900000 ∧ x.new.length ≤ 900000) :
    Calls Tryz.prog 45 #[.slice va n c, .slice vb m d] w fun e w' => e = .returned (.bool (sameL L M)) ∧ Fr None' w w' := by
  by_cases hnm : n = m
  case neg =>
    rw [sameL_no (fun e => hnm (by rw [← hl, ← hm, e]))]
    have i1 : ¬ (n : Int) = (m : Int) := by omega
    clear hl hm ha hb hs hnm
    go_enter Tryz.func45, Tryz.ntmps45
    go_wp2_with fail
    go_ret
    exact ⟨rfl, Fr.refl _ _⟩
  subst hnm
  obtain ⟨R, hR⟩ : ∃ R, sameL L M = R := ⟨_, rfl⟩
  rw [hR]
  have HR := toHid8 hR
  have HL := toHid8 hl
  have HM := toHid8 hm
  have HA := toHid8 ha
  have HB := toHid8 hb
  have HS := toHid8 hs
  have i1 : (n : Int) ≤ 90000000 := by omega
  clear hl hm ha hb hn hs hR
  go_enter Tryz.func45, Tryz.ntmps45
  go_wp2_with fail
  go_loopw [5] (fun vi wr => ∃ k : Nat, k ≤ n ∧ vi = .int .i64 k ∧ Hid (L.take k = M.take k) ∧ Hid (Fr None' w wr)) (fun vi _ => n - (intOf vi).toNat)
  case atStart => exact ⟨0, Nat.zero_le _, rfl, rfl, Fr.refl _ _⟩
  case round =>
    obtain ⟨k, hk, rfl, HK, HF⟩ := hrel
    by_cases hlt : k < n
    · have hkL : k < L.length := by rw [HL.out]; exact hlt
      have hkM : k < M.length := by rw [HM.out]; exact hlt
      obtain ⟨g, o, rfl, vo, vn, d0, d1, d2, d3, d4, d5, d6, s1, s2⟩ := (HA.out.kept HF.out).get hkL
      obtain ⟨g2, o2, rfl, uo, un, e0, e1, e2, e3, e4, e5, e6, s3, s4⟩ := (HB.out.kept HF.out).get hkM
      obtain ⟨z1, z2⟩ := HS.out _ (List.getElem_mem hkL)
      have HY := toHid8 (fun (he : L[k] = M[k]) => take_eq HK.out hkL hkM he)
      have HN := toHid8 (show ¬ L[k] = M[k] → false = R from fun he => by
        rw [← HR.out, sameL_no]
        intro e
        subst e
        exact he rfl)
      obtain ⟨x, hxe⟩ : ∃ x, L[k] = x := ⟨_, rfl⟩
      obtain ⟨y, hye⟩ : ∃ y, M[k] = y := ⟨_, rfl⟩
      rw [hxe] at d0 d1 d2 d3 d4 s1 s2 z1 z2
      rw [hye] at e0 e1 e2 e3 e4 s3 s4
      rw [hxe, hye] at HY HN
      have cS0 : ∀ w', Fr None' wr w' → Calls Tryz.prog 59 #[.agg #[.int .i64 x.kind, .string x.path, .string x.dst, .string x.src, .int .i64 x.pos, vo, vn], .agg #[.int .i64 y.kind, .string y.path, .string y.dst, .string y.src, .int .i64 y.pos, uo, un]] w' fun e w'' => e = .returned (.bool (alikeP x y)) ∧ Fr None' w' w'' := fun w' f => psame_dec x y vo vn uo un w' (s1.kept f) (s2.kept f) (s3.kept f) (s4.kept f) z1 z2
      have HAl := toHid8 (alike_iff (p := x) (q := y))
      obtain ⟨S, hS⟩ : ∃ S, alikeP x y = S := ⟨_, rfl⟩
      rw [hS] at cS0 HAl
      have cS := cS0
      obtain ⟨pa, ca, rfl, _⟩ := s1
      obtain ⟨pb, cb, rfl, _⟩ := s2
      obtain ⟨qa, da, rfl, _⟩ := s3
      obtain ⟨qb, db, rfl, _⟩ := s4
      obtain ⟨K, P, T, F, A, lO, lN⟩ := x
      obtain ⟨K', P', T', F', A', mO, mN⟩ := y
      simp only at d0 d1 d2 d3 d4 d5 d6 e0 e1 e2 e3 e4 e5 e6 cS
      have i2 : (k : Int) < (n : Int) := by omega
      have i3 : (0 : Int) ≤ (k : Int) := by omega
      clear hxe hye z1 z2 hS cS0
      have HK2 : Hid (∀ w', Fr None' wr w' → Fr None' wr w' ∧ w'.cell? ⟨g, o + k * 7, none⟩ = some (.int .i64 K) ∧ w'.cell? ⟨g, o + k * 7 + 1, none⟩ = some (.string P) ∧ w'.cell? ⟨g, o + k * 7 + 2, none⟩ = some (.string T) ∧ w'.cell? ⟨g, o + k * 7 + 3, none⟩ = some (.string F) ∧ w'.cell? ⟨g, o + k * 7 + 4, none⟩ = some (.int .i64 A) ∧ w'.cell? ⟨g, o + k * 7 + 5, none⟩ = some (.slice pa lO.length ca) ∧ w'.cell? ⟨g, o + k * 7 + 6, none⟩ = some (.slice pb lN.length cb) ∧ w'.cell? ⟨g2, o2 + k * 7, none⟩ = some (.int .i64 K') ∧ w'.cell? ⟨g2, o2 + k * 7 + 1, none⟩ = some (.string P') ∧ w'.cell? ⟨g2, o2 + k * 7 + 2, none⟩ = some (.string T') ∧ w'.cell? ⟨g2, o2 + k * 7 + 3, none⟩ = some (.string F') ∧ w'.cell? ⟨g2, o2 + k * 7 + 4, none⟩ = some (.int .i64 A') ∧ w'.cell? ⟨g2, o2 + k * 7 + 5, none⟩ = some (.slice qa mO.length da) ∧ w'.cell? ⟨g2, o2 + k * 7 + 6, none⟩ = some (.slice qb mN.length db)) := fun w' f => ⟨f, f.keepCell d0 (fun e => e), f.keepCell d1 (fun e => e), f.keepCell d2 (fun e => e), f.keepCell d3 (fun e => e), f.keepCell d4 (fun e => e), f.keepCell d5 (fun e => e), f.keepCell d6 (fun e => e), f.keepCell e0 (fun e => e), f.keepCell e1 (fun e => e), f.keepCell e2 (fun e => e), f.keepCell e3 (fun e => e), f.keepCell e4 (fun e => e), f.keepCell e5 (fun e => e), f.keepCell e6 (fun e => e)⟩
      clear d0 d1 d2 d3 d4 d5 d6 e0 e1 e2 e3 e4 e5 e6
      go_wp2_with fail
      go_region_held3 (fun w' => Fr None' wr w' ∧ w'.cell? ⟨g, o + k * 7, none⟩ = some (.int .i64 K) ∧ w'.cell? ⟨g, o + k * 7 + 1, none⟩ = some (.string P) ∧ w'.cell? ⟨g, o + k * 7 + 2, none⟩ = some (.string T) ∧ w'.cell? ⟨g, o + k * 7 + 3, none⟩ = some (.string F) ∧ w'.cell? ⟨g, o + k * 7 + 4, none⟩ = some (.int .i64 A) ∧ w'.cell? ⟨g, o + k * 7 + 5, none⟩ = some (.slice pa lO.length ca) ∧ w'.cell? ⟨g, o + k * 7 + 6, none⟩ = some (.slice pb lN.length cb) ∧ w'.cell? ⟨g2, o2 + k * 7, none⟩ = some (.int .i64 K') ∧ w'.cell? ⟨g2, o2 + k * 7 + 1, none⟩ = some (.string P') ∧ w'.cell? ⟨g2, o2 + k * 7 + 2, none⟩ = some (.string T') ∧ w'.cell? ⟨g2, o2 + k * 7 + 3, none⟩ = some (.string F') ∧ w'.cell? ⟨g2, o2 + k * 7 + 4, none⟩ = some (.int .i64 A') ∧ w'.cell? ⟨g2, o2 + k * 7 + 5, none⟩ = some (.slice qa mO.length da) ∧ w'.cell? ⟨g2, o2 + k * 7 + 6, none⟩ = some (.slice qb mN.length db))
        (exact HK2.out _ (by first | exact Fr.drew None' wr | assumption | exact Fr.then7 (Fr.drew None' wr) (by assumption)))
        (first | (go_at_call 59; with_reducible (refine (cS _ (Fr.drew None' wr)).mono ?_); rintro e w6 ⟨rfl, F6⟩))
      have HX : Hid (Fr None' w w6) := HF.out.then7 ((Fr.drew None' wr).then7 F6)
      clear cS F6 HK2
      cases S with
      | true =>
        have HE := toHid8 (HY.out (HAl.out.1 rfl))
        clear HAl HY HN
        go_wp2_with fail
        exact ⟨⟨k + 1, by omega, by go_num, HE.out, HX.out⟩, by simp [intOf]; omega⟩
      | false =>
        have HE := toHid8 (HN.out (fun e => by have := HAl.out.2 e; cases this))
        clear HAl HY HN
        go_wp2_with fail
        go_ret
        exact ⟨by rw [← HE.out]; rfl, HX.out⟩
    · obtain rfl : k = n := by omega
      have HE := toHid8 (show true = R by
        have h := HK.out
        rw [List.take_of_length_le (by rw [HL.out]; exact Nat.le_refl _), List.take_of_length_le (by rw [HM.out]; exact Nat.le_refl _)] at h
        rw [← HR.out, sameL_yes h])
      go_wp2_with fail
      go_ret
      exact ⟨by rw [← HE.out]; rfl, HF.out⟩

/-- Are two patches one? -/
def samePa (p q : Pa) : Bool := decide (p.name = q.name) && decide (p.deps = q.deps) && sameL p.body q.body

theorem samePa_iff {p q : Pa} : samePa p q = true ↔ p = q := by
  obtain ⟨a, b, c⟩ := p
  obtain ⟨a', b', c'⟩ := q
  unfold samePa
  rw [Bool.and_eq_true, Bool.and_eq_true, decide_eq_true_eq, decide_eq_true_eq, sameL_iff]
  simp [and_assoc]

set_option maxHeartbeats 8000000 in
theorem msame_any (p q : Pa) (vd ud : Value) (pb qb : Option Addr) (n m cb db : Nat) (w : World) (hn : p.body.length = n) (hm : q.body.length = m) (sd : StrsAt w vd p.deps) (td : StrsAt w ud q.deps) (sb : PrsAt w pb p.body) (tb : PrsAt w qb q.body) (ln : n ≤ 90000000) (ld : p.deps.length < 1000000) (hs : ∀ x ∈ p.body, x.old.length ≤ 900000 ∧ x.new.length ≤ 900000) :
    Calls Tryz.prog 32 #[.agg #[.string p.name, vd, .slice pb n cb], .agg #[.string q.name, ud, .slice qb m db]] w fun e w' => e = .returned (.bool (samePa p q)) ∧ Fr None' w w' := by
  obtain ⟨N, D, L⟩ := p
  obtain ⟨N', D', M⟩ := q
  simp only at hn hm sd td sb tb ld hs ⊢
  obtain ⟨R, hR⟩ : ∃ R, samePa ⟨N, D, L⟩ ⟨N', D', M⟩ = R := ⟨_, rfl⟩
  rw [hR]
  unfold samePa at hR
  simp only at hR
  obtain ⟨pa, ca, rfl, _, _, r1⟩ := sd
  obtain ⟨qa, da, rfl, _, _, r2⟩ := td
  have cD := toHid8 (fun w' (f : Fr None' w w') => (Lines.same_any pa qa ca da D D' w' (r1.fr (toLN f)) (r2.fr (toLN f)) (by omega)).mono fun _ _ h => (⟨h.1, ofLN h.2⟩ : _ ∧ Fr None' w' _))
  have cB := toHid8 (fun w' (f : Fr None' w w') => psames_dec pb qb n m cb db L M w' hn hm (sb.kept f) (tb.kept f) ln hs)
  obtain ⟨w1, hw1⟩ : ∃ x, w.alloc (.cells #[.string N, .slice pa D.length ca, .slice pb n cb] 36) = x := ⟨_, rfl⟩
  obtain ⟨w2, hw2⟩ : ∃ x, w1.alloc (.cells #[.string N', .slice qa D'.length da, .slice qb m db] 36) = x := ⟨_, rfl⟩
  have F1 : Fr None' w w1 := hw1 ▸ Fr.alloc None' w _
  have F2 : Fr None' w1 w2 := hw2 ▸ Fr.alloc None' w1 _
  have B1 : Box3 w2 w.heap.size (.string N) (.slice pa D.length ca) (.slice pb n cb) := Box3.kept (hw1 ▸ Box3.new w _ _ _) F2
  have B2 : Box3 w2 w1.heap.size (.string N') (.slice qa D'.length da) (.slice qb m db) := hw2 ▸ Box3.new w1 _ _ _
  have HF := toHid8 (F1.then7 F2)
  have H1 := toHid8 B1
  have H2 := toHid8 B2
  have HR := toHid8 hR
  obtain ⟨a0, a1, a2⟩ := B1.cells
  obtain ⟨b0, b1, b2⟩ := B2.cells
  generalize decide (D = D') = RD at *
  generalize sameL L M = RB at *
  generalize D.length = x at *
  generalize D'.length = y at *
  clear hn hm sb tb r1 r2 ld hs F1 F2 B1 B2 hR
  by_cases hN : N = N'
  case neg =>
    obtain ⟨t1, t2⟩ := Lines.str_no hN
    have e2 := HR.out
    rw [decide_eq_false hN] at e2
    simp only [Bool.false_and] at e2
    have HE := toHid8 e2
    clear e2 hN
    go_enter Tryz.func32, Tryz.ntmps32
    go_wp2_with fail
    go_ret
    exact ⟨by rw [← HE.out]; rfl, HF.out⟩
  case pos =>
    subst hN
    have HE := toHid8 (show (RD && RB) = R by have := HR.out; simpa using this)
    have q1 := cD.out w2 HF.out
    clear HR
    go_enter Tryz.func32, Tryz.ntmps32
    go_wp2_with fail
    with_reducible refine q1.mono ?_
    rintro e w3 ⟨rfl, f3⟩
    have HF3 := toHid8 (HF.out.then7 f3)
    have q2 := cB.out w3 HF3.out
    clear q1 a0 a1 a2 b0 b1 b2
    obtain ⟨a0, a1, a2⟩ := (H1.out.kept f3).cells
    obtain ⟨b0, b1, b2⟩ := (H2.out.kept f3).cells
    clear f3
    cases RD with
    | false =>
      have HE2 := toHid8 (show false = R by have := HE.out; simpa using this)
      go_wp2_with fail
      go_ret
      exact ⟨by rw [← HE2.out]; rfl, HF3.out⟩
    | true =>
      have HE2 := toHid8 (show RB = R by have := HE.out; simpa using this)
      go_wp2_with fail
      with_reducible refine q2.mono ?_
      rintro e w4 ⟨rfl, f4⟩
      have HF4 := toHid8 (HF3.out.then7 f4)
      clear q2 f4
      cases RB <;> (go_wp2_with fail; go_ret; exact ⟨by rw [← HE2.out]; rfl, HF4.out⟩)

end Go.Proofs.YtbiilnhefoplkaaGreatDoor
