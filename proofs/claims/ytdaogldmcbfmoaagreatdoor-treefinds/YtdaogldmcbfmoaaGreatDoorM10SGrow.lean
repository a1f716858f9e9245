/-
  What is proved here: the contracts that the statement stands on: SGrow, SRPad. Conditions: as each theorem names them.
-/
import Derived.Test.YtdaogldmcbfmoaaGreatDoorMSEq
import Derived.Maps.AppendAt
import Derived.Laws.AppendOwnNone
import Derived.OwnWalk
import Derived.Deep.AppendLies
namespace Go.Proofs.YtdaogldmcbfmoaaGreatDoor.Sha
open Go.RowKit
set_option maxRecDepth 100000

/-- v is a row of the numbers l, made since w0. -/
def Own (e : TypeId) (k : IntKind) (w0 w : World) (v : Value) (l : List Int) : Prop := w.ownsRow w0.heap.size e 1 v l.length (l.map (Value.int k))

/-- The numbers of a slice, as they lie in memory. -/
def Lies (k : IntKind) (w : World) (va : Option Addr) (n : Nat) (m : Nat → Int) : Prop := ∀ i, i < n → ∃ b o, va = some ⟨b, o, none⟩ ∧ w.cell? ⟨b, o + i, none⟩ = some (.int k (m i))

theorem Byt.lies {w : World} {va : Option Addr} {n c : Nat} {m : Nat → Int} (h : Byt w (.slice va n c) n m) : Lies .u8 w va n m := by
  obtain ⟨va', cap, e, _, h⟩ := h
  cases e
  exact h

theorem Own.slice {e : TypeId} {k : IntKind} {w0 w : World} {v : Value} {l : List Int} (h : Own e k w0 w v l) : ∃ va c, v = .slice va l.length c ∧ l.length ≤ c ∧ (va = none → c = 0) ∧ Lies k w va l.length (fun i => l.getD i 0) := by
  rcases h.2 with ⟨hv, h0⟩ | ⟨g, cap, cur, hv, hb, hh, hc, _, hs, ht⟩
  · refine ⟨none, 0, by rw [hv, h0], by omega, fun _ => rfl, fun i hi => by omega⟩
  · refine ⟨_, cap, hv, hc, fun e => by simp at e, fun i hi => ⟨g, 0, rfl, ?_⟩⟩
    have hl : (l.map (Value.int k))[i]? = some (.int k (l.getD i 0)) := by
      rw [List.getElem?_map, List.getElem?_eq_getElem hi, List.getD_eq_getElem?_getD, List.getElem?_eq_getElem hi]
      rfl
    rw [← ht, List.getElem?_take, if_pos (by omega)] at hl
    rw [World.cell?, Nat.zero_add, hh]
    simpa using hl

theorem Own.byt {w0 w : World} {v : Value} {l : List Int} {e : TypeId} (h : Own e .u8 w0 w v l) : Byt w v l.length (fun i => l.getD i 0) := by
  obtain ⟨va, c, e, hc, _, hl⟩ := h.slice
  exact ⟨va, c, e, hc, hl⟩

theorem Own.alloc {e : TypeId} {k : IntKind} {w0 w : World} {v : Value} {l : List Int} (h : Own e k w0 w v l) (o : Obj) : Own e k w0 (w.alloc o) v l := World.ownsRow.alloc h o

theorem Own.fr {e : TypeId} {k : IntKind} {w0 w w' : World} {v : Value} {l : List Int} (h : Own e k w0 w v l) (f : Fr None' w w') : Own e k w0 w' v l := by
  refine ⟨h.1, ?_⟩
  rcases h.2 with h | ⟨g, cap, cur, hv, hb, hh, h⟩
  · exact Or.inl h
  · exact Or.inr ⟨g, cap, cur, hv, hb, f.at hh id, h⟩

theorem Own.nil (e : TypeId) (k : IntKind) (w0 w : World) : Own e k w0 w (.slice none 0 0) [] := World.ownsRow_nil w _ e 1

/-- 'append([]T{}, ..)': an empty row of no room. -/
theorem Own.empty {e : TypeId} {k : IntKind} {w0 w : World} (hb : w0.heap.size ≤ w.heap.size) : Own e k w0 (w.alloc (.cells #[] e)) (.slice (some ⟨w.heap.size, 0, none⟩) 0 0) [] :=
  ⟨rfl, Or.inr ⟨w.heap.size, 0, #[], rfl, hb, heap_alloc_new w _, Nat.le_refl _, Nat.zero_le _, rfl, rfl⟩⟩

theorem append_num {e t : TypeId} {k : IntKind} {by' : Nat} (hu : Tryz.prog.underlying t = some (.slice e)) (hinfo : (Tryz.prog.info? e).map (fun i => (i.zero, i.size, i.bytes)) = some (some (.int k 0), 1, by')) (hby : by' ≤ 8)
    {ops : Array Oper} {rest : List Oper} {o : Oper} {a : Act} {w : World} {Q : Exit → Act → World → Prop} (hgd : o.guard = none) (s x : Operand)
    (ho : o.op = .call { callee := .builtin .append, args := #[s, x], argTypes := #[t, t] })
    {w0 : World} {v : Value} {l : List Int} (hs : a.eval s = v) (hown : Own e k w0 w v l) (hfr : Fr None' w0 w) {va : Option Addr} {n c : Nat} {m : Nat → Int} (hx : a.eval x = .slice va n c) (hl : Lies k w va n m) (hn : va = none → c = 0) (hbig : l.length + n ≤ 1000000)
    (h : ∀ v' w', Own e k w0 w' v' (l ++ (List.range n).map m) → Fr None' w0 w' → Fr (fun i => v.ownBlock = some i) w w' → wpList Tryz.prog ops Q rest (a.put o.dst v') w') : wpList Tryz.prog ops Q (o :: rest) a w := by
  obtain ⟨i0, hi, hz0, hz1, hz2⟩ := info_parts hinfo
  cases va with
  | none =>
    obtain rfl := hn rfl
    have hn0 : n = 0 := by
      rcases Nat.eq_zero_or_pos n with h | h
      · exact h
      · obtain ⟨b, o, e, _⟩ := hl 0 h
        cases e
    subst hn0
    refine wpList_append_own_none hgd s x t ho w0.heap.size e i0 1 hu hi v _ _ hs hown hx (h v w ?_ hfr (Fr.refl _ _))
    simpa using hown
  | some ad =>
    have hnews : ∀ j u, (((List.range n).map m).map (Value.int k))[j]? = some u → w.cell? (ad.add j) = some u := fun j u hj => by
      have hjn : j < n := by
        have := (List.getElem?_eq_some_iff.1 hj).1
        simpa using this
      obtain ⟨b, o, e, hc⟩ := hl j hjn
      cases e
      have hadd : (⟨b, o, none⟩ : Addr).add j = ⟨b, o + j, none⟩ := by unfold Addr.add; split <;> simp_all
      rw [hadd, hc]
      simp [List.getElem?_map, List.getElem?_range hjn] at hj
      rw [← hj]
    have hm : (l.length + n) * by' ≤ 8000000 := Nat.le_trans (Nat.mul_le_mul hbig hby) (by omega)
    refine wpList_append_own_at _ hgd s x t ho w0.heap.size e i0 (.int k 0) 1 by' hu hi hz0 hz1 hz2 rfl (by decide) v _ _ hs hown ad n c (((List.range n).map m).map (Value.int k)) hx (by simp) hnews (fun u hu => by
      obtain ⟨z, _, rfl⟩ := List.mem_map.1 hu; rfl) (by unfold maxLen; omega) (by omega) hfr.size ?_
    intro v' w' h1 h2 _ _
    refine h v' w' ?_ ?_ (Fr.grown h2 (fun k e => e))
    · unfold Own
      rw [List.length_append, List.map_append, List.length_map, List.length_range]
      exact h1
    · refine hfr.trans (Fr.grown (M := fun i => v.ownBlock = some i) h2 (fun k e => e)) (fun i e => Or.inr ?_)
      rcases hown.2 with ⟨hvv, _⟩ | ⟨g', cap', cur', hvv, hb', _⟩
      · rw [hvv] at e; cases e
      · rw [hvv] at e; cases e; exact hb'

/-- One number more, as one step of a region that draws its order. -/
theorem step_num {e t : TypeId} {k : IntKind} {by' : Nat} (hu : Tryz.prog.underlying t = some (.slice e)) (hinfo : (Tryz.prog.info? e).map (fun i => (i.zero, i.size, i.bytes)) = some (some (.int k 0), 1, by')) (hby : by' ≤ 8)
    {ops : Array Oper} {o : Oper} {a : Act} {K : Act → World → Prop} {Q : Exit → Act → World → Prop} {E : Prop} {w : World} (hgd : o.guard = none) (s x : Operand)
    (ho : o.op = .call { callee := .builtin .append, args := #[s, x], argTypes := #[t, t] })
    {w0 : World} {v : Value} {l : List Int} (hs : a.eval s = v) (hown : Own e k w0 w v l) (hfr : Fr None' w0 w) {b : Nat} {z : Int} (hx : a.eval x = .slice (some ⟨b, 0, none⟩) 1 1) (hl : Lies k w (some ⟨b, 0, none⟩) 1 (fun _ => z)) (hbig : l.length ≤ 100000)
    (h : ∀ v' w', Own e k w0 w' v' (l ++ [z]) → Fr None' w0 w' → K (a.put o.dst v') w') : if Region.wanted o (yielded ops a.tmps) = true then Oper.wp Tryz.prog o a w K Q else E := by
  obtain ⟨i0, hi, hz0, hz1, hz2⟩ := info_parts hinfo
  have hm : (l.length + 1) * by' ≤ 100001 * 8 := Nat.mul_le_mul (by omega) hby
  refine step_append_lies _ hgd s x t ho w0.heap.size e i0 (.int k 0) 1 by' hu hi hz0 hz1 hz2 rfl (by decide) v _ _ hs hown ⟨b, 0, none⟩ 1 1 [.int k z] hx (by simp) (fun j u hj => ?_) (fun u hu => by simp at hu; subst hu; rfl) (by decide) (by unfold maxLen; omega) (by omega) hfr.size _ rfl ?_
  · obtain rfl : j = 0 := by
      have := (List.getElem?_eq_some_iff.1 hj).1
      simpa using this
    obtain ⟨b', o', e, hc⟩ := hl 0 (by omega)
    cases e
    simp at hj
    rw [← hj]
    exact hc
  intro g cap w' h1 h2 _ _
  refine h _ w' ?_ ?_
  · unfold Own
    rw [List.length_append, List.map_append]
    exact h1
  · refine hfr.trans (Fr.grown (M := fun i => v.ownBlock = some i) h2 (fun k e => e)) (fun i e => Or.inr ?_)
    rcases hown.2 with ⟨hvv, _⟩ | ⟨g', cap', cur', hvv, hb', _⟩
    · rw [hvv] at e; cases e
    · rw [hvv] at e; cases e; exact hb'

/-- The same where the row lies in memory already: what lay there lies there still. -/
theorem step_num2 {e t : TypeId} {k : IntKind} {by' : Nat} (hu : Tryz.prog.underlying t = some (.slice e)) (hinfo : (Tryz.prog.info? e).map (fun i => (i.zero, i.size, i.bytes)) = some (some (.int k 0), 1, by')) (hby : by' ≤ 8)
    {ops : Array Oper} {o : Oper} {a : Act} {K : Act → World → Prop} {Q : Exit → Act → World → Prop} {E : Prop} {w : World} (hgd : o.guard = none) (s x : Operand)
    (ho : o.op = .call { callee := .builtin .append, args := #[s, x], argTypes := #[t, t] })
    {w0 : World} {g n cap : Nat} {l : List Int} (hs : a.eval s = .slice (some ⟨g, 0, none⟩) n cap) (hn : n = l.length) (hown : Own e k w0 w (.slice (some ⟨g, 0, none⟩) n cap) l) (hfr : Fr None' w0 w) {b : Nat} {z : Int} (hx : a.eval x = .slice (some ⟨b, 0, none⟩) 1 1) (hl : Lies k w (some ⟨b, 0, none⟩) 1 (fun _ => z)) (hbig : l.length ≤ 100000)
    (h : ∀ v' w', Own e k w0 w' v' (l ++ [z]) → Fr None' w0 w' → (∀ j, j < n → w'.cell? ⟨g, j, none⟩ = w.cell? ⟨g, j, none⟩) → K (a.put o.dst v') w') : if Region.wanted o (yielded ops a.tmps) = true then Oper.wp Tryz.prog o a w K Q else E := by
  obtain ⟨i0, hi, hz0, hz1, hz2⟩ := info_parts hinfo
  subst hn
  have hm : (l.length + 1) * by' ≤ 100001 * 8 := Nat.mul_le_mul (by omega) hby
  have hnews : ∀ j u, [Value.int k z][j]? = some u → w.cell? ((⟨b, 0, none⟩ : Addr).add j) = some u := fun j u hj => by
    obtain rfl : j = 0 := by
      have := (List.getElem?_eq_some_iff.1 hj).1
      simpa using this
    obtain ⟨b', o', e, hc⟩ := hl 0 (by omega)
    cases e
    simp at hj
    rw [← hj]
    exact hc
  have h1c : ∀ u ∈ [Value.int k z], u.oneCell' = true := fun u hu => by simp at hu; subst hu; rfl
  obtain ⟨v', w', hr, h2, h3, _, _⟩ := run_append_own_at (P := Tryz.prog) w w0.heap.size t o.type e i0 (.int k 0) 1 by' hu hi hz0 hz1 hz2 rfl (by decide) _ l.length _ hown ⟨b, 0, none⟩ 1 1 [.int k z] (by simp) hnews h1c (by unfold maxLen; omega) (by omega) hfr.size
  have hlt : g < w.heap.size := (World.ownsRow.lt hown g rfl).2
  have hkeep : ∀ j, j < l.length → w'.cell? ⟨g, j, none⟩ = w.cell? ⟨g, j, none⟩ := fun j hj => by
    rcases hown.2 with ⟨hv, _⟩ | ⟨g', cap', cur, hv, _, hh, hcap, hmax, hsz, ht⟩
    · cases hv
    · cases hv
      by_cases hroom : l.length + 1 ≤ cap
      · have hr2 := run_append_room_cells (P := Tryz.prog) w t o.type e i0 hu hi g 0 l.length cap ⟨b, 0, none⟩ 1 1 [.int k z] (by rw [hz1]; rfl) hnews h1c hroom (fun j hj => by
          obtain rfl : j = 0 := by simpa using hj
          rw [hz1, World.cell?, hh]
          simp
          omega) (fun j hj => by
          rw [World.frozen?, hh]
          simp)
        rw [hr] at hr2
        injection hr2 with _ hw
        rw [hw]
        exact World.cell?_setCells_out g _ _ _ _ (fun _ _ => Or.inl (by rw [hz1]; show j < 0 + l.length * 1; omega))
      · obtain ⟨v2, w2, hr2, _, hg2⟩ := run_append_arg_grows (P := Tryz.prog) w t o.type e i0 (.int k 0) 1 by' hu hi hz0 hz1 hz2 rfl (by decide) ⟨g, 0, none⟩ l.length cap (l.map (Value.int k)) (by simp) (fun j u hj => World.ownsRow.cells hown rfl j u hj) ⟨b, 0, none⟩ 1 1 [.int k z] (by simp) hnews (by omega) (by unfold maxLen; omega) (by omega)
        rw [hr] at hr2
        injection hr2 with _ hw
        rw [hw]
        exact World.cell?_of_block (hg2.block g hlt (by simp))
  have hw : Region.wanted o (yielded ops a.tmps) = true := by simp [Region.wanted, hgd]
  rw [if_pos hw]
  unfold Oper.wp execOp
  simp only [ho, resolve, invoke, builtin, Sem.run_bind, Sem.run_pure, Result.andThen_ok, List.map_toArray, List.map_cons, List.map_nil, hs, hx, hr]
  refine h v' w' ?_ ?_ hkeep
  · unfold Own
    rw [List.length_append, List.map_append]
    exact h2
  · refine hfr.trans (Fr.grown (M := fun i => i = g) h3 (fun k e => by cases e; rfl)) (fun i e => Or.inr ?_)
    rw [e]
    exact (World.ownsRow.lt hown g rfl).1

theorem Tryz.info8 : (Tryz.prog.info? 5).map (fun i => (i.zero, i.size, i.bytes)) = some (some (.int .u8 0), 1, 1) := by kernel_rfl
theorem Tryz.info4 : (Tryz.prog.info? 129).map (fun i => (i.zero, i.size, i.bytes)) = some (some (.int .u32 0), 1, 4) := by kernel_rfl

theorem range_getD (n : Nat) (m : Nat → Int) {i : Nat} (h : i < n) : ((List.range n).map m).getD i 0 = m i := by
  rw [List.getD_eq_getElem?_getD, List.getElem?_map, List.getElem?_range h]; rfl

/-- Sums do not ask what lies past the end. -/
theorem Byt.congr {w : World} {v : Value} {n : Nat} {m m' : Nat → Int} (h : Byt w v n m) (hm : ∀ i, i < n → m i = m' i) : Byt w v n m' := by
  obtain ⟨va, c, e, hc, h⟩ := h
  exact ⟨va, c, e, hc, fun i hi => by rw [← hm i hi]; exact h i hi⟩

theorem range_byt {e : TypeId} {w0 w : World} {v : Value} {n : Nat} {m : Nat → Int} (h : Own e .u8 w0 w v ((List.range n).map m)) : Byt w v n m := by
  have := h.byt
  rw [List.length_map, List.length_range] at this
  exact this.congr (fun i hi => range_getD n m hi)
end Go.Proofs.YtdaogldmcbfmoaaGreatDoor.Sha

namespace Go.Proofs.YtdaogldmcbfmoaaGreatDoor.Sha
open Go.RowKit
set_option maxRecDepth 100000

/-- How many zeros stand behind n bytes and 128; the length's eight bytes; all of it. -/
def zs (n : Nat) : Nat := (119 - n % 64) % 64
def lenB (n : Nat) (i : Nat) : Int := (8 * n : Int) / 2 ^ (56 - 8 * i) % 256
def padL (n : Nat) (m : Nat → Int) : List Int := (List.range n).map m ++ [128] ++ List.replicate (zs n) 0 ++ (List.range 8).map (lenB n)

theorem padL_length (n : Nat) (m : Nat → Int) : (padL n m).length = n + 1 + zs n + 8 := by simp [padL]; omega

theorem one_lies (w : World) (k : IntKind) (x : Int) (t : TypeId) : Lies k (w.alloc (.cells #[.int k x] t)) (some ⟨w.heap.size, 0, none⟩) 1 (fun _ => x) := fun i hi => by
  obtain rfl : i = 0 := by omega
  refine ⟨_, _, rfl, ?_⟩
  have hb := heap_alloc_new w (.cells #[.int k x] t)
  unfold World.cell?
  simp only [hb]
  rfl

theorem range_succ_map {α : Type} (f : Nat → α) (n : Nat) : (List.range (n + 1)).map f = (List.range n).map f ++ [f n] := by
  rw [List.range_succ, List.map_append]; rfl

theorem range_one (x : Int) : (List.range 1).map (fun _ => x) = [x] := rfl

def lenOf : Value → Nat
  | .slice _ n _ => n
  | _ => 0

set_option maxHeartbeats 4000000 in
theorem rpadded_any (va : Option Addr) (n c : Nat) (m : Nat → Int) (w : World) (h : Byt w (.slice va n c) n m) (hn : va = none → c = 0) (hbig : n ≤ 100000) :
   Calls Tryz.prog 99 #[.slice va n c] w fun e w' => ∃ v, e = .returned v ∧ Own 5 .u8 w w' v (padL n m) ∧ Fr None' w w' := by
  have lies0 : Lies .u8 (w.alloc (.cells #[] 5)) va n m := Byt.lies (Byt.fr h (Fr.alloc None' w _))
  have own0 := Own.empty (e := 5) (k := .u8) (w0 := w) (Nat.le_refl _)
  have HN : Hid _ := hn
  have i0 : (n : Int) ≤ 100000 := by omega
  clear hn h
  go_enter Tryz.func99, Tryz.ntmps99
  go_wp2_with (first
    | (at_builtin
       refine append_num Tryz.underlying57 Tryz.info8 (by omega) rfl _ _ rfl rfl own0 (Fr.alloc None' w _) rfl lies0 HN.out (by simp; omega) ?_
       intro v1 w1 own1 f1 g1
       clear own0 lies0 g1
       rw [List.nil_append] at own1)
    | (at_builtin
       refine append_num Tryz.underlying57 Tryz.info8 (by omega) rfl _ _ rfl rfl (own1.alloc _) (f1.then (Fr.alloc None' w1 _)) rfl (one_lies w1 .u8 128 _) (fun e => by cases e) (by simp; omega) ?_
       intro v2 w2 own2 f2 g2
       clear own1 f1 g2
       rw [range_one] at own2))
  clear HN
  go_loopw [3] (fun v wr => ∃ k : Nat, k ≤ zs n ∧ Own 5 .u8 w wr v ((List.range n).map m ++ [128] ++ List.replicate k 0) ∧ Fr None' w wr) (fun v _ => 100000 + 200 - lenOf v)
  case atStart => exact ⟨0, by omega, by simpa using own2, f2⟩
  case round =>
    clear own2 f2
    obtain ⟨k, hk, hown, fr⟩ := hrel
    obtain ⟨va', c', hv, _, _, _⟩ := hown.slice
    have hlen : ((List.range n).map m ++ [128] ++ List.replicate k 0).length = n + 1 + k := by simp; omega
    rw [hlen] at hv
    subst hv
    obtain ⟨L, hL⟩ : ∃ L, n + 1 + k = L := ⟨_, rfl⟩
    rw [hL] at hown hlen ⊢
    have hz : zs n < 64 := by unfold zs; omega
    by_cases hlt : k < zs n
    · have i1 : ¬ (L : Int) % 64 = 56 := by unfold zs at hlt; omega
      clear hL
      go_wp2_with (first
        | (at_builtin
           refine append_num Tryz.underlying57 Tryz.info8 (by omega) rfl _ _ rfl rfl (hown.alloc _) (fr.then (Fr.alloc None' wr _)) rfl (one_lies wr .u8 0 _) (fun e => by cases e) (by simp; omega) ?_
           intro v3 w3 own3 f3 g3
           clear hown fr g3
           rw [range_one] at own3))
      have own4 : Own 5 .u8 w w3 v3 ((List.range n).map m ++ [128] ++ List.replicate (k + 1) 0) := by
        rw [List.replicate_succ', ← List.append_assoc]; exact own3
      obtain ⟨va3, c3, hv3, _, _, _⟩ := own4.slice
      refine ⟨⟨k + 1, by omega, own4, f3⟩, ?_⟩
      have h3 : ((List.range n).map m ++ [128] ++ List.replicate (k + 1) 0).length = L + 1 := by rw [← hlen]; simp; omega
      have h4 : L = n + 1 + k := by rw [← hlen]; simp; omega
      rw [hv3, h3]
      show 100200 - (L + 1) < 100200 - L
      omega
    · have i1 : (L : Int) % 64 = 56 := by unfold zs at hlt hk; omega
      have hkz : k = zs n := by omega
      rw [hkz] at hown
      obtain ⟨N, hN⟩ : ∃ N : Nat, n * 8 = N := ⟨_, rfl⟩
      have n1 : IntKind.u64.wrap ((n : Int) * 8) = N := by simp [IntKind.wrap, IntKind.bits, IntKind.signed]; omega
      have hl0 : Hid (lenB n = fun i => (N : Int) / 2 ^ (56 - 8 * i) % 256) := by funext i; unfold lenB; rw [← hN]; push_cast; rw [Int.mul_comm]
      have HZ : Hid (zs n < 64) := hz
      clear hlt hk hkz hz hL hN hlen
      go_wp2_with fail
      go_loopw [3, 5] (fun v i wr => ∃ j : Nat, j ≤ 8 ∧ i = .int .i64 j ∧ Own 5 .u8 w wr v ((List.range n).map m ++ [128] ++ List.replicate (zs n) 0 ++ (List.range j).map (lenB n)) ∧ Fr None' w wr) (fun _ i _ => 8 - (intOf i).toNat)
      case atStart => exact ⟨0, by omega, rfl, by simpa using hown, fr⟩
      case round =>
        clear hown fr i1
        obtain ⟨j, hj, rfl, hown, fr⟩ := hrel
        by_cases hlt : j < 8
        · have w1' : IntKind.i64.wrap (8 * (j : Int)) = 8 * j := by rw [IntKind.wrap_i64]; omega
          have w2' : IntKind.i64.wrap (56 - 8 * (j : Int)) = 56 - 8 * j := by rw [IntKind.wrap_i64]; omega
          have j0 : (j : Int) < 8 := by omega
          have j1 : 8 * (j : Int) ≤ 56 := by omega
          have hx2 : Hid (lenB n j = (N : Int) / 2 ^ (56 - 8 * j) % 256) := by show _ = _; rw [hl0.out]
          go_wp2_with (first
            | (at_builtin
               refine append_num Tryz.underlying57 Tryz.info8 (by omega) rfl _ _ rfl rfl (hown.alloc _) (fr.then (Fr.alloc None' wr _)) rfl (one_lies wr .u8 ((N : Int) / 2 ^ (56 - 8 * j) % 256) _) (fun e => by cases e) (by have := HZ.out; simp; omega) ?_
               intro v3 w3 own3 f3 g3
               clear hown fr g3
               rw [range_one] at own3))
          go_roundw
          case rel =>
            refine ⟨j + 1, by omega, by go_num, ?_, f3⟩
            rw [range_succ_map, ← List.append_assoc, hx2.out]
            exact own3
          case measure => simp [intOf]; omega
        · have j0 : (8 : Int) ≤ j := by omega
          have hj8 : j = 8 := by omega
          rw [hj8] at hown
          clear hlt hj hj8 hl0 n1
          go_wp2
          go_ret
          exact ⟨_, rfl, hown, fr⟩
end Go.Proofs.YtdaogldmcbfmoaaGreatDoor.Sha
