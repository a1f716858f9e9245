/- What is proved here: contracts for RecordMakes. Conditions: as named. -/
import Derived.Test.YtbnfjjjdnbcehaaGreatDoorX12Clone11
import Derived.Laws.CopyRow
import Derived.Laws.AppendOwn
set_option maxHeartbeats 16000000
namespace Go.Proofs.YtbnfjjjdnbcehaaGreatDoor
open Go.RowKit
set_option maxRecDepth 100000
def zcells : Array Value := #[.int .i64 0, .string ⟨#[]⟩, .string ⟨#[]⟩, .string ⟨#[]⟩, .int .i64 0, .slice none 0 0, .slice none 0 0]
theorem zero_len (n : Nat) : (Builtin.zeroCells zcells n).toList.length = n * 7 := by
 simp [Builtin.zeroCells, zcells]
theorem zero_one (n : Nat) : ∀ v ∈ (Builtin.zeroCells zcells n).toList, v.oneCell' = true := by
 intro v hv
 simp only [Builtin.zeroCells, Array.toList_map, List.mem_map] at hv
 obtain ⟨i, _, rfl⟩ := hv
 have h7 : i % zcells.size < 7 := Nat.mod_lt _ (by decide)
 generalize i % zcells.size = k at h7
 have : k = 0 ∨ k = 1 ∨ k = 2 ∨ k = 3 ∨ k = 4 ∨ k = 5 ∨ k = 6 := by omega
 rcases this with rfl | rfl | rfl | rfl | rfl | rfl | rfl <;> rfl
theorem clearP_run {w : World} {g : Nat} {cur : Array Value} (hg : w.heap[g]? = some (.cells cur 43 (0, 0))) (ty : TypeId) (o n c : Nat) (hn : 0 < n) (hfit : o + n * 7 ≤ cur.size) :
  (Builtin.clear_ #[22] ty #[.slice (some ⟨g, o, none⟩) n c]).run Tryz.prog w = .ok (.tuple #[]) (w.setRow g (cur.toList.take o ++ (Builtin.zeroCells zcells n).toList ++ cur.toList.drop (o + n * 7)).toArray) := by
 have hst := run_storeCells_at Tryz.prog g o 43 (Builtin.zeroCells zcells n).toList 0 cur w hg (by rw [zero_len]; omega) (zero_one n)
 rw [zero_len, Nat.add_zero] at hst
 have hz : (zeroValue 43).run Tryz.prog w = .ok (.agg zcells) w := by
  have := Tryz.zeroValue43 w
  exact this
 obtain ⟨m, rfl⟩ : ∃ m, n = m + 1 := ⟨n - 1, by omega⟩
 simp [Builtin.clear_, run_underlying Tryz.underlying22, hz, Value.cells, hst]
theorem pcells_take : ∀ (L : List Pr) (V : List (Value × Value)) (i : Nat), V.length = L.length → pcells (L.take i) (V.take i) = (pcells L V).take (i * 7)
 | [], _, i, _ => by simp [pcells]
 | x :: L, [], _, e => by cases e
 | x :: L, u :: V, 0, _ => by simp [pcells]
 | x :: L, u :: V, i + 1, e => by
  have ih := pcells_take L V i (by simpa using e)
  simp only [List.take_succ_cons, pcells, ih]
  rw [show (i + 1) * 7 = (prCells x u.1 u.2).length + i * 7 from by rw [prCells_length]; omega, List.take_length_add_append]
theorem setRowQ (w : World) (g : Nat) (c : Array Value) : Fr (fun k => k = g) w (w.setRow g c) := Fr.setRow (M := fun k => k = g) w rfl c
def What (w : World) (v vv : Value) (B : List Pr) (U : List (Value × Value)) : Prop := (vv = .slice none 0 0 ∧ B = [] ∧ U = []) ∨ ∃ b z vo vn, vv = .slice (some ⟨b, 0, none⟩) 1 1 ∧ B = [z] ∧ U = [(vo, vn)] ∧ Box w b (.int .i64 z.kind) (.string z.path) (.string z.dst) (.string z.src) (.int .i64 z.pos) (vo) (vn) ∧ Zy w vo z.old ∧ Zy w vn z.new ∧ Far v vo z.old ∧ Far v vn z.new
theorem box_news {w : World} {b : Nat} {z : Pr} {vo vn : Value} (h : Box w b (.int .i64 z.kind) (.string z.path) (.string z.dst) (.string z.src) (.int .i64 z.pos) (vo) (vn)) : ∀ j u, (pcells [z] [(vo, vn)])[j]? = some u → w.cell? ((⟨b, 0, none⟩ : Addr).add j) = some u := fun j u hj => by
 obtain ⟨c0, c1, c2, c3, c4, c5, c6⟩ := h.cells
 rw [Addr.add_lit, Nat.zero_add]
 simp only [pcells, prCells, List.cons_append, List.nil_append] at hj
 match j, hj with
 | 0, hj => simp at hj; subst hj; exact c0
 | 1, hj => simp at hj; subst hj; exact c1
 | 2, hj => simp at hj; subst hj; exact c2
 | 3, hj => simp at hj; subst hj; exact c3
 | 4, hj => simp at hj; subst hj; exact c4
 | 5, hj => simp at hj; subst hj; exact c5
 | 6, hj => simp at hj; subst hj; exact c6
 | j + 7, hj => simp at hj
theorem Zk.of {base : Nat} {w w' : World} {g n cap m : Nat} {L : List Pr} {V : List (Value × Value)} {v : Value} {cur : Array Value} (hb : base ≤ g) (hh : w'.heap[g]? = some (.cells cur 43 (0, 0))) (hm : L.length = m) (hl : V.length = L.length) (h1 : m ≤ cap) (h2 : cap ≤ maxLen) (h3 : cur.size = cap * 7) (h4 : cur.toList.take (m * 7) = pcells L V) (f : Fr (fun k => k = g) w w') (hv : v = .slice (some ⟨g, 0, none⟩) n cap)
  (hs : ∀ (k : Nat) (x : Pr) (u : Value × Value), L[k]? = some x → V[k]? = some u → Zy w u.1 x.old ∧ Zy w u.2 x.new ∧ Far v u.1 x.old ∧ Far v u.2 x.new) : Zk base w' (.slice (some ⟨g, 0, none⟩) m cap) L V := by
 subst hm hv
 refine ⟨hl, ⟨by rw [pcells_length L V hl], Or.inr ⟨g, cap, cur, rfl, hb, hh, h1, h2, h3, h4⟩⟩, fun k x u e1 e2 => ?_⟩
 obtain ⟨s1, s2, f1, f2⟩ := hs k x u e1 e2
 exact ⟨s1.far f (fun hl k e e' => f1 hl k e (by rw [e']; rfl)), s2.far f (fun hl k e e' => f2 hl k e (by rw [e']; rfl)), f1, f2⟩
theorem replace_runs {base : Nat} {w : World} {g n cap i : Nat} {L : List Pr} {V : List (Value × Value)} (hO : Zk base w (.slice (some ⟨g, 0, none⟩) n cap) L V) (hi : i + 2 = n) {vv : Value} {B : List Pr} {U : List (Value × Value)} (hB : What w (.slice (some ⟨g, 0, none⟩) n cap) vv B U) :
  ∃ w1 w2 m, m < n ∧ B.length + i = m ∧ (Builtin.append_ #[22, 22] 22 #[.slice (some ⟨g, 0, none⟩) i cap, vv]).run Tryz.prog w = .ok (.slice (some ⟨g, 0, none⟩) m cap) w1 ∧ (∀ ty, (Builtin.clear_ #[22] ty #[.slice (some ⟨g, m * 7, none⟩) (n - m) (cap - m)]).run Tryz.prog w1 = .ok (.tuple #[]) w2) ∧ Zk base w2 (.slice (some ⟨g, 0, none⟩) m cap) (L.take i ++ B) (V.take i ++ U) ∧ Fr (fun k => k = g) w w2 ∧ n ≤ cap := by
 obtain ⟨cur, hb, hh, h1, h2, h3, h4, hn⟩ : ∃ cur, base ≤ g ∧ w.heap[g]? = some (.cells cur 43 (0, 0)) ∧ L.length ≤ cap ∧ cap ≤ maxLen ∧ cur.size = cap * 7 ∧ cur.toList.take (L.length * 7) = pcells L V ∧ n = L.length := by
  rcases hO.row.2 with ⟨hv, _⟩ | ⟨g', cap', cur, he, hb', hh, h1, h2, h3, h4⟩
  ·cases hv
  ·cases he
   exact ⟨cur, hb', hh, h1, h2, h3, h4, rfl⟩
 have hlen := hO.len
 have hcut : cur.toList.take (i * 7) = pcells (L.take i) (V.take i) := by
  rw [pcells_take L V i hO.len, ← h4, List.take_take, Nat.min_eq_left (by omega)]
 obtain ⟨w1, cur1, m, hm, hmB, hr, hh1, hs1, ht1, f1⟩ : ∃ w1 cur1 m, m < n ∧ B.length + i = m ∧ (Builtin.append_ #[22, 22] 22 #[.slice (some ⟨g, 0, none⟩) i cap, vv]).run Tryz.prog w = .ok (.slice (some ⟨g, 0, none⟩) m cap) w1 ∧ w1.heap[g]? = some (.cells cur1 43 (0, 0)) ∧ cur1.size = cap * 7 ∧ cur1.toList.take (m * 7) = pcells (L.take i ++ B) (V.take i ++ U) ∧ Fr (fun k => k = g) w w1 := by
  obtain ⟨i0, hi0, hz0, hz1, hz2⟩ := info_parts infoP
  rcases hB with ⟨rfl, rfl, rfl⟩ | ⟨b, z, vo, vn, rfl, rfl, rfl, hbx, _⟩
  ·refine ⟨w, cur, i, by omega, by simp, ?_, hh, h3, by simpa using hcut, Fr.refl _ _⟩
   exact run_append_owned_none (P := Tryz.prog) (w := w) base 22 22 43 i0 7 Tryz.underlying22 hi0 _ i (pcells (L.take i) (V.take i)) ⟨by rw [pcells_length _ _ (by simp [hlen]), List.length_take]; congr 1; omega, Or.inr ⟨g, cap, cur, rfl, hb, hh, by omega, h2, h3, hcut⟩⟩
  ·have hr := run_append_room (P := Tryz.prog) (w := w) 22 22 43 i0 Tryz.underlying22 hi0 g i cap cur hh ⟨b, 0, none⟩ 1 1 (pcells [z] [(vo, vn)]) (by rw [hz1]; rfl) (box_news hbx) (pcells_one _ _ (fun u hu => by
     rw [List.mem_singleton.1 hu]
     rename_i hst
     exact ⟨hst.1.one, hst.2.1.one⟩)) (by omega) (by rw [hz1, h3]; have : (pcells [z] [(vo, vn)]).length = 7 := rfl; omega)
   rw [hz1] at hr
   have e7 : (pcells [z] [(vo, vn)]).length = 7 := rfl
   refine ⟨_, _, i + 1, by omega, by simp; omega, hr, setRow_at hh, ?_, ?_, setRowQ _ _ _⟩
   ·simp only [List.size_toArray, List.length_append, List.length_take, List.length_drop, e7, Array.length_toList, h3]
    omega
   ·rw [pcells_append _ _ _ _ (by simp [hlen]), ← hcut]
    simp only [List.append_assoc]
    rw [← List.append_assoc, List.take_append_of_le_length (by simp only [List.length_append, List.length_take, e7, Array.length_toList, h3]; omega), List.take_of_length_le (by simp only [List.length_append, List.length_take, e7]; omega)]
 have hcl := fun ty => clearP_run hh1 ty (m * 7) (n - m) (cap - m) (by omega) (by rw [hs1]; omega)
 refine ⟨w1, _, m, hm, hmB, hr, hcl, ?_, f1.then (setRowQ _ _ _), by omega⟩
 refine Zk.of (w := w) (n := n) (v := .slice (some ⟨g, 0, none⟩) n cap) hb (setRow_at hh1) (by simp; omega) ?_ (by omega) h2 ?_ ?_ (f1.then (setRowQ _ _ _)) rfl ?_
 ·rcases hB with ⟨_, rfl, rfl⟩ | ⟨b, z, vo, vn, _, rfl, rfl, _⟩ <;> simp [hlen]
 ·have hz := zero_len (n - m)
  simp only [Array.length_toList] at hz
  simp only [List.size_toArray, List.length_append, List.length_take, List.length_drop, Array.length_toList, hs1, hz]
  omega
 ·rw [← ht1]
  simp only [List.append_assoc]
  rw [List.take_append_of_le_length (by simp only [List.length_take, Array.length_toList, hs1]; omega), List.take_take, Nat.min_self]
 ·intro k x u e1 e2
  have hV : (V.take i).length = (L.take i).length := by simp [hlen]
  rcases Nat.lt_or_ge k (L.take i).length with hk | hk
  ·rw [List.getElem?_append_left hk] at e1
   rw [List.getElem?_append_left (by rw [hV]; exact hk)] at e2
   have hk' : k < i := by simp at hk; omega
   rw [List.getElem?_take, if_pos hk'] at e1 e2
   exact hO.str k x u e1 e2
  ·rw [List.getElem?_append_right hk] at e1
   rw [List.getElem?_append_right (by rw [hV]; exact hk), hV] at e2
   rcases hB with ⟨_, rfl, rfl⟩ | ⟨b, z, vo, vn, _, rfl, rfl, _, s1, s2, g1, g2⟩
   ·simp at e1
   ·have h0 : k - (L.take i).length = 0 := by have h := (List.getElem?_eq_some_iff.1 e1).1; simp only [List.length_cons, List.length_nil] at h; omega
    rw [h0] at e1 e2
    cases e1
    cases e2
    exact ⟨s1, s2, g1, g2⟩
theorem replace_any {base : Nat} {w : World} {g n cap i : Nat} {L : List Pr} {V : List (Value × Value)} (hO : Zk base w (.slice (some ⟨g, 0, none⟩) n cap) L V) (hi : i + 2 = n) (hn : n ≤ 90000) {vv : Value} {B : List Pr} {U : List (Value × Value)} (hB : What w (.slice (some ⟨g, 0, none⟩) n cap) vv B U) :
  Calls Tryz.prog 60 #[.slice (some ⟨g, 0, none⟩) n cap, .int .i64 i, .int .i64 n, vv] w fun e w' => ∃ m, e = .returned (.slice (some ⟨g, 0, none⟩) m cap) ∧ Zk base w' (.slice (some ⟨g, 0, none⟩) m cap) (L.take i ++ B) (V.take i ++ U) ∧ Fr (fun k => k = g) w w' := by
 obtain ⟨w1, w2, m, hm, hmB, hr, hcl, O2, f2, hcap⟩ := replace_runs hO hi hB
 have hmax : cap ≤ maxLen := by
  rcases hO.row.2 with ⟨hv, _⟩ | ⟨g', cap', cur, he, _, _, _, h2, _⟩
  ·cases hv
  ·cases he; exact h2
 have HR := toHid11c hr
 have HO := toHid11c (And.intro O2 f2)
 obtain ⟨pv, nv, cv, rfl⟩ : ∃ pv nv cv, vv = .slice pv nv cv := by
  rcases hB with ⟨rfl, _⟩ | ⟨b, z, vo, vn, rfl, _⟩ <;> exact ⟨_, _, _, rfl⟩
 have i1 : (0 : Int) ≤ (i : Int) := by omega
 have i2 : (i : Int) < (n : Int) := by omega
 have i3 : (n : Int) ≤ (cap : Int) := by omega
 have i4 : (m : Int) < (n : Int) := by omega
 have i5 : (0 : Int) ≤ (m : Int) := by omega
 have i6 : (n : Int) ≤ 90000 := by omega
 have i7 : (cap : Int) ≤ 9223372036854775807 := by unfold maxLen at hmax; omega
 have i8 : ((i : Int) == (n : Int)) = false := beq_eq_false_iff_ne.2 (by omega)
 have i9 : ¬ cap = m := by omega
 have j1 : ¬ cap = i := by omega
 clear hO hi hn hB hr O2 f2 hcap hmax hm hmB
 go_enter Tryz.func60, Tryz.ntmps60
 go_wp2_with (at_builtin
              refine app_list9 rfl _ _ rfl rfl rfl HR.out ?_)
 go_ret
 exact ⟨m, rfl, HO.out.1, HO.out.2⟩
end Go.Proofs.YtbnfjjjdnbcehaaGreatDoor
