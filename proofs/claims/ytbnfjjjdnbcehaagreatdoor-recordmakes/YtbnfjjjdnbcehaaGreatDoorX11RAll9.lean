/- What is proved here: contracts for RecordMakes. Conditions: as named. -/
import Derived.Test.YtbnfjjjdnbcehaaGreatDoorX9Plain8
import Derived.Test.YtbnfjjjdnbcehaaGreatDoorX8Strs9
import Derived.Deep.RegionHeld3
import Derived.Test.YtbnfjjjdnbcehaaGreatDoorChecked
import Derived.Deep.Strs
import Derived.Deep.Slices
import Derived.ProofKit
import Derived.OpenShut
import Derived.ShutString
import Derived.ChangeOld
import Derived.ChangeSame
import Derived.SizedLaws
import Derived.Below
set_option maxHeartbeats 16000000
namespace Go.Proofs.YtbnfjjjdnbcehaaGreatDoor
open Go.RowKit
set_option maxRecDepth 100000
theorem Zy.is {w : World} {v : Value} {l : List ByteArray} (h : Zy w v l) : ∃ pa ca, v = .slice pa l.length ca := by
 obtain ⟨pa, ca, e, _⟩ := h
 exact ⟨pa, ca, e⟩
theorem app_list9 {ops : Array Oper} {rest : List Oper} {o : Oper} {a : Act} {w w' : World} {Q : Exit → Act → World → Prop} {t : TypeId} (hgd : o.guard = none) (s x : Operand)
  (ho : o.op = .call { callee := .builtin .append, args := #[s, x], argTypes := #[t, t] }) {vs vx v : Value} (hs : a.eval s = vs) (hx : a.eval x = vx) (hr : (Builtin.append_ #[t, t] o.type #[vs, vx]).run Tryz.prog w = .ok v w')
  (h : wpList Tryz.prog ops Q rest (a.put o.dst v) w') : wpList Tryz.prog ops Q (o :: rest) a w := by
 refine wpList_plain hgd fun K hK => ?_
 unfold Oper.wp execOp
 simp only [ho, resolve, invoke, builtin, Sem.run_bind, Sem.run_pure, Result.andThen_ok, List.map_toArray, List.map_cons, List.map_nil, hs, hx, hr]
 exact hK _ _ h
theorem Zk.push {base : Nat} {w : World} {v : Value} {L : List Pr} {V : List (Value × Value)} (h : Zk base w v L V) {b : Nat} {x : Pr} {vo vn : Value} (hb : Box w b (.int .i64 x.kind) (.string x.path) (.string x.dst) (.string x.src) (.int .i64 x.pos) vo vn) (s1 : Zy w vo x.old) (s2 : Zy w vn x.new) (f1 : Far v vo x.old) (f2 : Far v vn x.new) (hn : L.length ≤ 90000) (hbase : base ≤ w.heap.size) :
  ∃ v' w', (Builtin.append_ #[22, 22] 22 #[v, .slice (some ⟨b, 0, none⟩) 1 1]).run Tryz.prog w = .ok v' w' ∧ Zk base w' v' (L ++ [x]) (V ++ [(vo, vn)]) ∧ Fr (fun k => v.ownBlock = some k) w w' ∧ (v'.ownBlock = v.ownBlock ∨ v'.ownBlock = some w.heap.size) := by
 obtain ⟨c0, c1, c2, c3, c4, c5, c6⟩ := hb.cells
 refine h.append (ad := ⟨b, 0, none⟩) (B := [x]) (U := [(vo, vn)]) rfl rfl (fun j u hj => ?_) (fun k y u e1 e2 => ?_) (by omega) hbase
 ·simp only [pcells, prCells, List.cons_append, List.nil_append] at hj
  rw [show (⟨b, 0, none⟩ : Addr).add j = ⟨b, 0 + j, none⟩ from Addr.add_lit .., Nat.zero_add]
  match j, hj with
  | 0, hj => simp at hj; subst hj; exact c0
  | 1, hj => simp at hj; subst hj; exact c1
  | 2, hj => simp at hj; subst hj; exact c2
  | 3, hj => simp at hj; subst hj; exact c3
  | 4, hj => simp at hj; subst hj; exact c4
  | 5, hj => simp at hj; subst hj; exact c5
  | 6, hj => simp at hj; subst hj; exact c6
  | j + 7, hj => simp at hj
 ·have hk : k = 0 := by
   have := (List.getElem?_eq_some_iff.1 e1).1
   simpa using this
  subst hk
  simp at e1 e2
  subst e1 e2
  exact ⟨s1, s2, f1, f2⟩
def stE (L : List En) (ps : List Pr) : Nat → List En
 | 0 => L
 | k + 1 => match ps[k]? with
  | some p => (doE (stE L ps k) p).1
  | none => stE L ps k
theorem stE_succ {L : List En} {ps : List Pr} {k : Nat} (hk : k < ps.length) : stE L ps (k + 1) = (doE (stE L ps k) ps[k]).1 := by
 rw [stE, List.getElem?_eq_getElem hk]
def OkTo (L : List En) (ps : List Pr) (k : Nat) : Prop := ∀ j (hj : j < ps.length), j < k → (doE (stE L ps j) ps[j]).2 = 0
theorem run_from {L : List En} {ps : List Pr} : ∀ (k : Nat), k ≤ ps.length → OkTo L ps k → runE L ps 0 = runE (stE L ps k) (ps.drop k) k
 | 0, _, _ => rfl
 | k + 1, hk, h => by
  rw [run_from k (by omega) (fun j hj hlt => h j hj (by omega)), List.drop_eq_getElem_cons (show k < ps.length by omega), runE, if_pos (h k (by omega) (by omega)), stE_succ (by omega)]
theorem run_stop {L : List En} {ps : List Pr} {k : Nat} (hk : k < ps.length) (h : OkTo L ps k) (he : (doE (stE L ps k) ps[k]).2 ≠ 0) : runE L ps 0 = ([], (doE (stE L ps k) ps[k]).2, k) := by
 rw [run_from k (by omega) h, List.drop_eq_getElem_cons hk, runE, if_neg he]
theorem run_end {L : List En} {ps : List Pr} (h : OkTo L ps ps.length) : runE L ps 0 = (stE L ps ps.length, 0, 0) := by
 rw [run_from ps.length (Nat.le_refl _) h, List.drop_length]
 rfl
theorem OkTo.succ {L : List En} {ps : List Pr} {k : Nat} (h : OkTo L ps k) (hk : k < ps.length) (he : (doE (stE L ps k) ps[k]).2 = 0) : OkTo L ps (k + 1) := fun j hj hlt => by
 by_cases e : j = k
 ·subst e; exact he
 ·exact h j hj (by omega)
theorem OkTo.zero (L : List En) (ps : List Pr) : OkTo L ps 0 := fun j _ h => by omega
def newTo (ps : List Pr) (k : Nat) : Nat := ((ps.take k).map (fun p => p.new.length)).sum
theorem newTo_succ {ps : List Pr} {k : Nat} (hk : k < ps.length) : newTo ps (k + 1) = newTo ps k + ps[k].new.length := by
 unfold newTo
 rw [List.take_succ_eq_append_getElem hk, List.map_append, List.sum_append]
 simp
theorem newTo_le (ps : List Pr) (k : Nat) : newTo ps k ≤ newTo ps ps.length := by
 unfold newTo
 rw [List.take_length]
 conv => rhs; rw [← List.take_append_drop k ps, List.map_append, List.sum_append]
 omega
theorem do_right8 {L : List En} {p : Pr} (e : (doE L p).2 = 0) : Zv p = true ∧ actE L p = ((doE L p).1, 0) := do_of (L' := (doE L p).1) (by rw [← e])
theorem st_ok {L : List En} {ps : List Pr} {B : Nat} (hL : Zl L) (hB : SmLn B L) (hp : ∀ p ∈ ps, SmPr p) : ∀ k, k ≤ ps.length → OkTo L ps k → Zl (stE L ps k) ∧ SmLn (B + newTo ps k) (stE L ps k)
 | 0, _, _ => ⟨hL, hB.mono (Nat.le_add_right _ _)⟩
 | k + 1, hk, h => by
  obtain ⟨h1, h2⟩ := st_ok hL hB hp k (by omega) (fun j hj hlt => h j hj (by omega))
  have hk' : k < ps.length := by omega
  obtain ⟨hr, ha⟩ := do_right8 (h k hk' (by omega))
  rw [stE_succ hk', newTo_succ hk', ← Nat.add_assoc]
  exact ⟨h1.act hr ha, h2.act (hp _ (List.getElem_mem hk')) h1.strict hr ha⟩
theorem puts_self : ∀ (A B : List En), Zp (A ++ B) → B.foldl putE A = A ++ B
 | A, [], _ => by simp
 | A, x :: B, h => by
  have hA : ∀ y ∈ A, bl y.path < bl x.path := fun y hy => (List.pairwise_append.1 h).2.2 y hy x (List.mem_cons_self ..)
  have e : putE A x = A ++ [x] := by
   unfold putE
   rw [del_none (find_no (fun y hy e => by have := hA y hy; rw [e] at this; exact List.lt_irrefl _ this))]
   clear h
   induction A with
   | nil => rfl
   | cons y A ih =>
    rw [insE, if_neg (fun e => List.lt_irrefl _ (List.lt_trans (hA y (List.mem_cons_self ..)) e)), ih (fun z hz => hA z (List.mem_cons_of_mem _ hz))]
    rfl
  rw [List.foldl_cons, e, puts_self (A ++ [x]) B (by simpa using h)]
  simp
end Go.Proofs.YtbnfjjjdnbcehaaGreatDoor
namespace Go.Proofs.YtbnfjjjdnbcehaaGreatDoor
open Go.ChangeShapes Go.WideShapes Go.ChangeAt Go.RowKit Go.Deep
set_option maxRecDepth 100000
theorem own : ownKnob Tryz.prog.godebug = none := by kernel_rfl
theorem laidOut : laidOutB Tryz.prog = true := by kernel_rfl
theorem add_none7 {a : Addr} (h : a.spot = none) (i : Nat) : a.add i = ⟨a.block, a.off + i, none⟩ := by
 obtain ⟨b, o, s⟩ := a
 simp only at h
 subst h
 unfold Addr.add
 split <;> simp_all
theorem spot_none7 {w : World} {a : Addr} {u : Value} (h : w.cell? a = some u) : a.spot = none := by
 unfold World.cell? at h
 split at h
 ·split at h
  ·cases h
  ·rename_i h1; simpa using h1
 ·cases h
theorem mapM_at7 {α β : Type} (f : α → Option β) : ∀ (l : List α) (r : List β), l.mapM f = some r → ∀ (j : Nat) (u : β), r[j]? = some u → ∃ x, l[j]? = some x ∧ f x = some u
 | [], r, h, j, u, hu => by
  simp at h; subst h; simp at hu
 | a :: l, r, h, j, u, hu => by
  rw [List.mapM_cons] at h
  obtain ⟨y, hy, h⟩ := Option.bind_eq_some_iff.1 h
  obtain ⟨ys, hys, h⟩ := Option.bind_eq_some_iff.1 h
  obtain rfl : y :: ys = r := by simpa using h
  cases j with
  | zero => simp at hu; subst hu; exact ⟨a, rfl, hy⟩
  | succ j => simpa using mapM_at7 f l ys hys j u (by simpa using hu)
theorem cells_at7 {w : World} {a : Addr} {n : Nat} {cs : List Value} (h : w.cells? 0 a n = some cs) (j : Nat) (u : Value) (hj : cs[j]? = some u) : w.cell? (a.add j) = some u := by
 unfold World.cells? at h
 rw [if_pos (Nat.zero_le _)] at h
 obtain ⟨x, h1, h2⟩ := mapM_at7 _ _ _ h j u hj
 have : x = j := by
  obtain ⟨h3, h4⟩ := List.getElem?_eq_some_iff.1 h1
  simpa using h4.symm
 rw [← this]; exact h2
theorem weightsAll_mem {H : Type} {P : Program} {e : TypeId} : ∀ {l : List (DataW H)} {d : DataW H}, d ∈ l → ∀ n ∈ d.weights P e, n ∈ DataW.weightsAll P e l
 | [], _, h, _, _ => by cases h
 | x :: l, d, h, n, hn => by
  rw [DataW.weightsAll]
  rcases List.mem_cons.1 h with rfl | h
  ·exact List.mem_append_left _ hn
  ·exact List.mem_append_right _ (weightsAll_mem h n hn)
theorem trod_strs7 {H : Type} {enc : TypeId × Value → H} {W : World} {fuel : Nat} {sp : Nat → Bool} {held : Bool} {cs : List Value} {x : DataW H × List MemPlace} (h : DataW.trod enc Tryz.prog W 0 sp held fuel 41 cs = some x) (hr : ∀ n ∈ x.1.weights Tryz.prog 41, n ≤ reachBytes) : ∃ v l, cs = [v] ∧ Zy W v l ∧ l.length ≤ reachBytes := by
 have hle : ∀ va len cap, cs = [.slice va len cap] → len ≤ reachBytes := fun va len cap e => by
  rcases open_slice Tryz.underlying41 h with ⟨hcs, _⟩ | ⟨a, len', cap', m, n, D, Pl, hcs, _, hl, hm, hmm, rfl, hx⟩
  ·rw [hcs] at e
   injection e with e
   injection e with e1 e2 e3
   omega
  ·rw [hcs] at e
   injection e with e
   injection e with e1 e2 e3
   have h1 := hr ((((List.range len').map D).length + ((List.range (m - len')).map fun j => D (len' + j)).length) * Tryz.prog.bytesOf 9) (by simp [DataW.weights, Tryz.underlying41])
   have e16 : Tryz.prog.bytesOf 9 = 16 := by kernel_rfl
   rw [e16] at h1
   simp at h1
   omega
 rcases Deep.open_strs Tryz.underlying41 Tryz.underlying9 (by kernel_rfl) h with ⟨hcs, _⟩ | ⟨ad, len, cap, m, Sx, hcs, _, hl, hm, hmm, _, hcell⟩
 ·exact ⟨_, [], hcs, ⟨none, 0, rfl, fun _ => rfl, Nat.le_refl _, fun j x e => by simp at e⟩, Nat.zero_le _⟩
 ·have hlm : len ≤ m := by rw [hmm]; split <;> omega
  refine ⟨_, (List.range len).map Sx, hcs, ⟨some ad, cap, by simp, (fun e => by cases e), by simpa using hl, fun j x hj => ?_⟩, by simpa using hle _ _ _ hcs⟩
  have hjn : j < len := by simpa using (List.getElem?_eq_some_iff.1 hj).1
  have hx : Sx j = x := by simpa [hjn] using hj
  have h0 := spot_none7 (hcell 0 (by omega)).1
  rw [show ad.add 0 = ad from rfl] at h0
  refine ⟨ad.block, ad.off, ?_, ?_⟩
  ·obtain ⟨b, o, s⟩ := ad
   simp_all
  ·rw [← add_none7 h0, ← hx]
   exact (hcell j (by omega)).1
theorem trod_ent {H : Type} {enc : TypeId × Value → H} {W : World} {fuel : Nat} {sp : Nat → Bool} {held : Bool} {cs : List Value} {x : DataW H × List MemPlace} (h : DataW.trod enc Tryz.prog W 0 sp held fuel 45 cs = some x) (hr : ∀ n ∈ x.1.weights Tryz.prog 45, n ≤ reachBytes) :
  ∃ (t : En) (vl : Value), cs = [.string t.path, .int .i64 t.kind, vl, .string t.data] ∧ Zy W vl t.lines ∧ t.lines.length ≤ reachBytes := by
 obtain ⟨xs, n, _, rfl, hl, hlen, hf⟩ := DataW.trod_struct Tryz.underlying45 h
 have h4 : Tryz.prog.cellsOf 45 = 4 := by kernel_rfl
 have hcI : Tryz.prog.cellsOf 3 = 1 := by kernel_rfl
 have hcS : Tryz.prog.cellsOf 9 = 1 := by kernel_rfl
 have hcL : Tryz.prog.cellsOf 41 = 1 := by kernel_rfl
 rw [h4] at hl
 match cs, hl, xs, hlen with
 | [c0, c1, c2, c3], _, [x0, x1, x2, x3], _ =>
  have f0 := hf 0 _ rfl
  have f1 := hf 1 _ rfl
  have f2 := hf 2 _ rfl
  have f3 := hf 3 _ rfl
  simp [hcI, hcS, hcL] at f0 f1 f2 f3
  obtain ⟨sa, e0, _, _⟩ := DataW.trod_string Tryz.underlying9 f0
  obtain ⟨z, e1, _, _⟩ := DataW.trod_int Tryz.underlying3 f1
  obtain ⟨vl, l, e2, s2, l2⟩ := trod_strs7 f2 (fun k hk => hr k (by
   simp [DataW.weights, Tryz.underlying45, DataW.weightsEach]
   simp [hk]))
  obtain ⟨sb, e3, _, _⟩ := DataW.trod_string Tryz.underlying9 f3
  simp only [List.cons.injEq, and_true] at e0 e1 e2 e3
  subst e0 e1 e2 e3
  exact ⟨⟨sa, z, l, sb⟩, c2, rfl, s2, l2⟩
theorem trod_ents {H : Type} {enc : TypeId × Value → H} {W : World} {sp : Nat → Bool} {held : Bool} {base : Nat} {v : Value} {d : DataW H} {ps : List MemPlace} (hv : Value.okWide Tryz.prog W .any base 32 v) (h : DataW.Trod enc Tryz.prog W 0 sp held 32 v d ps) (hr : ∀ n ∈ d.weights Tryz.prog 32, n ≤ reachBytes) :
  ∃ a n c L, v = .slice a n c ∧ L.length = n ∧ Z0 W a L ∧ n ≤ reachBytes ∧ n ≤ c ∧ ∀ x ∈ L, x.lines.length ≤ reachBytes := by
 obtain ⟨a, n, c, rfl⟩ := okWide_slice Tryz.underlying32 hv
 obtain ⟨fuel, hf⟩ := h
 rcases open_slice Tryz.underlying32 hf with ⟨hcs, _⟩ | ⟨ad, len, cap, m, fu, D, Pl, hcs, _, hl, hm, hmm, hd, hx⟩
 ·simp only [Value.cells, List.cons.injEq, Value.slice.injEq, and_true] at hcs
  obtain ⟨rfl, rfl, rfl⟩ := hcs
  exact ⟨none, 0, 0, [], rfl, rfl, (fun k x e => by simp at e), Nat.zero_le _, Nat.le_refl _, fun x e => by cases e⟩
 ·simp only [Value.cells, List.cons.injEq, Value.slice.injEq, and_true] at hcs
  obtain ⟨rfl, rfl, rfl⟩ := hcs
  injection hd with hd1 hd2
  subst hd1
  have hlm : n ≤ m := by rw [hmm]; split <;> omega
  have h4 : Tryz.prog.cellsOf 45 = 4 := by kernel_rfl
  rw [h4] at hx
  have hwt : n ≤ reachBytes := by
   have h1 := hr ((((List.range n).map D).length + ((List.range (m - n)).map fun j => D (n + j)).length) * Tryz.prog.bytesOf 45) (by simp [DataW.weights, Tryz.underlying32])
   have e : Tryz.prog.bytesOf 45 = 64 := by kernel_rfl
   rw [e] at h1
   simp at h1
   omega
  have hall : ∀ i, i < n → ∃ t : En × Value, ∃ cs', W.cells? 0 (ad.add (i * 4)) 4 = some cs' ∧ cs' = [.string t.1.path, .int .i64 t.1.kind, t.2, .string t.1.data] ∧ Zy W t.2 t.1.lines ∧ t.1.lines.length ≤ reachBytes := fun i hi => by
   obtain ⟨cs', h1, h2⟩ := hx i (by omega)
   obtain ⟨t, vl, e, s1, s2⟩ := trod_ent h2 (fun k hk => hr k (by
    simp only [DataW.weights, Tryz.underlying32]
    refine List.mem_cons_of_mem _ (List.mem_append_left _ (weightsAll_mem (d := D i) (List.mem_map_of_mem (List.mem_range.2 hi)) k hk))))
   exact ⟨(t, vl), cs', h1, e, s1, s2⟩
  have hin : Inhabited (En × Value) := ⟨(⟨⟨#[]⟩, 0, [], ⟨#[]⟩⟩, .nilFunc)⟩
  obtain ⟨T, hT⟩ := choose_lt hall
  refine ⟨some ad, n, c, (List.range n).map (fun i => (T i).1), rfl, by simp, fun i t hi => ?_, hwt, hl, fun x hx => ?_⟩
  ·have hil : i < n := by simpa using (List.getElem?_eq_some_iff.1 hi).1
   have e : (T i).1 = t := by simpa [hil] using hi
   obtain ⟨cs', h1, h2, s1, s2⟩ := hT i hil
   subst h2
   have c0 := cells_at7 h1 0 _ rfl
   have c1 := cells_at7 h1 1 _ rfl
   have c2 := cells_at7 h1 2 _ rfl
   have c3 := cells_at7 h1 3 _ rfl
   have hsp : ad.spot = none := by
    obtain ⟨cs0, g1, g2, _⟩ := hT 0 (by omega)
    subst g2
    have := spot_none7 (cells_at7 g1 0 _ rfl)
    simpa [Addr.add] using this
   have ead : ad.add (i * 4) = ⟨ad.block, ad.off + i * 4, none⟩ := add_none7 hsp _
   rw [ead] at c0 c1 c2 c3
   rw [add_none7 rfl] at c0 c1 c2 c3
   rw [← e]
   refine ⟨ad.block, ad.off, ?_, (T i).2, c0, c1, c2, c3, s1⟩
   obtain ⟨b, o, s⟩ := ad
   simp_all
  ·obtain ⟨i, hi, rfl⟩ := List.mem_map.1 hx
   obtain ⟨_, _, _, _, s2⟩ := hT i (List.mem_range.1 hi)
   exact s2
end Go.Proofs.YtbnfjjjdnbcehaaGreatDoor
