/-
  What is proved here: arguments that are calls, Great, GreatFiles, and all calls where both disks lie in one memory. Conditions: as each theorem names them.
-/
import Derived.Test.YtnmghgbpgpaomaaGreatMG4
import Derived.Deep.Slices
import Derived.SizedLaws
import Derived.Deep.RegionHeld3
import Derived.Test.YtnmghgbpgpaomaaGreatMG6
import Derived.Test.YtnmghgbpgpaomaaGreatMG5
import Derived.Test.YtnmghgbpgpaomaaGreatMROf
namespace Go.Proofs.YtnmghgbpgpaomaaGreat
open Go.ChangeShapes Go.WideShapes Go.ChangeAt Go.RowKit Go.Maps Go.Deep
set_option maxRecDepth 100000

/-- A call of a script, as plain data. -/
structure OpE where
  what : Int
  b : List UInt8
  name : ByteArray
  n : Int
  keep : List Bool

/-- The five cells of a call that came in, below block B. -/
def OpVal (w : World) (B : Nat) (o : OpE) (vb vk : Value) : Prop :=
  Arg w vb o.b ∧ Bools w vk o.keep ∧ LowN B vb ∧ LowN B vk ∧ o.name.size ≤ maxLen ∧ -9223372036854775808 ≤ o.n ∧ o.n ≤ 9223372036854775807 ∧ -9223372036854775808 ≤ o.what ∧ o.what ≤ 9223372036854775807

theorem OpVal.fresh {w w' : World} {B : Nat} {o : OpE} {vb vk : Value} (h : OpVal w B o vb vk) (hf : Fr None' w w') : OpVal w' B o vb vk :=
  ⟨h.1.fresh hf, h.2.1.kept hf (fun _ _ _ _ _ e => e), h.2.2⟩

theorem block_lt {w : World} {a : Addr} {j : Nat} {u : Value} (h : w.cell? (a.add j) = some u) : a.block < w.heap.size := by
  rw [← add_block a j]
  unfold World.cell? at h
  split at h
  · rename_i hk; exact lt_of_some hk
  · cases h

def boolOf : Value → Bool
  | .bool b => b
  | _ => false

theorem spot_of {w : World} {a : Addr} {u : Value} (h : w.cell? a = some u) : a.spot = none := by
  unfold World.cell? at h
  split at h
  · split at h
    · cases h
    · rename_i hs; simpa using hs
  · cases h

theorem add_at {w : World} {a : Addr} {j : Nat} {u : Value} (h0 : a.spot = none) (h : w.cell? (a.add j) = some u) : w.cell? ⟨a.block, a.off + j, none⟩ = some u := by
  have e : a.add j = ⟨a.block, a.off + j, none⟩ := by
    unfold Addr.add
    split
    · rename_i hj; subst hj; rw [← h0]; rfl
    · rfl
  rw [← e]; exact h

theorem trod_bools {H : Type} {enc : TypeId × Value → H} {W : World} {fuel : Nat} {sp : Nat → Bool} {held : Bool} {cs : List Value} {x : DataW H × List MemPlace} (h : DataW.trod enc Tryz.prog W 0 sp held fuel 32 cs = some x)
    (hr : ∀ n ∈ x.1.weights Tryz.prog 32, n ≤ reachBytes) :
    ∃ v l, cs = [v] ∧ Bools W v l ∧ LowN W.heap.size v ∧ l.length ≤ reachBytes := by
  rcases open_slice1 Tryz.underlying32 (by kernel_rfl) h with ⟨hcs, _⟩ | ⟨a, len, cap, m, n, V, D, Pl, hcs, _, hl, hm, hmm, rfl, hx⟩
  · exact ⟨_, [], hcs, Or.inl ⟨rfl, rfl⟩, (fun _ _ _ e => by cases e), Nat.zero_le _⟩
  · have hlm : len ≤ m := by rw [hmm]; split <;> omega
    have hV : ∀ i, i < len → W.cell? (a.add i) = some (.bool (boolOf (V i))) := fun i hi => by
      obtain ⟨h1, h2⟩ := hx i (by omega)
      obtain ⟨b, hb, _⟩ := DataW.trod_bool Tryz.underlying4 h2
      simp only [List.cons.injEq, and_true] at hb
      rw [h1, hb]; rfl
    have hsp : 0 < len → a.spot = none := fun h0 => by
      have := spot_of (hV 0 h0)
      simpa [Addr.add] using this
    have hwt : len ≤ reachBytes := by
      have h1 := hr (((List.range len).map D).length + ((List.range (m - len)).map fun j => D (len + j)).length) (by
        have e : Tryz.prog.bytesOf 4 = 1 := by kernel_rfl
        simp [DataW.weights, Tryz.underlying32, e])
      simp at h1; omega
    refine ⟨_, (List.range len).map (fun i => boolOf (V i)), hcs, Or.inr ⟨a, cap, by simp, fun j u hj => ?_⟩, fun ad n' c' e h0 => ?_, by simpa using hwt⟩
    · have hjl : j < len := by
        have := (List.getElem?_eq_some_iff.1 hj).1
        simpa using this
      have e : boolOf (V j) = u := by simpa [hjl] using hj
      exact ⟨hsp (by omega), add_at (hsp (by omega)) (e ▸ hV j hjl)⟩
    · cases e
      exact block_lt (hV 0 (by omega))

theorem weightsEach_mem {H : Type} {P : Program} {ts : List TypeId} {ds : List (DataW H)} {j : Nat} {t : TypeId} {d : DataW H} (ht : ts[j]? = some t) (hd : ds[j]? = some d) : ∀ n ∈ d.weights P t, n ∈ DataW.weightsEach P ts ds :=
  DataW.weights_mem_each ht hd

theorem weightsAll_mem {H : Type} {P : Program} {e : TypeId} : ∀ {ds : List (DataW H)} {d : DataW H}, d ∈ ds → ∀ n ∈ d.weights P e, n ∈ DataW.weightsAll P e ds
  | [], _, h, _, _ => by simp at h
  | x :: r, d, h, n, hn => by
    simp only [DataW.weightsAll, List.mem_append]
    rcases List.mem_cons.1 h with rfl | h
    · exact Or.inl hn
    · exact Or.inr (weightsAll_mem h n hn)

/-- One call that came in. -/
theorem trod_op {H : Type} {enc : TypeId × Value → H} {W : World} {fuel : Nat} {sp : Nat → Bool} {held : Bool} {cs : List Value} {x : DataW H × List MemPlace} (h : DataW.trod enc Tryz.prog W 0 sp held fuel 34 cs = some x)
    (hr : ∀ n ∈ x.1.weights Tryz.prog 34, n ≤ reachBytes) :
    ∃ o vb vk, cs = [.int .i64 o.what, vb, .string o.name, .int .i64 o.n, vk] ∧ OpVal W W.heap.size o vb vk ∧ o.keep.length ≤ reachBytes := by
  obtain ⟨xs, n, _, rfl, hl, hlen, hf⟩ := DataW.trod_struct Tryz.underlying34 h
  have h6 : Tryz.prog.cellsOf 34 = 5 := by kernel_rfl
  have hcI : Tryz.prog.cellsOf 3 = 1 := by kernel_rfl
  have hcS : Tryz.prog.cellsOf 9 = 1 := by kernel_rfl
  have hcB : Tryz.prog.cellsOf 31 = 1 := by kernel_rfl
  have hcK : Tryz.prog.cellsOf 32 = 1 := by kernel_rfl
  rw [h6] at hl
  match cs, hl, xs, hlen with
  | [c0, c1, c2, c3, c4], _, [x0, x1, x2, x3, x4], _ =>
    have f0 := hf 0 _ rfl
    have f1 := hf 1 _ rfl
    have f2 := hf 2 _ rfl
    have f3 := hf 3 _ rfl
    have f4 := hf 4 _ rfl
    simp [hcI, hcS, hcB, hcK] at f0 f1 f2 f3 f4
    obtain ⟨what, e0, _, w0⟩ := DataW.trod_int Tryz.underlying3 f0
    obtain ⟨vb, b, e1, B1, L1⟩ := trod_bytes f1
    obtain ⟨st, e2, _, w2⟩ := DataW.trod_string Tryz.underlying9 f2
    obtain ⟨nn, e3, _, w3⟩ := DataW.trod_int Tryz.underlying3 f3
    obtain ⟨vk, l, e4, B4, L4, R4⟩ := trod_bools f4 (fun n hn => hr n (by
      simp only [DataW.weights, Tryz.underlying34]
      exact weightsEach_mem (j := 4) (t := 32) (d := x4.1) rfl rfl n hn))
    simp only [List.cons.injEq, and_true] at e0 e1 e2 e3 e4
    subst e0 e1 e2 e3 e4
    have b0 := bounds_i64 w0
    have b3 := bounds_i64 w3
    exact ⟨⟨what, b, st, nn, l⟩, c1, c4, rfl, ⟨B1, B4, L1, L4, w2, b3.1, b3.2, b0.1, b0.2⟩, R4⟩

/-- The slice v holds these calls, below block B. -/
def OpsAt (w : World) (B : Nat) (v : Value) (L : List OpE) : Prop :=
  (v = .slice none 0 0 ∧ L = []) ∨ ∃ ad c, v = .slice (some ad) L.length c ∧ ∀ i o, L[i]? = some o → ad.spot = none ∧ ad.block < B ∧ ∃ vb vk, OpVal w B o vb vk ∧ o.keep.length ≤ reachBytes ∧
    w.cell? ⟨ad.block, ad.off + i * 5, none⟩ = some (.int .i64 o.what) ∧ w.cell? ⟨ad.block, ad.off + i * 5 + 1, none⟩ = some vb ∧ w.cell? ⟨ad.block, ad.off + i * 5 + 2, none⟩ = some (.string o.name) ∧
    w.cell? ⟨ad.block, ad.off + i * 5 + 3, none⟩ = some (.int .i64 o.n) ∧ w.cell? ⟨ad.block, ad.off + i * 5 + 4, none⟩ = some vk

theorem mapM_at {α β : Type} (f : α → Option β) : ∀ (l : List α) (r : List β), l.mapM f = some r → ∀ (j : Nat) (u : β), r[j]? = some u → ∃ x, l[j]? = some x ∧ f x = some u
  | [], r, h, j, u, hu => by
    simp at h; subst h; simp at hu
  | a :: l, r, h, j, u, hu => by
    rw [List.mapM_cons] at h
    obtain ⟨y, hy, h⟩ := Option.bind_eq_some_iff.1 h
    obtain ⟨ys, hys, h⟩ := Option.bind_eq_some_iff.1 h
    obtain rfl : y :: ys = r := by simpa using h
    cases j with
    | zero => simp at hu; subst hu; exact ⟨a, rfl, hy⟩
    | succ j => simpa using mapM_at f l ys hys j u (by simpa using hu)

theorem cells_at {w : World} {a : Addr} {n : Nat} {cs : List Value} (h : w.cells? 0 a n = some cs) (j : Nat) (u : Value) (hj : cs[j]? = some u) : w.cell? (a.add j) = some u := by
  unfold World.cells? at h
  rw [if_pos (Nat.zero_le _)] at h
  obtain ⟨x, h1, h2⟩ := mapM_at _ _ _ h j u hj
  have : x = j := by
    obtain ⟨h3, h4⟩ := List.getElem?_eq_some_iff.1 h1
    simpa using h4.symm
  rw [← this]; exact h2

theorem trod_ops {H : Type} {enc : TypeId × Value → H} {W : World} {fuel : Nat} {sp : Nat → Bool} {held : Bool} {cs : List Value} {x : DataW H × List MemPlace} (h : DataW.trod enc Tryz.prog W 0 sp held fuel 23 cs = some x)
    (hr : ∀ n ∈ x.1.weights Tryz.prog 23, n ≤ reachBytes) : ∃ v L, cs = [v] ∧ OpsAt W W.heap.size v L ∧ L.length ≤ reachBytes := by
  rcases open_slice Tryz.underlying23 h with ⟨hcs, _⟩ | ⟨a, len, cap, m, n, D, Pl, hcs, _, hl, hm, hmm, rfl, hx⟩
  · exact ⟨_, [], hcs, Or.inl ⟨rfl, rfl⟩, Nat.zero_le _⟩
  · have hlm : len ≤ m := by rw [hmm]; split <;> omega
    have h6 : Tryz.prog.cellsOf 34 = 5 := by kernel_rfl
    rw [h6] at hx
    have hall : ∀ i, i < len → ∃ t : OpE × Value × Value, ∃ cs', W.cells? 0 (a.add (i * 5)) 5 = some cs' ∧ cs' = [.int .i64 t.1.what, t.2.1, .string t.1.name, .int .i64 t.1.n, t.2.2] ∧ OpVal W W.heap.size t.1 t.2.1 t.2.2 ∧ t.1.keep.length ≤ reachBytes := fun i hi => by
      obtain ⟨cs', h1, h2⟩ := hx i (by omega)
      obtain ⟨o, vb, vk, e, ho, hk⟩ := trod_op h2 (fun n hn => hr n (by
        simp only [DataW.weights, Tryz.underlying23]
        refine List.mem_cons_of_mem _ (List.mem_append_left _ (weightsAll_mem (d := D i) ?_ n hn))
        exact List.mem_map.2 ⟨i, List.mem_range.2 hi, rfl⟩))
      exact ⟨(o, vb, vk), cs', h1, e, ho, hk⟩
    have hin : Inhabited (OpE × Value × Value) := ⟨(⟨0, [], ByteArray.empty, 0, []⟩, .nilFunc, .nilFunc)⟩
    obtain ⟨T, hT⟩ := choose_lt hall
    have hwt : len ≤ reachBytes := by
      have h1 := hr ((((List.range len).map D).length + ((List.range (m - len)).map fun j => D (len + j)).length) * Tryz.prog.bytesOf 34) (by
        simp [DataW.weights, Tryz.underlying23])
      have e : Tryz.prog.bytesOf 34 = 80 := by kernel_rfl
      rw [e] at h1
      simp at h1; omega
    refine ⟨_, (List.range len).map (fun i => (T i).1), hcs, Or.inr ⟨a, cap, by simp, fun i o hi => ?_⟩, by simpa using hwt⟩
    have hil : i < len := by
      have := (List.getElem?_eq_some_iff.1 hi).1
      simpa using this
    have e : (T i).1 = o := by simpa [hil] using hi
    obtain ⟨cs', h1, h2, h3, h4⟩ := hT i hil
    subst h2
    have hc := cells_at h1
    have c0 := hc 0 _ rfl
    have c1 := hc 1 _ rfl
    have c2 := hc 2 _ rfl
    have c3 := hc 3 _ rfl
    have c4 := hc 4 _ rfl
    have hsp : a.spot = none := by
      obtain ⟨cs0, g1, g2, _⟩ := hT 0 (by omega)
      subst g2
      have := spot_of (cells_at g1 0 _ rfl)
      simpa [Addr.add] using this
    have hbl : a.block < W.heap.size := by
      have := block_lt c0
      rwa [add_block] at this
    have ead : a.add (i * 5) = ⟨a.block, a.off + i * 5, none⟩ := by
      unfold Addr.add
      split
      · rename_i h0; rw [h0, ← hsp]; rfl
      · rfl
    rw [ead] at c0 c1 c2 c3 c4
    rw [← e]
    exact ⟨hsp, hbl, _, _, h3, h4, (by simpa [Addr.add] using c0), add_at rfl c1, add_at rfl c2, add_at rfl c3, add_at rfl c4⟩

end Go.Proofs.YtnmghgbpgpaomaaGreat

namespace Go.Proofs.YtnmghgbpgpaomaaGreat
open Go.RowKit Go.Maps Go.WideMaps
set_option maxRecDepth 100000

theorem lt_of_cell5 {w : World} {b o : Nat} {v : Value} (h : w.cell? ⟨b, o, none⟩ = some v) : b < w.heap.size := by
  refine Nat.lt_of_not_le fun hle => ?_
  simp [World.cell?, Array.getElem?_eq_none hle] at h

theorem OpsAt.fresh {w w' : World} {B : Nat} {v : Value} {L : List OpE} (h : OpsAt w B v L) (hf : Fr None' w w') (hB : B ≤ w.heap.size) : OpsAt w' B v L := by
  rcases h with h | ⟨ad, c, hv, hc⟩
  · exact Or.inl h
  · refine Or.inr ⟨ad, c, hv, fun i o hi => ?_⟩
    obtain ⟨h0, h1, vb, vk, h2, h3, c0, c1, c2, c3, c4⟩ := hc i o hi
    have hk : ∀ off, w'.cell? ⟨ad.block, off, none⟩ = w.cell? ⟨ad.block, off, none⟩ := fun off =>
      World.cell?_of_block (w := w) (a := ⟨ad.block, off, none⟩) (hf.block ad.block (by omega) (fun e => e))
    exact ⟨h0, h1, vb, vk, h2.fresh hf, h3, (hk _).trans c0, (hk _).trans c1, (hk _).trans c2, (hk _).trans c3, (hk _).trans c4⟩

theorem OpsAt.shape {w : World} {B : Nat} {v : Value} {L : List OpE} (h : OpsAt w B v L) : ∃ va vc, v = .slice va L.length vc ∧ ∀ i o, L[i]? = some o → ∃ g off vb vk, va = some ⟨g, off, none⟩ ∧ g < B ∧ OpVal w B o vb vk ∧ o.keep.length ≤ reachBytes ∧
    w.cell? ⟨g, off + i * 5, none⟩ = some (.int .i64 o.what) ∧ w.cell? ⟨g, off + i * 5 + 1, none⟩ = some vb ∧ w.cell? ⟨g, off + i * 5 + 2, none⟩ = some (.string o.name) ∧
    w.cell? ⟨g, off + i * 5 + 3, none⟩ = some (.int .i64 o.n) ∧ w.cell? ⟨g, off + i * 5 + 4, none⟩ = some vk := by
  rcases h with ⟨rfl, rfl⟩ | ⟨ad, c, rfl, hc⟩
  · exact ⟨none, 0, rfl, fun i o hi => by simp at hi⟩
  · refine ⟨_, c, rfl, fun i o hi => ?_⟩
    obtain ⟨h0, h1, vb, vk, r⟩ := hc i o hi
    exact ⟨ad.block, ad.off, vb, vk, by rw [← h0], h1, r⟩

theorem bools_slice {w : World} {v : Value} {l : List Bool} (h : Bools w v l) : ∃ a c, v = .slice a l.length c := by
  rcases h with ⟨rfl, rfl⟩ | ⟨ad, c, rfl, _⟩
  · exact ⟨none, 0, rfl⟩
  · exact ⟨_, _, rfl⟩

theorem min_nat (n c : Nat) : ∃ m : Nat, (if (c : Int) < (n : Int) then (c : Int) else (n : Int)) = (m : Int) ∧ m = min n c := by
  refine ⟨min n c, ?_, rfl⟩
  split <;> omega

/-- Of the first k calls: what they have is at most N. -/
def Under (L : List OpE) (k N : Nat) : Prop := ∀ j o, j < k → L[j]? = some o → min o.b.length 5000 ≤ N ∧ min o.name.size 5000 ≤ N ∧ o.keep.length ≤ N

theorem sum4 (N a t k : Nat) (h1 : N < 1000000) (h2 : a < 1000000) (h3 : t < 1000000) (h5 : k < 140737488355328) :
    IntKind.i64.wrap (IntKind.i64.wrap (IntKind.i64.wrap ((N : Int) + a) + t) + k) = ((N + a + t + k : Nat) : Int) := by
  have e1 : IntKind.i64.wrap ((N : Int) + a) = N + a := wrap_small (by omega) (by omega)
  have e2 : IntKind.i64.wrap ((N : Int) + a + t) = N + a + t := wrap_small (by omega) (by omega)
  have e4 : IntKind.i64.wrap ((N : Int) + a + t + k) = N + a + t + k := wrap_small (by omega) (by omega)
  rw [e1, e2, e4]
  omega

theorem under_step {L : List OpE} {k N N' : Nat} {o : OpE} (h : Under L k N) (ho : L[k]? = some o) (hN : N ≤ N') (hb : min o.b.length 5000 ≤ N') (ht : min o.name.size 5000 ≤ N') (hk : o.keep.length ≤ N') : Under L (k + 1) N' := by
  intro j o' hj ho'
  by_cases e : j = k
  · subst e
    rw [ho] at ho'; cases ho'
    exact ⟨hb, ht, hk⟩
  · have := h j o' (by omega) ho'
    omega

theorem under_end {L : List OpE} {N : Nat} (h : Under L L.length N) (hN : N < 5000) : ∀ o ∈ L, o.b.length < 5000 ∧ o.name.size < 5000 ∧ o.keep.length < 5000 := by
  intro o ho
  obtain ⟨j, hj⟩ := List.getElem?_of_mem ho
  have := h j o (List.getElem?_eq_some_iff.1 hj).1 hj
  omega

def GreatTold (L : List OpE) (w : World) (e : Ending) (w' : World) : Prop :=
  ∃ g, e = .returned (.bool g) ∧ Fr None' w w' ∧ (g = false → L.length < 5000 ∧ ∀ o ∈ L, o.b.length < 5000 ∧ o.name.size < 5000 ∧ o.keep.length < 5000)

theorem great_round {L : List OpE} {w wr : World} {k N mB mT : Nat} {o : OpE} (HN : L.length ≤ N ∧ Under L k N ∧ (mB = min o.b.length 5000 ∧ mT = min o.name.size 5000) ∧ Fr None' w wr ∧ L[k]? = some o) (hlt : k < L.length) (hs : (N : Int) < 5000) (hB : (mB : Int) ≤ 5000) (hT : (mT : Int) ≤ 5000) (hK : (o.keep.length : Int) < 140737488355328) :
    (∃ k1 N1 : Nat, k1 ≤ L.length ∧ Value.int .i64 (wrap64 ((k : Int) + 1)) = .int .i64 k1 ∧ Value.int .i64 (IntKind.i64.wrap (IntKind.i64.wrap (IntKind.i64.wrap ((N : Int) + mB) + mT) + o.keep.length)) = .int .i64 N1 ∧
      L.length ≤ N1 ∧ N1 < 422212465065984 ∧ Under L k1 N1 ∧ Fr None' w wr.drew) ∧ L.length - (intOf (.int .i64 (wrap64 ((k : Int) + 1)))).toNat < L.length - (intOf (.int .i64 (k : Int))).toNat := by
  obtain ⟨q1, q2, q3, q4, q5⟩ := HN
  have e1 : wrap64 ((k : Int) + 1) = ((k + 1 : Nat) : Int) := by
    rw [← IntWalk.i64_left]
    exact (wrap_small (by omega) (by omega)).trans (by omega)
  have e2 := sum4 N mB mT o.keep.length (by omega) (by omega) (by omega) (by omega)
  rw [e1, e2]
  refine ⟨⟨k + 1, N + mB + mT + o.keep.length, by omega, rfl, rfl, by omega, by omega, under_step q2 q5 (by omega) (by omega) (by omega) (by omega), q4.then (Fr.drew _ _)⟩, ?_⟩
  show L.length - (((k + 1 : Nat) : Int)).toNat < L.length - ((k : Int)).toNat
  omega

set_option maxHeartbeats 4000000 in
theorem great_any (B : Nat) (v : Value) (L : List OpE) (w : World) (h : OpsAt w B v L) (hL : L.length ≤ reachBytes) :
    Calls Tryz.prog 5 #[v] w fun e w' => GreatTold L w e w' := by
  obtain ⟨va, vc, rfl, hat⟩ := h.shape
  have hreach : reachBytes < 140737488355328 := by decide
  go_enter Tryz.func5, Tryz.ntmps5
  go_wp2
  go_loopw [3, 4] (fun n i wr => ∃ k N : Nat, k ≤ L.length ∧ i = .int .i64 k ∧ n = .int .i64 N ∧ L.length ≤ N ∧ N < 422212465065984 ∧ Under L k N ∧ Fr None' w wr) (fun _ i _ => L.length - (intOf i).toNat)
  case atStart => exact ⟨0, L.length, Nat.zero_le _, rfl, rfl, Nat.le_refl _, by omega, fun j o hj => by omega, Fr.refl _ _⟩
  case round =>
    obtain ⟨k, N, hk, rfl, rfl, hLN, hN, hun, hfr⟩ := hrel
    by_cases hlt : k < L.length
    · by_cases hs : N < 5000
      · obtain ⟨o, ho⟩ : ∃ o, L[k]? = some o := ⟨L[k], by simp [hlt]⟩
        obtain ⟨g, off, vb, vk, rfl, hgB, hov, hkl, c0, c1, c2, c3, c4⟩ := hat k o ho
        obtain ⟨sb, cb, rfl⟩ := bytes_slice hov.1.bytes
        obtain ⟨sk, ck, rfl⟩ := bools_slice hov.2.1
        have i0 : (0 : Int) ≤ (k : Int) := by omega
        have i1 : (k : Int) < (L.length : Int) := by omega
        have hc : ∀ w', Fr None' w w' → w'.cell? ⟨g, off + k * 5 + 1, none⟩ = some (.slice sb o.b.length cb) ∧ w'.cell? ⟨g, off + k * 5 + 2, none⟩ = some (.string o.name) ∧ w'.cell? ⟨g, off + k * 5 + 4, none⟩ = some (.slice sk o.keep.length ck) := fun w' hf =>
          ⟨(World.cell?_of_block (w := w) (a := ⟨g, off + k * 5 + 1, none⟩) (hf.block g (lt_of_cell5 c1) (fun e => e))).trans c1, (World.cell?_of_block (w := w) (a := ⟨g, off + k * 5 + 2, none⟩) (hf.block g (lt_of_cell5 c1) (fun e => e))).trans c2, (World.cell?_of_block (w := w) (a := ⟨g, off + k * 5 + 4, none⟩) (hf.block g (lt_of_cell5 c1) (fun e => e))).trans c4⟩
        obtain ⟨d1, d2, d4⟩ := hc wr hfr
        obtain ⟨mB, eB, hB⟩ := min_nat o.b.length 5000
        obtain ⟨mT, eT, hT⟩ := min_nat o.name.size 5000
        have HN : Hid (L.length ≤ N ∧ Under L k N ∧ (mB = min o.b.length 5000 ∧ mT = min o.name.size 5000) ∧ Fr None' w wr ∧ L[k]? = some o) := ⟨hLN, hun, ⟨hB, hT⟩, hfr, ho⟩
        have hs' : (N : Int) < 5000 := by omega
        have hT' : (mT : Int) ≤ 5000 := by omega
        have hB' : (mB : Int) ≤ 5000 := by omega
        have hK' : (o.keep.length : Int) < 140737488355328 := by omega
        have eT' : min (o.name.size : Int) 5000 = mT := by omega
        have eB' : min (o.b.length : Int) 5000 = mB := by omega
        clear hat c0 c1 c2 c3 c4 hov hc hL hN hkl hreach hun hLN ho hfr h hs hT hB eT eB
        go_wp2_with fail
        go_region_held3 (fun w' => w'.cell? ⟨g, off + k * 5 + 1, none⟩ = some (.slice sb o.b.length cb) ∧ w'.cell? ⟨g, off + k * 5 + 2, none⟩ = some (.string o.name) ∧ w'.cell? ⟨g, off + k * 5 + 4, none⟩ = some (.slice sk o.keep.length ck))
          (go_keep) (fail)
        all_goals go_wp2
        all_goals try rw [eB', eT']
        all_goals exact great_round HN.out hlt hs' hB' hT' hK'
      · have hs' : ¬ (N : Int) < 5000 := by omega
        have hN' : (5000 : Int) ≤ N := by omega
        clear hat h hun hs hN hL hreach hLN
        go_wp2
        go_ret
        exact ⟨true, rfl, hfr, fun e => by cases e⟩
    · have hkL : k = L.length := by omega
      subst hkL
      have HU : Hid (Under L L.length N ∧ L.length ≤ N) := ⟨hun, hLN⟩
      clear hat h hun hN hL hreach hLN hlt hk
      by_cases hs : N < 5000
      · have hs' : (N : Int) < 5000 := by omega
        clear hs
        go_wp2
        go_ret
        exact ⟨false, by first | rfl | exact ret_bool (by simp; omega), hfr, fun _ => ⟨by have := HU.out.2; omega, under_end HU.out.1 (by omega)⟩⟩
      · have hs' : ¬ (N : Int) < 5000 := by omega
        have hN' : (5000 : Int) ≤ N := by omega
        clear hs
        go_wp2
        go_ret
        exact ⟨true, rfl, hfr, fun e => by cases e⟩

end Go.Proofs.YtnmghgbpgpaomaaGreat

namespace Go.Proofs.YtnmghgbpgpaomaaGreat
open Go.ChangeShapes Go.WideShapes Go.ChangeAt Go.RowKit Go.Maps Go.Deep
set_option maxRecDepth 100000

theorem trod_file {H : Type} {enc : TypeId × Value → H} {W : World} {fuel : Nat} {sp : Nat → Bool} {held : Bool} {cs : List Value} {x : DataW H × List MemPlace} (h : DataW.trod enc Tryz.prog W 0 sp held fuel 61 cs = some x) :
    ∃ f vb, cs = [.string f.name, vb] ∧ FileVal W W.heap.size f vb := by
  obtain ⟨xs, n, _, rfl, hl, hlen, hf⟩ := DataW.trod_struct Tryz.underlying61 h
  have h2 : Tryz.prog.cellsOf 61 = 2 := by kernel_rfl
  have hcS : Tryz.prog.cellsOf 9 = 1 := by kernel_rfl
  have hcB : Tryz.prog.cellsOf 31 = 1 := by kernel_rfl
  rw [h2] at hl
  match cs, hl, xs, hlen with
  | [c0, c1], _, [x0, x1], _ =>
    have f0 := hf 0 _ rfl
    have f1 := hf 1 _ rfl
    simp [hcS, hcB] at f0 f1
    obtain ⟨sa, e0, _, w0⟩ := DataW.trod_string Tryz.underlying9 f0
    obtain ⟨vb, b, e1, B1, L1⟩ := trod_bytes f1
    simp only [List.cons.injEq, and_true] at e0 e1
    subst e0 e1
    exact ⟨⟨sa, b⟩, c1, rfl, B1.bytes, L1, w0⟩

theorem trod_files {H : Type} {enc : TypeId × Value → H} {W : World} {fuel : Nat} {sp : Nat → Bool} {held : Bool} {cs : List Value} {x : DataW H × List MemPlace} (h : DataW.trod enc Tryz.prog W 0 sp held fuel 22 cs = some x)
    (hr : ∀ n ∈ x.1.weights Tryz.prog 22, n ≤ reachBytes) : ∃ v L, cs = [v] ∧ FilesAt W W.heap.size v L ∧ L.length ≤ reachBytes := by
  rcases open_slice Tryz.underlying22 h with ⟨hcs, _⟩ | ⟨a, len, cap, m, n, D, Pl, hcs, _, hl, hm, hmm, rfl, hx⟩
  · exact ⟨_, [], hcs, Or.inl ⟨rfl, rfl⟩, Nat.zero_le _⟩
  · have hlm : len ≤ m := by rw [hmm]; split <;> omega
    have h2 : Tryz.prog.cellsOf 61 = 2 := by kernel_rfl
    rw [h2] at hx
    have hall : ∀ i, i < len → ∃ t : FileD × Value, ∃ cs', W.cells? 0 (a.add (i * 2)) 2 = some cs' ∧ cs' = [.string t.1.name, t.2] ∧ FileVal W W.heap.size t.1 t.2 := fun i hi => by
      obtain ⟨cs', h1, h2⟩ := hx i (by omega)
      obtain ⟨f, vb, e, ho⟩ := trod_file h2
      exact ⟨(f, vb), cs', h1, e, ho⟩
    have hin : Inhabited (FileD × Value) := ⟨(⟨ByteArray.empty, []⟩, .nilFunc)⟩
    obtain ⟨T, hT⟩ := choose_lt hall
    have hwt : len ≤ reachBytes := by
      have h1 := hr ((((List.range len).map D).length + ((List.range (m - len)).map fun j => D (len + j)).length) * Tryz.prog.bytesOf 61) (by
        simp [DataW.weights, Tryz.underlying22])
      have e : Tryz.prog.bytesOf 61 = 40 := by kernel_rfl
      rw [e] at h1
      simp at h1; omega
    refine ⟨_, (List.range len).map (fun i => (T i).1), hcs, Or.inr ⟨a, cap, by simp, fun i f hi => ?_⟩, by simpa using hwt⟩
    have hil : i < len := by
      have := (List.getElem?_eq_some_iff.1 hi).1
      simpa using this
    have e : (T i).1 = f := by simpa [hil] using hi
    obtain ⟨cs', h1, h2, h3⟩ := hT i hil
    subst h2
    have c0 := cells_at h1 0 _ rfl
    have c1 := cells_at h1 1 _ rfl
    have hsp : a.spot = none := by
      obtain ⟨cs0, g1, g2, _⟩ := hT 0 (by omega)
      subst g2
      have := spot_of (cells_at g1 0 _ rfl)
      simpa [Addr.add] using this
    have hbl : a.block < W.heap.size := by
      have := block_lt c0
      rwa [add_block] at this
    have ead : a.add (i * 2) = ⟨a.block, a.off + i * 2, none⟩ := by
      unfold Addr.add
      split
      · rename_i h0; rw [h0, ← hsp]; rfl
      · rfl
    rw [ead] at c0 c1
    rw [← e]
    exact ⟨hsp, hbl, _, h3, (by simpa [Addr.add] using c0), add_at rfl c1⟩

def AnyBool (w : World) (e : Ending) (w' : World) : Prop := ∃ g, e = .returned (.bool g) ∧ Fr None' w w'

theorem sum3 (N a b : Nat) (h1 : N < 1000000000) (h2 : a < 1000000000) (h3 : b < 1000000000) : IntKind.i64.wrap (IntKind.i64.wrap ((N : Int) + a) + b) = ((N + a + b : Nat) : Int) := by
  have e1 : IntKind.i64.wrap ((N : Int) + a) = N + a := wrap_small (by omega) (by omega)
  have e2 : IntKind.i64.wrap ((N : Int) + a + b) = N + a + b := wrap_small (by omega) (by omega)
  rw [e1, e2]
  omega

theorem greatFiles_round {L : List FileD} {w wr : World} {k N mA mB : Nat} (hfr : Fr None' w wr) (hlt : k < L.length) (hs : (N : Int) < 200000) (hA : (mA : Int) ≤ 200000) (hB : (mB : Int) ≤ 200000) :
    (∃ k1 N1 : Nat, k1 ≤ L.length ∧ Value.int .i64 ((k : Int) + 1) = .int .i64 k1 ∧ Value.int .i64 (IntKind.i64.wrap (IntKind.i64.wrap ((N : Int) + mA) + mB)) = .int .i64 N1 ∧ N1 < 1000000000 ∧ Fr None' w wr.drew) ∧
      L.length - (intOf (.int .i64 ((k : Int) + 1))).toNat < L.length - (intOf (.int .i64 (k : Int))).toNat := by
  have e1 : (k : Int) + 1 = ((k + 1 : Nat) : Int) := by omega
  have e2 := sum3 N mA mB (by omega) (by omega) (by omega)
  rw [e1, e2]
  refine ⟨⟨k + 1, N + mA + mB, by omega, rfl, rfl, by omega, hfr.then (Fr.drew _ _)⟩, ?_⟩
  show L.length - (((k + 1 : Nat) : Int)).toNat < L.length - ((k : Int)).toNat
  omega

set_option maxHeartbeats 4000000 in
theorem greatFiles_any (B : Nat) (v : Value) (L : List FileD) (w : World) (h : FilesAt w B v L) (hL : L.length ≤ reachBytes) :
    Calls Tryz.prog 6 #[v] w fun e w' => AnyBool w e w' := by
  obtain ⟨va, vc, rfl, hat⟩ := h.shape
  have hreach : reachBytes < 140737488355328 := by decide
  have hL' : (L.length : Int) ≤ 140737488355328 := by omega
  clear hreach hL
  go_enter Tryz.func6, Tryz.ntmps6
  go_wp2
  go_loopw [3, 4] (fun n i wr => ∃ k N : Nat, k ≤ L.length ∧ i = .int .i64 k ∧ n = .int .i64 N ∧ N < 1000000000 ∧ Fr None' w wr) (fun _ i _ => L.length - (intOf i).toNat)
  case atStart => exact ⟨0, 0, Nat.zero_le _, rfl, rfl, by omega, Fr.refl _ _⟩
  case round =>
    obtain ⟨k, N, hk, rfl, rfl, hN, hfr⟩ := hrel
    by_cases hlt : k < L.length
    · by_cases hs : N < 200000
      · obtain ⟨o, ho⟩ : ∃ o, L[k]? = some o := ⟨L[k], by simp [hlt]⟩
        obtain ⟨g, off, vb, rfl, hgB, hov, c0, c1⟩ := hat k o ho
        obtain ⟨sb, cb, rfl⟩ := bytes_slice hov.1
        have i0 : (0 : Int) ≤ (k : Int) := by omega
        have i1 : (k : Int) < (L.length : Int) := by omega
        have hlt' : g < w.heap.size := by
          unfold World.cell? at c1
          split at c1
          · rename_i hk; exact lt_of_some hk
          · cases c1
        have hce : ∀ off, wr.cell? ⟨g, off, none⟩ = w.cell? ⟨g, off, none⟩ := fun off => World.cell?_of_block (w := w) (a := ⟨g, off, none⟩) (hfr.block g hlt' (fun e => e))
        have d0 := (hce _).trans c0
        have d1 := (hce _).trans c1
        obtain ⟨mA, eA, hA⟩ := min_nat o.name.size 200000
        obtain ⟨mB, eB, hB⟩ := min_nat o.b.length 200000
        have HF : Hid (Fr None' w wr) := hfr
        have hs' : (N : Int) < 200000 := by omega
        have hA' : (mA : Int) ≤ 200000 := by omega
        have hB' : (mB : Int) ≤ 200000 := by omega
        have eA' : min (o.name.size : Int) 200000 = mA := by omega
        have eB' : min (o.b.length : Int) 200000 = mB := by omega
        clear hat c0 c1 hov hce hN ho hfr h hs hA hB eA eB hlt'
        go_wp2_with fail
        go_region_held3 (fun w' => w'.cell? ⟨g, off + k * 2, none⟩ = some (.string o.name) ∧ w'.cell? ⟨g, off + k * 2 + 1, none⟩ = some (.slice sb o.b.length cb))
          (go_keep) (fail)
        all_goals go_wp2
        all_goals try rw [eA', eB']
        all_goals exact greatFiles_round HF.out hlt hs' hA' hB'
      · have hs' : ¬ (N : Int) < 200000 := by omega
        have hN' : (200000 : Int) ≤ N := by omega
        clear hat h hs hN
        go_wp2
        go_ret
        exact ⟨true, rfl, hfr⟩
    · have hkL : k = L.length := by omega
      subst hkL
      clear hat h hN hlt hk
      by_cases hs : (200000 : Int) ≤ N
      · go_wp2
        go_ret
        exact ⟨_, rfl, hfr⟩
      · go_wp2
        all_goals go_ret
        all_goals exact ⟨_, rfl, hfr⟩

end Go.Proofs.YtnmghgbpgpaomaaGreat

namespace Go.Proofs.YtnmghgbpgpaomaaGreat
open Go.RowKit Go.Maps Go.WideMaps
set_option maxRecDepth 100000

/-- What is no disk's stays. -/
def Keeps (wi w' : World) : Prop := ∀ (b : Nat) (c : Array Value) (e : TypeId) (fz : Nat × Nat), wi.heap[b]? = some (.cells c e fz) → e ≠ 67 → e ≠ 87 → e ≠ 55 → e ≠ 90 → w'.heap[b]? = some (.cells c e fz)

section
variable {w wi : World} {p q : Nat} {S : St} {R : RSt}

/-- A call of the program's. -/
theorem Two.prog (h : Two w wi p q S R) {f : Nat} {args : Array Value} {α : Type} {P : Ending → α → Prop} {T : α → St} (hc : ∀ M, Disk wi p M S → (∀ j, M j → w.heap.size ≤ j) → Calls Tryz.prog f args wi fun e w' => ∃ x, P e x ∧ Stepped M wi p (T x) w') :
    Calls Tryz.prog f args wi fun e w' => ∃ x, P e x ∧ Two w w' p q (T x) R ∧ Keeps wi w' := by
  obtain ⟨M, N, h1, h2, h3, h4, h5⟩ := h
  refine (hc M h1 h4).mono ?_
  rintro e w' ⟨x, e1, M', a1, a2, a3⟩
  refine ⟨x, e1, ⟨M', N, a1, h2.keptD a2 h1.still, h3.trans a2 (fun i e => Or.inr (h4 i e)), fun j hj => ?_, h5⟩, fun b c e fz hb n1 n2 _ _ => a2.cellsAt h1.still hb n1 n2⟩
  rcases a3 j hj with e | e
  · exact h4 j e
  · exact Nat.le_trans h3.size e

/-- A call of the document's. -/
theorem Two.doc (h : Two w wi p q S R) {f : Nat} {args : Array Value} {α : Type} {P : Ending → α → Prop} {T : α → RSt} (hc : ∀ N, RDisk wi q N R → (∀ j, N j → w.heap.size ≤ j) → Calls Tryz.prog f args wi fun e w' => ∃ x, P e x ∧ RStepped N wi q (T x) w') :
    Calls Tryz.prog f args wi fun e w' => ∃ x, P e x ∧ Two w w' p q S (T x) ∧ Keeps wi w' := by
  obtain ⟨M, N, h1, h2, h3, h4, h5⟩ := h
  refine (hc N h2 h5).mono ?_
  rintro e w' ⟨x, e1, N', a1, a2, a3⟩
  refine ⟨x, e1, ⟨M, N', h1.keptR a2 h2.held, a1, h3.trans a2 (fun i e => Or.inr (h5 i e)), h4, fun j hj => ?_⟩, fun b c e fz hb _ _ n3 n4 => a2.other h2.held.still hb n3 n4⟩
  rcases a3 j hj with e | e
  · exact h5 j e
  · exact Nat.le_trans h3.size e

theorem Bytes.nilcap {w : World} {v : Value} {b : List UInt8} (h : Bytes w v b) : ∀ n c, v = .slice none n c → c = 0 := fun n c e => by
  rcases h with ⟨hv, _⟩ | ⟨ad, c', hv, _⟩
  · rw [hv] at e; cases e; rfl
  · rw [hv] at e; cases e

theorem two_put (h : Two w wi p q S R) (hS : S.fine) (hu : used S.F < 35184372088832) (v : Value) (b : List UInt8) (hv : Arg wi v b) (hl : LowN w.heap.size v) (hb : b.length ≤ 90000) :
    Calls Tryz.prog 10 #[.pointer (some ⟨p, 0, none⟩), v] wi fun e w' => ∃ v', e = .returned (.tuple #[.string ⟨(S.put b v').1.toArray⟩, .int .i64 (S.put b v').2.1]) ∧ Two w w' p q (S.put b v').2.2 R ∧ Keeps wi w' :=
  h.prog (T := fun v' => (S.put b v').2.2) fun _ hd hM => put_st hd hS v b hv (hl.out hM) hu (by omega)

theorem two_rput (h : Two w wi p q S R) (hR : R.ready) (v : Value) (b : List UInt8) (hv : Arg wi v b) (hl : LowN w.heap.size v) (hb : b.length ≤ 90000) :
    Calls Tryz.prog 11 #[.pointer (some ⟨q, 0, none⟩), v] wi fun e w' => ∃ v', e = .returned (.tuple #[.string ⟨(R.put b v').1.toArray⟩, .int .i64 (R.put b v').2.1]) ∧ Two w w' p q S (R.put b v').2.2 ∧ Keeps wi w' :=
  h.doc (T := fun v' => (R.put b v').2.2) fun _ hd hM => rput_st hd hR.fine v b hv hv.bytes.nilcap (hl.out hM) hR.used hb hR.r0 hR.r1

theorem two_get (h : Two w wi p q S R) (l : List UInt8) (hl : l.length ≤ maxLen) (hf : Fit S R) :
    Calls Tryz.prog 12 #[.pointer (some ⟨p, 0, none⟩), .string ⟨l.toArray⟩] wi fun e w' => ∃ v, e = .returned (.tuple #[v, .int .i64 (S.getB l).2]) ∧ Data w' v (S.getB l).1 ∧ Fr None' wi w' :=
  (get_any h.live l hl hf.sused hf.slen).mono fun _ _ ⟨v, a1, a2, _, a3⟩ => ⟨v, a1, a2, a3⟩

theorem two_rget (h : Two w wi p q S R) (l : List UInt8) (hl : l.length ≤ maxLen) (hf : Fit S R) :
    Calls Tryz.prog 13 #[.pointer (some ⟨q, 0, none⟩), .string ⟨l.toArray⟩] wi fun e w' => ∃ v, e = .returned (.tuple #[v, .int .i64 (R.getB l).2]) ∧ Data w' v (R.getB l).1 ∧ Fr None' wi w' := by
  obtain ⟨M, N, h1, h2, _⟩ := h
  exact rget_st h2 l hl (by have := hf.ready.fine.len; omega) hf.ready.used hf.rlen

theorem two_root (h : Two w wi p q S R) (hf : Fit S R) :
    Calls Tryz.prog 16 #[.pointer (some ⟨p, 0, none⟩)] wi fun e w' => e = .returned (.tuple #[.string ⟨S.rootB.1.toArray⟩, .int .i64 S.rootB.2]) ∧ Fr None' wi w' :=
  (root_any h.live hf.sused hf.slen).mono fun _ _ ⟨a1, _, a3⟩ => ⟨a1, a3⟩

theorem two_rroot (h : Two w wi p q S R) (hf : Fit S R) :
    Calls Tryz.prog 17 #[.pointer (some ⟨q, 0, none⟩)] wi fun e w' => e = .returned (.tuple #[.string ⟨R.rootB.1.toArray⟩, .int .i64 R.rootB.2]) ∧ Fr None' wi w' := by
  obtain ⟨M, N, h1, h2, _⟩ := h
  exact rroot_st h2 (by have := hf.ready.fine.len; omega) hf.ready.used hf.rlen

/-- SetRoot, also of what is no name. -/
def SetTo (S : St) (l : List UInt8) (r : Int) (T : St) : Prop := (Sha.namedB l = false ∧ r = 1 ∧ T = S) ∨ (Sha.namedB l = true ∧ ∃ v, Ended S l v r T)
def RSetTo (S : RSt) (l : List UInt8) (r : Int) (T : RSt) : Prop := (Sha.namedB l = false ∧ r = 1 ∧ T = S) ∨ (Sha.namedB l = true ∧ ∃ v, REnded S l v r T)

theorem two_set (h : Two w wi p q S R) {k : Nat} (hi : Inv k S) (hk : k + 5 ≤ 60000000) (l : List UInt8) (hl : l.length ≤ maxLen) :
    Calls Tryz.prog 14 #[.pointer (some ⟨p, 0, none⟩), .string ⟨l.toArray⟩] wi fun e w' => ∃ x : Int × St, (e = .returned (.int .i64 x.1) ∧ SetTo S l x.1 x.2) ∧ Two w w' p q x.2 R ∧ Keeps wi w' := by
  refine h.prog (T := fun x : Int × St => x.2) fun M hd hM => ?_
  cases hn : Sha.namedB l
  · refine (setNo_st l hl hn).mono ?_
    rintro e w' ⟨rfl, f⟩
    exact ⟨(1, S), ⟨rfl, Or.inl ⟨hn, rfl, rfl⟩⟩, Stepped.same hd f⟩
  · refine (setYes_st hd hi hk l hn).mono ?_
    rintro e w' ⟨v, r, T, rfl, hE, hs⟩
    exact ⟨(r, T), ⟨rfl, Or.inr ⟨hn, v, hE⟩⟩, hs⟩

theorem two_rset {S' : St} (h : Two w wi p q S' R) (hr : Rel S R) {k m : Nat} (hi : Inv k S) (hk : k + 5 ≤ 60000000) (hf : Few m S) (hm : m + 1 ≤ 6000) (l : List UInt8) (hl : l.length ≤ maxLen) :
    Calls Tryz.prog 15 #[.pointer (some ⟨q, 0, none⟩), .string ⟨l.toArray⟩] wi fun e w' => ∃ x : Int × RSt, (e = .returned (.int .i64 x.1) ∧ RSetTo R l x.1 x.2) ∧ Two w w' p q S' x.2 ∧ Keeps wi w' := by
  refine h.doc (T := fun x : Int × RSt => x.2) fun N hd hN => ?_
  cases hn : Sha.namedB l
  · refine (rsetNo_st l hl hn).mono ?_
    rintro e w' ⟨rfl, f⟩
    exact ⟨(1, R), ⟨rfl, Or.inl ⟨hn, rfl, rfl⟩⟩, RStepped.same hd f⟩
  · have hrd : ∀ v j, j ≤ 5 → (R.after l v j).ready := fun v j hj =>
      ((hr.after l v v j).fit (hi.after l v j) (by omega) ((hf.after l v j).more (m' := m + 1) (by split <;> omega)) hm).ready
    refine (rsetYes_st hd l hn hrd).mono ?_
    rintro e w' ⟨v, r, T, rfl, hE, hs⟩
    exact ⟨(r, T), ⟨rfl, Or.inr ⟨hn, v, hE⟩⟩, hs⟩

theorem Rel.setTo (h : Rel S R) {l : List UInt8} {r r' : Int} {T : St} {T' : RSt} (h1 : SetTo S l r T) (h2 : RSetTo R l r' T') : r = r' ∧ Rel T T' := by
  rcases h1 with ⟨a1, rfl, rfl⟩ | ⟨a1, v, a2⟩
  · rcases h2 with ⟨b1, rfl, rfl⟩ | ⟨b1, _⟩
    · exact ⟨rfl, h⟩
    · rw [a1] at b1; cases b1
  · rcases h2 with ⟨b1, _⟩ | ⟨b1, v', b2⟩
    · rw [a1] at b1; cases b1
    · exact h.ended a2 b2

theorem SetTo.inv {k : Nat} {l : List UInt8} {r : Int} {T : St} (h : SetTo S l r T) (hi : Inv k S) : Inv (k + 5) T := by
  rcases h with ⟨_, _, rfl⟩ | ⟨_, v, h⟩
  · exact hi.more (by omega)
  · exact hi.ended h

theorem SetTo.few {m : Nat} {l : List UInt8} {r : Int} {T : St} (h : SetTo S l r T) (hf : Few m S) : Few (m + 1) T := by
  rcases h with ⟨_, _, rfl⟩ | ⟨_, v, h⟩
  · exact hf.more (by omega)
  · exact hf.ended h

theorem two_sweep (h : Two w wi p q S R) {k m : Nat} (hi : Inv k S) (hf : Few m S) (hk : k + 601 + m ≤ 60000000) (hu : used S.F < 35184372088832) (g c : Nat) (ns : List (List UInt8)) (hc : ∀ j x, ns[j]? = some x → wi.cell? ⟨g, j, none⟩ = some (.string ⟨x.toArray⟩)) (hg : g < wi.heap.size) (hn : ns.length ≤ 1000) (hm : ∀ x ∈ ns, x.length ≤ maxLen) :
    Calls Tryz.prog 18 #[.pointer (some ⟨p, 0, none⟩), .slice (some ⟨g, 0, none⟩) ns.length c] wi fun e w' => ∃ _ : Unit, e = .returned (.int .i64 (S.sweep ns).1) ∧ Two w w' p q (S.sweep ns).2 R ∧ Keeps wi w' :=
  h.prog (P := fun e _ => e = .returned (.int .i64 (S.sweep ns).1)) (T := fun _ : Unit => (S.sweep ns).2) fun M hd _ => (sweep_st p k g c M S ns wi hd hi (by have := hf.F; omega) hu hc hg hn hm).mono fun _ _ ⟨a1, a2⟩ => ⟨(), a1, a2⟩

theorem run_take (R : RSt) (ns : List (List UInt8)) (S : St) (h : Rel S R) {k m : Nat} (hi : Inv k S) (hf : Few m S) (hk : k + 601 + m ≤ 60000000) (hm : m ≤ 6000) (j : Nat) : (R.run ((goneOf ns ((R.L.take j).map fun t => t.k)).map some)).2.ready := by
  have h1 := Rel.run (os := (goneOf ns ((R.L.take j).map fun t => t.k)).map some) h
  have h2 := Inv.run (os := (goneOf ns ((R.L.take j).map fun t => t.k)).map some) hi
  have h3 := Few.run (os := (goneOf ns ((R.L.take j).map fun t => t.k)).map some) hf
  refine (h1.2.fit h2 ?_ h3 hm).ready
  have h4 : (goneOf ns ((R.L.take j).map fun t => t.k)).length ≤ ((R.L.take j).map fun t => t.k).length := List.length_filter_le _ _
  rw [List.length_map, List.length_take] at h4
  have h5 := h.F.length
  have h6 := hf.F
  rw [List.length_map]
  omega

theorem two_rsweep {S' : St} (h : Two w wi p q S' R) (hr : Rel S R) {k m : Nat} (hi : Inv k S) (hf : Few m S) (hk : k + 601 + m ≤ 60000000) (hm6 : m ≤ 6000) (g c : Nat) (ns : List (List UInt8)) (hc : ∀ j x, ns[j]? = some x → wi.cell? ⟨g, j, none⟩ = some (.string ⟨x.toArray⟩)) (hg : g < wi.heap.size) (hgt : ∃ cs, wi.heap[g]? = some (.cells cs 9)) (hn : ns.length ≤ 1000) (hm : ∀ x ∈ ns, x.length ≤ maxLen) :
    Calls Tryz.prog 19 #[.pointer (some ⟨q, 0, none⟩), .slice (some ⟨g, 0, none⟩) ns.length c] wi fun e w' => ∃ _ : Unit, e = .returned (.int .i64 (R.sweep ns).1) ∧ Two w w' p q S' (R.sweep ns).2 ∧ Keeps wi w' :=
  h.doc (P := fun e _ => e = .returned (.int .i64 (R.sweep ns).1)) (T := fun _ : Unit => (R.sweep ns).2) fun N hd _ => (rsweep_st q g c N R ns wi hd (run_take R ns S hr hi hf hk hm6) hc hg (fun e => by
    obtain ⟨cs, h1⟩ := hgt
    obtain ⟨c', e', f', h2, h3⟩ := hd.held g e
    rw [h1] at h2
    cases h2
    rcases h3 with h3 | h3 <;> exact absurd h3 (by decide)) hn hm).mono fun _ _ ⟨a1, a2⟩ => ⟨(), a1, a2⟩

theorem two_crash (h : Two w wi p q S R) (hS : S.fine) (v : Value) (keep : List Bool) (hv : Bools wi v keep) (hl : LowN w.heap.size v) :
    Calls Tryz.prog 20 #[.pointer (some ⟨p, 0, none⟩), v] wi fun e w' => ∃ _ : Unit, e = .returned (.tuple #[]) ∧ Two w w' p q (S.crash keep) R ∧ Keeps wi w' :=
  h.prog (P := fun e _ => e = .returned (.tuple #[])) (T := fun _ : Unit => S.crash keep) fun M hd hM => (crash_any p M S v keep wi hd hS hv (hl.out hM)).mono fun _ _ ⟨a1, a2⟩ => ⟨(), a1, a2⟩

theorem two_rcrash (h : Two w wi p q S R) (hR : R.fine) (hY : R.Y.length ≤ 400000000) (v : Value) (keep : List Bool) (hv : Bools wi v keep) :
    Calls Tryz.prog 21 #[.pointer (some ⟨q, 0, none⟩), v] wi fun e w' => ∃ _ : Unit, e = .returned (.tuple #[]) ∧ Two w w' p q S (R.crash keep) ∧ Keeps wi w' :=
  h.doc (P := fun e _ => e = .returned (.tuple #[])) (T := fun _ : Unit => R.crash keep) fun N hd _ => (rcrash_any q N R v keep wi hd hR hY hv).mono fun _ _ ⟨a1, a2⟩ => ⟨(), a1, a2⟩

theorem two_fuse (h : Two w wi p q S R) (n : Int) :
    Calls Tryz.prog 22 #[.pointer (some ⟨p, 0, none⟩), .int .i64 n] wi fun e w' => ∃ _ : Unit, e = .returned (.tuple #[]) ∧ Two w w' p q (S.fused n) R ∧ Keeps wi w' :=
  h.prog (P := fun e _ => e = .returned (.tuple #[])) (T := fun _ : Unit => S.fused n) fun M hd _ => (fuse_any p M S n wi hd).mono fun _ _ ⟨a1, a2⟩ => ⟨(), a1, a2⟩

theorem two_rfuse (h : Two w wi p q S R) (n : Int) :
    Calls Tryz.prog 23 #[.pointer (some ⟨q, 0, none⟩), .int .i64 n] wi fun e w' => ∃ _ : Unit, e = .returned (.tuple #[]) ∧ Two w w' p q S (R.fuse n) ∧ Keeps wi w' :=
  h.doc (P := fun e _ => e = .returned (.tuple #[])) (T := fun _ : Unit => R.fuse n) fun N hd _ => (rfuse_any q N R n wi hd).mono fun _ _ ⟨a1, a2⟩ => ⟨(), a1, a2⟩

theorem two_down (h : Two w wi p q S R) : Calls Tryz.prog 25 #[.pointer (some ⟨p, 0, none⟩)] wi fun e w' => e = .returned (.bool S.down) ∧ wi = w' := by
  obtain ⟨M, N, h1, _⟩ := h
  exact down_any p M S wi h1

theorem Few.of {room : Int} {T : List Tri} {n : Nat} (h : T.length ≤ 600) : Few 0 (St.of room T n) := ⟨by simpa [St.of] using h, by simpa [St.of, St.new, wrs] using h⟩
end

theorem inv_ofP {room : Int} {T : List Tri} {L : List FileD} (hl : L.length ≤ 512) (hg : Good L L.length) (hb : Built L L.length T) : Inv 0 (St.of room T L.length) := by
  have hs : Small T := fun t ht => by
    obtain ⟨i, f, h1, h2, _, h4⟩ := hb.only t ht
    rw [h4]; exact (hg i f h1 h2).2.1
  exact ⟨by simp [St.of, St.new], by simp [St.of, St.new], by simp [St.of, St.new], by simp [St.of, St.new]; omega, hs, hs, fun c hc => by simp [St.of, St.new] at hc⟩

theorem LowN.higherP {B B' : Nat} {v : Value} (h : LowN B v) (hB : B ≤ B') : LowN B' v := fun ad n c e h0 => by
  have := h ad n c e h0
  omega

theorem FilesAt.higherP {w : World} {B B' : Nat} {v : Value} {L : List FileD} (h : FilesAt w B v L) (hB : B ≤ B') : FilesAt w B' v L := by
  rcases h with h | ⟨ad, c, hv, hc⟩
  · exact Or.inl h
  · refine Or.inr ⟨ad, c, hv, fun i o hi => ?_⟩
    obtain ⟨h0, h1, vb, h2, r⟩ := hc i o hi
    exact ⟨h0, by omega, vb, ⟨h2.1, h2.2.1.higherP hB, h2.2.2⟩, r⟩
end Go.Proofs.YtnmghgbpgpaomaaGreat
