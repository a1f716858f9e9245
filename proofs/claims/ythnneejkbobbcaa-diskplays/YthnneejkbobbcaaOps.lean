/-
  What is proved here: what an argument that is a row of calls is in memory. No condition but that it can be read, and is no greater than the reach.
-/
import Derived.Test.YthnneejkbobbcaaDoes
import Derived.Deep.Slices
import Derived.SizedLaws
namespace Go.Proofs.Ythnneejkbobbcaa
open Go.ChangeShapes Go.WideShapes Go.ChangeAt Go.RowKit Go.Maps Go.Deep
set_option maxRecDepth 100000

def boolOf : Value → Bool
  | .bool b => b
  | _ => false

theorem spot_of {w : World} {a : Addr} {u : Value} (h : w.cell? a = some u) : a.spot = none := by
  unfold World.cell? at h
  split at h
  · split at h
    · cases h
    · rename_i hs; simpa using hs
  · cases h

theorem add_at {w : World} {a : Addr} {j : Nat} {u : Value} (h0 : a.spot = none) (h : w.cell? (a.add j) = some u) : w.cell? ⟨a.block, a.off + j, none⟩ = some u := by
  have e : a.add j = ⟨a.block, a.off + j, none⟩ := by
    unfold Addr.add
    split
    · rename_i hj; subst hj; rw [← h0]; rfl
    · rfl
  rw [← e]; exact h

theorem trod_bools {H : Type} {enc : TypeId × Value → H} {W : World} {fuel : Nat} {sp : Nat → Bool} {held : Bool} {cs : List Value} {x : DataW H × List MemPlace} (h : DataW.trod enc Try.prog W 0 sp held fuel 34 cs = some x)
    (hr : ∀ n ∈ x.1.weights Try.prog 34, n ≤ reachBytes) :
    ∃ v l, cs = [v] ∧ Bools W v l ∧ LowN W.heap.size v ∧ l.length ≤ reachBytes := by
  rcases open_slice1 Try.underlying34 (by kernel_rfl) h with ⟨hcs, _⟩ | ⟨a, len, cap, m, n, V, D, Pl, hcs, _, hl, hm, hmm, rfl, hx⟩
  · exact ⟨_, [], hcs, Or.inl ⟨rfl, rfl⟩, (fun _ _ _ e => by cases e), Nat.zero_le _⟩
  · have hlm : len ≤ m := by rw [hmm]; split <;> omega
    have hV : ∀ i, i < len → W.cell? (a.add i) = some (.bool (boolOf (V i))) := fun i hi => by
      obtain ⟨h1, h2⟩ := hx i (by omega)
      obtain ⟨b, hb, _⟩ := DataW.trod_bool Try.underlying4 h2
      simp only [List.cons.injEq, and_true] at hb
      rw [h1, hb]; rfl
    have hsp : 0 < len → a.spot = none := fun h0 => by
      have := spot_of (hV 0 h0)
      simpa [Addr.add] using this
    have hwt : len ≤ reachBytes := by
      have h1 := hr (((List.range len).map D).length + ((List.range (m - len)).map fun j => D (len + j)).length) (by
        have e : Try.prog.bytesOf 4 = 1 := by kernel_rfl
        simp [DataW.weights, Try.underlying34, e])
      simp at h1; omega
    refine ⟨_, (List.range len).map (fun i => boolOf (V i)), hcs, Or.inr ⟨a, cap, by simp, fun j u hj => ?_⟩, fun ad n' c' e h0 => ?_, by simpa using hwt⟩
    · have hjl : j < len := by
        have := (List.getElem?_eq_some_iff.1 hj).1
        simpa using this
      have e : boolOf (V j) = u := by simpa [hjl] using hj
      exact ⟨hsp (by omega), add_at (hsp (by omega)) (e ▸ hV j hjl)⟩
    · cases e
      exact block_lt (hV 0 (by omega))

theorem weightsEach_mem {H : Type} {P : Program} {ts : List TypeId} {ds : List (DataW H)} {j : Nat} {t : TypeId} {d : DataW H} (ht : ts[j]? = some t) (hd : ds[j]? = some d) : ∀ n ∈ d.weights P t, n ∈ DataW.weightsEach P ts ds :=
  DataW.weights_mem_each ht hd

theorem weightsAll_mem {H : Type} {P : Program} {e : TypeId} : ∀ {ds : List (DataW H)} {d : DataW H}, d ∈ ds → ∀ n ∈ d.weights P e, n ∈ DataW.weightsAll P e ds
  | [], _, h, _, _ => by simp at h
  | x :: r, d, h, n, hn => by
    simp only [DataW.weightsAll, List.mem_append]
    rcases List.mem_cons.1 h with rfl | h
    · exact Or.inl hn
    · exact Or.inr (weightsAll_mem h n hn)

/-- One call that came in. -/
theorem trod_op {H : Type} {enc : TypeId × Value → H} {W : World} {fuel : Nat} {sp : Nat → Bool} {held : Bool} {cs : List Value} {x : DataW H × List MemPlace} (h : DataW.trod enc Try.prog W 0 sp held fuel 36 cs = some x)
    (hr : ∀ n ∈ x.1.weights Try.prog 36, n ≤ reachBytes) :
    ∃ o vb vk, cs = [.int .i64 o.what, .string o.a, .string o.to, vb, .int .i64 o.n, vk] ∧ OpVal W W.heap.size o vb vk ∧ o.keep.length ≤ reachBytes := by
  obtain ⟨xs, n, _, rfl, hl, hlen, hf⟩ := DataW.trod_struct Try.underlying36 h
  have h6 : Try.prog.cellsOf 36 = 6 := by kernel_rfl
  have hcI : Try.prog.cellsOf 3 = 1 := by kernel_rfl
  have hcS : Try.prog.cellsOf 9 = 1 := by kernel_rfl
  have hcB : Try.prog.cellsOf 33 = 1 := by kernel_rfl
  have hcK : Try.prog.cellsOf 34 = 1 := by kernel_rfl
  rw [h6] at hl
  match cs, hl, xs, hlen with
  | [c0, c1, c2, c3, c4, c5], _, [x0, x1, x2, x3, x4, x5], _ =>
    have f0 := hf 0 _ rfl
    have f1 := hf 1 _ rfl
    have f2 := hf 2 _ rfl
    have f3 := hf 3 _ rfl
    have f4 := hf 4 _ rfl
    have f5 := hf 5 _ rfl
    simp [hcI, hcS, hcB, hcK] at f0 f1 f2 f3 f4 f5
    obtain ⟨what, e0, _, w0⟩ := DataW.trod_int Try.underlying3 f0
    obtain ⟨sa, e1, _, w1⟩ := DataW.trod_string Try.underlying9 f1
    obtain ⟨st, e2, _, w2⟩ := DataW.trod_string Try.underlying9 f2
    obtain ⟨vb, b, e3, B3, L3⟩ := trod_bytes f3
    obtain ⟨nn, e4, _, w4⟩ := DataW.trod_int Try.underlying3 f4
    obtain ⟨vk, l, e5, B5, L5, R5⟩ := trod_bools f5 (fun n hn => hr n (by
      simp only [DataW.weights, Try.underlying36]
      exact weightsEach_mem (j := 5) (t := 34) (d := x5.1) rfl rfl n hn))
    simp only [List.cons.injEq, and_true] at e0 e1 e2 e3 e4 e5
    subst e0 e1 e2 e3 e4 e5
    have b0 := bounds_i64 w0
    have b4 := bounds_i64 w4
    exact ⟨⟨what, sa, st, b, nn, l⟩, c3, c5, rfl, ⟨B3, B5, L3, L5, w1, w2, b4.1, b4.2, b0.1, b0.2⟩, R5⟩

/-- The slice v holds these calls, below block B. -/
def OpsAt (w : World) (B : Nat) (v : Value) (L : List OpD) : Prop :=
  (v = .slice none 0 0 ∧ L = []) ∨ ∃ ad c, v = .slice (some ad) L.length c ∧ ∀ i o, L[i]? = some o → ad.spot = none ∧ ad.block < B ∧ ∃ vb vk, OpVal w B o vb vk ∧ o.keep.length ≤ reachBytes ∧
    w.cell? ⟨ad.block, ad.off + i * 6, none⟩ = some (.int .i64 o.what) ∧ w.cell? ⟨ad.block, ad.off + i * 6 + 1, none⟩ = some (.string o.a) ∧ w.cell? ⟨ad.block, ad.off + i * 6 + 2, none⟩ = some (.string o.to) ∧
    w.cell? ⟨ad.block, ad.off + i * 6 + 3, none⟩ = some vb ∧ w.cell? ⟨ad.block, ad.off + i * 6 + 4, none⟩ = some (.int .i64 o.n) ∧ w.cell? ⟨ad.block, ad.off + i * 6 + 5, none⟩ = some vk

theorem mapM_at {α β : Type} (f : α → Option β) : ∀ (l : List α) (r : List β), l.mapM f = some r → ∀ (j : Nat) (u : β), r[j]? = some u → ∃ x, l[j]? = some x ∧ f x = some u
  | [], r, h, j, u, hu => by
    simp at h; subst h; simp at hu
  | a :: l, r, h, j, u, hu => by
    rw [List.mapM_cons] at h
    obtain ⟨y, hy, h⟩ := Option.bind_eq_some_iff.1 h
    obtain ⟨ys, hys, h⟩ := Option.bind_eq_some_iff.1 h
    obtain rfl : y :: ys = r := by simpa using h
    cases j with
    | zero => simp at hu; subst hu; exact ⟨a, rfl, hy⟩
    | succ j => simpa using mapM_at f l ys hys j u (by simpa using hu)

theorem cells_at {w : World} {a : Addr} {n : Nat} {cs : List Value} (h : w.cells? 0 a n = some cs) (j : Nat) (u : Value) (hj : cs[j]? = some u) : w.cell? (a.add j) = some u := by
  unfold World.cells? at h
  rw [if_pos (Nat.zero_le _)] at h
  obtain ⟨x, h1, h2⟩ := mapM_at _ _ _ h j u hj
  have : x = j := by
    obtain ⟨h3, h4⟩ := List.getElem?_eq_some_iff.1 h1
    simpa using h4.symm
  rw [← this]; exact h2

theorem trod_ops {H : Type} {enc : TypeId × Value → H} {W : World} {fuel : Nat} {sp : Nat → Bool} {held : Bool} {cs : List Value} {x : DataW H × List MemPlace} (h : DataW.trod enc Try.prog W 0 sp held fuel 23 cs = some x)
    (hr : ∀ n ∈ x.1.weights Try.prog 23, n ≤ reachBytes) : ∃ v L, cs = [v] ∧ OpsAt W W.heap.size v L ∧ L.length ≤ reachBytes := by
  rcases open_slice Try.underlying23 h with ⟨hcs, _⟩ | ⟨a, len, cap, m, n, D, Pl, hcs, _, hl, hm, hmm, rfl, hx⟩
  · exact ⟨_, [], hcs, Or.inl ⟨rfl, rfl⟩, Nat.zero_le _⟩
  · have hlm : len ≤ m := by rw [hmm]; split <;> omega
    have h6 : Try.prog.cellsOf 36 = 6 := by kernel_rfl
    rw [h6] at hx
    have hall : ∀ i, i < len → ∃ t : OpD × Value × Value, ∃ cs', W.cells? 0 (a.add (i * 6)) 6 = some cs' ∧ cs' = [.int .i64 t.1.what, .string t.1.a, .string t.1.to, t.2.1, .int .i64 t.1.n, t.2.2] ∧ OpVal W W.heap.size t.1 t.2.1 t.2.2 ∧ t.1.keep.length ≤ reachBytes := fun i hi => by
      obtain ⟨cs', h1, h2⟩ := hx i (by omega)
      obtain ⟨o, vb, vk, e, ho, hk⟩ := trod_op h2 (fun n hn => hr n (by
        simp only [DataW.weights, Try.underlying23]
        refine List.mem_cons_of_mem _ (List.mem_append_left _ (weightsAll_mem (d := D i) ?_ n hn))
        exact List.mem_map.2 ⟨i, List.mem_range.2 hi, rfl⟩))
      exact ⟨(o, vb, vk), cs', h1, e, ho, hk⟩
    have hin : Inhabited (OpD × Value × Value) := ⟨(⟨0, ByteArray.empty, ByteArray.empty, [], 0, []⟩, .nilFunc, .nilFunc)⟩
    obtain ⟨T, hT⟩ := choose_lt hall
    have hwt : len ≤ reachBytes := by
      have h1 := hr ((((List.range len).map D).length + ((List.range (m - len)).map fun j => D (len + j)).length) * Try.prog.bytesOf 36) (by
        simp [DataW.weights, Try.underlying23])
      have e : Try.prog.bytesOf 36 = 96 := by kernel_rfl
      rw [e] at h1
      simp at h1; omega
    refine ⟨_, (List.range len).map (fun i => (T i).1), hcs, Or.inr ⟨a, cap, by simp, fun i o hi => ?_⟩, by simpa using hwt⟩
    have hil : i < len := by
      have := (List.getElem?_eq_some_iff.1 hi).1
      simpa using this
    have e : (T i).1 = o := by simpa [hil] using hi
    obtain ⟨cs', h1, h2, h3, h4⟩ := hT i hil
    subst h2
    have hc := cells_at h1
    have c0 := hc 0 _ rfl
    have c1 := hc 1 _ rfl
    have c2 := hc 2 _ rfl
    have c3 := hc 3 _ rfl
    have c4 := hc 4 _ rfl
    have c5 := hc 5 _ rfl
    have hsp : a.spot = none := by
      obtain ⟨cs0, g1, g2, _⟩ := hT 0 (by omega)
      subst g2
      have := spot_of (cells_at g1 0 _ rfl)
      simpa [Addr.add] using this
    have hbl : a.block < W.heap.size := by
      have := block_lt c0
      rwa [add_block] at this
    have ead : a.add (i * 6) = ⟨a.block, a.off + i * 6, none⟩ := by
      unfold Addr.add
      split
      · rename_i h0; rw [h0, ← hsp]; rfl
      · rfl
    rw [ead] at c0 c1 c2 c3 c4 c5
    rw [← e]
    exact ⟨hsp, hbl, _, _, h3, h4, (by simpa [Addr.add] using c0), add_at rfl c1, add_at rfl c2, add_at rfl c3, add_at rfl c4, add_at rfl c5⟩

end Go.Proofs.Ythnneejkbobbcaa
