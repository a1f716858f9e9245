/-
  What is proved here: what an argument that is a row of files is in memory, and that GreatFiles answers. Condition: it can be read, and is no greater than the reach.
-/
import Derived.Test.YthnneejkbobbcaaInv
namespace Go.Proofs.Ythnneejkbobbcaa
open Go.ChangeShapes Go.WideShapes Go.ChangeAt Go.RowKit Go.Maps Go.Deep
set_option maxRecDepth 100000

/-- A file, as plain data. -/
structure FileD where
  name : ByteArray
  b : List UInt8

/-- The data of a file that came in, below block B. -/
def FileVal (w : World) (B : Nat) (f : FileD) (vb : Value) : Prop := Bytes w vb f.b ∧ LowN B vb ∧ f.name.size ≤ maxLen

theorem FileVal.kept {w w' : World} {B : Nat} {M : Nat → Prop} {f : FileD} {vb : Value} (h : FileVal w B f vb) (hf : Fr M w w') (hM : ∀ k, M k → B ≤ k) : FileVal w' B f vb :=
  ⟨h.1.kept hf (h.2.1.out hM), h.2⟩

theorem trod_file {H : Type} {enc : TypeId × Value → H} {W : World} {fuel : Nat} {sp : Nat → Bool} {held : Bool} {cs : List Value} {x : DataW H × List MemPlace} (h : DataW.trod enc Try.prog W 0 sp held fuel 53 cs = some x) :
    ∃ f vb, cs = [.string f.name, vb] ∧ FileVal W W.heap.size f vb := by
  obtain ⟨xs, n, _, rfl, hl, hlen, hf⟩ := DataW.trod_struct Try.underlying53 h
  have h2 : Try.prog.cellsOf 53 = 2 := by kernel_rfl
  have hcS : Try.prog.cellsOf 9 = 1 := by kernel_rfl
  have hcB : Try.prog.cellsOf 33 = 1 := by kernel_rfl
  rw [h2] at hl
  match cs, hl, xs, hlen with
  | [c0, c1], _, [x0, x1], _ =>
    have f0 := hf 0 _ rfl
    have f1 := hf 1 _ rfl
    simp [hcS, hcB] at f0 f1
    obtain ⟨sa, e0, _, w0⟩ := DataW.trod_string Try.underlying9 f0
    obtain ⟨vb, b, e1, B1, L1⟩ := trod_bytes f1
    simp only [List.cons.injEq, and_true] at e0 e1
    subst e0 e1
    exact ⟨⟨sa, b⟩, c1, rfl, B1, L1, w0⟩

/-- The slice v holds these files, below block B. -/
def FilesAt (w : World) (B : Nat) (v : Value) (L : List FileD) : Prop :=
  (v = .slice none 0 0 ∧ L = []) ∨ ∃ ad c, v = .slice (some ad) L.length c ∧ ∀ i f, L[i]? = some f → ad.spot = none ∧ ad.block < B ∧ ∃ vb, FileVal w B f vb ∧
    w.cell? ⟨ad.block, ad.off + i * 2, none⟩ = some (.string f.name) ∧ w.cell? ⟨ad.block, ad.off + i * 2 + 1, none⟩ = some vb

theorem trod_files {H : Type} {enc : TypeId × Value → H} {W : World} {fuel : Nat} {sp : Nat → Bool} {held : Bool} {cs : List Value} {x : DataW H × List MemPlace} (h : DataW.trod enc Try.prog W 0 sp held fuel 22 cs = some x)
    (hr : ∀ n ∈ x.1.weights Try.prog 22, n ≤ reachBytes) : ∃ v L, cs = [v] ∧ FilesAt W W.heap.size v L ∧ L.length ≤ reachBytes := by
  rcases open_slice Try.underlying22 h with ⟨hcs, _⟩ | ⟨a, len, cap, m, n, D, Pl, hcs, _, hl, hm, hmm, rfl, hx⟩
  · exact ⟨_, [], hcs, Or.inl ⟨rfl, rfl⟩, Nat.zero_le _⟩
  · have hlm : len ≤ m := by rw [hmm]; split <;> omega
    have h2 : Try.prog.cellsOf 53 = 2 := by kernel_rfl
    rw [h2] at hx
    have hall : ∀ i, i < len → ∃ t : FileD × Value, ∃ cs', W.cells? 0 (a.add (i * 2)) 2 = some cs' ∧ cs' = [.string t.1.name, t.2] ∧ FileVal W W.heap.size t.1 t.2 := fun i hi => by
      obtain ⟨cs', h1, h2⟩ := hx i (by omega)
      obtain ⟨f, vb, e, ho⟩ := trod_file h2
      exact ⟨(f, vb), cs', h1, e, ho⟩
    have hin : Inhabited (FileD × Value) := ⟨(⟨ByteArray.empty, []⟩, .nilFunc)⟩
    obtain ⟨T, hT⟩ := choose_lt hall
    have hwt : len ≤ reachBytes := by
      have h1 := hr ((((List.range len).map D).length + ((List.range (m - len)).map fun j => D (len + j)).length) * Try.prog.bytesOf 53) (by
        simp [DataW.weights, Try.underlying22])
      have e : Try.prog.bytesOf 53 = 40 := by kernel_rfl
      rw [e] at h1
      simp at h1; omega
    refine ⟨_, (List.range len).map (fun i => (T i).1), hcs, Or.inr ⟨a, cap, by simp, fun i f hi => ?_⟩, by simpa using hwt⟩
    have hil : i < len := by
      have := (List.getElem?_eq_some_iff.1 hi).1
      simpa using this
    have e : (T i).1 = f := by simpa [hil] using hi
    obtain ⟨cs', h1, h2, h3⟩ := hT i hil
    subst h2
    have c0 := cells_at h1 0 _ rfl
    have c1 := cells_at h1 1 _ rfl
    have hsp : a.spot = none := by
      obtain ⟨cs0, g1, g2, _⟩ := hT 0 (by omega)
      subst g2
      have := spot_of (cells_at g1 0 _ rfl)
      simpa [Addr.add] using this
    have hbl : a.block < W.heap.size := by
      have := block_lt c0
      rwa [add_block] at this
    have ead : a.add (i * 2) = ⟨a.block, a.off + i * 2, none⟩ := by
      unfold Addr.add
      split
      · rename_i h0; rw [h0, ← hsp]; rfl
      · rfl
    rw [ead] at c0 c1
    rw [← e]
    exact ⟨hsp, hbl, _, h3, (by simpa [Addr.add] using c0), add_at rfl c1⟩

theorem FilesAt.kept {w w' : World} {B : Nat} {v : Value} {L : List FileD} {M : Nat → Prop} (h : FilesAt w B v L) (hf : Fr M w w') (hM : ∀ k, M k → B ≤ k) (hB : B ≤ w.heap.size) : FilesAt w' B v L := by
  rcases h with h | ⟨ad, c, hv, hc⟩
  · exact Or.inl h
  · refine Or.inr ⟨ad, c, hv, fun i o hi => ?_⟩
    obtain ⟨h0, h1, vb, h2, c0, c1⟩ := hc i o hi
    have hk : ∀ off, w'.cell? ⟨ad.block, off, none⟩ = w.cell? ⟨ad.block, off, none⟩ := fun off =>
      World.cell?_of_block (w := w) (a := ⟨ad.block, off, none⟩) (hf.block ad.block (by omega) (fun e => by have := hM _ e; omega))
    exact ⟨h0, h1, vb, h2.kept hf hM, (hk _).trans c0, (hk _).trans c1⟩

theorem FilesAt.shape {w : World} {B : Nat} {v : Value} {L : List FileD} (h : FilesAt w B v L) : ∃ va vc, v = .slice va L.length vc ∧ ∀ i f, L[i]? = some f → ∃ g off vb, va = some ⟨g, off, none⟩ ∧ g < B ∧ FileVal w B f vb ∧
    w.cell? ⟨g, off + i * 2, none⟩ = some (.string f.name) ∧ w.cell? ⟨g, off + i * 2 + 1, none⟩ = some vb := by
  rcases h with ⟨rfl, rfl⟩ | ⟨ad, c, rfl, hc⟩
  · exact ⟨none, 0, rfl, fun i o hi => by simp at hi⟩
  · refine ⟨_, c, rfl, fun i o hi => ?_⟩
    obtain ⟨h0, h1, vb, r⟩ := hc i o hi
    exact ⟨ad.block, ad.off, vb, by rw [← h0], h1, r⟩

def AnyBool (w : World) (e : Ending) (w' : World) : Prop := ∃ g, e = .returned (.bool g) ∧ Fr None' w w'

theorem sum3 (N a b : Nat) (h1 : N < 1000000) (h2 : a < 1000000) (h3 : b < 1000000) : IntKind.i64.wrap (IntKind.i64.wrap ((N : Int) + a) + b) = ((N + a + b : Nat) : Int) := by
  have e1 : IntKind.i64.wrap ((N : Int) + a) = N + a := wrap_small (by omega) (by omega)
  have e2 : IntKind.i64.wrap ((N : Int) + a + b) = N + a + b := wrap_small (by omega) (by omega)
  rw [e1, e2]
  omega

theorem greatFiles_round {L : List FileD} {w wr : World} {k N mA mB : Nat} (hfr : Fr None' w wr) (hlt : k < L.length) (hs : (N : Int) < 200000) (hA : (mA : Int) ≤ 200000) (hB : (mB : Int) ≤ 200000) :
    (∃ k1 N1 : Nat, k1 ≤ L.length ∧ Value.int .i64 ((k : Int) + 1) = .int .i64 k1 ∧ Value.int .i64 (IntKind.i64.wrap (IntKind.i64.wrap ((N : Int) + mA) + mB)) = .int .i64 N1 ∧ N1 < 1000000 ∧ Fr None' w wr.drew) ∧
      L.length - (intOf (.int .i64 ((k : Int) + 1))).toNat < L.length - (intOf (.int .i64 (k : Int))).toNat := by
  have e1 : (k : Int) + 1 = ((k + 1 : Nat) : Int) := by omega
  have e2 := sum3 N mA mB (by omega) (by omega) (by omega)
  rw [e1, e2]
  refine ⟨⟨k + 1, N + mA + mB, by omega, rfl, rfl, by omega, hfr.then (Fr.drew _ _)⟩, ?_⟩
  show L.length - (((k + 1 : Nat) : Int)).toNat < L.length - ((k : Int)).toNat
  omega

set_option maxHeartbeats 4000000 in
theorem greatFiles_any (B : Nat) (v : Value) (L : List FileD) (w : World) (h : FilesAt w B v L) (hL : L.length ≤ reachBytes) :
    Calls Try.prog 5 #[v] w fun e w' => AnyBool w e w' := by
  obtain ⟨va, vc, rfl, hat⟩ := h.shape
  have hreach : reachBytes < 140737488355328 := by decide
  have hL' : (L.length : Int) ≤ 140737488355328 := by omega
  clear hreach hL
  go_enter Try.func5, Try.ntmps5
  go_wp2
  go_loopw [3, 4] (fun n i wr => ∃ k N : Nat, k ≤ L.length ∧ i = .int .i64 k ∧ n = .int .i64 N ∧ N < 1000000 ∧ Fr None' w wr) (fun _ i _ => L.length - (intOf i).toNat)
  case atStart => exact ⟨0, 0, Nat.zero_le _, rfl, rfl, by omega, Fr.refl _ _⟩
  case round =>
    obtain ⟨k, N, hk, rfl, rfl, hN, hfr⟩ := hrel
    by_cases hlt : k < L.length
    · by_cases hs : N < 200000
      · obtain ⟨o, ho⟩ : ∃ o, L[k]? = some o := ⟨L[k], by simp [hlt]⟩
        obtain ⟨g, off, vb, rfl, hgB, hov, c0, c1⟩ := hat k o ho
        obtain ⟨sb, cb, rfl⟩ := bytes_slice hov.1
        have i0 : (0 : Int) ≤ (k : Int) := by omega
        have i1 : (k : Int) < (L.length : Int) := by omega
        have hlt' : g < w.heap.size := by
          unfold World.cell? at c1
          split at c1
          · rename_i hk; exact lt_of_some hk
          · cases c1
        have hce : ∀ off, wr.cell? ⟨g, off, none⟩ = w.cell? ⟨g, off, none⟩ := fun off => World.cell?_of_block (w := w) (a := ⟨g, off, none⟩) (hfr.block g hlt' (fun e => e))
        have d0 := (hce _).trans c0
        have d1 := (hce _).trans c1
        obtain ⟨mA, eA, hA⟩ := min_nat o.name.size 200000
        obtain ⟨mB, eB, hB⟩ := min_nat o.b.length 200000
        have HF : Hid (Fr None' w wr) := hfr
        have hs' : (N : Int) < 200000 := by omega
        have hA' : (mA : Int) ≤ 200000 := by omega
        have hB' : (mB : Int) ≤ 200000 := by omega
        have eA' : (if (200000 : Int) < o.name.size then (200000 : Int) else o.name.size) = mA := eA
        have eB' : (if (200000 : Int) < o.b.length then (200000 : Int) else o.b.length) = mB := eB
        clear hat c0 c1 hov hce hN ho hfr h hs hA hB eA eB hlt'
        go_wp2_with fail
        go_region_held3 (fun w' => w'.cell? ⟨g, off + k * 2, none⟩ = some (.string o.name) ∧ w'.cell? ⟨g, off + k * 2 + 1, none⟩ = some (.slice sb o.b.length cb))
          (go_keep) (fail)
        all_goals go_wp2
        all_goals exact greatFiles_round HF.out hlt hs' hA' hB'
      · have hs' : ¬ (N : Int) < 200000 := by omega
        have hN' : (200000 : Int) ≤ N := by omega
        clear hat h hs hN
        go_wp2
        go_ret
        exact ⟨true, rfl, hfr⟩
    · have hkL : k = L.length := by omega
      subst hkL
      clear hat h hN hlt hk
      by_cases hs : (200000 : Int) ≤ N
      · go_wp2
        go_ret
        exact ⟨_, rfl, hfr⟩
      · go_wp2
        all_goals go_ret
        all_goals exact ⟨_, rfl, hfr⟩

end Go.Proofs.Ythnneejkbobbcaa
