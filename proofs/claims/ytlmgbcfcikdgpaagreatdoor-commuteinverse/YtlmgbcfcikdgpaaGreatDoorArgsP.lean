/-
  What is proved here: what an argument that is a patch, or a row of patches, is in memory. Conditions: it can be read, and is no greater than the reach.
-/
import Derived.Test.YtlmgbcfcikdgpaaGreatDoorPrims
import Derived.Test.YtlmgbcfcikdgpaaGreatDoorChecked
import Derived.Deep.Strs
import Derived.Deep.Slices
import Derived.ProofKit
import Derived.OpenShut
import Derived.ShutString
import Derived.ChangeOld
import Derived.ChangeSame
import Derived.SizedLaws
import Derived.Below
namespace Go.Proofs.YtlmgbcfcikdgpaaGreatDoor
open Go.ChangeShapes Go.WideShapes Go.ChangeAt Go.RowKit Go.Deep
set_option maxRecDepth 100000

theorem own : ownKnob Tryz.prog.godebug = none := by kernel_rfl
theorem laidOut : laidOutB Tryz.prog = true := by kernel_rfl

theorem bounds_u8 {n : Int} (h : (Lit.int .u8 n).wf = true) : 0 ≤ n ∧ n < 256 := by
  simp [Lit.wf, IntKind.min, IntKind.max, IntKind.bits, IntKind.signed] at h
  omega

theorem add_none7 {a : Addr} (h : a.spot = none) (i : Nat) : a.add i = ⟨a.block, a.off + i, none⟩ := by
  obtain ⟨b, o, s⟩ := a
  simp only at h
  subst h
  unfold Addr.add
  split <;> simp_all

theorem spot_none7 {w : World} {a : Addr} {u : Value} (h : w.cell? a = some u) : a.spot = none := by
  unfold World.cell? at h
  split at h
  · split at h
    · cases h
    · rename_i h1; simpa using h1
  · cases h

theorem mapM_at7 {α β : Type} (f : α → Option β) : ∀ (l : List α) (r : List β), l.mapM f = some r → ∀ (j : Nat) (u : β), r[j]? = some u → ∃ x, l[j]? = some x ∧ f x = some u
  | [], r, h, j, u, hu => by
    simp at h; subst h; simp at hu
  | a :: l, r, h, j, u, hu => by
    rw [List.mapM_cons] at h
    obtain ⟨y, hy, h⟩ := Option.bind_eq_some_iff.1 h
    obtain ⟨ys, hys, h⟩ := Option.bind_eq_some_iff.1 h
    obtain rfl : y :: ys = r := by simpa using h
    cases j with
    | zero => simp at hu; subst hu; exact ⟨a, rfl, hy⟩
    | succ j => simpa using mapM_at7 f l ys hys j u (by simpa using hu)

theorem cells_at7 {w : World} {a : Addr} {n : Nat} {cs : List Value} (h : w.cells? 0 a n = some cs) (j : Nat) (u : Value) (hj : cs[j]? = some u) : w.cell? (a.add j) = some u := by
  unfold World.cells? at h
  rw [if_pos (Nat.zero_le _)] at h
  obtain ⟨x, h1, h2⟩ := mapM_at7 _ _ _ h j u hj
  have : x = j := by
    obtain ⟨h3, h4⟩ := List.getElem?_eq_some_iff.1 h1
    simpa using h4.symm
  rw [← this]; exact h2

theorem weightsAll_mem {H : Type} {P : Program} {e : TypeId} : ∀ {l : List (DataW H)} {d : DataW H}, d ∈ l → ∀ n ∈ d.weights P e, n ∈ DataW.weightsAll P e l
  | [], _, h, _, _ => by cases h
  | x :: l, d, h, n, hn => by
    rw [DataW.weightsAll]
    rcases List.mem_cons.1 h with rfl | h
    · exact List.mem_append_left _ hn
    · exact List.mem_append_right _ (weightsAll_mem h n hn)

theorem trod_strs9 {H : Type} {enc : TypeId × Value → H} {W : World} {fuel : Nat} {sp : Nat → Bool} {held : Bool} {cs : List Value} {x : DataW H × List MemPlace} (h : DataW.trod enc Tryz.prog W 0 sp held fuel 22 cs = some x) (hr : ∀ n ∈ x.1.weights Tryz.prog 22, n ≤ reachBytes) : ∃ v l, cs = [v] ∧ StrsAt W v l ∧ l.length ≤ reachBytes := by
  have hle : ∀ va len cap, cs = [.slice va len cap] → len ≤ reachBytes := fun va len cap e => by
    rcases open_slice Tryz.underlying22 h with ⟨hcs, _⟩ | ⟨a, len', cap', m, n, D, Pl, hcs, _, hl, hm, hmm, rfl, hx⟩
    · rw [hcs] at e
      injection e with e
      injection e with e1 e2 e3
      omega
    · rw [hcs] at e
      injection e with e
      injection e with e1 e2 e3
      have h1 := hr ((((List.range len').map D).length + ((List.range (m - len')).map fun j => D (len' + j)).length) * Tryz.prog.bytesOf 9) (by simp [DataW.weights, Tryz.underlying22])
      have e16 : Tryz.prog.bytesOf 9 = 16 := by kernel_rfl
      rw [e16] at h1
      simp at h1
      omega
  rcases Deep.open_strs Tryz.underlying22 Tryz.underlying9 (by kernel_rfl) h with ⟨hcs, _⟩ | ⟨ad, len, cap, m, Sx, hcs, _, hl, hm, hmm, _, hcell⟩
  · exact ⟨_, [], hcs, ⟨none, 0, rfl, fun _ => rfl, Nat.le_refl _, fun j x e => by simp at e⟩, Nat.zero_le _⟩
  · have hlm : len ≤ m := by rw [hmm]; split <;> omega
    refine ⟨_, (List.range len).map Sx, hcs, ⟨some ad, cap, by simp, (fun e => by cases e), by simpa using hl, fun j x hj => ?_⟩, by simpa using hle _ _ _ hcs⟩
    have hjn : j < len := by simpa using (List.getElem?_eq_some_iff.1 hj).1
    have hx : Sx j = x := by simpa [hjn] using hj
    have h0 := spot_none7 (hcell 0 (by omega)).1
    rw [show ad.add 0 = ad from rfl] at h0
    refine ⟨ad.block, ad.off, ?_, ?_⟩
    · obtain ⟨b, o, s⟩ := ad
      simp_all
    · rw [← add_none7 h0, ← hx]
      exact (hcell j (by omega)).1

theorem trod_prim {H : Type} {enc : TypeId × Value → H} {W : World} {fuel : Nat} {sp : Nat → Bool} {held : Bool} {cs : List Value} {x : DataW H × List MemPlace} (h : DataW.trod enc Tryz.prog W 0 sp held fuel 24 cs = some x) (hr : ∀ n ∈ x.1.weights Tryz.prog 24, n ≤ reachBytes) :
    ∃ (t : Pr) (vo vn : Value), cs = [.int .i64 t.kind, .string t.path, .string t.dst, .string t.src, .int .i64 t.pos, vo, vn] ∧ StrsAt W vo t.old ∧ StrsAt W vn t.new ∧ t.old.length ≤ reachBytes ∧ t.new.length ≤ reachBytes := by
  obtain ⟨xs, n, _, rfl, hl, hlen, hf⟩ := DataW.trod_struct Tryz.underlying24 h
  have h7 : Tryz.prog.cellsOf 24 = 7 := by kernel_rfl
  have hcI : Tryz.prog.cellsOf 3 = 1 := by kernel_rfl
  have hcS : Tryz.prog.cellsOf 9 = 1 := by kernel_rfl
  have hcL : Tryz.prog.cellsOf 22 = 1 := by kernel_rfl
  rw [h7] at hl
  match cs, hl, xs, hlen with
  | [c0, c1, c2, c3, c4, c5, c6], _, [x0, x1, x2, x3, x4, x5, x6], _ =>
    have f0 := hf 0 _ rfl
    have f1 := hf 1 _ rfl
    have f2 := hf 2 _ rfl
    have f3 := hf 3 _ rfl
    have f4 := hf 4 _ rfl
    have f5 := hf 5 _ rfl
    have f6 := hf 6 _ rfl
    simp [hcI, hcS, hcL] at f0 f1 f2 f3 f4 f5 f6
    obtain ⟨z0, e0, _, _⟩ := DataW.trod_int Tryz.underlying3 f0
    obtain ⟨s1, e1, _, _⟩ := DataW.trod_string Tryz.underlying9 f1
    obtain ⟨s2, e2, _, _⟩ := DataW.trod_string Tryz.underlying9 f2
    obtain ⟨s3, e3, _, _⟩ := DataW.trod_string Tryz.underlying9 f3
    obtain ⟨z4, e4, _, _⟩ := DataW.trod_int Tryz.underlying3 f4
    obtain ⟨vo, lo, e5, t5, l5⟩ := trod_strs9 f5 (fun k hk => hr k (by
      simp [DataW.weights, Tryz.underlying24, DataW.weightsEach]
      simp [hk]))
    obtain ⟨vn, ln, e6, t6, l6⟩ := trod_strs9 f6 (fun k hk => hr k (by
      simp [DataW.weights, Tryz.underlying24, DataW.weightsEach]
      simp [hk]))
    simp only [List.cons.injEq, and_true] at e0 e1 e2 e3 e4 e5 e6
    subst e0 e1 e2 e3 e4 e5 e6
    exact ⟨⟨z0, s1, s2, s3, z4, lo, ln⟩, c5, c6, rfl, t5, t6, l5, l6⟩

/-- A patch as an argument is. -/
theorem arg_prim {H : Type} {enc : TypeId × Value → H} {W : World} {sp : Nat → Bool} {held : Bool} {base : Nat} {v : Value} {d : DataW H} {ps : List MemPlace} (hv : Value.okWide Tryz.prog W .any base 24 v) (h : DataW.Trod enc Tryz.prog W 0 sp held 24 v d ps) (hr : ∀ n ∈ d.weights Tryz.prog 24, n ≤ reachBytes) :
    ∃ (t : Pr) (vo vn : Value), v = .agg #[.int .i64 t.kind, .string t.path, .string t.dst, .string t.src, .int .i64 t.pos, vo, vn] ∧ StrsAt W vo t.old ∧ StrsAt W vn t.new ∧ t.old.length ≤ reachBytes ∧ t.new.length ≤ reachBytes := by
  simp only [Value.okWide, Tryz.underlying24] at hv
  obtain ⟨cs, rfl, _⟩ := hv
  obtain ⟨fuel, hf⟩ := h
  obtain ⟨t, vo, vn, e, h1, h2, h3, h4⟩ := trod_prim hf hr
  refine ⟨t, vo, vn, ?_, h1, h2, h3, h4⟩
  obtain ⟨u⟩ := cs
  have e' : u = [.int .i64 t.kind, .string t.path, .string t.dst, .string t.src, .int .i64 t.pos, vo, vn] := e
  rw [e']

/-- A row of patches as an argument is. -/
theorem trod_prims {H : Type} {enc : TypeId × Value → H} {W : World} {sp : Nat → Bool} {held : Bool} {base : Nat} {v : Value} {d : DataW H} {ps : List MemPlace} (hv : Value.okWide Tryz.prog W .any base 25 v) (h : DataW.Trod enc Tryz.prog W 0 sp held 25 v d ps) (hr : ∀ n ∈ d.weights Tryz.prog 25, n ≤ reachBytes) :
    ∃ a n c L, v = .slice a n c ∧ L.length = n ∧ PrsAt W a L ∧ (a = none → c = 0) ∧ ∀ x ∈ L, x.old.length ≤ reachBytes ∧ x.new.length ≤ reachBytes := by
  obtain ⟨a, n, c, rfl⟩ := okWide_slice Tryz.underlying25 hv
  obtain ⟨fuel, hf⟩ := h
  rcases open_slice Tryz.underlying25 hf with ⟨hcs, _⟩ | ⟨ad, len, cap, m, fu, D, Pl, hcs, _, hl, hm, hmm, hd, hx⟩
  · simp only [Value.cells, List.cons.injEq, Value.slice.injEq, and_true] at hcs
    obtain ⟨rfl, rfl, rfl⟩ := hcs
    exact ⟨none, 0, 0, [], rfl, rfl, (fun k x e => by simp at e), fun _ => rfl, fun x e => by cases e⟩
  · simp only [Value.cells, List.cons.injEq, Value.slice.injEq, and_true] at hcs
    obtain ⟨rfl, rfl, rfl⟩ := hcs
    injection hd with hd1 hd2
    subst hd1
    have hlm : n ≤ m := by rw [hmm]; split <;> omega
    have h7 : Tryz.prog.cellsOf 24 = 7 := by kernel_rfl
    rw [h7] at hx
    have hall : ∀ i, i < n → ∃ t : Pr × Value × Value, ∃ cs', W.cells? 0 (ad.add (i * 7)) 7 = some cs' ∧ cs' = [.int .i64 t.1.kind, .string t.1.path, .string t.1.dst, .string t.1.src, .int .i64 t.1.pos, t.2.1, t.2.2] ∧ StrsAt W t.2.1 t.1.old ∧ StrsAt W t.2.2 t.1.new ∧ t.1.old.length ≤ reachBytes ∧ t.1.new.length ≤ reachBytes := fun i hi => by
      obtain ⟨cs', h1, h2⟩ := hx i (by omega)
      obtain ⟨t, vo, vn, e, s1, s2, s3, s4⟩ := trod_prim h2 (fun k hk => hr k (by
        simp only [DataW.weights, Tryz.underlying25]
        refine List.mem_cons_of_mem _ (List.mem_append_left _ (weightsAll_mem (d := D i) (List.mem_map_of_mem (List.mem_range.2 hi)) k hk))))
      exact ⟨(t, vo, vn), cs', h1, e, s1, s2, s3, s4⟩
    have hin : Inhabited (Pr × Value × Value) := ⟨(⟨0, ⟨#[]⟩, ⟨#[]⟩, ⟨#[]⟩, 0, [], []⟩, .nilFunc, .nilFunc)⟩
    obtain ⟨T, hT⟩ := choose_lt hall
    refine ⟨some ad, n, c, (List.range n).map (fun i => (T i).1), rfl, by simp, fun i t hi => ?_, (fun e => by cases e), fun x hx => ?_⟩
    · have hil : i < n := by simpa using (List.getElem?_eq_some_iff.1 hi).1
      have e : (T i).1 = t := by simpa [hil] using hi
      obtain ⟨cs', h1, h2, s1, s2, _⟩ := hT i hil
      subst h2
      have c0 := cells_at7 h1 0 _ rfl
      have c1 := cells_at7 h1 1 _ rfl
      have c2 := cells_at7 h1 2 _ rfl
      have c3 := cells_at7 h1 3 _ rfl
      have c4 := cells_at7 h1 4 _ rfl
      have c5 := cells_at7 h1 5 _ rfl
      have c6 := cells_at7 h1 6 _ rfl
      have hsp : ad.spot = none := by
        obtain ⟨cs0, g1, g2, _⟩ := hT 0 (by omega)
        subst g2
        have := spot_none7 (cells_at7 g1 0 _ rfl)
        simpa [Addr.add] using this
      have ead : ad.add (i * 7) = ⟨ad.block, ad.off + i * 7, none⟩ := add_none7 hsp _
      rw [ead] at c0 c1 c2 c3 c4 c5 c6
      rw [add_none7 rfl] at c0 c1 c2 c3 c4 c5 c6
      rw [← e]
      refine ⟨ad.block, ad.off, ?_, (T i).2.1, (T i).2.2, c0, c1, c2, c3, c4, c5, c6, s1, s2⟩
      obtain ⟨b, o, s⟩ := ad
      simp_all
    · obtain ⟨i, hi, rfl⟩ := List.mem_map.1 hx
      obtain ⟨_, _, _, _, _, s3, s4⟩ := hT i (List.mem_range.1 hi)
      exact ⟨s3, s4⟩

end Go.Proofs.YtlmgbcfcikdgpaaGreatDoor
