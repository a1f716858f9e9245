/-
  What is proved here: what an argument that is a row of things is in memory. Conditions: it can be read, and is no greater than the reach.
-/
import Derived.Test.YtdaogldmcbfmoaaGreatDoorMEnts
import Derived.Test.YtdaogldmcbfmoaaGreatDoorChecked
import Derived.Deep.Strs
import Derived.Deep.Slices
import Derived.ProofKit
import Derived.OpenShut
import Derived.ShutString
import Derived.ChangeOld
import Derived.ChangeSame
import Derived.SizedLaws
import Derived.Below
namespace Go.Proofs.YtdaogldmcbfmoaaGreatDoor
open Go.ChangeShapes Go.WideShapes Go.ChangeAt Go.RowKit Go.Shelf Go.Deep
set_option maxRecDepth 100000

theorem own : ownKnob Tryz.prog.godebug = none := by kernel_rfl
theorem laidOut : laidOutB Tryz.prog = true := by kernel_rfl

theorem bounds_u8 {n : Int} (h : (Lit.int .u8 n).wf = true) : 0 ≤ n ∧ n < 256 := by
  simp [Lit.wf, IntKind.min, IntKind.max, IntKind.bits, IntKind.signed] at h
  omega

theorem add_none7 {a : Addr} (h : a.spot = none) (i : Nat) : a.add i = ⟨a.block, a.off + i, none⟩ := by
  obtain ⟨b, o, s⟩ := a
  simp only at h
  subst h
  unfold Addr.add
  split <;> simp_all

theorem spot_none7 {w : World} {a : Addr} {u : Value} (h : w.cell? a = some u) : a.spot = none := by
  unfold World.cell? at h
  split at h
  · split at h
    · cases h
    · rename_i h1; simpa using h1
  · cases h

theorem mapM_at7 {α β : Type} (f : α → Option β) : ∀ (l : List α) (r : List β), l.mapM f = some r → ∀ (j : Nat) (u : β), r[j]? = some u → ∃ x, l[j]? = some x ∧ f x = some u
  | [], r, h, j, u, hu => by
    simp at h; subst h; simp at hu
  | a :: l, r, h, j, u, hu => by
    rw [List.mapM_cons] at h
    obtain ⟨y, hy, h⟩ := Option.bind_eq_some_iff.1 h
    obtain ⟨ys, hys, h⟩ := Option.bind_eq_some_iff.1 h
    obtain rfl : y :: ys = r := by simpa using h
    cases j with
    | zero => simp at hu; subst hu; exact ⟨a, rfl, hy⟩
    | succ j => simpa using mapM_at7 f l ys hys j u (by simpa using hu)

theorem cells_at7 {w : World} {a : Addr} {n : Nat} {cs : List Value} (h : w.cells? 0 a n = some cs) (j : Nat) (u : Value) (hj : cs[j]? = some u) : w.cell? (a.add j) = some u := by
  unfold World.cells? at h
  rw [if_pos (Nat.zero_le _)] at h
  obtain ⟨x, h1, h2⟩ := mapM_at7 _ _ _ h j u hj
  have : x = j := by
    obtain ⟨h3, h4⟩ := List.getElem?_eq_some_iff.1 h1
    simpa using h4.symm
  rw [← this]; exact h2

theorem weightsAll_mem {H : Type} {P : Program} {e : TypeId} : ∀ {l : List (DataW H)} {d : DataW H}, d ∈ l → ∀ n ∈ d.weights P e, n ∈ DataW.weightsAll P e l
  | [], _, h, _, _ => by cases h
  | x :: l, d, h, n, hn => by
    rw [DataW.weightsAll]
    rcases List.mem_cons.1 h with rfl | h
    · exact List.mem_append_left _ hn
    · exact List.mem_append_right _ (weightsAll_mem h n hn)

theorem trod_strs7 {H : Type} {enc : TypeId × Value → H} {W : World} {fuel : Nat} {sp : Nat → Bool} {held : Bool} {cs : List Value} {x : DataW H × List MemPlace} (h : DataW.trod enc Tryz.prog W 0 sp held fuel 36 cs = some x) (hr : ∀ n ∈ x.1.weights Tryz.prog 36, n ≤ reachBytes) : ∃ v l, cs = [v] ∧ StrsAt W v l ∧ l.length ≤ reachBytes := by
  have hle : ∀ va len cap, cs = [.slice va len cap] → len ≤ reachBytes := fun va len cap e => by
    rcases open_slice Tryz.underlying36 h with ⟨hcs, _⟩ | ⟨a, len', cap', m, n, D, Pl, hcs, _, hl, hm, hmm, rfl, hx⟩
    · rw [hcs] at e
      injection e with e
      injection e with e1 e2 e3
      omega
    · rw [hcs] at e
      injection e with e
      injection e with e1 e2 e3
      have h1 := hr ((((List.range len').map D).length + ((List.range (m - len')).map fun j => D (len' + j)).length) * Tryz.prog.bytesOf 9) (by simp [DataW.weights, Tryz.underlying36])
      have e16 : Tryz.prog.bytesOf 9 = 16 := by kernel_rfl
      rw [e16] at h1
      simp at h1
      omega
  rcases Deep.open_strs Tryz.underlying36 Tryz.underlying9 (by kernel_rfl) h with ⟨hcs, _⟩ | ⟨ad, len, cap, m, Sx, hcs, _, hl, hm, hmm, _, hcell⟩
  · exact ⟨_, [], hcs, ⟨none, 0, rfl, fun _ => rfl, Nat.le_refl _, fun j x e => by simp at e⟩, Nat.zero_le _⟩
  · have hlm : len ≤ m := by rw [hmm]; split <;> omega
    refine ⟨_, (List.range len).map Sx, hcs, ⟨some ad, cap, by simp, (fun e => by cases e), by simpa using hl, fun j x hj => ?_⟩, by simpa using hle _ _ _ hcs⟩
    have hjn : j < len := by simpa using (List.getElem?_eq_some_iff.1 hj).1
    have hx : Sx j = x := by simpa [hjn] using hj
    have h0 := spot_none7 (hcell 0 (by omega)).1
    rw [show ad.add 0 = ad from rfl] at h0
    refine ⟨ad.block, ad.off, ?_, ?_⟩
    · obtain ⟨b, o, s⟩ := ad
      simp_all
    · rw [← add_none7 h0, ← hx]
      exact (hcell j (by omega)).1

theorem trod_ent {H : Type} {enc : TypeId × Value → H} {W : World} {fuel : Nat} {sp : Nat → Bool} {held : Bool} {cs : List Value} {x : DataW H × List MemPlace} (h : DataW.trod enc Tryz.prog W 0 sp held fuel 38 cs = some x) (hr : ∀ n ∈ x.1.weights Tryz.prog 38, n ≤ reachBytes) :
    ∃ (t : En) (vl : Value), cs = [.string t.path, .int .i64 t.kind, vl, .string t.data] ∧ StrsAt W vl t.lines ∧ t.lines.length ≤ reachBytes := by
  obtain ⟨xs, n, _, rfl, hl, hlen, hf⟩ := DataW.trod_struct Tryz.underlying38 h
  have h4 : Tryz.prog.cellsOf 38 = 4 := by kernel_rfl
  have hcI : Tryz.prog.cellsOf 3 = 1 := by kernel_rfl
  have hcS : Tryz.prog.cellsOf 9 = 1 := by kernel_rfl
  have hcL : Tryz.prog.cellsOf 36 = 1 := by kernel_rfl
  rw [h4] at hl
  match cs, hl, xs, hlen with
  | [c0, c1, c2, c3], _, [x0, x1, x2, x3], _ =>
    have f0 := hf 0 _ rfl
    have f1 := hf 1 _ rfl
    have f2 := hf 2 _ rfl
    have f3 := hf 3 _ rfl
    simp [hcI, hcS, hcL] at f0 f1 f2 f3
    obtain ⟨sa, e0, _, _⟩ := DataW.trod_string Tryz.underlying9 f0
    obtain ⟨z, e1, _, _⟩ := DataW.trod_int Tryz.underlying3 f1
    obtain ⟨vl, l, e2, s2, l2⟩ := trod_strs7 f2 (fun k hk => hr k (by
      simp [DataW.weights, Tryz.underlying38, DataW.weightsEach]
      simp [hk]))
    obtain ⟨sb, e3, _, _⟩ := DataW.trod_string Tryz.underlying9 f3
    simp only [List.cons.injEq, and_true] at e0 e1 e2 e3
    subst e0 e1 e2 e3
    exact ⟨⟨sa, z, l, sb⟩, c2, rfl, s2, l2⟩

/-- A row of things as an argument is. -/
theorem trod_ents {H : Type} {enc : TypeId × Value → H} {W : World} {sp : Nat → Bool} {held : Bool} {base : Nat} {v : Value} {d : DataW H} {ps : List MemPlace} (hv : Value.okWide Tryz.prog W .any base 22 v) (h : DataW.Trod enc Tryz.prog W 0 sp held 22 v d ps) (hr : ∀ n ∈ d.weights Tryz.prog 22, n ≤ reachBytes) :
    ∃ a n c L, v = .slice a n c ∧ L.length = n ∧ EntsAt W a L ∧ n ≤ reachBytes ∧ n ≤ c ∧ ∀ x ∈ L, x.lines.length ≤ reachBytes := by
  obtain ⟨a, n, c, rfl⟩ := okWide_slice Tryz.underlying22 hv
  obtain ⟨fuel, hf⟩ := h
  rcases open_slice Tryz.underlying22 hf with ⟨hcs, _⟩ | ⟨ad, len, cap, m, fu, D, Pl, hcs, _, hl, hm, hmm, hd, hx⟩
  · simp only [Value.cells, List.cons.injEq, Value.slice.injEq, and_true] at hcs
    obtain ⟨rfl, rfl, rfl⟩ := hcs
    exact ⟨none, 0, 0, [], rfl, rfl, (fun k x e => by simp at e), Nat.zero_le _, Nat.le_refl _, fun x e => by cases e⟩
  · simp only [Value.cells, List.cons.injEq, Value.slice.injEq, and_true] at hcs
    obtain ⟨rfl, rfl, rfl⟩ := hcs
    injection hd with hd1 hd2
    subst hd1
    have hlm : n ≤ m := by rw [hmm]; split <;> omega
    have h4 : Tryz.prog.cellsOf 38 = 4 := by kernel_rfl
    rw [h4] at hx
    have hwt : n ≤ reachBytes := by
      have h1 := hr ((((List.range n).map D).length + ((List.range (m - n)).map fun j => D (n + j)).length) * Tryz.prog.bytesOf 38) (by simp [DataW.weights, Tryz.underlying22])
      have e : Tryz.prog.bytesOf 38 = 64 := by kernel_rfl
      rw [e] at h1
      simp at h1
      omega
    have hall : ∀ i, i < n → ∃ t : En × Value, ∃ cs', W.cells? 0 (ad.add (i * 4)) 4 = some cs' ∧ cs' = [.string t.1.path, .int .i64 t.1.kind, t.2, .string t.1.data] ∧ StrsAt W t.2 t.1.lines ∧ t.1.lines.length ≤ reachBytes := fun i hi => by
      obtain ⟨cs', h1, h2⟩ := hx i (by omega)
      obtain ⟨t, vl, e, s1, s2⟩ := trod_ent h2 (fun k hk => hr k (by
        simp only [DataW.weights, Tryz.underlying22]
        refine List.mem_cons_of_mem _ (List.mem_append_left _ (weightsAll_mem (d := D i) (List.mem_map_of_mem (List.mem_range.2 hi)) k hk))))
      exact ⟨(t, vl), cs', h1, e, s1, s2⟩
    have hin : Inhabited (En × Value) := ⟨(⟨⟨#[]⟩, 0, [], ⟨#[]⟩⟩, .nilFunc)⟩
    obtain ⟨T, hT⟩ := choose_lt hall
    refine ⟨some ad, n, c, (List.range n).map (fun i => (T i).1), rfl, by simp, fun i t hi => ?_, hwt, hl, fun x hx => ?_⟩
    · have hil : i < n := by simpa using (List.getElem?_eq_some_iff.1 hi).1
      have e : (T i).1 = t := by simpa [hil] using hi
      obtain ⟨cs', h1, h2, s1, s2⟩ := hT i hil
      subst h2
      have c0 := cells_at7 h1 0 _ rfl
      have c1 := cells_at7 h1 1 _ rfl
      have c2 := cells_at7 h1 2 _ rfl
      have c3 := cells_at7 h1 3 _ rfl
      have hsp : ad.spot = none := by
        obtain ⟨cs0, g1, g2, _⟩ := hT 0 (by omega)
        subst g2
        have := spot_none7 (cells_at7 g1 0 _ rfl)
        simpa [Addr.add] using this
      have ead : ad.add (i * 4) = ⟨ad.block, ad.off + i * 4, none⟩ := add_none7 hsp _
      rw [ead] at c0 c1 c2 c3
      rw [add_none7 rfl] at c0 c1 c2 c3
      rw [← e]
      refine ⟨ad.block, ad.off, ?_, (T i).2, c0, c1, c2, c3, s1⟩
      obtain ⟨b, o, s⟩ := ad
      simp_all
    · obtain ⟨i, hi, rfl⟩ := List.mem_map.1 hx
      obtain ⟨_, _, _, _, s2⟩ := hT i (List.mem_range.1 hi)
      exact s2

end Go.Proofs.YtdaogldmcbfmoaaGreatDoor
