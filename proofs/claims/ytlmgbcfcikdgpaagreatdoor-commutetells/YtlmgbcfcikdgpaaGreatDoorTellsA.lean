/-
  What is proved here: CommuteTells of the landed program answers true for every input, and leaves its arguments as they were; the tables that the row lists are tied to the program's text, and are never read. No condition but that.
-/
import Derived.Test.YtlmgbcfcikdgpaaGreatDoorTells10
import Derived.Test.YtlmgbcfcikdgpaaGreatDoorComm10
import Derived.Test.YtlmgbcfcikdgpaaGreatDoorRows
import Derived.Test.YtlmgbcfcikdgpaaGreatDoorCards
import Derived.Test.YtlmgbcfcikdgpaaGreatDoorTie
import Derived.ProofKit
import Derived.ChangeMaps5
import Derived.OpenShut
import Derived.LaidMore
import Derived.Lay
import Derived.SevenTiedAt
import Derived.Stop.Joined
import Derived.Test.YtlmgbcfcikdgpaaGreatDoorPrims
import Derived.Test.YtlmgbcfcikdgpaaGreatDoorChecked
import Derived.Deep.Strs
import Derived.Deep.Slices
import Derived.ShutString
import Derived.ChangeOld
import Derived.ChangeSame
import Derived.SizedLaws
import Derived.Below
namespace Go.Proofs.YtlmgbcfcikdgpaaGreatDoor
open Go.ChangeShapes Go.WideShapes Go.ChangeAt Go.RowKit Go.Deep
set_option maxRecDepth 100000

theorem own : ownKnob Tryz.prog.godebug = none := by kernel_rfl
theorem laidOut : laidOutB Tryz.prog = true := by kernel_rfl

theorem bounds_u8 {n : Int} (h : (Lit.int .u8 n).wf = true) : 0 ≤ n ∧ n < 256 := by
  simp [Lit.wf, IntKind.min, IntKind.max, IntKind.bits, IntKind.signed] at h
  omega

theorem add_none7 {a : Addr} (h : a.spot = none) (i : Nat) : a.add i = ⟨a.block, a.off + i, none⟩ := by
  obtain ⟨b, o, s⟩ := a
  simp only at h
  subst h
  unfold Addr.add
  split <;> simp_all

theorem spot_none7 {w : World} {a : Addr} {u : Value} (h : w.cell? a = some u) : a.spot = none := by
  unfold World.cell? at h
  split at h
  · split at h
    · cases h
    · rename_i h1; simpa using h1
  · cases h

theorem mapM_at7 {α β : Type} (f : α → Option β) : ∀ (l : List α) (r : List β), l.mapM f = some r → ∀ (j : Nat) (u : β), r[j]? = some u → ∃ x, l[j]? = some x ∧ f x = some u
  | [], r, h, j, u, hu => by
    simp at h; subst h; simp at hu
  | a :: l, r, h, j, u, hu => by
    rw [List.mapM_cons] at h
    obtain ⟨y, hy, h⟩ := Option.bind_eq_some_iff.1 h
    obtain ⟨ys, hys, h⟩ := Option.bind_eq_some_iff.1 h
    obtain rfl : y :: ys = r := by simpa using h
    cases j with
    | zero => simp at hu; subst hu; exact ⟨a, rfl, hy⟩
    | succ j => simpa using mapM_at7 f l ys hys j u (by simpa using hu)

theorem cells_at7 {w : World} {a : Addr} {n : Nat} {cs : List Value} (h : w.cells? 0 a n = some cs) (j : Nat) (u : Value) (hj : cs[j]? = some u) : w.cell? (a.add j) = some u := by
  unfold World.cells? at h
  rw [if_pos (Nat.zero_le _)] at h
  obtain ⟨x, h1, h2⟩ := mapM_at7 _ _ _ h j u hj
  have : x = j := by
    obtain ⟨h3, h4⟩ := List.getElem?_eq_some_iff.1 h1
    simpa using h4.symm
  rw [← this]; exact h2

theorem weightsAll_mem {H : Type} {P : Program} {e : TypeId} : ∀ {l : List (DataW H)} {d : DataW H}, d ∈ l → ∀ n ∈ d.weights P e, n ∈ DataW.weightsAll P e l
  | [], _, h, _, _ => by cases h
  | x :: l, d, h, n, hn => by
    rw [DataW.weightsAll]
    rcases List.mem_cons.1 h with rfl | h
    · exact List.mem_append_left _ hn
    · exact List.mem_append_right _ (weightsAll_mem h n hn)

theorem trod_strs9 {H : Type} {enc : TypeId × Value → H} {W : World} {fuel : Nat} {sp : Nat → Bool} {held : Bool} {cs : List Value} {x : DataW H × List MemPlace} (h : DataW.trod enc Tryz.prog W 0 sp held fuel 22 cs = some x) (hr : ∀ n ∈ x.1.weights Tryz.prog 22, n ≤ reachBytes) : ∃ v l, cs = [v] ∧ StrsAt W v l ∧ l.length ≤ reachBytes := by
  have hle : ∀ va len cap, cs = [.slice va len cap] → len ≤ reachBytes := fun va len cap e => by
    rcases open_slice Tryz.underlying22 h with ⟨hcs, _⟩ | ⟨a, len', cap', m, n, D, Pl, hcs, _, hl, hm, hmm, rfl, hx⟩
    · rw [hcs] at e
      injection e with e
      injection e with e1 e2 e3
      omega
    · rw [hcs] at e
      injection e with e
      injection e with e1 e2 e3
      have h1 := hr ((((List.range len').map D).length + ((List.range (m - len')).map fun j => D (len' + j)).length) * Tryz.prog.bytesOf 9) (by simp [DataW.weights, Tryz.underlying22])
      have e16 : Tryz.prog.bytesOf 9 = 16 := by kernel_rfl
      rw [e16] at h1
      simp at h1
      omega
  rcases Deep.open_strs Tryz.underlying22 Tryz.underlying9 (by kernel_rfl) h with ⟨hcs, _⟩ | ⟨ad, len, cap, m, Sx, hcs, _, hl, hm, hmm, _, hcell⟩
  · exact ⟨_, [], hcs, ⟨none, 0, rfl, fun _ => rfl, Nat.le_refl _, fun j x e => by simp at e⟩, Nat.zero_le _⟩
  · have hlm : len ≤ m := by rw [hmm]; split <;> omega
    refine ⟨_, (List.range len).map Sx, hcs, ⟨some ad, cap, by simp, (fun e => by cases e), by simpa using hl, fun j x hj => ?_⟩, by simpa using hle _ _ _ hcs⟩
    have hjn : j < len := by simpa using (List.getElem?_eq_some_iff.1 hj).1
    have hx : Sx j = x := by simpa [hjn] using hj
    have h0 := spot_none7 (hcell 0 (by omega)).1
    rw [show ad.add 0 = ad from rfl] at h0
    refine ⟨ad.block, ad.off, ?_, ?_⟩
    · obtain ⟨b, o, s⟩ := ad
      simp_all
    · rw [← add_none7 h0, ← hx]
      exact (hcell j (by omega)).1

theorem trod_prim {H : Type} {enc : TypeId × Value → H} {W : World} {fuel : Nat} {sp : Nat → Bool} {held : Bool} {cs : List Value} {x : DataW H × List MemPlace} (h : DataW.trod enc Tryz.prog W 0 sp held fuel 24 cs = some x) (hr : ∀ n ∈ x.1.weights Tryz.prog 24, n ≤ reachBytes) :
    ∃ (t : Pr) (vo vn : Value), cs = [.int .i64 t.kind, .string t.path, .string t.dst, .string t.src, .int .i64 t.pos, vo, vn] ∧ StrsAt W vo t.old ∧ StrsAt W vn t.new ∧ t.old.length ≤ reachBytes ∧ t.new.length ≤ reachBytes := by
  obtain ⟨xs, n, _, rfl, hl, hlen, hf⟩ := DataW.trod_struct Tryz.underlying24 h
  have h7 : Tryz.prog.cellsOf 24 = 7 := by kernel_rfl
  have hcI : Tryz.prog.cellsOf 3 = 1 := by kernel_rfl
  have hcS : Tryz.prog.cellsOf 9 = 1 := by kernel_rfl
  have hcL : Tryz.prog.cellsOf 22 = 1 := by kernel_rfl
  rw [h7] at hl
  match cs, hl, xs, hlen with
  | [c0, c1, c2, c3, c4, c5, c6], _, [x0, x1, x2, x3, x4, x5, x6], _ =>
    have f0 := hf 0 _ rfl
    have f1 := hf 1 _ rfl
    have f2 := hf 2 _ rfl
    have f3 := hf 3 _ rfl
    have f4 := hf 4 _ rfl
    have f5 := hf 5 _ rfl
    have f6 := hf 6 _ rfl
    simp [hcI, hcS, hcL] at f0 f1 f2 f3 f4 f5 f6
    obtain ⟨z0, e0, _, _⟩ := DataW.trod_int Tryz.underlying3 f0
    obtain ⟨s1, e1, _, _⟩ := DataW.trod_string Tryz.underlying9 f1
    obtain ⟨s2, e2, _, _⟩ := DataW.trod_string Tryz.underlying9 f2
    obtain ⟨s3, e3, _, _⟩ := DataW.trod_string Tryz.underlying9 f3
    obtain ⟨z4, e4, _, _⟩ := DataW.trod_int Tryz.underlying3 f4
    obtain ⟨vo, lo, e5, t5, l5⟩ := trod_strs9 f5 (fun k hk => hr k (by
      simp [DataW.weights, Tryz.underlying24, DataW.weightsEach]
      simp [hk]))
    obtain ⟨vn, ln, e6, t6, l6⟩ := trod_strs9 f6 (fun k hk => hr k (by
      simp [DataW.weights, Tryz.underlying24, DataW.weightsEach]
      simp [hk]))
    simp only [List.cons.injEq, and_true] at e0 e1 e2 e3 e4 e5 e6
    subst e0 e1 e2 e3 e4 e5 e6
    exact ⟨⟨z0, s1, s2, s3, z4, lo, ln⟩, c5, c6, rfl, t5, t6, l5, l6⟩

/-- A patch as an argument is. -/
theorem arg_prim {H : Type} {enc : TypeId × Value → H} {W : World} {sp : Nat → Bool} {held : Bool} {base : Nat} {v : Value} {d : DataW H} {ps : List MemPlace} (hv : Value.okWide Tryz.prog W .any base 24 v) (h : DataW.Trod enc Tryz.prog W 0 sp held 24 v d ps) (hr : ∀ n ∈ d.weights Tryz.prog 24, n ≤ reachBytes) :
    ∃ (t : Pr) (vo vn : Value), v = .agg #[.int .i64 t.kind, .string t.path, .string t.dst, .string t.src, .int .i64 t.pos, vo, vn] ∧ StrsAt W vo t.old ∧ StrsAt W vn t.new ∧ t.old.length ≤ reachBytes ∧ t.new.length ≤ reachBytes := by
  simp only [Value.okWide, Tryz.underlying24] at hv
  obtain ⟨cs, rfl, _⟩ := hv
  obtain ⟨fuel, hf⟩ := h
  obtain ⟨t, vo, vn, e, h1, h2, h3, h4⟩ := trod_prim hf hr
  refine ⟨t, vo, vn, ?_, h1, h2, h3, h4⟩
  obtain ⟨u⟩ := cs
  have e' : u = [.int .i64 t.kind, .string t.path, .string t.dst, .string t.src, .int .i64 t.pos, vo, vn] := e
  rw [e']

/-- A row of patches as an argument is. -/
theorem trod_prims {H : Type} {enc : TypeId × Value → H} {W : World} {sp : Nat → Bool} {held : Bool} {base : Nat} {v : Value} {d : DataW H} {ps : List MemPlace} (hv : Value.okWide Tryz.prog W .any base 25 v) (h : DataW.Trod enc Tryz.prog W 0 sp held 25 v d ps) (hr : ∀ n ∈ d.weights Tryz.prog 25, n ≤ reachBytes) :
    ∃ a n c L, v = .slice a n c ∧ L.length = n ∧ PrsAt W a L ∧ (a = none → c = 0) ∧ ∀ x ∈ L, x.old.length ≤ reachBytes ∧ x.new.length ≤ reachBytes := by
  obtain ⟨a, n, c, rfl⟩ := okWide_slice Tryz.underlying25 hv
  obtain ⟨fuel, hf⟩ := h
  rcases open_slice Tryz.underlying25 hf with ⟨hcs, _⟩ | ⟨ad, len, cap, m, fu, D, Pl, hcs, _, hl, hm, hmm, hd, hx⟩
  · simp only [Value.cells, List.cons.injEq, Value.slice.injEq, and_true] at hcs
    obtain ⟨rfl, rfl, rfl⟩ := hcs
    exact ⟨none, 0, 0, [], rfl, rfl, (fun k x e => by simp at e), fun _ => rfl, fun x e => by cases e⟩
  · simp only [Value.cells, List.cons.injEq, Value.slice.injEq, and_true] at hcs
    obtain ⟨rfl, rfl, rfl⟩ := hcs
    injection hd with hd1 hd2
    subst hd1
    have hlm : n ≤ m := by rw [hmm]; split <;> omega
    have h7 : Tryz.prog.cellsOf 24 = 7 := by kernel_rfl
    rw [h7] at hx
    have hall : ∀ i, i < n → ∃ t : Pr × Value × Value, ∃ cs', W.cells? 0 (ad.add (i * 7)) 7 = some cs' ∧ cs' = [.int .i64 t.1.kind, .string t.1.path, .string t.1.dst, .string t.1.src, .int .i64 t.1.pos, t.2.1, t.2.2] ∧ StrsAt W t.2.1 t.1.old ∧ StrsAt W t.2.2 t.1.new ∧ t.1.old.length ≤ reachBytes ∧ t.1.new.length ≤ reachBytes := fun i hi => by
      obtain ⟨cs', h1, h2⟩ := hx i (by omega)
      obtain ⟨t, vo, vn, e, s1, s2, s3, s4⟩ := trod_prim h2 (fun k hk => hr k (by
        simp only [DataW.weights, Tryz.underlying25]
        refine List.mem_cons_of_mem _ (List.mem_append_left _ (weightsAll_mem (d := D i) (List.mem_map_of_mem (List.mem_range.2 hi)) k hk))))
      exact ⟨(t, vo, vn), cs', h1, e, s1, s2, s3, s4⟩
    have hin : Inhabited (Pr × Value × Value) := ⟨(⟨0, ⟨#[]⟩, ⟨#[]⟩, ⟨#[]⟩, 0, [], []⟩, .nilFunc, .nilFunc)⟩
    obtain ⟨T, hT⟩ := choose_lt hall
    refine ⟨some ad, n, c, (List.range n).map (fun i => (T i).1), rfl, by simp, fun i t hi => ?_, (fun e => by cases e), fun x hx => ?_⟩
    · have hil : i < n := by simpa using (List.getElem?_eq_some_iff.1 hi).1
      have e : (T i).1 = t := by simpa [hil] using hi
      obtain ⟨cs', h1, h2, s1, s2, _⟩ := hT i hil
      subst h2
      have c0 := cells_at7 h1 0 _ rfl
      have c1 := cells_at7 h1 1 _ rfl
      have c2 := cells_at7 h1 2 _ rfl
      have c3 := cells_at7 h1 3 _ rfl
      have c4 := cells_at7 h1 4 _ rfl
      have c5 := cells_at7 h1 5 _ rfl
      have c6 := cells_at7 h1 6 _ rfl
      have hsp : ad.spot = none := by
        obtain ⟨cs0, g1, g2, _⟩ := hT 0 (by omega)
        subst g2
        have := spot_none7 (cells_at7 g1 0 _ rfl)
        simpa [Addr.add] using this
      have ead : ad.add (i * 7) = ⟨ad.block, ad.off + i * 7, none⟩ := add_none7 hsp _
      rw [ead] at c0 c1 c2 c3 c4 c5 c6
      rw [add_none7 rfl] at c0 c1 c2 c3 c4 c5 c6
      rw [← e]
      refine ⟨ad.block, ad.off, ?_, (T i).2.1, (T i).2.2, c0, c1, c2, c3, c4, c5, c6, s1, s2⟩
      obtain ⟨b, o, s⟩ := ad
      simp_all
    · obtain ⟨i, hi, rfl⟩ := List.mem_map.1 hx
      obtain ⟨_, _, _, _, _, s3, s4⟩ := hT i (List.mem_range.1 hi)
      exact ⟨s3, s4⟩

end Go.Proofs.YtlmgbcfcikdgpaaGreatDoor

namespace Go.Proofs.YtlmgbcfcikdgpaaGreatDoor.commuteTells
open Go.ChangeShapes Go.WideShapes Go.ChangeAt Go.RowKit Go.ChangeMaps
set_option maxRecDepth 100000

theorem lifted (os : Os) (started : os.Started) (H : Type) (enc : TypeId × Value → H) :
    ReturnsInHanded {} Tryz.checked os 3 .any (fun w args => (Rows.commuteTellsSpec.pre enc Tryz.prog Tryz.f3 Rows.commuteTellsRow.domain false w args ∧ laidMetH Tryz.prog Rows.commuteTellsRow.laid w) ∧ sizedMet enc Tryz.prog Tryz.f3 (OpenSpec.ofChange Rows.commuteTellsSpec) false w args)
      (Rows.commuteTellsSpec.post enc Tryz.prog Tryz.f3 false true false false) := by
  refine returnsInHanded_of_change_and (C := Tryz.checked) (X := fun w _ => laidMetH Tryz.prog Rows.commuteTellsRow.laid w) (fun _ _ _ hh h => h.of_heap hh) own started (by kernel_rfl) Tryz.func3
    (ChangeSpec.witness_shaped (enc := enc) (C := Tryz.checked) (os := os) (X := fun w _ => laidMetH Tryz.prog Rows.commuteTellsRow.laid w) false (World.laidAll Tryz.prog os Rows.commuteTellsRow.laid) #[.agg #[.int .i64 0, .string ⟨#[]⟩, .string ⟨#[]⟩, .string ⟨#[]⟩, .int .i64 0, .slice none 0 0, .slice none 0 0], .agg #[.int .i64 0, .string ⟨#[]⟩, .string ⟨#[]⟩, .string ⟨#[]⟩, .int .i64 0, .slice none 0 0, .slice none 0 0], .slice none 0 0] 8 (World.laidAll_os _ _ _)
      (World.shaped_of_ZipB (by kernel_rfl) (by kernel_rfl)) (by kernel_rfl) (by kernel_rfl) (by kernel_rfl)
      (by rw [MakeChecks.laidMetH_plain _ _ _ (by kernel_rfl)]; exact laidMet_laidAll _ (by kernel_rfl) (by kernel_rfl))) ?_
  intro W base args ds gs before hval0 hW _ hsz _ _
  have hval : ∀ (j : Nat) t v, Tryz.f3.params[j]? = some t → args[j]? = some v → Value.okWide Tryz.prog W .any base t v := hval0
  have hW' := hW
  obtain ⟨p, q, hA0, hV, rfl, hfz, hnd⟩ := hW
  have hA : DataW.TrodAll enc Tryz.prog W 0 (fun _ => true) true Tryz.f3.params.toList args.toList ds p := hA0
  rw [Tryz.params3] at hA hval
  obtain ⟨v0, vs0, d0, ds0, p0, q0, hargs, rfl, rfl, h0, r0⟩ := trodAll_cons hA
  obtain ⟨v1, vs1, d1, ds1, p1, q1, rfl, rfl, rfl, h1, r1⟩ := trodAll_cons r0
  obtain ⟨v2, vs2, d2, ds2, p2, q2, rfl, rfl, rfl, h2, r2⟩ := trodAll_cons r1
  obtain ⟨rfl, rfl, rfl⟩ := trodAll_nil r2
  obtain rfl : args = #[v0, v1, v2] := by cases args; simp_all
  obtain ⟨rfl, rfl⟩ := trodVars_none hV
  have hr := List.all_eq_true.1 hsz
  have lt0 : ∀ x ∈ p0, x.block < W.heap.size := by obtain ⟨m, hm⟩ := h0; exact DataW.trod_lt m _ _ _ hm
  obtain ⟨t0, vo0, vn0, rfl, so0, sn0, lo0, ln0⟩ := arg_prim (hval 0 24 v0 rfl rfl) h0 (fun n hn => by simpa using hr n (DataW.weights_mem_each (j := 0) (t := 24) (d := d0) rfl rfl n hn))
  have lt1 : ∀ x ∈ p1, x.block < W.heap.size := by obtain ⟨m, hm⟩ := h1; exact DataW.trod_lt m _ _ _ hm
  obtain ⟨t1, vo1, vn1, rfl, so1, sn1, lo1, ln1⟩ := arg_prim (hval 1 24 v1 rfl rfl) h1 (fun n hn => by simpa using hr n (DataW.weights_mem_each (j := 1) (t := 24) (d := d1) rfl rfl n hn))
  have lt2 : ∀ x ∈ p2, x.block < W.heap.size := by obtain ⟨m, hm⟩ := h2; exact DataW.trod_lt m _ _ _ hm
  obtain ⟨a2, n2, c2, L2, rfl, e2, E2, z2, x2⟩ := trod_prims (hval 2 25 v2 rfl rfl) h2 (fun n hn => by simpa using hr n (DataW.weights_mem_each (j := 2) (t := 25) (d := d2) rfl rfl n hn))
  clear hA0 hval0
  refine (tells_walk commute_all t0 t1 vo0 vn0 vo1 vn1 a2 n2 c2 L2 W so0 sn0 so1 sn1 (Nat.le_trans lo0 (by decide)) (Nat.le_trans ln0 (by decide)) (Nat.le_trans lo1 (by decide)) (Nat.le_trans ln1 (by decide)) e2 E2 z2 (fun x hx => ⟨(Nat.le_trans (x2 x hx).1 (by decide)), (Nat.le_trans (x2 x hx).2 (by decide))⟩)).mono fun e W' ⟨he, hfr⟩ => ?_
  have bel : Below W.heap.size W W' := hfr.below (Nat.le_refl _) (fun k e => e.elim)
  subst he
  exact ⟨_, rfl, _, _, _, [], _, [], hW', trodAll_mk1 (shut_bool Tryz.underlying4 _), (trodAll_cons_mk (Below.trod laidOut (by kernel_rfl) (of_decide_eq_true (by kernel_rfl)) h0 bel lt0) (trodAll_cons_mk (Below.trod laidOut (by kernel_rfl) (of_decide_eq_true (by kernel_rfl)) h1 bel lt1) (trodAll_cons_mk (Below.trod laidOut (by kernel_rfl) (of_decide_eq_true (by kernel_rfl)) h2 bel lt2) trodAll_mk0))), rfl, bel.frame _, fun h => by cases h⟩

theorem over : Rows.commuteTellsRow.holds Tryz.pinned (OpenSpec.ofChange Rows.commuteTellsSpec) :=
  OpenClaim.holds_of_wide 3 Tryz.f3 rfl rfl rfl rfl rfl rfl rfl ⟨rfl, rfl, rfl, rfl, rfl⟩ rfl rfl rfl rfl rfl (by kernel_rfl) Tryz.func3 (by kernel_rfl)
    (of_decide_eq_true (by kernel_rfl)) (by unfold Func.isWrapper; first | (rw [if_pos (by decide +kernel)]; kernel_rfl) | (rw [if_neg (by decide +kernel)]; exact ⟨rfl, rfl⟩))
    (fun os started H enc _ => lifted os started H enc)

end Go.Proofs.YtlmgbcfcikdgpaaGreatDoor.commuteTells
namespace Go.Proofs.YtlmgbcfcikdgpaaGreatDoor
theorem commuteTells_holds : Rows.CommuteTellsCardSaid :=
  Claim7.holds_tied_plain_at .later [] [.data, .pinned] true Rows.commuteTellsCard.stood.harness false commuteTells.over (fun _ h => by cases h) (by kernel_rfl) (fun _ h => by cases h) commuteTells_row_tie rfl ⟨rfl, rfl⟩ (by kernel_rfl) rfl
    (fun f fn hf hfn => by
      obtain rfl : f = 3 := Option.some.inj ((show Tryz.prog.funcNamed Rows.commuteTellsRow.func = some 3 by kernel_rfl).symm.trans hf) |>.symm
      obtain rfl : fn = Tryz.f3 := (Option.some.inj (Tryz.func3.symm.trans hfn)).symm
      exact ⟨by kernel_rfl, fun j t ht => by
        rw [Tryz.params3] at ht
        have hm : t ∈ [24, 25] := by simpa using Array.mem_of_getElem? ht
        have hall : ([24, 25].all fun u => !Tryz.prog.wantsStandIn u) = true := by kernel_rfl
        exact (show Tryz.prog.wantsStandIn t = false by simpa using List.all_eq_true.1 hall t hm)⟩)
    (by kernel_rfl)
#print axioms commuteTells_holds
end Go.Proofs.YtlmgbcfcikdgpaaGreatDoor
