/-
  What is proved here: what Great tells of a row of calls. Condition: the calls lie in memory, and are no greater than the reach.
-/
import Derived.Test.YthnneejkbobbcaaOps
import Derived.Deep.RegionHeld3
namespace Go.Proofs.Ythnneejkbobbcaa
open Go.RowKit Go.Maps Go.WideMaps
set_option maxRecDepth 100000

theorem OpsAt.kept {w w' : World} {B : Nat} {v : Value} {L : List OpD} {M : Nat → Prop} (h : OpsAt w B v L) (hf : Fr M w w') (hM : ∀ k, M k → B ≤ k) (hB : B ≤ w.heap.size) : OpsAt w' B v L := by
  rcases h with h | ⟨ad, c, hv, hc⟩
  · exact Or.inl h
  · refine Or.inr ⟨ad, c, hv, fun i o hi => ?_⟩
    obtain ⟨h0, h1, vb, vk, h2, h3, c0, c1, c2, c3, c4, c5⟩ := hc i o hi
    have hk : ∀ off, w'.cell? ⟨ad.block, off, none⟩ = w.cell? ⟨ad.block, off, none⟩ := fun off =>
      World.cell?_of_block (w := w) (a := ⟨ad.block, off, none⟩) (hf.block ad.block (by omega) (fun e => by have := hM _ e; omega))
    exact ⟨h0, h1, vb, vk, h2.kept hf hM, h3, (hk _).trans c0, (hk _).trans c1, (hk _).trans c2, (hk _).trans c3, (hk _).trans c4, (hk _).trans c5⟩

theorem OpsAt.shape {w : World} {B : Nat} {v : Value} {L : List OpD} (h : OpsAt w B v L) : ∃ va vc, v = .slice va L.length vc ∧ ∀ i o, L[i]? = some o → ∃ g off vb vk, va = some ⟨g, off, none⟩ ∧ g < B ∧ OpVal w B o vb vk ∧ o.keep.length ≤ reachBytes ∧
    w.cell? ⟨g, off + i * 6, none⟩ = some (.int .i64 o.what) ∧ w.cell? ⟨g, off + i * 6 + 1, none⟩ = some (.string o.a) ∧ w.cell? ⟨g, off + i * 6 + 2, none⟩ = some (.string o.to) ∧
    w.cell? ⟨g, off + i * 6 + 3, none⟩ = some vb ∧ w.cell? ⟨g, off + i * 6 + 4, none⟩ = some (.int .i64 o.n) ∧ w.cell? ⟨g, off + i * 6 + 5, none⟩ = some vk := by
  rcases h with ⟨rfl, rfl⟩ | ⟨ad, c, rfl, hc⟩
  · exact ⟨none, 0, rfl, fun i o hi => by simp at hi⟩
  · refine ⟨_, c, rfl, fun i o hi => ?_⟩
    obtain ⟨h0, h1, vb, vk, r⟩ := hc i o hi
    exact ⟨ad.block, ad.off, vb, vk, by rw [← h0], h1, r⟩

theorem bools_slice {w : World} {v : Value} {l : List Bool} (h : Bools w v l) : ∃ a c, v = .slice a l.length c := by
  rcases h with ⟨rfl, rfl⟩ | ⟨ad, c, rfl, _⟩
  · exact ⟨none, 0, rfl⟩
  · exact ⟨_, _, rfl⟩

theorem min_nat (n c : Nat) : ∃ m : Nat, (if (c : Int) < (n : Int) then (c : Int) else (n : Int)) = (m : Int) ∧ m = min n c := by
  refine ⟨min n c, ?_, rfl⟩
  split <;> omega

/-- Of the first k calls: what they have is at most N. -/
def Under (L : List OpD) (k N : Nat) : Prop := ∀ j o, j < k → L[j]? = some o → min o.b.length 200000 ≤ N ∧ o.keep.length ≤ N

theorem sum5 (N a t b k : Nat) (h1 : N < 1000000) (h2 : a < 1000000) (h3 : t < 1000000) (h4 : b < 1000000) (h5 : k < 140737488355328) :
    IntKind.i64.wrap (IntKind.i64.wrap (IntKind.i64.wrap (IntKind.i64.wrap ((N : Int) + a) + t) + b) + k) = ((N + a + t + b + k : Nat) : Int) := by
  have e1 : IntKind.i64.wrap ((N : Int) + a) = N + a := wrap_small (by omega) (by omega)
  have e2 : IntKind.i64.wrap ((N : Int) + a + t) = N + a + t := wrap_small (by omega) (by omega)
  have e3 : IntKind.i64.wrap ((N : Int) + a + t + b) = N + a + t + b := wrap_small (by omega) (by omega)
  have e4 : IntKind.i64.wrap ((N : Int) + a + t + b + k) = N + a + t + b + k := wrap_small (by omega) (by omega)
  rw [e1, e2, e3, e4]
  omega

theorem under_step {L : List OpD} {k N N' : Nat} {o : OpD} (h : Under L k N) (ho : L[k]? = some o) (hN : N ≤ N') (hb : min o.b.length 200000 ≤ N') (hk : o.keep.length ≤ N') : Under L (k + 1) N' := by
  intro j o' hj ho'
  by_cases e : j = k
  · subst e
    rw [ho] at ho'; cases ho'
    exact ⟨hb, hk⟩
  · have := h j o' (by omega) ho'
    omega

theorem under_end {L : List OpD} {N : Nat} (h : Under L L.length N) (hN : N < 200000) : ∀ o ∈ L, o.b.length < 200000 ∧ o.keep.length < 200000 := by
  intro o ho
  obtain ⟨j, hj⟩ := List.getElem?_of_mem ho
  have := h j o (List.getElem?_eq_some_iff.1 hj).1 hj
  omega

def GreatTold (L : List OpD) (w : World) (e : Ending) (w' : World) : Prop :=
  ∃ g, e = .returned (.bool g) ∧ Fr None' w w' ∧ (g = false → L.length ≤ 300 ∧ ∀ o ∈ L, o.b.length < 200000 ∧ o.keep.length < 200000)

theorem great_round {L : List OpD} {w wr : World} {k N mA mT mB : Nat} {o : OpD} (HN : L.length ≤ N ∧ Under L k N ∧ mB = min o.b.length 200000 ∧ Fr None' w wr ∧ L[k]? = some o) (hlt : k < L.length) (hs : (N : Int) < 200000) (hA : (mA : Int) ≤ 1000) (hT : (mT : Int) ≤ 1000) (hB : (mB : Int) ≤ 200000) (hK : (o.keep.length : Int) < 140737488355328) :
    (∃ k1 N1 : Nat, k1 ≤ L.length ∧ Value.int .i64 (wrap64 ((k : Int) + 1)) = .int .i64 k1 ∧ Value.int .i64 (IntKind.i64.wrap (IntKind.i64.wrap (IntKind.i64.wrap (IntKind.i64.wrap ((N : Int) + mA) + mT) + mB) + o.keep.length)) = .int .i64 N1 ∧
      L.length ≤ N1 ∧ N1 < 422212465065984 ∧ Under L k1 N1 ∧ Fr None' w wr.drew) ∧ L.length - (intOf (.int .i64 (wrap64 ((k : Int) + 1)))).toNat < L.length - (intOf (.int .i64 (k : Int))).toNat := by
  obtain ⟨q1, q2, q3, q4, q5⟩ := HN
  have e1 : wrap64 ((k : Int) + 1) = ((k + 1 : Nat) : Int) := by
    rw [← IntWalk.i64_left]
    exact (wrap_small (by omega) (by omega)).trans (by omega)
  have e2 := sum5 N mA mT mB o.keep.length (by omega) (by omega) (by omega) (by omega) (by omega)
  rw [e1, e2]
  refine ⟨⟨k + 1, N + mA + mT + mB + o.keep.length, by omega, rfl, rfl, by omega, by omega, under_step q2 q5 (by omega) (by omega) (by omega), q4.then (Fr.drew _ _)⟩, ?_⟩
  show L.length - (((k + 1 : Nat) : Int)).toNat < L.length - ((k : Int)).toNat
  omega

set_option maxHeartbeats 4000000 in
theorem great_any (B : Nat) (v : Value) (L : List OpD) (w : World) (h : OpsAt w B v L) (hL : L.length ≤ reachBytes) :
    Calls Try.prog 6 #[v] w fun e w' => GreatTold L w e w' := by
  obtain ⟨va, vc, rfl, hat⟩ := h.shape
  have hreach : reachBytes < 140737488355328 := by decide
  go_enter Try.func6, Try.ntmps6
  go_wp2
  go_loopw [3, 4] (fun n i wr => ∃ k N : Nat, k ≤ L.length ∧ i = .int .i64 k ∧ n = .int .i64 N ∧ L.length ≤ N ∧ N < 422212465065984 ∧ Under L k N ∧ Fr None' w wr) (fun _ i _ => L.length - (intOf i).toNat)
  case atStart => exact ⟨0, L.length, Nat.zero_le _, rfl, rfl, Nat.le_refl _, by omega, fun j o hj => by omega, Fr.refl _ _⟩
  case round =>
    obtain ⟨k, N, hk, rfl, rfl, hLN, hN, hun, hfr⟩ := hrel
    by_cases hlt : k < L.length
    · by_cases hs : N < 200000
      · obtain ⟨o, ho⟩ : ∃ o, L[k]? = some o := ⟨L[k], by simp [hlt]⟩
        obtain ⟨g, off, vb, vk, rfl, hgB, hov, hkl, c0, c1, c2, c3, c4, c5⟩ := hat k o ho
        obtain ⟨sb, cb, rfl⟩ := bytes_slice hov.1
        obtain ⟨sk, ck, rfl⟩ := bools_slice hov.2.1
        have i0 : (0 : Int) ≤ (k : Int) := by omega
        have i1 : (k : Int) < (L.length : Int) := by omega
        have hc : ∀ w', Fr None' w w' → w'.cell? ⟨g, off + k * 6 + 1, none⟩ = some (.string o.a) ∧ w'.cell? ⟨g, off + k * 6 + 2, none⟩ = some (.string o.to) ∧ w'.cell? ⟨g, off + k * 6 + 3, none⟩ = some (.slice sb o.b.length cb) ∧ w'.cell? ⟨g, off + k * 6 + 5, none⟩ = some (.slice sk o.keep.length ck) := fun w' hf => by
          have hlt : g < w.heap.size := by
            unfold World.cell? at c1
            split at c1
            · rename_i hk; exact lt_of_some hk
            · cases c1
          have hk : ∀ off, w'.cell? ⟨g, off, none⟩ = w.cell? ⟨g, off, none⟩ := fun off => World.cell?_of_block (w := w) (a := ⟨g, off, none⟩) (hf.block g hlt (fun e => e))
          exact ⟨(hk _).trans c1, (hk _).trans c2, (hk _).trans c3, (hk _).trans c5⟩
        obtain ⟨d1, d2, d3, d5⟩ := hc wr hfr
        obtain ⟨mA, eA, hA⟩ := min_nat o.a.size 1000
        obtain ⟨mT, eT, hT⟩ := min_nat o.to.size 1000
        obtain ⟨mB, eB, hB⟩ := min_nat o.b.length 200000
        have HN : Hid (L.length ≤ N ∧ Under L k N ∧ mB = min o.b.length 200000 ∧ Fr None' w wr ∧ L[k]? = some o) := ⟨hLN, hun, hB, hfr, ho⟩
        have hs' : (N : Int) < 200000 := by omega
        have hA' : (mA : Int) ≤ 1000 := by omega
        have hT' : (mT : Int) ≤ 1000 := by omega
        have hB' : (mB : Int) ≤ 200000 := by omega
        have hK' : (o.keep.length : Int) < 140737488355328 := by omega
        have eA' : (if (1000 : Int) < o.a.size then (1000 : Int) else o.a.size) = mA := eA
        have eT' : (if (1000 : Int) < o.to.size then (1000 : Int) else o.to.size) = mT := eT
        have eB' : (if (200000 : Int) < o.b.length then (200000 : Int) else o.b.length) = mB := eB
        clear hat c0 c1 c2 c3 c4 c5 hov hc hL hN hkl hreach hun hLN ho hfr h hs hA hT hB eA eT eB
        go_wp2_with fail
        go_region_held3 (fun w' => w'.cell? ⟨g, off + k * 6 + 1, none⟩ = some (.string o.a) ∧ w'.cell? ⟨g, off + k * 6 + 2, none⟩ = some (.string o.to) ∧ w'.cell? ⟨g, off + k * 6 + 3, none⟩ = some (.slice sb o.b.length cb) ∧ w'.cell? ⟨g, off + k * 6 + 5, none⟩ = some (.slice sk o.keep.length ck))
          (go_keep) (fail)
        all_goals go_wp2
        all_goals exact great_round HN.out hlt hs' hA' hT' hB' hK'
      · have hs' : ¬ (N : Int) < 200000 := by omega
        have hN' : (200000 : Int) ≤ N := by omega
        clear hat h hun hs hN hL hreach hLN
        go_wp2
        go_ret
        exact ⟨true, rfl, hfr, fun e => by cases e⟩
    · have hkL : k = L.length := by omega
      subst hkL
      have HU : Hid (Under L L.length N) := hun
      clear hat h hun hN hL hreach hLN hlt hk
      by_cases hs : N < 200000
      · have hs' : (N : Int) < 200000 := by omega
        clear hs
        by_cases h3 : L.length ≤ 300
        · have h3' : ¬ (300 : Int) < L.length := by omega
          have H3 : Hid (L.length ≤ 300) := h3
          clear h3
          go_wp2
          go_ret
          exact ⟨false, by first | rfl | exact ret_bool (by simp; omega), hfr, fun _ => ⟨H3.out, under_end HU.out (by omega)⟩⟩
        · have h3' : (300 : Int) < L.length := by omega
          go_wp2
          go_ret
          exact ⟨true, rfl, hfr, fun e => by cases e⟩
      · have hs' : ¬ (N : Int) < 200000 := by omega
        have hN' : (200000 : Int) ≤ N := by omega
        clear hs
        go_wp2
        go_ret
        exact ⟨true, rfl, hfr, fun e => by cases e⟩

end Go.Proofs.Ythnneejkbobbcaa
