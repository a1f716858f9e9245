/-
  What is proved here: what the document's constants answers. No condition.
-/
import Derived.Test.YtklefjmihapdpaaSRWords
namespace Go.Proofs.Ytklefjmihapdpaa.Sha
open Go.RowKit
set_option maxRecDepth 100000

set_option maxHeartbeats 4000000 in
theorem rconsts_any (w : World) : Calls Try.prog 48 #[] w fun e w' => e = .returned (.agg (arr 64 (n32 kc))) ∧ Fr None' w w' := by
  go_enter Try.func48, Try.ntmps48
  go_wp2_with (refine store_arr info64 w.heap.size (f0 := n32 fun _ => 0) (f := n32 kc) (rowIs_of (heap_alloc_new w _)) (fun _ _ => rfl) _ _ rfl rfl rfl rfl rfl ?_)
  generalize hw : World.setRow _ _ _ = w'
  obtain ⟨r, f⟩ := new_row (n := 64) rfl hw
  exact bodyPost_ret (v := .agg (arr 64 (n32 kc))) (result_arr Try.underlying78 info64 rfl _ rfl r) rfl ⟨rfl, f⟩

theorem Own.got {e : TypeId} {k : IntKind} {w0 w : World} {v : Value} {l : List Int} (h : Own e k w0 w v l) (hl : 0 < l.length) : ∃ g c, v = .slice (some ⟨g, 0, none⟩) l.length c ∧ l.length ≤ c ∧ w0.heap.size ≤ g ∧ g < w.heap.size ∧ ∀ i, i < l.length → w.cell? ⟨g, i, none⟩ = some (.int k (l.getD i 0)) := by
  rcases h.2 with ⟨_, h0⟩ | ⟨g, cap, cur, hv, hb, hh, hc, _, hs, ht⟩
  · omega
  · refine ⟨g, cap, hv, hc, hb, (Array.getElem?_eq_some_iff.1 hh).1, fun i hi => ?_⟩
    have hl : (l.map (Value.int k))[i]? = some (.int k (l.getD i 0)) := by
      rw [List.getElem?_map, List.getElem?_eq_getElem hi, List.getD_eq_getElem?_getD, List.getElem?_eq_getElem hi]; rfl
    rw [← ht, List.getElem?_take, if_pos (by omega)] at hl
    rw [World.cell?, hh]
    simpa using hl
end Go.Proofs.Ytklefjmihapdpaa.Sha
