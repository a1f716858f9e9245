/-
  What is proved here: what bytes.Clone and maps.Clone leave, and what isName tells. Conditions: the bytes are fewer than 2^46; a name's size is one of a string.
-/
import Derived.Test.YthnneejkbobbcaaUsed
namespace Go.Proofs.Ythnneejkbobbcaa
open Go.RowKit Go.Maps Go.WideMaps
set_option maxRecDepth 100000

/-- The slice v, whoever made it, holds the bytes b. -/
def Bytes (w : World) (v : Value) (b : List UInt8) : Prop :=
  (v = .slice none 0 0 ∧ b = []) ∨ ∃ ad c, v = .slice (some ad) b.length c ∧ ∀ j u, (u8s b)[j]? = some u → w.cell? (ad.add j) = some u

theorem Data.bytes {w : World} {v : Value} {b : List UInt8} (h : Data w v b) : Bytes w v b := by
  rcases h.2 with ⟨hv, h0⟩ | ⟨g, cap, cur, hv, _, hh, _, _, _, ht⟩
  · exact Or.inl ⟨hv, by simpa using h0⟩
  · refine Or.inr ⟨_, _, hv, fun j u hj => ?_⟩
    rw [← ht] at hj
    have hj' : cur.toList[j]? = some u := by
      rw [List.getElem?_take] at hj
      split at hj
      · exact hj
      · cases hj
    have e : (⟨g, 0, none⟩ : Addr).add j = ⟨g, j, none⟩ := by unfold Addr.add; split <;> simp_all
    rw [e]
    simp [World.cell?, hh]
    simpa using hj'

theorem cell_alloc {w : World} {a : Addr} {u : Value} (h : w.cell? a = some u) (o : Obj) : (w.alloc o).cell? a = some u := by
  have hlt : a.block < w.heap.size := by
    unfold World.cell? at h
    split at h
    · rename_i hk; exact lt_of_some hk
    · cases h
  rw [World.cell?_of_block (w := w) (Below.heap_alloc _ _ _ hlt)]
  exact h

theorem Data.nil (w : World) : Data w (.slice none 0 0) [] := ⟨rfl, Or.inl ⟨rfl, rfl⟩⟩

theorem Try.infoU : (Try.prog.info? 5).map (fun i => (i.zero, i.size, i.bytes)) = some (some (.int .u8 0), 1, 1) := by kernel_rfl
theorem Try.infoC : (Try.prog.info? 75).map (fun i => (i.zero, i.size, i.bytes)) = some (some .nilFunc, 1, 8) := by kernel_rfl

theorem u8s_one (b : List UInt8) : ∀ u ∈ u8s b, u.oneCell' = true := by
  intro u hu
  obtain ⟨c, _, rfl⟩ := List.mem_map.1 hu
  rfl

set_option maxHeartbeats 1000000 in
theorem bclone_any (v : Value) (b : List UInt8) (w : World) (h : Bytes w v b) (hb : b.length ≤ 70368744177664) :
    Calls Try.prog 27 #[v] w fun e w' => ∃ v', e = .returned v' ∧ Data w' v' b ∧ Fr None' w w' := by
  have hq := fun (w : World) (a : Option Addr) (n c : Nat) => Lib.run_eql_slice_nil (P := Try.prog) w 33 5 a n c 0 0 Try.underlying33
  obtain ⟨i0, hi, hz0, hz1, hz2⟩ := info_parts Try.infoU
  rcases h with ⟨rfl, rfl⟩ | ⟨ad, c, rfl, hc⟩
  · go_enter Try.func27, Try.ntmps27
    go_wp2
    go_ret
    exact ⟨_, rfl, Data.nil _, Fr.refl _ _⟩
  · have hlen : (u8s b).length = b.length * 1 := by simp [u8s]
    have hcell : ∀ o j u, (u8s b)[j]? = some u → (w.alloc o).cell? (ad.add j) = some u := fun o j u hj => cell_alloc (hc j u hj) o
    have hone := u8s_one b
    have hown : ∀ e, (w.alloc (.cells #[] e)).ownsRow 0 e 1 (.slice (some ⟨w.heap.size, 0, none⟩) 0 0) 0 [] := fun e =>
      ⟨rfl, Or.inr ⟨w.heap.size, 0, #[], rfl, Nat.zero_le _, (MapKept.heap_alloc w _).1, Nat.le_refl _, Nat.zero_le _, rfl, rfl⟩⟩
    clear hc
    go_enter Try.func27, Try.ntmps27
    go_wp2_with (first
      | (at_builtin; refine wpList_append_own_at _ rfl _ _ 33 rfl 0 5 i0 (.int .u8 0) 1 1 Try.underlying33 hi hz0 hz1 hz2 rfl (by decide) _ 0 [] rfl (hown _) ad b.length c (u8s b) rfl hlen (hcell _) hone (by unfold maxLen; omega) (by omega) (Nat.zero_le _) ?_; intro v' w1 hown1 hg1 hnil hloc)
      | go_in)
    go_ret
    refine ⟨_, rfl, ?_, ?_⟩
    · simpa [Data] using hown1
    · exact (Fr.alloc _ _ _).trans (M' := fun k => w.heap.size ≤ k) (Fr.grown hg1 (fun k e => by cases e; exact Nat.le_refl _)) (fun i hi => Or.inr hi)

end Go.Proofs.Ythnneejkbobbcaa
