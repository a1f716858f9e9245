/- What is proved here: contracts for RecordMakes. Conditions: as named. -/
import Derived.Test.YtbnfjjjdnbcehaaGreatDoorXFRound
import Derived.Test.YtbnfjjjdnbcehaaGreatDoorX5FEx
set_option maxHeartbeats 16000000
namespace Go.Proofs.YtbnfjjjdnbcehaaGreatDoor.Diff
open Go.RowKit
set_option maxRecDepth 100000
def StrAt (w : World) (v : Value) (l : List ByteArray) : Prop := ∃ va c, v = .slice va l.length c ∧ (va = none → c = 0) ∧ l.length ≤ c ∧ Row w va l
theorem StrAt.fr {M : Nat → Prop} {w w' : World} {v : Value} {l : List ByteArray} (h : StrAt w v l) (f : Fr M w w') (hm : ∀ k, Zr v k → ¬ M k) : StrAt w' v l := by
 obtain ⟨va, c, rfl, h1, h2, h3⟩ := h
 exact ⟨va, c, rfl, h1, h2, h3.frM f (fun a e => hm _ (by rw [e]; rfl))⟩
theorem StrAt.kept {w w' : World} {v : Value} {l : List ByteArray} (h : StrAt w v l) (f : Fr None' w w') : StrAt w' v l := h.fr f (fun _ _ e => e)
theorem OwnV.strAt {base : Nat} {w : World} {v : Value} {l : List ByteArray} (h : OwnV base w 9 v (l.map .string)) : StrAt w v l := by
 obtain ⟨va, c, hv, h1, h2, h3, _⟩ := h.slice
 rw [List.length_map] at hv h1
 exact ⟨va, c, hv, h2, h1, h3.row⟩
def HunksAt (w : World) (v : Value) (L : List (Hk ByteArray)) : Prop := ∃ va c, v = .slice va L.length c ∧ (va = none → c = 0) ∧ ∀ k h, L[k]? = some h → ∃ g o vo vn, va = some ⟨g, o, none⟩ ∧ w.cell? ⟨g, o + k * 3, none⟩ = some (.int .i64 (h.at' : Int)) ∧ w.cell? ⟨g, o + k * 3 + 1, none⟩ = some vo ∧ w.cell? ⟨g, o + k * 3 + 2, none⟩ = some vn ∧ StrAt w vo h.o ∧ StrAt w vn h.n
theorem HunksAt.kept {w w' : World} {v : Value} {L : List (Hk ByteArray)} (h : HunksAt w v L) (f : Fr None' w w') : HunksAt w' v L := by
 obtain ⟨va, c, h1, h2, h3⟩ := h
 refine ⟨va, c, h1, h2, fun k x hk => ?_⟩
 obtain ⟨g, o, vo, vn, e, c1, c2, c3, s1, s2⟩ := h3 k x hk
 exact ⟨g, o, vo, vn, e, f.cell c1 (fun e => e), f.cell c2 (fun e => e), f.cell c3 (fun e => e), s1.kept f, s2.kept f⟩
def hcells : List (Hk ByteArray) → List (Value × Value) → List Value
 | h :: L, (vo, vn) :: V => .int .i64 (h.at' : Int) :: vo :: vn :: hcells L V
 | _, _ => []
theorem hcells_snoc : ∀ (L : List (Hk ByteArray)) (V : List (Value × Value)) (h : Hk ByteArray) (vo vn : Value), V.length = L.length → hcells (L ++ [h]) (V ++ [(vo, vn)]) = hcells L V ++ [.int .i64 (h.at' : Int), vo, vn]
 | [], [], h, vo, vn, _ => rfl
 | [], _ :: _, h, vo, vn, e => by cases e
 | x :: L, [], h, vo, vn, e => by cases e
 | x :: L, (a, b) :: V, h, vo, vn, e => by
  simp only [List.cons_append, hcells]
  rw [hcells_snoc L V h vo vn (by simpa using e)]
theorem hcells_get : ∀ (L : List (Hk ByteArray)) (V : List (Value × Value)) (k : Nat) (h : Hk ByteArray) (p : Value × Value), L[k]? = some h → V[k]? = some p → (hcells L V)[k * 3]? = some (.int .i64 (h.at' : Int)) ∧ (hcells L V)[k * 3 + 1]? = some p.1 ∧ (hcells L V)[k * 3 + 2]? = some p.2
 | [], _, k, h, p, e, _ => by simp at e
 | x :: L, [], k, h, p, _, e => by simp at e
 | x :: L, (a, b) :: V, 0, h, p, e1, e2 => by
  simp at e1 e2
  subst e1 e2
  exact ⟨rfl, rfl, rfl⟩
 | x :: L, (a, b) :: V, k + 1, h, p, e1, e2 => by
  have := hcells_get L V k h p (by simpa using e1) (by simpa using e2)
  simp only [hcells]
  rw [Nat.succ_mul]
  exact this
theorem infoH : (Tryz.prog.info? 103).map (fun i => (i.zero, i.size, i.bytes)) = some (some (.agg #[.int .i64 0, .slice none 0 0, .slice none 0 0]), 3, 56) := by kernel_rfl
theorem append_hunk {base n : Nat} {w : World} {v : Value} {xs : List Value} (hown : w.ownsRow base 103 3 v n xs) {b : Nat} {u1 u2 u3 : Value} (hb : w.heap[b]? = some (.cells #[u1, u2, u3] 103 (0, 0))) (h1 : u1.oneCell' = true) (h2 : u2.oneCell' = true) (h3 : u3.oneCell' = true) (hn : n ≤ 100000) (hbase : base ≤ w.heap.size) :
  ∃ g c w', (Builtin.append_ #[100, 100] 100 #[v, .slice (some ⟨b, 0, none⟩) 1 1]).run Tryz.prog w = .ok (.slice (some ⟨g, 0, none⟩) (n + 1) c) w' ∧ w'.ownsRow base 103 3 (.slice (some ⟨g, 0, none⟩) (n + 1) c) (n + 1) (xs ++ [u1, u2, u3]) ∧ Fr (Zr v) w w' ∧ (Zr v g ∨ g = w.heap.size) := by
 obtain ⟨i0, hi, hz0, hz1, hz2⟩ := info_parts infoH
 obtain ⟨v', w', hr, h4, h5, _, h6⟩ := run_append_own_at (P := Tryz.prog) w base 100 100 103 i0 _ 3 56 Tryz.underlying100 hi hz0 hz1 hz2 rfl (by decide) v n xs hown ⟨b, 0, none⟩ 1 1 [u1, u2, u3] rfl (World.news_of_block hb) (fun u hu => by
  simp at hu
  rcases hu with rfl | rfl | rfl
  ·exact h1
  ·exact h2
  ·exact h3) (by unfold maxLen; omega) (by omega) hbase
 rcases h4.2 with ⟨_, e⟩ | ⟨g, cap, cur, hv, _⟩
 ·omega
 ·subst hv
  refine ⟨g, cap, w', hr, h4, Fr.grown h5 (fun k e => e), ?_⟩
  have := own_or h6 (k := g) rfl
  exact this
theorem slice_ex {w : World} {va : Option Addr} {a : List ByteArray} {na ca i x : Nat} (hr : Row w va a) (hna : a.length = na) (hix : i ≤ x) (hx : x ≤ na) (hc : na ≤ ca) (hn : va = none → ca = 0) :
  ∃ va1 c1, (∀ v, (Instr.sliceAt 41 (.slice va na ca) (some (.int .i64 i)) (some (.int .i64 x)) none).run Tryz.prog v = .ok (.slice va1 (x - i) c1) v) ∧ Row w va1 ((a.drop i).take (x - i)) ∧ (va1 = none → c1 = 0) ∧ x - i ≤ c1 ∧ ∀ y, va1 = some y → ∃ z, va = some z ∧ y.block = z.block := by
 have he : ∀ v, (sizeOf (Tryz.prog.elem 41)).run Tryz.prog v = .ok 1 v := fun v => by
  have : Tryz.prog.elem 41 = 9 := by kernel_rfl
  rw [this]
  exact Tryz.sizeOf9 v
 have hu : Tryz.prog.underlying 41 = some (.slice (Tryz.prog.elem 41)) := by kernel_rfl
 have hrun : ∀ v, (Instr.sliceAt 41 (.slice va na ca) (some (.int .i64 i)) (some (.int .i64 x)) none).run Tryz.prog v = .ok (sliced va i x ca 1) v := fun v => by
  rw [run_sliceAt_slice v _ _ _ _ _ hu, run_slice_lh v _ _ _ _ hu .i64 .i64 (i : Int) (x : Int) (by omega) (by omega) (by omega), he]
  rfl
 by_cases e : i = ca
 ·have ex : x = i := by omega
  subst ex
  refine ⟨va, 0, fun v => ?_, ?_, fun h => rfl, by omega, fun y hy => ⟨y, hy, rfl⟩⟩
  ·rw [hrun]
   unfold sliced
   simp [e]
  ·rw [Nat.sub_self, List.take_zero]
   exact Row.nil _ _
 ·cases va with
  | none => exact absurd (hn rfl) (by omega)
  | some ad =>
   obtain ⟨g, o, sp⟩ := ad
   by_cases e0 : x = i
   ·subst e0
    refine ⟨some ((⟨g, o, sp⟩ : Addr).add (x * 1)), ca - x, fun v => ?_, ?_, (fun h => by cases h), by omega, fun y hy => ⟨_, rfl, by cases hy; unfold Addr.add; split <;> rfl⟩⟩
    ·rw [hrun]
     unfold sliced
     rw [if_neg (fun h => e h.symm)]
     rfl
    ·rw [Nat.sub_self, List.take_zero]
     exact Row.nil _ _
   ·obtain ⟨g', o', e1, hc'⟩ := hr.get (k := i) (by omega)
    cases e1
    refine ⟨some ⟨g, o + i, none⟩, ca - i, fun v => ?_, hr.part i (x - i), (fun h => by cases h), by omega, fun y hy => ⟨_, rfl, by cases hy; rfl⟩⟩
    rw [hrun]
    unfold sliced
    rw [if_neg (fun h => e h.symm)]
    simp [Addr.add]
theorem rest_ex {w : World} {va : Option Addr} {a : List ByteArray} {na ca i : Nat} (hr : Row w va a) (hna : a.length = na) (hx : i ≤ na) (hc : na ≤ ca) (hn : va = none → ca = 0) :
  ∃ va1 c1, (∀ v, (Instr.sliceAt 41 (.slice va na ca) (some (.int .i64 i)) none none).run Tryz.prog v = .ok (.slice va1 (na - i) c1) v) ∧ Row w va1 (a.drop i) ∧ (va1 = none → c1 = 0) ∧ na - i ≤ c1 ∧ ∀ y, va1 = some y → ∃ z, va = some z ∧ y.block = z.block := by
 obtain ⟨va1, c1, h1, h2, h3, h4, h5⟩ := slice_ex hr hna hx (Nat.le_refl _) hc hn
 refine ⟨va1, c1, fun v => ?_, ?_, h3, h4, h5⟩
 ·rw [← h1 v]
  have hu : Tryz.prog.underlying 41 = some (.slice (Tryz.prog.elem 41)) := by kernel_rfl
  rw [run_sliceAt_slice v _ _ _ _ _ hu, run_sliceAt_slice v _ _ _ _ _ hu, run_slice_lh v _ _ _ _ hu .i64 .i64 (i : Int) (na : Int) (by omega) (by omega) (by omega), run_slice_l v _ _ _ _ hu .i64 (i : Int) (by omega) (by omega)]
  rfl
 ·rw [List.take_of_length_le (by rw [List.length_drop, hna]; exact Nat.le_refl _)] at h2
  exact h2
end Go.Proofs.YtbnfjjjdnbcehaaGreatDoor.Diff
