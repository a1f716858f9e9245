/-
  What is proved here: what Join and Right answer. Conditions: the rows lie in memory; the texts together are shorter than a hundred million bytes.
-/
import Derived.Test.YtmoocmajfgghhaaRJoin
import Derived.Test.YtmoocmajfgghhaaRSame
import Derived.Test.YtmoocmajfgghhaaLay
namespace Go.Proofs.Ytmoocmajfgghhaa
open Go.RowKit Go.Shelf
set_option maxRecDepth 100000

theorem builder_cells (l : Bs) (x : ByteArray) : Lib.byteCells l ++ Lib.strCells x = Lib.byteCells (l ++ x.data.toList) := by rw [Lib.byteCells_append]; rfl

/-- What is kept from w on, where only what lay there must be kept. -/
theorem Fr.then_below {a b c : World} (h : Fr None' a b) (k : Below a.heap.size b c) : Fr None' a c :=
  ⟨k.os.trans h.os, k.tape.trans h.tape, k.output.trans h.output, Nat.le_trans h.size k.size, fun i hi _ => (k.block i hi).trans (h.block i hi id)⟩

set_option maxHeartbeats 2000000 in
theorem join_any (va : Option Addr) (ca : Nat) (l : List ByteArray) (w : World) (ha : Row w va l) (hl : (l.length : Int) < 1000000) (hb : (join (bs l)).length ≤ 100000000) :
    Calls Try.prog 14 #[.slice va l.length ca] w fun e w' => e = .returned (.string ⟨(join (bs l)).toArray⟩) ∧ Fr None' w w' := by
  obtain ⟨n, hna⟩ : ∃ n, l.length = n := ⟨_, rfl⟩
  have HA : Hid (l.length = n) := hna
  have HB : Hid ((join (bs l)).length ≤ 100000000) := hb
  rw [hna] at hl ⊢
  clear hb hna
  go_enter Try.func14, Try.ntmps14
  go_wp2_with fail
  go_loopw [8] (fun i wr => ∃ k : Nat, k ≤ n ∧ i = .int .i64 k ∧ Lib.IsBuilderF 43 5 w.heap.size w.heap.size (Lib.byteCells (join (bs (l.take k)))) wr ∧ Fr None' w wr) (fun i _ => n - (intOf i).toNat)
  case atStart => exact ⟨0, Nat.zero_le _, rfl, Lib.IsBuilderF.of (Lib.fresh_isBuilder 43 5 w), Fr.alloc _ _ _⟩
  case round =>
    obtain ⟨k, hk, rfl, hI, fr⟩ := hrel
    have hsz := fr.size
    by_cases hlt : k < n
    · have hka : k < l.length := by rw [HA.out]; exact hlt
      obtain ⟨ga, oa, rfl, c1⟩ := (ha.fr fr).get hka
      have HI : Hid _ := item_le hka
      have HJ : Hid _ := join_take hka
      obtain ⟨x, hx⟩ : ∃ x, l[k] = x := ⟨_, rfl⟩
      rw [hx] at c1 HI HJ
      clear hx ha
      have i2 : (k : Int) < n := by omega
      have cW := Try.Builder_WriteString_k w.heap.size w.heap.size _ x wr hI (by rw [Lib.byteCells_length]; have := HI.out; have := HB.out; omega) hsz
      rw [builder_cells] at cW
      go_wp2_with fail
      refine cW.mono ?_
      rintro e w1 ⟨rfl, h1, b1, _⟩
      have f1 : Fr None' w w1 := fr.then_below b1
      have cW2 := Try.Builder_WriteString_k w.heap.size w.heap.size _ ⟨#[10]⟩ w1 (.inr h1) (by rw [Lib.byteCells_length, List.length_append, len_eq]; have := HI.out; have := HB.out; show _ + 1 ≤ _; omega) f1.size
      rw [builder_cells, show (⟨#[10]⟩ : ByteArray).data.toList = [10] from rfl, ← HJ.out] at cW2
      clear cW h1 b1 c1
      go_wp2_with fail
      refine cW2.mono ?_
      rintro e w2 ⟨rfl, h2, b2, _⟩
      clear cW2
      go_wp2_with fail
      exact ⟨⟨k + 1, by omega, by go_num, .inr h2, f1.then_below b2⟩, by simp [intOf]; omega⟩
    · have HK : Hid (l.take k = l) := List.take_of_length_le (by rw [HA.out]; omega)
      rw [HK.out] at hI
      have cS := Try.Builder_String_any_k w.heap.size w.heap.size _ wr hI hsz
      go_wp2_with fail
      refine cS.mono ?_
      rintro e w1 ⟨rfl, _, b1, _⟩
      go_wp2_with fail
      go_ret
      exact ⟨rfl, fr.then_below b1⟩

end Go.Proofs.Ytmoocmajfgghhaa
