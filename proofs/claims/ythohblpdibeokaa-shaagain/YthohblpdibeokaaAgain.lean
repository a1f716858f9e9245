/-
  What is proved here: ShaAgain answers true. Condition: its two texts lie in memory.
-/
import Derived.Test.YthohblpdibeokaaGrow
namespace Go.Proofs.Ythohblpdibeokaa
open Go.RowKit
set_option maxRecDepth 100000

set_option maxHeartbeats 4000000 in
theorem again_walk (va vb : Option Addr) (na ca nb cb : Nat) (ma mb : Nat → Int) (w : World) (ha : Byt w (.slice va na ca) na ma) (hb : Byt w (.slice vb nb cb) nb mb) (hn : va = none → ca = 0) :
   Calls Try.prog 5 #[.slice va na ca, .slice vb nb cb] w fun e w' => e = .returned (.bool true) ∧ Fr None' w w' := by
  go_enter Try.func5, Try.ntmps5
  go_wp2_with fail
  refine (head_any _).mono ?_
  rintro e w1 ⟨rfl, f1⟩
  by_cases hA : na ≤ 20000
  rotate_left
  · have i0 : (20000 : Int) < na := by omega
    clear ha hb hn
    go_wp2
    go_ret
    exact ⟨rfl, f1⟩
  have i0 : (na : Int) ≤ 20000 := by omega
  by_cases hB : nb ≤ 20000
  rotate_left
  · have i1 : (20000 : Int) < nb := by omega
    clear ha hb hn
    go_wp2
    go_ret
    exact ⟨rfl, f1⟩
  have i1 : (nb : Int) ≤ 20000 := by omega
  have sa := sum_any _ na ma w1 (ha.fr f1) (by omega)
  have HA : Hid _ := ha
  have HB : Hid _ := hb
  have HN : Hid _ := hn
  clear ha hb hn
  go_wp2_with fail
  refine sa.mono ?_
  rintro e w2 ⟨rfl, f2⟩
  have f02 := f1.then f2
  clear f1 f2 sa
  go_wp2_with (first
    | (refine store_arr2 info32 _ _ rfl rfl rfl w2.heap.size rfl rfl (fun _ _ => rfl) (f0 := n8 fun _ => 0) (rowIs_of (heap_alloc_new w2 _)) ?_
       intro w3 r3 f3))
  replace f3 := f02.then ((Fr.alloc None' w2 _).trans f3 (fun i e => Or.inr (by omega)))
  have l2 := f02.size
  clear f02
  have sb := sum_any _ nb mb w3 (Byt.fr HB.out f3) (by omega)
  refine sb.mono ?_
  rintro e w4 ⟨rfl, f4⟩
  have r4 := f4.rowIs r3 id
  have f04 := f3.then f4
  have l4 := r4.lt
  clear f3 f4 r3 sb HB
  have own0 := Own.empty (e := 5) (k := .u8) (w0 := w) f04.size
  have lies0 : Lies .u8 (w4.alloc (.cells #[] 5)) va na ma := Byt.lies (Byt.fr HA.out (f04.then (Fr.alloc None' w4 _)))
  go_wp2_with (first
    | (at_builtin
       refine append_num Try.underlying22 Try.info8 (by omega) rfl _ _ rfl rfl own0 (f04.then (Fr.alloc None' w4 _)) rfl lies0 HN.out (by simp; omega) ?_
       intro v5 w5 own5 f05 g5))
  rw [List.nil_append] at own5
  have r5 := g5.rowIs (Fr.rowIs (Fr.alloc None' w4 _) r4 id) (by intro e; have e : some w4.heap.size = some w2.heap.size := e; have e := Option.some.inj e; omega)
  clear r4 f04 own0 lies0 g5
  refine (sum_any _ na ma w5 (range_byt own5) (by omega)).mono ?_
  rintro e w6 ⟨rfl, f6⟩
  have r6 := f6.rowIs r5 id
  have f06 := f05.then f6
  clear r5 f05 f6 own5
  go_wp2_with (first
    | (refine store_arr2 info32 _ _ rfl rfl rfl w6.heap.size rfl rfl (fun _ _ => rfl) (f0 := n8 fun _ => 0) (rowIs_of (heap_alloc_new w6 _)) ?_
       intro wd rd fd))
  replace fd := (Fr.alloc None' w6 _).trans fd (fun i e => Or.inr (by omega))
  have xn := name_any _ na ma wd (Byt.fr HA.out (f06.then fd)) (by omega)
  refine xn.mono ?_
  rintro e w7 ⟨rfl, f7⟩
  have r7 := f7.rowIs (fd.rowIs r6 id) id
  have d7 := f7.rowIs rd id
  have f07 := f06.then (fd.then f7)
  clear r6 f06 f7 xn HA HN rd fd
  obtain ⟨x, hx⟩ : ∃ x : ByteArray, (⟨(nameS na ma).toArray⟩ : ByteArray) = x := ⟨_, rfl⟩
  have z1 : x.size = 64 := by rw [← hx]; show (nameS na ma).toArray.size = 64; simp [nameS_length]
  have hn := fun w2 => (namedIs x w2 (by rw [z1]; decide)).2 (by rw [← hx]; exact named_name na ma)
  have HX : Hid (_ = _) := hx
  rw [hx]
  clear hx
  have he := equal32
  have hg := Try.eqGuardType24
  have hsm : sameF 32 (sumB na ma) (sumB na ma) = true := (sameF_iff _ _ _).2 (fun _ _ => rfl)
  go_wp2_with (first
    | refine load_arr Try.underlying24 info32 w2.heap.size r7 _ rfl rfl rfl ?_
    | refine load_arr Try.underlying24 info32 w6.heap.size d7 _ rfl rfl rfl ?_)
  refine (hn w7).mono ?_
  rintro e w8 ⟨rfl, rfl⟩
  clear hn he hg hsm d7
  go_wp2_with fail
  go_loop [10] (fun i => ∃ j : Nat, j ≤ 64 ∧ i = .int .i64 j) (fun i => 64 - (intOf i).toNat)
  case atStart => exact ⟨0, by omega, rfl⟩
  case round =>
    obtain ⟨j, hj, rfl⟩ := hrel
    by_cases hlt : j < 64
    · have i2 : (j : Int) < 64 := by omega
      have i3 : j < x.size := by omega
      obtain ⟨q, hq⟩ : ∃ q, j / 2 = q := ⟨_, rfl⟩
      obtain ⟨d, hd⟩ : ∃ d, sumB na ma q = d := ⟨_, rfl⟩
      have hr := sumB_range na ma q
      rw [hd] at hr
      have cs : w7.cell? ⟨w2.heap.size, q, none⟩ = some (.int .u8 d) := by rw [← hd]; exact r7.cell (by omega)
      have hx : ((x[j]).toNat : Int) = hexc (if j % 2 = 0 then d / 16 else d % 16) := by
        have e := nameS_at na ma j (by rw [nameS_length]; exact hlt)
        unfold nameB at e
        rw [hq, hd] at e
        rw [← e]
        have hz := HX.out
        subst hz
        rfl
      have h2 : (j : Int) / 2 = (q : Int) := by omega
      have h3 : (q : Int) < 32 := by omega
      have i0' : (j : Int) % 2 = 0 ∨ (j : Int) % 2 = 1 := by omega
      rcases i0' with p0 | p0
      · have b15 : bits .and .u8 (d / 16) 15 = d / 16 := by rw [u8_and15 (d / 16) (by omega) (by omega)]; omega
        rw [if_pos (by omega)] at hx
        unfold hexc at hx
        by_cases h10 : d / 16 < 10
        · rw [if_pos h10] at hx
          have h97 : ¬ (97 : Int) ≤ 48 + d / 16 := by omega
          have e1 : IntKind.u8.wrap (48 + d / 16 - 48) = d / 16 := by rw [IntKind.wrap_u8]; omega
          clear r7 hd hq hr hj hA hB h10
          go_wp2_with fail
          exact ⟨⟨j + 1, by omega, rfl⟩, by simp [intOf]; omega⟩
        · rw [if_neg h10] at hx
          have h97 : (97 : Int) ≤ 87 + d / 16 := by omega
          have e1 : IntKind.u8.wrap (87 + d / 16 - 97) = d / 16 - 10 := by rw [IntKind.wrap_u8]; omega
          have e2 : IntKind.u8.wrap (d / 16 - 10 + 10) = d / 16 := by rw [IntKind.wrap_u8]; omega
          have e3 : d / 16 % 256 = d / 16 := by omega
          clear r7 hd hq hr hj hA hB h10
          go_wp2_with fail
          exact ⟨⟨j + 1, by omega, rfl⟩, by simp [intOf]; omega⟩
      · have b15 : bits .and .u8 d 15 = d % 16 := u8_and15 d hr.1 (by omega)
        rw [if_neg (by omega)] at hx
        unfold hexc at hx
        by_cases h10 : d % 16 < 10
        · rw [if_pos h10] at hx
          have h97 : ¬ (97 : Int) ≤ 48 + d % 16 := by omega
          have e1 : IntKind.u8.wrap (48 + d % 16 - 48) = d % 16 := by rw [IntKind.wrap_u8]; omega
          clear r7 hd hq hr hj hA hB h10
          go_wp2_with fail
          exact ⟨⟨j + 1, by omega, rfl⟩, by simp [intOf]; omega⟩
        · rw [if_neg h10] at hx
          have h97 : (97 : Int) ≤ 87 + d % 16 := by omega
          have e1 : IntKind.u8.wrap (87 + d % 16 - 97) = d % 16 - 10 := by rw [IntKind.wrap_u8]; omega
          have e2 : IntKind.u8.wrap (d % 16 - 10 + 10) = d % 16 := by rw [IntKind.wrap_u8]; omega
          have e3 : d % 16 % 256 = d % 16 := by omega
          clear r7 hd hq hr hj hA hB h10
          go_wp2_with fail
          exact ⟨⟨j + 1, by omega, rfl⟩, by simp [intOf]; omega⟩
    · go_wp2
      go_ret
      exact ⟨rfl, f07⟩
end Go.Proofs.Ythohblpdibeokaa
