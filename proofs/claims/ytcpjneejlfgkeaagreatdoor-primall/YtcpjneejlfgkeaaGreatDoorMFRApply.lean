/-
  What is proved here: what the document's Apply answers. Conditions: all lies in memory, and is of bounded length.
-/
import Derived.Test.YtcpjneejlfgkeaaGreatDoorM31FConcat
namespace Go.Proofs.YtcpjneejlfgkeaaGreatDoor.Diff
open Go.RowKit Go.Shelf
set_option maxRecDepth 100000

theorem own_empty (w : World) : OwnV w.heap.size (w.alloc (.cells #[] 9)) 9 (.slice (some ⟨w.heap.size, 0, none⟩) 0 0) [] := ⟨rfl, Or.inr ⟨w.heap.size, 0, #[], rfl, Nat.le_refl _, Array.getElem?_push_size, Nat.le_refl _, Nat.zero_le _, rfl, rfl⟩⟩

theorem sliceN {base n : Nat} {w : World} {e : TypeId} {v : Value} {vs : List Value} (h : OwnV base w e v vs) (hn : vs.length = n) : ∃ va c, v = .slice va n c := by
  obtain ⟨va, c, hv, _⟩ := h.slice
  exact ⟨va, c, by rw [hv, hn]⟩

structure ArgS (W : World) (a : Option Addr) (n c : Nat) (l : List ByteArray) : Prop where
  row : Row W a l
  len : l.length = n
  le : n ≤ c
  no : a = none → c = 0

theorem take_step {l o : List ByteArray} {k i : Nat} (h : (l.drop k).take i = o.take i) (h1 : k + i < l.length) (h2 : i < o.length) (e : l[k + i] = o[i]) : (l.drop k).take (i + 1) = o.take (i + 1) := by
  rw [List.take_add_one, List.take_add_one, h, List.getElem?_drop, List.getElem?_eq_getElem h1, List.getElem?_eq_getElem h2, e]

theorem take_off {l o : List ByteArray} {k i : Nat} (h1 : k + i < l.length) (h2 : i < o.length) (e : ¬ l[k + i] = o[i]) : ¬ (l.drop k).take o.length = o := fun h => by
  have h3 := congrArg (fun x => x[i]?) h
  simp only [List.getElem?_take, h2, if_true, List.getElem?_drop, List.getElem?_eq_getElem h1, List.getElem?_eq_getElem h2] at h3
  exact e (Option.some.inj h3)

set_option maxHeartbeats 2000000 in
theorem rapply_arg {va po pn : Option Addr} {n c no co nn cn : Nat} {l o nw : List ByteArray} {w : World} (x : Int) (hl : ArgS w va n c l) (ho : ArgS w po no co o) (hn : ArgS w pn nn cn nw) (l1 : n ≤ 40000) (l2 : no ≤ 40000) (l3 : nn ≤ 40000) (hx : -9223372036854775808 ≤ x ∧ x < 9223372036854775808) :
    Calls Tryz.prog 26 #[.slice va n c, .agg #[.int .i64 x, .slice po no co, .slice pn nn cn]] w (ApplyPost w (applyI l x o nw)) := by
  have HL : Hid (ArgS w va n c l) := hl
  have HO : Hid (ArgS w po no co o) := ho
  have HW : Hid (ArgS w pn nn cn nw) := hn
  have el := hl.len
  have eo := ho.len
  clear hl ho hn
  by_cases h0 : x < 0
  · have HA : Hid (applyI l x o nw = none) := by show _ = _; unfold applyI; rw [if_neg (by omega)]
    rw [HA.out]
    go_enter Tryz.func26, Tryz.ntmps26
    go_wp2_with fail
    go_ret2
    exact ⟨Fr.alloc None' w _, rfl⟩
  · by_cases h1 : x > (n : Int)
    · have HA : Hid (applyI l x o nw = none) := by
        show _ = _
        unfold applyI apply1
        rw [if_pos (by omega), if_neg]
        simp only
        omega
      rw [HA.out]
      have q : ¬ x < 0 := h0
      go_enter Tryz.func26, Tryz.ntmps26
      go_wp2_with fail
      go_ret2
      exact ⟨Fr.alloc None' w _, rfl⟩
    · obtain ⟨k, rfl⟩ : ∃ k : Nat, x = k := ⟨x.toNat, by omega⟩
      have hk : k ≤ n := by omega
      have i1 : (k : Int) ≤ (n : Int) := by omega
      have i2 : (0 : Int) ≤ (k : Int) := by omega
      have i0 : (n : Int) ≤ 40000 := by omega
      have q1 : decide ((n : Int) < (k : Int)) = false := by simp; omega
      have q2 : decide ((k : Int) < 0) = false := by simp
      have r0 : IntKind.i64.wrap ((n : Int) - (k : Int)) = (n : Int) - (k : Int) := by rw [IntKind.wrap_i64]; omega
      by_cases hlong : (n : Int) - (k : Int) < (no : Int)
      · have HA : Hid (applyI l k o nw = none) := by
          show _ = _
          unfold applyI apply1
          rw [if_pos i2, if_neg]
          rintro ⟨_, e⟩
          have := congrArg List.length e
          simp only [Int.toNat_natCast, List.length_take, List.length_drop] at this
          omega
        rw [HA.out]
        go_enter Tryz.func26, Tryz.ntmps26
        go_wp2_with fail
        go_ret2
        exact ⟨Fr.alloc None' w _, rfl⟩
      · obtain ⟨w1, hw1⟩ : ∃ w1, w.alloc (.cells #[.int .i64 (k : Int), .slice po no co, .slice pn nn cn] 53) = w1 := ⟨_, rfl⟩
        have F1 : Fr None' w w1 := hw1 ▸ Fr.alloc None' w _
        obtain ⟨b0, b1, b2⟩ := cell3 w 53 (.int .i64 (k : Int)) (.slice po no co) (.slice pn nn cn)
        rw [hw1] at b0 b1 b2
        have q3 : decide ((n : Int) - (k : Int) < (no : Int)) = false := by simp; omega
        go_enter Tryz.func26, Tryz.ntmps26
        go_wp2_with fail
        go_loopw [6] (fun v wr => ∃ i : Nat, i ≤ no ∧ v = .int .i64 i ∧ Fr None' w1 wr ∧ Hid ((l.drop k).take i = o.take i)) (fun v _ => no - (intOf v).toNat)
        case atStart => exact ⟨0, Nat.zero_le _, rfl, Fr.refl _ _, rfl⟩
        case round =>
          clear hw1
          obtain ⟨i, hi, rfl, hF, HT⟩ := hrel
          replace b0 := hF.cell b0 (fun e => e)
          replace b1 := hF.cell b1 (fun e => e)
          replace b2 := hF.cell b2 (fun e => e)
          have FW := F1.then hF
          by_cases hlt : i < no
          · have g1 : k + i < l.length := by omega
            have g2 : i < o.length := by omega
            obtain ⟨ga, oa, rfl, c1⟩ := (HL.out.row.fr FW).get g1
            obtain ⟨gb, ob, rfl, c2⟩ := (HO.out.row.fr FW).get g2
            have HS : Hid (l[k + i] = o[i] → (l.drop k).take (i + 1) = o.take (i + 1)) := fun e => take_step HT.out g1 g2 e
            have HX : Hid (¬ l[k + i] = o[i] → ¬ (l.drop k).take o.length = o) := fun e => take_off g1 g2 e
            obtain ⟨p, hp⟩ : ∃ p, l[k + i] = p := ⟨_, rfl⟩
            obtain ⟨q, hq⟩ : ∃ q, o[i] = q := ⟨_, rfl⟩
            rw [hp] at c1
            rw [hq] at c2
            rw [hp, hq] at HS HX
            have j1 : (i : Int) < (no : Int) := by omega
            have j2 : (0 : Int) ≤ (i : Int) := by omega
            have j3 : (k : Int) + (i : Int) < (n : Int) := by omega
            have j4 : (0 : Int) ≤ (k : Int) + (i : Int) := by omega
            have j5 : ((k : Int) + (i : Int)).toNat = k + i := by omega
            have r1 : IntKind.i64.wrap ((k : Int) + (i : Int)) = (k : Int) + (i : Int) := by rw [IntKind.wrap_i64]; omega
            have HFW : Hid (Fr None' w wr) := FW
            clear hp hq HT FW F1
            by_cases hpq : p = q
            · subst hpq
              have HE := HS.out rfl
              have HE2 : Hid ((l.drop k).take (i + 1) = o.take (i + 1)) := HE
              clear HS HX HE
              go_wp2_with fail
              go_quiet (fail)
              go_wp2_with fail
              exact ⟨⟨i + 1, by omega, by go_num, hF.then (Fr.drewN None' _ _), HE2.out⟩, by simp [intOf]; omega⟩
            · have HA : Hid (applyI l k o nw = none) := by
                show _ = _
                unfold applyI apply1
                rw [if_pos i2, if_neg]
                rintro ⟨_, e⟩
                exact HX.out hpq (by simpa using e)
              rw [HA.out]
              obtain ⟨s1, s2⟩ := str_no hpq
              clear HS HX hpq
              go_wp2_with fail
              go_quiet (fail)
              clear c1 c2
              go_wp2_with fail
              go_ret2
              exact ⟨HFW.out.then (Fr.drewN None' _ _), rfl⟩
          · have e : i = no := by omega
            subst e
            have eno : o.length = i := eo
            have HA : Hid (applyI l k o nw = some (l.take k ++ nw ++ l.drop (k + i))) := by
              show _ = _
              have h := HT.out
              rw [List.take_of_length_le (l := o) (by omega)] at h
              unfold applyI apply1
              rw [if_pos i2, if_pos ⟨by simp; omega, by simp only [Int.toNat_natCast, eno]; exact h⟩]
              simp only [Int.toNat_natCast, eno]
            rw [HA.out]
            have slK := fun v => upto_ex (va := va) (n := n) (c := c) (x := k) hk HL.out.le v
            obtain ⟨va2, c2, slR0, rowR, nR1, lcR, _⟩ := rest_ex HL.out.row HL.out.len (show k + i ≤ n by omega) HL.out.le HL.out.no
            have slR : ∀ v, (Instr.sliceAt 23 (.slice va n c) (some (.int .i64 ((k : Int) + (i : Int)))) none none).run Tryz.prog v = .ok (.slice va2 (n - (k + i)) c2) v := fun v => by
              have h := slR0 v
              rw [Int.natCast_add] at h
              exact h
            have r1 : IntKind.i64.wrap ((k : Int) + (i : Int)) = (k : Int) + (i : Int) := by rw [IntKind.wrap_i64]; omega
            have m1 : ((l.take k).map Value.string).length = k := by rw [List.length_map, List.length_take]; omega
            have m2 : (nw.map Value.string).length = nn := by rw [List.length_map]; exact HW.out.len
            have m3 : ((l.drop (k + i)).map Value.string).length = n - (k + i) := by rw [List.length_map, List.length_drop, el]
            have HM : Hid (((l.take k).map Value.string).length = k ∧ (nw.map Value.string).length = nn ∧ ((l.drop (k + i)).map Value.string).length = n - (k + i)) := ⟨m1, m2, m3⟩
            have HR1 : Hid (Row w va (l.take k)) := HL.out.row.take k
            have HR3 : Hid (Row w va2 (l.drop (k + i))) := rowR
            have HNo : Hid ((va = none → c = 0) ∧ (pn = none → cn = 0) ∧ (va2 = none → c2 = 0)) := ⟨HL.out.no, HW.out.no, nR1⟩
            have HB : Hid (k ≤ 40000 ∧ nn ≤ 40000 ∧ n - (k + i) ≤ 40000) := ⟨by omega, l3, by omega⟩
            have y0 := (Fr.alloc None' wr (.cells #[] 9)).cell b0 (fun e => e)
            clear slR0 rowR nR1 lcR m1 m2 m3 HT F1 hF el eo eno
            go_wp2_with (at_builtin
                         first
                           | (refine append_one oneS rfl _ _ rfl rfl Ho2.out (m := (l.drop (k + i)).map .string) rfl HM.out.2.2 (HR3.out.fr (FW.then Q2)).vals HNo.out.2.2 (strs_one _) (by have h := HB.out; have h2 := HM.out; have h3 := N2.out; omega) Q2.size ?_
                              intro v3 x3 o3 f3 _
                              have Q3 : Fr None' wr x3 := (own_fr Ho2.out Q2 (Fr.refl None' _) f3).1
                              have Ho3 : Hid (OwnV wr.heap.size x3 9 v3 ((l.take k).map .string ++ nw.map .string ++ (l.drop (k + i)).map .string)) := o3
                              have N3 : Hid (((l.take k).map Value.string ++ nw.map Value.string ++ (l.drop (k + i)).map Value.string).length = k + nn + (n - (k + i))) := by show _ = _; rw [List.length_append, List.length_append, HM.out.1, HM.out.2.1, HM.out.2.2]
                              obtain ⟨p3, z3, rfl⟩ := sliceN o3 N3.out
                              clear o3 f3)
                           | (refine append_one oneS rfl _ _ rfl rfl Ho1.out (m := nw.map .string) rfl HM.out.2.1 (HW.out.row.fr (FW.then Q1)).vals HNo.out.2.1 (strs_one _) (by have h := HB.out; have h2 := HM.out; omega) Q1.size ?_
                              intro v2 x2 o2 f2 _
                              have Q2 : Fr None' wr x2 := (own_fr Ho1.out Q1 (Fr.refl None' _) f2).1
                              have Ho2 : Hid (OwnV wr.heap.size x2 9 v2 ((l.take k).map .string ++ nw.map .string)) := o2
                              have N2 : Hid (((l.take k).map Value.string ++ nw.map Value.string).length = k + nn) := by show _ = _; rw [List.length_append, HM.out.1, HM.out.2.1]
                              obtain ⟨p2, z2, rfl⟩ := sliceN o2 N2.out
                              replace b0 := f2.cell b0 (fun e => Nat.lt_irrefl _ (Nat.lt_of_lt_of_le (cell_lt B0.out) (by have h := (Ho1.out.lt e).1; exact h)))
                              replace b1 := f2.cell b1 (fun e => Nat.lt_irrefl _ (Nat.lt_of_lt_of_le (cell_lt B1.out) (by have h := (Ho1.out.lt e).1; exact h)))
                              clear o2 f2)
                           | (refine append_one oneS rfl _ _ rfl rfl (own_empty wr) (m := (l.take k).map .string) rfl HM.out.1 (HR1.out.fr (FW.then (Fr.alloc None' wr (.cells #[] 9)))).vals HNo.out.1 (strs_one _) (by have h := HB.out; have h2 := HM.out; simp only [List.length_nil]; omega) (by simp) ?_
                              intro v1 x1 o1 f1 _
                              rw [List.nil_append] at o1
                              have Q1 : Fr None' wr x1 := (own_fr (own_empty wr) (Fr.alloc None' wr _) (Fr.refl None' _) f1).1
                              have Ho1 : Hid (OwnV wr.heap.size x1 9 v1 ((l.take k).map .string)) := o1
                              obtain ⟨p1, z1, rfl⟩ := sliceN o1 HM.out.1
                              have B0 : Hid (wr.cell? ⟨w.heap.size, 0, none⟩ = some (.int .i64 (k : Int))) := b0
                              have B1 : Hid (wr.cell? ⟨w.heap.size, 1, none⟩ = some (.slice po i co)) := b1
                              replace b0 := Q1.cell b0 (fun e => e)
                              replace b1 := Q1.cell b1 (fun e => e)
                              replace b2 := Q1.cell b2 (fun e => e)
                              clear o1 f1))
            go_ret2
            refine ⟨FW.then Q3, ?_⟩
            rw [HA.out]
            refine ⟨_, rfl, ?_⟩
            have := own_mono Ho3.out FW.size
            simpa [OwnV, List.append_assoc] using this

end Go.Proofs.YtcpjneejlfgkeaaGreatDoor.Diff
