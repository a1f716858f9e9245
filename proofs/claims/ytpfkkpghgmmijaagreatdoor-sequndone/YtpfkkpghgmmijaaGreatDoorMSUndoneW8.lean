/-
  What is proved here: SeqUndone answers true. Conditions: its arguments lie in memory, and are no longer than the reach; Commute answers as it does.
-/
import Derived.Test.YtpfkkpghgmmijaaGreatDoorM46SeqA8
namespace Go.Proofs.YtpfkkpghgmmijaaGreatDoor
open Go.RowKit Go.Maps Go.WideMaps
set_option maxRecDepth 100000

set_option maxHeartbeats 16000000 in
theorem sundone_walk (hC : CommuteAll) (va : Option Addr) (n c : Nat) (xs : List Pr) (W : World) (hm1 : xs.length = n) (hb1 : PrsAt W va xs) (hd1 : va = none → c = 0) (hs1 : ∀ x ∈ xs, x.old.length ≤ 140737488355328 ∧ x.new.length ≤ 140737488355328) (hr1 : n ≤ c ∧ c ≤ 9223372036854775807) :
    Calls Tryz.prog 8 #[.slice va n c] W fun e w' => e = .returned (.bool true) ∧ Fr None' W w' := by
  have HG1 := toHid8 (fun w' (f : Fr None' W w') => pgreats_any va n c xs w' hm1 (hb1.kept f) hs1)
  unfold GreatPs at HG1
  have HL1 := toHid8 hm1
  have HR1 := toHid8 (show (∀ w', Fr None' W w' → PrsAt w' va xs) ∧ (va = none → c = 0) from ⟨fun w' f => hb1.kept f, hd1⟩)
  have HCo := toHid8 (fun (h3 : n ≤ 60 ∧ ∀ x ∈ xs, x.weight < 4000) w' (f : Fr None' W w') => coalesce_any va n c xs w' hm1 (hb1.kept f) hd1 hr1.1 hr1.2 (by omega) (fun y hy => (weight_smP (h3.2 y hy)).small))
  have HF0 := toHid8 (Fr.refl None' W)
  have q1 := shead_any hC W
  clear hC hm1 hb1 hd1 hs1 hr1
  go_enter Tryz.func8, Tryz.ntmps8
  go_wp2_with fail
  with_reducible refine q1.mono ?_
  rintro e w1 ⟨rfl, f⟩
  have HF1 := toHid8 (HF0.out.then7 f)
  clear q1 f HF0
  have q2 := HG1.out w1 HF1.out
  go_wp2_with fail
  with_reducible refine q2.mono ?_
  rintro e w2 ⟨g, rfl, hg, f⟩
  have HF2 := toHid8 (HF1.out.then7 f)
  have HGf := toHid8 hg
  clear q2 f hg HF1
  cases g
  case true =>
    go_wp2_with fail
    go_ret
    exact ⟨rfl, HF2.out⟩
  have HW1 := toHid8 (HGf.out rfl)
  clear HGf
  have H60 := toHid8 HW1.out.1
  have i1 : (n : Int) ≤ 60 := by have := HW1.out.1; omega
  clear HG1
  go_wp2_with fail
  go_loopw [4] (fun vi wr => ∃ k : Nat, k ≤ n ∧ vi = .int .i64 k ∧ Hid (Fr None' W wr) ∧ Hid (∀ j (h : j < xs.length), j < k → rightP xs[j] = true)) (fun vi _ => n - (intOf vi).toNat)
  case atStart => exact ⟨0, Nat.zero_le _, rfl, HF2.out, fun j h hj => by omega⟩
  case round =>
    obtain ⟨k, hk, rfl, HF, HRt⟩ := hrel
    by_cases hlt : k < n
    · have hkL : k < xs.length := by rw [HL1.out]; exact hlt
      obtain ⟨g, o, rfl, vo, vn, d0, d1, d2, d3, d4, d5, d6, s1, s2⟩ := (HR1.out.1 wr HF.out).get hkL
      have cR := qright_any xs[k] vo vn wr s1 s2 (weight_smP (HW1.out.2 _ (List.getElem_mem hkL))).small
      obtain ⟨rb, hrb⟩ : ∃ rb, rightP xs[k] = rb := ⟨_, rfl⟩
      rw [hrb] at cR
      obtain ⟨pa, ca, rfl, -⟩ := s1
      obtain ⟨pb, cb, rfl, -⟩ := s2
      have HRk := toHid8 (show ∀ (h : k < xs.length), rightP xs[k] = rb from fun h => hrb)
      clear hrb
      generalize xs[k] = x at d0 d1 d2 d3 d4 d5 d6 cR
      have i2 : (k : Int) < (n : Int) := by omega
      have i3 : (0 : Int) ≤ (k : Int) := by omega
      clear hkL
      go_wp2_with fail
      with_reducible refine cR.mono ?_
      rintro e w6 ⟨rfl, f⟩
      have HX := toHid8 (HF.out.then7 f)
      clear cR f d0 d1 d2 d3 d4 d5 d6
      cases rb with
      | false =>
        go_wp2_with fail
        go_ret
        exact ⟨rfl, HX.out⟩
      | true =>
        go_wp2_with fail
        refine ⟨⟨k + 1, by omega, by go_num, HX.out, fun j h hj => ?_⟩, by simp [intOf]; omega⟩
        by_cases hjk : j = k
        · subst hjk; exact HRk.out h
        · exact HRt.out j h (by omega)
    · obtain rfl : k = n := by omega
      have HAll := toHid8 (show ∀ y ∈ xs, rightP y = true from fun y hy => by
        obtain ⟨j, hj, rfl⟩ := List.getElem_of_mem hy
        exact HRt.out j hj (by rw [← HL1.out]; exact hj))
      have q3 := HCo.out HW1.out wr HF.out
      clear HRt HCo
      go_wp2_with fail
      with_reducible refine q3.mono ?_
      rintro e w3 ⟨px, nx, cx, rfl, H3⟩
      obtain ⟨V3, O3, hnx, f, hsX⟩ := H3.out
      obtain ⟨px', cx', ex, hcx, hpx, PX⟩ := O3.slice
      obtain ⟨rfl, -, rfl⟩ : px = px' ∧ nx = (coalP xs).length ∧ cx = cx' := by simpa using ex
      have HPX := toHid8 (And.intro PX hpx)
      have HF3 := toHid8 (HF.out.then7 f)
      have hle : nx ≤ 60 := by rw [← hnx]; exact Nat.le_trans (coal_len xs) (by rw [HL1.out]; exact H60.out)
      have Hle := toHid8 (And.intro hle hnx)
      have q4 := rall_any px nx cx (coalP xs) w3 hnx PX (by omega)
      clear q3 H3 O3 f hsX ex hcx hpx PX hle hnx HF V3
      go_wp2_with fail
      with_reducible refine q4.mono ?_
      rintro e w4 ⟨v4, V4, rfl, O4, f⟩
      obtain ⟨py, cy, rfl, _, hpy, PY⟩ := O4.slice
      have hny : ((coalP xs).reverse.map inv).length = nx := by rw [List.length_map, List.length_reverse]; exact Hle.out.2
      rw [hny]
      have HF4 := toHid8 (HF3.out.then7 f)
      obtain ⟨s, hs⟩ : ∃ s, nx + nx = s := ⟨_, rfl⟩
      obtain ⟨p1, c1, wa, p2, c2, wb, r1, r2, P2, n2, l2, m2, fb⟩ := join_two (s := s) (HPX.out.1.kept f) Hle.out.2 HPX.out.2 PY hny hpy hs (by have := Hle.out.1; omega)
      have HRa := toHid8 r1
      have HRb := toHid8 r2
      have HFb := toHid8 (HF4.out.then7 fb)
      have hsm : ∀ x ∈ coalP xs, SmPr x := coal_sm (fun x hx => weight_smP (HW1.out.2 x hx))
      have hsI : ∀ x ∈ coalP xs ++ (coalP xs).reverse.map inv, SmallP x := fun x hx => by
        rcases List.mem_append.1 hx with hx | hx
        · exact (hsm x hx).small
        · obtain ⟨y, hy, rfl⟩ := List.mem_map.1 hx
          exact (hsm y (List.mem_reverse.1 hy)).inv.small
      have q5 := coalesce_any p2 s c2 (coalP xs ++ (coalP xs).reverse.map inv) wb (by rw [List.length_append, hny, Hle.out.2]; exact hs) P2 n2 l2 m2 (by have := Hle.out.1; omega) hsI
      rw [coal_undone HAll.out] at q5
      clear q4 f O4 PY hpy hny r1 r2 P2 n2 l2 m2 fb hsm hsI hs V4 HF3 HPX
      go_wp2_with (at_builtin
                   first
                     | (refine app_list9 (vs := .slice (some ⟨w4.heap.size, 0, none⟩) 0 0) (vx := .slice px nx cx) rfl _ _ rfl rfl rfl HRa.out ?_)
                     | (refine app_list9 (vs := .slice p1 nx c1) (vx := .slice py nx cy) rfl _ _ rfl rfl rfl HRb.out ?_))
      with_reducible refine q5.mono ?_
      rintro e w5 ⟨pz, nz, cz, rfl, H5⟩
      obtain ⟨V5, _, hnz, f, _⟩ := H5.out
      obtain rfl : nz = 0 := by simpa using hnz.symm
      have HF5 := toHid8 (HFb.out.then7 f)
      clear q5 H5 f hnz
      go_wp2_with fail
      go_ret
      exact ⟨rfl, HF5.out⟩

end Go.Proofs.YtpfkkpghgmmijaaGreatDoor
