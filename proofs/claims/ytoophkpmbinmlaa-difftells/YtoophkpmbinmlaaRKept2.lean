/-
  What is proved here: what the document's Kept hands back. Conditions: both rows of lines lie in memory, and have at most 400 lines each.
-/
import Derived.Test.YtoophkpmbinmlaaRKept
import Derived.Test.YtoophkpmbinmlaaFill
namespace Go.Proofs.Ytoophkpmbinmlaa
open Go.RowKit
set_option maxRecDepth 100000

theorem one_row2 (w : World) (o : Obj) (e : TypeId) (x : Value) : RowV ((w.alloc o).alloc (.cells #[x] e)) (some ⟨w.heap.size + 1, 0, none⟩) [x] := by
  rw [show w.heap.size + 1 = (w.alloc o).heap.size by simp]
  exact one_row _ _ _

set_option maxHeartbeats 4000000 in
theorem rkept_any {va vb : Option Addr} {n c m d : Nat} {a b : List ByteArray} {w : World} (ha : ArgS w va n c a) (hb : ArgS w vb m d b) (hn : n ≤ 400) (hm : m ≤ 400) :
    Calls Try.prog 20 #[.slice va n c, .slice vb m d] w fun e w' => ∃ g c' B, e = .returned (.slice (some ⟨g, 0, none⟩) (n + 1) c') ∧ KTab w.heap.size w' g (n + 1) (m + 1) B (fun i k => ((lcs (a.drop i) (b.drop k) : Nat) : Int)) ∧ Fr None' w w' := by
  have HA : Hid (ArgS w va n c a) := ha
  have HB : Hid (ArgS w vb m d b) := hb
  have i1 : (n : Int) ≤ 400 := by omega
  have i2 : (m : Int) ≤ 400 := by omega
  have i0 : (0 : Int) ≤ (m : Int) := by omega
  have rm : IntKind.i64.wrap ((m : Int) + 1) = (m : Int) + 1 := by rw [IntKind.wrap_i64]; omega
  have hmk : ∀ w : World, (Instr.makeSlice 37 (.int .i64 ((m : Int) + 1)) (.int .i64 ((m : Int) + 1))).run Try.prog w = .ok (.slice (some ⟨w.heap.size, 0, none⟩) (m + 1) (m + 1)) (w.alloc (.cells (madeCells #[.int .i64 0] (m + 1)) 3)) := fun w => run_make_row' 37 3 (.int .i64 0) 8 Try.underlying37 (by kernel_rfl) rfl .i64 .i64 (m + 1) (by omega) (by omega) w
  clear ha hb
  go_enter Try.func20, Try.ntmps20
  go_wp2_with fail
  go_loopw [5, 6] (fun v i wr => ∃ (k : Nat) (B : Nat → Nat), k ≤ n + 1 ∧ i = .int .i64 k ∧ Hid (KMade w wr v (m + 1) k B)) (fun _ i _ => n + 1 - (intOf i).toNat)
  case atStart => exact ⟨0, fun _ => 0, Nat.zero_le _, rfl, ⟨OwnV.nil _ _ _, fun j h => by omega, fun j k h => by omega, fun j h => by omega, Fr.refl _ _⟩⟩
  case round =>
    obtain ⟨k, B, hk, rfl, HK⟩ := hrel
    by_cases hlt : k ≤ n
    · have i3 : (k : Int) ≤ (n : Int) := by omega
      obtain ⟨va', c', hv, _⟩ := HK.out.own.slice
      rw [rowsV_length] at hv
      subst hv
      go_wp2_with (at_builtin
                   refine append_one oneIS rfl _ _ rfl rfl (HK.out.own.kept ((Fr.alloc None' wr _).then (Fr.alloc None' _ _))) (m := [.slice (some ⟨wr.heap.size, 0, none⟩) (m + 1) (m + 1)]) rfl rfl (one_row2 wr _ 37 _) (fun e => by cases e) (fun u hu => by simp at hu; rw [hu]; rfl) (by rw [rowsV_length]; simp; omega) (Nat.le_trans HK.out.fr.size ((Fr.alloc None' wr _).then (Fr.alloc None' _ _)).size) ?_
                   intro v1 x1 o1 f1 h1
                   have HK2 : Hid (KMade w x1 v1 (m + 1) (k + 1) _) := HK.out.step o1 f1 h1
                   clear o1 f1 h1)
      exact ⟨⟨k + 1, _, by omega, by go_num, HK2.out⟩, by simp [intOf]; omega⟩
    · have HN1 : Hid (k = n + 1) := by show _ = _; omega
      have i7 : (n : Int) < (k : Int) := by omega
      have i8 : (k : Int) ≤ 401 := by have := HN1.out; omega
      obtain ⟨va', c', hv, _, _, hrow, hx⟩ := HK.out.own.slice
      rw [rowsV_length] at hv
      obtain ⟨g, o, e1, _⟩ := hrow 0 _ (rowsV_get (m := m + 1) (B := B) (show 0 < k by omega))
      have hx0 := (hx _ e1).2.1
      simp only at hx0
      subst hx0 e1 hv
      have T0 := HK.out.tab.congr (f' := kF a b n 0) (fun i k _ _ => by rw [← HA.out.len]; exact kF_start a b i k)
      have HT : Hid (KTab w.heap.size wr g k (m + 1) B (kF a b n 0)) := T0
      have HF : Hid (Fr None' w wr) := HK.out.fr
      clear T0 hrow hmk HK rm hk hx i7
      go_wp2_with fail
      clear hlt
      generalize Value.bool (decide (k ≤ n)) = u13
      go_loopw [7] (fun i wr => ∃ r : Nat, r ≤ n ∧ i = .int .i64 ((r : Int) - 1) ∧ Hid (KTab w.heap.size wr g k (m + 1) B (kF a b r 0)) ∧ Hid (Fr None' w wr)) (fun i _ => (intOf i + 1).toNat)
      case atStart => exact ⟨n, Nat.le_refl _, by go_num, HT.out, HF.out⟩
      case round =>
        clear HT HF
        obtain ⟨r, hr, rfl, HT, HF⟩ := hrel
        rcases Nat.eq_zero_or_pos r with e | hpos
        · subst e
          go_wp2_with fail
          go_ret
          exact ⟨g, c', B, by rw [HN1.out]; rfl, HN1.out ▸ HT.out.congr (fun i k _ _ => kF_all a b i k), HF.out⟩
        · obtain ⟨r, rfl⟩ : ∃ r', r = r' + 1 := ⟨r - 1, by omega⟩
          have HT2 : Hid (KTab w.heap.size wr g k (m + 1) B (kF a b r m)) := HT.out.congr (fun i k _ hk => by rw [← HB.out.len]; exact kF_row a b r i k (by rw [HB.out.len]; exact hk))
          have e1 : (((r + 1 : Nat) : Int) - 1) = (r : Int) := by omega
          rw [e1]
          have j1 : (0 : Int) ≤ (r : Int) := by omega
          have j2 : (r : Int) < (n : Int) := by omega
          clear HT e1 hpos
          go_wp2_with fail
          go_loopw [8] (fun i wr => ∃ q : Nat, q ≤ m ∧ i = .int .i64 ((q : Int) - 1) ∧ Hid (KTab w.heap.size wr g k (m + 1) B (kF a b r q)) ∧ Hid (Fr None' w wr)) (fun i _ => (intOf i + 1).toNat)
          case atStart => exact ⟨m, Nat.le_refl _, by go_num, HT2.out, HF.out⟩
          case round =>
            clear HT2 HF
            obtain ⟨q, hq, rfl, HT, HF⟩ := hrel
            rcases Nat.eq_zero_or_pos q with e | hpos
            · subst e
              go_wp2_with fail
              exact ⟨⟨r, by omega, by go_num, HT.out, HF.out⟩, by simp [intOf]⟩
            · obtain ⟨q, rfl⟩ : ∃ q', q = q' + 1 := ⟨q - 1, by omega⟩
              have e1 : (((q + 1 : Nat) : Int) - 1) = (q : Int) := by omega
              rw [e1]
              have j3 : (0 : Int) ≤ (q : Int) := by omega
              have j4 : (q : Int) < (m : Int) := by omega
              have hra : r < a.length := by rw [HA.out.len]; omega
              have hqb : q < b.length := by rw [HB.out.len]; omega
              obtain ⟨ga, oa, rfl, ca⟩ := (HA.out.row.fr HF.out).get hra
              obtain ⟨gb, ob, rfl, cb⟩ := (HB.out.row.fr HF.out).get hqb
              have c1 := HT.out.cell (r + 1) (by have := HN1.out; omega)
              have c2 := HT.out.cell r (by have := HN1.out; omega)
              have n1 := HT.out.get (i := r + 1) (k := q) (by have := HN1.out; omega) (by omega)
              have n2 := HT.out.get (i := r) (k := q + 1) (by have := HN1.out; omega) (by omega)
              have n3 := HT.out.get (i := r + 1) (k := q + 1) (by have := HN1.out; omega) (by omega)
              have n4 := HT.out.get (i := r) (k := q) (by have := HN1.out; omega) (by omega)
              have z4 := (HT.out.num r (by have := HN1.out; omega)).frozen q
              have v1 : kF a b r (q + 1) (r + 1) q = ((lcs (a.drop (r + 1)) (b.drop q) : Nat) : Int) := by unfold kF; rw [if_pos (by omega)]
              have v2 : kF a b r (q + 1) r (q + 1) = ((lcs (a.drop r) (b.drop (q + 1)) : Nat) : Int) := by unfold kF; rw [if_pos (by omega)]
              have v3 : kF a b r (q + 1) (r + 1) (q + 1) = ((lcs (a.drop (r + 1)) (b.drop (q + 1)) : Nat) : Int) := by unfold kF; rw [if_pos (by omega)]
              rw [v1] at n1
              rw [v2] at n2
              rw [v3] at n3
              have LQ := lcs_at hra hqb
              have l3 := (lcs_le (a.drop (r + 1)) (b.drop (q + 1))).1
              have l1 := (lcs_le (a.drop (r + 1)) (b.drop q)).1
              have l2 := (lcs_le (a.drop r) (b.drop (q + 1))).1
              rw [List.length_drop, HA.out.len] at l1 l2 l3
              obtain ⟨X1, x1⟩ : ∃ X, lcs (a.drop (r + 1)) (b.drop q) = X := ⟨_, rfl⟩
              obtain ⟨X2, x2⟩ : ∃ X, lcs (a.drop r) (b.drop (q + 1)) = X := ⟨_, rfl⟩
              obtain ⟨X3, x3⟩ : ∃ X, lcs (a.drop (r + 1)) (b.drop (q + 1)) = X := ⟨_, rfl⟩
              obtain ⟨X4, x4⟩ : ∃ X, kF a b r (q + 1) r q = X := ⟨_, rfl⟩
              rw [x1] at n1 LQ l1
              rw [x2] at n2 LQ l2
              rw [x3] at n3 LQ l3
              rw [x4] at n4
              have HX : Hid (∀ (x : Int) (w2 : World), Fr None' wr w2 → x = ((lcs (a.drop r) (b.drop q) : Nat) : Int) → KTab w.heap.size (w2.setCell ⟨B r, q, none⟩ (.int .i64 x)) g k (m + 1) B (kF a b r q) ∧ Fr None' w (w2.setCell ⟨B r, q, none⟩ (.int .i64 x))) := fun x w2 f hX => by
                refine ⟨((HT.out.fr f (fun e => e) (fun _ _ e => e)).store (i := r) (k := q) (by have := HN1.out; omega) x).congr (fun i k _ _ => ?_), (HF.out.then f).trans (Fr.setCell (M := fun k => k = B r) w2 (a := ⟨B r, q, none⟩) rfl _) (fun k e => Or.inr (e ▸ (HT.out.far r (by have := HN1.out; omega)).1))⟩
                rw [hX]
                exact kF_step a b r q i k
              have k3 : (X1 : Int) ≤ 400 := by omega
              have k4 : (X2 : Int) ≤ 400 := by omega
              have k5 : (X3 : Int) ≤ 400 := by omega
              have rr : IntKind.i64.wrap ((r : Int) + 1) = (r : Int) + 1 := by rw [IntKind.wrap_i64]; omega
              have rq : IntKind.i64.wrap ((q : Int) + 1) = (q : Int) + 1 := by rw [IntKind.wrap_i64]; omega
              have t1 : ((r : Int) + 1).toNat = r + 1 := by omega
              have t2 : ((q : Int) + 1).toNat = q + 1 := by omega
              have HL : Hid (lcs (a.drop r) (b.drop q) = if a[r] = b[q] then max (max X1 X2) (X3 + 1) else max X1 X2) := LQ
              obtain ⟨pa, hpa⟩ : ∃ p, a[r] = p := ⟨_, rfl⟩
              obtain ⟨pb, hpb⟩ : ∃ p, b[q] = p := ⟨_, rfl⟩
              rw [hpa] at ca HL
              rw [hpb] at cb HL
              have j5 : (r : Int) + 1 < (k : Int) := by have := HN1.out; omega
              have j6 : (q : Int) + 1 < (m : Int) + 1 := by omega
              have j7 : (r : Int) < (k : Int) := by have := HN1.out; omega
              have j8 : (q : Int) < (m : Int) + 1 := by omega
              clear HT HF x1 x2 x3 x4 v1 v2 v3 l1 l2 l3 LQ hpa hpb e1 hpos hra hqb HA HB
              by_cases hp : pa = pb
              · subst hp
                have HL2 : Hid (lcs (a.drop r) (b.drop q) = max (max X1 X2) (X3 + 1)) := by have h := HL.out; rw [if_pos rfl] at h; exact h
                clear HL
                go_wp2_with fail
                go_region
                all_goals go_wp2_with fail
                all_goals go_quiet (fail)
                all_goals go_wp2_with fail
                all_goals
                  refine ⟨⟨q, by omega, by go_num, (HX.out _ _ ?_ ?_).1, (HX.out _ _ ?_ ?_).2⟩, by simp [intOf]⟩
                all_goals first
                  | exact Fr.drewN None' _ _
                  | (rw [HL2.out]; omega)
              · have HL2 : Hid (lcs (a.drop r) (b.drop q) = max X1 X2) := by have h := HL.out; rw [if_neg hp] at h; exact h
                obtain ⟨s1, s2⟩ := str_no hp
                clear HL hp
                go_wp2_with fail
                go_region
                all_goals go_wp2_with fail
                all_goals go_quiet (fail)
                all_goals go_wp2_with fail
                all_goals
                  refine ⟨⟨q, by omega, by go_num, (HX.out _ _ ?_ ?_).1, (HX.out _ _ ?_ ?_).2⟩, by simp [intOf]⟩
                all_goals first
                  | exact Fr.drewN None' _ _
                  | (rw [HL2.out]; omega)

end Go.Proofs.Ytoophkpmbinmlaa
