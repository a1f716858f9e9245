/-
  What is proved here: what Sum answers. Condition: the bytes lie in memory.
-/
import Derived.Test.YtdaogldmcbfmoaaGreatDoorM5SSmall
import Derived.Test.YtdaogldmcbfmoaaGreatDoorMSLast
namespace Go.Proofs.YtdaogldmcbfmoaaGreatDoor.Sha
open Go.RowKit
set_option maxRecDepth 100000

/-- The bytes of a slice, as they lie in memory. -/
def Byt (w : World) (v : Value) (n : Nat) (m : Nat → Int) : Prop :=
  ∃ va cap, v = .slice va n cap ∧ n ≤ cap ∧ ∀ i, i < n → ∃ b o, va = some ⟨b, o, none⟩ ∧ w.cell? ⟨b, o + i, none⟩ = some (.int .u8 (m i))

theorem store_arr2 {P : Program} {ops : Array Oper} {rest : List Oper} {o : Oper} {a : Act} {w : World} {Q : Exit → Act → World → Prop} {ty : TypeId} {n : Nat} (hi : (P.info? ty).map (·.size) = some n)
    (x y : Operand) (ho : o.op = .store ty x y) (hgd : o.guard = none) (hd : o.dst = none) (g : Nat) (hx : a.eval x = .pointer (some ⟨g, 0, none⟩)) {t : TypeId} {f0 f : Nat → Value} (hy : a.eval y = .agg (arr n f)) (h1 : ∀ i, i < n → (f i).oneCell' = true) (hr : w.rowIs g t n f0)
    (h : ∀ w', w'.rowIs g t n f → Fr (fun i => i = g) w w' → wpList P ops Q rest a w') : wpList P ops Q (o :: rest) a w :=
  store_arr hi g hr h1 x y ho hgd hx hy hd (h _ (rowIs_setRow hr) (Fr.setRow (M := fun i => i = g) _ rfl _))

def lastB (n : Nat) (m : Nat → Int) (L : Int) (i : Nat) : Int := intOf (lastF n m L i)

theorem put4_int {o : Nat} {x : Int} {f : Nat → Value} (hf : ∀ i, .int .u8 (intOf (f i)) = f i) (i : Nat) : .int .u8 (intOf (put4 o x f i)) = put4 o x f i := by
  unfold put4; split
  · rfl
  · exact hf i

theorem lastB_eq (n : Nat) (m : Nat → Int) (L : Int) (i : Nat) : Value.int .u8 (lastB n m L i) = lastF n m L i :=
  put4_int (put4_int (fun i => by split <;> (try split) <;> rfl)) i

/-- The eight numbers of n bytes m. -/
def sumV (n : Nat) (m : Nat → Int) : Nat → Int :=
  blks kc (lastB (n % 64) (fun i => m (n - n % 64 + i)) n) (blks kc m iv (n / 64)) (lastSize (n % 64) / 64)

/-- The sum's bytes. -/
def sumB (n : Nat) (m : Nat → Int) (i : Nat) : Int := bt (sumV n m (i / 4)) (i % 4)

theorem sum_step (n : Nat) (m : Nat → Int) (j i : Nat) : put4 (4 * j) (sumV n m j) (fun i => if i < 4 * j then Value.int .u8 (sumB n m i) else .int .u8 0) i = if i < 4 * (j + 1) then Value.int .u8 (sumB n m i) else .int .u8 0 := by
  unfold put4
  by_cases h : 4 * j ≤ i ∧ i < 4 * j + 4
  · rw [if_pos h, if_pos (by omega)]
    unfold sumB
    rw [show i / 4 = j by omega, show i % 4 = i - 4 * j by omega]
  · rw [if_neg h]
    show (if i < 4 * j then Value.int .u8 (sumB n m i) else .int .u8 0) = _
    by_cases h1 : i < 4 * j
    · rw [if_pos h1, if_pos (by omega)]
    · rw [if_neg h1, if_neg (by omega)]

set_option maxHeartbeats 4000000 in
theorem sum_any (v : Value) (n : Nat) (m : Nat → Int) (w : World) (h : Byt w v n m) (hbig : n ≤ 1000000) :
   Calls Tryz.prog 70 #[v] w fun e w' => e = .returned (.agg (arr 32 (n8 (sumB n m)))) ∧ Fr None' w w' := by
  obtain ⟨va, cap, rfl, hcap, hc⟩ := h
  go_enter Tryz.func70, Tryz.ntmps70
  go_wp2_with fail
  have r0 : (w.alloc (.cells (arr 32 (n8 fun _ => 0)) 96)).rowIs w.heap.size 96 32 (n8 fun _ => 0) := rowIs_of (heap_alloc_new w _)
  have f0 : Fr None' w (w.alloc (.cells (arr 32 (n8 fun _ => 0)) 96)) := Fr.alloc _ _ _
  generalize hw0 : w.alloc _ = w0
  replace r0 : w0.rowIs w.heap.size 96 32 (n8 fun _ => 0) := by rw [← hw0]; exact r0
  replace f0 : Fr None' w w0 := by rw [← hw0]; exact f0
  clear hw0
  refine (starts_any _).mono ?_
  rintro e w1 ⟨rfl, f1⟩
  go_wp2_with fail
  refine (consts_any _).mono ?_
  rintro e w2 ⟨rfl, f2⟩
  have f02 := (f0.then f1).then f2
  have s2 := (f1.then f2).rowIs r0 id
  clear f0 f1 f2 r0
  obtain ⟨r, hr⟩ : ∃ r, n % 64 = r := ⟨_, rfl⟩
  obtain ⟨q, hq⟩ : ∃ q, n / 64 = q := ⟨_, rfl⟩
  obtain ⟨wh, hwh⟩ : ∃ wh, n - r = wh := ⟨_, rfl⟩
  have e1 : (n : Int) % 64 = r := by omega
  have e2 : (n : Int) - r = wh := by omega
  have e3 : (wh : Int) ≤ n := by omega
  have e4 : (n : Int) ≤ cap := by omega
  have e5 : (n : Int) ≤ 1000000 := by omega
  have HQ : Hid (n % 64 = r ∧ n / 64 = q ∧ n - r = wh) := ⟨hr, hq, hwh⟩
  clear hr hq hwh
  go_wp2_with (first
    | (refine store_arr2 info8 _ _ rfl rfl rfl w2.heap.size rfl rfl (fun _ _ => rfl) (f0 := n32 fun _ => 0) (rowIs_of (heap_alloc2_old w2 _ _)) ?_
       intro w3 r3 f3)
    | (refine store_arr2 info64 _ _ rfl rfl rfl (w2.heap.size + 1) rfl rfl (fun _ _ => rfl) (f0 := n32 fun _ => 0) (f3.rowIs (rowIs_of (heap_alloc2_new w2 _ _)) (by simp)) ?_
       intro w4 r4 f4))
  have s4 := f4.rowIs r3 (by simp)
  have f24 := (((Fr.alloc None' w2 _).then (Fr.alloc None' _ _)).trans f3 (fun i e => Or.inr (by omega))).trans f4 (fun i e => Or.inr (by omega))
  clear f3 r3 f4
  have hlow : ∀ i, i < n → ∃ b o, va = some ⟨b, o, none⟩ ∧ b < w.heap.size ∧ w.cell? ⟨b, o + i, none⟩ = some (.int .u8 (m i)) := fun i hi => by
    obtain ⟨b, o, e, h⟩ := hc i hi
    exact ⟨b, o, e, cell_lt h, h⟩
  have hsz := f02.size
  have H := HQ.out
  refine (mixBlocks_any w2.heap.size (w2.heap.size + 1) va wh cap q iv kc m w4 (by omega) (by omega) (by omega) s4 r4 (by omega) (fun i hi => by
    obtain ⟨b, o, e, hb, h⟩ := hlow i (by omega)
    exact ⟨b, o, e, by omega, (f02.then f24).cell h id⟩)).mono ?_
  rintro e w5 ⟨rfl, s5, f5⟩
  have k5 := f5.rowIs r4 (by omega)
  have f05 : Fr None' w w5 := (f02.then f24).trans f5 (fun i e => Or.inr (by omega))
  have o5 := f5.rowIs (f24.rowIs s2 id) (by have := s2.lt; intro e; omega)
  have lw := s2.lt
  clear s4 r4 f24 f5 s2 f02 H hc
  have hlast : Hid (∀ va', (cap = wh → va' = va) → (¬ cap = wh → va' = va.map (fun x => x.add wh)) → Calls Tryz.prog 109 #[.slice va' (n - wh) (cap - wh), .int .u64 n] w5 fun e w' => e = .returned (.tuple #[.agg (arr 128 (n8 (lastB r (fun i => m (n - r + i)) n))), .int .i64 (lastSize r)]) ∧ Fr None' w5 w') := fun va' h1 h2 => by
    have H := HQ.out
    have hl := last_any va' (n - wh) (cap - wh) (fun i => m (n - r + i)) n w5 (by omega) (by omega) (fun i hi => by
      obtain ⟨b, o, e, _, h⟩ := hlow (wh + i) (by omega)
      have e' := h2 (by omega)
      refine ⟨b, o + wh, ?_, ?_⟩
      · rw [e', e]
        show some (Addr.add _ _) = _
        unfold Addr.add; split <;> simp_all
      · have := f05.cell h id
        rw [Nat.add_assoc]
        rw [show n - r = wh by omega]
        exact this)
    rw [show n - wh = r by omega] at hl ⊢
    refine hl.mono ?_
    rintro e w' ⟨rfl, f⟩
    refine ⟨?_, f⟩
    have : n8 (lastB r (fun i => m (n - r + i)) n) = lastF r (fun i => m (n - r + i)) n := by
      funext i
      exact lastB_eq _ _ _ _
    rw [this]
  clear hlow
  obtain ⟨sz, hS⟩ : ∃ sz, lastSize r = sz := ⟨_, rfl⟩
  unfold Hid at hlast; rw [hS] at hlast
  have hlast : Hid _ := hlast
  have HS : Hid (lastSize r = sz) := hS
  have sz1 : (sz : Int) ≤ 128 := by
    have : sz ≤ 128 := by rw [← hS]; unfold lastSize; split <;> omega
    omega
  have hS2 : sz = 64 * (sz / 64) := by rw [← hS]; unfold lastSize; split <;> rfl
  have HS2 : Hid (sz = 64 * (sz / 64)) := hS2
  clear hS hS2
  by_cases hcw : cap = wh
  · have hl2 := hlast.out va (fun _ => rfl) (fun h' => absurd hcw h')
    rw [show cap - wh = 0 by omega] at hl2
    clear hlast
    go_wp2_with fail
    refine hl2.mono ?_
    rintro e w6 ⟨rfl, f6⟩
    have s6 := f6.rowIs s5 id
    have k6 := f6.rowIs k5 id
    have o6 := f6.rowIs o5 id
    have f06 := f05.then f6
    have hz := zero128
    clear hl2 f05 s5 k5 o5 f6
    go_wp2_with (refine store_arr2 info128 _ _ rfl rfl rfl w6.heap.size rfl rfl (fun _ _ => rfl) (f0 := n8 fun _ => 0) (rowIs_of (heap_alloc_new w6 _)) ?_; intro w7 r7 f7)
    replace f7 := (Fr.alloc None' w6 _).trans f7 (fun i e => Or.inr (by omega))
    have s7 := f7.rowIs s6 id
    have k7 := f7.rowIs k6 id
    have o7 := f7.rowIs o6 id
    have f07 := f06.then f7
    have l6 := s6.lt
    clear s6 k6 o6 f06 f7 hz
    refine (mixBlocks_any w2.heap.size (w2.heap.size + 1) (some ⟨w6.heap.size, 0, none⟩) sz 128 (sz / 64) (blks kc m iv q) kc (lastB r (fun i => m (n - r + i)) n) w7 HS2.out (by omega) (by omega) s7 k7 (by omega) (fun i hi => ⟨w6.heap.size, 0, rfl, by omega, by
      rw [Nat.zero_add]; exact r7.cell (by omega)⟩)).mono ?_
    rintro e w8 ⟨rfl, s8, f8⟩
    have o8 := f8.rowIs o7 (by omega)
    have f08 : Fr None' w w8 := f07.trans f8 (fun i e => Or.inr (by omega))
    have hV : Hid (blks kc (lastB r (fun i => m (n - r + i)) n) (blks kc m iv q) (sz / 64) = sumV n m) := by
      obtain ⟨h1, h2, h3⟩ := HQ.out
      show _ = _
      unfold sumV
      rw [h1, h2, HS.out]
    rw [hV.out] at s8
    clear r7 s7 k7 o7 f07 f8 hV
    go_wp2_with fail
    have r9 : (w8.alloc (.cells (arr 32 (n8 fun _ => 0)) 96)).rowIs w8.heap.size 96 32 (n8 fun _ => 0) := rowIs_of (heap_alloc_new w8 _)
    have f9 : Fr None' w8 (w8.alloc (.cells (arr 32 (n8 fun _ => 0)) 96)) := Fr.alloc _ _ _
    generalize hw9 : w8.alloc _ = w9
    replace r9 : w9.rowIs w8.heap.size 96 32 (n8 fun _ => 0) := by rw [← hw9]; exact r9
    replace f9 : Fr None' w8 w9 := by rw [← hw9]; exact f9
    have s9 := f9.rowIs s8 id
    have o9 := f9.rowIs o8 id
    have f09 := f08.then f9
    have l8 := s8.lt
    have l8o := o8.lt
    clear hw9 s8 o8 f08 f9
    go_loopw [35] (fun i wr => ∃ j : Nat, j ≤ 8 ∧ i = .int .i64 j ∧ wr.rowIs w8.heap.size 96 32 (fun i => if i < 4 * j then .int .u8 (sumB n m i) else .int .u8 0) ∧ wr.rowIs w2.heap.size 132 8 (n32 (sumV n m)) ∧ wr.rowIs w.heap.size 96 32 (n8 fun _ => 0) ∧ Fr None' w wr) (fun i _ => 8 - (intOf i).toNat)
    case atStart => exact ⟨0, by omega, rfl, r9.congr (fun i _ => by simp [n8]), s9, o9, f09⟩
    case round =>
      clear r9 s9 o9 f09
      obtain ⟨j, hj, rfl, q1, q2, q3, fr⟩ := hrel
      by_cases hlt : j < 8
      · have i0 : (j : Int) < 8 := by omega
        have cs := q2.cell hlt
        simp only [n32] at cs
        have l4 : 4 * (j : Int) ≤ 32 := by omega
        have l5 : ¬ (32 = 4 * j) := by omega
        have d4 : (0 : Int) ≤ 4 * (j : Int) := by omega
        have w4 : IntKind.i64.wrap (4 * (j : Int)) = 4 * j := by rw [IntKind.wrap_i64]; omega
        have t4 : (4 * (j : Int)).toNat = 4 * j := by omega
        go_wp2_with fail
        refine region_tail 6 mixed (by kernel_rfl) ?_
        simp only [List.take_succ_cons, List.take_zero, List.drop_succ_cons, List.drop_zero]
        repeat still_step
        refine wpStill_nil ?_
        go_wp2_with fail
        have q1' : wr.drew.rowIs w8.heap.size 96 32 (fun i => if i < 4 * j then .int .u8 (sumB n m i) else .int .u8 0) := q1
        refine (putWord_any w8.heap.size (4 * j) (32 - 4 * j) (32 - 4 * j) (sumV n m j) wr.drew (by omega) _ _ _ q1' (by omega)).mono ?_
        rintro e wx ⟨rfl, p1, fx⟩
        have p2 := fx.rowIs (World.rowIs.drew q2) (by omega)
        have p3 := fx.rowIs (World.rowIs.drew q3) (by omega)
        have fy : Fr None' w wx := (fr.then (Fr.drewN _ _ 1)).trans fx (fun i e => Or.inr (by omega))
        clear q1 q2 q3 fr q1' fx cs
        go_wp2
        go_roundw
        case rel => exact ⟨j + 1, by omega, by go_num, p1.congr (fun i _ => sum_step n m j i), p2, p3, fy⟩
        case measure => simp [intOf]; omega
      · have i0 : (8 : Int) ≤ (j : Int) := by omega
        have q1' : wr.rowIs w8.heap.size 96 32 (n8 (sumB n m)) := q1.congr (fun i hi => by rw [if_pos (by omega)]; rfl)
        clear q1 q2 hlt hj
        go_wp2_with (first
          | refine load_arr Tryz.underlying96 info32 w8.heap.size q1' _ rfl rfl rfl ?_
          | refine store_arr info32 w.heap.size q3 (fun _ _ => rfl) _ _ rfl rfl rfl rfl rfl ?_)
        refine bodyPost_ret (v := .agg (arr 32 (n8 (sumB n m)))) (result_arr Tryz.underlying96 info32 rfl _ rfl (rowIs_setRow q3)) rfl ⟨rfl, ?_⟩
        exact fr.trans (Fr.setRow (M := fun i => i = w.heap.size) _ rfl _) (fun i e => Or.inr (by omega))
  · have hl2 := hlast.out (va.map (fun x => x.add wh)) (fun h' => absurd h' hcw) (fun _ => rfl)
    clear hlast
    go_wp2_with fail
    refine hl2.mono ?_
    rintro e w6 ⟨rfl, f6⟩
    have s6 := f6.rowIs s5 id
    have k6 := f6.rowIs k5 id
    have o6 := f6.rowIs o5 id
    have f06 := f05.then f6
    have hz := zero128
    clear hl2 f05 s5 k5 o5 f6
    go_wp2_with (refine store_arr2 info128 _ _ rfl rfl rfl w6.heap.size rfl rfl (fun _ _ => rfl) (f0 := n8 fun _ => 0) (rowIs_of (heap_alloc_new w6 _)) ?_; intro w7 r7 f7)
    replace f7 := (Fr.alloc None' w6 _).trans f7 (fun i e => Or.inr (by omega))
    have s7 := f7.rowIs s6 id
    have k7 := f7.rowIs k6 id
    have o7 := f7.rowIs o6 id
    have f07 := f06.then f7
    have l6 := s6.lt
    clear s6 k6 o6 f06 f7 hz
    refine (mixBlocks_any w2.heap.size (w2.heap.size + 1) (some ⟨w6.heap.size, 0, none⟩) sz 128 (sz / 64) (blks kc m iv q) kc (lastB r (fun i => m (n - r + i)) n) w7 HS2.out (by omega) (by omega) s7 k7 (by omega) (fun i hi => ⟨w6.heap.size, 0, rfl, by omega, by
      rw [Nat.zero_add]; exact r7.cell (by omega)⟩)).mono ?_
    rintro e w8 ⟨rfl, s8, f8⟩
    have o8 := f8.rowIs o7 (by omega)
    have f08 : Fr None' w w8 := f07.trans f8 (fun i e => Or.inr (by omega))
    have hV : Hid (blks kc (lastB r (fun i => m (n - r + i)) n) (blks kc m iv q) (sz / 64) = sumV n m) := by
      obtain ⟨h1, h2, h3⟩ := HQ.out
      show _ = _
      unfold sumV
      rw [h1, h2, HS.out]
    rw [hV.out] at s8
    clear r7 s7 k7 o7 f07 f8 hV
    go_wp2_with fail
    have r9 : (w8.alloc (.cells (arr 32 (n8 fun _ => 0)) 96)).rowIs w8.heap.size 96 32 (n8 fun _ => 0) := rowIs_of (heap_alloc_new w8 _)
    have f9 : Fr None' w8 (w8.alloc (.cells (arr 32 (n8 fun _ => 0)) 96)) := Fr.alloc _ _ _
    generalize hw9 : w8.alloc _ = w9
    replace r9 : w9.rowIs w8.heap.size 96 32 (n8 fun _ => 0) := by rw [← hw9]; exact r9
    replace f9 : Fr None' w8 w9 := by rw [← hw9]; exact f9
    have s9 := f9.rowIs s8 id
    have o9 := f9.rowIs o8 id
    have f09 := f08.then f9
    have l8 := s8.lt
    have l8o := o8.lt
    clear hw9 s8 o8 f08 f9
    go_loopw [35] (fun i wr => ∃ j : Nat, j ≤ 8 ∧ i = .int .i64 j ∧ wr.rowIs w8.heap.size 96 32 (fun i => if i < 4 * j then .int .u8 (sumB n m i) else .int .u8 0) ∧ wr.rowIs w2.heap.size 132 8 (n32 (sumV n m)) ∧ wr.rowIs w.heap.size 96 32 (n8 fun _ => 0) ∧ Fr None' w wr) (fun i _ => 8 - (intOf i).toNat)
    case atStart => exact ⟨0, by omega, rfl, r9.congr (fun i _ => by simp [n8]), s9, o9, f09⟩
    case round =>
      clear r9 s9 o9 f09
      obtain ⟨j, hj, rfl, q1, q2, q3, fr⟩ := hrel
      by_cases hlt : j < 8
      · have i0 : (j : Int) < 8 := by omega
        have cs := q2.cell hlt
        simp only [n32] at cs
        have l4 : 4 * (j : Int) ≤ 32 := by omega
        have l5 : ¬ (32 = 4 * j) := by omega
        have d4 : (0 : Int) ≤ 4 * (j : Int) := by omega
        have w4 : IntKind.i64.wrap (4 * (j : Int)) = 4 * j := by rw [IntKind.wrap_i64]; omega
        have t4 : (4 * (j : Int)).toNat = 4 * j := by omega
        go_wp2_with fail
        refine region_tail 6 mixed (by kernel_rfl) ?_
        simp only [List.take_succ_cons, List.take_zero, List.drop_succ_cons, List.drop_zero]
        repeat still_step
        refine wpStill_nil ?_
        go_wp2_with fail
        have q1' : wr.drew.rowIs w8.heap.size 96 32 (fun i => if i < 4 * j then .int .u8 (sumB n m i) else .int .u8 0) := q1
        refine (putWord_any w8.heap.size (4 * j) (32 - 4 * j) (32 - 4 * j) (sumV n m j) wr.drew (by omega) _ _ _ q1' (by omega)).mono ?_
        rintro e wx ⟨rfl, p1, fx⟩
        have p2 := fx.rowIs (World.rowIs.drew q2) (by omega)
        have p3 := fx.rowIs (World.rowIs.drew q3) (by omega)
        have fy : Fr None' w wx := (fr.then (Fr.drewN _ _ 1)).trans fx (fun i e => Or.inr (by omega))
        clear q1 q2 q3 fr q1' fx cs
        go_wp2
        go_roundw
        case rel => exact ⟨j + 1, by omega, by go_num, p1.congr (fun i _ => sum_step n m j i), p2, p3, fy⟩
        case measure => simp [intOf]; omega
      · have i0 : (8 : Int) ≤ (j : Int) := by omega
        have q1' : wr.rowIs w8.heap.size 96 32 (n8 (sumB n m)) := q1.congr (fun i hi => by rw [if_pos (by omega)]; rfl)
        clear q1 q2 hlt hj
        go_wp2_with (first
          | refine load_arr Tryz.underlying96 info32 w8.heap.size q1' _ rfl rfl rfl ?_
          | refine store_arr info32 w.heap.size q3 (fun _ _ => rfl) _ _ rfl rfl rfl rfl rfl ?_)
        refine bodyPost_ret (v := .agg (arr 32 (n8 (sumB n m)))) (result_arr Tryz.underlying96 info32 rfl _ rfl (rowIs_setRow q3)) rfl ⟨rfl, ?_⟩
        exact fr.trans (Fr.setRow (M := fun i => i = w.heap.size) _ rfl _) (fun i e => Or.inr (by omega))
end Go.Proofs.YtdaogldmcbfmoaaGreatDoor.Sha
