/- What is proved here: contracts for RecordMakes. Conditions: as named. -/
import Derived.Test.YtbnfjjjdnbcehaaGreatDoorX1FPlain
set_option maxHeartbeats 16000000
namespace Go.Proofs.YtbnfjjjdnbcehaaGreatDoor.Diff
open Go.RowKit
set_option maxRecDepth 100000
theorem run_store_float {P : Program} {w : World} {a : Addr} {m : Mode} (k : FloatKind) (b : Nat) : (store a (.float k b) m).run P w = stored P w a (.float k b) m := run_store P w a _ m rfl
theorem run_sqrt {x r : Nat} (h : FloatKind.f64.format.sqrt x = some r) (w : World) : (callFunc 197 #[.float .f64 x]).run Tryz.prog w = .ok (.value (.float .f64 r)) w := by
 rw [run_callFunc_extern (P := Tryz.prog) (f := 197) (fn := Tryz.f197) (e := Extern.MathSqrt.sqrt) (by kernel_rfl) (by kernel_rfl) (by kernel_rfl) (by kernel_rfl) (by kernel_rfl)]
 have e : Extern.MathSqrt.sqrt #[.float .f64 x] = (match FloatKind.f64.format.sqrt x with
  | some r => pure (Value.float .f64 r)
  | none => do pure (Value.float .f64 (← choose (.nanBits .f64 x x)))) := rfl
 rw [e, h]
 rfl
theorem run_frombits (n : Nat) (w : World) : (callFunc 231 #[.int .u64 n]).run Tryz.prog w = .ok (.value (.float .f64 n)) w := by
 rw [run_callFunc_extern (P := Tryz.prog) (f := 231) (fn := Tryz.f231) (e := Extern.MathFloatBits.float64frombits) (by kernel_rfl) (by kernel_rfl) (by kernel_rfl) (by kernel_rfl) (by kernel_rfl)]
 rfl
theorem sqrt_any {x r : Nat} (h : FloatKind.f64.format.sqrt x = some r) (w : World) : Calls Tryz.prog 164 #[.float .f64 x] w fun e w' => e = .returned (.float .f64 r) ∧ w = w' := by
 have hq := run_sqrt h
 clear h
 go_enter Tryz.func164, Tryz.ntmps164
 go_wp2
 go_ret
 exact ⟨rfl, rfl⟩
theorem inf_any (w : World) : Calls Tryz.prog 223 #[.int .i64 (-1)] w fun e w' => e = .returned (flV none) ∧ w = w' := by
 have hq : ∀ w, (callFunc 231 #[.int .u64 18442240474082181120]).run Tryz.prog w = .ok (.value (.float .f64 18442240474082181120)) w := run_frombits 18442240474082181120
 go_enter Tryz.func223, Tryz.ntmps223
 go_wp2
 go_ret
 exact ⟨rfl, rfl⟩
attribute [local go_sem] run_store_float
def Yw (base : Nat) (w : World) (v : Value) (n : Nat) (f : Nat → Option Nat) : Prop := OwnV base w 171 v ((List.range n).map (fun i => flV (f i)))
theorem Yw.own {base : Nat} {w : World} {v : Value} {n : Nat} {f : Nat → Option Nat} (h : Yw base w v n f) : w.ownsRow base 171 1 v n ((List.range n).map (fun i => flV (f i))) := by
 have := h
 unfold Yw OwnV at this
 rw [List.length_map, List.length_range] at this
 exact this
theorem Yw.of {base : Nat} {w : World} {v : Value} {n : Nat} {f : Nat → Option Nat} (h : w.ownsRow base 171 1 v n ((List.range n).map (fun i => flV (f i)))) : Yw base w v n f := by
 unfold Yw OwnV
 rw [List.length_map, List.length_range]
 exact h
theorem Yw.cell {base : Nat} {w : World} {g n c : Nat} {f : Nat → Option Nat} (h : Yw base w (.slice (some ⟨g, 0, none⟩) n c) n f) {j : Nat} (hj : j < n) : w.cell? ⟨g, j, none⟩ = some (flV (f j)) := by
 rw [World.ownsRow.cellAt h.own j (by omega)]
 simp [hj]
theorem Yw.frozen {base : Nat} {w : World} {g n c : Nat} {f : Nat → Option Nat} (h : Yw base w (.slice (some ⟨g, 0, none⟩) n c) n f) (j : Nat) : w.frozen? ⟨g, j, none⟩ = false := World.ownsRow.frozenAt h.own j
theorem Yw.congr {base : Nat} {w : World} {v : Value} {n : Nat} {f f' : Nat → Option Nat} (h : Yw base w v n f) (e : ∀ i, i < n → f i = f' i) : Yw base w v n f' := by
 unfold Yw at h ⊢
 rw [show (List.range n).map (fun i => flV (f' i)) = (List.range n).map (fun i => flV (f i)) from List.map_congr_left (fun i hi => by rw [e i (List.mem_range.1 hi)])]
 exact h
theorem Yw.set {base : Nat} {w : World} {g n c : Nat} {f : Nat → Option Nat} (h : Yw base w (.slice (some ⟨g, 0, none⟩) n c) n f) (j : Nat) (u : Option Nat) : Yw base (w.setCell ⟨g, j, none⟩ (flV u)) (.slice (some ⟨g, 0, none⟩) n c) n (fun i => if i = j then u else f i) := by
 refine Yw.of ?_
 have := (World.ownsRow.stored h.own j (flV u)).1
 rw [show (List.range n).map (fun i => flV (if i = j then u else f i)) = ((List.range n).map (fun i => flV (f i))).set j (flV u) from ?_]
 ·exact this
 ·apply List.ext_getElem?
  intro i
  rw [List.getElem?_set]
  by_cases hi : i < n
  ·by_cases e : j = i
   ·subst e; simp [hi]
   ·have e' : ¬ i = j := fun h => e h.symm
    simp [hi, e, e']
  ·by_cases e : j = i
   ·subst e; simp [hi]
   ·simp [hi, e]
theorem Yw.fr {M : Nat → Prop} {base : Nat} {w w' : World} {v : Value} {n : Nat} {f : Nat → Option Nat} (h : Yw base w v n f) (k : Fr M w w') (hm : ∀ k, Zr v k → ¬ M k) : Yw base w' v n f := OwnV.fr h k hm
theorem alike_any (va vb : Option Addr) (ca cb : Nat) (a b : List ByteArray) (w : World) (ha : Row w va a) (hb : Row w vb b) (hla : a.length < 100000) (hlb : b.length < 100000) :
  Calls Tryz.prog 95 #[.slice va a.length ca, .slice vb b.length cb] w fun e w' => ∃ n : Nat, e = .returned (.int .i64 n) ∧ n ≤ a.length ∧ n ≤ b.length ∧ a.take n = b.take n ∧ Fr None' w w' := by
 obtain ⟨na, hna⟩ : ∃ n, a.length = n := ⟨_, rfl⟩
 obtain ⟨nb, hnb⟩ : ∃ n, b.length = n := ⟨_, rfl⟩
 have HA : Hid (a.length = na) := hna
 have HB : Hid (b.length = nb) := hnb
 rw [hna, hnb]
 rw [hna] at hla
 rw [hnb] at hlb
 clear hna hnb
 have i1 : (na : Int) < 100000 := by omega
 have i2 : (nb : Int) < 100000 := by omega
 go_enter Tryz.func95, Tryz.ntmps95
 go_wp2_with fail
 go_loopw [5] (fun i wr => ∃ k : Nat, k ≤ na ∧ k ≤ nb ∧ i = .int .i64 k ∧ Hid (a.take k = b.take k) ∧ Fr None' w wr) (fun i _ => na - (intOf i).toNat)
 case atStart => exact ⟨0, Nat.zero_le _, Nat.zero_le _, rfl, rfl, Fr.refl _ _⟩
 case round =>
  obtain ⟨k, hk1, hk2, rfl, HT, hF⟩ := hrel
  by_cases hlt : k < na
  ·by_cases hlt2 : k < nb
   ·have hka : k < a.length := by rw [HA.out]; exact hlt
    have hkb : k < b.length := by rw [HB.out]; exact hlt2
    obtain ⟨ga, oa, rfl, c1⟩ := (ha.fr hF).get hka
    obtain ⟨gb, ob, rfl, c2⟩ := (hb.fr hF).get hkb
    have i3 : (0 : Int) ≤ (k : Int) := by omega
    have i4 : (k : Int) < (na : Int) := by omega
    have i5 : (k : Int) < (nb : Int) := by omega
    obtain ⟨x, hx⟩ : ∃ x, a[k] = x := ⟨_, rfl⟩
    obtain ⟨y, hy⟩ : ∃ y, b[k] = y := ⟨_, rfl⟩
    rw [hx] at c1
    rw [hy] at c2
    by_cases hxy : x = y
    ·subst hxy
     have HS : Hid (a.take (k + 1) = b.take (k + 1)) := by
      show _ = _
      rw [List.take_succ_eq_append_getElem hka, List.take_succ_eq_append_getElem hkb, hx, hy, HT.out]
     clear ha hb HT hx hy hka hkb
     go_wp2_with fail
     go_quiet (fail)
     go_wp2_with fail
     exact ⟨⟨k + 1, by omega, by omega, by go_num, HS.out, hF.then (Fr.drewN _ _ _)⟩, by simp [intOf]; omega⟩
    ·obtain ⟨q1, q2⟩ := str_no hxy
     have q3 : ¬ x = y := hxy
     clear ha hb hx hy hka hkb
     go_wp2_with fail
     go_quiet (fail)
     go_wp2_with fail
     go_ret
     exact ⟨k, rfl, hk1, hk2, HT.out, hF.then (Fr.drewN _ _ _)⟩
   ·have hd : decide ((k : Int) < (nb : Int)) = false := by simp; omega
    have hd2 : decide ((k : Int) < (na : Int)) = true := by simp; omega
    clear ha hb
    go_wp2_with fail
    go_quiet (fail)
    go_wp2_with fail
    go_ret
    exact ⟨k, rfl, hk1, hk2, HT.out, hF.then (Fr.drewN _ _ _)⟩
  ·have hd : decide ((k : Int) < (na : Int)) = false := by simp; omega
   clear ha hb
   go_wp2_with fail
   go_quiet (fail)
   go_wp2_with fail
   go_ret
   exact ⟨k, rfl, hk1, hk2, HT.out, hF.then (Fr.drewN _ _ _)⟩
theorem copied_any (va : Option Addr) (ca : Nat) (a : List ByteArray) (w : World) (ha : Row w va a) (hn : va = none → ca = 0) (hl : a.length < 100000) :
  Calls Tryz.prog 97 #[.slice va a.length ca] w fun e w' => ∃ v, e = .returned v ∧ OwnV w.heap.size w' 9 v (a.map .string) ∧ Fr None' w w' := by
 have HR : Hid (Row w va a) := ha
 clear ha
 go_enter Tryz.func97, Tryz.ntmps97
 go_wp2_with (at_builtin
              refine append_one oneS rfl _ _ rfl rfl (OwnV.nil w.heap.size w 9) (m := a.map .string) rfl (List.length_map _) HR.out.vals hn (strs_one a) (by simp; omega) (Nat.le_refl _) ?_
              intro v1 w1 own1 f1 _)
 rw [List.nil_append] at own1
 go_ret
 exact ⟨_, rfl, own1, f1.mono (fun k e => by cases e)⟩
theorem kept_bound {a : List Int} (ha : a.length ≤ 4120) (b : List Int) : ∀ k, kept a b = some k → k < 4220 := fun k h => by
 have := kept_le a b k h
 omega
theorem drop_get {B : List Int} {k : Nat} (hk : k < B.length) : B.drop k = B[k] :: B.drop (k + 1) := List.drop_eq_getElem_cons hk
theorem putAhead_any (base g c m cb : Nat) (vb : Option Addr) (B a : List Int) (line : Int) (w : World) (hB : RowV w vb (ints B)) (hm : B.length = m) (hbm : m ≤ 4120) (hba : a.length < 4120) (ho : Yw base w (.slice (some ⟨g, 0, none⟩) (m + 1) c) (m + 1) (rowK a B)) (hoff : Off (fun k => k = g) vb) :
  Calls Tryz.prog 204 #[.int .i64 line, .slice vb m cb, .slice (some ⟨g, 0, none⟩) (m + 1) c] w fun e w' => (∃ v, e = .returned v) ∧ Yw base w' (.slice (some ⟨g, 0, none⟩) (m + 1) c) (m + 1) (rowK (line :: a) B) ∧ Fr (fun k => k = g) w w' := by
 have HM : Hid (B.length = m) := hm
 have i1 : (m : Int) ≤ 4120 := by omega
 have c0 : w.cell? ⟨g, m, none⟩ = some (flV (kept a (B.drop m))) := ho.cell (by omega)
 have f0 : w.frozen? ⟨g, m, none⟩ = false := ho.frozen m
 have H1 : Hid (Yw base (w.setCell ⟨g, m, none⟩ (flV none)) (.slice (some ⟨g, 0, none⟩) (m + 1) c) (m + 1) (fun i => if i < m then rowK a B i else rowK (line :: a) B i)) := (ho.set m none).congr (fun i hi => by
  by_cases e : i = m
  ·subst e
   rw [if_pos rfl, if_neg (by omega), rowK, List.drop_of_length_le (by omega), kept_cn]
  ·rw [if_neg e, if_pos (by omega)])
 have F1 : Fr (fun k => k = g) w (w.setCell ⟨g, m, none⟩ (flV none)) := Fr.setCell (M := fun k => k = g) w (a := ⟨g, m, none⟩) rfl _
 have HK : Hid (kept (line :: a) (B.drop m) = none) := by
  show _ = _
  rw [List.drop_of_length_le (by omega), kept_cn]
 clear hm ho
 unfold flV at c0 H1 F1
 go_enter Tryz.func204, Tryz.ntmps204
 go_wp2_with (go_at_call 223; refine (inf_any _).mono ?_; rintro e w' ⟨rfl, rfl⟩; unfold flV)
 go_loopw [6, 7, 8] (fun vb' vk i wr => ∃ k : Nat, k ≤ m ∧ i = .int .i64 ((k : Int) - 1) ∧ vb' = flV (kept a (B.drop k)) ∧ vk = flV (kept (line :: a) (B.drop k)) ∧ Hid (Yw base wr (.slice (some ⟨g, 0, none⟩) (m + 1) c) (m + 1) (fun i => if i < k then rowK a B i else rowK (line :: a) B i)) ∧ Fr (fun k => k = g) w wr) (fun _ _ i _ => (intOf i + 1).toNat)
 case atStart => exact ⟨m, Nat.le_refl _, rfl, rfl, by rw [HK.out]; rfl, H1.out, F1⟩
 case round =>
  clear c0 f0 H1 F1 HK
  obtain ⟨k, hk, rfl, rfl, rfl, HR, hF⟩ := hrel
  cases k with
  | zero =>
   go_wp2_with fail
   go_end0
   exact ⟨⟨_, rfl⟩, HR.out.congr (fun i _ => by rw [if_neg (by omega)]), hF⟩
  | succ k =>
   have hkB : k < B.length := by rw [HM.out]; omega
   obtain ⟨gb, ob, rfl, c2⟩ := (hB.fr hF hoff).get (k := k) (by rw [Z9]; exact hkB)
   rw [ints_get hkB] at c2
   have c1 := HR.out.cell (j := k) (by omega)
   have f1 := HR.out.frozen k
   rw [if_pos (by omega)] at c1
   have e1 : ((k + 1 : Nat) : Int) - 1 = (k : Int) := by omega
   rw [e1]
   have hd := drop_get hkB
   obtain ⟨y, hy⟩ : ∃ y, B[k] = y := ⟨_, rfl⟩
   rw [hy] at c2 hd
   have i3 : (0 : Int) ≤ (k : Int) := by omega
   have i4 : (k : Int) < (m : Int) := by omega
   have HD : Hid (B.drop k = y :: B.drop (k + 1)) := hd
   have nx : ∀ u, kept (line :: a) (B.drop k) = u → Hid (Yw base (wr.setCell ⟨g, k, none⟩ (flV u)) (.slice (some ⟨g, 0, none⟩) (m + 1) c) (m + 1) (fun i => if i < k then rowK a B i else rowK (line :: a) B i)) := fun u hu => (HR.out.set k u).congr (fun i hi => by
    by_cases e : i = k
    ·subst e
     rw [if_pos rfl, if_neg (by omega), ← hu]
     rfl
    ·rw [if_neg e]
     by_cases e2 : i < k
     ·rw [if_pos (by omega), if_pos e2]
     ·rw [if_neg (by omega), if_neg e2])
   have F2 : ∀ u, Fr (fun k => k = g) wr (wr.setCell ⟨g, k, none⟩ (flV u)) := fun u => Fr.setCell (M := fun k => k = g) wr (a := ⟨g, k, none⟩) rfl _
   rw [rowK] at c1
   obtain ⟨u0, hu0⟩ : ∃ u, kept a (B.drop (k + 1)) = u := ⟨_, rfl⟩
   obtain ⟨u1, hu1⟩ : ∃ u, kept (line :: a) (B.drop (k + 1)) = u := ⟨_, rfl⟩
   obtain ⟨u2, hu2⟩ : ∃ u, kept a (B.drop k) = u := ⟨_, rfl⟩
   have b0 : ∀ k, u0 = some k → k < 4220 := hu0 ▸ kept_bound (by omega) _
   have b1 : ∀ k, u1 = some k → k ≤ 4220 := fun k h => Nat.le_of_lt ((hu1 ▸ kept_bound (a := line :: a) (by simp; omega) _ : ∀ k, u1 = some k → k < 4220) k h)
   have b2 : ∀ k, u2 = some k → k ≤ 4220 := fun k h => Nat.le_of_lt ((hu2 ▸ kept_bound (by omega) _ : ∀ k, u2 = some k → k < 4220) k h)
   rw [hu0, hu1]
   rw [hu2] at c1
   unfold flV
   unfold flV at c1
   by_cases hxy : line = y
   ·subst hxy
    have hk1 : kept (line :: a) (B.drop k) = u0.map (· + 1) := by rw [HD.out, kept_same, hu0]
    have HN := nx _ hk1
    have F3 := F2 (u0.map (· + 1))
    have hadd : ∀ v, (binOp .add 171 (.float .f64 (fl u0)) (.float .f64 4607182418800017408)).run Tryz.prog v = .ok (.float .f64 (fl (u0.map (· + 1)))) v := fun v => run_float_arith v .add 171 .f64 _ _ _ (fl_add u0 b0)
    have HQ : Hid (kept a (B.drop k) = u2 ∧ kept (line :: a) (B.drop k) = u0.map (· + 1)) := ⟨hu2, hk1⟩
    clear nx F2 b0 b1 b2 hu0 hu1 hu2 hk1 hd hy HR hB HD
    generalize u0.map (· + 1) = u3 at *
    unfold flV at F3
    go_wp2_with fail
    refine ⟨⟨k, by omega, rfl, by rw [HQ.out.1], by rw [HQ.out.2], HN.out, hF.then F3⟩, ?_⟩
    simp [intOf]
   ·have hk1 : kept (line :: a) (B.drop k) = if klt u1 u2 then u2 else u1 := by
     rw [HD.out, kept_ne hxy, kmax_lt, ← HD.out, hu1, hu2]
    have HN := nx _ hk1
    have F3 := F2 (if klt u1 u2 then u2 else u1)
    have hl := fl_lss u1 u2 b1 b2
    have HQ : Hid (kept a (B.drop k) = u2 ∧ kept (line :: a) (B.drop k) = if klt u1 u2 then u2 else u1) := ⟨hu2, hk1⟩
    clear nx F2 b0 b1 b2 hu0 hu1 hu2 hk1 hd hy HR hB HD
    cases hc : klt u1 u2
    all_goals
     rw [hc] at hl HN F3 HQ
     simp only [if_true, if_false, Bool.false_eq_true] at HN F3 HQ
     clear hc
     unfold flV at F3
     go_wp2_with fail
     refine ⟨⟨k, by omega, rfl, by rw [HQ.out.1], by rw [HQ.out.2], HN.out, hF.then F3⟩, ?_⟩
     simp [intOf]
end Go.Proofs.YtbnfjjjdnbcehaaGreatDoor.Diff
namespace Go.Proofs.YtbnfjjjdnbcehaaGreatDoor.Diff
open Go.RowKit
set_option maxRecDepth 100000
theorem list_step {a b : List ByteArray} {k : Nat} (hn : a.length = b.length) (hk : k < a.length) (h : a.take k = b.take k) (e : a[k] = b[k]'(hn ▸ hk)) : a.take (k + 1) = b.take (k + 1) := by
 rw [List.take_succ_eq_append_getElem hk, List.take_succ_eq_append_getElem (hn ▸ hk), h, e]
theorem equal_any (va vb : Option Addr) (ca cb : Nat) (a b : List ByteArray) (w : World) (ha : Row w va a) (hb : Row w vb b) (hl : a.length < 1000000000) :
  Calls Tryz.prog 84 #[.slice va a.length ca, .slice vb b.length cb] w fun e w' => e = .returned (.bool (decide (a = b))) ∧ Fr None' w w' := by
 by_cases hn : a.length = b.length
 case neg =>
  have hR : Hid (decide (a = b) = false) := decide_eq_false (fun e => hn (by rw [e]))
  have i1 : ¬ (a.length : Int) = b.length := by omega
  rw [hR.out]
  clear ha hb hn hR
  go_enter Tryz.func84, Tryz.ntmps84
  go_wp2_with fail
  go_ret
  exact ⟨rfl, Fr.refl _ _⟩
 case pos =>
 have HN : Hid (a.length = b.length) := hn
 obtain ⟨n, hna⟩ : ∃ n, a.length = n := ⟨_, rfl⟩
 have HA : Hid (a.length = n) := hna
 rw [← hn, hna]
 have i1 : (n : Int) < 1000000000 := by omega
 clear hl hn hna
 go_enter Tryz.func84, Tryz.ntmps84
 go_wp2_with fail
 go_loopw [13] (fun i wr => ∃ k : Nat, k ≤ n ∧ i = .int .i64 k ∧ Fr None' w wr ∧ Hid (a.take k = b.take k)) (fun i _ => n - (intOf i).toNat)
 case atStart => exact ⟨0, Nat.zero_le _, rfl, Fr.refl _ _, rfl⟩
 case round =>
  obtain ⟨k, hk, rfl, hF, HT⟩ := hrel
  by_cases hlt : k < n
  ·have hka : k < a.length := by rw [HA.out]; exact hlt
   have hkb : k < b.length := by rw [← HN.out]; exact hka
   obtain ⟨ga, oa, rfl, c1⟩ := (ha.fr hF).get hka
   obtain ⟨gb, ob, rfl, c2⟩ := (hb.fr hF).get hkb
   obtain ⟨x, hx⟩ : ∃ x, a[k] = x := ⟨_, rfl⟩
   obtain ⟨y, hy⟩ : ∃ y, b[k] = y := ⟨_, rfl⟩
   have HX : Hid (a[k] = x) := hx
   have HY : Hid (b[k] = y) := hy
   rw [hx] at c1
   rw [hy] at c2
   clear hx hy ha hb
   have i2 : (k : Int) < n := by omega
   by_cases hxy : x = y
   ·subst hxy
    go_wp2_with fail
    go_quiet (fail)
    go_wp2_with fail
    exact ⟨⟨k + 1, by omega, by go_num, hF.then (Fr.drewN _ _ _), list_step HN.out hka HT.out (by rw [HX.out, HY.out])⟩, by simp [intOf]; omega⟩
   ·have HE : Hid (¬ x = y) := hxy
    obtain ⟨q1, q2⟩ := str_no hxy
    clear hxy
    go_wp2_with fail
    go_quiet (fail)
    clear c1 c2
    go_wp2_with fail
    go_ret
    exact ⟨ret_bool (decide_eq_false (fun e => HE.out (by rw [← HX.out, ← HY.out]; subst e; rfl))).symm, hF.then (Fr.drewN _ _ _)⟩
  ·go_wp2_with fail
   go_ret
   refine ⟨ret_bool ?_, hF⟩
   have := HT.out
   rw [List.take_of_length_le (by rw [HA.out]; omega), List.take_of_length_le (by rw [← HN.out, HA.out]; omega)] at this
   exact (decide_eq_true this).symm
end Go.Proofs.YtbnfjjjdnbcehaaGreatDoor.Diff
