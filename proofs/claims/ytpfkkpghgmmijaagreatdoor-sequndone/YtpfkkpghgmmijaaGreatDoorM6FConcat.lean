/-
  What is proved here: the contracts that the statement stands on: FConcat, FApply. Conditions: as each theorem names them.
-/
import Derived.Test.YtpfkkpghgmmijaaGreatDoorM5FRound
import Derived.Lib.AppendZeros
namespace Go.Proofs.YtpfkkpghgmmijaaGreatDoor.Diff
open Go.RowKit
set_option maxRecDepth 100000

theorem own_mono {base base' : Nat} {w : World} {e : TypeId} {v : Value} {n : Nat} {xs : List Value} (h : w.ownsRow base e 1 v n xs) (hb : base' ≤ base) : w.ownsRow base' e 1 v n xs := by
  refine ⟨h.1, ?_⟩
  rcases h.2 with h | ⟨g, cap, cur, hv, hg, h⟩
  · exact Or.inl h
  · exact Or.inr ⟨g, cap, cur, hv, Nat.le_trans hb hg, h⟩


theorem infoS : (Tryz.prog.info? 9).map (fun i => (i.zero, i.size, i.bytes)) = some (some (.string ⟨#[]⟩), 1, 16) := by kernel_rfl

set_option maxHeartbeats 1000000 in
theorem grow_any (n : Nat) (w : World) (hn : n ≤ 1000000000) : Calls Tryz.prog 177 #[.slice none 0 0, .int .i64 n] w fun e w' => ∃ v, e = .returned v ∧ OwnV w.heap.size w' 9 v [] ∧ Fr None' w w' := by
  obtain ⟨i0, hi, hz0, hz1, hz2⟩ := info_parts infoS
  have i1 : (n : Int) ≤ 1000000000 := by omega
  have i2 : (0 : Int) ≤ (n : Int) := by omega
  by_cases h0 : n = 0
  · subst h0
    clear i0 hi hz0 hz1 hz2
    go_enter Tryz.func177, Tryz.ntmps177
    go_wp2_with fail
    go_ret
    exact ⟨_, rfl, OwnV.nil _ _ _, Fr.refl _ _⟩
  · have hr := Lib.run_append_nil_zeros (P := Tryz.prog) w 43 3 43 9 i0 (.string ⟨#[]⟩) .i64 .i64 (by kernel_rfl) (by kernel_rfl) hi hz0 n (by omega) (by rw [hz1]; omega) (by omega) (by rw [hz2]; omega)
    obtain ⟨cap, hcap⟩ : ∃ cap, grownCap w n 0 9 = cap := ⟨_, rfl⟩
    have hge : n ≤ cap := by rw [← hcap]; exact grownCap_ge w _ 0 9
    have hle : cap ≤ maxLen := by rw [← hcap]; exact grownCap_le_maxLen w _ 0 9 (by unfold maxLen; omega)
    rw [hcap] at hr
    obtain ⟨Z, hZ⟩ : ∃ Z, Builtin.zeroCells (Value.string ⟨#[]⟩).cells n ++ Builtin.zeroCells (Value.string ⟨#[]⟩).cells (cap - n) = Z := ⟨_, rfl⟩
    have hZs : Z.size = cap := by rw [← hZ]; simp [size_zeroCells, Value.cells]; omega
    rw [hZ] at hr
    have HR : Hid (OwnV w.heap.size (w.drew.alloc (.cells Z 9)) 9 (.slice (some ⟨w.heap.size, 0, none⟩) 0 cap) [] ∧ Fr None' w (w.drew.alloc (.cells Z 9))) := by
      refine ⟨⟨rfl, Or.inr ⟨w.heap.size, cap, Z, rfl, Nat.le_refl _, Array.getElem?_push_size, Nat.zero_le _, hle, by omega, by simp⟩⟩, ?_⟩
      exact (show Fr None' w w.drew from ⟨rfl, rfl, rfl, Nat.le_refl _, fun _ _ _ => rfl⟩).then (Fr.alloc None' _ _)
    have i3 : (0 : Int) < (n : Int) := by omega
    have i4 : (n : Int) ≤ (cap : Int) := by omega
    clear hcap hZ hZs hle i0 hi hz0 hz1 hz2 h0
    go_enter Tryz.func177, Tryz.ntmps177
    go_wp2_with (at_builtin; refine Lib.wpList_append_run _ rfl _ _ _ _ rfl _ _ rfl rfl _ _ hr ?_)
    go_ret
    exact ⟨_, rfl, HR.out⟩

def flatK (ps : List (Value × List ByteArray)) (k : Nat) : List ByteArray := ((ps.take k).map (·.2)).flatten

theorem flatK_succ {ps : List (Value × List ByteArray)} {k : Nat} (h : k < ps.length) : flatK ps (k + 1) = flatK ps k ++ ps[k].2 := by
  unfold flatK
  rw [List.take_succ_eq_append_getElem h, List.map_append, List.flatten_append]
  simp

theorem flatK_le {ps : List (Value × List ByteArray)} {m : Nat} (hm : ∀ p ∈ ps, p.2.length ≤ m) : ∀ k, k ≤ ps.length → (flatK ps k).length ≤ k * m := by
  intro k
  induction k with
  | zero => intro _; simp [flatK]
  | succ k ih =>
    intro hk
    rw [flatK_succ hk, List.length_append, Nat.succ_mul]
    have := ih (by omega)
    have := hm ps[k] (List.getElem_mem hk)
    omega

set_option maxHeartbeats 2000000 in
theorem concat_any (g n : Nat) (c : Nat) (ps : List (Value × List ByteArray)) (w : World) (hn : ps.length = n) (hn9 : n ≤ 10) (hc : ∀ k x, ps[k]? = some x → w.cell? ⟨g, k, none⟩ = some x.1 ∧ StrAt w x.1 x.2) (hm : ∀ p ∈ ps, p.2.length ≤ 50000000) :
    Calls Tryz.prog 155 #[.slice (some ⟨g, 0, none⟩) n c] w fun e w' => ∃ v, e = .returned v ∧ OwnV w.heap.size w' 9 v (((ps.map (·.2)).flatten).map .string) ∧ Fr None' w w' := by
  have HN : Hid (ps.length = n) := hn
  have HF : Hid (flatK ps n = (ps.map (·.2)).flatten) := by
    show _ = _
    unfold flatK
    rw [List.take_of_length_le (by omega)]
  have HL : Hid (∀ k, k ≤ n → (flatK ps k).length ≤ 500000000) := fun k hk => by
    have := flatK_le hm k (by omega)
    have : k * 50000000 ≤ 10 * 50000000 := Nat.mul_le_mul_right _ (by omega)
    omega
  have i1 : (n : Int) ≤ 10 := by omega
  clear hn hm
  go_enter Tryz.func155, Tryz.ntmps155
  go_wp2_with fail
  go_loopw [3, 11] (fun s i wr => ∃ k : Nat, k ≤ n ∧ i = .int .i64 k ∧ s = .int .i64 (flatK ps k).length ∧ Fr None' w wr) (fun _ i _ => n - (intOf i).toNat)
  case atStart => exact ⟨0, Nat.zero_le _, rfl, rfl, Fr.refl _ _⟩
  case round =>
    obtain ⟨k, hk, rfl, rfl, hF⟩ := hrel
    by_cases hlt : k < n
    · have hkp : k < ps.length := by rw [HN.out]; exact hlt
      obtain ⟨c1, s1⟩ := hc k ps[k] (List.getElem?_eq_getElem hkp)
      obtain ⟨va, cv, hv, _, _, _⟩ := s1
      rw [hv] at c1
      have c2 := hF.cell c1 (fun e => e)
      have e1 := flatK_succ hkp
      obtain ⟨m, hm⟩ : ∃ m, ps[k].2.length = m := ⟨_, rfl⟩
      obtain ⟨t, ht⟩ : ∃ t, (flatK ps k).length = t := ⟨_, rfl⟩
      have l1 := HL.out (k + 1) hlt
      rw [e1, List.length_append, hm, ht] at l1
      rw [hm] at c2
      have HE : Hid ((flatK ps (k + 1)).length = t + m) := by show _ = _; rw [e1, List.length_append, hm, ht]
      rw [ht]
      clear hv c1 e1 hm ht hc
      have i3 : (0 : Int) ≤ (k : Int) := by omega
      have i4 : (k : Int) < (n : Int) := by omega
      have i5 : (t : Int) + (m : Int) ≤ 500000000 := by omega
      have i6 : (0 : Int) ≤ (t : Int) + (m : Int) := by omega
      go_wp2_with fail
      exact ⟨⟨k + 1, by omega, by go_num, by rw [HE.out]; go_num, hF⟩, by simp [intOf]; omega⟩
    · have e : k = n := by omega
      subst e
      have l1 := HL.out k (Nat.le_refl _)
      have cG := fun w2 => grow_any (flatK ps k).length w2 (by omega)
      obtain ⟨t, ht⟩ : ∃ t, (flatK ps k).length = t := ⟨_, rfl⟩
      rw [ht] at cG
      rw [ht]
      clear l1 ht
      go_wp2_with (go_at_call 177; refine (cG _).mono ?_; rintro e w2 ⟨v, rfl, o2, f2⟩)
      have F2 := hF.then f2
      have O2 : OwnV w.heap.size w2 9 v [] := own_mono o2 hF.size
      clear o2 f2 hF
      go_loopw [6, 27] (fun v i wr => ∃ q : Nat, q ≤ k ∧ i = .int .i64 q ∧ Hid (OwnV w.heap.size wr 9 v ((flatK ps q).map .string)) ∧ Fr None' w wr) (fun _ i _ => k - (intOf i).toNat)
      case atStart => exact ⟨0, Nat.zero_le _, rfl, O2, F2⟩
      case round =>
        clear O2 F2
        obtain ⟨q, hq, rfl, HO, hF⟩ := hrel
        by_cases hlt2 : q < k
        · have hkp : q < ps.length := by rw [HN.out]; exact hlt2
          obtain ⟨c1, s1⟩ := hc q ps[q] (List.getElem?_eq_getElem hkp)
          have s2 := s1.kept hF
          obtain ⟨va, cv, hv, n1, _, r1⟩ := s2
          rw [hv] at c1
          have c2 := hF.cell c1 (fun e => e)
          have e1 := flatK_succ hkp
          obtain ⟨X, hX⟩ : ∃ X, ps[q].2 = X := ⟨_, rfl⟩
          rw [hX] at c2 r1 e1
          have l1 := HL.out (q + 1) hlt2
          rw [e1, List.length_append] at l1
          obtain ⟨Y, hY⟩ : ∃ Y, flatK ps q = Y := ⟨_, rfl⟩
          rw [hY] at HO e1 l1
          have HE : Hid ((flatK ps (q + 1)) = Y ++ X) := e1
          have HRW : Hid (RowV wr va (X.map .string)) := r1.vals
          have HLL : Hid (Y.length + X.length ≤ 500000000) := l1
          clear s1 hv c1 e1 hX hY hc r1 l1
          have i3 : (0 : Int) ≤ (q : Int) := by omega
          have i4 : (q : Int) < (k : Int) := by omega
          obtain ⟨m, hm⟩ : ∃ m, X.length = m := ⟨_, rfl⟩
          rw [hm] at c2
          have HM : Hid ((X.map Value.string).length = m) := by show _ = _; rw [List.length_map, hm]
          clear hm
          have hsz := hF.size
          go_wp2_with (at_builtin
                       refine append_one oneS rfl _ _ rfl rfl HO.out (m := X.map .string) rfl HM.out HRW.out n1 (strs_one X) (by have := HLL.out; simp; omega) hsz ?_
                       intro v1 w1 own1 f1 _)
          rw [← List.map_append, ← HE.out] at own1
          exact ⟨⟨q + 1, by omega, by go_num, own1, (own_fr HO.out hF (Fr.refl None' wr) f1).1⟩, by simp [intOf]; omega⟩
        · have e : q = k := by omega
          subst e
          have HR : Hid (OwnV w.heap.size wr 9 _ (((ps.map (·.2)).flatten).map .string)) := HF.out ▸ HO.out
          obtain ⟨va, cv, hv, _⟩ := HR.out.slice
          subst hv
          clear HO
          go_wp2_with fail
          go_ret
          exact ⟨_, rfl, HR.out, hF⟩

end Go.Proofs.YtpfkkpghgmmijaaGreatDoor.Diff

namespace Go.Proofs.YtpfkkpghgmmijaaGreatDoor.Diff
open Go.RowKit Go.Shelf
set_option maxRecDepth 100000

theorem fr_drew (M : Nat → Prop) (w : World) : Fr M w w.drew := ⟨rfl, rfl, rfl, Nat.le_refl _, fun _ _ _ => rfl⟩

theorem region_plain {P : Program} {id : Nat} {ops : Array Oper} {Q : Exit → Act → World → Prop} {S : World → Prop} {a : Act} {w : World} (hm : P.follows .mixedOrders = true) (hS : S w.drew)
    (h : S w.drew → wpAnyH P .any ops (OnlyN (Q .normal)) S ops.size (Array.replicate ops.size false) a w.drew) : (Code.region id ops true).wp P Q a w := by
  refine wp_mono (Q := OnlyN (Q .normal)) (wp_region_held hm (h hS)) ?_
  intro e a' w' he
  cases e <;> first | exact he | exact he.elim

theorem ex_rest {P : Program} {a : Act} {o : Oper} {w : World} (t : TypeId) (x lo : Operand) {vx vl v : Value} (ho : o.op = .slice t x (some lo) none none) (hx : a.eval x = vx) (hl : a.eval lo = vl) (h : (Instr.sliceAt t vx (some vl) none none).run P w = .ok v w) : (execOp a.eval o).run P w = .ok (.value v) w := by
  unfold execOp
  simp only [ho, Sem.run_bind, Option.map_some, Option.map_none, hx, hl, h, Sem.run_pure, Result.andThen_ok]


/-- Apply, plainly. -/
def applyI (l : List ByteArray) (x : Int) (o n : List ByteArray) : Option (List ByteArray) := if 0 ≤ x then apply1 l ⟨x.toNat, o, n⟩ else none

/-- What Apply answers. -/
def ApplyPost (w : World) (r : Option (List ByteArray)) : Ending → World → Prop := fun e w' => Fr None' w w' ∧ match r with
  | none => e = .returned (.tuple #[.slice none 0 0, .bool false])
  | some l => ∃ v, e = .returned (.tuple #[v, .bool true]) ∧ OwnV w.heap.size w' 9 v (l.map .string)

theorem Row.take {W : World} {ad : Option Addr} {ss : List ByteArray} (h : Row W ad ss) (n : Nat) : Row W ad (ss.take n) := fun j x hj => by
  rw [List.getElem?_take] at hj
  split at hj
  · exact h j x hj
  · cases hj

theorem cell3 (w : World) (e : TypeId) (x y z : Value) : (w.alloc (.cells #[x, y, z] e)).cell? ⟨w.heap.size, 0, none⟩ = some x ∧ (w.alloc (.cells #[x, y, z] e)).cell? ⟨w.heap.size, 1, none⟩ = some y ∧ (w.alloc (.cells #[x, y, z] e)).cell? ⟨w.heap.size, 2, none⟩ = some z := by simp

theorem ex_upto {P : Program} {a : Act} {o : Oper} {w : World} (t : TypeId) (x hi : Operand) {vx vh v : Value} (ho : o.op = .slice t x none (some hi) none) (hx : a.eval x = vx) (hh : a.eval hi = vh) (h : (Instr.sliceAt t vx none (some vh) none).run P w = .ok v w) : (execOp a.eval o).run P w = .ok (.value v) w := by
  unfold execOp
  simp only [ho, Sem.run_bind, Option.map_some, Option.map_none, hx, hh, h, Sem.run_pure, Result.andThen_ok]

/-- 'a[:x]'. -/
theorem upto_ex {va : Option Addr} {n c x : Nat} (hx : x ≤ n) (hc : n ≤ c) (v : World) : (Instr.sliceAt 43 (.slice va n c) none (some (.int .i64 x)) none).run Tryz.prog v = .ok (.slice va x c) v := by
  have he : (sizeOf (Tryz.prog.elem 43)).run Tryz.prog v = .ok 1 v := by
    have : Tryz.prog.elem 43 = 9 := by kernel_rfl
    rw [this]
    exact Tryz.sizeOf9 v
  have hu : Tryz.prog.underlying 43 = some (.slice (Tryz.prog.elem 43)) := by kernel_rfl
  rw [run_sliceAt_slice v _ _ _ _ _ hu, run_slice_h v _ _ _ _ hu .i64 (x : Int) (by omega) (by omega), he]
  unfold sliced
  simp only [Result.andThen_ok, Int.toNat_natCast, Nat.sub_zero, Nat.zero_mul]
  congr 2
  split
  · rfl
  · cases va with
    | none => rfl
    | some a => simp [Addr.add]

theorem parts3 {w w' : World} {g : Nat} {x y z : Value} {a b d : List ByteArray} (f : Fr None' w w') (h : StrAt w x a ∧ StrAt w y b ∧ StrAt w z d) (hc : w'.cell? ⟨g, 0, none⟩ = some x ∧ w'.cell? ⟨g, 1, none⟩ = some y ∧ w'.cell? ⟨g, 2, none⟩ = some z) :
    ∀ k p, [(x, a), (y, b), (z, d)][k]? = some p → w'.cell? ⟨g, k, none⟩ = some p.1 ∧ StrAt w' p.1 p.2 := fun k p hp => by
  match k, hp with
  | 0, hp => cases hp; exact ⟨hc.1, h.1.kept f⟩
  | 1, hp => cases hp; exact ⟨hc.2.1, h.2.1.kept f⟩
  | 2, hp => cases hp; exact ⟨hc.2.2, h.2.2.kept f⟩
  | n + 3, hp => simp at hp

theorem len3 {x y z : Value} {a b d : List ByteArray} {m : Nat} (h : a.length ≤ m ∧ b.length ≤ m ∧ d.length ≤ m) : ∀ p ∈ [(x, a), (y, b), (z, d)], p.2.length ≤ m := fun p hp => by
  simp at hp
  rcases hp with rfl | rfl | rfl
  · exact h.1
  · exact h.2.1
  · exact h.2.2

set_option maxHeartbeats 1000000 in
theorem apply_any (va po pn : Option Addr) (n c no co nn cn : Nat) (l o nw : List ByteArray) (x : Int) (w : World) (hl : l.length = n) (ho : o.length = no) (hw : nw.length = nn) (hr : Row w va l) (hro : Row w po o) (hrn : Row w pn nw) (hc : n ≤ c) (hn : va = none → c = 0) (_hco : no ≤ co) (_hno : po = none → co = 0) (hcn : nn ≤ cn) (hnn : pn = none → cn = 0) (h9 : n ≤ 40000000) (ho9 : no ≤ 40000000) (hn9 : nn ≤ 40000000) (hx : -9223372036854775808 ≤ x ∧ x < 9223372036854775808) :
    Calls Tryz.prog 121 #[.slice va n c, .agg #[.int .i64 x, .slice po no co, .slice pn nn cn]] w (ApplyPost w (applyI l x o nw)) := by
  by_cases h0 : x < 0
  · have HA : Hid (applyI l x o nw = none) := by show _ = _; unfold applyI; rw [if_neg (by omega)]
    rw [HA.out]
    clear hr hro hrn
    go_enter Tryz.func121, Tryz.ntmps121
    go_wp2_with fail
    go_ret2
    exact ⟨Fr.alloc None' w _, rfl⟩
  · by_cases h1 : x > (n : Int)
    · have HA : Hid (applyI l x o nw = none) := by
        show _ = _
        unfold applyI apply1
        rw [if_pos (by omega), if_neg]
        simp only
        omega
      rw [HA.out]
      clear hr hro hrn
      have q : ¬ x < 0 := h0
      go_enter Tryz.func121, Tryz.ntmps121
      go_wp2_with fail
      go_ret2
      exact ⟨Fr.alloc None' w _, rfl⟩
    · obtain ⟨k, rfl⟩ : ∃ k : Nat, x = k := ⟨x.toNat, by omega⟩
      have hk : k ≤ n := by omega
      have i1 : (k : Int) ≤ (n : Int) := by omega
      have i2 : (0 : Int) ≤ (k : Int) := by omega
      have q1 : ¬ (n : Int) < (k : Int) := by omega
      have q2 : ¬ (k : Int) < 0 := by omega
      obtain ⟨va1, c1, slA, rowA, nA1, lcA, blA⟩ := rest_ex hr hl hk hc hn
      have HL : Hid ((l.drop k).length = n - k) := by show _ = _; rw [List.length_drop, hl]
      have ex3 : ∀ {w' : World}, Fr None' (w.alloc (.cells #[.int .i64 (k : Int), .slice po no co, .slice pn nn cn] 127)).drew w' → (fun v => v.cell? ⟨w.heap.size, 0, none⟩ = some (.int .i64 k) ∧ v.cell? ⟨w.heap.size, 1, none⟩ = some (.slice po no co) ∧ v.cell? ⟨w.heap.size, 2, none⟩ = some (.slice pn nn cn)) w' := fun {w'} f => ⟨f.cell (w := (w.alloc (.cells #[.int .i64 (k : Int), .slice po no co, .slice pn nn cn] 127)).drew) (cell3 w 127 _ _ _).1 (fun e => e), f.cell (w := (w.alloc (.cells #[.int .i64 (k : Int), .slice po no co, .slice pn nn cn] 127)).drew) (cell3 w 127 _ _ _).2.1 (fun e => e), f.cell (w := (w.alloc (.cells #[.int .i64 (k : Int), .slice po no co, .slice pn nn cn] 127)).drew) (cell3 w 127 _ _ _).2.2 (fun e => e)⟩
      by_cases hlong : n - k < no
      · have HA : Hid (applyI l k o nw = none) := by
          show _ = _
          unfold applyI apply1
          rw [if_pos i2, if_neg]
          rintro ⟨_, e⟩
          have := congrArg List.length e
          simp only [Int.toNat_natCast, List.length_take, List.length_drop] at this
          omega
        rw [HA.out]
        have j1 : ((n - k : Nat) : Int) < (no : Int) := by omega
        have j2 : decide (((n - k : Nat) : Int) < (no : Int)) = true := by simpa using j1
        clear hr hro hrn rowA blA
        go_enter Tryz.func121, Tryz.ntmps121
        go_wp2_with fail
        refine region_plain (S := (fun v => v.cell? ⟨w.heap.size, 0, none⟩ = some (.int .i64 k) ∧ v.cell? ⟨w.heap.size, 1, none⟩ = some (.slice po no co) ∧ v.cell? ⟨w.heap.size, 2, none⟩ = some (.slice pn nn cn))) (by kernel_rfl) (ex3 (Fr.refl None' _)) (fun hHeld => ?_)
        refine wpAnyH_take (i := 0) (oi := _) (v := ?_) rfl (by decide +kernel) (by decide +kernel) (by decide +kernel) (fun _ _ _ h => h) (Or.inl ⟨by rfl, ?_⟩) hHeld ?_
        rotate_left
        · intro wq hSw
          first
            | (go_simp; done)
            | (go_simp; with_reducible rfl)
        try simp only [Act.put, List.getElem_toArray, List.getElem_cons_zero, List.setIfInBounds_toArray, List.set_cons_zero, List.set_cons_succ]
        refine wpAnyH_take (i := 1) (oi := _) (v := ?_) rfl (by decide +kernel) (by decide +kernel) (by decide +kernel) (fun _ _ _ h => h) (Or.inl ⟨by rfl, ?_⟩) hHeld ?_
        rotate_left
        · intro wq hSw
          first
            | (go_simp; done)
            | (go_simp; with_reducible rfl)
        try simp only [Act.put, List.getElem_toArray, List.getElem_cons_zero, List.getElem_cons_succ, List.setIfInBounds_toArray, List.set_cons_zero, List.set_cons_succ]
        refine wpAnyH_take (i := 2) (oi := _) (v := ?_) rfl (by decide +kernel) (by decide +kernel) (by decide +kernel) (fun _ _ _ h => h) (Or.inl ⟨by rfl, ?_⟩) hHeld ?_
        rotate_left
        · intro wq hSw
          first
            | (go_simp; done)
            | (go_simp; with_reducible rfl)
        try simp only [Act.put, List.getElem_toArray, List.getElem_cons_zero, List.getElem_cons_succ, List.setIfInBounds_toArray, List.set_cons_zero, List.set_cons_succ]
        refine wpAnyH_take (i := 3) (oi := _) (v := ?_) rfl (by decide +kernel) (by decide +kernel) (by decide +kernel) (fun _ _ _ h => h) (Or.inl ⟨by rfl, ?_⟩) hHeld ?_
        rotate_left
        · intro wq hSw
          first
            | (go_simp; done)
            | (go_simp; with_reducible rfl)
        try simp only [Act.put, List.getElem_toArray, List.getElem_cons_zero, List.getElem_cons_succ, List.setIfInBounds_toArray, List.set_cons_zero, List.set_cons_succ]
        refine wpAnyH_take (i := 4) (oi := _) (v := ?_) rfl (by decide +kernel) (by decide +kernel) (by decide +kernel) (fun _ _ _ h => h) (Or.inl ⟨by rfl, ?_⟩) hHeld ?_
        rotate_left
        · intro wq hSw
          first
            | (go_simp; done)
            | (go_simp; with_reducible rfl)
        try simp only [Act.put, List.getElem_toArray, List.getElem_cons_zero, List.getElem_cons_succ, List.setIfInBounds_toArray, List.set_cons_zero, List.set_cons_succ]
        refine wpAnyH_take (i := 5) (oi := _) (v := ?_) rfl (by decide +kernel) (by decide +kernel) (by decide +kernel) (fun _ _ _ h => h) (Or.inl ⟨by rfl, ?_⟩) hHeld ?_
        rotate_left
        · intro wq hSw
          first
            | (go_simp; done)
            | (go_simp; with_reducible rfl)
        try simp only [Act.put, List.getElem_toArray, List.getElem_cons_zero, List.getElem_cons_succ, List.setIfInBounds_toArray, List.set_cons_zero, List.set_cons_succ]
        refine wpAnyH_take (i := 6) (oi := _) (v := ?_) rfl (by decide +kernel) (by decide +kernel) (by decide +kernel) (fun _ _ _ h => h) (Or.inl ⟨by rfl, ?_⟩) hHeld ?_
        rotate_left
        · intro wq hSw
          first
            | (go_simp; done)
            | (go_simp; with_reducible rfl)
        try simp only [Act.put, List.getElem_toArray, List.getElem_cons_zero, List.getElem_cons_succ, List.setIfInBounds_toArray, List.set_cons_zero, List.set_cons_succ]
        refine wpAnyH_take (i := 7) (oi := _) (v := undef) rfl (by decide +kernel) (by decide +kernel) (by decide +kernel) (fun _ _ _ h => h) (Or.inr ⟨by rfl, rfl⟩) hHeld ?_
        try simp only [Act.put, List.getElem_toArray, List.getElem_cons_zero, List.getElem_cons_succ, List.setIfInBounds_toArray, List.set_cons_zero, List.set_cons_succ]
        refine wpAnyH_take (i := 8) (oi := _) (v := undef) rfl (by decide +kernel) (by decide +kernel) (by decide +kernel) (fun _ _ _ h => h) (Or.inr ⟨by rfl, rfl⟩) hHeld ?_
        try simp only [Act.put, List.getElem_toArray, List.getElem_cons_zero, List.getElem_cons_succ, List.setIfInBounds_toArray, List.set_cons_zero, List.set_cons_succ]
        refine wpAnyH_take (i := 9) (oi := _) (v := undef) rfl (by decide +kernel) (by decide +kernel) (by decide +kernel) (fun _ _ _ h => h) (Or.inr ⟨by rfl, rfl⟩) hHeld ?_
        try simp only [Act.put, List.getElem_toArray, List.getElem_cons_zero, List.getElem_cons_succ, List.setIfInBounds_toArray, List.set_cons_zero, List.set_cons_succ]
        refine wpAnyH_take (i := 10) (oi := _) (v := undef) rfl (by decide +kernel) (by decide +kernel) (by decide +kernel) (fun _ _ _ h => h) (Or.inr ⟨by rfl, rfl⟩) hHeld ?_
        try simp only [Act.put, List.getElem_toArray, List.getElem_cons_zero, List.getElem_cons_succ, List.setIfInBounds_toArray, List.set_cons_zero, List.set_cons_succ]
        refine wpAnyH_take (i := 11) (oi := _) (v := undef) rfl (by decide +kernel) (by decide +kernel) (by decide +kernel) (fun _ _ _ h => h) (Or.inr ⟨by rfl, rfl⟩) hHeld ?_
        try simp only [Act.put, List.getElem_toArray, List.getElem_cons_zero, List.getElem_cons_succ, List.setIfInBounds_toArray, List.set_cons_zero, List.set_cons_succ]
        refine wpAnyH_take (i := 12) (oi := _) (v := undef) rfl (by decide +kernel) (by decide +kernel) (by decide +kernel) (fun _ _ _ h => h) (Or.inr ⟨by rfl, rfl⟩) hHeld ?_
        try simp only [Act.put, List.getElem_toArray, List.getElem_cons_zero, List.getElem_cons_succ, List.setIfInBounds_toArray, List.set_cons_zero, List.set_cons_succ]
        refine wpAnyH_take (i := 13) (oi := _) (v := undef) rfl (by decide +kernel) (by decide +kernel) (by decide +kernel) (fun _ _ _ h => h) (Or.inr ⟨by rfl, rfl⟩) hHeld ?_
        try simp only [Act.put, List.getElem_toArray, List.getElem_cons_zero, List.getElem_cons_succ, List.setIfInBounds_toArray, List.set_cons_zero, List.set_cons_succ]
        refine wpAnyH_take (i := 14) (oi := _) (v := undef) rfl (by decide +kernel) (by decide +kernel) (by decide +kernel) (fun _ _ _ h => h) (Or.inr ⟨by rfl, rfl⟩) hHeld ?_
        try simp only [Act.put, List.getElem_toArray, List.getElem_cons_zero, List.getElem_cons_succ, List.setIfInBounds_toArray, List.set_cons_zero, List.set_cons_succ]
        refine wpAnyH_take (i := 15) (oi := _) (v := undef) rfl (by decide +kernel) (by decide +kernel) (by decide +kernel) (fun _ _ _ h => h) (Or.inr ⟨by rfl, rfl⟩) hHeld ?_
        try simp only [Act.put, List.getElem_toArray, List.getElem_cons_zero, List.getElem_cons_succ, List.setIfInBounds_toArray, List.set_cons_zero, List.set_cons_succ]
        refine wpAnyH_take (i := 16) (oi := _) (v := ?_) rfl (by decide +kernel) (by decide +kernel) (by decide +kernel) (fun _ _ _ h => h) (Or.inl ⟨by rfl, ?_⟩) hHeld ?_
        rotate_left
        · intro wq hSw
          first
            | (go_simp; done)
            | (go_simp; with_reducible rfl)
        try simp only [Act.put, List.getElem_toArray, List.getElem_cons_zero, List.getElem_cons_succ, List.setIfInBounds_toArray, List.set_cons_zero, List.set_cons_succ]
        refine wpAnyH_done (by decide +kernel) (onlyN ?_) _
        clear hHeld
        go_wp2_with fail
        go_ret2
        exact ⟨(Fr.alloc None' w _).then (fr_drew None' _), rfl⟩
      · have slU := fun v => upto_ex (va := va1) (n := n - k) (c := c1) (x := no) (by omega) lcA v
        have lU : ((l.drop k).take no).length = no := by rw [List.length_take, List.length_drop, hl]; omega
        have FB : Fr None' w (w.alloc (.cells #[.int .i64 (k : Int), .slice po no co, .slice pn nn cn] 127)).drew := (Fr.alloc None' w _).then (fr_drew None' _)
        have cE := equal_any va1 po c1 co ((l.drop k).take no) o (w.alloc (.cells #[.int .i64 (k : Int), .slice po no co, .slice pn nn cn] 127)).drew ((rowA.take no).fr FB) (hro.fr FB) (by omega)
        rw [lU, ho] at cE
        have j2 : decide (((n - k : Nat) : Int) < (no : Int)) = false := by simp; omega
        have hS2 : ∀ w', Fr None' (w.alloc (.cells #[.int .i64 (k : Int), .slice po no co, .slice pn nn cn] 127)).drew w' → (fun v => v.cell? ⟨w.heap.size, 0, none⟩ = some (.int .i64 k) ∧ v.cell? ⟨w.heap.size, 1, none⟩ = some (.slice po no co) ∧ v.cell? ⟨w.heap.size, 2, none⟩ = some (.slice pn nn cn)) w' := fun w' f => ex3 f
        by_cases heq : (l.drop k).take no = o
        · have HA : Hid (applyI l k o nw = some (l.take k ++ nw ++ (l.drop k).drop no)) := by
            show _ = _
            unfold applyI apply1
            rw [if_pos i2, if_pos ⟨by simp; omega, by simp only [Int.toNat_natCast, ho]; exact heq⟩]
            simp only [Int.toNat_natCast, ho, List.drop_drop]
          rw [HA.out]
          rw [decide_eq_true heq] at cE
          have slK := fun v => upto_ex (va := va) (n := n) (c := c) (x := k) hk hc v
          obtain ⟨va2, c2, slR, rowR, nR1, lcR, blR⟩ := rest_ex rowA HL.out (show no ≤ n - k by omega) lcA nA1
          have HP : Hid (StrAt w (.slice va k c) (l.take k) ∧ StrAt w (.slice pn nn cn) nw ∧ StrAt w (.slice va2 (n - k - no) c2) ((l.drop k).drop no)) := by
            refine ⟨⟨va, c, by rw [List.length_take, hl, Nat.min_eq_left hk], hn, by rw [List.length_take]; omega, hr.take k⟩, ⟨pn, cn, by rw [hw], hnn, by omega, hrn⟩, ⟨va2, c2, by rw [List.length_drop, HL.out], nR1, by rw [List.length_drop, HL.out]; exact lcR, rowR⟩⟩
          have HZ : Hid ((l.take k).length ≤ 50000000 ∧ nw.length ≤ 50000000 ∧ ((l.drop k).drop no).length ≤ 50000000) := ⟨by rw [List.length_take]; omega, by omega, by rw [List.length_drop, HL.out]; omega⟩
          clear hr hro hrn rowA rowR blA blR
          go_enter Tryz.func121, Tryz.ntmps121
          go_wp2_with fail
          refine region_plain (S := (fun v => v.cell? ⟨w.heap.size, 0, none⟩ = some (.int .i64 k) ∧ v.cell? ⟨w.heap.size, 1, none⟩ = some (.slice po no co) ∧ v.cell? ⟨w.heap.size, 2, none⟩ = some (.slice pn nn cn))) (by kernel_rfl) (ex3 (Fr.refl None' _)) (fun hHeld => ?_)
          refine wpAnyH_take (i := 0) (oi := _) (v := ?_) rfl (by decide +kernel) (by decide +kernel) (by decide +kernel) (fun _ _ _ h => h) (Or.inl ⟨by rfl, ?_⟩) hHeld ?_
          rotate_left
          · intro wq hSw
            first
              | (go_simp; done)
              | (go_simp; with_reducible rfl)
          try simp only [Act.put, List.getElem_toArray, List.getElem_cons_zero, List.setIfInBounds_toArray, List.set_cons_zero, List.set_cons_succ]
          refine wpAnyH_take (i := 1) (oi := _) (v := ?_) rfl (by decide +kernel) (by decide +kernel) (by decide +kernel) (fun _ _ _ h => h) (Or.inl ⟨by rfl, ?_⟩) hHeld ?_
          rotate_left
          · intro wq hSw
            first
              | (go_simp; done)
              | (go_simp; with_reducible rfl)
          try simp only [Act.put, List.getElem_toArray, List.getElem_cons_zero, List.getElem_cons_succ, List.setIfInBounds_toArray, List.set_cons_zero, List.set_cons_succ]
          refine wpAnyH_take (i := 2) (oi := _) (v := ?_) rfl (by decide +kernel) (by decide +kernel) (by decide +kernel) (fun _ _ _ h => h) (Or.inl ⟨by rfl, ?_⟩) hHeld ?_
          rotate_left
          · intro wq hSw
            first
              | (go_simp; done)
              | (go_simp; with_reducible rfl)
          try simp only [Act.put, List.getElem_toArray, List.getElem_cons_zero, List.getElem_cons_succ, List.setIfInBounds_toArray, List.set_cons_zero, List.set_cons_succ]
          refine wpAnyH_take (i := 3) (oi := _) (v := ?_) rfl (by decide +kernel) (by decide +kernel) (by decide +kernel) (fun _ _ _ h => h) (Or.inl ⟨by rfl, ?_⟩) hHeld ?_
          rotate_left
          · intro wq hSw
            first
              | (go_simp; done)
              | (go_simp; with_reducible rfl)
          try simp only [Act.put, List.getElem_toArray, List.getElem_cons_zero, List.getElem_cons_succ, List.setIfInBounds_toArray, List.set_cons_zero, List.set_cons_succ]
          refine wpAnyH_take (i := 4) (oi := _) (v := ?_) rfl (by decide +kernel) (by decide +kernel) (by decide +kernel) (fun _ _ _ h => h) (Or.inl ⟨by rfl, ?_⟩) hHeld ?_
          rotate_left
          · intro wq hSw
            first
              | (go_simp; done)
              | (go_simp; with_reducible rfl)
          try simp only [Act.put, List.getElem_toArray, List.getElem_cons_zero, List.getElem_cons_succ, List.setIfInBounds_toArray, List.set_cons_zero, List.set_cons_succ]
          refine wpAnyH_take (i := 5) (oi := _) (v := ?_) rfl (by decide +kernel) (by decide +kernel) (by decide +kernel) (fun _ _ _ h => h) (Or.inl ⟨by rfl, ?_⟩) hHeld ?_
          rotate_left
          · intro wq hSw
            first
              | (go_simp; done)
              | (go_simp; with_reducible rfl)
          try simp only [Act.put, List.getElem_toArray, List.getElem_cons_zero, List.getElem_cons_succ, List.setIfInBounds_toArray, List.set_cons_zero, List.set_cons_succ]
          refine wpAnyH_take (i := 6) (oi := _) (v := ?_) rfl (by decide +kernel) (by decide +kernel) (by decide +kernel) (fun _ _ _ h => h) (Or.inl ⟨by rfl, ?_⟩) hHeld ?_
          rotate_left
          · intro wq hSw
            first
              | (go_simp; done)
              | (go_simp; with_reducible rfl)
          try simp only [Act.put, List.getElem_toArray, List.getElem_cons_zero, List.getElem_cons_succ, List.setIfInBounds_toArray, List.set_cons_zero, List.set_cons_succ]
          refine wpAnyH_take (i := 7) (oi := _) (v := ?_) rfl (by decide +kernel) (by decide +kernel) (by decide +kernel) (fun _ _ _ h => h) (Or.inl ⟨by rfl, ?_⟩) hHeld ?_
          rotate_left
          · intro wq hSw
            first
              | (go_simp; done)
              | (go_simp; with_reducible rfl)
          try simp only [Act.put, List.getElem_toArray, List.getElem_cons_zero, List.getElem_cons_succ, List.setIfInBounds_toArray, List.set_cons_zero, List.set_cons_succ]
          refine wpAnyH_take (i := 8) (oi := _) (v := ?_) rfl (by decide +kernel) (by decide +kernel) (by decide +kernel) (fun _ _ _ h => h) (Or.inl ⟨by rfl, ?_⟩) hHeld ?_
          rotate_left
          · intro wq hSw
            first
              | (go_simp; done)
              | (go_simp; with_reducible rfl)
          try simp only [Act.put, List.getElem_toArray, List.getElem_cons_zero, List.getElem_cons_succ, List.setIfInBounds_toArray, List.set_cons_zero, List.set_cons_succ]
          refine wpAnyH_take (i := 9) (oi := _) (v := ?_) rfl (by decide +kernel) (by decide +kernel) (by decide +kernel) (fun _ _ _ h => h) (Or.inl ⟨by rfl, ?_⟩) hHeld ?_
          rotate_left
          · intro wq hSw
            first
              | (go_simp; done)
              | (go_simp; with_reducible rfl)
          try simp only [Act.put, List.getElem_toArray, List.getElem_cons_zero, List.getElem_cons_succ, List.setIfInBounds_toArray, List.set_cons_zero, List.set_cons_succ]
          refine wpAnyH_take (i := 10) (oi := _) (v := ?_) rfl (by decide +kernel) (by decide +kernel) (by decide +kernel) (fun _ _ _ h => h) (Or.inl ⟨by rfl, ?_⟩) hHeld ?_
          rotate_left
          · intro wq hSw
            first
              | (go_simp; done)
              | (go_simp; with_reducible rfl)
          try simp only [Act.put, List.getElem_toArray, List.getElem_cons_zero, List.getElem_cons_succ, List.setIfInBounds_toArray, List.set_cons_zero, List.set_cons_succ]
          refine wpAnyH_take (i := 11) (oi := _) (v := .slice va1 no c1) rfl (by decide +kernel) (by decide +kernel) (by decide +kernel) (fun _ _ _ h => h) (Or.inl ⟨by rfl, ?_⟩) hHeld ?_
          · intro wq hSw
            exact ex_upto _ _ _ rfl rfl rfl (slU wq)
          try simp only [Act.put, List.getElem_toArray, List.getElem_cons_zero, List.getElem_cons_succ, List.setIfInBounds_toArray, List.set_cons_zero, List.set_cons_succ]
          refine wpAnyH_take (i := 12) (oi := _) (v := ?_) rfl (by decide +kernel) (by decide +kernel) (by decide +kernel) (fun _ _ _ h => h) (Or.inl ⟨by rfl, ?_⟩) hHeld ?_
          rotate_left
          · intro wq hSw
            first
              | (go_simp; done)
              | (go_simp; with_reducible rfl)
          try simp only [Act.put, List.getElem_toArray, List.getElem_cons_zero, List.getElem_cons_succ, List.setIfInBounds_toArray, List.set_cons_zero, List.set_cons_succ]
          refine wpAnyH_take (i := 13) (oi := _) (v := ?_) rfl (by decide +kernel) (by decide +kernel) (by decide +kernel) (fun _ _ _ h => h) (Or.inl ⟨by rfl, ?_⟩) hHeld ?_
          rotate_left
          · intro wq hSw
            first
              | (go_simp; done)
              | (go_simp; with_reducible rfl)
          try simp only [Act.put, List.getElem_toArray, List.getElem_cons_zero, List.getElem_cons_succ, List.setIfInBounds_toArray, List.set_cons_zero, List.set_cons_succ]
          refine wpAnyH_ready (rs := [14]) (by decide +kernel) (by simp) ?_
          refine AllReadyH.cons rfl (fun K hK => ?_) AllReadyH.nil
          go_simp
          refine cE.mono ?_
          rintro e w2 ⟨rfl, f2⟩
          refine hK.out _ _ (hS2 w2 f2) (fun hHeld => ?_)
          clear hK K
          try simp only [Act.put, List.getElem_toArray, List.getElem_cons_zero, List.getElem_cons_succ, List.setIfInBounds_toArray, List.set_cons_zero, List.set_cons_succ]
          refine wpAnyH_take (i := 15) (oi := _) (v := ?_) rfl (by decide +kernel) (by decide +kernel) (by decide +kernel) (fun _ _ _ h => h) (Or.inl ⟨by rfl, ?_⟩) hHeld ?_
          rotate_left
          · intro wq hSw
            first
              | (go_simp; done)
              | (go_simp; with_reducible rfl)
          try simp only [Act.put, List.getElem_toArray, List.getElem_cons_zero, List.getElem_cons_succ, List.setIfInBounds_toArray, List.set_cons_zero, List.set_cons_succ]
          refine wpAnyH_take (i := 16) (oi := _) (v := ?_) rfl (by decide +kernel) (by decide +kernel) (by decide +kernel) (fun _ _ _ h => h) (Or.inl ⟨by rfl, ?_⟩) hHeld ?_
          rotate_left
          · intro wq hSw
            first
              | (go_simp; done)
              | (go_simp; with_reducible rfl)
          try simp only [Act.put, List.getElem_toArray, List.getElem_cons_zero, List.getElem_cons_succ, List.setIfInBounds_toArray, List.set_cons_zero, List.set_cons_succ]
          refine wpAnyH_done (by decide +kernel) (onlyN ?_) _
          clear cE
          have h2 := hS2 w2 f2
          have F02 := FB.then f2
          clear hHeld
          go_wp2_with fail
          refine region_plain (S := (fun v => v.cell? ⟨w.heap.size, 0, none⟩ = some (.int .i64 k) ∧ v.cell? ⟨w.heap.size, 1, none⟩ = some (.slice po no co) ∧ v.cell? ⟨w.heap.size, 2, none⟩ = some (.slice pn nn cn))) (by kernel_rfl) h2 (fun hHeld => ?_)
          refine wpAnyH_take (i := 0) (oi := _) (v := ?_) rfl (by decide +kernel) (by decide +kernel) (by decide +kernel) (fun _ _ _ h => h) (Or.inl ⟨by rfl, ?_⟩) hHeld ?_
          rotate_left
          · intro wq hSw
            first
              | (go_simp; done)
              | (go_simp; with_reducible rfl)
          try simp only [Act.put, List.getElem_toArray, List.getElem_cons_zero, List.setIfInBounds_toArray, List.set_cons_zero, List.set_cons_succ]
          refine wpAnyH_take (i := 1) (oi := _) (v := ?_) rfl (by decide +kernel) (by decide +kernel) (by decide +kernel) (fun _ _ _ h => h) (Or.inl ⟨by rfl, ?_⟩) hHeld ?_
          rotate_left
          · intro wq hSw
            first
              | (go_simp; done)
              | (go_simp; with_reducible rfl)
          try simp only [Act.put, List.getElem_toArray, List.getElem_cons_zero, List.getElem_cons_succ, List.setIfInBounds_toArray, List.set_cons_zero, List.set_cons_succ]
          refine wpAnyH_take (i := 2) (oi := _) (v := ?_) rfl (by decide +kernel) (by decide +kernel) (by decide +kernel) (fun _ _ _ h => h) (Or.inl ⟨by rfl, ?_⟩) hHeld ?_
          rotate_left
          · intro wq hSw
            first
              | (go_simp; done)
              | (go_simp; with_reducible rfl)
          try simp only [Act.put, List.getElem_toArray, List.getElem_cons_zero, List.getElem_cons_succ, List.setIfInBounds_toArray, List.set_cons_zero, List.set_cons_succ]
          refine wpAnyH_take (i := 3) (oi := _) (v := .slice va k c) rfl (by decide +kernel) (by decide +kernel) (by decide +kernel) (fun _ _ _ h => h) (Or.inl ⟨by rfl, ?_⟩) hHeld ?_
          · intro wq hSw
            exact ex_upto _ _ _ rfl rfl rfl (slK wq)
          try simp only [Act.put, List.getElem_toArray, List.getElem_cons_zero, List.getElem_cons_succ, List.setIfInBounds_toArray, List.set_cons_zero, List.set_cons_succ]
          refine wpAnyH_take (i := 4) (oi := _) (v := ?_) rfl (by decide +kernel) (by decide +kernel) (by decide +kernel) (fun _ _ _ h => h) (Or.inl ⟨by rfl, ?_⟩) hHeld ?_
          rotate_left
          · intro wq hSw
            first
              | (go_simp; done)
              | (go_simp; with_reducible rfl)
          try simp only [Act.put, List.getElem_toArray, List.getElem_cons_zero, List.getElem_cons_succ, List.setIfInBounds_toArray, List.set_cons_zero, List.set_cons_succ]
          refine wpAnyH_take (i := 5) (oi := _) (v := ?_) rfl (by decide +kernel) (by decide +kernel) (by decide +kernel) (fun _ _ _ h => h) (Or.inl ⟨by rfl, ?_⟩) hHeld ?_
          rotate_left
          · intro wq hSw
            first
              | (go_simp; done)
              | (go_simp; with_reducible rfl)
          try simp only [Act.put, List.getElem_toArray, List.getElem_cons_zero, List.getElem_cons_succ, List.setIfInBounds_toArray, List.set_cons_zero, List.set_cons_succ]
          refine wpAnyH_take (i := 6) (oi := _) (v := ?_) rfl (by decide +kernel) (by decide +kernel) (by decide +kernel) (fun _ _ _ h => h) (Or.inl ⟨by rfl, ?_⟩) hHeld ?_
          rotate_left
          · intro wq hSw
            first
              | (go_simp; done)
              | (go_simp; with_reducible rfl)
          try simp only [Act.put, List.getElem_toArray, List.getElem_cons_zero, List.getElem_cons_succ, List.setIfInBounds_toArray, List.set_cons_zero, List.set_cons_succ]
          refine wpAnyH_take (i := 7) (oi := _) (v := ?_) rfl (by decide +kernel) (by decide +kernel) (by decide +kernel) (fun _ _ _ h => h) (Or.inl ⟨by rfl, ?_⟩) hHeld ?_
          rotate_left
          · intro wq hSw
            first
              | (go_simp; done)
              | (go_simp; with_reducible rfl)
          try simp only [Act.put, List.getElem_toArray, List.getElem_cons_zero, List.getElem_cons_succ, List.setIfInBounds_toArray, List.set_cons_zero, List.set_cons_succ]
          refine wpAnyH_take (i := 8) (oi := _) (v := ?_) rfl (by decide +kernel) (by decide +kernel) (by decide +kernel) (fun _ _ _ h => h) (Or.inl ⟨by rfl, ?_⟩) hHeld ?_
          rotate_left
          · intro wq hSw
            first
              | (go_simp; done)
              | (go_simp; with_reducible rfl)
          try simp only [Act.put, List.getElem_toArray, List.getElem_cons_zero, List.getElem_cons_succ, List.setIfInBounds_toArray, List.set_cons_zero, List.set_cons_succ]
          refine wpAnyH_take (i := 9) (oi := _) (v := ?_) rfl (by decide +kernel) (by decide +kernel) (by decide +kernel) (fun _ _ _ h => h) (Or.inl ⟨by rfl, ?_⟩) hHeld ?_
          rotate_left
          · intro wq hSw
            first
              | (go_simp; done)
              | (go_simp; with_reducible rfl)
          try simp only [Act.put, List.getElem_toArray, List.getElem_cons_zero, List.getElem_cons_succ, List.setIfInBounds_toArray, List.set_cons_zero, List.set_cons_succ]
          refine wpAnyH_take (i := 10) (oi := _) (v := .slice va2 (n - k - no) c2) rfl (by decide +kernel) (by decide +kernel) (by decide +kernel) (fun _ _ _ h => h) (Or.inl ⟨by rfl, ?_⟩) hHeld ?_
          · intro wq hSw
            exact ex_rest _ _ _ rfl rfl rfl (slR wq)
          try simp only [Act.put, List.getElem_toArray, List.getElem_cons_zero, List.getElem_cons_succ, List.setIfInBounds_toArray, List.set_cons_zero, List.set_cons_succ]
          refine wpAnyH_ready (rs := [11]) (by decide +kernel) (by simp) ?_
          refine AllReadyH.cons rfl (fun K hK => ?_) AllReadyH.nil
          go_simp
          refine hK.out _ _ (hS2 _ (f2.then ((fr_drew None' w2).then (Fr.alloc None' _ _)))) (fun hHeld => ?_)
          clear hK K
          try simp only [Act.put, List.getElem_toArray, List.getElem_cons_zero, List.getElem_cons_succ, List.setIfInBounds_toArray, List.set_cons_zero, List.set_cons_succ]
          refine wpAnyH_ready (rs := [12]) (by decide +kernel) (by simp) ?_
          refine AllReadyH.cons rfl (fun K hK => ?_) AllReadyH.nil
          have c3 := concat_any w2.heap.size 3 3 [(.slice va k c, l.take k), (.slice pn nn cn, nw), (.slice va2 (n - k - no) c2, (l.drop k).drop no)] (w2.drew.alloc (.cells #[.slice va k c, .slice pn nn cn, .slice va2 (n - k - no) c2] 43)) rfl (by omega) (parts3 (F02.then ((fr_drew None' w2).then (Fr.alloc None' _ _))) HP.out (cell3 w2.drew 43 _ _ _)) (len3 HZ.out)
          go_simp
          refine c3.mono ?_
          rintro e w4 ⟨v, rfl, o4, f4⟩
          refine hK.out _ _ (hS2 _ (f2.then ((fr_drew None' w2).then ((Fr.alloc None' _ _).then f4)))) (fun hHeld => ?_)
          clear hK K
          try simp only [Act.put, List.getElem_toArray, List.getElem_cons_zero, List.getElem_cons_succ, List.setIfInBounds_toArray, List.set_cons_zero, List.set_cons_succ]
          refine wpAnyH_take (i := 13) (oi := _) (v := ?_) rfl (by decide +kernel) (by decide +kernel) (by decide +kernel) (fun _ _ _ h => h) (Or.inl ⟨by rfl, ?_⟩) hHeld ?_
          rotate_left
          · intro wq hSw
            first
              | (go_simp; done)
              | (go_simp; with_reducible rfl)
          try simp only [Act.put, List.getElem_toArray, List.getElem_cons_zero, List.getElem_cons_succ, List.setIfInBounds_toArray, List.set_cons_zero, List.set_cons_succ]
          refine wpAnyH_take (i := 14) (oi := _) (v := ?_) rfl (by decide +kernel) (by decide +kernel) (by decide +kernel) (fun _ _ _ h => h) (Or.inl ⟨by rfl, ?_⟩) hHeld ?_
          rotate_left
          · intro wq hSw
            first
              | (go_simp; done)
              | (go_simp; with_reducible rfl)
          try simp only [Act.put, List.getElem_toArray, List.getElem_cons_zero, List.getElem_cons_succ, List.setIfInBounds_toArray, List.set_cons_zero, List.set_cons_succ]
          refine wpAnyH_done (by decide +kernel) (onlyN ?_) _
          have F3 := F02.then ((fr_drew None' w2).then (Fr.alloc None' w2.drew (.cells #[.slice va k c, .slice pn nn cn, .slice va2 (n - k - no) c2] 43)))
          have HR : Hid (Fr None' w w4 ∧ OwnV w.heap.size w4 9 v ((l.take k ++ nw ++ (l.drop k).drop no).map .string)) := by
            refine ⟨F3.then f4, ?_⟩
            have := own_mono o4 F3.size
            simpa [OwnV, List.append_assoc] using this
          obtain ⟨pv, cv, hv, _⟩ := HR.out.2.slice
          obtain ⟨mv, hmv⟩ : ∃ mv, ((l.take k ++ nw ++ (l.drop k).drop no).map Value.string).length = mv := ⟨_, rfl⟩
          rw [hmv] at hv
          subst hv
          clear hmv o4 f4 F3 hHeld c3
          go_wp2_with fail
          go_ret2
          exact ⟨HR.out.1, _, rfl, HR.out.2⟩
        · have HA : Hid (applyI l k o nw = none) := by
            show _ = _
            unfold applyI apply1
            rw [if_pos i2, if_neg]
            rintro ⟨_, e⟩
            simp only [Int.toNat_natCast, ho] at e
            exact heq e
          rw [HA.out]
          rw [decide_eq_false heq] at cE
          clear hr hro hrn rowA blA
          go_enter Tryz.func121, Tryz.ntmps121
          go_wp2_with fail
          refine region_plain (S := (fun v => v.cell? ⟨w.heap.size, 0, none⟩ = some (.int .i64 k) ∧ v.cell? ⟨w.heap.size, 1, none⟩ = some (.slice po no co) ∧ v.cell? ⟨w.heap.size, 2, none⟩ = some (.slice pn nn cn))) (by kernel_rfl) (ex3 (Fr.refl None' _)) (fun hHeld => ?_)
          refine wpAnyH_take (i := 0) (oi := _) (v := ?_) rfl (by decide +kernel) (by decide +kernel) (by decide +kernel) (fun _ _ _ h => h) (Or.inl ⟨by rfl, ?_⟩) hHeld ?_
          rotate_left
          · intro wq hSw
            first
              | (go_simp; done)
              | (go_simp; with_reducible rfl)
          try simp only [Act.put, List.getElem_toArray, List.getElem_cons_zero, List.setIfInBounds_toArray, List.set_cons_zero, List.set_cons_succ]
          refine wpAnyH_take (i := 1) (oi := _) (v := ?_) rfl (by decide +kernel) (by decide +kernel) (by decide +kernel) (fun _ _ _ h => h) (Or.inl ⟨by rfl, ?_⟩) hHeld ?_
          rotate_left
          · intro wq hSw
            first
              | (go_simp; done)
              | (go_simp; with_reducible rfl)
          try simp only [Act.put, List.getElem_toArray, List.getElem_cons_zero, List.getElem_cons_succ, List.setIfInBounds_toArray, List.set_cons_zero, List.set_cons_succ]
          refine wpAnyH_take (i := 2) (oi := _) (v := ?_) rfl (by decide +kernel) (by decide +kernel) (by decide +kernel) (fun _ _ _ h => h) (Or.inl ⟨by rfl, ?_⟩) hHeld ?_
          rotate_left
          · intro wq hSw
            first
              | (go_simp; done)
              | (go_simp; with_reducible rfl)
          try simp only [Act.put, List.getElem_toArray, List.getElem_cons_zero, List.getElem_cons_succ, List.setIfInBounds_toArray, List.set_cons_zero, List.set_cons_succ]
          refine wpAnyH_take (i := 3) (oi := _) (v := ?_) rfl (by decide +kernel) (by decide +kernel) (by decide +kernel) (fun _ _ _ h => h) (Or.inl ⟨by rfl, ?_⟩) hHeld ?_
          rotate_left
          · intro wq hSw
            first
              | (go_simp; done)
              | (go_simp; with_reducible rfl)
          try simp only [Act.put, List.getElem_toArray, List.getElem_cons_zero, List.getElem_cons_succ, List.setIfInBounds_toArray, List.set_cons_zero, List.set_cons_succ]
          refine wpAnyH_take (i := 4) (oi := _) (v := ?_) rfl (by decide +kernel) (by decide +kernel) (by decide +kernel) (fun _ _ _ h => h) (Or.inl ⟨by rfl, ?_⟩) hHeld ?_
          rotate_left
          · intro wq hSw
            first
              | (go_simp; done)
              | (go_simp; with_reducible rfl)
          try simp only [Act.put, List.getElem_toArray, List.getElem_cons_zero, List.getElem_cons_succ, List.setIfInBounds_toArray, List.set_cons_zero, List.set_cons_succ]
          refine wpAnyH_take (i := 5) (oi := _) (v := ?_) rfl (by decide +kernel) (by decide +kernel) (by decide +kernel) (fun _ _ _ h => h) (Or.inl ⟨by rfl, ?_⟩) hHeld ?_
          rotate_left
          · intro wq hSw
            first
              | (go_simp; done)
              | (go_simp; with_reducible rfl)
          try simp only [Act.put, List.getElem_toArray, List.getElem_cons_zero, List.getElem_cons_succ, List.setIfInBounds_toArray, List.set_cons_zero, List.set_cons_succ]
          refine wpAnyH_take (i := 6) (oi := _) (v := ?_) rfl (by decide +kernel) (by decide +kernel) (by decide +kernel) (fun _ _ _ h => h) (Or.inl ⟨by rfl, ?_⟩) hHeld ?_
          rotate_left
          · intro wq hSw
            first
              | (go_simp; done)
              | (go_simp; with_reducible rfl)
          try simp only [Act.put, List.getElem_toArray, List.getElem_cons_zero, List.getElem_cons_succ, List.setIfInBounds_toArray, List.set_cons_zero, List.set_cons_succ]
          refine wpAnyH_take (i := 7) (oi := _) (v := ?_) rfl (by decide +kernel) (by decide +kernel) (by decide +kernel) (fun _ _ _ h => h) (Or.inl ⟨by rfl, ?_⟩) hHeld ?_
          rotate_left
          · intro wq hSw
            first
              | (go_simp; done)
              | (go_simp; with_reducible rfl)
          try simp only [Act.put, List.getElem_toArray, List.getElem_cons_zero, List.getElem_cons_succ, List.setIfInBounds_toArray, List.set_cons_zero, List.set_cons_succ]
          refine wpAnyH_take (i := 8) (oi := _) (v := ?_) rfl (by decide +kernel) (by decide +kernel) (by decide +kernel) (fun _ _ _ h => h) (Or.inl ⟨by rfl, ?_⟩) hHeld ?_
          rotate_left
          · intro wq hSw
            first
              | (go_simp; done)
              | (go_simp; with_reducible rfl)
          try simp only [Act.put, List.getElem_toArray, List.getElem_cons_zero, List.getElem_cons_succ, List.setIfInBounds_toArray, List.set_cons_zero, List.set_cons_succ]
          refine wpAnyH_take (i := 9) (oi := _) (v := ?_) rfl (by decide +kernel) (by decide +kernel) (by decide +kernel) (fun _ _ _ h => h) (Or.inl ⟨by rfl, ?_⟩) hHeld ?_
          rotate_left
          · intro wq hSw
            first
              | (go_simp; done)
              | (go_simp; with_reducible rfl)
          try simp only [Act.put, List.getElem_toArray, List.getElem_cons_zero, List.getElem_cons_succ, List.setIfInBounds_toArray, List.set_cons_zero, List.set_cons_succ]
          refine wpAnyH_take (i := 10) (oi := _) (v := ?_) rfl (by decide +kernel) (by decide +kernel) (by decide +kernel) (fun _ _ _ h => h) (Or.inl ⟨by rfl, ?_⟩) hHeld ?_
          rotate_left
          · intro wq hSw
            first
              | (go_simp; done)
              | (go_simp; with_reducible rfl)
          try simp only [Act.put, List.getElem_toArray, List.getElem_cons_zero, List.getElem_cons_succ, List.setIfInBounds_toArray, List.set_cons_zero, List.set_cons_succ]
          refine wpAnyH_take (i := 11) (oi := _) (v := .slice va1 no c1) rfl (by decide +kernel) (by decide +kernel) (by decide +kernel) (fun _ _ _ h => h) (Or.inl ⟨by rfl, ?_⟩) hHeld ?_
          · intro wq hSw
            exact ex_upto _ _ _ rfl rfl rfl (slU wq)
          try simp only [Act.put, List.getElem_toArray, List.getElem_cons_zero, List.getElem_cons_succ, List.setIfInBounds_toArray, List.set_cons_zero, List.set_cons_succ]
          refine wpAnyH_take (i := 12) (oi := _) (v := ?_) rfl (by decide +kernel) (by decide +kernel) (by decide +kernel) (fun _ _ _ h => h) (Or.inl ⟨by rfl, ?_⟩) hHeld ?_
          rotate_left
          · intro wq hSw
            first
              | (go_simp; done)
              | (go_simp; with_reducible rfl)
          try simp only [Act.put, List.getElem_toArray, List.getElem_cons_zero, List.getElem_cons_succ, List.setIfInBounds_toArray, List.set_cons_zero, List.set_cons_succ]
          refine wpAnyH_take (i := 13) (oi := _) (v := ?_) rfl (by decide +kernel) (by decide +kernel) (by decide +kernel) (fun _ _ _ h => h) (Or.inl ⟨by rfl, ?_⟩) hHeld ?_
          rotate_left
          · intro wq hSw
            first
              | (go_simp; done)
              | (go_simp; with_reducible rfl)
          try simp only [Act.put, List.getElem_toArray, List.getElem_cons_zero, List.getElem_cons_succ, List.setIfInBounds_toArray, List.set_cons_zero, List.set_cons_succ]
          refine wpAnyH_ready (rs := [14]) (by decide +kernel) (by simp) ?_
          refine AllReadyH.cons rfl (fun K hK => ?_) AllReadyH.nil
          go_simp
          refine cE.mono ?_
          rintro e w2 ⟨rfl, f2⟩
          refine hK.out _ _ (hS2 w2 f2) (fun hHeld => ?_)
          clear hK K
          try simp only [Act.put, List.getElem_toArray, List.getElem_cons_zero, List.getElem_cons_succ, List.setIfInBounds_toArray, List.set_cons_zero, List.set_cons_succ]
          refine wpAnyH_take (i := 15) (oi := _) (v := ?_) rfl (by decide +kernel) (by decide +kernel) (by decide +kernel) (fun _ _ _ h => h) (Or.inl ⟨by rfl, ?_⟩) hHeld ?_
          rotate_left
          · intro wq hSw
            first
              | (go_simp; done)
              | (go_simp; with_reducible rfl)
          try simp only [Act.put, List.getElem_toArray, List.getElem_cons_zero, List.getElem_cons_succ, List.setIfInBounds_toArray, List.set_cons_zero, List.set_cons_succ]
          refine wpAnyH_take (i := 16) (oi := _) (v := ?_) rfl (by decide +kernel) (by decide +kernel) (by decide +kernel) (fun _ _ _ h => h) (Or.inl ⟨by rfl, ?_⟩) hHeld ?_
          rotate_left
          · intro wq hSw
            first
              | (go_simp; done)
              | (go_simp; with_reducible rfl)
          try simp only [Act.put, List.getElem_toArray, List.getElem_cons_zero, List.getElem_cons_succ, List.setIfInBounds_toArray, List.set_cons_zero, List.set_cons_succ]
          refine wpAnyH_done (by decide +kernel) (onlyN ?_) _
          clear hHeld cE
          go_wp2_with fail
          go_ret2
          exact ⟨FB.then f2, rfl⟩

end Go.Proofs.YtpfkkpghgmmijaaGreatDoor.Diff
