/- What is proved here: contracts for RecordMakes. Conditions: as named. -/
import Derived.Test.YtbnfjjjdnbcehaaGreatDoorX5FEx
import Derived.Test.YtbnfjjjdnbcehaaGreatDoorX48FConcat
import Derived.Test.YtbnfjjjdnbcehaaGreatDoorX50FThru
set_option maxHeartbeats 16000000
namespace Go.Proofs.YtbnfjjjdnbcehaaGreatDoor.Diff
open Go.RowKit Go.Shelf
set_option maxRecDepth 100000
def applyI (l : List ByteArray) (x : Int) (o n : List ByteArray) : Option (List ByteArray) := if 0 ≤ x then apply1 l ⟨x.toNat, o, n⟩ else none
def ApplyPost (w : World) (r : Option (List ByteArray)) : Ending → World → Prop := fun e w' => Fr None' w w' ∧ match r with
 | none => e = .returned (.tuple #[.slice none 0 0, .bool false])
 | some l => ∃ v, e = .returned (.tuple #[v, .bool true]) ∧ OwnV w.heap.size w' 9 v (l.map .string)
theorem Row.take {W : World} {ad : Option Addr} {ss : List ByteArray} (h : Row W ad ss) (n : Nat) : Row W ad (ss.take n) := fun j x hj => by
 rw [List.getElem?_take] at hj
 split at hj
 ·exact h j x hj
 ·cases hj
theorem cell3 (w : World) (e : TypeId) (x y z : Value) : (w.alloc (.cells #[x, y, z] e)).cell? ⟨w.heap.size, 0, none⟩ = some x ∧ (w.alloc (.cells #[x, y, z] e)).cell? ⟨w.heap.size, 1, none⟩ = some y ∧ (w.alloc (.cells #[x, y, z] e)).cell? ⟨w.heap.size, 2, none⟩ = some z := by simp
theorem ex_upto {P : Program} {a : Act} {o : Oper} {w : World} (t : TypeId) (x hi : Operand) {vx vh v : Value} (ho : o.op = .slice t x none (some hi) none) (hx : a.eval x = vx) (hh : a.eval hi = vh) (h : (Instr.sliceAt t vx none (some vh) none).run P w = .ok v w) : (execOp a.eval o).run P w = .ok (.value v) w := by
 unfold execOp
 simp only [ho, Sem.run_bind, Option.map_some, Option.map_none, hx, hh, h, Sem.run_pure, Result.andThen_ok]
theorem upto_ex {va : Option Addr} {n c x : Nat} (hx : x ≤ n) (hc : n ≤ c) (v : World) : (Instr.sliceAt 41 (.slice va n c) none (some (.int .i64 x)) none).run Tryz.prog v = .ok (.slice va x c) v := by
 have he : (sizeOf (Tryz.prog.elem 41)).run Tryz.prog v = .ok 1 v := by
  have : Tryz.prog.elem 41 = 9 := by kernel_rfl
  rw [this]
  exact Tryz.sizeOf9 v
 have hu : Tryz.prog.underlying 41 = some (.slice (Tryz.prog.elem 41)) := by kernel_rfl
 rw [run_sliceAt_slice v _ _ _ _ _ hu, run_slice_h v _ _ _ _ hu .i64 (x : Int) (by omega) (by omega), he]
 unfold sliced
 simp only [Result.andThen_ok, Int.toNat_natCast, Nat.sub_zero, Nat.zero_mul]
 congr 2
 split
 ·rfl
 ·cases va with
  | none => rfl
  | some a => simp [Addr.add]
theorem parts3 {w w' : World} {g : Nat} {x y z : Value} {a b d : List ByteArray} (f : Fr None' w w') (h : StrAt w x a ∧ StrAt w y b ∧ StrAt w z d) (hc : w'.cell? ⟨g, 0, none⟩ = some x ∧ w'.cell? ⟨g, 1, none⟩ = some y ∧ w'.cell? ⟨g, 2, none⟩ = some z) :
  ∀ k p, [(x, a), (y, b), (z, d)][k]? = some p → w'.cell? ⟨g, k, none⟩ = some p.1 ∧ StrAt w' p.1 p.2 := fun k p hp => by
 match k, hp with
 | 0, hp => cases hp; exact ⟨hc.1, h.1.kept f⟩
 | 1, hp => cases hp; exact ⟨hc.2.1, h.2.1.kept f⟩
 | 2, hp => cases hp; exact ⟨hc.2.2, h.2.2.kept f⟩
 | n + 3, hp => simp at hp
theorem len3 {x y z : Value} {a b d : List ByteArray} {m : Nat} (h : a.length ≤ m ∧ b.length ≤ m ∧ d.length ≤ m) : ∀ p ∈ [(x, a), (y, b), (z, d)], p.2.length ≤ m := fun p hp => by
 simp at hp
 rcases hp with rfl | rfl | rfl
 ·exact h.1
 ·exact h.2.1
 ·exact h.2.2
theorem apply_any (va po pn : Option Addr) (n c no co nn cn : Nat) (l o nw : List ByteArray) (x : Int) (w : World) (hl : l.length = n) (ho : o.length = no) (hw : nw.length = nn) (hr : Row w va l) (hro : Row w po o) (hrn : Row w pn nw) (hc : n ≤ c) (hn : va = none → c = 0) (_hco : no ≤ co) (_hno : po = none → co = 0) (hcn : nn ≤ cn) (hnn : pn = none → cn = 0) (h9 : n ≤ 40000000) (ho9 : no ≤ 40000000) (hn9 : nn ≤ 40000000) (hx : -9223372036854775808 ≤ x ∧ x < 9223372036854775808) :
  Calls Tryz.prog 142 #[.slice va n c, .agg #[.int .i64 x, .slice po no co, .slice pn nn cn]] w (ApplyPost w (applyI l x o nw)) := by
 by_cases h0 : x < 0
 ·have HA : Hid (applyI l x o nw = none) := by show _ = _; unfold applyI; rw [if_neg (by omega)]
  rw [HA.out]
  clear hr hro hrn
  go_enter Tryz.func142, Tryz.ntmps142
  go_wp2_with fail
  go_ret2
  exact ⟨Fr.alloc None' w _, rfl⟩
 ·by_cases h1 : x > (n : Int)
  ·have HA : Hid (applyI l x o nw = none) := by
    show _ = _
    unfold applyI apply1
    rw [if_pos (by omega), if_neg]
    simp only
    omega
   rw [HA.out]
   clear hr hro hrn
   have q : ¬ x < 0 := h0
   go_enter Tryz.func142, Tryz.ntmps142
   go_wp2_with fail
   go_ret2
   exact ⟨Fr.alloc None' w _, rfl⟩
  ·obtain ⟨k, rfl⟩ : ∃ k : Nat, x = k := ⟨x.toNat, by omega⟩
   have hk : k ≤ n := by omega
   have i1 : (k : Int) ≤ (n : Int) := by omega
   have i2 : (0 : Int) ≤ (k : Int) := by omega
   have q1 : ¬ (n : Int) < (k : Int) := by omega
   have q2 : ¬ (k : Int) < 0 := by omega
   obtain ⟨va1, c1, slA, rowA, nA1, lcA, blA⟩ := rest_ex hr hl hk hc hn
   have HL : Hid ((l.drop k).length = n - k) := by show _ = _; rw [List.length_drop, hl]
   have ex3 : ∀ {w' : World}, Fr None' (w.alloc (.cells #[.int .i64 (k : Int), .slice po no co, .slice pn nn cn] 103)).drew w' → (fun v => v.cell? ⟨w.heap.size, 0, none⟩ = some (.int .i64 k) ∧ v.cell? ⟨w.heap.size, 1, none⟩ = some (.slice po no co) ∧ v.cell? ⟨w.heap.size, 2, none⟩ = some (.slice pn nn cn)) w' := fun {w'} f => ⟨f.cell (w := (w.alloc (.cells #[.int .i64 (k : Int), .slice po no co, .slice pn nn cn] 103)).drew) (cell3 w 103 _ _ _).1 (fun e => e), f.cell (w := (w.alloc (.cells #[.int .i64 (k : Int), .slice po no co, .slice pn nn cn] 103)).drew) (cell3 w 103 _ _ _).2.1 (fun e => e), f.cell (w := (w.alloc (.cells #[.int .i64 (k : Int), .slice po no co, .slice pn nn cn] 103)).drew) (cell3 w 103 _ _ _).2.2 (fun e => e)⟩
   by_cases hlong : n - k < no
   ·have HA : Hid (applyI l k o nw = none) := by
     show _ = _
     unfold applyI apply1
     rw [if_pos i2, if_neg]
     rintro ⟨_, e⟩
     have := congrArg List.length e
     simp only [Int.toNat_natCast, List.length_take, List.length_drop] at this
     omega
    rw [HA.out]
    have j1 : ((n - k : Nat) : Int) < (no : Int) := by omega
    have j2 : decide (((n - k : Nat) : Int) < (no : Int)) = true := by simpa using j1
    clear hr hro hrn rowA blA
    go_enter Tryz.func142, Tryz.ntmps142
    go_wp2_with fail
    refine region_plain (S := (fun v => v.cell? ⟨w.heap.size, 0, none⟩ = some (.int .i64 k) ∧ v.cell? ⟨w.heap.size, 1, none⟩ = some (.slice po no co) ∧ v.cell? ⟨w.heap.size, 2, none⟩ = some (.slice pn nn cn))) (by kernel_rfl) (ex3 (Fr.refl None' _)) (fun hHeld => ?_)
    refine wpAnyH_take (i := 0) (oi := _) (v := ?_) rfl (by decide +kernel) (by decide +kernel) (by decide +kernel) (fun _ _ _ h => h) (Or.inl ⟨by rfl, ?_⟩) hHeld ?_
    rotate_left
    ·intro wq hSw
     first
      | (go_simp; done)
      | (go_simp; with_reducible rfl)
    try simp only [Act.put, List.getElem_toArray, List.getElem_cons_zero, List.setIfInBounds_toArray, List.set_cons_zero, List.set_cons_succ]
    refine wpAnyH_take (i := 1) (oi := _) (v := ?_) rfl (by decide +kernel) (by decide +kernel) (by decide +kernel) (fun _ _ _ h => h) (Or.inl ⟨by rfl, ?_⟩) hHeld ?_
    rotate_left
    ·intro wq hSw
     first
      | (go_simp; done)
      | (go_simp; with_reducible rfl)
    try simp only [Act.put, List.getElem_toArray, List.getElem_cons_zero, List.getElem_cons_succ, List.setIfInBounds_toArray, List.set_cons_zero, List.set_cons_succ]
    refine wpAnyH_take (i := 2) (oi := _) (v := ?_) rfl (by decide +kernel) (by decide +kernel) (by decide +kernel) (fun _ _ _ h => h) (Or.inl ⟨by rfl, ?_⟩) hHeld ?_
    rotate_left
    ·intro wq hSw
     first
      | (go_simp; done)
      | (go_simp; with_reducible rfl)
    try simp only [Act.put, List.getElem_toArray, List.getElem_cons_zero, List.getElem_cons_succ, List.setIfInBounds_toArray, List.set_cons_zero, List.set_cons_succ]
    refine wpAnyH_take (i := 3) (oi := _) (v := ?_) rfl (by decide +kernel) (by decide +kernel) (by decide +kernel) (fun _ _ _ h => h) (Or.inl ⟨by rfl, ?_⟩) hHeld ?_
    rotate_left
    ·intro wq hSw
     first
      | (go_simp; done)
      | (go_simp; with_reducible rfl)
    try simp only [Act.put, List.getElem_toArray, List.getElem_cons_zero, List.getElem_cons_succ, List.setIfInBounds_toArray, List.set_cons_zero, List.set_cons_succ]
    refine wpAnyH_take (i := 4) (oi := _) (v := ?_) rfl (by decide +kernel) (by decide +kernel) (by decide +kernel) (fun _ _ _ h => h) (Or.inl ⟨by rfl, ?_⟩) hHeld ?_
    rotate_left
    ·intro wq hSw
     first
      | (go_simp; done)
      | (go_simp; with_reducible rfl)
    try simp only [Act.put, List.getElem_toArray, List.getElem_cons_zero, List.getElem_cons_succ, List.setIfInBounds_toArray, List.set_cons_zero, List.set_cons_succ]
    refine wpAnyH_take (i := 5) (oi := _) (v := ?_) rfl (by decide +kernel) (by decide +kernel) (by decide +kernel) (fun _ _ _ h => h) (Or.inl ⟨by rfl, ?_⟩) hHeld ?_
    rotate_left
    ·intro wq hSw
     first
      | (go_simp; done)
      | (go_simp; with_reducible rfl)
    try simp only [Act.put, List.getElem_toArray, List.getElem_cons_zero, List.getElem_cons_succ, List.setIfInBounds_toArray, List.set_cons_zero, List.set_cons_succ]
    refine wpAnyH_take (i := 6) (oi := _) (v := ?_) rfl (by decide +kernel) (by decide +kernel) (by decide +kernel) (fun _ _ _ h => h) (Or.inl ⟨by rfl, ?_⟩) hHeld ?_
    rotate_left
    ·intro wq hSw
     first
      | (go_simp; done)
      | (go_simp; with_reducible rfl)
    try simp only [Act.put, List.getElem_toArray, List.getElem_cons_zero, List.getElem_cons_succ, List.setIfInBounds_toArray, List.set_cons_zero, List.set_cons_succ]
    refine wpAnyH_take (i := 7) (oi := _) (v := undef) rfl (by decide +kernel) (by decide +kernel) (by decide +kernel) (fun _ _ _ h => h) (Or.inr ⟨by rfl, rfl⟩) hHeld ?_
    try simp only [Act.put, List.getElem_toArray, List.getElem_cons_zero, List.getElem_cons_succ, List.setIfInBounds_toArray, List.set_cons_zero, List.set_cons_succ]
    refine wpAnyH_take (i := 8) (oi := _) (v := undef) rfl (by decide +kernel) (by decide +kernel) (by decide +kernel) (fun _ _ _ h => h) (Or.inr ⟨by rfl, rfl⟩) hHeld ?_
    try simp only [Act.put, List.getElem_toArray, List.getElem_cons_zero, List.getElem_cons_succ, List.setIfInBounds_toArray, List.set_cons_zero, List.set_cons_succ]
    refine wpAnyH_take (i := 9) (oi := _) (v := undef) rfl (by decide +kernel) (by decide +kernel) (by decide +kernel) (fun _ _ _ h => h) (Or.inr ⟨by rfl, rfl⟩) hHeld ?_
    try simp only [Act.put, List.getElem_toArray, List.getElem_cons_zero, List.getElem_cons_succ, List.setIfInBounds_toArray, List.set_cons_zero, List.set_cons_succ]
    refine wpAnyH_take (i := 10) (oi := _) (v := undef) rfl (by decide +kernel) (by decide +kernel) (by decide +kernel) (fun _ _ _ h => h) (Or.inr ⟨by rfl, rfl⟩) hHeld ?_
    try simp only [Act.put, List.getElem_toArray, List.getElem_cons_zero, List.getElem_cons_succ, List.setIfInBounds_toArray, List.set_cons_zero, List.set_cons_succ]
    refine wpAnyH_take (i := 11) (oi := _) (v := undef) rfl (by decide +kernel) (by decide +kernel) (by decide +kernel) (fun _ _ _ h => h) (Or.inr ⟨by rfl, rfl⟩) hHeld ?_
    try simp only [Act.put, List.getElem_toArray, List.getElem_cons_zero, List.getElem_cons_succ, List.setIfInBounds_toArray, List.set_cons_zero, List.set_cons_succ]
    refine wpAnyH_take (i := 12) (oi := _) (v := undef) rfl (by decide +kernel) (by decide +kernel) (by decide +kernel) (fun _ _ _ h => h) (Or.inr ⟨by rfl, rfl⟩) hHeld ?_
    try simp only [Act.put, List.getElem_toArray, List.getElem_cons_zero, List.getElem_cons_succ, List.setIfInBounds_toArray, List.set_cons_zero, List.set_cons_succ]
    refine wpAnyH_take (i := 13) (oi := _) (v := undef) rfl (by decide +kernel) (by decide +kernel) (by decide +kernel) (fun _ _ _ h => h) (Or.inr ⟨by rfl, rfl⟩) hHeld ?_
    try simp only [Act.put, List.getElem_toArray, List.getElem_cons_zero, List.getElem_cons_succ, List.setIfInBounds_toArray, List.set_cons_zero, List.set_cons_succ]
    refine wpAnyH_take (i := 14) (oi := _) (v := undef) rfl (by decide +kernel) (by decide +kernel) (by decide +kernel) (fun _ _ _ h => h) (Or.inr ⟨by rfl, rfl⟩) hHeld ?_
    try simp only [Act.put, List.getElem_toArray, List.getElem_cons_zero, List.getElem_cons_succ, List.setIfInBounds_toArray, List.set_cons_zero, List.set_cons_succ]
    refine wpAnyH_take (i := 15) (oi := _) (v := undef) rfl (by decide +kernel) (by decide +kernel) (by decide +kernel) (fun _ _ _ h => h) (Or.inr ⟨by rfl, rfl⟩) hHeld ?_
    try simp only [Act.put, List.getElem_toArray, List.getElem_cons_zero, List.getElem_cons_succ, List.setIfInBounds_toArray, List.set_cons_zero, List.set_cons_succ]
    refine wpAnyH_take (i := 16) (oi := _) (v := ?_) rfl (by decide +kernel) (by decide +kernel) (by decide +kernel) (fun _ _ _ h => h) (Or.inl ⟨by rfl, ?_⟩) hHeld ?_
    rotate_left
    ·intro wq hSw
     first
      | (go_simp; done)
      | (go_simp; with_reducible rfl)
    try simp only [Act.put, List.getElem_toArray, List.getElem_cons_zero, List.getElem_cons_succ, List.setIfInBounds_toArray, List.set_cons_zero, List.set_cons_succ]
    refine wpAnyH_done (by decide +kernel) (onlyN ?_) _
    clear hHeld
    go_wp2_with fail
    go_ret2
    exact ⟨(Fr.alloc None' w _).then (fr_drew None' _), rfl⟩
   ·have slU := fun v => upto_ex (va := va1) (n := n - k) (c := c1) (x := no) (by omega) lcA v
    have lU : ((l.drop k).take no).length = no := by rw [List.length_take, List.length_drop, hl]; omega
    have FB : Fr None' w (w.alloc (.cells #[.int .i64 (k : Int), .slice po no co, .slice pn nn cn] 103)).drew := (Fr.alloc None' w _).then (fr_drew None' _)
    have cE := equal_any va1 po c1 co ((l.drop k).take no) o (w.alloc (.cells #[.int .i64 (k : Int), .slice po no co, .slice pn nn cn] 103)).drew ((rowA.take no).fr FB) (hro.fr FB) (by omega)
    rw [lU, ho] at cE
    have j2 : decide (((n - k : Nat) : Int) < (no : Int)) = false := by simp; omega
    have hS2 : ∀ w', Fr None' (w.alloc (.cells #[.int .i64 (k : Int), .slice po no co, .slice pn nn cn] 103)).drew w' → (fun v => v.cell? ⟨w.heap.size, 0, none⟩ = some (.int .i64 k) ∧ v.cell? ⟨w.heap.size, 1, none⟩ = some (.slice po no co) ∧ v.cell? ⟨w.heap.size, 2, none⟩ = some (.slice pn nn cn)) w' := fun w' f => ex3 f
    by_cases heq : (l.drop k).take no = o
    ·have HA : Hid (applyI l k o nw = some (l.take k ++ nw ++ (l.drop k).drop no)) := by
      show _ = _
      unfold applyI apply1
      rw [if_pos i2, if_pos ⟨by simp; omega, by simp only [Int.toNat_natCast, ho]; exact heq⟩]
      simp only [Int.toNat_natCast, ho, List.drop_drop]
     rw [HA.out]
     rw [decide_eq_true heq] at cE
     have slK := fun v => upto_ex (va := va) (n := n) (c := c) (x := k) hk hc v
     obtain ⟨va2, c2, slR, rowR, nR1, lcR, blR⟩ := rest_ex rowA HL.out (show no ≤ n - k by omega) lcA nA1
     have HP : Hid (StrAt w (.slice va k c) (l.take k) ∧ StrAt w (.slice pn nn cn) nw ∧ StrAt w (.slice va2 (n - k - no) c2) ((l.drop k).drop no)) := by
      refine ⟨⟨va, c, by rw [List.length_take, hl, Nat.min_eq_left hk], hn, by rw [List.length_take]; omega, hr.take k⟩, ⟨pn, cn, by rw [hw], hnn, by omega, hrn⟩, ⟨va2, c2, by rw [List.length_drop, HL.out], nR1, by rw [List.length_drop, HL.out]; exact lcR, rowR⟩⟩
     have HZ : Hid ((l.take k).length ≤ 50000000 ∧ nw.length ≤ 50000000 ∧ ((l.drop k).drop no).length ≤ 50000000) := ⟨by rw [List.length_take]; omega, by omega, by rw [List.length_drop, HL.out]; omega⟩
     clear hr hro hrn rowA rowR blA blR
     go_enter Tryz.func142, Tryz.ntmps142
     go_wp2_with fail
     refine region_plain (S := (fun v => v.cell? ⟨w.heap.size, 0, none⟩ = some (.int .i64 k) ∧ v.cell? ⟨w.heap.size, 1, none⟩ = some (.slice po no co) ∧ v.cell? ⟨w.heap.size, 2, none⟩ = some (.slice pn nn cn))) (by kernel_rfl) (ex3 (Fr.refl None' _)) (fun hHeld => ?_)
     refine wpAnyH_take (i := 0) (oi := _) (v := ?_) rfl (by decide +kernel) (by decide +kernel) (by decide +kernel) (fun _ _ _ h => h) (Or.inl ⟨by rfl, ?_⟩) hHeld ?_
     rotate_left
     ·intro wq hSw
      first
       | (go_simp; done)
       | (go_simp; with_reducible rfl)
     try simp only [Act.put, List.getElem_toArray, List.getElem_cons_zero, List.setIfInBounds_toArray, List.set_cons_zero, List.set_cons_succ]
     refine wpAnyH_take (i := 1) (oi := _) (v := ?_) rfl (by decide +kernel) (by decide +kernel) (by decide +kernel) (fun _ _ _ h => h) (Or.inl ⟨by rfl, ?_⟩) hHeld ?_
     rotate_left
     ·intro wq hSw
      first
       | (go_simp; done)
       | (go_simp; with_reducible rfl)
     try simp only [Act.put, List.getElem_toArray, List.getElem_cons_zero, List.getElem_cons_succ, List.setIfInBounds_toArray, List.set_cons_zero, List.set_cons_succ]
     refine wpAnyH_take (i := 2) (oi := _) (v := ?_) rfl (by decide +kernel) (by decide +kernel) (by decide +kernel) (fun _ _ _ h => h) (Or.inl ⟨by rfl, ?_⟩) hHeld ?_
     rotate_left
     ·intro wq hSw
      first
       | (go_simp; done)
       | (go_simp; with_reducible rfl)
     try simp only [Act.put, List.getElem_toArray, List.getElem_cons_zero, List.getElem_cons_succ, List.setIfInBounds_toArray, List.set_cons_zero, List.set_cons_succ]
     refine wpAnyH_take (i := 3) (oi := _) (v := ?_) rfl (by decide +kernel) (by decide +kernel) (by decide +kernel) (fun _ _ _ h => h) (Or.inl ⟨by rfl, ?_⟩) hHeld ?_
     rotate_left
     ·intro wq hSw
      first
       | (go_simp; done)
       | (go_simp; with_reducible rfl)
     try simp only [Act.put, List.getElem_toArray, List.getElem_cons_zero, List.getElem_cons_succ, List.setIfInBounds_toArray, List.set_cons_zero, List.set_cons_succ]
     refine wpAnyH_take (i := 4) (oi := _) (v := ?_) rfl (by decide +kernel) (by decide +kernel) (by decide +kernel) (fun _ _ _ h => h) (Or.inl ⟨by rfl, ?_⟩) hHeld ?_
     rotate_left
     ·intro wq hSw
      first
       | (go_simp; done)
       | (go_simp; with_reducible rfl)
     try simp only [Act.put, List.getElem_toArray, List.getElem_cons_zero, List.getElem_cons_succ, List.setIfInBounds_toArray, List.set_cons_zero, List.set_cons_succ]
     refine wpAnyH_take (i := 5) (oi := _) (v := ?_) rfl (by decide +kernel) (by decide +kernel) (by decide +kernel) (fun _ _ _ h => h) (Or.inl ⟨by rfl, ?_⟩) hHeld ?_
     rotate_left
     ·intro wq hSw
      first
       | (go_simp; done)
       | (go_simp; with_reducible rfl)
     try simp only [Act.put, List.getElem_toArray, List.getElem_cons_zero, List.getElem_cons_succ, List.setIfInBounds_toArray, List.set_cons_zero, List.set_cons_succ]
     refine wpAnyH_take (i := 6) (oi := _) (v := ?_) rfl (by decide +kernel) (by decide +kernel) (by decide +kernel) (fun _ _ _ h => h) (Or.inl ⟨by rfl, ?_⟩) hHeld ?_
     rotate_left
     ·intro wq hSw
      first
       | (go_simp; done)
       | (go_simp; with_reducible rfl)
     try simp only [Act.put, List.getElem_toArray, List.getElem_cons_zero, List.getElem_cons_succ, List.setIfInBounds_toArray, List.set_cons_zero, List.set_cons_succ]
     refine wpAnyH_take (i := 7) (oi := _) (v := ?_) rfl (by decide +kernel) (by decide +kernel) (by decide +kernel) (fun _ _ _ h => h) (Or.inl ⟨by rfl, ?_⟩) hHeld ?_
     rotate_left
     ·intro wq hSw
      first
       | (go_simp; done)
       | (go_simp; with_reducible rfl)
     try simp only [Act.put, List.getElem_toArray, List.getElem_cons_zero, List.getElem_cons_succ, List.setIfInBounds_toArray, List.set_cons_zero, List.set_cons_succ]
     refine wpAnyH_take (i := 8) (oi := _) (v := ?_) rfl (by decide +kernel) (by decide +kernel) (by decide +kernel) (fun _ _ _ h => h) (Or.inl ⟨by rfl, ?_⟩) hHeld ?_
     rotate_left
     ·intro wq hSw
      first
       | (go_simp; done)
       | (go_simp; with_reducible rfl)
     try simp only [Act.put, List.getElem_toArray, List.getElem_cons_zero, List.getElem_cons_succ, List.setIfInBounds_toArray, List.set_cons_zero, List.set_cons_succ]
     refine wpAnyH_take (i := 9) (oi := _) (v := ?_) rfl (by decide +kernel) (by decide +kernel) (by decide +kernel) (fun _ _ _ h => h) (Or.inl ⟨by rfl, ?_⟩) hHeld ?_
     rotate_left
     ·intro wq hSw
      first
       | (go_simp; done)
       | (go_simp; with_reducible rfl)
     try simp only [Act.put, List.getElem_toArray, List.getElem_cons_zero, List.getElem_cons_succ, List.setIfInBounds_toArray, List.set_cons_zero, List.set_cons_succ]
     refine wpAnyH_take (i := 10) (oi := _) (v := ?_) rfl (by decide +kernel) (by decide +kernel) (by decide +kernel) (fun _ _ _ h => h) (Or.inl ⟨by rfl, ?_⟩) hHeld ?_
     rotate_left
     ·intro wq hSw
      first
       | (go_simp; done)
       | (go_simp; with_reducible rfl)
     try simp only [Act.put, List.getElem_toArray, List.getElem_cons_zero, List.getElem_cons_succ, List.setIfInBounds_toArray, List.set_cons_zero, List.set_cons_succ]
     refine wpAnyH_take (i := 11) (oi := _) (v := .slice va1 no c1) rfl (by decide +kernel) (by decide +kernel) (by decide +kernel) (fun _ _ _ h => h) (Or.inl ⟨by rfl, ?_⟩) hHeld ?_
     ·intro wq hSw
      exact ex_upto _ _ _ rfl rfl rfl (slU wq)
     try simp only [Act.put, List.getElem_toArray, List.getElem_cons_zero, List.getElem_cons_succ, List.setIfInBounds_toArray, List.set_cons_zero, List.set_cons_succ]
     refine wpAnyH_take (i := 12) (oi := _) (v := ?_) rfl (by decide +kernel) (by decide +kernel) (by decide +kernel) (fun _ _ _ h => h) (Or.inl ⟨by rfl, ?_⟩) hHeld ?_
     rotate_left
     ·intro wq hSw
      first
       | (go_simp; done)
       | (go_simp; with_reducible rfl)
     try simp only [Act.put, List.getElem_toArray, List.getElem_cons_zero, List.getElem_cons_succ, List.setIfInBounds_toArray, List.set_cons_zero, List.set_cons_succ]
     refine wpAnyH_take (i := 13) (oi := _) (v := ?_) rfl (by decide +kernel) (by decide +kernel) (by decide +kernel) (fun _ _ _ h => h) (Or.inl ⟨by rfl, ?_⟩) hHeld ?_
     rotate_left
     ·intro wq hSw
      first
       | (go_simp; done)
       | (go_simp; with_reducible rfl)
     try simp only [Act.put, List.getElem_toArray, List.getElem_cons_zero, List.getElem_cons_succ, List.setIfInBounds_toArray, List.set_cons_zero, List.set_cons_succ]
     refine wpAnyH_ready (rs := [14]) (by decide +kernel) (by simp) ?_
     refine AllReadyH.cons rfl (fun K hK => ?_) AllReadyH.nil
     go_simp
     refine cE.mono ?_
     rintro e w2 ⟨rfl, f2⟩
     refine hK.out _ _ (hS2 w2 f2) (fun hHeld => ?_)
     clear hK K
     try simp only [Act.put, List.getElem_toArray, List.getElem_cons_zero, List.getElem_cons_succ, List.setIfInBounds_toArray, List.set_cons_zero, List.set_cons_succ]
     refine wpAnyH_take (i := 15) (oi := _) (v := ?_) rfl (by decide +kernel) (by decide +kernel) (by decide +kernel) (fun _ _ _ h => h) (Or.inl ⟨by rfl, ?_⟩) hHeld ?_
     rotate_left
     ·intro wq hSw
      first
       | (go_simp; done)
       | (go_simp; with_reducible rfl)
     try simp only [Act.put, List.getElem_toArray, List.getElem_cons_zero, List.getElem_cons_succ, List.setIfInBounds_toArray, List.set_cons_zero, List.set_cons_succ]
     refine wpAnyH_take (i := 16) (oi := _) (v := ?_) rfl (by decide +kernel) (by decide +kernel) (by decide +kernel) (fun _ _ _ h => h) (Or.inl ⟨by rfl, ?_⟩) hHeld ?_
     rotate_left
     ·intro wq hSw
      first
       | (go_simp; done)
       | (go_simp; with_reducible rfl)
     try simp only [Act.put, List.getElem_toArray, List.getElem_cons_zero, List.getElem_cons_succ, List.setIfInBounds_toArray, List.set_cons_zero, List.set_cons_succ]
     refine wpAnyH_done (by decide +kernel) (onlyN ?_) _
     clear cE
     have h2 := hS2 w2 f2
     have F02 := FB.then f2
     clear hHeld
     go_wp2_with fail
     refine region_plain (S := (fun v => v.cell? ⟨w.heap.size, 0, none⟩ = some (.int .i64 k) ∧ v.cell? ⟨w.heap.size, 1, none⟩ = some (.slice po no co) ∧ v.cell? ⟨w.heap.size, 2, none⟩ = some (.slice pn nn cn))) (by kernel_rfl) h2 (fun hHeld => ?_)
     refine wpAnyH_take (i := 0) (oi := _) (v := ?_) rfl (by decide +kernel) (by decide +kernel) (by decide +kernel) (fun _ _ _ h => h) (Or.inl ⟨by rfl, ?_⟩) hHeld ?_
     rotate_left
     ·intro wq hSw
      first
       | (go_simp; done)
       | (go_simp; with_reducible rfl)
     try simp only [Act.put, List.getElem_toArray, List.getElem_cons_zero, List.setIfInBounds_toArray, List.set_cons_zero, List.set_cons_succ]
     refine wpAnyH_take (i := 1) (oi := _) (v := ?_) rfl (by decide +kernel) (by decide +kernel) (by decide +kernel) (fun _ _ _ h => h) (Or.inl ⟨by rfl, ?_⟩) hHeld ?_
     rotate_left
     ·intro wq hSw
      first
       | (go_simp; done)
       | (go_simp; with_reducible rfl)
     try simp only [Act.put, List.getElem_toArray, List.getElem_cons_zero, List.getElem_cons_succ, List.setIfInBounds_toArray, List.set_cons_zero, List.set_cons_succ]
     refine wpAnyH_take (i := 2) (oi := _) (v := ?_) rfl (by decide +kernel) (by decide +kernel) (by decide +kernel) (fun _ _ _ h => h) (Or.inl ⟨by rfl, ?_⟩) hHeld ?_
     rotate_left
     ·intro wq hSw
      first
       | (go_simp; done)
       | (go_simp; with_reducible rfl)
     try simp only [Act.put, List.getElem_toArray, List.getElem_cons_zero, List.getElem_cons_succ, List.setIfInBounds_toArray, List.set_cons_zero, List.set_cons_succ]
     refine wpAnyH_take (i := 3) (oi := _) (v := .slice va k c) rfl (by decide +kernel) (by decide +kernel) (by decide +kernel) (fun _ _ _ h => h) (Or.inl ⟨by rfl, ?_⟩) hHeld ?_
     ·intro wq hSw
      exact ex_upto _ _ _ rfl rfl rfl (slK wq)
     try simp only [Act.put, List.getElem_toArray, List.getElem_cons_zero, List.getElem_cons_succ, List.setIfInBounds_toArray, List.set_cons_zero, List.set_cons_succ]
     refine wpAnyH_take (i := 4) (oi := _) (v := ?_) rfl (by decide +kernel) (by decide +kernel) (by decide +kernel) (fun _ _ _ h => h) (Or.inl ⟨by rfl, ?_⟩) hHeld ?_
     rotate_left
     ·intro wq hSw
      first
       | (go_simp; done)
       | (go_simp; with_reducible rfl)
     try simp only [Act.put, List.getElem_toArray, List.getElem_cons_zero, List.getElem_cons_succ, List.setIfInBounds_toArray, List.set_cons_zero, List.set_cons_succ]
     refine wpAnyH_take (i := 5) (oi := _) (v := ?_) rfl (by decide +kernel) (by decide +kernel) (by decide +kernel) (fun _ _ _ h => h) (Or.inl ⟨by rfl, ?_⟩) hHeld ?_
     rotate_left
     ·intro wq hSw
      first
       | (go_simp; done)
       | (go_simp; with_reducible rfl)
     try simp only [Act.put, List.getElem_toArray, List.getElem_cons_zero, List.getElem_cons_succ, List.setIfInBounds_toArray, List.set_cons_zero, List.set_cons_succ]
     refine wpAnyH_take (i := 6) (oi := _) (v := ?_) rfl (by decide +kernel) (by decide +kernel) (by decide +kernel) (fun _ _ _ h => h) (Or.inl ⟨by rfl, ?_⟩) hHeld ?_
     rotate_left
     ·intro wq hSw
      first
       | (go_simp; done)
       | (go_simp; with_reducible rfl)
     try simp only [Act.put, List.getElem_toArray, List.getElem_cons_zero, List.getElem_cons_succ, List.setIfInBounds_toArray, List.set_cons_zero, List.set_cons_succ]
     refine wpAnyH_take (i := 7) (oi := _) (v := ?_) rfl (by decide +kernel) (by decide +kernel) (by decide +kernel) (fun _ _ _ h => h) (Or.inl ⟨by rfl, ?_⟩) hHeld ?_
     rotate_left
     ·intro wq hSw
      first
       | (go_simp; done)
       | (go_simp; with_reducible rfl)
     try simp only [Act.put, List.getElem_toArray, List.getElem_cons_zero, List.getElem_cons_succ, List.setIfInBounds_toArray, List.set_cons_zero, List.set_cons_succ]
     refine wpAnyH_take (i := 8) (oi := _) (v := ?_) rfl (by decide +kernel) (by decide +kernel) (by decide +kernel) (fun _ _ _ h => h) (Or.inl ⟨by rfl, ?_⟩) hHeld ?_
     rotate_left
     ·intro wq hSw
      first
       | (go_simp; done)
       | (go_simp; with_reducible rfl)
     try simp only [Act.put, List.getElem_toArray, List.getElem_cons_zero, List.getElem_cons_succ, List.setIfInBounds_toArray, List.set_cons_zero, List.set_cons_succ]
     refine wpAnyH_take (i := 9) (oi := _) (v := ?_) rfl (by decide +kernel) (by decide +kernel) (by decide +kernel) (fun _ _ _ h => h) (Or.inl ⟨by rfl, ?_⟩) hHeld ?_
     rotate_left
     ·intro wq hSw
      first
       | (go_simp; done)
       | (go_simp; with_reducible rfl)
     try simp only [Act.put, List.getElem_toArray, List.getElem_cons_zero, List.getElem_cons_succ, List.setIfInBounds_toArray, List.set_cons_zero, List.set_cons_succ]
     refine wpAnyH_take (i := 10) (oi := _) (v := .slice va2 (n - k - no) c2) rfl (by decide +kernel) (by decide +kernel) (by decide +kernel) (fun _ _ _ h => h) (Or.inl ⟨by rfl, ?_⟩) hHeld ?_
     ·intro wq hSw
      exact ex_rest _ _ _ rfl rfl rfl (slR wq)
     try simp only [Act.put, List.getElem_toArray, List.getElem_cons_zero, List.getElem_cons_succ, List.setIfInBounds_toArray, List.set_cons_zero, List.set_cons_succ]
     refine wpAnyH_ready (rs := [11]) (by decide +kernel) (by simp) ?_
     refine AllReadyH.cons rfl (fun K hK => ?_) AllReadyH.nil
     go_simp
     refine hK.out _ _ (hS2 _ (f2.then ((fr_drew None' w2).then (Fr.alloc None' _ _)))) (fun hHeld => ?_)
     clear hK K
     try simp only [Act.put, List.getElem_toArray, List.getElem_cons_zero, List.getElem_cons_succ, List.setIfInBounds_toArray, List.set_cons_zero, List.set_cons_succ]
     refine wpAnyH_ready (rs := [12]) (by decide +kernel) (by simp) ?_
     refine AllReadyH.cons rfl (fun K hK => ?_) AllReadyH.nil
     have c3 := concat_any w2.heap.size 3 3 [(.slice va k c, l.take k), (.slice pn nn cn, nw), (.slice va2 (n - k - no) c2, (l.drop k).drop no)] (w2.drew.alloc (.cells #[.slice va k c, .slice pn nn cn, .slice va2 (n - k - no) c2] 41)) rfl (by omega) (parts3 (F02.then ((fr_drew None' w2).then (Fr.alloc None' _ _))) HP.out (cell3 w2.drew 41 _ _ _)) (len3 HZ.out)
     go_simp
     refine c3.mono ?_
     rintro e w4 ⟨v, rfl, o4, f4⟩
     refine hK.out _ _ (hS2 _ (f2.then ((fr_drew None' w2).then ((Fr.alloc None' _ _).then f4)))) (fun hHeld => ?_)
     clear hK K
     try simp only [Act.put, List.getElem_toArray, List.getElem_cons_zero, List.getElem_cons_succ, List.setIfInBounds_toArray, List.set_cons_zero, List.set_cons_succ]
     refine wpAnyH_take (i := 13) (oi := _) (v := ?_) rfl (by decide +kernel) (by decide +kernel) (by decide +kernel) (fun _ _ _ h => h) (Or.inl ⟨by rfl, ?_⟩) hHeld ?_
     rotate_left
     ·intro wq hSw
      first
       | (go_simp; done)
       | (go_simp; with_reducible rfl)
     try simp only [Act.put, List.getElem_toArray, List.getElem_cons_zero, List.getElem_cons_succ, List.setIfInBounds_toArray, List.set_cons_zero, List.set_cons_succ]
     refine wpAnyH_take (i := 14) (oi := _) (v := ?_) rfl (by decide +kernel) (by decide +kernel) (by decide +kernel) (fun _ _ _ h => h) (Or.inl ⟨by rfl, ?_⟩) hHeld ?_
     rotate_left
     ·intro wq hSw
      first
       | (go_simp; done)
       | (go_simp; with_reducible rfl)
     try simp only [Act.put, List.getElem_toArray, List.getElem_cons_zero, List.getElem_cons_succ, List.setIfInBounds_toArray, List.set_cons_zero, List.set_cons_succ]
     refine wpAnyH_done (by decide +kernel) (onlyN ?_) _
     have F3 := F02.then ((fr_drew None' w2).then (Fr.alloc None' w2.drew (.cells #[.slice va k c, .slice pn nn cn, .slice va2 (n - k - no) c2] 41)))
     have HR : Hid (Fr None' w w4 ∧ OwnV w.heap.size w4 9 v ((l.take k ++ nw ++ (l.drop k).drop no).map .string)) := by
      refine ⟨F3.then f4, ?_⟩
      have := own_mono o4 F3.size
      simpa [OwnV, List.append_assoc] using this
     obtain ⟨pv, cv, hv, _⟩ := HR.out.2.slice
     obtain ⟨mv, hmv⟩ : ∃ mv, ((l.take k ++ nw ++ (l.drop k).drop no).map Value.string).length = mv := ⟨_, rfl⟩
     rw [hmv] at hv
     subst hv
     clear hmv o4 f4 F3 hHeld c3
     go_wp2_with fail
     go_ret2
     exact ⟨HR.out.1, _, rfl, HR.out.2⟩
    ·have HA : Hid (applyI l k o nw = none) := by
      show _ = _
      unfold applyI apply1
      rw [if_pos i2, if_neg]
      rintro ⟨_, e⟩
      simp only [Int.toNat_natCast, ho] at e
      exact heq e
     rw [HA.out]
     rw [decide_eq_false heq] at cE
     clear hr hro hrn rowA blA
     go_enter Tryz.func142, Tryz.ntmps142
     go_wp2_with fail
     refine region_plain (S := (fun v => v.cell? ⟨w.heap.size, 0, none⟩ = some (.int .i64 k) ∧ v.cell? ⟨w.heap.size, 1, none⟩ = some (.slice po no co) ∧ v.cell? ⟨w.heap.size, 2, none⟩ = some (.slice pn nn cn))) (by kernel_rfl) (ex3 (Fr.refl None' _)) (fun hHeld => ?_)
     refine wpAnyH_take (i := 0) (oi := _) (v := ?_) rfl (by decide +kernel) (by decide +kernel) (by decide +kernel) (fun _ _ _ h => h) (Or.inl ⟨by rfl, ?_⟩) hHeld ?_
     rotate_left
     ·intro wq hSw
      first
       | (go_simp; done)
       | (go_simp; with_reducible rfl)
     try simp only [Act.put, List.getElem_toArray, List.getElem_cons_zero, List.setIfInBounds_toArray, List.set_cons_zero, List.set_cons_succ]
     refine wpAnyH_take (i := 1) (oi := _) (v := ?_) rfl (by decide +kernel) (by decide +kernel) (by decide +kernel) (fun _ _ _ h => h) (Or.inl ⟨by rfl, ?_⟩) hHeld ?_
     rotate_left
     ·intro wq hSw
      first
       | (go_simp; done)
       | (go_simp; with_reducible rfl)
     try simp only [Act.put, List.getElem_toArray, List.getElem_cons_zero, List.getElem_cons_succ, List.setIfInBounds_toArray, List.set_cons_zero, List.set_cons_succ]
     refine wpAnyH_take (i := 2) (oi := _) (v := ?_) rfl (by decide +kernel) (by decide +kernel) (by decide +kernel) (fun _ _ _ h => h) (Or.inl ⟨by rfl, ?_⟩) hHeld ?_
     rotate_left
     ·intro wq hSw
      first
       | (go_simp; done)
       | (go_simp; with_reducible rfl)
     try simp only [Act.put, List.getElem_toArray, List.getElem_cons_zero, List.getElem_cons_succ, List.setIfInBounds_toArray, List.set_cons_zero, List.set_cons_succ]
     refine wpAnyH_take (i := 3) (oi := _) (v := ?_) rfl (by decide +kernel) (by decide +kernel) (by decide +kernel) (fun _ _ _ h => h) (Or.inl ⟨by rfl, ?_⟩) hHeld ?_
     rotate_left
     ·intro wq hSw
      first
       | (go_simp; done)
       | (go_simp; with_reducible rfl)
     try simp only [Act.put, List.getElem_toArray, List.getElem_cons_zero, List.getElem_cons_succ, List.setIfInBounds_toArray, List.set_cons_zero, List.set_cons_succ]
     refine wpAnyH_take (i := 4) (oi := _) (v := ?_) rfl (by decide +kernel) (by decide +kernel) (by decide +kernel) (fun _ _ _ h => h) (Or.inl ⟨by rfl, ?_⟩) hHeld ?_
     rotate_left
     ·intro wq hSw
      first
       | (go_simp; done)
       | (go_simp; with_reducible rfl)
     try simp only [Act.put, List.getElem_toArray, List.getElem_cons_zero, List.getElem_cons_succ, List.setIfInBounds_toArray, List.set_cons_zero, List.set_cons_succ]
     refine wpAnyH_take (i := 5) (oi := _) (v := ?_) rfl (by decide +kernel) (by decide +kernel) (by decide +kernel) (fun _ _ _ h => h) (Or.inl ⟨by rfl, ?_⟩) hHeld ?_
     rotate_left
     ·intro wq hSw
      first
       | (go_simp; done)
       | (go_simp; with_reducible rfl)
     try simp only [Act.put, List.getElem_toArray, List.getElem_cons_zero, List.getElem_cons_succ, List.setIfInBounds_toArray, List.set_cons_zero, List.set_cons_succ]
     refine wpAnyH_take (i := 6) (oi := _) (v := ?_) rfl (by decide +kernel) (by decide +kernel) (by decide +kernel) (fun _ _ _ h => h) (Or.inl ⟨by rfl, ?_⟩) hHeld ?_
     rotate_left
     ·intro wq hSw
      first
       | (go_simp; done)
       | (go_simp; with_reducible rfl)
     try simp only [Act.put, List.getElem_toArray, List.getElem_cons_zero, List.getElem_cons_succ, List.setIfInBounds_toArray, List.set_cons_zero, List.set_cons_succ]
     refine wpAnyH_take (i := 7) (oi := _) (v := ?_) rfl (by decide +kernel) (by decide +kernel) (by decide +kernel) (fun _ _ _ h => h) (Or.inl ⟨by rfl, ?_⟩) hHeld ?_
     rotate_left
     ·intro wq hSw
      first
       | (go_simp; done)
       | (go_simp; with_reducible rfl)
     try simp only [Act.put, List.getElem_toArray, List.getElem_cons_zero, List.getElem_cons_succ, List.setIfInBounds_toArray, List.set_cons_zero, List.set_cons_succ]
     refine wpAnyH_take (i := 8) (oi := _) (v := ?_) rfl (by decide +kernel) (by decide +kernel) (by decide +kernel) (fun _ _ _ h => h) (Or.inl ⟨by rfl, ?_⟩) hHeld ?_
     rotate_left
     ·intro wq hSw
      first
       | (go_simp; done)
       | (go_simp; with_reducible rfl)
     try simp only [Act.put, List.getElem_toArray, List.getElem_cons_zero, List.getElem_cons_succ, List.setIfInBounds_toArray, List.set_cons_zero, List.set_cons_succ]
     refine wpAnyH_take (i := 9) (oi := _) (v := ?_) rfl (by decide +kernel) (by decide +kernel) (by decide +kernel) (fun _ _ _ h => h) (Or.inl ⟨by rfl, ?_⟩) hHeld ?_
     rotate_left
     ·intro wq hSw
      first
       | (go_simp; done)
       | (go_simp; with_reducible rfl)
     try simp only [Act.put, List.getElem_toArray, List.getElem_cons_zero, List.getElem_cons_succ, List.setIfInBounds_toArray, List.set_cons_zero, List.set_cons_succ]
     refine wpAnyH_take (i := 10) (oi := _) (v := ?_) rfl (by decide +kernel) (by decide +kernel) (by decide +kernel) (fun _ _ _ h => h) (Or.inl ⟨by rfl, ?_⟩) hHeld ?_
     rotate_left
     ·intro wq hSw
      first
       | (go_simp; done)
       | (go_simp; with_reducible rfl)
     try simp only [Act.put, List.getElem_toArray, List.getElem_cons_zero, List.getElem_cons_succ, List.setIfInBounds_toArray, List.set_cons_zero, List.set_cons_succ]
     refine wpAnyH_take (i := 11) (oi := _) (v := .slice va1 no c1) rfl (by decide +kernel) (by decide +kernel) (by decide +kernel) (fun _ _ _ h => h) (Or.inl ⟨by rfl, ?_⟩) hHeld ?_
     ·intro wq hSw
      exact ex_upto _ _ _ rfl rfl rfl (slU wq)
     try simp only [Act.put, List.getElem_toArray, List.getElem_cons_zero, List.getElem_cons_succ, List.setIfInBounds_toArray, List.set_cons_zero, List.set_cons_succ]
     refine wpAnyH_take (i := 12) (oi := _) (v := ?_) rfl (by decide +kernel) (by decide +kernel) (by decide +kernel) (fun _ _ _ h => h) (Or.inl ⟨by rfl, ?_⟩) hHeld ?_
     rotate_left
     ·intro wq hSw
      first
       | (go_simp; done)
       | (go_simp; with_reducible rfl)
     try simp only [Act.put, List.getElem_toArray, List.getElem_cons_zero, List.getElem_cons_succ, List.setIfInBounds_toArray, List.set_cons_zero, List.set_cons_succ]
     refine wpAnyH_take (i := 13) (oi := _) (v := ?_) rfl (by decide +kernel) (by decide +kernel) (by decide +kernel) (fun _ _ _ h => h) (Or.inl ⟨by rfl, ?_⟩) hHeld ?_
     rotate_left
     ·intro wq hSw
      first
       | (go_simp; done)
       | (go_simp; with_reducible rfl)
     try simp only [Act.put, List.getElem_toArray, List.getElem_cons_zero, List.getElem_cons_succ, List.setIfInBounds_toArray, List.set_cons_zero, List.set_cons_succ]
     refine wpAnyH_ready (rs := [14]) (by decide +kernel) (by simp) ?_
     refine AllReadyH.cons rfl (fun K hK => ?_) AllReadyH.nil
     go_simp
     refine cE.mono ?_
     rintro e w2 ⟨rfl, f2⟩
     refine hK.out _ _ (hS2 w2 f2) (fun hHeld => ?_)
     clear hK K
     try simp only [Act.put, List.getElem_toArray, List.getElem_cons_zero, List.getElem_cons_succ, List.setIfInBounds_toArray, List.set_cons_zero, List.set_cons_succ]
     refine wpAnyH_take (i := 15) (oi := _) (v := ?_) rfl (by decide +kernel) (by decide +kernel) (by decide +kernel) (fun _ _ _ h => h) (Or.inl ⟨by rfl, ?_⟩) hHeld ?_
     rotate_left
     ·intro wq hSw
      first
       | (go_simp; done)
       | (go_simp; with_reducible rfl)
     try simp only [Act.put, List.getElem_toArray, List.getElem_cons_zero, List.getElem_cons_succ, List.setIfInBounds_toArray, List.set_cons_zero, List.set_cons_succ]
     refine wpAnyH_take (i := 16) (oi := _) (v := ?_) rfl (by decide +kernel) (by decide +kernel) (by decide +kernel) (fun _ _ _ h => h) (Or.inl ⟨by rfl, ?_⟩) hHeld ?_
     rotate_left
     ·intro wq hSw
      first
       | (go_simp; done)
       | (go_simp; with_reducible rfl)
     try simp only [Act.put, List.getElem_toArray, List.getElem_cons_zero, List.getElem_cons_succ, List.setIfInBounds_toArray, List.set_cons_zero, List.set_cons_succ]
     refine wpAnyH_done (by decide +kernel) (onlyN ?_) _
     clear hHeld cE
     go_wp2_with fail
     go_ret2
     exact ⟨FB.then f2, rfl⟩
end Go.Proofs.YtbnfjjjdnbcehaaGreatDoor.Diff
