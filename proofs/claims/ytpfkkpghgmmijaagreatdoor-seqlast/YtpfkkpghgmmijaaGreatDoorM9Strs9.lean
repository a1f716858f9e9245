/-
  What is proved here: the contracts that the statement stands on: Strs9, Prims, Kind9, Right9, Eq11. Conditions: as each theorem names them.
-/
import Derived.Test.YtpfkkpghgmmijaaGreatDoorM2Base
import Derived.Test.YtpfkkpghgmmijaaGreatDoorM8LStrs
import Derived.Test.YtpfkkpghgmmijaaGreatDoorM4PBase
import Derived.Test.YtpfkkpghgmmijaaGreatDoorM3LPlain
import Derived.Deep.QuietTactic
namespace Go.Proofs.YtpfkkpghgmmijaaGreatDoor
open Go.RowKit
set_option maxRecDepth 100000

theorem toL {M : Nat → Prop} {w w' : World} (h : Fr M w w') : Lines.Fr M w w' := ⟨h.os, h.tape, h.output, h.size, h.block⟩
theorem ofL {M : Nat → Prop} {w w' : World} (h : Lines.Fr M w w') : Fr M w w' := ⟨h.os, h.tape, h.output, h.size, h.block⟩
theorem ofLN {w w' : World} (h : Lines.Fr Lines.None' w w') : Fr None' w w' := ofL (M := Lines.None') h |>.mono (fun _ e => e)
theorem toLN {w w' : World} (h : Fr None' w w') : Lines.Fr Lines.None' w w' := toL (h.mono (fun _ e => e))
theorem ofBelow {w w' : World} (h : Below w.heap.size w w') : Fr None' w w' := ⟨h.os, h.tape, h.output, h.size, fun k hk _ => h.block k hk⟩

theorem Fr.keepCell {M : Nat → Prop} {w w' : World} (h : Fr M w w') {a : Addr} {v : Value} (hc : w.cell? a = some v) (hm : ¬ M a.block) : w'.cell? a = some v := (toL h).cell hc hm

theorem Fr.then7 {a b c : World} (h : Fr None' a b) (k : Fr None' b c) : Fr None' a c := h.trans k (fun _ e => Or.inl e)

theorem Fr.drew (M : Nat → Prop) (w : World) : Fr M w w.drew := ⟨rfl, rfl, rfl, Nat.le_refl _, fun _ _ _ => rfl⟩

/-- A slice of texts. -/
def StrsAt (w : World) (v : Value) (l : List ByteArray) : Prop := ∃ va c, v = .slice va l.length c ∧ (va = none → c = 0) ∧ l.length ≤ c ∧ Lines.Row w va l

theorem StrsAt.fr {M : Nat → Prop} {w w' : World} {v : Value} {l : List ByteArray} (h : StrsAt w v l) (f : Fr M w w') (hm : ∀ k, v.ownBlock = some k → ¬ M k) : StrsAt w' v l := by
  obtain ⟨va, c, rfl, h1, h2, h3⟩ := h
  refine ⟨va, c, rfl, h1, h2, fun j x hj => ?_⟩
  obtain ⟨g, o, e, hc⟩ := h3 j x hj
  exact ⟨g, o, e, f.keepCell hc (hm g (by rw [e]; rfl))⟩

theorem StrsAt.kept {w w' : World} {v : Value} {l : List ByteArray} (h : StrsAt w v l) (f : Fr None' w w') : StrsAt w' v l := h.fr f (fun _ _ e => e)

theorem StrsAt.lt {w : World} {v : Value} {l : List ByteArray} (h : StrsAt w v l) (hl : l ≠ []) {k : Nat} (hk : v.ownBlock = some k) : k < w.heap.size := by
  obtain ⟨va, c, rfl, h1, h2, h3⟩ := h
  cases l with
  | nil => exact absurd rfl hl
  | cons x l =>
    obtain ⟨g, o, e, hc⟩ := h3 0 x rfl
    subst e
    cases hk
    exact cell_lt hc

theorem StrsAt.far {M : Nat → Prop} {w w' : World} {v : Value} {l : List ByteArray} (h : StrsAt w v l) (f : Fr M w w') (hm : l ≠ [] → ∀ k, v.ownBlock = some k → ¬ M k) : StrsAt w' v l := by
  by_cases hl : l = []
  · subst hl
    obtain ⟨va, c, rfl, h1, h2, h3⟩ := h
    exact ⟨va, c, rfl, h1, h2, Lines.Row.nil _ _⟩
  · exact h.fr f (hm hl)

theorem size_mem {l : List ByteArray} {x : ByteArray} (h : x ∈ l) : x.size ≤ (l.map (·.size)).sum := by
  induction l with
  | nil => cases h
  | cons y l ih =>
    simp only [List.map_cons, List.sum_cons]
    rcases List.mem_cons.1 h with e | e
    · subst e; omega
    · have := ih e; omega

theorem own_strs {base : Nat} {w : World} {v : Value} {l : List ByteArray} (h : w.ownsRow base 9 1 v l.length (l.map Value.string)) : StrsAt w v l := by
  rcases h.2 with ⟨hv, h0⟩ | ⟨g, cap, cur, hv, hb, hh, hc, _, hs, ht⟩
  · have e : l = [] := List.length_eq_zero_iff.1 h0
    subst e
    exact ⟨none, 0, hv, fun _ => rfl, Nat.le_refl _, Lines.Row.nil _ _⟩
  · refine ⟨_, cap, hv, fun e => by simp at e, hc, fun j x hj => ⟨g, 0, rfl, ?_⟩⟩
    have hlt := (List.getElem?_eq_some_iff.1 hj).1
    have h1 : (l.map Value.string)[j]? = some (.string x) := by rw [List.getElem?_map, hj]; rfl
    rw [← ht, List.getElem?_take, if_pos (by omega)] at h1
    rw [World.cell?, Nat.zero_add, hh]
    simpa using h1

theorem own_ge {base n : Nat} {w : World} {e : TypeId} {v : Value} {xs : List Value} (h : w.ownsRow base e 1 v n xs) {k : Nat} (hk : v.ownBlock = some k) : base ≤ k := by
  rcases h.2 with ⟨hv, _⟩ | ⟨g, cap, cur, hv, hb, _⟩
  · rw [hv] at hk; cases hk
  · rw [hv] at hk; cases hk; exact hb

theorem sizes_step {l : List ByteArray} {k : Nat} (hk : k < l.length) : ((l.take (k + 1)).map (·.size)).sum = ((l.take k).map (·.size)).sum + l[k].size := by
  rw [List.take_succ_eq_append_getElem hk, List.map_append, List.sum_append]
  simp

theorem ret_bool7 {a b : Bool} (h : a = b) : Ending.returned (.bool a) = .returned (.bool b) := by rw [h]

end Go.Proofs.YtpfkkpghgmmijaaGreatDoor

namespace Go.Proofs.YtpfkkpghgmmijaaGreatDoor
open Go.RowKit
set_option maxRecDepth 100000

/-- A patch. -/
structure Pr where
  kind : Int
  path : ByteArray
  dst : ByteArray
  src : ByteArray
  pos : Int
  old : List ByteArray
  new : List ByteArray

def zeroP : Pr := ⟨0, ⟨#[]⟩, ⟨#[]⟩, ⟨#[]⟩, 0, [], []⟩

/-- What undoes a patch. -/
def inv (x : Pr) : Pr :=
  if x.kind = 1 ∨ x.kind = 3 ∨ x.kind = 5 then { x with kind := x.kind + 1 }
  else if x.kind = 2 ∨ x.kind = 4 ∨ x.kind = 6 then { x with kind := x.kind - 1 }
  else if x.kind = 7 then { x with old := x.new, new := x.old }
  else if x.kind = 8 ∨ x.kind = 9 then { x with dst := x.src, src := x.dst }
  else if x.kind = 10 then { x with path := x.dst, dst := x.path }
  else zeroP

/-- How much a patch is. -/
def Pr.weight (x : Pr) : Nat := x.path.size + x.dst.size + x.src.size + x.old.length + x.new.length + (x.old.map (·.size)).sum + (x.new.map (·.size)).sum

/-- The cells of a patch, its rows given. -/
def prCells (x : Pr) (vo vn : Value) : List Value := [.int .i64 x.kind, .string x.path, .string x.dst, .string x.src, .int .i64 x.pos, vo, vn]

/-- v is the patch x. -/
def PrVal (w : World) (v : Value) (x : Pr) : Prop := ∃ vo vn, v = .agg #[.int .i64 x.kind, .string x.path, .string x.dst, .string x.src, .int .i64 x.pos, vo, vn] ∧ StrsAt w vo x.old ∧ StrsAt w vn x.new

theorem PrVal.kept {w w' : World} {v : Value} {x : Pr} (h : PrVal w v x) (f : Fr None' w w') : PrVal w' v x := by
  obtain ⟨vo, vn, e, h1, h2⟩ := h
  exact ⟨vo, vn, e, h1.kept f, h2.kept f⟩

/-- .. whose rows were made since w0. -/
def PrNew (w0 w : World) (v : Value) (x : Pr) : Prop := ∃ vo vn, v = .agg #[.int .i64 x.kind, .string x.path, .string x.dst, .string x.src, .int .i64 x.pos, vo, vn] ∧ StrsAt w vo x.old ∧ StrsAt w vn x.new ∧ (∀ k, vo.ownBlock = some k → w0.heap.size ≤ k) ∧ ∀ k, vn.ownBlock = some k → w0.heap.size ≤ k

theorem PrNew.val {w0 w : World} {v : Value} {x : Pr} (h : PrNew w0 w v x) : PrVal w v x := by
  obtain ⟨vo, vn, e, h1, h2, _⟩ := h
  exact ⟨vo, vn, e, h1, h2⟩

/-- The patch x lies in the seven cells at o of block g. -/
def PrAt (w : World) (g o : Nat) (x : Pr) : Prop := ∃ vo vn, w.cell? ⟨g, o, none⟩ = some (.int .i64 x.kind) ∧ w.cell? ⟨g, o + 1, none⟩ = some (.string x.path) ∧ w.cell? ⟨g, o + 2, none⟩ = some (.string x.dst) ∧ w.cell? ⟨g, o + 3, none⟩ = some (.string x.src) ∧ w.cell? ⟨g, o + 4, none⟩ = some (.int .i64 x.pos) ∧ w.cell? ⟨g, o + 5, none⟩ = some vo ∧ w.cell? ⟨g, o + 6, none⟩ = some vn ∧ StrsAt w vo x.old ∧ StrsAt w vn x.new

theorem PrAt.kept {w w' : World} {g o : Nat} {x : Pr} (h : PrAt w g o x) (f : Fr None' w w') : PrAt w' g o x := by
  obtain ⟨vo, vn, h0, h1, h2, h3, h4, h5, h6, h7, h8⟩ := h
  exact ⟨vo, vn, f.keepCell h0 (fun e => e), f.keepCell h1 (fun e => e), f.keepCell h2 (fun e => e), f.keepCell h3 (fun e => e), f.keepCell h4 (fun e => e), f.keepCell h5 (fun e => e), f.keepCell h6 (fun e => e), h7.kept f, h8.kept f⟩

/-- A row of patches. -/
def PrsAt (w : World) (va : Option Addr) (L : List Pr) : Prop := ∀ k x, L[k]? = some x → ∃ g o, va = some ⟨g, o, none⟩ ∧ PrAt w g (o + k * 7) x

theorem PrsAt.kept {w w' : World} {va : Option Addr} {L : List Pr} (h : PrsAt w va L) (f : Fr None' w w') : PrsAt w' va L := fun k x hk => by
  obtain ⟨g, o, e, h1⟩ := h k x hk
  exact ⟨g, o, e, h1.kept f⟩

theorem PrsAt.get {w : World} {va : Option Addr} {L : List Pr} (h : PrsAt w va L) {k : Nat} (hk : k < L.length) : ∃ g o, va = some ⟨g, o, none⟩ ∧ PrAt w g (o + k * 7) L[k] := h k _ (List.getElem?_eq_getElem hk)

end Go.Proofs.YtpfkkpghgmmijaaGreatDoor

namespace Go.Proofs.YtpfkkpghgmmijaaGreatDoor
open Go.RowKit
set_option maxRecDepth 100000

def undo (k : Int) : Int := if k = 1 ∨ k = 3 ∨ k = 5 then k + 1 else if k = 2 ∨ k = 4 ∨ k = 6 then k - 1 else if k = 7 ∨ k = 8 ∨ k = 9 ∨ k = 10 then k else 0

theorem info11 : (Tryz.prog.info? 133).map (·.size) = some 11 := by kernel_rfl

set_option maxHeartbeats 1000000 in
theorem kinds_any (w : World) : Calls Tryz.prog 134 #[] w fun e w' => e = .returned (.agg #[.int .i64 0, .int .i64 2, .int .i64 1, .int .i64 4, .int .i64 3, .int .i64 6, .int .i64 5, .int .i64 7, .int .i64 8, .int .i64 9, .int .i64 10]) ∧ Fr None' w w' := by
  go_enter Tryz.func134, Tryz.ntmps134
  go_wp2_with fail
  exact bodyPost_ret (results_cell_row rfl _ _ w.heap.size 133 #[.int .i64 0, .int .i64 2, .int .i64 1, .int .i64 4, .int .i64 3, .int .i64 6, .int .i64 5, .int .i64 7, .int .i64 8, .int .i64 9, .int .i64 10] (0, 0) _ rfl (heap_alloc_new w _) Tryz.underlying133 rfl info11) rfl ⟨rfl, Fr.alloc _ _ _⟩

theorem eleven (k : Int) : k < 0 ∨ 11 ≤ k ∨ k = 0 ∨ k = 1 ∨ k = 2 ∨ k = 3 ∨ k = 4 ∨ k = 5 ∨ k = 6 ∨ k = 7 ∨ k = 8 ∨ k = 9 ∨ k = 10 := by omega

set_option maxHeartbeats 2000000 in
theorem undoing_any (k : Int) (w : World) : Calls Tryz.prog 96 #[.int .i64 k] w fun e w' => e = .returned (.int .i64 (undo k)) ∧ Fr None' w w' := by
  have q1 := kinds_any w
  have HU : Hid (k < 0 ∨ 11 ≤ k → undo k = 0) := fun h => by unfold undo; rw [if_neg (by omega), if_neg (by omega), if_neg (by omega)]
  rcases eleven k with h | h | rfl | rfl | rfl | rfl | rfl | rfl | rfl | rfl | rfl | rfl | rfl
  · rw [HU.out (Or.inl h)]
    clear HU
    go_enter Tryz.func96, Tryz.ntmps96
    go_wp2_with fail
    with_reducible refine q1.mono ?_
    rintro e w1 ⟨rfl, f1⟩
    clear q1
    go_wp2_with fail
    go_ret
    exact ⟨rfl, f1.then7 (Fr.alloc _ _ _)⟩
  · rw [HU.out (Or.inr h)]
    clear HU
    go_enter Tryz.func96, Tryz.ntmps96
    go_wp2_with fail
    with_reducible refine q1.mono ?_
    rintro e w1 ⟨rfl, f1⟩
    clear q1
    go_wp2_with fail
    go_ret
    exact ⟨rfl, f1.then7 (Fr.alloc _ _ _)⟩
  all_goals
    clear HU
    go_enter Tryz.func96, Tryz.ntmps96
    go_wp2_with fail
    with_reducible refine q1.mono ?_
    rintro e w1 ⟨rfl, f1⟩
    clear q1
    go_wp2_with fail
    go_ret
    exact ⟨rfl, f1.then7 (Fr.alloc _ _ _)⟩

end Go.Proofs.YtpfkkpghgmmijaaGreatDoor

namespace Go.Proofs.YtpfkkpghgmmijaaGreatDoor
open Go.RowKit
set_option maxRecDepth 100000

def noLines (x : Pr) : Bool := decide (x.pos = 0) && decide (x.old.length = 0) && decide (x.new.length = 0)
def bareP (x : Pr) : Bool := decide (x.dst.data.toList = []) && decide (x.src.data.toList = []) && noLines x
def linesP (x : Pr) : Bool := decide (x.dst.data.toList = []) && decide (x.src.data.toList = []) && decide (0 ≤ x.pos) && decide (x.pos ≤ 1073741824) && Lines.right (Lines.bs x.old) && Lines.right (Lines.bs x.new) && decide (0 < x.old.length + x.new.length)
def tokenP (x : Pr) : Bool := noLines x && Lines.tok x.src.data.toList && Lines.tok x.dst.data.toList && decide (¬ x.src = x.dst)
def bytesP (x : Pr) : Bool := noLines x && decide (¬ x.src = x.dst)
def moveP (x : Pr) : Bool := noLines x && decide (x.src.data.toList = []) && Path.right x.dst.data.toList && Path.apart x.dst.data.toList x.path.data.toList

/-- Is a patch of that kind right, if its path is? -/
def ruleP (x : Pr) : Bool :=
  if x.kind ≤ 6 then bareP x else if x.kind = 7 then linesP x else if x.kind = 8 then tokenP x else if x.kind = 9 then bytesP x else moveP x

/-- May that be a patch? -/
def rightP (x : Pr) : Bool := decide (1 ≤ x.kind ∧ x.kind ≤ 10) && Path.right x.path.data.toList && ruleP x

theorem kinds10 {k : Int} (h : 1 ≤ k ∧ k ≤ 10) : k = 1 ∨ k = 2 ∨ k = 3 ∨ k = 4 ∨ k = 5 ∨ k = 6 ∨ k = 7 ∨ k = 8 ∨ k = 9 ∨ k = 10 := by omega

theorem right_inv {x : Pr} (h : rightP x = true) : rightP (inv x) = true := by
  obtain ⟨K, P, T, F, A, lO, lN⟩ := x
  unfold rightP at h
  simp only [Bool.and_eq_true, decide_eq_true_eq] at h
  obtain ⟨⟨hk, hp⟩, hr⟩ := h
  rcases kinds10 hk with rfl | rfl | rfl | rfl | rfl | rfl | rfl | rfl | rfl | rfl
  case inr.inr.inr.inr.inr.inr.inl =>
    simp [ruleP, linesP] at hr
    simp [inv, rightP, ruleP, linesP, hp, hr]
    omega
  case inr.inr.inr.inr.inr.inr.inr.inl =>
    simp [ruleP, tokenP, noLines] at hr
    simp [inv, rightP, ruleP, tokenP, noLines, hp, hr]
    exact fun e => hr.2 e.symm
  case inr.inr.inr.inr.inr.inr.inr.inr.inl =>
    simp [ruleP, bytesP, noLines] at hr
    simp [inv, rightP, ruleP, bytesP, noLines, hp, hr]
    exact fun e => hr.2 e.symm
  case inr.inr.inr.inr.inr.inr.inr.inr.inr =>
    simp [ruleP, moveP, noLines] at hr
    have hc := hr.2
    rw [Path.apart_comm] at hc
    simp [inv, rightP, ruleP, moveP, noLines, hp, hr, hc]
  all_goals
    simp [ruleP, bareP, noLines] at hr
    simp [inv, rightP, ruleP, bareP, noLines, hp, hr]

end Go.Proofs.YtpfkkpghgmmijaaGreatDoor

namespace Go.Proofs.YtpfkkpghgmmijaaGreatDoor
open Go.RowKit
set_option maxRecDepth 100000

set_option maxHeartbeats 2000000 in
theorem equalS_any (va vb : Option Addr) (ca cb : Nat) (a b : List ByteArray) (w : World) (ha : Lines.Row w va a) (hb : Lines.Row w vb b) (hl : a.length < 1000000) :
    Calls Tryz.prog 66 #[.slice va a.length ca, .slice vb b.length cb] w fun e w' => e = .returned (.bool (decide (a = b))) ∧ Fr None' w w' := by
  by_cases hn : a.length = b.length
  case neg =>
    have hR : Hid (decide (a = b) = false) := decide_eq_false (fun e => hn (by rw [e]))
    have i1 : ¬ (a.length : Int) = b.length := by omega
    rw [hR.out]
    clear ha hb hn hR
    go_enter Tryz.func66, Tryz.ntmps66
    go_wp2_with fail
    go_ret
    exact ⟨rfl, Fr.refl _ _⟩
  case pos =>
  have HN : Hid (a.length = b.length) := hn
  obtain ⟨n, hna⟩ : ∃ n, a.length = n := ⟨_, rfl⟩
  have HA : Hid (a.length = n) := hna
  rw [← hn, hna]
  have i1 : (n : Int) < 1000000 := by omega
  clear hl hn hna
  go_enter Tryz.func66, Tryz.ntmps66
  go_wp2_with fail
  go_loopw [13] (fun i wr => ∃ k : Nat, k ≤ n ∧ i = .int .i64 k ∧ Fr None' w wr ∧ Hid (a.take k = b.take k)) (fun i _ => n - (intOf i).toNat)
  case atStart => exact ⟨0, Nat.zero_le _, rfl, Fr.refl _ _, rfl⟩
  case round =>
    obtain ⟨k, hk, rfl, hF, HT⟩ := hrel
    by_cases hlt : k < n
    · have hka : k < a.length := by rw [HA.out]; exact hlt
      have hkb : k < b.length := by rw [← HN.out]; exact hka
      obtain ⟨ga, oa, rfl, c1⟩ := (ha.fr (toLN hF)).get hka
      obtain ⟨gb, ob, rfl, c2⟩ := (hb.fr (toLN hF)).get hkb
      obtain ⟨x, hx⟩ : ∃ x, a[k] = x := ⟨_, rfl⟩
      obtain ⟨y, hy⟩ : ∃ y, b[k] = y := ⟨_, rfl⟩
      have HX : Hid (a[k] = x) := hx
      have HY : Hid (b[k] = y) := hy
      rw [hx] at c1
      rw [hy] at c2
      clear hx hy ha hb
      have i2 : (k : Int) < n := by omega
      by_cases hxy : x = y
      · subst hxy
        go_wp2_with fail
        go_quiet (fail)
        go_wp2_with fail
        exact ⟨⟨k + 1, by omega, by go_num, hF.then7 (Fr.drewN _ _ _), Lines.list_step HN.out hka HT.out (by rw [HX.out, HY.out])⟩, by simp [intOf]; omega⟩
      · have HE : Hid (¬ x = y) := hxy
        obtain ⟨q1, q2⟩ := Lines.str_no hxy
        clear hxy
        go_wp2_with fail
        go_quiet (fail)
        clear c1 c2
        go_wp2_with fail
        go_ret
        exact ⟨Lines.ret_bool (decide_eq_false (fun e => HE.out (by rw [← HX.out, ← HY.out]; subst e; rfl))).symm, hF.then7 (Fr.drewN _ _ _)⟩
    · go_wp2_with fail
      go_ret
      refine ⟨Lines.ret_bool ?_, hF⟩
      have := HT.out
      rw [List.take_of_length_le (by rw [HA.out]; omega), List.take_of_length_le (by rw [← HN.out, HA.out]; omega)] at this
      exact (decide_eq_true this).symm

end Go.Proofs.YtpfkkpghgmmijaaGreatDoor
