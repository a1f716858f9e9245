/- What is proved here: contracts for RecordMakes. Conditions: as named. -/
import Derived.Test.YtbnfjjjdnbcehaaGreatDoorX25RightT
import Derived.Laws.ResultCell
import Derived.Test.YtbnfjjjdnbcehaaGreatDoorX8Strs9
import Derived.Test.YtbnfjjjdnbcehaaGreatDoorX9Plain8
import Derived.Test.YtbnfjjjdnbcehaaGreatDoorX20PSplit
import Derived.Test.YtbnfjjjdnbcehaaGreatDoorX18PRunes
import Derived.Test.YtbnfjjjdnbcehaaGreatDoorX24LIter
import Derived.Test.YtbnfjjjdnbcehaaGreatDoorX17Plain10
set_option maxHeartbeats 16000000
namespace Go.Proofs.YtbnfjjjdnbcehaaGreatDoor
open Go.RowKit
set_option maxRecDepth 100000
def FindPost (w : World) (r : Option En) : Ending → World → Prop := fun e w' => Fr None' w w' ∧ match r with
 | none => e = .returned (.tuple #[.agg #[.string ⟨#[]⟩, .int .i64 0, .slice none 0 0, .string ⟨#[]⟩], .bool false])
 | some x => ∃ vl, e = .returned (.tuple #[.agg #[.string x.path, .int .i64 x.kind, vl, .string x.data], .bool true]) ∧ Zy w' vl x.lines
theorem bl_inj {a b : ByteArray} (h : bl a = bl b) : a = b := by
 have h' : a.data.toList = b.data.toList := h
 cases a with | mk a => cases b with | mk b =>
  cases a; cases b
  simp at h'
  rw [h']
theorem findE_none {L : List En} {p : List UInt8} (h : ∀ j (hj : j < L.length), ¬ bl L[j].path = p) : Zt L p = none := by
 unfold Zt
 rw [List.find?_eq_none]
 intro x hx
 obtain ⟨j, hj, rfl⟩ := List.getElem_of_mem hx
 simpa using h j hj
theorem findE_some {L : List En} {p : List UInt8} {k : Nat} (hk : k < L.length) (h : ∀ j (hj : j < L.length), j < k → ¬ bl L[j].path = p) (e : bl L[k].path = p) : Zt L p = some L[k] := by
 unfold Zt
 rw [List.find?_eq_some_iff_getElem]
 refine ⟨by simpa using e, k, hk, rfl, fun j hj => ?_⟩
 simpa using h j (by omega) hj
theorem store4 {w : World} {b : Nat} {x0 x1 x2 x3 y0 y1 y2 y3 : Value} {e : TypeId} (h : w.heap[b]? = some (.cells #[x0, x1, x2, x3] e)) : ((((w.setCell ⟨b, 0, none⟩ y0).setCell ⟨b, 1, none⟩ y1).setCell ⟨b, 2, none⟩ y2).setCell ⟨b, 3, none⟩ y3).heap[b]? = some (.cells #[y0, y1, y2, y3] e) := by
 have h1 := Go.heap_setCell_same _ b 3 _ _ y3 (Go.heap_setCell_same _ b 2 _ _ y2 (Go.heap_setCell_same _ b 1 _ _ y1 (Go.heap_setCell_same w b 0 _ _ y0 h)))
 simpa using h1
theorem loadE {w : World} {b : Nat} {y0 y1 y2 y3 : Value} (h : w.heap[b]? = some (.cells #[y0, y1, y2, y3] 45)) : (loadVar 45 ⟨b, 0, none⟩).run Tryz.prog w = .ok (.agg #[y0, y1, y2, y3]) w :=
 run_loadVar_row w b 45 45 _ (0, 0) _ h Tryz.underlying45 rfl (by kernel_rfl)
theorem efind_any (va : Option Addr) (n c : Nat) (L : List En) (p : ByteArray) (w : World) (hl : L.length = n) (h : Z0 w va L) (hn : n ≤ 140737488355328) :
  Calls Tryz.prog 25 #[.slice va n c, .string p] w (FindPost w (Zt L (bl p))) := by
 have HL : Hid (L.length = n) := hl
 have HE : Hid (Z0 w va L) := h
 have i1 : (n : Int) ≤ 140737488355328 := by omega
 obtain ⟨R, hR⟩ : ∃ R, Zt L (bl p) = R := ⟨_, rfl⟩
 have HR : Hid (Zt L (bl p) = R) := hR
 rw [hR]
 obtain ⟨w1, hw1⟩ : ∃ w1, w.alloc (.cells #[.string ⟨#[]⟩, .int .i64 0, .slice none 0 0, .string ⟨#[]⟩] 45) = w1 := ⟨_, rfl⟩
 have F1 : Fr None' w w1 := hw1 ▸ Fr.alloc None' w _
 obtain ⟨b0, b1, b2, b3⟩ := cell4 w 45 (.string ⟨#[]⟩) (.int .i64 0) (.slice none 0 0) (.string ⟨#[]⟩)
 rw [hw1] at b0 b1 b2 b3
 have z : ∀ o, w1.frozen? ⟨w.heap.size, o, none⟩ = false := fun o => by
  rw [← hw1]
  unfold World.frozen?
  rw [heap_alloc_new]
  simp
 have HB : Hid (w1.heap[w.heap.size]? = some (.cells #[.string ⟨#[]⟩, .int .i64 0, .slice none 0 0, .string ⟨#[]⟩] 45)) := by show _ = _; rw [← hw1]; exact heap_alloc_new w _
 clear hl h hn hR
 go_enter Tryz.func25, Tryz.ntmps25
 go_wp2_with fail
 clear hw1
 go_loopw [6] (fun vi wr => ∃ k : Nat, k ≤ n ∧ vi = .int .i64 k ∧ wr = w1 ∧ Hid (∀ j (hj : j < L.length), j < k → ¬ bl L[j].path = bl p)) (fun vi _ => n - (intOf vi).toNat)
 case atStart => exact ⟨0, Nat.zero_le _, rfl, rfl, fun j _ h => by omega⟩
 case round =>
  obtain ⟨k, hk, rfl, hw, HT⟩ := hrel
  subst hw
  by_cases hlt : k < n
  ·have hkL : k < L.length := by rw [HL.out]; exact hlt
   obtain ⟨g, o, rfl, vl, d0, d1, d2, d3, hs1⟩ := HE.out.get hkL
   obtain ⟨pl, cl, rfl, h1, h2, hr⟩ := hs1
   replace d0 := F1.keepCell d0 (fun e => e)
   replace d1 := F1.keepCell d1 (fun e => e)
   replace d2 := F1.keepCell d2 (fun e => e)
   replace d3 := F1.keepCell d3 (fun e => e)
   have HS : Hid (Zy w (.slice pl L[k].lines.length cl) L[k].lines) := ⟨pl, cl, rfl, h1, h2, hr⟩
   have HY : Hid (bl L[k].path = bl p → R = some L[k]) := fun e => by rw [← HR.out]; exact findE_some hkL HT.out e
   have HNx : Hid (¬ bl L[k].path = bl p → ∀ j (hj : j < L.length), j < k + 1 → ¬ bl L[j].path = bl p) := fun h j hj hlt => by
    by_cases e : j = k
    ·subst e; exact h
    ·exact HT.out j hj (by omega)
   obtain ⟨x, hxe⟩ : ∃ x, L[k] = x := ⟨_, rfl⟩
   rw [hxe] at d0 d1 d2 d3 HS HY HNx
   obtain ⟨P, K, l, Da⟩ := x
   simp only at d0 d1 d2 d3 HS HY HNx
   obtain ⟨nl, hnl⟩ : ∃ m, l.length = m := ⟨_, rfl⟩
   rw [hnl] at d2 HS
   have i2 : (k : Int) < (n : Int) := by omega
   have i3 : (0 : Int) ≤ (k : Int) := by omega
   clear hxe hnl hr h1 h2 HT
   by_cases hp : P = p
   ·subst hp
    have e := HY.out rfl
    have HE2 : Hid (R = some ⟨P, K, l, Da⟩) := e
    clear HY HNx e
    go_wp2_with fail
    have hb := store4 (y0 := .string P) (y1 := .int .i64 K) (y2 := .slice pl nl cl) (y3 := .string Da) HB.out
    have hld := loadE hb
    refine bodyPost_ret (v := .tuple #[.agg #[.string P, .int .i64 K, .slice pl nl cl, .string Da], .bool true]) (by rw [results_cell_tmp rfl]; simp [asAddr, Result.andThen, hld]) rfl ?_
    have fs : Fr (fun k => k = w.heap.size) wr ((((wr.setCell ⟨w.heap.size, 0, none⟩ (.string P)).setCell ⟨w.heap.size, 1, none⟩ (.int .i64 K)).setCell ⟨w.heap.size, 2, none⟩ (.slice pl nl cl)).setCell ⟨w.heap.size, 3, none⟩ (.string Da)) :=
     (((Fr.setCell (M := fun k => k = w.heap.size) _ (a := ⟨w.heap.size, _, none⟩) rfl _).trans (Fr.setCell (M := fun k => k = w.heap.size) _ (a := ⟨w.heap.size, _, none⟩) rfl _) (fun _ e => Or.inl e)).trans (Fr.setCell (M := fun k => k = w.heap.size) _ (a := ⟨w.heap.size, _, none⟩) rfl _) (fun _ e => Or.inl e)).trans (Fr.setCell (M := fun k => k = w.heap.size) _ (a := ⟨w.heap.size, _, none⟩) rfl _) (fun _ e => Or.inl e)
    have ff := F1.trans fs (fun i e => Or.inr (by have e' : i = w.heap.size := e; omega))
    refine ⟨ff, ?_⟩
    rw [HE2.out]
    exact ⟨_, rfl, HS.out.kept ff⟩
   ·obtain ⟨s1, s2⟩ := str_no7 hp
    have HN2 : Hid (∀ j (hj : j < L.length), j < k + 1 → ¬ bl L[j].path = bl p) := HNx.out (fun e => hp (bl_inj e))
    clear hp HY HNx
    go_wp2_with fail
    exact ⟨⟨k + 1, by omega, by go_num, trivial, HN2.out⟩, by simp [intOf]; omega⟩
  ·have e : R = none := by rw [← HR.out]; exact findE_none (fun j hj => HT.out j hj (by have := HL.out; omega))
   subst e
   go_wp2_with fail
   have hb := store4 (y0 := .string ⟨#[]⟩) (y1 := .int .i64 0) (y2 := .slice none 0 0) (y3 := .string ⟨#[]⟩) HB.out
   have hld := loadE hb
   refine bodyPost_ret (v := .tuple #[.agg #[.string ⟨#[]⟩, .int .i64 0, .slice none 0 0, .string ⟨#[]⟩], .bool false]) (by rw [results_cell_tmp rfl]; simp [asAddr, Result.andThen, hld]) rfl ?_
   have fs : Fr (fun k => k = w.heap.size) wr ((((wr.setCell ⟨w.heap.size, 0, none⟩ (.string ⟨#[]⟩)).setCell ⟨w.heap.size, 1, none⟩ (.int .i64 0)).setCell ⟨w.heap.size, 2, none⟩ (.slice none 0 0)).setCell ⟨w.heap.size, 3, none⟩ (.string ⟨#[]⟩)) :=
    (((Fr.setCell (M := fun k => k = w.heap.size) _ (a := ⟨w.heap.size, _, none⟩) rfl _).trans (Fr.setCell (M := fun k => k = w.heap.size) _ (a := ⟨w.heap.size, _, none⟩) rfl _) (fun _ e => Or.inl e)).trans (Fr.setCell (M := fun k => k = w.heap.size) _ (a := ⟨w.heap.size, _, none⟩) rfl _) (fun _ e => Or.inl e)).trans (Fr.setCell (M := fun k => k = w.heap.size) _ (a := ⟨w.heap.size, _, none⟩) rfl _) (fun _ e => Or.inl e)
   exact ⟨F1.trans fs (fun i e => Or.inr (by have e' : i = w.heap.size := e; omega)), rfl⟩
theorem Zy.sl {w : World} {v : Value} {l : List ByteArray} (h : Zy w v l) : ∃ pa ca, v = .slice pa l.length ca ∧ Lines.Row w pa l := by
 obtain ⟨pa, ca, e, _, _, h⟩ := h
 exact ⟨pa, ca, e, h⟩
theorem ofPath {w w' : World} (h : Below w.heap.size w w') : Fr None' w w' := ofBelow h
structure SmallP (x : Pr) : Prop where
 path : x.path.size < 900000
 dst : x.dst.size < 900000
 src : x.src.size < 900000
 old : x.old.length < 900000
 new : x.new.length < 900000
theorem noLines_any (x : Pr) (vo vn : Value) (w : World) (ho : Zy w vo x.old) (hn : Zy w vn x.new) (hs : SmallP x) :
  Calls Tryz.prog 135 #[.agg #[.int .i64 x.kind, .string x.path, .string x.dst, .string x.src, .int .i64 x.pos, vo, vn]] w fun e w' => e = .returned (.bool (Zc x)) ∧ Fr None' w w' := by
 obtain ⟨K, P, T, F, A, lO, lN⟩ := x
 obtain ⟨zP, zT, zF, zO, zN⟩ := hs
 simp only at ho hn zP zT zF zO zN ⊢
 obtain ⟨pa, ca, rfl, r1⟩ := ho.sl
 obtain ⟨pb, cb, rfl, r2⟩ := hn.sl
 obtain ⟨no, hno⟩ : ∃ n, lO.length = n := ⟨_, rfl⟩
 obtain ⟨nn, hnn⟩ : ∃ n, lN.length = n := ⟨_, rfl⟩
 obtain ⟨w1, hw1⟩ : ∃ w1, w.alloc (.cells #[.int .i64 K, .string P, .string T, .string F, .int .i64 A, .slice pa no ca, .slice pb nn cb] 43) = w1 := ⟨_, rfl⟩
 have F1 : Fr None' w w1 := hw1 ▸ Fr.alloc None' w _
 have B1 : Box w1 w.heap.size (.int .i64 K) (.string P) (.string T) (.string F) (.int .i64 A) (.slice pa no ca) (.slice pb nn cb) := hw1 ▸ Box.new w _ _ _ _ _ _ _
 have HB : Hid (∀ w', Fr None' w1 w' → Box w' w.heap.size (.int .i64 K) (.string P) (.string T) (.string F) (.int .i64 A) (.slice pa no ca) (.slice pb nn cb)) := fun w' f => B1.kept f
 have HF : Hid (Fr None' w w1) := F1
 obtain ⟨a0, a1, a2, a3, a4, a5, a6⟩ := B1.cells
 rw [hno, hnn]
 have i1 : (no : Int) < 900000 := by omega
 have i2 : (nn : Int) < 900000 := by omega
 by_cases hA : A = 0
 ·by_cases hO : no = 0
  ·have hR : Zc ⟨K, P, T, F, A, lO, lN⟩ = decide (nn = 0) := by simp [Zc, hA, hno, hO, hnn]
   rw [hR]
   by_cases hN : nn = 0
   ·rw [decide_eq_true hN]
    subst hA hO hN
    clear ho hn r1 r2 zP zT zF zO zN F1 B1 hR hno hnn
    go_enter Tryz.func135, Tryz.ntmps135
    go_wp2_with fail
    go_ret
    exact ⟨rfl, HF.out⟩
   ·rw [decide_eq_false hN]
    subst hA hO
    have j1 : ¬ (nn : Int) = 0 := by omega
    clear ho hn r1 r2 zP zT zF zO zN F1 B1 hR hno hnn
    go_enter Tryz.func135, Tryz.ntmps135
    go_wp2_with fail
    go_ret
    exact ⟨by first | rfl | exact ret_bool7 (by simp; omega), HF.out⟩
  ·have hR : Zc ⟨K, P, T, F, A, lO, lN⟩ = false := by simp [Zc, hA, hno, hO]
   rw [hR]
   subst hA
   have j1 : ¬ (no : Int) = 0 := by omega
   clear ho hn r1 r2 zP zT zF zO zN F1 B1 hR hno hnn
   go_enter Tryz.func135, Tryz.ntmps135
   go_wp2_with fail
   go_ret
   exact ⟨rfl, HF.out⟩
 ·have hR : Zc ⟨K, P, T, F, A, lO, lN⟩ = false := by simp [Zc, hA]
  rw [hR]
  clear ho hn r1 r2 zP zT zF zO zN F1 B1 hR hno hnn
  go_enter Tryz.func135, Tryz.ntmps135
  go_wp2_with fail
  go_ret
  exact ⟨rfl, HF.out⟩
theorem bare_any (x : Pr) (vo vn : Value) (w : World) (ho : Zy w vo x.old) (hn : Zy w vn x.new) (hs : SmallP x) :
  Calls Tryz.prog 104 #[.agg #[.int .i64 x.kind, .string x.path, .string x.dst, .string x.src, .int .i64 x.pos, vo, vn]] w fun e w' => e = .returned (.bool (bareP x)) ∧ Fr None' w w' := by
 have cW : ∀ w', Fr None' w w' → Calls Tryz.prog 135 #[.agg #[.int .i64 x.kind, .string x.path, .string x.dst, .string x.src, .int .i64 x.pos, vo, vn]] w' fun e w'' => e = .returned (.bool (Zc x)) ∧ Fr None' w' w'' := fun w' f => noLines_any x vo vn w' (ho.kept f) (hn.kept f) hs
 obtain ⟨K, P, T, F, A, lO, lN⟩ := x
 obtain ⟨zP, zT, zF, zO, zN⟩ := hs
 simp only at ho hn zP zT zF zO zN cW ⊢
 obtain ⟨pa, ca, rfl, r1⟩ := ho.sl
 obtain ⟨pb, cb, rfl, r2⟩ := hn.sl
 obtain ⟨no, hno⟩ : ∃ n, lO.length = n := ⟨_, rfl⟩
 obtain ⟨nn, hnn⟩ : ∃ n, lN.length = n := ⟨_, rfl⟩
 obtain ⟨w1, hw1⟩ : ∃ w1, w.alloc (.cells #[.int .i64 K, .string P, .string T, .string F, .int .i64 A, .slice pa no ca, .slice pb nn cb] 43) = w1 := ⟨_, rfl⟩
 have F1 : Fr None' w w1 := hw1 ▸ Fr.alloc None' w _
 have B1 : Box w1 w.heap.size (.int .i64 K) (.string P) (.string T) (.string F) (.int .i64 A) (.slice pa no ca) (.slice pb nn cb) := hw1 ▸ Box.new w _ _ _ _ _ _ _
 have HB : Hid (∀ w', Fr None' w1 w' → Box w' w.heap.size (.int .i64 K) (.string P) (.string T) (.string F) (.int .i64 A) (.slice pa no ca) (.slice pb nn cb)) := fun w' f => B1.kept f
 have HF : Hid (Fr None' w w1) := F1
 obtain ⟨a0, a1, a2, a3, a4, a5, a6⟩ := B1.cells
 rw [hno, hnn]
 rw [hno, hnn] at cW
 by_cases hT : T.data.toList = []
 ·obtain ⟨t1, t2⟩ := Lines.asks_yes hT
  by_cases hF : F.data.toList = []
  ·obtain ⟨t3, t4⟩ := Lines.asks_yes hF
   have hR : bareP ⟨K, P, T, F, A, lO, lN⟩ = Zc ⟨K, P, T, F, A, lO, lN⟩ := by simp [bareP, hT, hF]
   rw [hR]
   generalize Zc ⟨K, P, T, F, A, lO, lN⟩ = R at cW
   have q1 := cW w1 F1
   clear ho hn r1 r2 zP zT zF zO zN F1 B1 hR hT hF cW hno hnn
   go_enter Tryz.func104, Tryz.ntmps104
   go_wp2_with fail
   with_reducible refine q1.mono ?_
   rintro e w2 ⟨rfl, f2⟩
   have HF2 : Hid (Fr None' w w2) := HF.out.then7 f2
   clear q1 f2
   cases R <;> (go_wp2_with fail; go_ret; exact ⟨rfl, HF2.out⟩)
  ·obtain ⟨t3, t4⟩ := Lines.asks_no hF
   have hR : bareP ⟨K, P, T, F, A, lO, lN⟩ = false := by simp [bareP, hT, hF]
   rw [hR]
   clear ho hn r1 r2 zP zT zF zO zN F1 B1 hR hT hF cW hno hnn
   go_enter Tryz.func104, Tryz.ntmps104
   go_wp2_with fail
   go_ret
   exact ⟨rfl, HF.out⟩
 ·obtain ⟨t1, t2⟩ := Lines.asks_no hT
  have hR : bareP ⟨K, P, T, F, A, lO, lN⟩ = false := by simp [bareP, hT]
  rw [hR]
  clear ho hn r1 r2 zP zT zF zO zN F1 B1 hR hT cW hno hnn
  go_enter Tryz.func104, Tryz.ntmps104
  go_wp2_with fail
  go_ret
  exact ⟨rfl, HF.out⟩
theorem bytes_any (x : Pr) (vo vn : Value) (w : World) (ho : Zy w vo x.old) (hn : Zy w vn x.new) (hs : SmallP x) :
  Calls Tryz.prog 112 #[.agg #[.int .i64 x.kind, .string x.path, .string x.dst, .string x.src, .int .i64 x.pos, vo, vn]] w fun e w' => e = .returned (.bool (bytesP x)) ∧ Fr None' w w' := by
 have cW : ∀ w', Fr None' w w' → Calls Tryz.prog 135 #[.agg #[.int .i64 x.kind, .string x.path, .string x.dst, .string x.src, .int .i64 x.pos, vo, vn]] w' fun e w'' => e = .returned (.bool (Zc x)) ∧ Fr None' w' w'' := fun w' f => noLines_any x vo vn w' (ho.kept f) (hn.kept f) hs
 obtain ⟨K, P, T, F, A, lO, lN⟩ := x
 obtain ⟨zP, zT, zF, zO, zN⟩ := hs
 simp only at ho hn zP zT zF zO zN cW ⊢
 obtain ⟨pa, ca, rfl, r1⟩ := ho.sl
 obtain ⟨pb, cb, rfl, r2⟩ := hn.sl
 obtain ⟨no, hno⟩ : ∃ n, lO.length = n := ⟨_, rfl⟩
 obtain ⟨nn, hnn⟩ : ∃ n, lN.length = n := ⟨_, rfl⟩
 obtain ⟨w1, hw1⟩ : ∃ w1, w.alloc (.cells #[.int .i64 K, .string P, .string T, .string F, .int .i64 A, .slice pa no ca, .slice pb nn cb] 43) = w1 := ⟨_, rfl⟩
 have F1 : Fr None' w w1 := hw1 ▸ Fr.alloc None' w _
 have B1 : Box w1 w.heap.size (.int .i64 K) (.string P) (.string T) (.string F) (.int .i64 A) (.slice pa no ca) (.slice pb nn cb) := hw1 ▸ Box.new w _ _ _ _ _ _ _
 have HB : Hid (∀ w', Fr None' w1 w' → Box w' w.heap.size (.int .i64 K) (.string P) (.string T) (.string F) (.int .i64 A) (.slice pa no ca) (.slice pb nn cb)) := fun w' f => B1.kept f
 have HF : Hid (Fr None' w w1) := F1
 obtain ⟨a0, a1, a2, a3, a4, a5, a6⟩ := B1.cells
 rw [hno, hnn]
 rw [hno, hnn] at cW
 obtain ⟨R, hRR⟩ : ∃ R, Zc ⟨K, P, T, F, A, lO, lN⟩ = R := ⟨_, rfl⟩
 rw [hRR] at cW
 have q1 := cW w1 F1
 cases R with
 | false =>
  have hR : bytesP ⟨K, P, T, F, A, lO, lN⟩ = false := by simp [bytesP, hRR]
  rw [hR]
  clear ho hn r1 r2 zP zT zF zO zN F1 B1 hR hRR cW hno hnn
  go_enter Tryz.func112, Tryz.ntmps112
  go_wp2_with fail
  with_reducible refine q1.mono ?_
  rintro e w2 ⟨rfl, f2⟩
  have HF2 : Hid (Fr None' w w2) := HF.out.then7 f2
  clear q1 f2
  go_wp2_with fail
  go_ret
  exact ⟨rfl, HF2.out⟩
 | true =>
  have HC : Hid (∀ w', Fr None' w1 w' → w'.cell? ⟨w.heap.size, 2, none⟩ = some (.string T) ∧ w'.cell? ⟨w.heap.size, 3, none⟩ = some (.string F)) := fun w' f => ⟨(HB.out w' f).cells.2.2.1, (HB.out w' f).cells.2.2.2.1⟩
  by_cases he : F = T
  ·have hR : bytesP ⟨K, P, T, F, A, lO, lN⟩ = false := by simp [bytesP, he]
   rw [hR]
   subst he
   clear ho hn r1 r2 zP zT zF zO zN F1 B1 hR hRR cW hno hnn
   go_enter Tryz.func112, Tryz.ntmps112
   go_wp2_with fail
   with_reducible refine q1.mono ?_
   rintro e w2 ⟨rfl, f2⟩
   have HF2 : Hid (Fr None' w w2) := HF.out.then7 f2
   obtain ⟨k2, k3⟩ := HC.out w2 f2
   clear q1 f2 a0 a1 a2 a3 a4 a5 a6
   go_wp2_with fail
   go_ret
   exact ⟨rfl, HF2.out⟩
  ·have hR : bytesP ⟨K, P, T, F, A, lO, lN⟩ = true := by simp [bytesP, hRR, he]
   rw [hR]
   obtain ⟨t1, t2⟩ := Lines.str_no he
   clear ho hn r1 r2 zP zT zF zO zN F1 B1 hR hRR cW hno hnn he
   go_enter Tryz.func112, Tryz.ntmps112
   go_wp2_with fail
   with_reducible refine q1.mono ?_
   rintro e w2 ⟨rfl, f2⟩
   have HF2 : Hid (Fr None' w w2) := HF.out.then7 f2
   obtain ⟨k2, k3⟩ := HC.out w2 f2
   clear q1 f2 a0 a1 a2 a3 a4 a5 a6
   go_wp2_with fail
   go_ret
   exact ⟨rfl, HF2.out⟩
theorem token9_any (x : Pr) (vo vn : Value) (w : World) (ho : Zy w vo x.old) (hn : Zy w vn x.new) (hs : SmallP x) :
  Calls Tryz.prog 110 #[.agg #[.int .i64 x.kind, .string x.path, .string x.dst, .string x.src, .int .i64 x.pos, vo, vn]] w fun e w' => e = .returned (.bool (tokenP x)) ∧ Fr None' w w' := by
 have cW : ∀ w', Fr None' w w' → Calls Tryz.prog 135 #[.agg #[.int .i64 x.kind, .string x.path, .string x.dst, .string x.src, .int .i64 x.pos, vo, vn]] w' fun e w'' => e = .returned (.bool (Zc x)) ∧ Fr None' w' w'' := fun w' f => noLines_any x vo vn w' (ho.kept f) (hn.kept f) hs
 obtain ⟨K, P, T, F, A, lO, lN⟩ := x
 obtain ⟨zP, zT, zF, zO, zN⟩ := hs
 simp only at ho hn zP zT zF zO zN cW ⊢
 obtain ⟨pa, ca, rfl, r1⟩ := ho.sl
 obtain ⟨pb, cb, rfl, r2⟩ := hn.sl
 obtain ⟨no, hno⟩ : ∃ n, lO.length = n := ⟨_, rfl⟩
 obtain ⟨nn, hnn⟩ : ∃ n, lN.length = n := ⟨_, rfl⟩
 obtain ⟨w1, hw1⟩ : ∃ w1, w.alloc (.cells #[.int .i64 K, .string P, .string T, .string F, .int .i64 A, .slice pa no ca, .slice pb nn cb] 43) = w1 := ⟨_, rfl⟩
 have F1 : Fr None' w w1 := hw1 ▸ Fr.alloc None' w _
 have B1 : Box w1 w.heap.size (.int .i64 K) (.string P) (.string T) (.string F) (.int .i64 A) (.slice pa no ca) (.slice pb nn cb) := hw1 ▸ Box.new w _ _ _ _ _ _ _
 have HB : Hid (∀ w', Fr None' w1 w' → Box w' w.heap.size (.int .i64 K) (.string P) (.string T) (.string F) (.int .i64 A) (.slice pa no ca) (.slice pb nn cb)) := fun w' f => B1.kept f
 have HF : Hid (Fr None' w w1) := F1
 obtain ⟨a0, a1, a2, a3, a4, a5, a6⟩ := B1.cells
 rw [hno, hnn]
 rw [hno, hnn] at cW
 have HC : Hid (∀ w', Fr None' w1 w' → w'.cell? ⟨w.heap.size, 1, none⟩ = some (.string P) ∧ w'.cell? ⟨w.heap.size, 2, none⟩ = some (.string T) ∧ w'.cell? ⟨w.heap.size, 3, none⟩ = some (.string F)) := fun w' f => ⟨(HB.out w' f).cells.2.1, (HB.out w' f).cells.2.2.1, (HB.out w' f).cells.2.2.2.1⟩
 have HTF : Hid (∀ w', Calls Tryz.prog 143 #[.string F] w' fun e w'' => e = .returned (.bool (Lines.tok F.data.toList)) ∧ Fr None' w' w'') := fun w' => (Lines.token_any F w' (by omega)).mono fun _ _ ⟨h1, h2⟩ => ⟨h1, ofLN h2⟩
 have HTT : Hid (∀ w', Calls Tryz.prog 143 #[.string T] w' fun e w'' => e = .returned (.bool (Lines.tok T.data.toList)) ∧ Fr None' w' w'') := fun w' => (Lines.token_any T w' (by omega)).mono fun _ _ ⟨h1, h2⟩ => ⟨h1, ofLN h2⟩
 obtain ⟨R, hRR⟩ : ∃ R, Zc ⟨K, P, T, F, A, lO, lN⟩ = R := ⟨_, rfl⟩
 obtain ⟨RF, hRF⟩ : ∃ R, Lines.tok F.data.toList = R := ⟨_, rfl⟩
 obtain ⟨RT, hRT⟩ : ∃ R, Lines.tok T.data.toList = R := ⟨_, rfl⟩
 rw [hRR] at cW
 rw [hRF] at HTF
 rw [hRT] at HTT
 have q1 := cW w1 F1
 have HV : Hid (tokenP ⟨K, P, T, F, A, lO, lN⟩ = (R && RF && RT && decide (¬ F = T))) := by show _ = _; simp [tokenP, hRR, hRF, hRT]
 rw [HV.out]
 clear ho hn r1 r2 zP zT zF zO zN F1 B1 cW hno hnn hRR hRF hRT HV
 cases R with
 | false =>
  rw [Bool.false_and, Bool.false_and, Bool.false_and]
  go_enter Tryz.func110, Tryz.ntmps110
  go_wp2_with fail
  with_reducible refine q1.mono ?_
  rintro e w2 ⟨rfl, f2⟩
  have HF2 : Hid (Fr None' w w2) := HF.out.then7 f2
  clear q1 f2
  go_wp2_with fail
  go_ret
  exact ⟨rfl, HF2.out⟩
 | true =>
  rw [Bool.true_and]
  cases RF with
  | false =>
   rw [Bool.false_and, Bool.false_and]
   go_enter Tryz.func110, Tryz.ntmps110
   go_wp2_with fail
   with_reducible refine q1.mono ?_
   rintro e w2 ⟨rfl, f2⟩
   have HF2 : Hid (Fr None' w w2) := HF.out.then7 f2
   obtain ⟨k1, k2, k3⟩ := HC.out w2 f2
   have q2 := HTF.out w2
   clear q1 f2 a0 a1 a2 a3 a4 a5 a6
   go_wp2_with fail
   with_reducible refine q2.mono ?_
   rintro e w3 ⟨rfl, f3⟩
   have HF3 : Hid (Fr None' w w3) := HF2.out.then7 f3
   clear q2 f3 k1 k2 k3
   go_wp2_with fail
   go_ret
   exact ⟨rfl, HF3.out⟩
  | true =>
   rw [Bool.true_and]
   have HS : Hid ((RT = true ∧ ¬ F = T) ∨ (RT && decide (¬ F = T)) = false) := by
    show _ ∨ _
    by_cases he : F = T <;> cases RT <;> simp [he]
   go_enter Tryz.func110, Tryz.ntmps110
   go_wp2_with fail
   with_reducible refine q1.mono ?_
   rintro e w2 ⟨rfl, f2⟩
   have HF2 : Hid (Fr None' w w2 ∧ Fr None' w1 w2) := ⟨HF.out.then7 f2, f2⟩
   obtain ⟨k1, k2, k3⟩ := HC.out w2 f2
   have q2 := HTF.out w2
   clear q1 f2 a0 a1 a2 a3 a4 a5 a6
   go_wp2_with fail
   with_reducible refine q2.mono ?_
   rintro e w3 ⟨rfl, f3⟩
   have HF3 : Hid (Fr None' w w3 ∧ Fr None' w1 w3) := ⟨HF2.out.1.then7 f3, HF2.out.2.then7 f3⟩
   obtain ⟨j1, j2, j3⟩ := HC.out w3 HF3.out.2
   have q3 := HTT.out w3
   clear q2 f3 k1 k2 k3
   go_wp2_with fail
   with_reducible refine q3.mono ?_
   rintro e w4 ⟨rfl, f4⟩
   have HF4 : Hid (Fr None' w w4) := HF3.out.1.then7 f4
   obtain ⟨l1, l2, l3⟩ := HC.out w4 (HF3.out.2.then7 f4)
   clear q3 f4 j1 j2 j3
   cases RT with
   | false =>
    go_wp2_with fail
    go_ret
    exact ⟨rfl, HF4.out⟩
   | true =>
    by_cases he : F = T
    ·subst he
     go_wp2_with fail
     go_ret
     exact ⟨by first | rfl | exact ret_bool7 (by simp), HF4.out⟩
    ·obtain ⟨t1, t2⟩ := Lines.str_no he
     have HE : Hid (¬ F = T) := he
     clear he
     go_wp2_with fail
     go_ret
     exact ⟨by first | rfl | exact ret_bool7 (by simp [HE.out]), HF4.out⟩
theorem move9_any (x : Pr) (vo vn : Value) (w : World) (ho : Zy w vo x.old) (hn : Zy w vn x.new) (hs : SmallP x) :
  Calls Tryz.prog 114 #[.agg #[.int .i64 x.kind, .string x.path, .string x.dst, .string x.src, .int .i64 x.pos, vo, vn]] w fun e w' => e = .returned (.bool (moveP x)) ∧ Fr None' w w' := by
 have cW : ∀ w', Fr None' w w' → Calls Tryz.prog 135 #[.agg #[.int .i64 x.kind, .string x.path, .string x.dst, .string x.src, .int .i64 x.pos, vo, vn]] w' fun e w'' => e = .returned (.bool (Zc x)) ∧ Fr None' w' w'' := fun w' f => noLines_any x vo vn w' (ho.kept f) (hn.kept f) hs
 obtain ⟨K, P, T, F, A, lO, lN⟩ := x
 obtain ⟨zP, zT, zF, zO, zN⟩ := hs
 simp only at ho hn zP zT zF zO zN cW ⊢
 obtain ⟨pa, ca, rfl, r1⟩ := ho.sl
 obtain ⟨pb, cb, rfl, r2⟩ := hn.sl
 obtain ⟨no, hno⟩ : ∃ n, lO.length = n := ⟨_, rfl⟩
 obtain ⟨nn, hnn⟩ : ∃ n, lN.length = n := ⟨_, rfl⟩
 obtain ⟨w1, hw1⟩ : ∃ w1, w.alloc (.cells #[.int .i64 K, .string P, .string T, .string F, .int .i64 A, .slice pa no ca, .slice pb nn cb] 43) = w1 := ⟨_, rfl⟩
 have F1 : Fr None' w w1 := hw1 ▸ Fr.alloc None' w _
 have B1 : Box w1 w.heap.size (.int .i64 K) (.string P) (.string T) (.string F) (.int .i64 A) (.slice pa no ca) (.slice pb nn cb) := hw1 ▸ Box.new w _ _ _ _ _ _ _
 have HB : Hid (∀ w', Fr None' w1 w' → Box w' w.heap.size (.int .i64 K) (.string P) (.string T) (.string F) (.int .i64 A) (.slice pa no ca) (.slice pb nn cb)) := fun w' f => B1.kept f
 have HF : Hid (Fr None' w w1) := F1
 obtain ⟨a0, a1, a2, a3, a4, a5, a6⟩ := B1.cells
 rw [hno, hnn]
 rw [hno, hnn] at cW
 have HC : Hid (∀ w', Fr None' w1 w' → w'.cell? ⟨w.heap.size, 1, none⟩ = some (.string P) ∧ w'.cell? ⟨w.heap.size, 2, none⟩ = some (.string T) ∧ w'.cell? ⟨w.heap.size, 3, none⟩ = some (.string F)) := fun w' f => ⟨(HB.out w' f).cells.2.1, (HB.out w' f).cells.2.2.1, (HB.out w' f).cells.2.2.2.1⟩
 have HPR : Hid (∀ w', Calls Tryz.prog 64 #[.string T] w' fun e w'' => e = .returned (.bool (Path.right T.data.toList)) ∧ Fr None' w' w'') := fun w' => (Path.right_any T w' (by omega)).mono fun _ _ ⟨h1, h2⟩ => ⟨h1, ofPath h2⟩
 have HPA : Hid (∀ w', Calls Tryz.prog 85 #[.string T, .string P] w' fun e w'' => e = .returned (.bool (Path.apart T.data.toList P.data.toList)) ∧ Fr None' w' w'') := fun w' => (Path.apart_any T P w').mono fun _ _ ⟨h1, h2⟩ => ⟨h1, h2 ▸ Fr.refl _ _⟩
 obtain ⟨R, hRR⟩ : ∃ R, Zc ⟨K, P, T, F, A, lO, lN⟩ = R := ⟨_, rfl⟩
 obtain ⟨R1, hR1⟩ : ∃ R, Path.right T.data.toList = R := ⟨_, rfl⟩
 obtain ⟨R2, hR2⟩ : ∃ R, Path.apart T.data.toList P.data.toList = R := ⟨_, rfl⟩
 rw [hRR] at cW
 rw [hR1] at HPR
 rw [hR2] at HPA
 have q1 := cW w1 F1
 cases R with
 | false =>
  have hR : moveP ⟨K, P, T, F, A, lO, lN⟩ = false := by simp [moveP, hRR]
  rw [hR]
  clear ho hn r1 r2 zP zT zF zO zN F1 B1 cW hno hnn hRR hR1 hR2 hR
  go_enter Tryz.func114, Tryz.ntmps114
  go_wp2_with fail
  with_reducible refine q1.mono ?_
  rintro e w2 ⟨rfl, f2⟩
  have HF2 : Hid (Fr None' w w2) := HF.out.then7 f2
  clear q1 f2
  go_wp2_with fail
  go_ret
  exact ⟨rfl, HF2.out⟩
 | true =>
  by_cases hF : F.data.toList = []
  ·have hR : moveP ⟨K, P, T, F, A, lO, lN⟩ = (R1 && R2) := by simp [moveP, hRR, hF, hR1, hR2]
   rw [hR]
   obtain ⟨t1, t2⟩ := Lines.asks_yes hF
   clear ho hn r1 r2 zP zT zF zO zN F1 B1 cW hno hnn hRR hR1 hR2 hR hF
   go_enter Tryz.func114, Tryz.ntmps114
   go_wp2_with fail
   with_reducible refine q1.mono ?_
   rintro e w2 ⟨rfl, f2⟩
   have HF2 : Hid (Fr None' w w2 ∧ Fr None' w1 w2) := ⟨HF.out.then7 f2, f2⟩
   obtain ⟨k1, k2, k3⟩ := HC.out w2 f2
   have q2 := HPR.out w2
   clear q1 f2 a0 a1 a2 a3 a4 a5 a6
   go_wp2_with fail
   with_reducible refine q2.mono ?_
   rintro e w3 ⟨rfl, f3⟩
   have HF3 : Hid (Fr None' w w3 ∧ Fr None' w1 w3) := ⟨HF2.out.1.then7 f3, HF2.out.2.then7 f3⟩
   obtain ⟨j1, j2, j3⟩ := HC.out w3 HF3.out.2
   have q3 := HPA.out w3
   clear q2 f3 k1 k2 k3 t1 t2
   cases R1 with
   | false =>
    go_wp2_with fail
    go_ret
    exact ⟨rfl, HF3.out.1⟩
   | true =>
    go_wp2_with fail
    with_reducible refine q3.mono ?_
    rintro e w4 ⟨rfl, f4⟩
    have HF4 : Hid (Fr None' w w4) := HF3.out.1.then7 f4
    clear q3 f4 j1 j2 j3
    cases R2 <;> (go_wp2_with fail; go_ret; exact ⟨rfl, HF4.out⟩)
  ·have hR : moveP ⟨K, P, T, F, A, lO, lN⟩ = false := by simp [moveP, hRR, hF]
   rw [hR]
   obtain ⟨t1, t2⟩ := Lines.asks_no hF
   clear ho hn r1 r2 zP zT zF zO zN F1 B1 cW hno hnn hRR hR1 hR2 hR hF
   go_enter Tryz.func114, Tryz.ntmps114
   go_wp2_with fail
   with_reducible refine q1.mono ?_
   rintro e w2 ⟨rfl, f2⟩
   have HF2 : Hid (Fr None' w w2) := HF.out.then7 f2
   obtain ⟨k1, k2, k3⟩ := HC.out w2 f2
   clear q1 f2 a0 a1 a2 a3 a4 a5 a6
   go_wp2_with fail
   go_ret
   exact ⟨rfl, HF2.out⟩
theorem lines9_any (x : Pr) (vo vn : Value) (w : World) (ho : Zy w vo x.old) (hn : Zy w vn x.new) (hs : SmallP x) :
  Calls Tryz.prog 107 #[.agg #[.int .i64 x.kind, .string x.path, .string x.dst, .string x.src, .int .i64 x.pos, vo, vn]] w fun e w' => e = .returned (.bool (linesP x)) ∧ Fr None' w w' := by
 obtain ⟨K, P, T, F, A, lO, lN⟩ := x
 obtain ⟨zP, zT, zF, zO, zN⟩ := hs
 simp only at ho hn zP zT zF zO zN ⊢
 obtain ⟨pa, ca, rfl, r1⟩ := ho.sl
 obtain ⟨pb, cb, rfl, r2⟩ := hn.sl
 obtain ⟨no, hno⟩ : ∃ n, lO.length = n := ⟨_, rfl⟩
 obtain ⟨nn, hnn⟩ : ∃ n, lN.length = n := ⟨_, rfl⟩
 obtain ⟨w1, hw1⟩ : ∃ w1, w.alloc (.cells #[.int .i64 K, .string P, .string T, .string F, .int .i64 A, .slice pa no ca, .slice pb nn cb] 43) = w1 := ⟨_, rfl⟩
 have F1 : Fr None' w w1 := hw1 ▸ Fr.alloc None' w _
 have B1 : Box w1 w.heap.size (.int .i64 K) (.string P) (.string T) (.string F) (.int .i64 A) (.slice pa no ca) (.slice pb nn cb) := hw1 ▸ Box.new w _ _ _ _ _ _ _
 have HB : Hid (∀ w', Fr None' w1 w' → Box w' w.heap.size (.int .i64 K) (.string P) (.string T) (.string F) (.int .i64 A) (.slice pa no ca) (.slice pb nn cb)) := fun w' f => B1.kept f
 have HF : Hid (Fr None' w w1) := F1
 obtain ⟨a0, a1, a2, a3, a4, a5, a6⟩ := B1.cells
 rw [hno, hnn]
 have HRO : Hid (∀ w', Fr None' w1 w' → Calls Tryz.prog 93 #[.slice pa no ca] w' fun e w'' => e = .returned (.bool (Lines.right (Lines.bs lO))) ∧ w' = w'') := fun w' f => by
  have h := Lines.right_any pa ca lO w' (r1.fr (toLN (F1.then7 f))) (by omega)
  rw [hno] at h
  exact h
 have HRN : Hid (∀ w', Fr None' w1 w' → Calls Tryz.prog 93 #[.slice pb nn cb] w' fun e w'' => e = .returned (.bool (Lines.right (Lines.bs lN))) ∧ w' = w'') := fun w' f => by
  have h := Lines.right_any pb cb lN w' (r2.fr (toLN (F1.then7 f))) (by omega)
  rw [hnn] at h
  exact h
 have i1 : (no : Int) < 900000 := by omega
 have i2 : (nn : Int) < 900000 := by omega
 by_cases hT : T.data.toList = []
 ·by_cases hF : F.data.toList = []
  ·by_cases hA : 0 ≤ A
   ·by_cases hM : A ≤ 1073741824
    ·obtain ⟨RO, hRO⟩ : ∃ R, Lines.right (Lines.bs lO) = R := ⟨_, rfl⟩
     obtain ⟨RN, hRN⟩ : ∃ R, Lines.right (Lines.bs lN) = R := ⟨_, rfl⟩
     rw [hRO] at HRO
     rw [hRN] at HRN
     have hR : linesP ⟨K, P, T, F, A, lO, lN⟩ = (RO && RN && decide (0 < no + nn)) := by simp [linesP, hT, hF, hA, hM, hRO, hRN, hno, hnn]
     rw [hR]
     obtain ⟨t1, t2⟩ := Lines.asks_yes hT
     obtain ⟨t3, t4⟩ := Lines.asks_yes hF
     have u1 : IntKind.i64.wrap ((no : Int) + (nn : Int)) = (no : Int) + (nn : Int) := by rw [IntKind.wrap_i64]; omega
     have q1 := HRO.out w1 (Fr.refl _ _)
     have q2 := HRN.out w1 (Fr.refl _ _)
     clear ho hn r1 r2 zP zT zF zO zN F1 B1 hno hnn hR hT hF hRO hRN HRO HRN
     go_enter Tryz.func107, Tryz.ntmps107
     go_wp2_with fail
     with_reducible refine q1.mono ?_
     rintro e w2 ⟨rfl, h2⟩
     subst h2
     clear q1
     cases RO with
     | false =>
      go_wp2_with fail
      go_ret
      exact ⟨rfl, HF.out⟩
     | true =>
      go_wp2_with fail
      with_reducible refine q2.mono ?_
      rintro e w2 ⟨rfl, h2⟩
      subst h2
      clear q2
      cases RN with
      | false =>
       go_wp2_with fail
       go_ret
       exact ⟨rfl, HF.out⟩
      | true =>
       go_wp2_with fail
       go_ret
       exact ⟨by first | rfl | exact ret_bool7 (by simp; omega), HF.out⟩
    ·have hR : linesP ⟨K, P, T, F, A, lO, lN⟩ = false := by simp [linesP, hM]
     rw [hR]
     obtain ⟨t1, t2⟩ := Lines.asks_yes hT
     obtain ⟨t3, t4⟩ := Lines.asks_yes hF
     clear ho hn r1 r2 zP zT zF zO zN F1 B1 hno hnn hR hT hF HRO HRN
     go_enter Tryz.func107, Tryz.ntmps107
     go_wp2_with fail
     go_ret
     exact ⟨by first | rfl | exact ret_bool7 (by simp; omega), HF.out⟩
   ·have hR : linesP ⟨K, P, T, F, A, lO, lN⟩ = false := by simp [linesP, hA]
    rw [hR]
    obtain ⟨t1, t2⟩ := Lines.asks_yes hT
    obtain ⟨t3, t4⟩ := Lines.asks_yes hF
    clear ho hn r1 r2 zP zT zF zO zN F1 B1 hno hnn hR hT hF HRO HRN
    go_enter Tryz.func107, Tryz.ntmps107
    go_wp2_with fail
    go_ret
    exact ⟨by first | rfl | exact ret_bool7 (by simp; omega), HF.out⟩
  ·have hR : linesP ⟨K, P, T, F, A, lO, lN⟩ = false := by simp [linesP, hF]
   rw [hR]
   obtain ⟨t1, t2⟩ := Lines.asks_yes hT
   obtain ⟨t3, t4⟩ := Lines.asks_no hF
   clear ho hn r1 r2 zP zT zF zO zN F1 B1 hno hnn hR hT hF HRO HRN
   go_enter Tryz.func107, Tryz.ntmps107
   go_wp2_with fail
   go_ret
   exact ⟨by first | rfl | exact ret_bool7 (by simp; omega), HF.out⟩
 ·have hR : linesP ⟨K, P, T, F, A, lO, lN⟩ = false := by simp [linesP, hT]
  rw [hR]
  obtain ⟨t1, t2⟩ := Lines.asks_no hT
  clear ho hn r1 r2 zP zT zF zO zN F1 B1 hno hnn hR hT HRO HRN
  go_enter Tryz.func107, Tryz.ntmps107
  go_wp2_with fail
  go_ret
  exact ⟨by first | rfl | exact ret_bool7 (by simp; omega), HF.out⟩
theorem parts_sum : ∀ p : List UInt8, ((Path.parts p).map (fun l => l.length + 1)).sum = p.length + 1
 | [] => rfl
 | c :: p => by
  have ih := parts_sum p
  by_cases hc : c = 47
  ·subst hc
   rw [Path.parts_slash]
   simp only [List.map_cons, List.sum_cons, List.length_nil, List.length_cons] at ih ⊢
   omega
  ·obtain ⟨h, t, e⟩ := Path.parts_cons (p := p)
   rw [Path.parts_other hc e]
   rw [e] at ih
   simp only [List.map_cons, List.sum_cons, List.length_cons] at ih ⊢
   omega
theorem sum_le {l : List (List UInt8)} (h : ∀ x ∈ l, x.length ≤ 16) : (l.map (fun x => x.length + 1)).sum ≤ l.length * 17 := by
 induction l with
 | nil => simp
 | cons x l ih =>
  have h1 := h x (List.mem_cons_self)
  have h2 := ih (fun y hy => h y (List.mem_cons_of_mem _ hy))
  simp only [List.map_cons, List.sum_cons, List.length_cons]
  omega
theorem right_len {p : List UInt8} (h : Path.right p = true) : p.length ≤ 135 := by
 obtain ⟨h1, h2⟩ := (Path.right_iff p).1 h
 have h3 := parts_sum p
 have h4 := sum_le (l := Path.parts p) (fun x hx => by
  have := h2 x hx
  unfold Path.goodPart at this
  simp only [Bool.and_eq_true, decide_eq_true_eq] at this
  omega)
 have h5 := (show (p.length + 1) ≤ (Path.parts p).length * 17 from h3 ▸ h4)
 omega
end Go.Proofs.YtbnfjjjdnbcehaaGreatDoor
