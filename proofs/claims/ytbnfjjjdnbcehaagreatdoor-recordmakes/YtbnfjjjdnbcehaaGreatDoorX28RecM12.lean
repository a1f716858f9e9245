/- What is proved here: contracts for RecordMakes. Conditions: as named. -/
import Derived.Test.YtbnfjjjdnbcehaaGreatDoorX27Of8
import Derived.Test.YtbnfjjjdnbcehaaGreatDoorX26RFindE
import Derived.Test.YtbnfjjjdnbcehaaGreatDoorX9Plain8
set_option maxHeartbeats 16000000
namespace Go.Proofs.YtbnfjjjdnbcehaaGreatDoor
open Go.RowKit Go.Maps Go.WideMaps
set_option maxRecDepth 100000
theorem Zo {w : World} {b : Nat} {x0 x1 x2 x3 : Value} {e : TypeId} (h : w.heap[b]? = some (.cells #[x0, x1, x2, x3] e)) : w.cell? ⟨b, 0, none⟩ = some x0 ∧ w.cell? ⟨b, 1, none⟩ = some x1 ∧ w.cell? ⟨b, 2, none⟩ = some x2 ∧ w.cell? ⟨b, 3, none⟩ = some x3 ∧ ∀ o, w.frozen? ⟨b, o, none⟩ = false := by
 refine ⟨?_, ?_, ?_, ?_, fun o => ?_⟩
 ·simp [World.cell?, h]
 ·simp [World.cell?, h]
 ·simp [World.cell?, h]
 ·simp [World.cell?, h]
 ·simp [World.frozen?, h]
theorem Yt.lookK {w : World} {b n : Nat} {T : List Th} (h : Yt w b n T) (s : ByteArray) (hs : s.size ≤ maxLen) : (Instr.lookup 61 (.map (some b)) (.string s) true).run Tryz.prog w = .ok (.tuple #[((get8 T (bl s)).getD zeroTh).v, .bool (get8 T (bl s)).isSome]) w := by
 obtain ⟨v, ps, hrun, hv⟩ := h.map.look_ok lawS Tryz.underlying61 (zeroEn _) (zd := .held zeroTh.v) (zp := []) (heldE_th zeroTh) (keyS s hs)
 rw [hrun, has_toT]
 rw [atKey_toT] at hv
 have e := heldE_eq hv
 cases hg : get8 T (bl s) with
 | none => rw [hg] at e; injection e with e; rw [← e]; rfl
 | some t => rw [hg] at e; injection e with e; rw [← e]; rfl
theorem of12_any (va : Option Addr) (n c : Nat) (L : List En) (w0 w : World) (hl : L.length = n) (h : Z0 w0 va L) (f0 : Fr None' w0 w) (hn : n ≤ 90000) (hs : SmallE L) :
  Calls Tryz.prog 38 #[.slice va n c] w fun e w' => ∃ b T, e = .returned (.map (some b)) ∧ Yt w' b n T ∧ ens T = putsE L ∧ (∀ t ∈ T, Zy w0 t.sl t.x.lines) ∧ Fr None' w w' ∧ w.heap.size ≤ b := by
 have HF0 := Zz f0
 have HL := Zz hl
 have HE := Zz h
 have HS := Zz hs
 have hmm := @run_makeMap Tryz.prog
 have i1 : (n : Int) ≤ 90000 := by omega
 have G0 := Zz (Yt.start w)
 clear hl h hs f0
 go_enter Tryz.func38, Tryz.ntmps38
 go_wp2_with fail
 clear hmm
 go_loopw [9] (fun vi wr => ∃ (k : Nat) (T : List Th), k ≤ n ∧ vi = .int .i64 k ∧ Hid (Yt wr w.heap.size k T) ∧ Hid (ens T = putsE (L.take k)) ∧ Hid (∀ t ∈ T, Zy w0 t.sl t.x.lines) ∧ Hid (Fr None' w wr)) (fun vi _ => n - (intOf vi).toNat)
 case atStart => exact ⟨0, [], Nat.zero_le _, rfl, G0.out, rfl, (fun t ht => by cases ht), Fr.alloc None' w _⟩
 case round =>
  clear G0
  obtain ⟨k, T, hk, rfl, HT, HP, HW, HF⟩ := hrel
  by_cases hlt : k < n
  ·have hkL : k < L.length := by rw [HL.out]; exact hlt
   obtain ⟨g, o, rfl, vl, d0, d1, d2, d3, hs1⟩ := HE.out.get hkL
   obtain ⟨z1, z2, z3, z4⟩ := HS.out _ (List.getElem_mem hkL)
   have HPS := Zz (putsE_step hkL)
   generalize L[k] = x at d0 d1 d3 hs1 z1 z3 HPS
   obtain ⟨P, K, l, Da⟩ := x
   simp only at d0 d1 d3 hs1 z1 z3
   have FK := HF0.out.then7 HF.out
   replace d0 := FK.keepCell d0 (fun e => e)
   replace d1 := FK.keepCell d1 (fun e => e)
   replace d2 := FK.keepCell d2 (fun e => e)
   replace d3 := FK.keepCell d3 (fun e => e)
   have S0 := Zz hs1
   obtain ⟨pl, cl, rfl, hq⟩ := hs1
   clear hq
   have i2 : (k : Int) < (n : Int) := by omega
   have i3 : (0 : Int) ≤ (k : Int) := by omega
   obtain ⟨w1, hw1⟩ : ∃ w1, wr.alloc (.cells #[.string P, .int .i64 K, .slice pl l.length cl, .string Da] 45) = w1 := ⟨_, rfl⟩
   have F1 : Fr None' wr w1 := hw1 ▸ Fr.alloc None' wr _
   have B1 : w1.heap[wr.heap.size]? = some (.cells #[.string P, .int .i64 K, .slice pl l.length cl, .string Da] 45 (0, 0)) := by rw [← hw1]; exact heap_alloc_new wr _
   obtain ⟨b0, b1, b2, b3, bz⟩ := Zo B1
   have HT3 := Zz (HT.out.kept F1)
   have HM3 := Zz (HT.out.kept F1).map
   have HS0 := Zz S0.out
   have HS3 := Zz ((S0.out.kept FK).kept F1)
   have HF3 := Zz (HF.out.then7 F1)
   have hkS := keyS P (by unfold maxLen; omega)
   generalize hln : l.length = nl at *
   have i9 : (k : Int) ≤ 90000 := by omega
   clear B1 F1 HT S0 bz FK
   go_wp2_with (first
    | (at_mapUpdate; refine wpList_mapUpdate_in _ rfl _ _ _ 61 rfl 9 45 lawS Tryz.underlying61 heldE w.heap.size k _ rfl HM3.out (by unfold maxLen; omega) _ _ _ rfl rfl hkS _ [] (heldE_th ⟨⟨P, K, l, Da⟩, pl, nl, cl⟩) ?_; intro w5 hown5 hturn5)
    | go_in)
   have HG := HT3.out.put (t := ⟨⟨P, K, l, Da⟩, pl, nl, cl⟩) HS3.out hown5 hturn5
   refine ⟨⟨k + 1, _, by omega, by go_num, HG, ?_, fun t ht => ?_, ?_⟩, by simp [intOf]; omega⟩
   ·show ens _ = _
    rw [ens_put, HP.out, HPS.out]
   ·rcases mem_put8.1 ht with rfl | ⟨hm, _⟩
    ·exact HS0.out
    ·exact HW.out t hm
   ·exact HF3.out.trans (Fr.turned (M := fun x => x = w.heap.size) hturn5 rfl) (fun i e => Or.inr (by have e : i = w.heap.size := e; omega))
  ·have e : k = n := by omega
   subst e
   have HP2 := Zz (show ens T = putsE L from by
    have h := HP.out
    rw [List.take_of_length_le (by rw [HL.out]; exact Nat.le_refl _)] at h
    exact h)
   go_wp2_with fail
   go_ret
   exact ⟨_, T, rfl, HT.out, HP2.out, HW.out, HF.out, Nat.le_refl _⟩
theorem puts_self12 {L : List En} (h : Zp L) : putsE L = L := by
 have key : ∀ k, k ≤ L.length → putsE (L.take k) = L.take k := fun k => by
  induction k with
  | zero => intro _; rfl
  | succ k ih =>
   intro hk
   have hkL : k < L.length := by omega
   rw [putsE_step hkL, ih (by omega)]
   have h2 : Zp (L.take k ++ [L[k]]) := by
    rw [← List.take_succ_eq_append_getElem hkL]
    exact h.sublist (List.take_sublist _ _)
   have h3 := List.pairwise_append.1 h2
   have := put_new (pre := L.take k) (suf := []) (y := L[k]) (fun z hz => h3.2.2 z hz _ (List.mem_cons_self ..)) (fun z hz => by cases hz) (by rw [List.append_nil]; exact h3.1)
   rw [List.append_nil] at this
   rw [this, List.take_succ_eq_append_getElem hkL]
 have := key L.length (Nat.le_refl _)
 rwa [List.take_length] at this
theorem Yt.move {M : Nat → Prop} {w0 w W : World} {b n : Nat} {T : List Th} (h : Yt w b n T) (hs : ∀ t ∈ T, Zy w0 t.sl t.x.lines) (f0 : Fr None' w0 W) (f : Fr M w W) (hb : ¬ M b) : Yt W b n T :=
 ⟨f.map h.map hb, fun t ht => (hs t ht).kept f0⟩
def LikePost (T : List En) (x : En) (w : World) (e : Ending) (w' : World) : Prop := Fr None' w w' ∧ match likeE T x with
 | some y => ∃ vl, e = .returned (.tuple #[.agg #[.string y.path, .int .i64 y.kind, vl, .string y.data], .bool true]) ∧ Zy w' vl y.lines
 | none => e = .returned (.tuple #[.agg #[.string ⟨#[]⟩, .int .i64 0, .slice none 0 0, .string ⟨#[]⟩], .bool false])
theorem sets4 {b : Nat} (w : World) (y0 y1 y2 y3 : Value) : Fr (fun k => k = b) w ((((w.setCell ⟨b, 0, none⟩ y0).setCell ⟨b, 1, none⟩ y1).setCell ⟨b, 2, none⟩ y2).setCell ⟨b, 3, none⟩ y3) :=
 (((Fr.setCell (M := fun k => k = b) _ (a := ⟨b, _, none⟩) rfl _).trans (Fr.setCell (M := fun k => k = b) _ (a := ⟨b, _, none⟩) rfl _) (fun _ e => Or.inl e)).trans (Fr.setCell (M := fun k => k = b) _ (a := ⟨b, _, none⟩) rfl _) (fun _ e => Or.inl e)).trans (Fr.setCell (M := fun k => k = b) _ (a := ⟨b, _, none⟩) rfl _) (fun _ e => Or.inl e)
theorem like12_any (b n : Nat) (T : List Th) (x : En) (pv : Option Addr) (nv cv : Nat) (w : World) (h : Yt w b n T) (hs : x.path.size ≤ 1000000) :
  Calls Tryz.prog 40 #[.map (some b), .agg #[.string x.path, .int .i64 x.kind, .slice pv nv cv, .string x.data]] w (LikePost (ens T) x w) := by
 have hl := h.lookK x.path (by unfold maxLen; omega)
 have HE := Zz (show likeE (ens T) x = match get8 T (bl x.path) with | none => none | some t => if t.x.kind = x.kind then some t.x else none from by
  unfold likeE
  rw [← ens_get]
  cases get8 T (bl x.path) <;> rfl)
 have HS := Zz (fun t (ht : t ∈ T) => h.str t ht)
 obtain ⟨R, hR⟩ : ∃ R, likeE (ens T) x = R := ⟨_, rfl⟩
 have HR := Zz hR
 obtain ⟨w1, hw1⟩ : ∃ w1, (w.alloc (.cells #[.string x.path, .int .i64 x.kind, .slice pv nv cv, .string x.data] 45)).alloc (.cells #[.string ⟨#[]⟩, .int .i64 0, .slice none 0 0, .string ⟨#[]⟩] 45) = w1 := ⟨_, rfl⟩
 have F1 : Fr None' w w1 := hw1 ▸ (Fr.alloc None' w _).then7 (Fr.alloc None' _ _)
 have hB : w1.heap[w.heap.size + 1]? = some (.cells #[.string ⟨#[]⟩, .int .i64 0, .slice none 0 0, .string ⟨#[]⟩] 45) := by
  rw [← hw1]
  have h2 := heap_alloc_new (w.alloc (.cells #[.string x.path, .int .i64 x.kind, .slice pv nv cv, .string x.data] 45)) (.cells #[.string ⟨#[]⟩, .int .i64 0, .slice none 0 0, .string ⟨#[]⟩] 45)
  simpa using h2
 have hB0 : w1.heap[w.heap.size]? = some (.cells #[.string x.path, .int .i64 x.kind, .slice pv nv cv, .string x.data] 45) := by
  rw [← hw1]
  exact (Fr.alloc None' _ _).at (heap_alloc_new w _) (fun e => e)
 obtain ⟨a0, a1, a2, a3, az⟩ := Zo hB0
 obtain ⟨b0, b1, b2, b3, bz⟩ := Zo hB
 have hB2 : ∀ o, (w1.alloc o).heap[w.heap.size + 1]? = some (.cells #[.string ⟨#[]⟩, .int .i64 0, .slice none 0 0, .string ⟨#[]⟩] 45) := fun o => (Fr.alloc None' w1 o).at hB (fun e => e)
 have d0 := fun o => (Zo (hB2 o)).1
 have d1 := fun o => (Zo (hB2 o)).2.1
 have d2 := fun o => (Zo (hB2 o)).2.2.1
 have d3 := fun o => (Zo (hB2 o)).2.2.2.1
 have dz := fun o => (Zo (hB2 o)).2.2.2.2
 have e1 : ∀ o, (w1.alloc o).cell? ⟨w.heap.size, 1, none⟩ = some (.int .i64 x.kind) := fun o => (Fr.alloc None' w1 o).keepCell a1 (fun e => e)
 have HB2 := Zz hB2
 have hl1 := (h.kept F1).lookK x.path (by unfold maxLen; omega)
 have hsz : w1.heap.size = w.heap.size + 2 := by rw [← hw1]; simp
 have HB := Zz hB
 have HF1 := Zz F1
 have HZ := Zz hsz
 clear hl h hs hB hB0 hB2 hsz F1 b0 b1 b2 b3 bz
 unfold LikePost
 rw [hR]
 cases hg : get8 T (bl x.path) with
 | none =>
  have e : R = none := by
   rw [← HR.out, HE.out, hg]
  subst e
  rw [hg] at hl1
  simp only [Option.getD_none, Option.isSome_none, zeroTh, th_shape] at hl1
  clear hg hR
  go_enter Tryz.func40, Tryz.ntmps40
  go_wp2_with fail
  have hld := loadE (store4 (y0 := .string ⟨#[]⟩) (y1 := .int .i64 0) (y2 := .slice none 0 0) (y3 := .string ⟨#[]⟩) (HB2.out (.cells #[.string ⟨#[]⟩, .int .i64 0, .slice none 0 0, .string ⟨#[]⟩] 45)))
  refine bodyPost_ret (v := .tuple #[.agg #[.string ⟨#[]⟩, .int .i64 0, .slice none 0 0, .string ⟨#[]⟩], .bool false]) (by rw [results_cell_tmp rfl]; simp [asAddr, Result.andThen, hld]) rfl ?_
  exact ⟨(HF1.out.then7 (Fr.alloc None' w1 _)).trans (sets4 _ _ _ _ _) (fun i e => Or.inr (by have e' : i = w.heap.size + 1 := e; omega)), rfl⟩
 | some t =>
  have HT := HS.out t (get8_mem hg).1
  rw [hg] at hl1
  simp only [Option.getD_some, Option.isSome_some, th_shape] at hl1
  have HE2 := Zz (show R = if t.x.kind = x.kind then some t.x else none from by rw [← HR.out, HE.out, hg])
  obtain ⟨⟨P, K, l, D⟩, a, m, c⟩ := t
  simp only at hl1 HT HE2
  have HTT := Zz HT
  clear hg hR HE HR HS
  by_cases hk : K = x.kind
  ·have hR : R = some ⟨P, K, l, D⟩ := by rw [HE2.out, if_pos hk]
   subst hR hk
   go_enter Tryz.func40, Tryz.ntmps40
   go_wp2_with fail
   have hld := loadE (store4 (y0 := .string P) (y1 := .int .i64 x.kind) (y2 := .slice a m c) (y3 := .string D) (HB2.out (.cells #[.string P, .int .i64 x.kind, .slice a m c, .string D] 45)))
   refine bodyPost_ret (v := .tuple #[.agg #[.string P, .int .i64 x.kind, .slice a m c, .string D], .bool true]) (by rw [results_cell_tmp rfl]; simp [asAddr, Result.andThen, hld]) rfl ?_
   have FA := HF1.out.then7 (Fr.alloc None' w1 (.cells #[.string P, .int .i64 x.kind, .slice a m c, .string D] 45))
   exact ⟨FA.trans (sets4 _ _ _ _ _) (fun i e => Or.inr (by have e' : i = w.heap.size + 1 := e; omega)), _, rfl, (HTT.out.kept FA).far (sets4 _ _ _ _ _) (fun hl k e e2 => by have := HTT.out.lt hl e; have e' : k = w.heap.size + 1 := e2; omega)⟩
  ·have hR : R = none := by rw [HE2.out, if_neg hk]
   subst hR
   have hk1 : (K != x.kind) = true := by simpa using hk
   go_enter Tryz.func40, Tryz.ntmps40
   go_wp2_with fail
   have hld := loadE (store4 (y0 := .string ⟨#[]⟩) (y1 := .int .i64 0) (y2 := .slice none 0 0) (y3 := .string ⟨#[]⟩) (HB2.out (.cells #[.string P, .int .i64 K, .slice a m c, .string D] 45)))
   refine bodyPost_ret (v := .tuple #[.agg #[.string ⟨#[]⟩, .int .i64 0, .slice none 0 0, .string ⟨#[]⟩], .bool false]) (by rw [results_cell_tmp rfl]; simp [asAddr, Result.andThen, hld]) rfl ?_
   exact ⟨(HF1.out.then7 (Fr.alloc None' w1 _)).trans (sets4 _ _ _ _ _) (fun i e => Or.inr (by have e' : i = w.heap.size + 1 := e; omega)), rfl⟩
end Go.Proofs.YtbnfjjjdnbcehaaGreatDoor
namespace Go.Proofs.YtbnfjjjdnbcehaaGreatDoor
open Go.RowKit
set_option maxRecDepth 100000
def WithPost (r : Option En) (w : World) (e : Ending) (w' : World) : Prop := ∃ (P : ByteArray) (K : Int) (ua : Option Addr) (um uc : Nat) (D : ByteArray) (b : Bool), e = .returned (.tuple #[.agg #[.string P, .int .i64 K, .slice ua um uc, .string D], .bool b]) ∧ Hid (b = r.isSome) ∧ Hid (∀ y, r = some y → P = y.path ∧ K = y.kind ∧ D = y.data ∧ Zy w' (.slice ua um uc) y.lines) ∧ Fr None' w w'
def Yu (w : World) (g : Nat) (y0 y1 y2 y3 : Value) : Prop := w.heap[g]? = some (.cells #[y0, y1, y2, y3] 45 (0, 0))
theorem Yu.new (w : World) (y0 y1 y2 y3 : Value) : Yu (w.alloc (.cells #[y0, y1, y2, y3] 45)) w.heap.size y0 y1 y2 y3 := heap_alloc_new w _
theorem Yu.fr {M : Nat → Prop} {w w' : World} {g : Nat} {y0 y1 y2 y3 : Value} (h : Yu w g y0 y1 y2 y3) (f : Fr M w w') (hm : ¬ M g) : Yu w' g y0 y1 y2 y3 := f.at h hm
theorem Yu.kept {w w' : World} {g : Nat} {y0 y1 y2 y3 : Value} (h : Yu w g y0 y1 y2 y3) (f : Fr None' w w') : Yu w' g y0 y1 y2 y3 := h.fr f (fun e => e)
theorem Yu.cells {w : World} {g : Nat} {y0 y1 y2 y3 : Value} (h : Yu w g y0 y1 y2 y3) : w.cell? ⟨g, 0, none⟩ = some y0 ∧ w.cell? ⟨g, 1, none⟩ = some y1 ∧ w.cell? ⟨g, 2, none⟩ = some y2 ∧ w.cell? ⟨g, 3, none⟩ = some y3 := by
 have h : w.heap[g]? = some (.cells #[y0, y1, y2, y3] 45 (0, 0)) := h
 refine ⟨?_, ?_, ?_, ?_⟩ <;> (rw [World.cell?, h]; rfl)
theorem Yu.frozen {w : World} {g : Nat} {y0 y1 y2 y3 : Value} (h : Yu w g y0 y1 y2 y3) (o : Nat) : w.frozen? ⟨g, o, none⟩ = false := by
 have h : w.heap[g]? = some (.cells #[y0, y1, y2, y3] 45 (0, 0)) := h
 unfold World.frozen?
 rw [h]
 simp
theorem Yu.lt {w : World} {g : Nat} {y0 y1 y2 y3 : Value} (h : Yu w g y0 y1 y2 y3) : g < w.heap.size := lt_of_some h
theorem Yu.set0 {w : World} {g : Nat} {y0 y1 y2 y3 : Value} (h : Yu w g y0 y1 y2 y3) (z : Value) : Yu (w.setCell ⟨g, 0, none⟩ z) g z y1 y2 y3 := by
 simpa [Yu] using Go.heap_setCell_same w g 0 _ _ z h
theorem Yu.set2 {w : World} {g : Nat} {y0 y1 y2 y3 : Value} (h : Yu w g y0 y1 y2 y3) (z : Value) : Yu (w.setCell ⟨g, 2, none⟩ z) g y0 y1 z y3 := by
 simpa [Yu] using Go.heap_setCell_same w g 2 _ _ z h
theorem Yu.set3 {w : World} {g : Nat} {y0 y1 y2 y3 : Value} (h : Yu w g y0 y1 y2 y3) (z : Value) : Yu (w.setCell ⟨g, 3, none⟩ z) g y0 y1 y2 z := by
 simpa [Yu] using Go.heap_setCell_same w g 3 _ _ z h
theorem fin_entry {w W : World} {g : Nat} {x0 x1 x2 x3 : Value} (f : Fr None' w W) (hz : Yu W g x0 x1 x2 x3) (hg : w.heap.size ≤ g) (y0 y1 y2 y3 : Value) :
  (loadVar 45 ⟨g, 0, none⟩).run Tryz.prog ((((W.setCell ⟨g, 0, none⟩ y0).setCell ⟨g, 1, none⟩ y1).setCell ⟨g, 2, none⟩ y2).setCell ⟨g, 3, none⟩ y3) = .ok (.agg #[y0, y1, y2, y3]) ((((W.setCell ⟨g, 0, none⟩ y0).setCell ⟨g, 1, none⟩ y1).setCell ⟨g, 2, none⟩ y2).setCell ⟨g, 3, none⟩ y3) ∧ Fr (fun k => k = g) W ((((W.setCell ⟨g, 0, none⟩ y0).setCell ⟨g, 1, none⟩ y1).setCell ⟨g, 2, none⟩ y2).setCell ⟨g, 3, none⟩ y3) ∧ Fr None' w ((((W.setCell ⟨g, 0, none⟩ y0).setCell ⟨g, 1, none⟩ y1).setCell ⟨g, 2, none⟩ y2).setCell ⟨g, 3, none⟩ y3) := by
 have fs : Fr (fun k => k = g) W ((((W.setCell ⟨g, 0, none⟩ y0).setCell ⟨g, 1, none⟩ y1).setCell ⟨g, 2, none⟩ y2).setCell ⟨g, 3, none⟩ y3) :=
  ((((Fr.setCell (M := fun k => k = g) (a := ⟨g, 0, none⟩) _ rfl _).then (Fr.setCell (M := fun k => k = g) (a := ⟨g, 1, none⟩) _ rfl _)).then (Fr.setCell (M := fun k => k = g) (a := ⟨g, 2, none⟩) _ rfl _)).then (Fr.setCell (M := fun k => k = g) (a := ⟨g, 3, none⟩) _ rfl _))
 exact ⟨loadE (store4 hz), fs, f.trans fs (fun i e => Or.inr (by have e : i = g := e; omega))⟩
theorem withBytes_any (x : En) (p : Pr) (ua : Option Addr) (um uc : Nat) (vo vn : Value) (w : World) (hx : Zy w (.slice ua um uc) x.lines) (ho : Zy w vo p.old) (hn : Zy w vn p.new) (hk : p.kind = 9) :
  Calls Tryz.prog 113 #[.agg #[.string x.path, .int .i64 x.kind, .slice ua um uc, .string x.data], .agg #[.int .i64 p.kind, .string p.path, .string p.dst, .string p.src, .int .i64 p.pos, vo, vn]] w fun e w' => WithPost (Zb x p) w e w' := by
 have HX := Zz hx
 have HW := Zz (show Zb x p = if x.data = p.src then some { x with data := p.dst } else none from by unfold Zb; rw [if_neg (by omega), if_neg (by omega)])
 rw [HW.out]
 clear HW hk
 obtain ⟨P, K, l, D⟩ := x
 obtain ⟨K2, P2, T2, F2, A2, lO, lN⟩ := p
 simp only at hx ho hn HX ⊢
 obtain ⟨pa, ca, rfl, _⟩ := ho
 obtain ⟨pb, cb, rfl, _⟩ := hn
 generalize lO.length = no
 generalize lN.length = nn
 obtain ⟨w1, hw1⟩ : ∃ w1, w.alloc (.cells #[.string P, .int .i64 K, .slice ua um uc, .string D] 45) = w1 := ⟨_, rfl⟩
 obtain ⟨w2, hw2⟩ : ∃ w2, w1.alloc (.cells #[.int .i64 K2, .string P2, .string T2, .string F2, .int .i64 A2, .slice pa no ca, .slice pb nn cb] 43) = w2 := ⟨_, rfl⟩
 obtain ⟨w3, hw3⟩ : ∃ w3, w2.alloc (.cells #[.string ⟨#[]⟩, .int .i64 0, .slice none 0 0, .string ⟨#[]⟩] 45) = w3 := ⟨_, rfl⟩
 have F1 : Fr None' w w1 := hw1 ▸ Fr.alloc None' w _
 have F2' : Fr None' w1 w2 := hw2 ▸ Fr.alloc None' w1 _
 have F3 : Fr None' w2 w3 := hw3 ▸ Fr.alloc None' w2 _
 have s1 : w1.heap.size = w.heap.size + 1 := by rw [← hw1]; simp
 have s2 : w2.heap.size = w1.heap.size + 1 := by rw [← hw2]; simp
 have BX : Yu w3 w.heap.size (.string P) (.int .i64 K) (.slice ua um uc) (.string D) := ((hw1 ▸ Yu.new w _ _ _ _ : Yu w1 _ _ _ _ _).kept F2').kept F3
 have BP : Box w3 w1.heap.size (.int .i64 K2) (.string P2) (.string T2) (.string F2) (.int .i64 A2) (.slice pa no ca) (.slice pb nn cb) := (hw2 ▸ Box.new w1 _ _ _ _ _ _ _ : Box w2 _ _ _ _ _ _ _ _).kept F3
 have BR : Yu w3 w2.heap.size (.string ⟨#[]⟩) (.int .i64 0) (.slice none 0 0) (.string ⟨#[]⟩) := hw3 ▸ Yu.new w2 _ _ _ _
 have HF := Zz ((F1.then7 F2').then7 F3)
 have HS := Zz (And.intro s1 s2)
 obtain ⟨x0, x1, x2, x3⟩ := BX.cells
 have xz := BX.frozen
 obtain ⟨p0, p1, p2, p3, p4, p5, p6⟩ := BP.cells
 obtain ⟨w4, hw4⟩ : ∃ w4, w3.setCell ⟨w.heap.size, 3, none⟩ (.string T2) = w4 := ⟨_, rfl⟩
 have F4 : Fr (fun k => k = w.heap.size) w3 w4 := hw4 ▸ Fr.setCell (M := fun k => k = w.heap.size) (a := ⟨w.heap.size, 3, none⟩) w3 rfl _
 have BX4 : Yu w4 w.heap.size (.string P) (.int .i64 K) (.slice ua um uc) (.string T2) := hw4 ▸ BX.set3 _
 have BR4 : Yu w4 w2.heap.size (.string ⟨#[]⟩) (.int .i64 0) (.slice none 0 0) (.string ⟨#[]⟩) := BR.fr F4 (fun e => by have e : w2.heap.size = w.heap.size := e; omega)
 obtain ⟨e0, e1, e2, e3⟩ := BX4.cells
 obtain ⟨r0, r1, r2, r3⟩ := BR4.cells
 have rz := BR4.frozen
 have HBR := Zz BR4
 have HF4 := Zz (HF.out.trans F4 (fun i e => Or.inr (by have e : i = w.heap.size := e; omega)))
 clear BX BP BR BX4 BR4 F1 F2' F3 F4 hx s1 s2
 by_cases hd : D = F2
 ·subst hd
  rw [if_pos rfl]
  go_enter Tryz.func113, Tryz.ntmps113
  go_wp2_with fail
  obtain ⟨hld, _, hfr⟩ := fin_entry HF4.out HBR.out (by have := HS.out; omega) (.string P) (.int .i64 K) (.slice ua um uc) (.string T2)
  refine bodyPost_ret (v := .tuple #[.agg #[.string P, .int .i64 K, .slice ua um uc, .string T2], .bool true]) (by rw [results_cell_tmp rfl]; simp [asAddr, Result.andThen, hld]) rfl ?_
  exact ⟨P, K, ua, um, uc, T2, true, rfl, rfl, fun y hy => (by cases hy; exact ⟨rfl, rfl, rfl, HX.out.kept hfr⟩), hfr⟩
 ·obtain ⟨d1, d2⟩ := str_no7 hd
  rw [if_neg hd]
  go_enter Tryz.func113, Tryz.ntmps113
  go_wp2_with fail
  obtain ⟨hld, _, hfr⟩ := fin_entry HF4.out HBR.out (by have := HS.out; omega) (.string P) (.int .i64 K) (.slice ua um uc) (.string T2)
  refine bodyPost_ret (v := .tuple #[.agg #[.string P, .int .i64 K, .slice ua um uc, .string T2], .bool false]) (by rw [results_cell_tmp rfl]; simp [asAddr, Result.andThen, hld]) rfl ?_
  exact ⟨P, K, ua, um, uc, T2, false, rfl, rfl, fun y hy => (by cases hy), hfr⟩
end Go.Proofs.YtbnfjjjdnbcehaaGreatDoor
namespace Go.Proofs.YtbnfjjjdnbcehaaGreatDoor
open Go.RowKit Go.Maps Go.WideMaps
set_option maxRecDepth 100000
theorem Yt.tight {w : World} {b n : Nat} {T : List Th} (h : Yt w b n T) : Yt w b T.length T := by
 refine ⟨?_, h.str⟩
 obtain ⟨es, clock, h1, h2, h3, h4⟩ := h.map
 refine ⟨es, clock, h1, h2, ?_, h4⟩
 have e := congrArg Maps.size h4
 rw [size_toT] at e
 simp [Maps.size, length_sorted] at e
 omega
def DoPost (r : List En × Int) (b : Nat) (w : World) (e : Ending) (w' : World) : Prop := ∃ T', e = .returned (.int .i64 r.2) ∧ Yt w' b T'.length T' ∧ ens T' = r.1 ∧ Fr (fun k => k = b) w w'
def addE (L : List En) (P : ByteArray) (k : Int) : List En × Int := if freeE L (bl P) ≠ 0 then (L, freeE L (bl P)) else if 1024 ≤ L.length then (L, 2) else (putE L ⟨P, k, [], ⟨#[]⟩⟩, 0)
def rmE (L : List En) (p : List UInt8) (k : Int) : List En × Int := if hasE L p k ≠ 0 then (L, hasE L p k) else if emptyE L p then (delE L p, 0) else (L, 81)
theorem ens_len (T : List Th) : (ens T).length = T.length := by unfold ens; rw [List.length_map]
theorem add1_any (b : Nat) (T : List Th) (p : Pr) (vo vn : Value) (k : Int) (g : Nat) (w : World) (h : Yt w b T.length T) (hn : T.length ≤ 90000) (ho : Zy w vo p.old) (hw : Zy w vn p.new) (hp : p.path.size ≤ 1000000) (hg : w.cell? ⟨g, 0, none⟩ = some (.int .i64 k)) :
  Calls Tryz.prog 136 #[.map (some b), .agg #[.int .i64 p.kind, .string p.path, .string p.dst, .string p.src, .int .i64 p.pos, vo, vn], .pointer (some ⟨g, 0, none⟩)] w fun e w' => DoPost (addE (ens T) p.path k) b w e w' := by
 obtain ⟨K2, P2, T2, F2, A2, lO, lN⟩ := p
 simp only at ho hw hp ⊢
 obtain ⟨pa, ca, rfl, _⟩ := ho
 obtain ⟨pb, cb, rfl, _⟩ := hw
 generalize lO.length = no
 generalize lN.length = nn
 obtain ⟨w1, hw1⟩ : ∃ w1, w.alloc (.cells #[.int .i64 K2, .string P2, .string T2, .string F2, .int .i64 A2, .slice pa no ca, .slice pb nn cb] 43) = w1 := ⟨_, rfl⟩
 have F1 : Fr None' w w1 := hw1 ▸ Fr.alloc None' w _
 have BP : Box w1 w.heap.size (.int .i64 K2) (.string P2) (.string T2) (.string F2) (.int .i64 A2) (.slice pa no ca) (.slice pb nn cb) := hw1 ▸ Box.new w _ _ _ _ _ _ _
 obtain ⟨p0, p1, p2, p3, p4, p5, p6⟩ := BP.cells
 have cF := free8_any b T.length T P2 w1 (h.kept F1) hp
 have HB := Zz BP
 have HT := Zz h
 have HF1 := Zz F1
 have HG := Zz hg
 have hbw := h.map.lt
 have HA := Zz (show addE (ens T) P2 k = if freeE (ens T) (bl P2) ≠ 0 then (ens T, freeE (ens T) (bl P2)) else if 1024 ≤ (ens T).length then (ens T, 2) else (putE (ens T) ⟨P2, k, [], ⟨#[]⟩⟩, 0) from rfl)
 generalize freeE (ens T) (bl P2) = r at cF HA
 rw [HA.out]
 clear F1 BP hg h HA
 have hkS := keyS P2 (by unfold maxLen; omega)
 by_cases hr : r = 0
 ·subst hr
  rw [if_neg (by simp)]
  by_cases hl : 1024 ≤ T.length
  ·have i1 : (1024 : Int) ≤ (T.length : Int) := by omega
   rw [if_pos (show 1024 ≤ (ens T).length from by rw [ens_len]; exact hl)]
   go_enter Tryz.func136, Tryz.ntmps136
   go_wp2_with fail
   with_reducible refine cF.mono ?_
   rintro e w2 ⟨rfl, f2⟩
   clear cF p0 p1 p2 p3 p4 p5 p6
   have HF2 := Zz (HF1.out.then7 f2)
   obtain ⟨p0, p1, p2, p3, p4, p5, p6⟩ := (HB.out.kept f2).cells
   have g2 := HF2.out.keepCell HG.out (fun e => e)
   have T2' := HT.out.kept HF2.out
   have hlen := fun ty => T2'.map.len Tryz.underlying76 ty
   rw [size_toT] at hlen
   have HM := Zz T2'
   have hown := T2'.map
   clear f2 T2'
   go_wp2_with fail
   go_ret
   exact ⟨T, rfl, HM.out, rfl, HF2.out.any⟩
  ·have i1 : ¬ (1024 : Int) ≤ (T.length : Int) := by omega
   rw [if_neg (show ¬ 1024 ≤ (ens T).length from by rw [ens_len]; exact hl)]
   go_enter Tryz.func136, Tryz.ntmps136
   go_wp2_with fail
   with_reducible refine cF.mono ?_
   rintro e w2 ⟨rfl, f2⟩
   clear cF p0 p1 p2 p3 p4 p5 p6
   have HF2 := Zz (HF1.out.then7 f2)
   obtain ⟨p0, p1, p2, p3, p4, p5, p6⟩ := (HB.out.kept f2).cells
   have g2 := HF2.out.keepCell HG.out (fun e => e)
   have T2' := HT.out.kept HF2.out
   have hlen := fun ty => T2'.map.len Tryz.underlying76 ty
   rw [size_toT] at hlen
   have HM := Zz T2'
   have hown := T2'.map
   clear f2 T2'
   go_wp2_with (first
    | (at_mapUpdate; refine wpList_mapUpdate_in _ rfl _ _ _ 76 rfl 9 45 lawS Tryz.underlying76 heldE b T.length _ rfl hown (by unfold maxLen; omega) _ _ _ rfl rfl hkS _ [] (heldE_th ⟨⟨P2, k, [], ⟨#[]⟩⟩, none, 0, 0⟩) ?_; intro w3 hown3 hturn3)
    | go_in)
   go_ret
   have hP := HM.out.put (t := ⟨⟨P2, k, [], ⟨#[]⟩⟩, none, 0, 0⟩) ⟨none, 0, rfl, fun _ => rfl, Nat.le_refl _, Lines.Row.nil _ _⟩ hown3 hturn3
   exact ⟨_, rfl, hP.tight, ens_put _ _, (HF2.out.any).then (Fr.turned hturn3 rfl)⟩
 ·have hr2 : (r == 0) = false := by simpa using hr
  rw [if_pos hr]
  go_enter Tryz.func136, Tryz.ntmps136
  go_wp2_with fail
  with_reducible refine cF.mono ?_
  rintro e w2 ⟨rfl, f2⟩
  clear cF p0 p1 p2 p3 p4 p5 p6
  have HF2 := Zz (HF1.out.then7 f2)
  have HM := Zz (HT.out.kept HF2.out)
  clear f2
  go_wp2_with fail
  go_ret
  exact ⟨T, rfl, HM.out, rfl, HF2.out.any⟩
theorem remove1_any (b : Nat) (T : List Th) (p : Pr) (vo vn : Value) (k : Int) (g : Nat) (w : World) (h : Yt w b T.length T) (hn : T.length ≤ 90000) (ho : Zy w vo p.old) (hw : Zy w vn p.new) (hp : p.path.size ≤ 1000000) (hg : w.cell? ⟨g, 0, none⟩ = some (.int .i64 k)) :
  Calls Tryz.prog 138 #[.map (some b), .agg #[.int .i64 p.kind, .string p.path, .string p.dst, .string p.src, .int .i64 p.pos, vo, vn], .pointer (some ⟨g, 0, none⟩)] w fun e w' => DoPost (rmE (ens T) (bl p.path) k) b w e w' := by
 obtain ⟨K2, P2, T2, F2, A2, lO, lN⟩ := p
 simp only at ho hw hp ⊢
 obtain ⟨pa, ca, rfl, _⟩ := ho
 obtain ⟨pb, cb, rfl, _⟩ := hw
 generalize lO.length = no
 generalize lN.length = nn
 obtain ⟨w1, hw1⟩ : ∃ w1, w.alloc (.cells #[.int .i64 K2, .string P2, .string T2, .string F2, .int .i64 A2, .slice pa no ca, .slice pb nn cb] 43) = w1 := ⟨_, rfl⟩
 have F1 : Fr None' w w1 := hw1 ▸ Fr.alloc None' w _
 have BP : Box w1 w.heap.size (.int .i64 K2) (.string P2) (.string T2) (.string F2) (.int .i64 A2) (.slice pa no ca) (.slice pb nn cb) := hw1 ▸ Box.new w _ _ _ _ _ _ _
 obtain ⟨p0, p1, p2, p3, p4, p5, p6⟩ := BP.cells
 have g1 := F1.keepCell hg (fun e => e)
 have cF := has8_any b T.length T P2 k w1 (h.kept F1) hp
 have HB := Zz BP
 have HT := Zz h
 have HF1 := Zz F1
 have HE := Zz (fun (hz : hasE (ens T) (bl P2) k = 0) w' (f : Fr None' w w') => show Calls Tryz.prog 140 #[.map (some b), .string P2] w' fun e w'' => e = .returned (.bool (emptyE (ens T) (bl P2))) ∧ Fr None' w' w'' from by
  obtain ⟨x, hx, _⟩ := hasE_zero.1 hz
  rw [← ens_get] at hx
  obtain ⟨t, ht, _⟩ := Option.map_eq_some_iff.1 hx
  exact empty8_any b T.length T P2 t w' (h.kept f) hn hp ht)
 have HA := Zz (show rmE (ens T) (bl P2) k = if hasE (ens T) (bl P2) k ≠ 0 then (ens T, hasE (ens T) (bl P2) k) else if emptyE (ens T) (bl P2) then (delE (ens T) (bl P2), 0) else (ens T, 81) from rfl)
 generalize hasE (ens T) (bl P2) k = r at cF HA HE
 generalize emptyE (ens T) (bl P2) = q at HA HE
 rw [HA.out]
 clear F1 BP hg h HA
 have hkS := keyS P2 (by unfold maxLen; omega)
 by_cases hr : r = 0
 ·subst hr
  rw [if_neg (by simp)]
  cases q with
  | true =>
   rw [if_pos rfl]
   go_enter Tryz.func138, Tryz.ntmps138
   go_wp2_with fail
   with_reducible refine cF.mono ?_
   rintro e w2 ⟨rfl, f2⟩
   clear cF p0 p1 p2 p3 p4 p5 p6 g1
   have HF2 := Zz (HF1.out.then7 f2)
   have HB2 := Zz (HB.out.kept f2)
   obtain ⟨p0, p1, p2, p3, p4, p5, p6⟩ := HB2.out.cells
   clear f2
   have cE := HE.out (by trivial) w2 HF2.out
   go_wp2_with fail
   with_reducible refine cE.mono ?_
   rintro e w3 ⟨rfl, f3⟩
   clear cE p0 p1 p2 p3 p4 p5 p6
   obtain ⟨p0, p1, p2, p3, p4, p5, p6⟩ := (HB2.out.kept f3).cells
   have HF3 := Zz (HF2.out.then7 f3)
   have T3 := HT.out.kept HF3.out
   have HM := Zz T3
   have hown := T3.map
   clear T3 f3
   go_wp2_with (first
    | (at_delete; refine wpList_delete_own _ rfl _ _ 76 9 rfl 45 lawS Tryz.underlying76 heldE b T.length _ rfl hown _ _ rfl hkS ?_; intro w4 hown4 hturn4)
    | go_in)
   go_ret
   have hP := HM.out.del (k := bl P2) hown4 hturn4
   exact ⟨_, rfl, hP.tight, ens_del _ _, (HF3.out.any).then (Fr.turned hturn4 rfl)⟩
  | false =>
   rw [if_neg (by simp)]
   go_enter Tryz.func138, Tryz.ntmps138
   go_wp2_with fail
   with_reducible refine cF.mono ?_
   rintro e w2 ⟨rfl, f2⟩
   clear cF p0 p1 p2 p3 p4 p5 p6 g1
   have HF2 := Zz (HF1.out.then7 f2)
   have HB2 := Zz (HB.out.kept f2)
   obtain ⟨p0, p1, p2, p3, p4, p5, p6⟩ := HB2.out.cells
   clear f2
   have cE := HE.out (by trivial) w2 HF2.out
   go_wp2_with fail
   with_reducible refine cE.mono ?_
   rintro e w3 ⟨rfl, f3⟩
   have HF3 := Zz (HF2.out.then7 f3)
   have HM := Zz (HT.out.kept HF3.out)
   clear cE f3 p0 p1 p2 p3 p4 p5 p6
   go_wp2_with fail
   go_ret
   exact ⟨T, rfl, HM.out, rfl, HF3.out.any⟩
 ·have hr2 : (r == 0) = false := by simpa using hr
  rw [if_pos hr]
  clear HE
  go_enter Tryz.func138, Tryz.ntmps138
  go_wp2_with fail
  with_reducible refine cF.mono ?_
  rintro e w2 ⟨rfl, f2⟩
  clear cF p0 p1 p2 p3 p4 p5 p6
  have HF2 := Zz (HF1.out.then7 f2)
  have HM := Zz (HT.out.kept HF2.out)
  clear f2
  go_wp2_with fail
  go_ret
  exact ⟨T, rfl, HM.out, rfl, HF2.out.any⟩
def mvT (p q : List UInt8) (t : Th) : Th := ⟨mvE p q t.x, t.u⟩
theorem ens_mv (p q : List UInt8) (W : List Th) : ens (W.map (mvT p q)) = (ens W).map (mvE p q) := by
 unfold ens
 rw [List.map_map, List.map_map]
 rfl
theorem moveL_perm {L W W' : List En} {p q : List UInt8} (hL : Zp L) (h : W'.Perm W) (hp : (W.map (mvE p q)).Pairwise (fun a b => bl a.path ≠ bl b.path)) : moveL L W' p q = moveL L W p q := by
 have hp' : (W'.map (mvE p q)).Pairwise (fun a b => bl a.path ≠ bl b.path) := ((h.map (mvE p q)).pairwise_iff (fun {a b} h e => h e.symm)).2 hp
 refine Yz (strict_moveL hL _ _ _) (strict_moveL hL _ _ _) (fun y => ?_)
 unfold moveL
 rw [mem_puts _ _ hp', mem_puts _ _ hp, mem_dels, mem_dels]
 have e1 : y ∈ W'.map (mvE p q) ↔ y ∈ W.map (mvE p q) := (h.map (mvE p q)).mem_iff
 have e2 : (∀ x ∈ W', bl y.path ≠ bl x.path) ↔ ∀ x ∈ W, bl y.path ≠ bl x.path := ⟨fun a x hx => a x (h.mem_iff.2 hx), fun a x hx => a x (h.mem_iff.1 hx)⟩
 have e3 : (∀ x ∈ W'.map (mvE p q), bl y.path ≠ bl x.path) ↔ ∀ x ∈ W.map (mvE p q), bl y.path ≠ bl x.path := ⟨fun a x hx => a x ((h.map (mvE p q)).mem_iff.2 hx), fun a x hx => a x ((h.map (mvE p q)).mem_iff.1 hx)⟩
 rw [e1, e2, e3]
theorem OwnE.th {base : Nat} {w0 w : World} {v : Value} {W : List Th} (h : OwnE base w0 w v (ens W) (W.map Th.sl)) {k : Nat} (hk : k < W.length) : ∃ g o c, v = .slice (some ⟨g, o, none⟩) W.length c ∧ w.cell? ⟨g, o + k * 4, none⟩ = some (.string W[k].x.path) ∧ w.cell? ⟨g, o + k * 4 + 1, none⟩ = some (.int .i64 W[k].x.kind) ∧ w.cell? ⟨g, o + k * 4 + 2, none⟩ = some (.slice W[k].u.1 W[k].u.2.1 W[k].u.2.2) ∧ w.cell? ⟨g, o + k * 4 + 3, none⟩ = some (.string W[k].x.data) ∧ Zy w0 W[k].sl W[k].x.lines ∧ base ≤ g := by
 have h1 : (ens W)[k]? = some W[k].x := by unfold ens; rw [List.getElem?_map, List.getElem?_eq_getElem hk]; rfl
 have h2 : (W.map Th.sl)[k]? = some W[k].sl := by rw [List.getElem?_map, List.getElem?_eq_getElem hk]; rfl
 rcases h.row.2 with ⟨hv, e⟩ | ⟨g, cap, cur, hv, hb, hh, hc, _, hs, ht⟩
 ·rw [ens_len] at e; omega
 ·obtain ⟨a0, a1, a2, a3⟩ := ecells_get _ _ k _ _ h1 h2
  have hc' : ∀ j u, j < (ens W).length * 4 → (ecells (ens W) (W.map Th.sl))[j]? = some u → w.cell? ⟨g, j, none⟩ = some u := fun j u hj h1 => by
   rw [← ht, List.getElem?_take, if_pos hj] at h1
   rw [World.cell?, hh]
   simpa using h1
  rw [ens_len] at hc' hv
  refine ⟨g, 0, cap, hv, ?_, ?_, ?_, ?_, h.str k _ _ h1 h2, hb⟩
  ·rw [Nat.zero_add]; exact hc' _ _ (by omega) a0
  ·rw [Nat.zero_add]; exact hc' _ _ (by omega) a1
  ·rw [Nat.zero_add]; exact hc' _ _ (by omega) a2
  ·rw [Nat.zero_add]; exact hc' _ _ (by omega) a3
theorem OwnE.ge {base : Nat} {w0 w : World} {v : Value} {L : List En} {V : List Value} (h : OwnE base w0 w v L V) {k : Nat} (e : v.ownBlock = some k) : base ≤ k ∧ k < w.heap.size := by
 rcases h.row.2 with ⟨hv, _⟩ | ⟨g, cap, cur, hv, hb, hh, _⟩
 ·rw [hv] at e; cases e
 ·rw [hv] at e; cases e; exact ⟨hb, lt_of_some hh⟩
theorem take_ens {W : List Th} {k : Nat} (hk : k < W.length) : W.take (k + 1) = W.take k ++ [W[k]] := List.take_succ_eq_append_getElem hk
def delsT (T W : List Th) : List Th := W.foldl (fun M t => del8 M t.k) T
def putsT (T W : List Th) : List Th := W.foldl put8 T
theorem ens_dels : ∀ (W T : List Th), ens (delsT T W) = (ens W).foldl (fun M x => delE M (bl x.path)) (ens T)
 | [], _ => rfl
 | t :: W, T => by
  have := ens_dels W (del8 T t.k)
  unfold delsT at this ⊢
  rw [List.foldl_cons, this, ens_del]
  rfl
theorem ens_puts : ∀ (W T : List Th), ens (putsT T W) = (ens W).foldl putE (ens T)
 | [], _ => rfl
 | t :: W, T => by
  have := ens_puts W (put8 T t)
  unfold putsT at this ⊢
  rw [List.foldl_cons, this, ens_put]
  rfl
theorem dels_step {T W : List Th} {k : Nat} (hk : k < W.length) : delsT T (W.take (k + 1)) = del8 (delsT T (W.take k)) W[k].k := by
 unfold delsT
 rw [take_ens hk, List.foldl_append]
 rfl
theorem puts_step {T W : List Th} {k : Nat} (hk : k < W.length) : putsT T (W.take (k + 1)) = put8 (putsT T (W.take k)) W[k] := by
 unfold putsT
 rw [take_ens hk, List.foldl_append]
 rfl
theorem len_ins8 (x : Th) : ∀ T : List Th, (ins8 x T).length = T.length + 1
 | [] => rfl
 | y :: r => by
  unfold ins8
  split
  ·simp
  ·simp [len_ins8 x r]
theorem len_put8 (T : List Th) (x : Th) : (put8 T x).length ≤ T.length + 1 := by
 unfold put8
 rw [len_ins8]
 have : (del8 T x.k).length ≤ T.length := List.length_filter_le _ _
 omega
theorem len_puts8 : ∀ (W T : List Th), (putsT T W).length ≤ T.length + W.length
 | [], T => Nat.le_refl _
 | t :: W, T => by
  have h1 := len_puts8 W (put8 T t)
  have h2 := len_put8 T t
  unfold putsT at h1 ⊢
  rw [List.foldl_cons]
  simp only [List.length_cons]
  omega
theorem len_dels8 : ∀ (W T : List Th), (delsT T W).length ≤ T.length
 | [], T => Nat.le_refl _
 | t :: W, T => by
  have h1 := len_dels8 W (del8 T t.k)
  have h2 : (del8 T t.k).length ≤ T.length := List.length_filter_le _ _
  unfold delsT at h1 ⊢
  rw [List.foldl_cons]
  omega
theorem moved8_any (p q t : ByteArray) (w : World) (hp : p.size ≤ 1000000) (ht : t.size ≤ 1000000) : Calls Tryz.prog 148 #[.string p, .string q, .string t] w fun e w' => ∃ b : Bool, e = .returned (.tuple #[.string ⟨(Path.moved (bl p) (bl q) (bl t)).toArray⟩, .bool b]) ∧ w = w' :=
 (Path.moved_any p q t w (by omega) (by omega)).mono fun _ _ ⟨h1, h2⟩ => ⟨_, h1, h2⟩
theorem moved_len (p q t : ByteArray) (hp : p.size ≤ 1000000) (ht : t.size ≤ 1000000) : (⟨(Path.moved (bl p) (bl q) (bl t)).toArray⟩ : ByteArray).size ≤ 2000000 := by
 have h1 : (⟨(Path.moved (bl p) (bl q) (bl t)).toArray⟩ : ByteArray).size = (Path.moved (bl p) (bl q) (bl t)).length := List.size_toArray
 have h2 : (bl p).length = p.size := Array.length_toList
 have h3 : (bl t).length = t.size := Array.length_toList
 rw [h1]
 unfold Path.moved
 split
 ·rw [List.length_append, List.length_drop]; omega
 ·simp
theorem moveE_gone {L : List En} {p q : List UInt8} (h : Zt L p = none) : moveE L p q = (L, 72) := by unfold moveE; rw [if_pos h]
theorem moveE_there {L : List En} {p q : List UInt8} (h : ¬ Zt L p = none) (h2 : freeE L q ≠ 0) : moveE L p q = (L, freeE L q) := by unfold moveE; rw [if_neg h, if_pos h2]
theorem moveE_path {L : List En} {p q : List UInt8} (h : ¬ Zt L p = none) (h2 : freeE L q = 0) {x : En} (hx : x ∈ inE L p) (hr : Path.right (bl (mvE p q x).path) = false) : moveE L p q = (L, 41) := by
 unfold moveE
 rw [if_neg h, if_neg (by simpa using h2), if_neg]
 intro e
 have := List.all_eq_true.1 e x hx
 rw [hr] at this
 cases this
theorem moveE_done {L : List En} {p q : List UInt8} (h : ¬ Zt L p = none) (h2 : freeE L q = 0) (hr : ∀ x ∈ inE L p, Path.right (bl (mvE p q x).path) = true) : moveE L p q = (moveL L (inE L p) p q, 0) := by
 unfold moveE
 rw [if_neg h, if_neg (by simpa using h2), if_pos (List.all_eq_true.2 hr)]
theorem move8_any (b : Nat) (T : List Th) (p : Pr) (vo vn : Value) (w : World) (h : Yt w b T.length T) (hn : T.length ≤ 40000) (ho : Zy w vo p.old) (hw : Zy w vn p.new) (hp : p.path.size ≤ 1000000) (hd : p.dst.size ≤ 1000000) (hT : ∀ t ∈ T, t.x.path.size ≤ 1000000) :
  Calls Tryz.prog 115 #[.map (some b), .agg #[.int .i64 p.kind, .string p.path, .string p.dst, .string p.src, .int .i64 p.pos, vo, vn]] w fun e w' => DoPost (moveE (ens T) (bl p.path) (bl p.dst)) b w e w' := by
 obtain ⟨K2, P2, T2, F2, A2, lO, lN⟩ := p
 simp only at ho hw hp hd ⊢
 obtain ⟨pa, ca, rfl, _⟩ := ho
 obtain ⟨pb, cb, rfl, _⟩ := hw
 generalize lO.length = no
 generalize lN.length = nn
 obtain ⟨w1, hw1⟩ : ∃ w1, w.alloc (.cells #[.int .i64 K2, .string P2, .string T2, .string F2, .int .i64 A2, .slice pa no ca, .slice pb nn cb] 43) = w1 := ⟨_, rfl⟩
 have F1 : Fr None' w w1 := hw1 ▸ Fr.alloc None' w _
 have BP : Box w1 w.heap.size (.int .i64 K2) (.string P2) (.string T2) (.string F2) (.int .i64 A2) (.slice pa no ca) (.slice pb nn cb) := hw1 ▸ Box.new w _ _ _ _ _ _ _
 obtain ⟨p0, p1, p2, p3, p4, p5, p6⟩ := BP.cells
 have HB := Zz BP
 have HT := Zz h
 have HTs := Zz hT
 have HF1 := Zz F1
 have hlk := (h.kept F1).look_ok P2 (by unfold maxLen; omega)
 have HFd := Zz (ens_get T (bl P2))
 clear F1 BP h hT
 cases hg : get8 T (bl P2) with
 | none =>
  rw [hg] at hlk HFd
  rw [moveE_gone HFd.out.symm]
  simp only [Option.getD_none, Option.isSome_none, zeroTh, th_shape] at hlk
  clear hg
  go_enter Tryz.func115, Tryz.ntmps115
  go_wp2_with fail
  go_ret
  exact ⟨T, rfl, HT.out.kept (HF1.out.then7 (Fr.alloc None' _ _)), rfl, (HF1.out.then7 (Fr.alloc None' _ _)).any⟩
 | some t =>
  rw [hg] at hlk HFd
  have HNE := Zz (show ¬ Zt (ens T) (bl P2) = none from by rw [← HFd.out]; simp)
  simp only [Option.getD_some, Option.isSome_some, th_shape] at hlk
  clear hg HFd
  obtain ⟨⟨P, K, l, D⟩, a, m, u⟩ := t
  simp only at hlk
  obtain ⟨w2, hw2⟩ : ∃ w2, w1.alloc (.cells #[.string P, .int .i64 K, .slice a m u, .string D] 45) = w2 := ⟨_, rfl⟩
  have F2' : Fr None' w1 w2 := hw2 ▸ Fr.alloc None' w1 _
  have q2 := F2'.keepCell p2 (fun e => e)
  have HF2 := Zz (HF1.out.then7 F2')
  have HB2 := Zz (HB.out.kept F2')
  have cF := free8_any b T.length T T2 w2 (HT.out.kept HF2.out) hd
  clear F2' HB HF1
  by_cases hr : freeE (ens T) (bl T2) = 0
  ·rw [hr] at cF
   have HR := Zz hr
   clear hr
   go_enter Tryz.func115, Tryz.ntmps115
   go_wp2_with fail
   with_reducible refine cF.mono ?_
   rintro e w3 ⟨rfl, f3⟩
   clear cF p0 p1 p2 p3 p4 p5 p6 q2 hlk
   have HF3 := Zz (HF2.out.then7 f3)
   have HB3 := Zz (HB2.out.kept f3)
   obtain ⟨p0, p1, p2, p3, p4, p5, p6⟩ := HB3.out.cells
   have cW := within8_any b T.length T P2 w3 (HT.out.kept HF3.out) (by omega)
   clear f3 HB2 HF2
   go_wp2_with fail
   with_reducible refine cW.mono ?_
   rintro e w4 ⟨vf, W, rfl, hperm, hO, f4⟩
   clear cW p0 p1 p2 p3 p4 p5 p6
   have HF4 := Zz (HF3.out.then7 f4)
   have HZ34 := Zz f4.size
   have HF34 := Zz f4
   have HB4 := Zz (HB3.out.kept f4)
   have HPm := Zz hperm
   have HO4 := Zz hO
   obtain ⟨fa, fc, rfl⟩ := slice_v hO
   rw [ens_len] at HO4
   rw [ens_len]
   have hWn : W.length ≤ T.length := by rw [hperm.length_eq]; exact List.length_filter_le _ _
   have HWT := Zz (show ∀ t ∈ W, t ∈ T ∧ Path.within t.k (bl P2) = true from fun t ht => by
    have := hperm.mem_iff.1 ht
    rw [List.mem_filter] at this
    exact this)
   have HSz := Zz (show ∀ t ∈ W, t.x.path.size ≤ 1000000 from fun t ht => HTs.out t (HWT.out t ht).1)
   have i1 : (W.length : Int) ≤ 40000 := by omega
   clear hperm hO f4 HB3
   go_wp2_with fail
   go_loopw [9, 38] (fun v vi wr => ∃ (k : Nat), k ≤ W.length ∧ vi = .int .i64 k ∧ Hid (OwnE w4.heap.size w3 wr v (ens ((W.take k).map (mvT (bl P2) (bl T2)))) (((W.take k).map (mvT (bl P2) (bl T2))).map Th.sl)) ∧ Hid (Fr None' w4 wr) ∧ Hid (∀ j (hj : j < W.length), j < k → Path.right (bl (mvE (bl P2) (bl T2) W[j].x).path) = true)) (fun _ vi _ => W.length - (intOf vi).toNat)
   case atStart => exact ⟨0, Nat.zero_le _, rfl, OwnE.nil _ _ _, Fr.refl _ _, fun j _ h => by omega⟩
   case round =>
    obtain ⟨k, hk, rfl, HO, HFr, HRt⟩ := hrel
    obtain ⟨va, vc, rfl⟩ := slice_v HO.out
    by_cases hlt : k < W.length
    ·obtain ⟨g, o, c', e, d0, d1, d2, d3, hst, _⟩ := (HO4.out.kept HFr.out).th hlt
     obtain ⟨rfl, rfl⟩ : fa = some ⟨g, o, none⟩ ∧ fc = c' := by simpa using e
     clear e
     have hm := List.getElem_mem hlt
     have hsz := HTs.out _ (HWT.out _ hm).1
     have HNx := Zz (show Path.right (bl (mvE (bl P2) (bl T2) W[k].x).path) = true → ∀ j (hj : j < W.length), j < k + 1 → Path.right (bl (mvE (bl P2) (bl T2) W[j].x).path) = true from fun h j hj hlt => by
      by_cases e : j = k
      ·subst e; exact h
      ·exact HRt.out j hj (by omega))
     have HBad := Zz (show Path.right (bl (mvE (bl P2) (bl T2) W[k].x).path) = false → moveE (ens T) (bl P2) (bl T2) = (ens T, 41) from fun h => moveE_path HNE.out HR.out (x := W[k].x) (by
      rw [← ens_in]
      exact List.mem_map.2 ⟨W[k], HPm.out.mem_iff.1 hm, rfl⟩) h)
     have HTk := Zz (show (W.take (k + 1)).map (mvT (bl P2) (bl T2)) = (W.take k).map (mvT (bl P2) (bl T2)) ++ [mvT (bl P2) (bl T2) W[k]] from by
      rw [take_ens hlt, List.map_append]
      rfl)
     have HSt := Zz hst
     generalize W[k] = t at d0 d1 d2 d3 hsz HNx HBad HTk HSt
     obtain ⟨⟨P', K', l', D'⟩, a', m', u'⟩ := t
     simp only at d0 d1 d2 d3 hsz
     have hmk : (ens ((W.take k).map (mvT (bl P2) (bl T2)))).length = k := by rw [ens_len, List.length_map, List.length_take]; omega
     obtain ⟨wB, hwB⟩ : ∃ wB, wr.alloc (.cells #[.string P', .int .i64 K', .slice a' m' u', .string D'] 45) = wB := ⟨_, rfl⟩
     have FB : Fr None' wr wB := hwB ▸ Fr.alloc None' wr _
     have BB : Yu wB wr.heap.size (.string P') (.int .i64 K') (.slice a' m' u') (.string D') := hwB ▸ Yu.new wr _ _ _ _
     obtain ⟨b0, b1, b2, b3⟩ := BB.cells
     have bz := BB.frozen
     obtain ⟨p0, p1, p2, p3, p4, p5, p6⟩ := (HB4.out.kept (HFr.out.then7 FB)).cells
     obtain ⟨Q, hQ⟩ : ∃ Q : ByteArray, (⟨(Path.moved (bl P') (bl P2) (bl T2)).toArray⟩ : ByteArray) = Q := ⟨_, rfl⟩
     have cM := moved8_any P' P2 T2 wB hsz hd
     have hQs : Q.size ≤ 2000000 := hQ ▸ moved_len P' P2 T2 hsz hd
     rw [hQ] at cM
     obtain ⟨wC, hwC⟩ : ∃ wC, wB.setCell ⟨wr.heap.size, 0, none⟩ (.string Q) = wC := ⟨_, rfl⟩
     have FC : Fr None' wr wC := FB.trans (hwC ▸ Fr.setCell (M := fun k => k = wr.heap.size) (a := ⟨wr.heap.size, 0, none⟩) wB rfl _ : Fr (fun k => k = wr.heap.size) wB wC) (fun i e => Or.inr (by have e : i = wr.heap.size := e; omega))
     have BC : Yu wC wr.heap.size (.string Q) (.int .i64 K') (.slice a' m' u') (.string D') := hwC ▸ BB.set0 _
     obtain ⟨c0, c1, c2, c3⟩ := BC.cells
     have cR := Path.right_any Q wC (by omega)
     have HBC := Zz BC
     have HFC := Zz FC
     have HQ := Zz hQ
     have i2 : (k : Int) < (W.length : Int) := by omega
     have i3 : (0 : Int) ≤ (k : Int) := by omega
     rw [hmk]
     rw [hmk] at HO
     clear FB BB FC BC hQ hQs hst hsz hm HRt
     go_wp2_with fail
     with_reducible refine cM.mono ?_
     rintro e w' ⟨bq, rfl, rfl⟩
     clear cM
     go_wp2_with fail
     with_reducible refine cR.mono ?_
     rintro e wD ⟨rfl, fD⟩
     clear cR c0 c1 c2 c3 b0 b1 b2 b3 bz d0 d1 d2 d3 p0 p1 p2 p3 p4 p5 p6
     have fD : Fr None' wC wD := ofBelow fD
     have HFD := Zz (HFC.out.then7 fD)
     have BD := HBC.out.kept fD
     obtain ⟨c0, c1, c2, c3⟩ := BD.cells
     clear BD fD
     cases hrt : Path.right Q.data.toList with
     | false =>
      have HE := Zz (HBad.out (by
       show Path.right (bl ⟨(Path.moved (bl P') (bl P2) (bl T2)).toArray⟩) = false
       rw [HQ.out]
       exact hrt))
      have HM := Zz (HT.out.kept (HF4.out.then7 (HFr.out.then7 HFD.out)))
      have HFE := Zz (HF4.out.then7 (HFr.out.then7 HFD.out))
      clear hrt
      go_wp2_with fail
      go_ret
      rw [HE.out]
      exact ⟨T, rfl, HM.out, rfl, HFE.out.any⟩
     | true =>
      have HN2 := Zz (HNx.out (by
       show Path.right (bl ⟨(Path.moved (bl P') (bl P2) (bl T2)).toArray⟩) = true
       rw [HQ.out]
       exact hrt))
      clear hrt HNx HBad
      have FA : Fr None' wD (wD.alloc (.cells #[.string Q, .int .i64 K', .slice a' m' u', .string D'] 45)) := Fr.alloc None' wD _
      obtain ⟨g3, c3', w6, hr3, O3, f3, hg3⟩ := ((HO.out.kept HFD.out).kept FA).append (b := wD.heap.size) (x := ⟨Q, K', l', D'⟩) (vl := .slice a' m' u') (heap_alloc_new wD _) rfl HSt.out (by rw [ens_len, List.length_map, List.length_take]; omega) (by have := (HFr.out.then7 HFD.out).size; simp; omega)
      have HF6 := Zz ((HFr.out.then7 HFD.out).trans ((FA.any).then f3) (fun i e => Or.inr (HO.out.ge e).1))
      have hmk2 : (ens ((W.take k).map (mvT (bl P2) (bl T2)))).length = k := by rw [ens_len, List.length_map, List.length_take]; omega
      rw [hmk2] at hr3 O3
      have HR3 := Zz hr3
      have HO6 := Zz (show OwnE w4.heap.size w3 w6 (.slice (some ⟨g3, 0, none⟩) (k + 1) c3') (ens ((W.take (k + 1)).map (mvT (bl P2) (bl T2)))) (((W.take (k + 1)).map (mvT (bl P2) (bl T2))).map Th.sl) from by
       rw [HTk.out]
       unfold ens at O3 ⊢
       rw [List.map_append, List.map_append]
       have e1 : (mvT (bl P2) (bl T2) ⟨⟨P', K', l', D'⟩, a', m', u'⟩).x = ⟨Q, K', l', D'⟩ := by
        show (⟨⟨(Path.moved (bl P') (bl P2) (bl T2)).toArray⟩, K', l', D'⟩ : En) = _
        rw [HQ.out]
       simp only [List.map_cons, List.map_nil]
       rw [e1]
       exact O3)
      clear hr3 O3 f3 hg3 FA hmk2 HSt HTk HO
      go_wp2_with (first
       | (at_builtin; refine app_list8 rfl _ _ rfl rfl rfl HR3.out ?_)
       | go_in)
      exact ⟨⟨k + 1, by omega, by go_num, HO6.out, HF6.out, HN2.out⟩, by simp [intOf]; omega⟩
    ·have e : k = W.length := by omega
     subst e
     have HRt2 := Zz (show ∀ x ∈ inE (ens T) (bl P2), Path.right (bl (mvE (bl P2) (bl T2) x).path) = true from fun x hx => by
      rw [← ens_in] at hx
      obtain ⟨t, ht, rfl⟩ := List.mem_map.1 hx
      obtain ⟨j, hj, rfl⟩ := List.getElem_of_mem (HPm.out.mem_iff.2 ht)
      exact HRt.out j hj hj)
     have HMo := Zz (show OwnE w4.heap.size w3 wr (.slice va W.length vc) (ens (W.map (mvT (bl P2) (bl T2)))) ((W.map (mvT (bl P2) (bl T2))).map Th.sl) from by
      have h := HO.out
      rw [List.take_length, ens_len, List.length_map] at h
      exact h)
     rw [List.take_length, ens_len, List.length_map]
     have HFm := Zz (HO4.out.kept HFr.out)
     have HTr := Zz (HT.out.kept (HF4.out.then7 HFr.out))
     have hbw := (HT.out.map).lt
     have HBz := Zz (show b < w3.heap.size ∧ w3.heap.size ≤ w4.heap.size ∧ w4.heap.size ≤ wr.heap.size from ⟨by have := HF3.out.size; omega, HZ34.out, HFr.out.size⟩)
     have H3r := Zz (HF34.out.then7 HFr.out)
     have HWr := Zz (HF4.out.then7 HFr.out)
     clear HRt HO HO4 HF4 HFr HB4 HTs
     obtain ⟨wq, hwq⟩ : ∃ wq, wq = wr := ⟨_, rfl⟩
     subst hwq
     go_wp2_with fail
     go_loopw [64] (fun vi wx => ∃ (k : Nat), k ≤ W.length ∧ vi = .int .i64 k ∧ Hid (Yt wx b (delsT T (W.take k)).length (delsT T (W.take k))) ∧ Hid (Fr (fun i => i = b) wq wx)) (fun vi _ => W.length - (intOf vi).toNat)
     case atStart => exact ⟨0, Nat.zero_le _, rfl, HTr.out, Fr.refl _ _⟩
     case round =>
      obtain ⟨k, hk, rfl, HTx, HFx⟩ := hrel
      by_cases hlt : k < W.length
      ·obtain ⟨g, o, c', e, d0, d1, d2, d3, _, _⟩ := (HFm.out.fr HFx.out (fun i e e' => by have := (HFm.out.ge e).1; have e' : i = b := e'; have := HBz.out; omega)).th hlt
       obtain ⟨rfl, rfl⟩ : fa = some ⟨g, o, none⟩ ∧ fc = c' := by simpa using e
       clear e
       have HSp := Zz (dels_step (T := T) hlt)
       have hsz := HSz.out _ (List.getElem_mem hlt)
       generalize W[k] = t at d0 d1 d2 d3 HSp hsz
       obtain ⟨⟨P', K', l', D'⟩, a', m', u'⟩ := t
       simp only at d0 d1 d2 d3 hsz
       obtain ⟨wB, hwB⟩ : ∃ wB, wr.alloc (.cells #[.string P', .int .i64 K', .slice a' m' u', .string D'] 45) = wB := ⟨_, rfl⟩
       have FB : Fr None' wr wB := hwB ▸ Fr.alloc None' wr _
       obtain ⟨b0, b1, b2, b3⟩ := (hwB ▸ Yu.new wr _ _ _ _ : Yu wB wr.heap.size (.string P') (.int .i64 K') (.slice a' m' u') (.string D')).cells
       have HTB := Zz (HTx.out.kept FB)
       have hown := HTB.out.map
       have hkS := keyS P' (by unfold maxLen; omega)
       have HFB := Zz ((HFx.out).then (FB.any))
       have i2 : (k : Int) < (W.length : Int) := by omega
       have i3 : (0 : Int) ≤ (k : Int) := by omega
       clear FB hsz
       go_wp2_with (first
        | (at_delete; refine wpList_delete_own _ rfl _ _ 76 9 rfl 45 lawS Tryz.underlying76 heldE b _ _ rfl hown _ _ rfl hkS ?_; intro w5 hown5 hturn5)
        | go_in)
       have hP := HTB.out.del (k := bl P') hown5 hturn5
       refine ⟨⟨k + 1, by omega, by go_num, ?_, HFB.out.then (Fr.turned hturn5 rfl)⟩, by simp [intOf]; omega⟩
       show Yt _ _ _ _
       rw [HSp.out]
       exact hP.tight
      ·have e : k = W.length := by omega
       subst e
       have HT5 := Zz (show Yt wr b (delsT T W).length (delsT T W) from by
        have h := HTx.out
        rw [List.take_length] at h
        exact h)
       clear HTx HFm HTr
       obtain ⟨wz, hwz⟩ : ∃ wz, wz = wr := ⟨_, rfl⟩
       subst hwz
       go_wp2_with fail
       go_loopw [74] (fun vi wx => ∃ (k : Nat), k ≤ W.length ∧ vi = .int .i64 k ∧ Hid (Yt wx b (putsT (delsT T W) ((W.map (mvT (bl P2) (bl T2))).take k)).length (putsT (delsT T W) ((W.map (mvT (bl P2) (bl T2))).take k))) ∧ Hid (Fr (fun i => i = b) wq wx)) (fun vi _ => W.length - (intOf vi).toNat)
       case atStart => exact ⟨0, Nat.zero_le _, rfl, HT5.out, HFx.out⟩
       case round =>
        obtain ⟨k, hk, rfl, HTy, HFy⟩ := hrel
        by_cases hlt2 : k < W.length
        ·have hltM : k < (W.map (mvT (bl P2) (bl T2))).length := by rw [List.length_map]; exact hlt2
         obtain ⟨g, o, c', e, d0, d1, d2, d3, hst, _⟩ := (HMo.out.fr HFy.out (fun i e e' => by have := (HMo.out.ge e).1; have e' : i = b := e'; have := HBz.out; omega)).th hltM
         obtain ⟨rfl, rfl⟩ : va = some ⟨g, o, none⟩ ∧ vc = c' := by simpa using e
         clear e
         have HSp := Zz (puts_step (T := delsT T W) hltM)
         have hsz : ((W.map (mvT (bl P2) (bl T2)))[k]).x.path.size ≤ 2000000 := by
          rw [List.getElem_map]
          exact moved_len _ P2 T2 (HSz.out _ (List.getElem_mem hlt2)) hd
         generalize (W.map (mvT (bl P2) (bl T2)))[k] = t at d0 d1 d2 d3 HSp hsz hst
         have hln := len_puts8 ((W.map (mvT (bl P2) (bl T2))).take k) (delsT T W)
         have hld := len_dels8 W T
         rw [List.length_take, List.length_map] at hln
         obtain ⟨⟨P', K', l', D'⟩, a', m', u'⟩ := t
         simp only at d0 d1 d2 d3 hsz
         obtain ⟨wB, hwB⟩ : ∃ wB, wr.alloc (.cells #[.string P', .int .i64 K', .slice a' m' u', .string D'] 45) = wB := ⟨_, rfl⟩
         have FB : Fr None' wr wB := hwB ▸ Fr.alloc None' wr _
         obtain ⟨b0, b1, b2, b3⟩ := (hwB ▸ Yu.new wr _ _ _ _ : Yu wB wr.heap.size (.string P') (.int .i64 K') (.slice a' m' u') (.string D')).cells
         have HTB := Zz (HTy.out.kept FB)
         have hown := HTB.out.map
         have hkS := keyS P' (by unfold maxLen; omega)
         have HFB := Zz ((HFy.out).then (FB.any))
         have HSt := Zz (show Zy wB (.slice a' m' u') l' from hst.far ((H3r.out.any).then HFB.out : Fr (fun i => i = b) w3 wB) (fun hl i e e' => Zy.notMap hst (HT.out.kept HF3.out).map hl (e' ▸ e)))
         have hbig : (putsT (delsT T W) ((W.map (mvT (bl P2) (bl T2))).take k)).length < maxLen := by unfold maxLen; omega
         have i2 : (k : Int) < (W.length : Int) := by omega
         have i3 : (0 : Int) ≤ (k : Int) := by omega
         clear FB hsz hst hln hld
         go_wp2_with (first
          | (at_mapUpdate; refine wpList_mapUpdate_in _ rfl _ _ _ 76 rfl 9 45 lawS Tryz.underlying76 heldE b _ _ rfl hown hbig _ _ _ rfl rfl hkS _ [] (heldE_th ⟨⟨P', K', l', D'⟩, a', m', u'⟩) ?_; intro w5 hown5 hturn5)
          | go_in)
         have hP := HTB.out.put (t := ⟨⟨P', K', l', D'⟩, a', m', u'⟩) HSt.out hown5 hturn5
         refine ⟨⟨k + 1, by omega, by go_num, ?_, HFB.out.then (Fr.turned hturn5 rfl)⟩, by simp [intOf]; omega⟩
         show Yt _ _ _ _
         rw [HSp.out]
         exact hP.tight
        ·have e : k = W.length := by omega
         subst e
         have HT6 := Zz (show Yt wr b (putsT (delsT T W) (W.map (mvT (bl P2) (bl T2)))).length (putsT (delsT T W) (W.map (mvT (bl P2) (bl T2)))) from by
          have h := HTy.out
          rw [List.take_of_length_le (by rw [List.length_map]; exact Nat.le_refl _)] at h
          exact h)
         have HE := Zz (moveE_done HNE.out HR.out HRt2.out)
         have HEn := Zz (show ens (putsT (delsT T W) (W.map (mvT (bl P2) (bl T2)))) = moveL (ens T) (inE (ens T) (bl P2)) (bl P2) (bl T2) from by
          rw [ens_puts, ens_dels, ens_mv]
          exact moveL_perm HT.out.strict (by rw [← ens_in]; exact HPm.out.map _) (mv_pair HT.out.strict _ _))
         have HFw := Zz ((HWr.out.any).then HFy.out)
         clear HTy
         go_wp2_with fail
         go_ret
         rw [HE.out]
         exact ⟨_, rfl, HT6.out, HEn.out, HFw.out⟩
  ·have HA := Zz (moveE_there HNE.out hr)
   rw [HA.out]
   generalize freeE (ens T) (bl T2) = r at cF hr
   have hr2 : (r == 0) = false := by simpa using hr
   clear HA
   go_enter Tryz.func115, Tryz.ntmps115
   go_wp2_with fail
   with_reducible refine cF.mono ?_
   rintro e w3 ⟨rfl, f3⟩
   clear cF p0 p1 p2 p3 p4 p5 p6 q2 hlk
   have HF3 := Zz (HF2.out.then7 f3)
   have HM := Zz (HT.out.kept HF3.out)
   clear f3
   go_wp2_with fail
   go_ret
   exact ⟨T, rfl, HM.out, rfl, HF3.out.any⟩
end Go.Proofs.YtbnfjjjdnbcehaaGreatDoor
