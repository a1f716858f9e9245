/- What is proved here: contracts for RecordMakes. Conditions: as named. -/
import Derived.Test.YtbnfjjjdnbcehaaGreatDoorX28RecM12
import Derived.Test.YtbnfjjjdnbcehaaGreatDoorX11RAll9
import Derived.Test.YtbnfjjjdnbcehaaGreatDoorXBack9
import Derived.Test.YtbnfjjjdnbcehaaGreatDoorX21Small10
import Derived.Test.YtbnfjjjdnbcehaaGreatDoorX9Plain8
import Derived.Deep.RegionHeld3
import Derived.Test.YtbnfjjjdnbcehaaGreatDoorX8Strs9
import Derived.Test.YtbnfjjjdnbcehaaGreatDoorX26RFindE
import Derived.Test.YtbnfjjjdnbcehaaGreatDoorX16PRRest
import Derived.BigQuiet
set_option maxHeartbeats 16000000
namespace Go.Proofs.YtbnfjjjdnbcehaaGreatDoor
open Go.RowKit
set_option maxRecDepth 100000
def HksAt (base : Nat) (w : World) (v : Value) (H : List (Diff.Hk ByteArray)) : Prop := ∃ va c, v = .slice va H.length c ∧ ∀ k h, H[k]? = some h → ∃ g o vo vn, va = some ⟨g, o, none⟩ ∧ w.cell? ⟨g, o + k * 3, none⟩ = some (.int .i64 (h.at' : Int)) ∧ w.cell? ⟨g, o + k * 3 + 1, none⟩ = some vo ∧ w.cell? ⟨g, o + k * 3 + 2, none⟩ = some vn ∧ Zy w vo h.o ∧ Zy w vn h.n ∧ ∀ b, vo.ownBlock = some b ∨ vn.ownBlock = some b → base ≤ b
def DiffAll12 : Prop := ∀ (va vb : Option Addr) (ca cb : Nat) (a b : List ByteArray) (w : World), Zy w (.slice va a.length ca) a → Zy w (.slice vb b.length cb) b → a.length ≤ 4000 → b.length ≤ 4000 → (∀ s ∈ a, s.size ≤ maxLen) → (∀ s ∈ b, s.size ≤ maxLen) →
 Calls Tryz.prog 68 #[.slice va a.length ca, .slice vb b.length cb] w fun e w' => ∃ v, e = .returned v ∧ HksAt w.heap.size w' v (Diff.diffs a b) ∧ Fr None' w w'
theorem diffs_len (a b : List ByteArray) : (Diff.diffs a b).length ≤ a.length + b.length := by
 have h1 := Diff.diffs_cost a b
 have h2 := Diff.diffs_spread a b
 have key : ∀ (H : List (Diff.Hk ByteArray)) (last : Int), Diff.Spread last H → H.length ≤ Diff.cost H := fun H => by
  induction H with
  | nil => intro _ _; exact Nat.le_refl _
  | cons h H ih =>
   intro last hs
   have i1 := ih _ hs.2.2
   have h0 := hs.1
   rw [Diff.cost_cons]
   simp only [List.length_cons]
   omega
 have := key _ _ h2
 omega
structure ChgAt (b : Nat) (w wr : World) (v : Value) (L : List Pr) (V : List (Value × Value)) : Prop where
 own : Zk w.heap.size wr v L V
 fr : Fr None' w wr
 new : ∀ u ∈ V, ∀ k, (u.1.ownBlock = some k ∨ u.2.ownBlock = some k) → b ≤ k
theorem ChgAt.push {b : Nat} {w wr : World} {v : Value} {L : List Pr} {V : List (Value × Value)} (h : ChgAt b w wr v L V) (hn : L.length ≤ 90000) {x : Pr} {vo vn : Value} (s1 : Zy wr vo x.old) (s2 : Zy wr vn x.new) (n1 : ∀ k, vo.ownBlock = some k → b ≤ k) (n2 : ∀ k, vn.ownBlock = some k → b ≤ k) (f1 : Far v vo x.old) (f2 : Far v vn x.new) (w1 : World) (F1 : Fr None' wr w1) :
  ∃ v' w', (Builtin.append_ #[22, 22] 22 #[v, .slice (some ⟨w1.heap.size, 0, none⟩) 1 1]).run Tryz.prog (w1.alloc (.cells #[.int .i64 x.kind, .string x.path, .string x.dst, .string x.src, .int .i64 x.pos, vo, vn] 43)) = .ok v' w' ∧ ChgAt b w w' v' (L ++ [x]) (V ++ [(vo, vn)]) ∧ Fr (fun k => v.ownBlock = some k) wr w' := by
 have F2 := F1.then7 (Fr.alloc None' w1 (.cells #[.int .i64 x.kind, .string x.path, .string x.dst, .string x.src, .int .i64 x.pos, vo, vn] 43))
 have B := Box.new w1 (.int .i64 x.kind) (.string x.path) (.string x.dst) (.string x.src) (.int .i64 x.pos) vo vn
 obtain ⟨v', w', hr, hO, hf, _⟩ := (h.own.kept F2).push B (s1.kept F2) (s2.kept F2) f1 f2 hn (by have := h.fr.size; have := F2.size; omega)
 have hfw : Fr (fun k => v.ownBlock = some k) wr w' := (F2.mono (fun _ e => e.elim)).then hf
 refine ⟨v', w', hr, ⟨hO, h.fr.trans hfw (fun i e => Or.inr (h.own.ge e).1), fun u hu k e => ?_⟩, hfw⟩
 rcases List.mem_append.1 hu with hu | hu
 ·exact h.new u hu k e
 ·rw [List.mem_singleton] at hu
  subst hu
  rcases e with e | e
  ·exact n1 k e
  ·exact n2 k e
theorem ChgAt.weaken {b : Nat} {w0 w wr : World} {v : Value} {L : List Pr} {V : List (Value × Value)} (h : ChgAt b w wr v L V) (f : Fr None' w0 w) : ChgAt b w0 wr v L V := by
 refine ⟨⟨h.own.len, ⟨h.own.row.1, ?_⟩, h.own.str⟩, f.then7 h.fr, h.new⟩
 rcases h.own.row.2 with e | ⟨g, cap, cur, hv, hb, k⟩
 ·exact Or.inl e
 ·exact Or.inr ⟨g, cap, cur, hv, Nat.le_trans f.size hb, k⟩
theorem str_no12 {x y : ByteArray} (h : ¬ x = y) : (¬ x.toList = y.toList) ∧ (x.toList == y.toList) = false := by
 rw [ByteArray.toList_eq, ByteArray.toList_eq]
 have : ¬ x.data.toList = y.data.toList := fun e => h (ByteArray.ext (Array.toList_inj.1 e))
 exact ⟨this, by simpa using this⟩
theorem take_hunks {H : List (Diff.Hk ByteArray)} (p : ByteArray) {k : Nat} (hk : k < H.length) : (H.take (k + 1)).map (hunkP p) = (H.take k).map (hunkP p) ++ [hunkP p H[k]] := by
 rw [List.take_succ_eq_append_getElem hk, List.map_append]
 rfl
theorem changes12_any (hD : DiffAll12) (at' : ByteArray) (f t : En) (vf vt : Value) (w : World) (hf : Zy w vf f.lines) (ht : Zy w vt t.lines) (sf : f.lines.length ≤ 4000) (st : t.lines.length ≤ 4000) (zf : ∀ s ∈ f.lines, s.size ≤ maxLen) (zt : ∀ s ∈ t.lines, s.size ≤ maxLen) :
  Calls Tryz.prog 41 #[.string at', .agg #[.string f.path, .int .i64 f.kind, vf, .string f.data], .agg #[.string t.path, .int .i64 t.kind, vt, .string t.data]] w fun e w' => ∃ v V, e = .returned v ∧ ChgAt w.heap.size w w' v (chgL at' f t) V := by
 obtain ⟨pf, cf, rfl⟩ := hf.is
 obtain ⟨pt, ct, rfl⟩ := ht.is
 obtain ⟨w1, hw1⟩ : ∃ w1, (w.alloc (.cells #[.string f.path, .int .i64 f.kind, .slice pf f.lines.length cf, .string f.data] 45)).alloc (.cells #[.string t.path, .int .i64 t.kind, .slice pt t.lines.length ct, .string t.data] 45) = w1 := ⟨_, rfl⟩
 have F1 : Fr None' w w1 := hw1 ▸ (Fr.alloc None' w _).then7 (Fr.alloc None' _ _)
 have hA : w1.heap[w.heap.size]? = some (.cells #[.string f.path, .int .i64 f.kind, .slice pf f.lines.length cf, .string f.data] 45) := by
  rw [← hw1]
  exact (Fr.alloc None' _ _).at (heap_alloc_new w _) (fun e => e)
 have hB : w1.heap[w.heap.size + 1]? = some (.cells #[.string t.path, .int .i64 t.kind, .slice pt t.lines.length ct, .string t.data] 45) := by
  rw [← hw1]
  have h2 := heap_alloc_new (w.alloc (.cells #[.string f.path, .int .i64 f.kind, .slice pf f.lines.length cf, .string f.data] 45)) (.cells #[.string t.path, .int .i64 t.kind, .slice pt t.lines.length ct, .string t.data] 45)
  simpa using h2
 obtain ⟨_, _, a2, a3, _⟩ := Zo hA
 obtain ⟨_, _, b2, b3, _⟩ := Zo hB
 have hsz : w1.heap.size = w.heap.size + 2 := by rw [← hw1]; simp
 have cD := hD pf pt cf ct f.lines t.lines w1 (hf.kept F1) (ht.kept F1) sf st zf zt
 have hlen := diffs_len f.lines t.lines
 have HE := Zz (show chgL at' f t = (Diff.diffs f.lines t.lines).map (hunkP at') ++ (if f.data = t.data then [] else [dataP at' f.data t.data]) from rfl)
 have HN := Zz (show (Diff.diffs f.lines t.lines).length ≤ 8000 from by omega)
 obtain ⟨R, hR⟩ : ∃ R, chgL at' f t = R := ⟨_, rfl⟩
 rw [hR] at HE ⊢
 clear hD hf ht sf st zf zt hA hB hR hlen
 generalize Diff.diffs f.lines t.lines = H at cD HE HN
 obtain ⟨fp, fk, fl, fd⟩ := f
 obtain ⟨tp, tk, tl, td⟩ := t
 simp only at a2 a3 b2 b3 cD hw1 HE ⊢
 generalize fl.length = fn at a2 cD hw1 ⊢
 generalize tl.length = tn at b2 cD hw1 ⊢
 go_enter Tryz.func41, Tryz.ntmps41
 go_wp2_with fail
 with_reducible refine cD.mono ?_
 rintro e w2 ⟨v, rfl, HH, f2⟩
 obtain ⟨va, c, rfl, hc⟩ := HH
 obtain ⟨n, hn⟩ : ∃ n, H.length = n := ⟨_, rfl⟩
 have HL := Zz hn
 have HC := Zz hc
 have HF := Zz (F1.then7 f2)
 have n9 := HN.out
 rw [hn] at n9 ⊢
 have i1 : (n : Int) ≤ 8000 := by omega
 have K3 := Zz (fun wr (g : Fr None' w2 wr) => And.intro (g.keepCell (f2.keepCell a3 (fun e => e)) (fun e => e) : wr.cell? ⟨w.heap.size, 3, none⟩ = some (.string fd)) (g.keepCell (f2.keepCell b3 (fun e => e)) (fun e => e) : wr.cell? ⟨w.heap.size + 1, 3, none⟩ = some (.string td)))
 have HS2 := Zz (show w.heap.size + 2 = w1.heap.size ∧ w1.heap.size ≤ w2.heap.size from by have := f2.size; omega)
 clear cD hc hn n9 f2 F1 a2 a3 b2 b3 hw1 hsz
 go_wp2_with fail
 go_loopw [7, 16] (fun vl vi wr => ∃ (k : Nat) (V : List (Value × Value)), k ≤ n ∧ vi = .int .i64 k ∧ Hid (ChgAt w.heap.size w2 wr vl ((H.take k).map (hunkP at')) V)) (fun _ vi _ => n - (intOf vi).toNat)
 case atStart => exact ⟨0, [], Nat.zero_le _, rfl, ⟨Zk.nil _ _, Fr.refl _ _, fun u hu => by cases hu⟩⟩
 case round =>
  obtain ⟨k, V, hk, rfl, HI⟩ := hrel
  obtain ⟨pv, cv, hv, _⟩ := HI.out.own.slice
  by_cases hlt : k < n
  ·have hkH : k < H.length := by rw [HL.out]; exact hlt
   obtain ⟨g, o, vo, vn, rfl, d0, d1, d2, s1, s2, hb⟩ := HC.out k H[k] (List.getElem?_eq_getElem hkH)
   have FR := HI.out.fr
   replace d0 := FR.keepCell d0 (fun e => e)
   replace d1 := FR.keepCell d1 (fun e => e)
   replace d2 := FR.keepCell d2 (fun e => e)
   have l1 : ((H.take k).map (hunkP at')).length ≤ 90000 := by simp; omega
   have hp := HI.out.push l1 (x := hunkP at' H[k]) (s1.kept FR) (s2.kept FR) (fun j e => by have := hb j (Or.inl e); have := HS2.out; omega) (fun j e => by have := hb j (Or.inr e); have := HS2.out; omega) (fun hl j e e' => by have := s1.lt hl e; have := (HI.out.own.ge e').1; omega) (fun hl j e e' => by have := s2.lt hl e; have := (HI.out.own.ge e').1; omega)
   rw [← take_hunks at' hkH] at hp
   obtain ⟨po, co, rfl⟩ := s1.is
   obtain ⟨pn, cn, rfl⟩ := s2.is
   have HP := Zz hp
   unfold hunkP at hp
   obtain ⟨w3, hw3⟩ : ∃ w3, wr.alloc (.cells #[.int .i64 (H[k].at' : Int), .slice po H[k].o.length co, .slice pn H[k].n.length cn] 103) = w3 := ⟨_, rfl⟩
   have F3 : Fr None' wr w3 := hw3 ▸ Fr.alloc None' wr _
   have B3 : w3.heap[wr.heap.size]? = some (.cells #[.int .i64 (H[k].at' : Int), .slice po H[k].o.length co, .slice pn H[k].n.length cn] 103) := by rw [← hw3]; exact heap_alloc_new wr _
   obtain ⟨v', w5, hr, hA, _⟩ := HP.out w3 F3
   have e0 : w3.cell? ⟨wr.heap.size, 0, none⟩ = some (.int .i64 (H[k].at' : Int)) := by rw [World.cell?, B3]; rfl
   have e1 : w3.cell? ⟨wr.heap.size, 1, none⟩ = some (.slice po H[k].o.length co) := by rw [World.cell?, B3]; rfl
   have e2 : w3.cell? ⟨wr.heap.size, 2, none⟩ = some (.slice pn H[k].n.length cn) := by rw [World.cell?, B3]; rfl
   unfold hunkP at hr
   simp only at hr
   have HR := Zz hr
   have HA := Zz hA
   have hn1 : ((H.take k).map (hunkP at')).length = k := by simp; omega
   rw [hn1] at hv
   clear hp HP l1 hr hA B3 F3 FR s1 s2 hb hn1
   generalize H[k].o.length = no at *
   generalize H[k].n.length = nn at *
   generalize H[k].at' = ha at *
   clear hkH
   subst hv
   have i2 : (k : Int) < (n : Int) := by omega
   have i3 : (0 : Int) ≤ (k : Int) := by omega
   go_wp2_with (at_builtin
                refine app_list9 rfl _ _ rfl rfl rfl HR.out ?_)
   exact ⟨⟨k + 1, _, by omega, by go_num, HA.out⟩, by simp [intOf]; omega⟩
  ·have e : k = n := by omega
   subst e
   have HI2 := Zz (show ChgAt w.heap.size w2 wr u7 (H.map (hunkP at')) V from by
    have h := HI.out
    rw [List.take_of_length_le (by rw [HL.out]; exact Nat.le_refl _)] at h
    exact h)
   have hln : (H.map (hunkP at')).length = k := by rw [List.length_map, HL.out]
   obtain ⟨c3, d3⟩ := K3.out wr HI.out.fr
   obtain ⟨pw, cw, hw, _⟩ := HI2.out.own.slice
   rw [hln] at hw
   subst hw
   clear HI hv hln
   by_cases hd : fd = td
   ·have HE2 := Zz (show R = H.map (hunkP at') from by rw [HE.out, if_pos hd, List.append_nil])
    subst hd
    go_wp2_with fail
    go_ret
    exact ⟨_, rfl, V, by rw [HE2.out]; exact HI2.out.weaken HF.out⟩
   ·have HE2 := Zz (show R = H.map (hunkP at') ++ [dataP at' fd td] from by rw [HE.out, if_neg hd])
    have hneq := str_no12 hd
    have HV := Zz (show V.length = k from by rw [HI2.out.own.len, List.length_map, HL.out])
    have l1 : (H.map (hunkP at')).length ≤ 90000 := by rw [List.length_map, HL.out]; omega
    obtain ⟨v', w5, hr, hA, _⟩ := HI2.out.push l1 (x := dataP at' fd td) (vo := .slice none 0 0) (vn := .slice none 0 0) ⟨none, 0, rfl, fun _ => rfl, Nat.le_refl _, fun j x e => by simp [dataP] at e⟩ ⟨none, 0, rfl, fun _ => rfl, Nat.le_refl _, fun j x e => by simp [dataP] at e⟩ (fun j e => by cases e) (fun j e => by cases e) (fun hl => absurd rfl hl) (fun hl => absurd rfl hl) wr (Fr.refl _ _)
    unfold dataP at hr
    simp only at hr
    have HR := Zz hr
    rw [← HE2.out] at hA
    obtain ⟨px, cx, hx, _⟩ := hA.own.slice
    have HA := Zz hA
    generalize R.length = rl at hx
    subst hx
    clear hr hA l1 hd
    go_wp2_with (at_builtin
                 refine app_list9 rfl _ _ rfl rfl rfl HR.out ?_)
    go_ret
    exact ⟨_, _, rfl, HA.out.weaken HF.out⟩
def body (L : List En) (k : Nat) : Nat := ((L.take k).map (fun x => x.lines.length + x.data.size + x.path.size + (x.lines.map (·.size)).sum)).sum
theorem body_step {L : List En} {k : Nat} (hk : k < L.length) : body L (k + 1) = body L k + (L[k].lines.length + L[k].data.size + L[k].path.size + (L[k].lines.map (·.size)).sum) := by
 unfold body
 rw [List.take_succ_eq_append_getElem hk, List.map_append, List.sum_append]
 simp
theorem body_weight (L : List En) : 5 * L.length + body L L.length = weight L := by
 unfold body weight
 rw [List.take_length]
 induction L with
 | nil => rfl
 | cons x L ih =>
  simp only [List.map_cons, List.sum_cons, List.length_cons] at ih ⊢
  simp only [En.weight] at ih ⊢
  omega
def GreatPost (L : List En) (w : World) (e : Ending) (w' : World) : Prop := ∃ g, e = .returned (.bool g) ∧ (g = false → weight L < 4000) ∧ Fr None' w w'
theorem great_any (va : Option Addr) (n c : Nat) (L : List En) (w : World) (hl : L.length = n) (h : Z0 w va L) (hn : n ≤ 140737488355328) (hx : ∀ x ∈ L, x.lines.length ≤ 140737488355328) :
  Calls Tryz.prog 18 #[.slice va n c] w fun e w' => GreatPost L w e w' := by
 have HL : Hid (L.length = n) := hl
 have HX : Hid (∀ x ∈ L, x.lines.length ≤ 140737488355328) := hx
 have i1 : (n : Int) ≤ 140737488355328 := by omega
 have HE : Hid (Z0 w va L) := h
 clear hl hn h hx
 go_enter Tryz.func18, Tryz.ntmps18
 go_wp2_with fail
 go_loopw [3, 4] (fun vn vi wr => ∃ k N : Nat, k ≤ n ∧ vi = .int .i64 k ∧ vn = .int .i64 N ∧ (N : Int) ≤ 1125899906842624 ∧ Hid (N < 4000 → N = 5 * n + body L k) ∧ Hid (Fr None' w wr)) (fun _ vi _ => n - (intOf vi).toNat)
 case atStart => exact ⟨0, 5 * n, Nat.zero_le _, rfl, by go_num, by omega, fun _ => rfl, Fr.refl _ _⟩
 case round =>
  obtain ⟨k, N, hk, rfl, rfl, hN, HN, HF⟩ := hrel
  by_cases hlt : k < n
  ·by_cases hs : N < 4000
   ·have hkL : k < L.length := by rw [HL.out]; exact hlt
    obtain ⟨g, o, rfl, vl, d0, d1, d2, d3, hs1⟩ := (HE.out.kept HF.out).get hkL
    obtain ⟨pl, cl, rfl, _, _, hr⟩ := hs1
    have HB : Hid (body L (k + 1) = body L k + (L[k].lines.length + L[k].data.size + L[k].path.size + (L[k].lines.map (·.size)).sum)) := body_step hkL
    have hxl := HX.out _ (List.getElem_mem hkL)
    obtain ⟨x, hxe⟩ : ∃ x, L[k] = x := ⟨_, rfl⟩
    rw [hxe] at d0 d2 d3 hr HB hxl
    obtain ⟨P, K, l, D⟩ := x
    simp only at d0 d2 d3 hr HB hxl
    obtain ⟨nl, hnl⟩ : ∃ m, l.length = m := ⟨_, rfl⟩
    rw [hnl] at d2 HB hxl
    have HNL : Hid (l.length = nl) := hnl
    obtain ⟨sD, hsD⟩ : ∃ m, D.size = m := ⟨_, rfl⟩
    obtain ⟨sP, hsP⟩ : ∃ m, P.size = m := ⟨_, rfl⟩
    have i2 : (nl : Int) ≤ 140737488355328 := by omega
    have i3 : (0 : Int) ≤ (k : Int) := by omega
    have i4 : (k : Int) < (n : Int) := by omega
    have i5 : (N : Int) < 4000 := by omega
    obtain ⟨mD, hmD⟩ : ∃ m : Nat, min D.size 4000 = m := ⟨_, rfl⟩
    obtain ⟨mP, hmP⟩ : ∃ m : Nat, min P.size 4000 = m := ⟨_, rfl⟩
    have eD : (if (4000 : Int) < (D.size : Int) then (4000 : Int) else (D.size : Int)) = (mD : Int) := by split <;> omega
    have eD2 : min (D.size : Int) 4000 = (mD : Int) := by omega
    have eP : (if (4000 : Int) < (P.size : Int) then (4000 : Int) else (P.size : Int)) = (mP : Int) := by split <;> omega
    have eP2 : min (P.size : Int) 4000 = (mP : Int) := by omega
    have HM : Hid ((mD < 4000 → mD = D.size) ∧ (mP < 4000 → mP = P.size)) := ⟨by omega, by omega⟩
    have i6 : (mD : Int) ≤ 4000 := by omega
    have i7 : (mP : Int) ≤ 4000 := by omega
    have HRW : Hid (Lines.Row wr pl l) := hr
    have r1 : IntKind.i64.wrap ((N : Int) + (nl : Int)) = (N : Int) + (nl : Int) := by rw [IntKind.wrap_i64]; omega
    have r2 : IntKind.i64.wrap ((N : Int) + (nl : Int) + (mD : Int)) = (N : Int) + (nl : Int) + (mD : Int) := by rw [IntKind.wrap_i64]; omega
    have r3 : IntKind.i64.wrap ((N : Int) + (nl : Int) + (mD : Int) + (mP : Int)) = ((N + nl + mD + mP : Nat) : Int) := by rw [IntKind.wrap_i64]; omega
    obtain ⟨N1, hN1⟩ : ∃ N1, N + nl + mD + mP = N1 := ⟨_, rfl⟩
    rw [hN1] at r3
    have HN1 : Hid (N1 < 4000 → N1 = 5 * n + (body L k + (nl + D.size + P.size))) := fun hh => by
     have h1 := HN.out (by omega)
     have h2 := HM.out.1 (by omega)
     have h3 := HM.out.2 (by omega)
     omega
    have i8 : (N1 : Int) ≤ 281474976710656 := by omega
    clear hxe hnl hsD hsP hmD hmP hr hN1 HN hN hs
    go_wp2_with fail
    go_quiet (fail)
    go_wp2_with fail
    clear r1 r2 r3 eD eD2 eP eP2 i6 i7
    obtain ⟨wd, hwd⟩ : ∃ x, wr.drewN nq = x := ⟨_, rfl⟩
    have HW : Hid (Fr None' w wd) := by rw [← hwd]; exact HF.out.trans (Fr.drewN None' wr nq) (fun _ e => Or.inl e)
    have fd : Fr None' wr wd := by rw [← hwd]; exact Fr.drewN None' wr nq
    have HC : Hid (∀ w2, Fr None' wd w2 → w2.cell? ⟨g, o + k * 4 + 2, none⟩ = some (.slice pl nl cl) ∧ Lines.Row w2 pl l) := fun w2 f => ⟨(fd.trans f (fun _ e => Or.inl e)).keepCell d2 (fun e => e), HRW.out.fr (toLN (fd.trans f (fun _ e => Or.inl e)))⟩
    rw [hwd]
    clear hwd d0 d1 d2 d3 HF HRW fd
    go_loopw [3, 5] (fun vn vi w2 => ∃ q M : Nat, q ≤ nl ∧ vi = .int .i64 q ∧ vn = .int .i64 M ∧ (M : Int) ≤ 562949953421312 ∧ Hid (M < 4000 → M = 5 * n + (body L k + (nl + D.size + P.size)) + ((l.take q).map (·.size)).sum) ∧ Hid (Fr None' wd w2)) (fun _ vi _ => nl - (intOf vi).toNat)
    case atStart => exact ⟨0, N1, Nat.zero_le _, rfl, rfl, by omega, fun h => by have := HN1.out h; simpa using this, Fr.refl _ _⟩
    case round =>
     clear HN1
     obtain ⟨q, M, hq, rfl, rfl, hM, HMM, HF2⟩ := hrel
     obtain ⟨d2, hr⟩ := HC.out wr HF2.out
     by_cases hqt : q < nl
     ·by_cases hs : M < 4000
      ·have hql : q < l.length := by rw [HNL.out]; exact hqt
       obtain ⟨gl, ol, rfl, e1⟩ := hr.get hql
       have HZ : Hid (((l.take (q + 1)).map (·.size)).sum = ((l.take q).map (·.size)).sum + l[q].size) := sizes_step hql
       obtain ⟨s, hse⟩ : ∃ s, l[q] = s := ⟨_, rfl⟩
       rw [hse] at e1 HZ
       obtain ⟨mS, hmS⟩ : ∃ m : Nat, min s.size 4000 = m := ⟨_, rfl⟩
       have eS : (if (4000 : Int) < (s.size : Int) then (4000 : Int) else (s.size : Int)) = (mS : Int) := by split <;> omega
       have eS2 : min (s.size : Int) 4000 = (mS : Int) := by omega
       have HM2 : Hid (mS < 4000 → mS = s.size) := by show _ → _; omega
       have u1 : (mS : Int) ≤ 4000 := by omega
       have u2 : (M : Int) < 4000 := by omega
       have u3 : (q : Int) < (nl : Int) := by omega
       have u4 : (0 : Int) ≤ (q : Int) := by omega
       clear hse hmS hr hs hM
       go_wp2_with fail
       refine ⟨⟨q + 1, M + mS, by omega, by go_num, by go_num, by omega, fun hh => ?_, HF2.out⟩, by simp [intOf]; omega⟩
       have h1 := HMM.out (by omega)
       have h2 := HM2.out (by omega)
       rw [HZ.out]
       omega
      ·have u2 : ¬ (M : Int) < 4000 := by omega
       have u3 : (q : Int) < (nl : Int) := by omega
       have HM4 : Hid (¬ M < 4000) := hs
       have HFW : Hid (Fr None' w wr) := HW.out.trans HF2.out (fun _ e => Or.inl e)
       clear hr hs
       go_wp2_with fail
       exact ⟨⟨k + 1, M, by omega, by go_num, rfl, by omega, fun h => absurd h HM4.out, HFW.out⟩, by simp [intOf]; omega⟩
     ·have e : q = nl := by omega
      subst e
      have HFW : Hid (Fr None' w wr) := HW.out.trans HF2.out (fun _ e => Or.inl e)
      have HQ : Hid (M < 4000 → M = 5 * n + body L (k + 1)) := fun h => by
       have h1 := HMM.out h
       rw [List.take_of_length_le (by rw [HNL.out]; exact Nat.le_refl _)] at h1
       rw [HB.out]
       omega
      clear hr hqt
      go_wp2_with fail
      exact ⟨⟨k + 1, M, by omega, by go_num, rfl, by omega, HQ.out, HFW.out⟩, by simp [intOf]; omega⟩
   ·have u2 : ¬ (N : Int) < 4000 := by omega
    have u3 : (4000 : Int) ≤ (N : Int) := by omega
    clear hs
    go_wp2_with fail
    go_ret
    exact ⟨true, rfl, fun h => (by cases h), HF.out⟩
  ·have e : k = n := by omega
   subst e
   by_cases hs : N < 4000
   ·have HQ : Hid (weight L < 4000) := by
     have h1 := HN.out hs
     have h2 := body_weight L
     rw [HL.out] at h2
     show _ < _
     omega
    have u3 : (N : Int) < 4000 := by omega
    clear hs hN
    go_wp2_with fail
    go_ret
    exact ⟨false, by first | rfl | exact ret_bool7 (by simp; omega), fun _ => HQ.out, HF.out⟩
   ·have u3 : (4000 : Int) ≤ (N : Int) := by omega
    clear hs hN
    go_wp2_with fail
    go_ret
    exact ⟨true, by first | rfl | exact ret_bool7 (by simp; omega), fun h => (by cases h), HF.out⟩
attribute [local irreducible] wpQuiet
theorem okD_parts {L : List En} {j : Nat} {x : En} : okD L j x = true ↔ Path.right (bl x.path) = true ∧ ahead L j x = true ∧ 1 ≤ x.kind ∧ x.kind ≤ 3 ∧ Lines.right (Lines.bs x.lines) = true ∧ (x.kind = 2 ∨ x.lines = []) ∧ (x.kind = 3 ∨ x.data.size = 0) ∧ (∀ p, Path.parent (bl x.path) = some p → ∃ d, Zt L p = some d ∧ d.kind = 1) := by
 unfold okD
 simp only [Bool.and_eq_true, Bool.or_eq_true, decide_eq_true_eq]
 constructor
 ·rintro ⟨⟨⟨⟨⟨⟨⟨a, b⟩, c⟩, d⟩, e⟩, f⟩, g⟩, h⟩
  refine ⟨a, b, c, d, e, f, g, fun p hp => ?_⟩
  rw [hp] at h
  simp only at h
  cases hf : Zt L p with
  | none => rw [hf] at h; cases h
  | some y => rw [hf] at h; exact ⟨y, rfl, by simpa using h⟩
 ·rintro ⟨a, b, c, d, e, f, g, h⟩
  refine ⟨⟨⟨⟨⟨⟨⟨a, b⟩, c⟩, d⟩, e⟩, f⟩, g⟩, ?_⟩
  cases hp : Path.parent (bl x.path) with
  | none => rfl
  | some p =>
   obtain ⟨y, h1, h2⟩ := h p hp
   simp only [h1]
   simpa using h2
theorem ahead_succ {L : List En} {i : Nat} (hi : i < L.length) (x : En) : ahead L (i + 1) x = decide (bl L[i].path < bl x.path) := by
 unfold ahead
 simp only [List.getElem?_eq_getElem hi]
theorem drewF (w : World) (n : Nat) : Fr None' w (w.drewN n) := Fr.drewN None' w n
theorem less_eq (a b : ByteArray) : Op.bytesLess a.toList b.toList = decide (bl a < bl b) := by
 rw [ByteArray.toList_eq, ByteArray.toList_eq, Go.Proofs.bytesLess_eq]
 rfl
theorem rright_q (p : ByteArray) (hp : p.size < 100000000) (w : World) : Calls Tryz.prog 43 #[.string p] w fun e w' => e = .returned (.bool (Path.right (bl p))) ∧ w' = w := (Path.rright_any p w hp).mono fun _ _ h => ⟨h.1, h.2.symm⟩
theorem eright_any (va : Option Addr) (n c : Nat) (L : List En) (w : World) (hl : L.length = n) (h : Z0 w va L) (hn : n ≤ 100000) (hs : SmallE L) :
  Calls Tryz.prog 20 #[.slice va n c] w fun e w' => e = .returned (.bool (Zw L)) ∧ Fr None' w w' := by
 have HL : Hid (L.length = n) := hl
 have HS : Hid (SmallE L) := hs
 have HE : Hid (Z0 w va L) := h
 have i1 : (n : Int) ≤ 100000 := by omega
 by_cases hbig : 1024 < n
 ·have e : Zw L = false := treeRight_long (by rw [hl]; exact hbig)
  rw [e]
  have q : (1024 : Int) < (n : Int) := by omega
  clear hl h hs
  go_enter Tryz.func20, Tryz.ntmps20
  go_wp2_with fail
  go_ret
  exact ⟨rfl, Fr.refl _ _⟩
 ·obtain ⟨R, hR⟩ : ∃ R, Zw L = R := ⟨_, rfl⟩
  have HR : Hid (Zw L = R) := hR
  rw [hR]
  have q : ¬ (1024 : Int) < (n : Int) := by omega
  have HNB : Hid (n ≤ 1024) := by show _ ≤ _; omega
  clear hl h hs hR hbig hn
  go_enter Tryz.func20, Tryz.ntmps20
  go_wp2_with fail
  clear q
  go_loopw [3] (fun vi wr => ∃ k : Nat, k ≤ n ∧ vi = .int .i64 k ∧ Hid (∀ j (h : j < L.length), j < k → okD L j L[j] = true) ∧ Hid (Fr None' w wr)) (fun vi _ => n - (intOf vi).toNat)
  case atStart => exact ⟨0, Nat.zero_le _, rfl, fun j _ h => by omega, Fr.refl _ _⟩
  case round =>
   obtain ⟨k, hk, rfl, HT, HF⟩ := hrel
   by_cases hlt : k < n
   ·have hkL : k < L.length := by rw [HL.out]; exact hlt
    obtain ⟨g, o, rfl, vl, d0, d1, d2, d3, hs1⟩ := (HE.out.kept HF.out).get hkL
    obtain ⟨pl, cl, rfl, _, _, hr⟩ := hs1
    obtain ⟨z1, z2, z3, z4⟩ := HS.out _ (List.getElem_mem hkL)
    have HNo : Hid (¬ okD L k L[k] = true → R = false) := fun h => by rw [← HR.out]; exact treeRight_noD hkL (by simpa using h)
    have HNX : Hid (okD L k L[k] = true → ∀ j (h : j < L.length), j < k + 1 → okD L j L[j] = true) := fun h j hj hlt => by
     by_cases e : j = k
     ·subst e; exact h
     ·exact HT.out j hj (by omega)
    obtain ⟨x, hxe⟩ : ∃ x, L[k] = x := ⟨_, rfl⟩
    rw [hxe] at d0 d1 d2 d3 hr z1 z2 z3 z4 HNX HNo
    obtain ⟨P, K, l, Da⟩ := x
    simp only at d0 d1 d2 d3 hr z1 z2 z3 z4
    obtain ⟨nl, hnl⟩ : ∃ m, l.length = m := ⟨_, rfl⟩
    rw [hnl] at d2 z3
    have HRW : Hid (Lines.Row wr pl l ∧ l.length = nl ∧ (∀ y ∈ l, y.size < 90000000)) := ⟨hr, hnl, z4⟩
    have HZ : Hid (P.size < 10000000 ∧ nl < 900000) := ⟨z1, z3⟩
    have i2 : (k : Int) < (n : Int) := by omega
    have i3 : (0 : Int) ≤ (k : Int) := by omega
    have HOK : Hid (okD L k ⟨P, K, l, Da⟩ = true ↔ _) := okD_parts
    clear hxe hnl hr z1 z2 z3 z4 HT
    obtain ⟨w1, hw1⟩ : ∃ w1, wr.alloc (.cells #[.string P, .int .i64 K, .slice pl nl cl, .string Da] 45) = w1 := ⟨_, rfl⟩
    have HF1 : Hid (Fr None' wr w1) := hw1 ▸ Fr.alloc None' wr _
    obtain ⟨b0, b1, b2, b3⟩ := cell4 wr 45 (.string P) (.int .i64 K) (.slice pl nl cl) (.string Da)
    rw [hw1] at b0 b1 b2 b3
    have cR := rright_q P (by have := HZ.out.1; omega)
    cases hpr : Path.right (bl P) with
    | false =>
     have e : R = false := HNo.out (fun h => by have := (HOK.out.1 h).1; rw [hpr] at this; cases this)
     subst e
     simp only [hpr] at cR
     go_wp2_with fail
     go_quiet ((go_at_call 43; exact Calls.quiet_of_same (cR _)))
     go_wp2_with fail
     go_ret
     exact ⟨rfl, (HF.out.then7 HF1.out).then7 (drewF _ _)⟩
    | true =>
     simp only [hpr] at cR
     rcases Nat.eq_zero_or_pos k with e0 | hpos
     ·have q2 : decide ((0 : Int) < (k : Int)) = false := by simp; omega
      have q2n : decide (0 < k) = false := by simp; omega
      have HAh : Hid (ahead L k ⟨P, K, l, Da⟩ = true) := by show _ = _; rw [e0]; rfl
      clear e0
      by_cases hK1 : K < 1
      ·have e : R = false := HNo.out (fun h => by have h2 : (1 : Int) ≤ K := (HOK.out.1 h).2.2.1; omega)
       subst e
       have q3 : decide (K < 1) = true := by simpa using hK1
       go_wp2_with fail
       go_quiet ((go_at_call 43; exact Calls.quiet_of_same (cR _)))
       go_wp2_with fail
       go_ret
       exact ⟨rfl, (HF.out.then7 HF1.out).then7 (drewF _ _)⟩
      ·have q3 : decide (K < 1) = false := by simpa using hK1
       by_cases hK3 : 3 < K
       ·have e : R = false := HNo.out (fun h => by have h2 : K ≤ (3 : Int) := (HOK.out.1 h).2.2.2.1; omega)
        subst e
        have q4 : decide (3 < K) = true := by simpa using hK3
        go_wp2_with fail
        go_quiet ((go_at_call 43; exact Calls.quiet_of_same (cR _)))
        go_wp2_with fail
        go_ret
        exact ⟨rfl, (HF.out.then7 HF1.out).then7 (drewF _ _)⟩
       ·have q4 : decide (3 < K) = false := by simpa using hK3
        go_wp2_with fail
        go_quiet ((go_at_call 43; exact Calls.quiet_of_same (cR _)))
        obtain ⟨w2, hw2⟩ : ∃ x, w1.drewN nq = x := ⟨_, rfl⟩
        have f2 : Fr None' w1 w2 := hw2 ▸ drewF _ _
        rw [hw2]
        replace b0 := f2.keepCell b0 (fun e => e)
        replace b1 := f2.keepCell b1 (fun e => e)
        replace b2 := f2.keepCell b2 (fun e => e)
        replace b3 := f2.keepCell b3 (fun e => e)
        have HF2 : Hid (Fr None' wr w2) := HF1.out.then7 f2
        clear hw2 f2 cR d0 d1 d2 d3 HF1
        have cL : Calls Tryz.prog 44 #[.slice pl nl cl] w2 fun e w' => e = .returned (.bool (Lines.right (Lines.bs l))) ∧ Fr None' w2 w' := by
         have h := Lines.rRight_any pl cl l w2 (HRW.out.1.fr (toLN HF2.out)) (by rw [HRW.out.2.1]; have := HZ.out.2; omega) HRW.out.2.2
         rw [HRW.out.2.1] at h
         exact h.mono fun _ _ h => ⟨h.1, ofLN h.2⟩
        go_wp2_with fail
        refine cL.mono ?_
        rintro e w3 ⟨rfl, f3⟩
        replace b0 := f3.keepCell b0 (fun e => e)
        replace b1 := f3.keepCell b1 (fun e => e)
        replace b2 := f3.keepCell b2 (fun e => e)
        replace b3 := f3.keepCell b3 (fun e => e)
        have HF3 : Hid (Fr None' wr w3) := HF2.out.then7 f3
        clear cL f3 HF2
        cases hLr : Lines.right (Lines.bs l) with
        | false =>
         have e : R = false := HNo.out (fun h => by have h2 : Lines.right (Lines.bs l) = true := (HOK.out.1 h).2.2.2.2.1; rw [hLr] at h2; cases h2)
         subst e
         go_wp2_with fail
         go_ret
         exact ⟨rfl, HF.out.then7 HF3.out⟩
        | true =>
         by_cases hK2 : K = 2
         ·have zk2 : (K == 2) = true := by simpa using hK2
          have zk3 : (K == 3) = false := by simp; omega
          by_cases hDa : Da.size = 0
          ·have hDe := empty_of hDa
           subst hDe
           have cP := Path.rparent_any P w3 (by have := HZ.out.1; omega)
           unfold Path.parentS at cP
           cases hpa : Path.parent (bl P) with
           | none =>
            have hpa' : Path.parent P.data.toList = none := hpa
            rw [hpa'] at cP
            have hok : okD L k ⟨P, K, l, _⟩ = true := HOK.out.2 ⟨hpr, HAh.out, by show (1 : Int) ≤ K; omega, by show K ≤ (3 : Int); omega, hLr, Or.inl hK2, Or.inr hDa, fun p hp => by rw [show Path.parent (bl P) = none from hpa] at hp; cases hp⟩
            have HNX2 : Hid (∀ j (h : j < L.length), j < k + 1 → okD L j L[j] = true) := HNX.out hok
            clear hok HNX HNo HOK
            go_wp2_with fail
            refine cP.mono ?_
            rintro e w4 ⟨rfl, rfl⟩
            clear cP
            go_wp2_with fail
            exact ⟨⟨k + 1, by omega, by go_num, HNX2.out, HF.out.then7 HF3.out⟩, by simp [intOf]; omega⟩
           | some p =>
            have hpa' : Path.parent P.data.toList = some p := hpa
            rw [hpa'] at cP
            have cF := efind_any (some ⟨g, o, none⟩) n c L ⟨p.toArray⟩ w3 HL.out (HE.out.kept (HF.out.then7 HF3.out)) (by omega)
            have ebl : bl ⟨p.toArray⟩ = p := rfl
            rw [ebl] at cF
            cases hf : Zt L p with
            | none =>
             rw [hf] at cF
             have e : R = false := HNo.out (fun h => by obtain ⟨d, h1, _⟩ := (HOK.out.1 h).2.2.2.2.2.2.2 p hpa; rw [hf] at h1; cases h1)
             subst e
             clear HNX HNo HOK
             go_wp2_with fail
             refine cP.mono ?_
             rintro e w4 ⟨rfl, rfl⟩
             clear cP
             go_wp2_with fail
             refine cF.mono ?_
             rintro e w5 ⟨f5, rfl⟩
             have HF5 : Hid (Fr None' w w5) := (HF.out.then7 HF3.out).then7 f5
             clear cF f5
             go_wp2_with fail
             go_ret
             exact ⟨rfl, HF5.out.then7 (Fr.alloc None' _ _)⟩
            | some d =>
             rw [hf] at cF
             obtain ⟨Pd, Kd, ld, Dd⟩ := d
             by_cases hkd : Kd = 1
             ·subst hkd
              have hok : okD L k ⟨P, K, l, _⟩ = true := HOK.out.2 ⟨hpr, HAh.out, by show (1 : Int) ≤ K; omega, by show K ≤ (3 : Int); omega, hLr, Or.inl hK2, Or.inr hDa, fun p' hp => by rw [show Path.parent (bl P) = some p from hpa] at hp; cases hp; exact ⟨_, hf, rfl⟩⟩
              have HNX2 : Hid (∀ j (h : j < L.length), j < k + 1 → okD L j L[j] = true) := HNX.out hok
              clear hok HNX HNo HOK
              go_wp2_with fail
              refine cP.mono ?_
              rintro e w4 ⟨rfl, rfl⟩
              clear cP
              go_wp2_with fail
              refine cF.mono ?_
              rintro e w5 ⟨f5, vd, rfl, hsd⟩
              obtain ⟨pd, cd, rfl, _⟩ := hsd
              have HF5 : Hid (Fr None' w w5) := (HF.out.then7 HF3.out).then7 f5
              clear cF f5
              go_wp2_with fail
              exact ⟨⟨k + 1, by omega, by go_num, HNX2.out, HF5.out.then7 (Fr.alloc None' _ _)⟩, by simp [intOf]; omega⟩
             ·have e : R = false := HNo.out (fun h => by obtain ⟨d, h1, h2⟩ := (HOK.out.1 h).2.2.2.2.2.2.2 p hpa; rw [hf] at h1; cases h1; exact hkd h2)
              subst e
              have zk : (Kd == 1) = false := by simpa using hkd
              clear HNX HNo HOK
              go_wp2_with fail
              refine cP.mono ?_
              rintro e w4 ⟨rfl, rfl⟩
              clear cP
              go_wp2_with fail
              refine cF.mono ?_
              rintro e w5 ⟨f5, vd, rfl, hsd⟩
              obtain ⟨pd, cd, rfl, _⟩ := hsd
              have HF5 : Hid (Fr None' w w5) := (HF.out.then7 HF3.out).then7 f5
              clear cF f5
              go_wp2_with fail
              go_ret
              exact ⟨rfl, HF5.out.then7 (Fr.alloc None' _ _)⟩
          ·have yd := isEmpty_no hDa
           have e : R = false := HNo.out (fun h => by rcases (HOK.out.1 h).2.2.2.2.2.2.1 with h2 | h2; (have h3 : K = 3 := h2; omega); exact hDa h2)
           subst e
           go_wp2_with fail
           go_ret
           exact ⟨rfl, HF.out.then7 HF3.out⟩
         ·have zk2 : (K == 2) = false := by simpa using hK2
          by_cases hnl : nl = 0
          ·have qn : ¬ (0 : Int) < (nl : Int) := by omega
           have hle : l = [] := List.length_eq_zero_iff.1 (by rw [HRW.out.2.1]; exact hnl)
           by_cases hKt : K = 3
           ·have zk3 : (K == 3) = true := by simpa using hKt
            have cP := Path.rparent_any P w3 (by have := HZ.out.1; omega)
            unfold Path.parentS at cP
            cases hpa : Path.parent (bl P) with
            | none =>
             have hpa' : Path.parent P.data.toList = none := hpa
             rw [hpa'] at cP
             have hok : okD L k ⟨P, K, l, _⟩ = true := HOK.out.2 ⟨hpr, HAh.out, by show (1 : Int) ≤ K; omega, by show K ≤ (3 : Int); omega, hLr, Or.inr hle, Or.inl hKt, fun p hp => by rw [show Path.parent (bl P) = none from hpa] at hp; cases hp⟩
             have HNX2 : Hid (∀ j (h : j < L.length), j < k + 1 → okD L j L[j] = true) := HNX.out hok
             clear hok HNX HNo HOK
             go_wp2_with fail
             refine cP.mono ?_
             rintro e w4 ⟨rfl, rfl⟩
             clear cP
             go_wp2_with fail
             exact ⟨⟨k + 1, by omega, by go_num, HNX2.out, HF.out.then7 HF3.out⟩, by simp [intOf]; omega⟩
            | some p =>
             have hpa' : Path.parent P.data.toList = some p := hpa
             rw [hpa'] at cP
             have cF := efind_any (some ⟨g, o, none⟩) n c L ⟨p.toArray⟩ w3 HL.out (HE.out.kept (HF.out.then7 HF3.out)) (by omega)
             have ebl : bl ⟨p.toArray⟩ = p := rfl
             rw [ebl] at cF
             cases hf : Zt L p with
             | none =>
              rw [hf] at cF
              have e : R = false := HNo.out (fun h => by obtain ⟨d, h1, _⟩ := (HOK.out.1 h).2.2.2.2.2.2.2 p hpa; rw [hf] at h1; cases h1)
              subst e
              clear HNX HNo HOK
              go_wp2_with fail
              refine cP.mono ?_
              rintro e w4 ⟨rfl, rfl⟩
              clear cP
              go_wp2_with fail
              refine cF.mono ?_
              rintro e w5 ⟨f5, rfl⟩
              have HF5 : Hid (Fr None' w w5) := (HF.out.then7 HF3.out).then7 f5
              clear cF f5
              go_wp2_with fail
              go_ret
              exact ⟨rfl, HF5.out.then7 (Fr.alloc None' _ _)⟩
             | some d =>
              rw [hf] at cF
              obtain ⟨Pd, Kd, ld, Dd⟩ := d
              by_cases hkd : Kd = 1
              ·subst hkd
               have hok : okD L k ⟨P, K, l, _⟩ = true := HOK.out.2 ⟨hpr, HAh.out, by show (1 : Int) ≤ K; omega, by show K ≤ (3 : Int); omega, hLr, Or.inr hle, Or.inl hKt, fun p' hp => by rw [show Path.parent (bl P) = some p from hpa] at hp; cases hp; exact ⟨_, hf, rfl⟩⟩
               have HNX2 : Hid (∀ j (h : j < L.length), j < k + 1 → okD L j L[j] = true) := HNX.out hok
               clear hok HNX HNo HOK
               go_wp2_with fail
               refine cP.mono ?_
               rintro e w4 ⟨rfl, rfl⟩
               clear cP
               go_wp2_with fail
               refine cF.mono ?_
               rintro e w5 ⟨f5, vd, rfl, hsd⟩
               obtain ⟨pd, cd, rfl, _⟩ := hsd
               have HF5 : Hid (Fr None' w w5) := (HF.out.then7 HF3.out).then7 f5
               clear cF f5
               go_wp2_with fail
               exact ⟨⟨k + 1, by omega, by go_num, HNX2.out, HF5.out.then7 (Fr.alloc None' _ _)⟩, by simp [intOf]; omega⟩
              ·have e : R = false := HNo.out (fun h => by obtain ⟨d, h1, h2⟩ := (HOK.out.1 h).2.2.2.2.2.2.2 p hpa; rw [hf] at h1; cases h1; exact hkd h2)
               subst e
               have zk : (Kd == 1) = false := by simpa using hkd
               clear HNX HNo HOK
               go_wp2_with fail
               refine cP.mono ?_
               rintro e w4 ⟨rfl, rfl⟩
               clear cP
               go_wp2_with fail
               refine cF.mono ?_
               rintro e w5 ⟨f5, vd, rfl, hsd⟩
               obtain ⟨pd, cd, rfl, _⟩ := hsd
               have HF5 : Hid (Fr None' w w5) := (HF.out.then7 HF3.out).then7 f5
               clear cF f5
               go_wp2_with fail
               go_ret
               exact ⟨rfl, HF5.out.then7 (Fr.alloc None' _ _)⟩
           ·have zk3 : (K == 3) = false := by simpa using hKt
            by_cases hDa : Da.size = 0
            ·have hDe := empty_of hDa
             subst hDe
             have cP := Path.rparent_any P w3 (by have := HZ.out.1; omega)
             unfold Path.parentS at cP
             cases hpa : Path.parent (bl P) with
             | none =>
              have hpa' : Path.parent P.data.toList = none := hpa
              rw [hpa'] at cP
              have hok : okD L k ⟨P, K, l, _⟩ = true := HOK.out.2 ⟨hpr, HAh.out, by show (1 : Int) ≤ K; omega, by show K ≤ (3 : Int); omega, hLr, Or.inr hle, Or.inr hDa, fun p hp => by rw [show Path.parent (bl P) = none from hpa] at hp; cases hp⟩
              have HNX2 : Hid (∀ j (h : j < L.length), j < k + 1 → okD L j L[j] = true) := HNX.out hok
              clear hok HNX HNo HOK
              go_wp2_with fail
              refine cP.mono ?_
              rintro e w4 ⟨rfl, rfl⟩
              clear cP
              go_wp2_with fail
              exact ⟨⟨k + 1, by omega, by go_num, HNX2.out, HF.out.then7 HF3.out⟩, by simp [intOf]; omega⟩
             | some p =>
              have hpa' : Path.parent P.data.toList = some p := hpa
              rw [hpa'] at cP
              have cF := efind_any (some ⟨g, o, none⟩) n c L ⟨p.toArray⟩ w3 HL.out (HE.out.kept (HF.out.then7 HF3.out)) (by omega)
              have ebl : bl ⟨p.toArray⟩ = p := rfl
              rw [ebl] at cF
              cases hf : Zt L p with
              | none =>
               rw [hf] at cF
               have e : R = false := HNo.out (fun h => by obtain ⟨d, h1, _⟩ := (HOK.out.1 h).2.2.2.2.2.2.2 p hpa; rw [hf] at h1; cases h1)
               subst e
               clear HNX HNo HOK
               go_wp2_with fail
               refine cP.mono ?_
               rintro e w4 ⟨rfl, rfl⟩
               clear cP
               go_wp2_with fail
               refine cF.mono ?_
               rintro e w5 ⟨f5, rfl⟩
               have HF5 : Hid (Fr None' w w5) := (HF.out.then7 HF3.out).then7 f5
               clear cF f5
               go_wp2_with fail
               go_ret
               exact ⟨rfl, HF5.out.then7 (Fr.alloc None' _ _)⟩
              | some d =>
               rw [hf] at cF
               obtain ⟨Pd, Kd, ld, Dd⟩ := d
               by_cases hkd : Kd = 1
               ·subst hkd
                have hok : okD L k ⟨P, K, l, _⟩ = true := HOK.out.2 ⟨hpr, HAh.out, by show (1 : Int) ≤ K; omega, by show K ≤ (3 : Int); omega, hLr, Or.inr hle, Or.inr hDa, fun p' hp => by rw [show Path.parent (bl P) = some p from hpa] at hp; cases hp; exact ⟨_, hf, rfl⟩⟩
                have HNX2 : Hid (∀ j (h : j < L.length), j < k + 1 → okD L j L[j] = true) := HNX.out hok
                clear hok HNX HNo HOK
                go_wp2_with fail
                refine cP.mono ?_
                rintro e w4 ⟨rfl, rfl⟩
                clear cP
                go_wp2_with fail
                refine cF.mono ?_
                rintro e w5 ⟨f5, vd, rfl, hsd⟩
                obtain ⟨pd, cd, rfl, _⟩ := hsd
                have HF5 : Hid (Fr None' w w5) := (HF.out.then7 HF3.out).then7 f5
                clear cF f5
                go_wp2_with fail
                exact ⟨⟨k + 1, by omega, by go_num, HNX2.out, HF5.out.then7 (Fr.alloc None' _ _)⟩, by simp [intOf]; omega⟩
               ·have e : R = false := HNo.out (fun h => by obtain ⟨d, h1, h2⟩ := (HOK.out.1 h).2.2.2.2.2.2.2 p hpa; rw [hf] at h1; cases h1; exact hkd h2)
                subst e
                have zk : (Kd == 1) = false := by simpa using hkd
                clear HNX HNo HOK
                go_wp2_with fail
                refine cP.mono ?_
                rintro e w4 ⟨rfl, rfl⟩
                clear cP
                go_wp2_with fail
                refine cF.mono ?_
                rintro e w5 ⟨f5, vd, rfl, hsd⟩
                obtain ⟨pd, cd, rfl, _⟩ := hsd
                have HF5 : Hid (Fr None' w w5) := (HF.out.then7 HF3.out).then7 f5
                clear cF f5
                go_wp2_with fail
                go_ret
                exact ⟨rfl, HF5.out.then7 (Fr.alloc None' _ _)⟩
            ·have yd := isEmpty_no hDa
             have e : R = false := HNo.out (fun h => by rcases (HOK.out.1 h).2.2.2.2.2.2.1 with h2 | h2; exact hKt h2; exact hDa h2)
             subst e
             go_wp2_with fail
             go_ret
             exact ⟨rfl, HF.out.then7 HF3.out⟩
          ·have qn : (0 : Int) < (nl : Int) := by omega
           have e : R = false := HNo.out (fun h => by rcases (HOK.out.1 h).2.2.2.2.2.1 with h2 | h2; exact hK2 h2; (have h3 : l = [] := h2; have h4 := HRW.out.2.1; rw [h3] at h4; exact hnl h4.symm))
           subst e
           go_wp2_with fail
           go_ret
           exact ⟨rfl, HF.out.then7 HF3.out⟩
     ·obtain ⟨i, he⟩ : ∃ i, k = i + 1 := ⟨k - 1, by omega⟩
      have hiL : i < L.length := by omega
      obtain ⟨g', o', e', vq, p0, _⟩ := (HE.out.kept HF.out).get hiL
      cases e'
      replace p0 := HF1.out.keepCell p0 (fun e => e)
      have HAe : Hid (ahead L k ⟨P, K, l, Da⟩ = decide (bl L[i].path < bl P)) := by show _ = _; rw [he]; exact ahead_succ hiL _
      have hle := less_eq L[i].path P
      obtain ⟨Q, hQ⟩ : ∃ Q, L[i].path = Q := ⟨_, rfl⟩
      rw [hQ] at p0 HAe hle
      have q2 : decide ((0 : Int) < (k : Int)) = true := by simp; omega
      have q2n : decide (0 < k) = true := by simp; omega
      have ri : IntKind.i64.wrap ((k : Int) - 1) = (i : Int) := by rw [IntKind.wrap_i64]; omega
      have ri2 : (k : Int) - 1 = (i : Int) := by omega
      have i5 : (0 : Int) ≤ (i : Int) := by omega
      have i6 : (i : Int) < (n : Int) := by omega
      clear he
      by_cases hlq : bl Q < bl P
      ·rw [decide_eq_true hlq] at hle
       have HAh : Hid (ahead L k ⟨P, K, l, Da⟩ = true) := by show _ = _; rw [HAe.out]; exact decide_eq_true hlq
       clear hQ HAe hlq
       by_cases hK1 : K < 1
       ·have e : R = false := HNo.out (fun h => by have h2 : (1 : Int) ≤ K := (HOK.out.1 h).2.2.1; omega)
        subst e
        have q3 : decide (K < 1) = true := by simpa using hK1
        go_wp2_with fail
        go_quiet ((go_at_call 43; exact Calls.quiet_of_same (cR _)))
        go_wp2_with fail
        go_ret
        exact ⟨rfl, (HF.out.then7 HF1.out).then7 (drewF _ _)⟩
       ·have q3 : decide (K < 1) = false := by simpa using hK1
        by_cases hK3 : 3 < K
        ·have e : R = false := HNo.out (fun h => by have h2 : K ≤ (3 : Int) := (HOK.out.1 h).2.2.2.1; omega)
         subst e
         have q4 : decide (3 < K) = true := by simpa using hK3
         go_wp2_with fail
         go_quiet ((go_at_call 43; exact Calls.quiet_of_same (cR _)))
         go_wp2_with fail
         go_ret
         exact ⟨rfl, (HF.out.then7 HF1.out).then7 (drewF _ _)⟩
        ·have q4 : decide (3 < K) = false := by simpa using hK3
         go_wp2_with fail
         go_quiet ((go_at_call 43; exact Calls.quiet_of_same (cR _)))
         obtain ⟨w2, hw2⟩ : ∃ x, w1.drewN nq = x := ⟨_, rfl⟩
         have f2 : Fr None' w1 w2 := hw2 ▸ drewF _ _
         rw [hw2]
         replace b0 := f2.keepCell b0 (fun e => e)
         replace b1 := f2.keepCell b1 (fun e => e)
         replace b2 := f2.keepCell b2 (fun e => e)
         replace b3 := f2.keepCell b3 (fun e => e)
         have HF2 : Hid (Fr None' wr w2) := HF1.out.then7 f2
         clear hw2 f2 cR d0 d1 d2 d3 HF1
         have cL : Calls Tryz.prog 44 #[.slice pl nl cl] w2 fun e w' => e = .returned (.bool (Lines.right (Lines.bs l))) ∧ Fr None' w2 w' := by
          have h := Lines.rRight_any pl cl l w2 (HRW.out.1.fr (toLN HF2.out)) (by rw [HRW.out.2.1]; have := HZ.out.2; omega) HRW.out.2.2
          rw [HRW.out.2.1] at h
          exact h.mono fun _ _ h => ⟨h.1, ofLN h.2⟩
         go_wp2_with fail
         refine cL.mono ?_
         rintro e w3 ⟨rfl, f3⟩
         replace b0 := f3.keepCell b0 (fun e => e)
         replace b1 := f3.keepCell b1 (fun e => e)
         replace b2 := f3.keepCell b2 (fun e => e)
         replace b3 := f3.keepCell b3 (fun e => e)
         have HF3 : Hid (Fr None' wr w3) := HF2.out.then7 f3
         clear cL f3 HF2
         cases hLr : Lines.right (Lines.bs l) with
         | false =>
          have e : R = false := HNo.out (fun h => by have h2 : Lines.right (Lines.bs l) = true := (HOK.out.1 h).2.2.2.2.1; rw [hLr] at h2; cases h2)
          subst e
          go_wp2_with fail
          go_ret
          exact ⟨rfl, HF.out.then7 HF3.out⟩
         | true =>
          by_cases hK2 : K = 2
          ·have zk2 : (K == 2) = true := by simpa using hK2
           have zk3 : (K == 3) = false := by simp; omega
           by_cases hDa : Da.size = 0
           ·have hDe := empty_of hDa
            subst hDe
            have cP := Path.rparent_any P w3 (by have := HZ.out.1; omega)
            unfold Path.parentS at cP
            cases hpa : Path.parent (bl P) with
            | none =>
             have hpa' : Path.parent P.data.toList = none := hpa
             rw [hpa'] at cP
             have hok : okD L k ⟨P, K, l, _⟩ = true := HOK.out.2 ⟨hpr, HAh.out, by show (1 : Int) ≤ K; omega, by show K ≤ (3 : Int); omega, hLr, Or.inl hK2, Or.inr hDa, fun p hp => by rw [show Path.parent (bl P) = none from hpa] at hp; cases hp⟩
             have HNX2 : Hid (∀ j (h : j < L.length), j < k + 1 → okD L j L[j] = true) := HNX.out hok
             clear hok HNX HNo HOK
             go_wp2_with fail
             refine cP.mono ?_
             rintro e w4 ⟨rfl, rfl⟩
             clear cP
             go_wp2_with fail
             exact ⟨⟨k + 1, by omega, by go_num, HNX2.out, HF.out.then7 HF3.out⟩, by simp [intOf]; omega⟩
            | some p =>
             have hpa' : Path.parent P.data.toList = some p := hpa
             rw [hpa'] at cP
             have cF := efind_any (some ⟨g, o, none⟩) n c L ⟨p.toArray⟩ w3 HL.out (HE.out.kept (HF.out.then7 HF3.out)) (by omega)
             have ebl : bl ⟨p.toArray⟩ = p := rfl
             rw [ebl] at cF
             cases hf : Zt L p with
             | none =>
              rw [hf] at cF
              have e : R = false := HNo.out (fun h => by obtain ⟨d, h1, _⟩ := (HOK.out.1 h).2.2.2.2.2.2.2 p hpa; rw [hf] at h1; cases h1)
              subst e
              clear HNX HNo HOK
              go_wp2_with fail
              refine cP.mono ?_
              rintro e w4 ⟨rfl, rfl⟩
              clear cP
              go_wp2_with fail
              refine cF.mono ?_
              rintro e w5 ⟨f5, rfl⟩
              have HF5 : Hid (Fr None' w w5) := (HF.out.then7 HF3.out).then7 f5
              clear cF f5
              go_wp2_with fail
              go_ret
              exact ⟨rfl, HF5.out.then7 (Fr.alloc None' _ _)⟩
             | some d =>
              rw [hf] at cF
              obtain ⟨Pd, Kd, ld, Dd⟩ := d
              by_cases hkd : Kd = 1
              ·subst hkd
               have hok : okD L k ⟨P, K, l, _⟩ = true := HOK.out.2 ⟨hpr, HAh.out, by show (1 : Int) ≤ K; omega, by show K ≤ (3 : Int); omega, hLr, Or.inl hK2, Or.inr hDa, fun p' hp => by rw [show Path.parent (bl P) = some p from hpa] at hp; cases hp; exact ⟨_, hf, rfl⟩⟩
               have HNX2 : Hid (∀ j (h : j < L.length), j < k + 1 → okD L j L[j] = true) := HNX.out hok
               clear hok HNX HNo HOK
               go_wp2_with fail
               refine cP.mono ?_
               rintro e w4 ⟨rfl, rfl⟩
               clear cP
               go_wp2_with fail
               refine cF.mono ?_
               rintro e w5 ⟨f5, vd, rfl, hsd⟩
               obtain ⟨pd, cd, rfl, _⟩ := hsd
               have HF5 : Hid (Fr None' w w5) := (HF.out.then7 HF3.out).then7 f5
               clear cF f5
               go_wp2_with fail
               exact ⟨⟨k + 1, by omega, by go_num, HNX2.out, HF5.out.then7 (Fr.alloc None' _ _)⟩, by simp [intOf]; omega⟩
              ·have e : R = false := HNo.out (fun h => by obtain ⟨d, h1, h2⟩ := (HOK.out.1 h).2.2.2.2.2.2.2 p hpa; rw [hf] at h1; cases h1; exact hkd h2)
               subst e
               have zk : (Kd == 1) = false := by simpa using hkd
               clear HNX HNo HOK
               go_wp2_with fail
               refine cP.mono ?_
               rintro e w4 ⟨rfl, rfl⟩
               clear cP
               go_wp2_with fail
               refine cF.mono ?_
               rintro e w5 ⟨f5, vd, rfl, hsd⟩
               obtain ⟨pd, cd, rfl, _⟩ := hsd
               have HF5 : Hid (Fr None' w w5) := (HF.out.then7 HF3.out).then7 f5
               clear cF f5
               go_wp2_with fail
               go_ret
               exact ⟨rfl, HF5.out.then7 (Fr.alloc None' _ _)⟩
           ·have yd := isEmpty_no hDa
            have e : R = false := HNo.out (fun h => by rcases (HOK.out.1 h).2.2.2.2.2.2.1 with h2 | h2; (have h3 : K = 3 := h2; omega); exact hDa h2)
            subst e
            go_wp2_with fail
            go_ret
            exact ⟨rfl, HF.out.then7 HF3.out⟩
          ·have zk2 : (K == 2) = false := by simpa using hK2
           by_cases hnl : nl = 0
           ·have qn : ¬ (0 : Int) < (nl : Int) := by omega
            have hle : l = [] := List.length_eq_zero_iff.1 (by rw [HRW.out.2.1]; exact hnl)
            by_cases hKt : K = 3
            ·have zk3 : (K == 3) = true := by simpa using hKt
             have cP := Path.rparent_any P w3 (by have := HZ.out.1; omega)
             unfold Path.parentS at cP
             cases hpa : Path.parent (bl P) with
             | none =>
              have hpa' : Path.parent P.data.toList = none := hpa
              rw [hpa'] at cP
              have hok : okD L k ⟨P, K, l, _⟩ = true := HOK.out.2 ⟨hpr, HAh.out, by show (1 : Int) ≤ K; omega, by show K ≤ (3 : Int); omega, hLr, Or.inr hle, Or.inl hKt, fun p hp => by rw [show Path.parent (bl P) = none from hpa] at hp; cases hp⟩
              have HNX2 : Hid (∀ j (h : j < L.length), j < k + 1 → okD L j L[j] = true) := HNX.out hok
              clear hok HNX HNo HOK
              go_wp2_with fail
              refine cP.mono ?_
              rintro e w4 ⟨rfl, rfl⟩
              clear cP
              go_wp2_with fail
              exact ⟨⟨k + 1, by omega, by go_num, HNX2.out, HF.out.then7 HF3.out⟩, by simp [intOf]; omega⟩
             | some p =>
              have hpa' : Path.parent P.data.toList = some p := hpa
              rw [hpa'] at cP
              have cF := efind_any (some ⟨g, o, none⟩) n c L ⟨p.toArray⟩ w3 HL.out (HE.out.kept (HF.out.then7 HF3.out)) (by omega)
              have ebl : bl ⟨p.toArray⟩ = p := rfl
              rw [ebl] at cF
              cases hf : Zt L p with
              | none =>
               rw [hf] at cF
               have e : R = false := HNo.out (fun h => by obtain ⟨d, h1, _⟩ := (HOK.out.1 h).2.2.2.2.2.2.2 p hpa; rw [hf] at h1; cases h1)
               subst e
               clear HNX HNo HOK
               go_wp2_with fail
               refine cP.mono ?_
               rintro e w4 ⟨rfl, rfl⟩
               clear cP
               go_wp2_with fail
               refine cF.mono ?_
               rintro e w5 ⟨f5, rfl⟩
               have HF5 : Hid (Fr None' w w5) := (HF.out.then7 HF3.out).then7 f5
               clear cF f5
               go_wp2_with fail
               go_ret
               exact ⟨rfl, HF5.out.then7 (Fr.alloc None' _ _)⟩
              | some d =>
               rw [hf] at cF
               obtain ⟨Pd, Kd, ld, Dd⟩ := d
               by_cases hkd : Kd = 1
               ·subst hkd
                have hok : okD L k ⟨P, K, l, _⟩ = true := HOK.out.2 ⟨hpr, HAh.out, by show (1 : Int) ≤ K; omega, by show K ≤ (3 : Int); omega, hLr, Or.inr hle, Or.inl hKt, fun p' hp => by rw [show Path.parent (bl P) = some p from hpa] at hp; cases hp; exact ⟨_, hf, rfl⟩⟩
                have HNX2 : Hid (∀ j (h : j < L.length), j < k + 1 → okD L j L[j] = true) := HNX.out hok
                clear hok HNX HNo HOK
                go_wp2_with fail
                refine cP.mono ?_
                rintro e w4 ⟨rfl, rfl⟩
                clear cP
                go_wp2_with fail
                refine cF.mono ?_
                rintro e w5 ⟨f5, vd, rfl, hsd⟩
                obtain ⟨pd, cd, rfl, _⟩ := hsd
                have HF5 : Hid (Fr None' w w5) := (HF.out.then7 HF3.out).then7 f5
                clear cF f5
                go_wp2_with fail
                exact ⟨⟨k + 1, by omega, by go_num, HNX2.out, HF5.out.then7 (Fr.alloc None' _ _)⟩, by simp [intOf]; omega⟩
               ·have e : R = false := HNo.out (fun h => by obtain ⟨d, h1, h2⟩ := (HOK.out.1 h).2.2.2.2.2.2.2 p hpa; rw [hf] at h1; cases h1; exact hkd h2)
                subst e
                have zk : (Kd == 1) = false := by simpa using hkd
                clear HNX HNo HOK
                go_wp2_with fail
                refine cP.mono ?_
                rintro e w4 ⟨rfl, rfl⟩
                clear cP
                go_wp2_with fail
                refine cF.mono ?_
                rintro e w5 ⟨f5, vd, rfl, hsd⟩
                obtain ⟨pd, cd, rfl, _⟩ := hsd
                have HF5 : Hid (Fr None' w w5) := (HF.out.then7 HF3.out).then7 f5
                clear cF f5
                go_wp2_with fail
                go_ret
                exact ⟨rfl, HF5.out.then7 (Fr.alloc None' _ _)⟩
            ·have zk3 : (K == 3) = false := by simpa using hKt
             by_cases hDa : Da.size = 0
             ·have hDe := empty_of hDa
              subst hDe
              have cP := Path.rparent_any P w3 (by have := HZ.out.1; omega)
              unfold Path.parentS at cP
              cases hpa : Path.parent (bl P) with
              | none =>
               have hpa' : Path.parent P.data.toList = none := hpa
               rw [hpa'] at cP
               have hok : okD L k ⟨P, K, l, _⟩ = true := HOK.out.2 ⟨hpr, HAh.out, by show (1 : Int) ≤ K; omega, by show K ≤ (3 : Int); omega, hLr, Or.inr hle, Or.inr hDa, fun p hp => by rw [show Path.parent (bl P) = none from hpa] at hp; cases hp⟩
               have HNX2 : Hid (∀ j (h : j < L.length), j < k + 1 → okD L j L[j] = true) := HNX.out hok
               clear hok HNX HNo HOK
               go_wp2_with fail
               refine cP.mono ?_
               rintro e w4 ⟨rfl, rfl⟩
               clear cP
               go_wp2_with fail
               exact ⟨⟨k + 1, by omega, by go_num, HNX2.out, HF.out.then7 HF3.out⟩, by simp [intOf]; omega⟩
              | some p =>
               have hpa' : Path.parent P.data.toList = some p := hpa
               rw [hpa'] at cP
               have cF := efind_any (some ⟨g, o, none⟩) n c L ⟨p.toArray⟩ w3 HL.out (HE.out.kept (HF.out.then7 HF3.out)) (by omega)
               have ebl : bl ⟨p.toArray⟩ = p := rfl
               rw [ebl] at cF
               cases hf : Zt L p with
               | none =>
                rw [hf] at cF
                have e : R = false := HNo.out (fun h => by obtain ⟨d, h1, _⟩ := (HOK.out.1 h).2.2.2.2.2.2.2 p hpa; rw [hf] at h1; cases h1)
                subst e
                clear HNX HNo HOK
                go_wp2_with fail
                refine cP.mono ?_
                rintro e w4 ⟨rfl, rfl⟩
                clear cP
                go_wp2_with fail
                refine cF.mono ?_
                rintro e w5 ⟨f5, rfl⟩
                have HF5 : Hid (Fr None' w w5) := (HF.out.then7 HF3.out).then7 f5
                clear cF f5
                go_wp2_with fail
                go_ret
                exact ⟨rfl, HF5.out.then7 (Fr.alloc None' _ _)⟩
               | some d =>
                rw [hf] at cF
                obtain ⟨Pd, Kd, ld, Dd⟩ := d
                by_cases hkd : Kd = 1
                ·subst hkd
                 have hok : okD L k ⟨P, K, l, _⟩ = true := HOK.out.2 ⟨hpr, HAh.out, by show (1 : Int) ≤ K; omega, by show K ≤ (3 : Int); omega, hLr, Or.inr hle, Or.inr hDa, fun p' hp => by rw [show Path.parent (bl P) = some p from hpa] at hp; cases hp; exact ⟨_, hf, rfl⟩⟩
                 have HNX2 : Hid (∀ j (h : j < L.length), j < k + 1 → okD L j L[j] = true) := HNX.out hok
                 clear hok HNX HNo HOK
                 go_wp2_with fail
                 refine cP.mono ?_
                 rintro e w4 ⟨rfl, rfl⟩
                 clear cP
                 go_wp2_with fail
                 refine cF.mono ?_
                 rintro e w5 ⟨f5, vd, rfl, hsd⟩
                 obtain ⟨pd, cd, rfl, _⟩ := hsd
                 have HF5 : Hid (Fr None' w w5) := (HF.out.then7 HF3.out).then7 f5
                 clear cF f5
                 go_wp2_with fail
                 exact ⟨⟨k + 1, by omega, by go_num, HNX2.out, HF5.out.then7 (Fr.alloc None' _ _)⟩, by simp [intOf]; omega⟩
                ·have e : R = false := HNo.out (fun h => by obtain ⟨d, h1, h2⟩ := (HOK.out.1 h).2.2.2.2.2.2.2 p hpa; rw [hf] at h1; cases h1; exact hkd h2)
                 subst e
                 have zk : (Kd == 1) = false := by simpa using hkd
                 clear HNX HNo HOK
                 go_wp2_with fail
                 refine cP.mono ?_
                 rintro e w4 ⟨rfl, rfl⟩
                 clear cP
                 go_wp2_with fail
                 refine cF.mono ?_
                 rintro e w5 ⟨f5, vd, rfl, hsd⟩
                 obtain ⟨pd, cd, rfl, _⟩ := hsd
                 have HF5 : Hid (Fr None' w w5) := (HF.out.then7 HF3.out).then7 f5
                 clear cF f5
                 go_wp2_with fail
                 go_ret
                 exact ⟨rfl, HF5.out.then7 (Fr.alloc None' _ _)⟩
             ·have yd := isEmpty_no hDa
              have e : R = false := HNo.out (fun h => by rcases (HOK.out.1 h).2.2.2.2.2.2.1 with h2 | h2; exact hKt h2; exact hDa h2)
              subst e
              go_wp2_with fail
              go_ret
              exact ⟨rfl, HF.out.then7 HF3.out⟩
           ·have qn : (0 : Int) < (nl : Int) := by omega
            have e : R = false := HNo.out (fun h => by rcases (HOK.out.1 h).2.2.2.2.2.1 with h2 | h2; exact hK2 h2; (have h3 : l = [] := h2; have h4 := HRW.out.2.1; rw [h3] at h4; exact hnl h4.symm))
            subst e
            go_wp2_with fail
            go_ret
            exact ⟨rfl, HF.out.then7 HF3.out⟩
      ·rw [decide_eq_false hlq] at hle
       have e : R = false := HNo.out (fun h => by have h2 := (HOK.out.1 h).2.1; rw [HAe.out, decide_eq_false hlq] at h2; cases h2)
       subst e
       clear hQ HAe hlq
       go_wp2_with fail
       go_quiet ((go_at_call 43; exact Calls.quiet_of_same (cR _)))
       go_wp2_with fail
       go_ret
       exact ⟨rfl, (HF.out.then7 HF1.out).then7 (drewF _ _)⟩
   ·have e : k = n := by omega
    subst e
    have e : R = true := by
     rw [← HR.out]
     exact (treeRight_D L).2 ⟨by rw [HL.out]; exact HNB.out, fun j hj => HT.out j hj (by rw [← HL.out]; exact hj)⟩
    subst e
    go_wp2_with fail
    go_ret
    exact ⟨rfl, HF.out⟩
end Go.Proofs.YtbnfjjjdnbcehaaGreatDoor
