/- What is proved here: contracts for RecordMakes. Conditions: as named. -/
import Derived.Test.YtbnfjjjdnbcehaaGreatDoorX8Strs9
import Derived.Test.YtbnfjjjdnbcehaaGreatDoorX9Plain8
import Derived.Test.YtbnfjjjdnbcehaaGreatDoorX20PSplit
import Derived.Test.YtbnfjjjdnbcehaaGreatDoorX24LIter
import Derived.Maps.OwnSet
import Derived.BigQuiet
import Derived.WalkLawsBesides
import Derived.Test.YtbnfjjjdnbcehaaGreatDoorX18PRunes
import Derived.Test.YtbnfjjjdnbcehaaGreatDoorX16PRRest
import Derived.Test.YtbnfjjjdnbcehaaGreatDoorXLay8
import Derived.Test.YtbnfjjjdnbcehaaGreatDoorX19Has8
set_option maxHeartbeats 16000000
namespace Go.Proofs.YtbnfjjjdnbcehaaGreatDoor
open Go.RowKit Go.Maps
set_option maxRecDepth 100000
theorem empty_of {D : ByteArray} (h : D.size = 0) : D = ⟨#[]⟩ := by
 cases D with | mk a => cases a with | mk l => cases l with
  | nil => rfl
  | cons c l => simp [ByteArray.size] at h
theorem str_no7 {x y : ByteArray} (h : ¬ x = y) : (¬ x.toList = y.toList) ∧ (x.toList == y.toList) = false := by
 rw [ByteArray.toList_eq, ByteArray.toList_eq]
 have : ¬ x.data.toList = y.data.toList := fun e => h (by cases x with | mk a => cases y with | mk b => cases a; cases b; simp at e; subst e; rfl)
 exact ⟨this, by simpa using this⟩
theorem isEmpty_no {D : ByteArray} (h : ¬ D.size = 0) : D.toList.isEmpty = false := by
 rw [ByteArray.toList_eq]
 cases D with | mk a => cases a with | mk l => cases l with
  | nil => exact absurd rfl h
  | cons c l => rfl
theorem ret_bool' {a b : Bool} (h : a = b) : Ending.returned (.bool a) = .returned (.bool b) := by rw [h]
theorem thing_dir (P D : ByteArray) (l : List ByteArray) : thing ⟨P, 1, l, D⟩ = (decide (l.length = 0) && decide (D.size = 0)) := by
 unfold thing
 rw [if_pos rfl]
 congr 1
 exact decide_eq_decide.2 List.length_eq_zero_iff.symm
theorem thing_text (P D : ByteArray) (l : List ByteArray) : thing ⟨P, 2, l, D⟩ = (Lines.right (Lines.bs l) && decide (D.size = 0)) := by
 unfold thing
 rw [if_neg (show ¬ (2 : Int) = 1 by decide), if_pos rfl]
theorem thing_data (P D : ByteArray) (l : List ByteArray) : thing ⟨P, 3, l, D⟩ = decide (l.length = 0) := by
 unfold thing
 rw [if_neg (show ¬ (3 : Int) = 1 by decide), if_neg (show ¬ (3 : Int) = 2 by decide), if_pos rfl]
 exact decide_eq_decide.2 List.length_eq_zero_iff.symm
theorem thing_other (P D : ByteArray) (K : Int) (l : List ByteArray) (h1 : ¬ K = 1) (h2 : ¬ K = 2) (h3 : ¬ K = 3) : thing ⟨P, K, l, D⟩ = false := by
 unfold thing
 rw [if_neg h1, if_neg h2, if_neg h3]
theorem rightThing_any (P D : ByteArray) (K : Int) (l : List ByteArray) (va : Option Addr) (n c : Nat) (w : World) (hn : l.length = n) (hr : Lines.Row w va l) (hl : (n : Int) < 1000000) :
  Calls Tryz.prog 65 #[.agg #[.string P, .int .i64 K, .slice va n c, .string D]] w fun e w' => e = .returned (.bool (thing ⟨P, K, l, D⟩)) ∧ Fr None' w w' := by
 have HR : Hid (Calls Tryz.prog 93 #[.slice va n c] (w.alloc (.cells #[.string P, .int .i64 K, .slice va n c, .string D] 45)) fun e w' => e = .returned (.bool (Lines.right (Lines.bs l))) ∧ (w.alloc (.cells #[.string P, .int .i64 K, .slice va n c, .string D] 45)) = w') := by
  have h := Lines.right_any va c l (w.alloc (.cells #[.string P, .int .i64 K, .slice va n c, .string D] 45)) (hr.fr (toLN (Fr.alloc None' w _))) (by rw [hn]; exact hl)
  rw [hn] at h
  exact h
 have HN : Hid (l.length = n) := hn
 obtain ⟨B, hB⟩ : ∃ B, thing ⟨P, K, l, D⟩ = B := ⟨_, rfl⟩
 have HB : Hid (thing ⟨P, K, l, D⟩ = B) := hB
 rw [hB]
 clear hB hr hn
 by_cases h1 : K = 1
 ·subst h1
  by_cases h0 : n = 0
  ·have q : ((n : Int) == 0) = true := by simp; omega
   have q2 : (n : Int) = 0 := by omega
   by_cases hD : D.size = 0
   ·have e : B = true := by rw [← HB.out, thing_dir, HN.out]; simp [h0, hD]
    subst e
    obtain rfl := empty_of hD
    go_enter Tryz.func65, Tryz.ntmps65
    go_wp2_with fail
    go_ret
    exact ⟨by first | rfl | exact ret_bool' y3, Fr.alloc None' w _⟩
   ·have e : B = false := by rw [← HB.out, thing_dir, HN.out]; simp [h0, hD]
    subst e
    have y3 := isEmpty_no hD
    go_enter Tryz.func65, Tryz.ntmps65
    go_wp2_with fail
    go_ret
    exact ⟨by first | rfl | exact ret_bool' y3, Fr.alloc None' w _⟩
  ·have e : B = false := by rw [← HB.out, thing_dir, HN.out]; simp [h0]
   subst e
   have q : ((n : Int) == 0) = false := by simp; omega
   have q2 : ¬ (n : Int) = 0 := by omega
   go_enter Tryz.func65, Tryz.ntmps65
   go_wp2_with fail
   go_ret
   exact ⟨by first | rfl | exact ret_bool' y3, Fr.alloc None' w _⟩
 ·have z1 : (K == 1) = false := by simpa using h1
  by_cases h2 : K = 2
  ·subst h2
   cases hR : Lines.right (Lines.bs l) with
   | true =>
    rw [hR] at HR
    by_cases hD : D.size = 0
    ·have e : B = true := by rw [← HB.out, thing_text, hR]; simp [hD]
     subst e
     obtain rfl := empty_of hD
     go_enter Tryz.func65, Tryz.ntmps65
     go_wp2_with (go_at_call 93; refine HR.out.mono ?_; rintro e w1 ⟨rfl, rfl⟩)
     go_ret
     exact ⟨by first | rfl | exact ret_bool' y3, Fr.alloc None' w _⟩
    ·have e : B = false := by rw [← HB.out, thing_text, hR]; simp [hD]
     subst e
     have y3 := isEmpty_no hD
     go_enter Tryz.func65, Tryz.ntmps65
     go_wp2_with (go_at_call 93; refine HR.out.mono ?_; rintro e w1 ⟨rfl, rfl⟩)
     go_ret
     exact ⟨by first | rfl | exact ret_bool' y3, Fr.alloc None' w _⟩
   | false =>
    rw [hR] at HR
    have e : B = false := by rw [← HB.out, thing_text, hR]; rfl
    subst e
    go_enter Tryz.func65, Tryz.ntmps65
    go_wp2_with (go_at_call 93; refine HR.out.mono ?_; rintro e w1 ⟨rfl, rfl⟩)
    go_ret
    exact ⟨by first | rfl | exact ret_bool' y3, Fr.alloc None' w _⟩
  ·have z2 : (K == 2) = false := by simpa using h2
   by_cases h3 : K = 3
   ·subst h3
    by_cases h0 : n = 0
    ·have e : B = true := by rw [← HB.out, thing_data, HN.out]; simp [h0]
     subst e
     have q : ((n : Int) == 0) = true := by simp; omega
     have q2 : (n : Int) = 0 := by omega
     go_enter Tryz.func65, Tryz.ntmps65
     go_wp2_with fail
     go_ret
     exact ⟨by first | rfl | exact ret_bool' y3, Fr.alloc None' w _⟩
    ·have e : B = false := by rw [← HB.out, thing_data, HN.out]; simp [h0]
     subst e
     have q : ((n : Int) == 0) = false := by simp; omega
     have q2 : ¬ (n : Int) = 0 := by omega
     go_enter Tryz.func65, Tryz.ntmps65
     go_wp2_with fail
     go_ret
     exact ⟨by first | rfl | exact ret_bool' y3, Fr.alloc None' w _⟩
   ·have z3 : (K == 3) = false := by simpa using h3
    have e : B = false := by rw [← HB.out]; exact thing_other P D K l h1 h2 h3
    subst e
    go_enter Tryz.func65, Tryz.ntmps65
    go_wp2_with fail
    go_ret
    exact ⟨by first | rfl | exact ret_bool' y3, Fr.alloc None' w _⟩
end Go.Proofs.YtbnfjjjdnbcehaaGreatDoor
namespace Go.Proofs.YtbnfjjjdnbcehaaGreatDoor
open Go.RowKit Go.Maps Go.WideMaps
set_option maxRecDepth 100000
def lastP (seen : List En) : List UInt8 := match seen.getLast? with
 | none => []
 | some y => bl y.path
theorem lastP_snoc (seen : List En) (x : En) : lastP (seen ++ [x]) = bl x.path := by
 unfold lastP
 rw [List.getLast?_concat]
theorem not_above {P la : ByteArray} {seen : List En} {x : En} (hx : x.path = P) (hl : bl la = lastP seen) (hr : Path.right (bl P) = true) : (rises seen x = true → Op.bytesLess P.toList la.toList = false ∧ (P.toList == la.toList) = false ∧ ¬ P.toList = la.toList) ∧ (rises seen x = false → Op.bytesLess P.toList la.toList = true ∨ (Op.bytesLess P.toList la.toList = false ∧ P = la)) := by
 subst hx
 have eb : Op.bytesLess x.path.toList la.toList = decide (bl x.path < bl la) := by rw [ByteArray.toList_eq, ByteArray.toList_eq, Go.Proofs.bytesLess_eq]; rfl
 have et : x.path.toList = bl x.path ∧ la.toList = bl la := ⟨by rw [ByteArray.toList_eq]; rfl, by rw [ByteArray.toList_eq]; rfl⟩
 rw [eb, et.1, et.2]
 have ne : bl x.path ≠ [] := fun e => by rw [e] at hr; simp [Path.right, Path.parts, Path.goodPart] at hr
 have key : rises seen x = decide (bl la < bl x.path) := by
  unfold rises
  rw [hl]
  unfold lastP
  cases seen.getLast? with
  | some y => rfl
  | none =>
   cases h : bl x.path with
   | nil => exact absurd h ne
   | cons c r => simp
 rw [key]
 constructor
 ·intro h
  have h1 : bl la < bl x.path := by simpa using h
  have h2 : ¬ bl x.path < bl la := fun h3 => List.lt_irrefl _ (List.lt_trans h1 h3)
  have h3 : ¬ bl x.path = bl la := fun h3 => by rw [h3] at h1; exact List.lt_irrefl _ h1
  exact ⟨decide_eq_false h2, by simpa using h3, h3⟩
 ·intro h
  have h1 : ¬ bl la < bl x.path := by simpa using h
  by_cases h2 : bl x.path < bl la
  ·exact Or.inl (decide_eq_true h2)
  ·refine Or.inr ⟨decide_eq_false h2, ?_⟩
   have h3 : bl x.path = bl la := List.le_antisymm h1 h2
   have : x.path.data.toList = la.data.toList := h3
   cases hx : x.path with | mk a => cases la with | mk b =>
    rw [hx] at this
    cases a; cases b
    simp at this
    rw [this]
theorem cell4 (w : World) (e : TypeId) (x y z u : Value) : (w.alloc (.cells #[x, y, z, u] e)).cell? ⟨w.heap.size, 0, none⟩ = some x ∧ (w.alloc (.cells #[x, y, z, u] e)).cell? ⟨w.heap.size, 1, none⟩ = some y ∧ (w.alloc (.cells #[x, y, z, u] e)).cell? ⟨w.heap.size, 2, none⟩ = some z ∧ (w.alloc (.cells #[x, y, z, u] e)).cell? ⟨w.heap.size, 3, none⟩ = some u := by simp
theorem zeroU (w : World) : (zeroValue 97).run Tryz.prog w = .ok (.agg #[]) w := by kernel_rfl
structure RT (L : List En) (k : Nat) (D : DataW Unit) (la : ByteArray) : Prop where
 ok : ∀ j (h : j < L.length), j < k → okAt (L.take j) L[j] = true
 dirs : ∀ p, Maps.has D (.string p) = isDir (L.take k) p
 last : bl la = lastP (L.take k)
 map : IsMap D
theorem RT.start (L : List En) : RT L 0 (.map []) ⟨#[]⟩ := ⟨fun j _ h => by omega, fun p => by simp [isDir, Maps.has], rfl, ⟨_, rfl⟩⟩
theorem RT.next {L : List En} {k : Nat} {D : DataW Unit} {la : ByteArray} (h : RT L k D la) (hk : k < L.length) (ok : okAt (L.take k) L[k] = true) : RT L (k + 1) (if L[k].kind = 1 then D.put (.string (bl L[k].path)) (.agg []) else D) L[k].path := by
 refine ⟨fun j hj hlt => ?_, fun p => ?_, ?_, ?_⟩
 ·by_cases e : j = k
  ·subst e; exact ok
  ·exact h.ok j hj (by omega)
 ·rw [List.take_succ_eq_append_getElem hk, isDir_snoc, ← h.dirs p]
  by_cases e : L[k].kind = 1
  ·rw [if_pos e]
   by_cases e2 : bl L[k].path = p
   ·subst e2
    rw [has_put_same h.map (by trivial)]
    simp [e]
   ·rw [has_put_other (fun e3 => e2 (by injection e3 with e3; exact e3.symm))]
    simp [e2]
  ·rw [if_neg e]
   simp [e]
 ·rw [List.take_succ_eq_append_getElem hk, lastP_snoc]
 ·by_cases e : L[k].kind = 1
  ·rw [if_pos e]; exact h.map.put _ _
  ·rw [if_neg e]; exact h.map
theorem okAt_parts {seen : List En} {x : En} : okAt seen x = true ↔ Path.right (bl x.path) = true ∧ rises seen x = true ∧ thing x = true ∧ parentOk seen x = true := by
 unfold okAt
 simp only [Bool.and_eq_true, and_assoc]
theorem parent_len {P : ByteArray} {p : List UInt8} (h : Path.parent P.data.toList = some p) : (⟨p.toArray⟩ : ByteArray).size ≤ P.size := by
 obtain ⟨b, e, _⟩ := Path.parent_some h
 have h1 : P.data.toList.length = P.size := by cases P; rfl
 have h2 : (⟨p.toArray⟩ : ByteArray).size = p.length := rfl
 rw [e, List.length_append] at h1
 omega
def SmallE (L : List En) : Prop := ∀ x ∈ L, x.path.size < 10000000 ∧ x.data.size < 10000000 ∧ x.lines.length < 900000 ∧ ∀ y ∈ x.lines, y.size < 90000000
theorem tright_any (va : Option Addr) (n c : Nat) (L : List En) (w : World) (hl : L.length = n) (h : Z0 w va L) (hn : n ≤ 100000) (hs : SmallE L) :
  Calls Tryz.prog 36 #[.slice va n c] w fun e w' => e = .returned (.bool (Zw L)) ∧ Fr None' w w' := by
 have HL : Hid (L.length = n) := hl
 have HS : Hid (SmallE L) := hs
 have HE : Hid (Z0 w va L) := h
 have hmm := @run_makeMap Tryz.prog
 have i1 : (n : Int) ≤ 100000 := by omega
 by_cases hbig : 1024 < n
 ·have e : Zw L = false := treeRight_long (by rw [hl]; exact hbig)
  rw [e]
  have q : (1024 : Int) < (n : Int) := by omega
  clear hl h hs hmm
  go_enter Tryz.func36, Tryz.ntmps36
  go_wp2_with fail
  go_ret
  exact ⟨rfl, Fr.refl _ _⟩
 ·obtain ⟨R, hR⟩ : ∃ R, Zw L = R := ⟨_, rfl⟩
  have HR : Hid (Zw L = R) := hR
  rw [hR]
  have q : ¬ (1024 : Int) < (n : Int) := by omega
  have HNB : Hid (n ≤ 1024) := by show _ ≤ _; omega
  have M0 : Hid ((w.alloc (.map #[] 0)).ownsMap Tryz.prog 9 (unitElem (H := Unit)) w.heap.size 0 (.map [])) := World.ownsMap_made _ _ _ _
  clear hl h hs hR hbig hn
  go_enter Tryz.func36, Tryz.ntmps36
  go_wp2_with fail
  clear hmm q
  go_loopw [4, 17] (fun vl vi wr => ∃ (k m : Nat) (D : DataW Unit) (la : ByteArray), k ≤ n ∧ m ≤ k ∧ vi = .int .i64 k ∧ vl = .string la ∧ Hid (wr.ownsMap Tryz.prog 9 unitElem w.heap.size m D) ∧ Hid (RT L k D la) ∧ Hid (Fr None' w wr)) (fun _ vi _ => n - (intOf vi).toNat)
  case atStart => exact ⟨0, 0, .map [], ⟨#[]⟩, Nat.zero_le _, Nat.le_refl _, rfl, rfl, M0.out, RT.start L, Fr.alloc None' w _⟩
  case round =>
   clear M0
   obtain ⟨k, m, D, la, hk, hm, rfl, rfl, HM, HT, HF⟩ := hrel
   by_cases hlt : k < n
   ·have hkL : k < L.length := by rw [HL.out]; exact hlt
    obtain ⟨g, o, rfl, vl, d0, d1, d2, d3, hs1⟩ := (HE.out.kept HF.out).get hkL
    obtain ⟨pl, cl, rfl, _, _, hr⟩ := hs1
    obtain ⟨z1, z2, z3, z4⟩ := HS.out _ (List.getElem_mem hkL)
    have HN := HT.out.next hkL
    have HNo : Hid (okAt (L.take k) L[k] = false → R = false) := fun h => by rw [← HR.out]; exact treeRight_no hkL h
    obtain ⟨x, hxe⟩ : ∃ x, L[k] = x := ⟨_, rfl⟩
    rw [hxe] at d0 d1 d2 d3 hr z1 z2 z3 z4 HN HNo
    obtain ⟨P, K, l, Da⟩ := x
    simp only at d0 d1 d2 d3 hr z1 z2 z3 z4 HN
    obtain ⟨nl, hnl⟩ : ∃ m, l.length = m := ⟨_, rfl⟩
    rw [hnl] at d2 z3
    have HRW : Hid (Lines.Row wr pl l ∧ l.length = nl) := ⟨hr, hnl⟩
    have HNX : Hid (okAt (L.take k) ⟨P, K, l, Da⟩ = true → RT L (k + 1) (if K = 1 then D.put (.string (bl P)) (.agg []) else D) P) := HN
    have HZ : Hid (P.size < 10000000 ∧ nl < 900000) := ⟨z1, z3⟩
    have i2 : (k : Int) < (n : Int) := by omega
    have i3 : (0 : Int) ≤ (k : Int) := by omega
    clear hxe hnl hr HN z1 z2 z3 z4
    go_wp2_with fail
    refine (Path.right_any P _ (by have := HZ.out.1; omega)).mono ?_
    rintro e w2 ⟨rfl, hb⟩
    have f2 := ofBelow hb
    obtain ⟨b0, b1, b2, b3⟩ := cell4 wr 45 (.string P) (.int .i64 K) (.slice pl nl cl) (.string Da)
    replace b0 := f2.keepCell b0 (fun e => e)
    replace b1 := f2.keepCell b1 (fun e => e)
    replace b2 := f2.keepCell b2 (fun e => e)
    replace b3 := f2.keepCell b3 (fun e => e)
    have F2 : Fr None' wr w2 := (Fr.alloc None' wr _).then7 f2
    have HF2 : Hid (Fr None' wr w2) := F2
    have HM2 : Hid (w2.ownsMap Tryz.prog 9 unitElem w.heap.size m D) := F2.map HM.out (fun e => e)
    clear hb f2 F2 d0 d1 d2 d3 HM
    have HOK : Hid (okAt (L.take k) ⟨P, K, l, Da⟩ = true ↔ Path.right (bl P) = true ∧ rises (L.take k) ⟨P, K, l, Da⟩ = true ∧ thing ⟨P, K, l, Da⟩ = true ∧ parentOk (L.take k) ⟨P, K, l, Da⟩ = true) := okAt_parts
    cases hpr : Path.right (bl P) with
    | false =>
     have e : R = false := HNo.out (by
      cases h : okAt (L.take k) ⟨P, K, l, Da⟩ with
      | false => rfl
      | true => have := (HOK.out.1 h).1; rw [hpr] at this; cases this)
     subst e
     have hpr' : Path.right P.data.toList = false := hpr
     rw [hpr']
     go_wp2_with fail
     go_ret
     exact ⟨rfl, HF.out.then7 HF2.out⟩
    | true =>
     have hpr' : Path.right P.data.toList = true := hpr
     rw [hpr']
     have hna := not_above (x := ⟨P, K, l, Da⟩) rfl HT.out.last hpr
     have hno : ∀ {b : Bool}, (okAt (L.take k) ⟨P, K, l, Da⟩ = true → b = true) → b = false → R = false := fun {b} h hb => HNo.out (by
      cases h2 : okAt (L.take k) ⟨P, K, l, Da⟩ with
      | false => rfl
      | true => rw [h h2] at hb; cases hb)
     cases hri : rises (L.take k) ⟨P, K, l, Da⟩ with
     | false =>
      have e : R = false := hno (fun h => (HOK.out.1 h).2.1) hri
      subst e
      rcases hna.2 hri with e1 | ⟨e1, rfl⟩
      ·clear hna hno
       go_wp2_with fail
       go_ret
       exact ⟨rfl, HF.out.then7 HF2.out⟩
      ·clear hna hno
       go_wp2_with fail
       go_ret
       exact ⟨rfl, HF.out.then7 HF2.out⟩
     | true =>
      obtain ⟨e1, e2, e3⟩ := hna.1 hri
      have cT := rightThing_any P Da K l pl nl cl w2 HRW.out.2 (HRW.out.1.fr (toLN HF2.out)) (by have := HZ.out.2; omega)
      clear hna
      go_wp2_with fail
      refine cT.mono ?_
      rintro e w3 ⟨rfl, f3⟩
      replace b0 := f3.keepCell b0 (fun e => e)
      replace b1 := f3.keepCell b1 (fun e => e)
      have HF3 : Hid (Fr None' wr w3) := HF2.out.then7 f3
      have HM3 : Hid (w3.ownsMap Tryz.prog 9 unitElem w.heap.size m D) := f3.map HM2.out (fun e => e)
      clear cT f3 HM2 b2 b3 e1 e2 e3
      cases hth : thing ⟨P, K, l, Da⟩ with
      | false =>
       have e : R = false := hno (fun h => (HOK.out.1 h).2.2.1) hth
       subst e
       clear hno
       go_wp2_with fail
       go_ret
       exact ⟨rfl, HF.out.then7 HF3.out⟩
      | true =>
       have cP := Path.parent_any P w3 (by have := HZ.out.1; omega)
       unfold Path.parentS at cP
       have HPO : Hid (parentOk (L.take k) ⟨P, K, l, Da⟩ = (match Path.parent (bl P) with | none => true | some p => isDir (L.take k) p)) := rfl
       have HNX2 : Hid (parentOk (L.take k) ⟨P, K, l, Da⟩ = true → RT L (k + 1) (if K = 1 then D.put (.string (bl P)) (.agg []) else D) P) := fun h => HNX.out (HOK.out.2 ⟨hpr, hri, hth, h⟩)
       have hkP := keyS P (by have := HZ.out.1; unfold maxLen; omega)
       clear HNX hri hth
       cases hpa : Path.parent (bl P) with
       | none =>
        rw [hpa] at HPO
        have hpa' : Path.parent P.data.toList = none := hpa
        rw [hpa'] at cP
        have hpo : parentOk (L.take k) ⟨P, K, l, Da⟩ = true := HPO.out
        clear hno
        go_wp2_with fail
        refine cP.mono ?_
        rintro e w4 ⟨rfl, rfl⟩
        clear cP
        have HNX3 : RT L (k + 1) (if K = 1 then D.put (.string (bl P)) (.agg []) else D) P := HNX2.out hpo
        by_cases hK : K = 1
        ·subst hK
         rw [if_pos rfl] at HNX3
         have HNX4 : Hid (RT L (k + 1) (D.put (.string (bl P)) (.agg [])) P) := HNX3
         clear HNX3 HNX2 hpo
         go_wp2_with (first
          | (at_mapUpdate; refine wpList_mapUpdate_in _ rfl _ _ _ 95 rfl 9 97 lawS Tryz.underlying95 (unitElem (H := Unit)) w.heap.size m _ rfl HM3.out (by unfold maxLen; omega) _ _ _ rfl rfl hkP _ [] unitElem_mk ?_; intro w5 hown5 hturn5; have c5 := turned_cell hturn5 b0; have HF5 : Hid (Fr None' w w5) := (HF.out.then7 HF3.out).trans (Fr.turned (M := fun x => x = w.heap.size) hturn5 rfl) (fun i e => Or.inr (by have e' : i = w.heap.size := e; omega)))
          | go_in)
         exact ⟨⟨k + 1, m + 1, _, P, by omega, by omega, by go_num, rfl, hown5, HNX4.out, HF5.out⟩, by simp [intOf]; omega⟩
        ·rw [if_neg hK] at HNX3
         have HNX4 : Hid (RT L (k + 1) D P) := HNX3
         have z1 : (K == 1) = false := by simpa using hK
         clear HNX3 HNX2 hpo
         go_wp2_with fail
         exact ⟨⟨k + 1, m, D, P, by omega, by omega, by go_num, rfl, HM3.out, HNX4.out, HF.out.then7 HF3.out⟩, by simp [intOf]; omega⟩
       | some p =>
        rw [hpa] at HPO
        have hpa' : Path.parent P.data.toList = some p := hpa
        rw [hpa'] at cP
        have hkp := keyS ⟨p.toArray⟩ (by have := HZ.out.1; have hl := parent_len hpa'; unfold maxLen; omega)
        have hkp2 : keyOf Tryz.prog 9 (.string ⟨p.toArray⟩) = some (.string p) := hkp
        have hdp := HT.out.dirs p
        have HPO2 : Hid (parentOk (L.take k) ⟨P, K, l, Da⟩ = isDir (L.take k) p) := HPO.out
        cases hdi : isDir (L.take k) p with
        | false =>
         rw [hdi] at HPO2 hdp
         have e : R = false := hno (fun h => (HOK.out.1 h).2.2.2) HPO2.out
         subst e
         clear hno
         go_wp2_with fail
         refine cP.mono ?_
         rintro e w4 ⟨rfl, rfl⟩
         clear cP
         go_wp2_with (first
          | (at_lookup; refine wpList_lookup_own_unit _ rfl _ _ 95 rfl 9 97 lawS Tryz.underlying95 (zeroU _) w.heap.size m _ rfl HM3.out _ _ rfl hkp2 ?_; rw [hdp])
          | go_in)
         go_ret
         exact ⟨rfl, (HF.out.then7 HF3.out).then7 (Fr.alloc None' _ _)⟩
        | true =>
         rw [hdi] at HPO2 hdp
         have hpo : parentOk (L.take k) ⟨P, K, l, Da⟩ = true := HPO2.out
         clear hno
         go_wp2_with fail
         refine cP.mono ?_
         rintro e w4 ⟨rfl, rfl⟩
         clear cP
         have b0w := (Fr.alloc None' w3 (.cells #[] 97)).keepCell b0 (fun e => e)
         have b1w := (Fr.alloc None' w3 (.cells #[] 97)).keepCell b1 (fun e => e)
         have HM4 : Hid ((w3.alloc (.cells #[] 97)).ownsMap Tryz.prog 9 unitElem w.heap.size m D) := (Fr.alloc None' w3 _).map HM3.out (fun e => e)
         have HF4 : Hid (Fr None' w (w3.alloc (.cells #[] 97))) := (HF.out.then7 HF3.out).then7 (Fr.alloc None' _ _)
         have HNX3 : RT L (k + 1) (if K = 1 then D.put (.string (bl P)) (.agg []) else D) P := HNX2.out hpo
         by_cases hK : K = 1
         ·subst hK
          rw [if_pos rfl] at HNX3
          have HNX4 : Hid (RT L (k + 1) (D.put (.string (bl P)) (.agg [])) P) := HNX3
          clear HNX3 HNX2 hpo
          go_wp2_with (first
           | (at_lookup; refine wpList_lookup_own_unit _ rfl _ _ 95 rfl 9 97 lawS Tryz.underlying95 (zeroU _) w.heap.size m _ rfl HM3.out _ _ rfl hkp2 ?_; rw [hdp])
           | (at_mapUpdate; refine wpList_mapUpdate_in _ rfl _ _ _ 95 rfl 9 97 lawS Tryz.underlying95 (unitElem (H := Unit)) w.heap.size m _ rfl HM4.out (by unfold maxLen; omega) _ _ _ rfl rfl hkP _ [] unitElem_mk ?_; intro w5 hown5 hturn5; have c5 := turned_cell hturn5 b0w; have HF5 : Hid (Fr None' w w5) := HF4.out.trans (Fr.turned (M := fun x => x = w.heap.size) hturn5 rfl) (fun i e => Or.inr (by have e' : i = w.heap.size := e; omega)))
           | go_in)
          exact ⟨⟨k + 1, m + 1, _, P, by omega, by omega, by go_num, rfl, hown5, HNX4.out, HF5.out⟩, by simp [intOf]; omega⟩
         ·rw [if_neg hK] at HNX3
          have HNX4 : Hid (RT L (k + 1) D P) := HNX3
          have z1 : (K == 1) = false := by simpa using hK
          clear HNX3 HNX2 hpo
          go_wp2_with (first
           | (at_lookup; refine wpList_lookup_own_unit _ rfl _ _ 95 rfl 9 97 lawS Tryz.underlying95 (zeroU _) w.heap.size m _ rfl HM3.out _ _ rfl hkp2 ?_; rw [hdp])
           | go_in)
          exact ⟨⟨k + 1, m, D, P, by omega, by omega, by go_num, rfl, HM4.out, HNX4.out, HF4.out⟩, by simp [intOf]; omega⟩
   ·have e : k = n := by omega
    subst e
    have e : R = true := by
     rw [← HR.out]
     exact (treeRight_iff L).2 ⟨by rw [HL.out]; exact HNB.out, fun j hj => HT.out.ok j hj (by rw [← HL.out]; exact hj)⟩
    subst e
    go_wp2_with fail
    go_ret
    exact ⟨rfl, HF.out⟩
end Go.Proofs.YtbnfjjjdnbcehaaGreatDoor
namespace Go.Proofs.YtbnfjjjdnbcehaaGreatDoor
open Go.RowKit Go.Maps Go.Sort Go.Shelf
set_option maxRecDepth 100000
theorem sorts_in (m : Nat) : AnyZ.SortsIn Tryz.prog Tryz.sorted71_ren Fence.wide m :=
 ⟨fun blk off cap ss W hH hblk hsz => callsIn_wide.2 (AnyM.slices_Sort_string Tryz.sort101 blk off cap ss W hH hblk hsz),
  fun p cap W => callsIn_wide.2 (AnyM.slices_Sort_string_none Tryz.sort101 p cap W)⟩
theorem keysOf_any (mb : Option Nat) (W : World) : Calls Tryz.prog 72 #[.map mb] W fun e w' => e = .returned (.func (.func 102) #[] #[.pointer (some ⟨W.heap.size, 0, none⟩)]) ∧ w' = W.alloc (.cells #[.map mb] 76) :=
 callsIn_wide.1 (AnyZ.keys_in Tryz.keys72 Fence.wide 5 trivial rfl mb W)
theorem sortedKeys_any {H : Type} (b nn : Nat) (D0 : DataW H) (R : Value → Option (DataW H × List MemPlace)) (w : World) (hown : w.ownsMap Tryz.prog 9 R b nn D0) (hmax : Maps.size D0 ≤ maxLen) (hbytes : Maps.size D0 * 16 ≤ 140737488355328) :
  Calls Tryz.prog 71 #[.func (.func 102) #[] #[.pointer (some ⟨w.heap.size, 0, none⟩)]] (w.alloc (.cells #[.map (some b)] 76)) fun e w' => ∃ (v : Value) (ss : List (List UInt8)), e = .returned v ∧ ss.Perm (strKeys D0) ∧
   w'.ownsRow 0 9 1 v ss.length ((ss.mergeSort (fun x y => decide (x ≤ y))).map encStr) ∧ Below (w.alloc (.cells #[.map (some b)] 76)).heap.size (w.alloc (.cells #[.map (some b)] 76)) w' := by
 have hbl := hown.lt
 have hseq : SeqGives Fence.wide 2 Tryz.prog 102 #[.pointer (some ⟨w.heap.size, 0, none⟩)] encStr (fun ss => ss.Perm (strKeys D0)) (Maps.size D0) (w.alloc (.cells #[.map (some b)] 76)) :=
  AnyZ.keys_gives (ρ := Tryz.keys72_ren) { Tryz.keys72 with } Fence.wide _ trivial rfl (by omega) w.heap.size b nn D0 _ (by simp) (by simp) (by
   obtain ⟨es, clock, hb, Ft, hs, hD⟩ := hown
   exact ⟨es, clock, (Below.heap_alloc _ _ b hbl).trans hb, Ft, hs, hD⟩)
 have cS := callsIn_wide.1 (AnyZ.sorted_in Tryz.sorted71 Fence.wide 5 trivial trivial trivial trivial rfl (by omega) (sorts_in _) (enters_of Tryz.func101 (by kernel_rfl) rfl) 102 #[.pointer (some ⟨w.heap.size, 0, none⟩)] trivial (enters_of Tryz.func102 (by kernel_rfl) rfl) _ _ hmax hbytes _ hseq)
 refine Calls.mono cS fun e w' h => ?_
 obtain ⟨v, ss, h1, h2, h3, h4, h5⟩ := h
 exact ⟨v, ss, h1, h2, ownsRow_base_a h3 (Nat.zero_le _), h5⟩
end Go.Proofs.YtbnfjjjdnbcehaaGreatDoor
namespace Go.Proofs.YtbnfjjjdnbcehaaGreatDoor
open Go.RowKit Go.Maps Go.WideMaps Go.Sort Go.Shelf
set_option maxRecDepth 100000
theorem strKeys_toT (T : List Th) : strKeys (toT T) = T.map Th.k := by
 unfold toT strKeys
 simp only [List.map_map]
 rfl
theorem keys_sorted {T : List Th} {ss : List (List UInt8)} (hS : Zp (ens T)) (h : ss.Perm (T.map Th.k)) : (ss.mergeSort (fun x y => decide (x ≤ y))).map encStr = (T.map (fun t => t.x.path)).map Value.string := by
 have h1 : ss.mergeSort (fun x y => decide (x ≤ y)) = (T.map Th.k).mergeSort (fun x y => decide (x ≤ y)) := mergeSort_of_perm h
 rw [h1, List.mergeSort_of_pairwise]
 ·rw [List.map_map, List.map_map]
  rfl
 ·unfold Zp ens at hS
  rw [List.pairwise_map] at hS ⊢
  exact hS.imp (fun h => by
   rw [decide_eq_true_eq]
   exact List.le_of_lt h)
def ListPost (T : List Th) (w : World) (e : Ending) (w' : World) : Prop := ∃ v, e = .returned v ∧ OwnE w.heap.size w w' v (ens T) (T.map Th.sl) ∧ Fr None' w w'
theorem list8_any (b n : Nat) (T : List Th) (w : World) (h : Yt w b n T) (hn : T.length ≤ 90000) (hp : ∀ t ∈ T, t.x.path.size ≤ 1000000) :
  Calls Tryz.prog 48 #[.map (some b)] w fun e w' => ListPost T w e w' := by
 have HS := Zz h.strict
 have HT := Zz h
 have HP := Zz hp
 have cS := sortedKeys_any b n _ _ w h.map (by rw [size_toT]; unfold maxLen; omega) (by rw [size_toT]; omega)
 rw [strKeys_toT] at cS
 clear h hp
 go_enter Tryz.func48, Tryz.ntmps48
 go_wp2_with fail
 refine (keysOf_any _ _).mono ?_
 rintro e w2 ⟨rfl, hw2⟩
 subst hw2
 go_wp2_with fail
 refine cS.mono ?_
 rintro e w3 ⟨vk, ss, rfl, hperm, hrow, hbel⟩
 clear cS
 have hss : ss.length = T.length := by rw [hperm.length_eq, List.length_map]
 rw [keys_sorted HS.out hperm, hss] at hrow
 have hst : Zy w3 vk (T.map (fun t => t.x.path)) := own_strs (by rw [List.length_map]; exact hrow)
 obtain ⟨ka, kc, rfl, hk1, hk2, hk3⟩ := hst
 have F3 : Fr None' w w3 := (Fr.alloc None' w _).then7 (ofBelow hbel)
 have HF3 := Zz F3
 have HK := Zz hk3
 clear hrow hperm hss hbel F3 hk1 hk2 hk3
 rw [List.length_map]
 have i1 : (T.length : Int) ≤ 90000 := by omega
 go_wp2_with fail
 go_loopw [3, 10] (fun v i wr => ∃ (j : Nat), j ≤ T.length ∧ i = .int .i64 j ∧ Hid (OwnE w3.heap.size w wr v (ens (T.take j)) ((T.take j).map Th.sl)) ∧ Hid (Fr None' w3 wr)) (fun _ i _ => T.length - (intOf i).toNat)
 case atStart => exact ⟨0, Nat.zero_le _, rfl, OwnE.nil _ _ _, Fr.refl _ _⟩
 case round =>
  obtain ⟨j, hj, rfl, HO, HF⟩ := hrel
  obtain ⟨va, vc, rfl⟩ := slice_v HO.out
  by_cases hlt : j < T.length
  ·obtain ⟨t, ht⟩ : ∃ t, T[j]? = some t := ⟨T[j], List.getElem?_eq_getElem hlt⟩
   have htm := List.mem_of_getElem? ht
   have HTW := Zz (HF3.out.then7 HF.out)
   have hlook := (HT.out.kept HTW.out).look t.x.path (by have := HP.out t htm; unfold maxLen; omega)
   rw [show get8 T (bl t.x.path) = some t from get8_some HS.out htm] at hlook
   simp only [Option.getD_some, th_shape] at hlook
   obtain ⟨gk, ok, rfl, hc⟩ := HK.out j t.x.path (by rw [List.getElem?_map, ht]; rfl)
   have hcell := HF.out.keepCell hc (fun e => e)
   clear hc
   have HSt := Zz (HT.out.str t htm)
   have hm : (ens (T.take j)).length = j := by unfold ens; rw [List.length_map, List.length_take]; omega
   have FA : Fr None' wr (wr.alloc (.cells #[.string t.x.path, .int .i64 t.x.kind, .slice t.u.1 t.u.2.1 t.u.2.2, .string t.x.data] 45)) := Fr.alloc None' wr _
   obtain ⟨g3, c3, w4, hr3, O3, f3, hg3⟩ := (HO.out.kept FA).append (b := wr.heap.size) (x := t.x) (vl := .slice t.u.1 t.u.2.1 t.u.2.2) (heap_alloc_new wr _) rfl HSt.out (by rw [hm]; omega) (by have := HF.out.size; simp; omega)
   have nb : ∀ k, (Value.slice va (ens (T.take j)).length vc).ownBlock = some k → w3.heap.size ≤ k := fun k e => by
    rcases HO.out.row.2 with ⟨hv, _⟩ | ⟨g, cap, cur, hv, hg, _⟩
    ·rw [hv] at e; cases e
    ·rw [hv] at e; cases e; exact hg
   have HF4 := Zz (HF.out.trans ((FA.any).then f3) (fun i e => Or.inr (nb i e)))
   have HO4 := Zz (show OwnE w3.heap.size w w4 (.slice (some ⟨g3, 0, none⟩) (j + 1) c3) (ens (T.take (j + 1))) ((T.take (j + 1)).map Th.sl) from by
    have e1 : T.take (j + 1) = T.take j ++ [t] := by
     rw [List.take_succ_eq_append_getElem hlt]
     rw [List.getElem?_eq_getElem hlt] at ht
     cases ht
     rfl
    rw [e1]
    unfold ens at O3 hm ⊢
    rw [hm] at O3
    rw [List.map_append, List.map_append]
    exact O3)
   rw [hm] at hr3
   have HR3 := Zz hr3
   have i2 : (j : Int) < (T.length : Int) := by omega
   have i3 : (0 : Int) ≤ (j : Int) := by omega
   obtain ⟨⟨P, K, l, D⟩, a, m, c⟩ := t
   simp only at hlook hcell HR3
   rw [hm]
   clear hr3 O3 f3 hg3 nb FA HSt hm htm ht
   go_wp2_with (first
    | (at_builtin; refine app_list8 rfl _ _ rfl rfl rfl HR3.out ?_)
    | go_in)
   exact ⟨⟨j + 1, by omega, by go_num, HO4.out, HF4.out⟩, by simp [intOf]; omega⟩
  ·have e : j = T.length := by omega
   subst e
   have HO2 := Zz (show OwnE w.heap.size w wr (.slice va (ens (T.take T.length)).length vc) (ens T) (T.map Th.sl) from by
    have h := HO.out
    rw [List.take_length] at h ⊢
    obtain ⟨h1, ⟨r1, r2⟩, h3⟩ := h
    refine ⟨h1, ⟨r1, ?_⟩, h3⟩
    have hz := HF3.out.size
    rcases r2 with r2 | ⟨g, cap, cur, hv, hg, r⟩
    ·exact Or.inl r2
    ·exact Or.inr ⟨g, cap, cur, hv, by omega, r⟩)
   have HF2 := Zz (HF3.out.then7 HF.out)
   go_wp2_with fail
   go_ret
   exact ⟨_, rfl, HO2.out, HF2.out⟩
end Go.Proofs.YtbnfjjjdnbcehaaGreatDoor
