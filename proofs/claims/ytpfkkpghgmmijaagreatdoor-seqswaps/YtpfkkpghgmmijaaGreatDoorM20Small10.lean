/-
  What is proved here: the contracts that the statement stands on: Small10, Alike11. Conditions: as each theorem names them.
-/
import Derived.Test.YtpfkkpghgmmijaaGreatDoorM16Plain10
import Derived.Test.YtpfkkpghgmmijaaGreatDoorM10Box9
import Derived.Test.YtpfkkpghgmmijaaGreatDoorM17PRunes
import Derived.Test.YtpfkkpghgmmijaaGreatDoorM9Strs9
namespace Go.Proofs.YtpfkkpghgmmijaaGreatDoor
open Go.RowKit
set_option maxRecDepth 100000

set_option maxHeartbeats 2000000 in
theorem class_any (x : Pr) (pa pb : Option Addr) (no nn ca cb : Nat) (w : World) :
    Calls Tryz.prog 95 #[.agg #[.int .i64 x.kind, .string x.path, .string x.dst, .string x.src, .int .i64 x.pos, .slice pa no ca, .slice pb nn cb]] w fun e w' => e = .returned (.int .i64 (clsP x)) ∧ Fr None' w w' := by
  obtain ⟨K, P, T, F, A, lO, lN⟩ := x
  simp only
  by_cases h6 : K ≤ 6
  · have hR : clsP ⟨K, P, T, F, A, lO, lN⟩ = 0 := by simp [clsP, h6]
    rw [hR]
    go_enter Tryz.func95, Tryz.ntmps95
    go_wp2_with fail
    go_ret
    exact ⟨rfl, Fr.alloc _ _ _⟩
  · by_cases h10 : K = 10
    · have hR : clsP ⟨K, P, T, F, A, lO, lN⟩ = 2 := by simp [clsP, h10]
      rw [hR]
      subst h10
      go_enter Tryz.func95, Tryz.ntmps95
      go_wp2_with fail
      go_ret
      exact ⟨rfl, Fr.alloc _ _ _⟩
    · have hR : clsP ⟨K, P, T, F, A, lO, lN⟩ = 1 := by simp [clsP, h6, h10]
      rw [hR]
      go_enter Tryz.func95, Tryz.ntmps95
      go_wp2_with fail
      go_ret
      exact ⟨rfl, Fr.alloc _ _ _⟩

set_option maxHeartbeats 2000000 in
theorem unlike_any (x y : Pr) (pa pb qa qb : Option Addr) (no nn ca cb mo mn da db : Nat) (w : World) :
    Calls Tryz.prog 130 #[.agg #[.int .i64 x.kind, .string x.path, .string x.dst, .string x.src, .int .i64 x.pos, .slice pa no ca, .slice pb nn cb], .agg #[.int .i64 y.kind, .string y.path, .string y.dst, .string y.src, .int .i64 y.pos, .slice qa mo da, .slice qb mn db]] w fun e w' => e = .returned (.bool (decide (¬ x.path = y.path))) ∧ Fr None' w w' := by
  obtain ⟨K, P, T, F, A, lO, lN⟩ := x
  obtain ⟨K', P', T', F', A', lO', lN'⟩ := y
  simp only
  have HF : Hid (∀ o o', Fr None' w ((w.alloc o).alloc o')) := fun o o' => (Fr.alloc None' w _).then7 (Fr.alloc None' _ _)
  by_cases h : P = P'
  · subst h
    have hR : decide (¬ P = P) = false := by simp
    rw [hR]
    go_enter Tryz.func130, Tryz.ntmps130
    go_wp2_with fail
    go_ret
    exact ⟨rfl, HF.out _ _⟩
  · rw [decide_eq_true h]
    obtain ⟨t1, t2⟩ := Lines.str_no h
    clear h
    go_enter Tryz.func130, Tryz.ntmps130
    go_wp2_with fail
    go_ret
    exact ⟨rfl, HF.out _ _⟩

set_option maxHeartbeats 2000000 in
theorem carried_any (a f t : ByteArray) (w : World) (ha : a.size < 100000000) (ht : t.size < 100000000) :
    Calls Tryz.prog 164 #[.string a, .string f, .string t] w fun e w' => e = .returned (.tuple #[.string (carryP a f t).1, .bool (carryP a f t).2]) ∧ w = w' := by
  have c1 := Path.moved_any a f t w ha ht
  have c2 := Path.within_any a t w
  unfold carryP wiP moP
  generalize Path.within a.data.toList t.data.toList = R2 at c2
  unfold Path.movedS at c1
  cases hR : Path.within a.data.toList f.data.toList with
  | true =>
    rw [hR] at c1
    simp only [if_true] at c1 ⊢
    generalize (⟨(Path.moved a.data.toList f.data.toList t.data.toList).toArray⟩ : ByteArray) = M at c1
    clear hR ha ht
    go_enter Tryz.func164, Tryz.ntmps164
    go_wp2_with (first
      | (go_at_call 127; with_reducible refine c1.mono ?_; rintro e w1 ⟨rfl, rfl⟩)
      | (go_at_call 98; with_reducible refine c2.mono ?_; rintro e w1 ⟨rfl, rfl⟩))
    exact bodyPost_ret (results_tmp2 rfl _ _ _) rfl ⟨rfl, rfl⟩
  | false =>
    rw [hR] at c1
    clear hR ha ht
    cases R2 <;>
    (go_enter Tryz.func164, Tryz.ntmps164
     go_wp2_with (first
      | (go_at_call 127; with_reducible refine c1.mono ?_; rintro e w1 ⟨rfl, rfl⟩)
      | (go_at_call 98; with_reducible refine c2.mono ?_; rintro e w1 ⟨rfl, rfl⟩))
     exact bodyPost_ret (results_tmp2 rfl _ _ _) rfl ⟨rfl, rfl⟩)

set_option maxHeartbeats 2000000 in
theorem asThey_any (f : FuncId) (w : World) : Calls Tryz.prog 128 #[.func (.func f) #[] #[]] w fun e w' => e = .returned (.func (.func 162) #[] #[.pointer (some ⟨w.heap.size, 0, none⟩)]) ∧ w'.cell? ⟨w.heap.size, 0, none⟩ = some (.func (.func f) #[] #[]) ∧ Fr None' w w' := by
  go_enter Tryz.func128, Tryz.ntmps128
  go_wp2_with fail
  go_ret
  exact ⟨rfl, by rw [World.cell?, heap_alloc_new]; rfl, Fr.alloc _ _ _⟩

theorem row_one (w : World) (x : ByteArray) {b : Nat} (hb : w.heap.size = b) : Lines.Row (w.alloc (.cells #[.string x] 9)) (some ⟨b, 0, none⟩) [x] := fun j y hj => by
  subst hb
  have h0 : j = 0 := by have := (List.getElem?_eq_some_iff.1 hj).1; simp at this; omega
  subst h0
  have : x = y := by simpa using hj
  subst this
  exact ⟨_, 0, rfl, by rw [World.cell?, heap_alloc_new]; rfl⟩

theorem row_two (w : World) (x z : ByteArray) {b : Nat} (hb : w.heap.size = b) : Lines.Row (w.alloc (.cells #[.string x, .string z] 9)) (some ⟨b, 0, none⟩) [x, z] := fun j y hj => by
  subst hb
  have h0 : j < 2 := by have := (List.getElem?_eq_some_iff.1 hj).1; simpa using this
  have h1 : j = 0 ∨ j = 1 := by omega
  rcases h1 with rfl | rfl
  · have : x = y := by simpa using hj
    subst this
    exact ⟨_, 0, rfl, by rw [World.cell?, heap_alloc_new]; rfl⟩
  · have : z = y := by simpa using hj
    subst this
    exact ⟨_, 0, rfl, by rw [World.cell?, heap_alloc_new]; rfl⟩

set_option maxHeartbeats 2000000 in
theorem places_any (x : Pr) (pa pb : Option Addr) (no nn ca cb : Nat) (w : World) :
    Calls Tryz.prog 163 #[.agg #[.int .i64 x.kind, .string x.path, .string x.dst, .string x.src, .int .i64 x.pos, .slice pa no ca, .slice pb nn cb]] w fun e w' => ∃ g, e = .returned (.slice (some ⟨g, 0, none⟩) (placesP x).length (placesP x).length) ∧ Lines.Row w' (some ⟨g, 0, none⟩) (placesP x) ∧ Fr None' w w' := by
  obtain ⟨K, P, T, F, A, lO, lN⟩ := x
  simp only
  have HF : Hid (∀ o o', Fr None' w ((w.alloc o).alloc o')) := fun o o' => (Fr.alloc None' w _).then7 (Fr.alloc None' _ _)
  by_cases h10 : K = 10
  · have hR : placesP ⟨K, P, T, F, A, lO, lN⟩ = [P, T] := by simp [placesP, h10]
    rw [hR]
    subst h10
    go_enter Tryz.func163, Tryz.ntmps163
    go_wp2_with fail
    go_ret
    exact ⟨_, rfl, row_two _ _ _ (by simp), HF.out _ _⟩
  · have hR : placesP ⟨K, P, T, F, A, lO, lN⟩ = [P] := by simp [placesP, h10]
    rw [hR]
    go_enter Tryz.func163, Tryz.ntmps163
    go_wp2_with fail
    go_ret
    exact ⟨_, rfl, row_one _ _ (by simp), HF.out _ _⟩

theorem all_take {α : Type} {f : α → Bool} {l : List α} {k : Nat} (hk : k < l.length) (h : (l.take k).all f = true) (hf : f l[k] = true) : (l.take (k + 1)).all f = true := by
  rw [List.take_succ_eq_append_getElem hk, List.all_append, h]
  simp [hf]

theorem all_not {α : Type} {f : α → Bool} {l : List α} {k : Nat} (hk : k < l.length) (hf : f l[k] = false) : l.all f = false := by
  rw [List.all_eq_false]
  exact ⟨l[k], List.getElem_mem hk, by simp [hf]⟩

theorem places_len (x : Pr) : (placesP x).length ≤ 2 := by
  unfold placesP
  split <;> simp

set_option maxHeartbeats 4000000 in
theorem apart10_any (x y : Pr) (pa pb qa qb : Option Addr) (no nn ca cb mo mn da db : Nat) (w : World) :
    Calls Tryz.prog 129 #[.agg #[.int .i64 x.kind, .string x.path, .string x.dst, .string x.src, .int .i64 x.pos, .slice pa no ca, .slice pb nn cb], .agg #[.int .i64 y.kind, .string y.path, .string y.dst, .string y.src, .int .i64 y.pos, .slice qa mo da, .slice qb mn db]] w fun e w' => e = .returned (.bool (apartP x y)) ∧ Fr None' w w' := by
  have HP1 : Hid (∀ w', Calls Tryz.prog 163 #[.agg #[.int .i64 x.kind, .string x.path, .string x.dst, .string x.src, .int .i64 x.pos, .slice pa no ca, .slice pb nn cb]] w' fun e w'' => ∃ g, e = .returned (.slice (some ⟨g, 0, none⟩) (placesP x).length (placesP x).length) ∧ Lines.Row w'' (some ⟨g, 0, none⟩) (placesP x) ∧ Fr None' w' w'') := fun w' => places_any x pa pb no nn ca cb w'
  have HP2 : Hid (∀ w', Calls Tryz.prog 163 #[.agg #[.int .i64 y.kind, .string y.path, .string y.dst, .string y.src, .int .i64 y.pos, .slice qa mo da, .slice qb mn db]] w' fun e w'' => ∃ g, e = .returned (.slice (some ⟨g, 0, none⟩) (placesP y).length (placesP y).length) ∧ Lines.Row w'' (some ⟨g, 0, none⟩) (placesP y) ∧ Fr None' w' w'') := fun w' => places_any y qa qb mo mn da db w'
  have HR : Hid (apartP x y = (placesP x).all fun a => (placesP y).all fun b => apP a b) := rfl
  have l1 := places_len x
  have l2 := places_len y
  generalize apartP x y = R at HR ⊢
  generalize placesP x = X at HP1 HR l1
  generalize placesP y = Y at HP2 HR l2
  obtain ⟨K, P, T, F, A, lO, lN⟩ := x
  obtain ⟨K', P', T', F', A', lO', lN'⟩ := y
  simp only at HP1 HP2 ⊢
  obtain ⟨w1, hw1⟩ : ∃ w1, w.alloc (.cells #[.int .i64 K, .string P, .string T, .string F, .int .i64 A, .slice pa no ca, .slice pb nn cb] 45) = w1 := ⟨_, rfl⟩
  obtain ⟨w2, hw2⟩ : ∃ w2, w1.alloc (.cells #[.int .i64 K', .string P', .string T', .string F', .int .i64 A', .slice qa mo da, .slice qb mn db] 45) = w2 := ⟨_, rfl⟩
  have F1 : Fr None' w w1 := hw1 ▸ Fr.alloc None' w _
  have F2 : Fr None' w1 w2 := hw2 ▸ Fr.alloc None' w1 _
  have B1 : Box w2 w.heap.size (.int .i64 K) (.string P) (.string T) (.string F) (.int .i64 A) (.slice pa no ca) (.slice pb nn cb) := (hw1 ▸ Box.new w _ _ _ _ _ _ _ : Box w1 _ _ _ _ _ _ _ _).kept F2
  have B2 : Box w2 w1.heap.size (.int .i64 K') (.string P') (.string T') (.string F') (.int .i64 A') (.slice qa mo da) (.slice qb mn db) := hw2 ▸ Box.new w1 _ _ _ _ _ _ _
  have HF : Hid (Fr None' w w2) := F1.then7 F2
  have HB2 : Hid (∀ w', Fr None' w2 w' → Box w' w1.heap.size (.int .i64 K') (.string P') (.string T') (.string F') (.int .i64 A') (.slice qa mo da) (.slice qb mn db)) := fun w' f => B2.kept f
  obtain ⟨a0, a1, a2, a3, a4, a5, a6⟩ := B1.cells
  have q1 := HP1.out w2
  obtain ⟨n, hn⟩ : ∃ n, X.length = n := ⟨_, rfl⟩
  obtain ⟨m, hm⟩ : ∃ m, Y.length = m := ⟨_, rfl⟩
  rw [hn] at q1 l1
  rw [hm] at HP2 l2
  have HL : Hid (X.length = n ∧ Y.length = m ∧ n ≤ 2 ∧ m ≤ 2) := ⟨hn, hm, l1, l2⟩
  clear F1 F2 B1 B2 HP1 hn hm l1 l2
  go_enter Tryz.func129, Tryz.ntmps129
  go_wp2_with fail
  with_reducible refine q1.mono ?_
  rintro e w3 ⟨g, rfl, r3, f3⟩
  have HX : Hid (∀ w', Fr None' w3 w' → Lines.Row w' (some ⟨g, 0, none⟩) X) := fun w' f => r3.fr (toLN f)
  have HF3 : Hid (Fr None' w2 w3) := f3
  clear q1 r3 f3 a0 a1 a2 a3 a4 a5 a6
  go_wp2_with fail
  go_loopw [12] (fun vi wr => ∃ k : Nat, k ≤ n ∧ vi = .int .i64 k ∧ Hid ((X.take k).all (fun a => Y.all fun b => apP a b) = true) ∧ Hid (Fr None' w3 wr)) (fun vi _ => n - (intOf vi).toNat)
  case atStart => exact ⟨0, Nat.zero_le _, rfl, rfl, Fr.refl _ _⟩
  case round =>
    obtain ⟨k, hk, rfl, HT, HFr⟩ := hrel
    by_cases hlt : k < n
    · have hkX : k < X.length := by rw [HL.out.1]; exact hlt
      obtain ⟨g2, o2, e2, c2⟩ := (HX.out wr HFr.out).get hkX
      cases e2
      rw [Nat.zero_add] at c2
      have HA : Hid ((Y.all fun b => apP X[k] b) = true → (X.take (k + 1)).all (fun a => Y.all fun b => apP a b) = true) := fun h => all_take hkX HT.out h
      have HN : Hid ((Y.all fun b => apP X[k] b) = false → R = false) := fun h => by rw [HR.out]; exact all_not hkX h
      generalize X[k] = xk at c2 HA HN
      have q2 := HP2.out wr
      obtain ⟨b0, b1, b2, b3, b4, b5, b6⟩ := (HB2.out wr (HF3.out.then7 HFr.out)).cells
      have i2 : (k : Int) < (n : Int) := by omega
      have i3 : (0 : Int) ≤ (k : Int) := by omega
      have i4 : (n : Int) ≤ 2 := by have := HL.out.2.2.1; omega
      clear hlt
      go_wp2_with fail
      with_reducible refine q2.mono ?_
      rintro e w4 ⟨g4, rfl, r4, f4⟩
      have HY : Hid (∀ w', Fr None' w4 w' → Lines.Row w' (some ⟨g4, 0, none⟩) Y) := fun w' f => r4.fr (toLN f)
      have HF4 : Hid (Fr None' w3 w4) := HFr.out.then7 f4
      clear q2 r4 f4 c2 b0 b1 b2 b3 b4 b5 b6
      go_wp2_with fail
      go_loopw [19] (fun vi wr => ∃ j : Nat, j ≤ m ∧ vi = .int .i64 j ∧ Hid ((Y.take j).all (fun b => apP xk b) = true) ∧ Hid (Fr None' w4 wr)) (fun vi _ => m - (intOf vi).toNat)
      case atStart => exact ⟨0, Nat.zero_le _, rfl, rfl, Fr.refl _ _⟩
      case round =>
        obtain ⟨j, hj, rfl, HTj, HFj⟩ := hrel
        by_cases hltj : j < m
        · have hjY : j < Y.length := by rw [HL.out.2.1]; exact hltj
          obtain ⟨g5, o5, e5, c5⟩ := (HY.out wr HFj.out).get hjY
          cases e5
          rw [Nat.zero_add] at c5
          have HA5 : Hid (apP xk Y[j] = true → (Y.take (j + 1)).all (fun b => apP xk b) = true) := fun h => all_take hjY HTj.out h
          have HN5 : Hid (apP xk Y[j] = false → (Y.all fun b => apP xk b) = false) := fun h => all_not hjY h
          have q5 := Path.apart_any xk Y[j] wr
          generalize Y[j] = yj at c5 HA5 HN5 q5
          change Calls _ _ _ _ (fun e w' => e = .returned (.bool (apP xk yj)) ∧ wr = w') at q5
          generalize apP xk yj = Z at HA5 HN5 q5
          have i5 : (j : Int) < (m : Int) := by omega
          have i6 : (0 : Int) ≤ (j : Int) := by omega
          have i7 : (m : Int) ≤ 2 := by have := HL.out.2.2.2; omega
          clear hltj
          cases Z with
          | true =>
            go_wp2_with fail
            with_reducible refine q5.mono ?_
            rintro e w6 ⟨rfl, rfl⟩
            clear q5
            go_wp2_with fail
            exact ⟨⟨j + 1, by omega, by go_num, HA5.out (by first | rfl | trivial), HFj.out⟩, by simp [intOf]; omega⟩
          | false =>
            have HR0 : Hid (R = false) := HN.out (HN5.out rfl)
            have HFl : Hid (Fr None' w wr) := ((HF.out.then7 HF3.out).then7 HF4.out).then7 HFj.out
            go_wp2_with fail
            with_reducible refine q5.mono ?_
            rintro e w6 ⟨rfl, rfl⟩
            clear q5
            go_wp2_with fail
            go_ret
            exact ⟨by rw [HR0.out]; rfl, HFl.out⟩
        · have e : j = m := by omega
          subst e
          have HY2 : Hid ((Y.all fun b => apP xk b) = true) := by
            have h := HTj.out
            rw [List.take_of_length_le (by rw [HL.out.2.1]; exact Nat.le_refl _)] at h
            exact h
          have HFl : Hid (Fr None' w3 wr) := HF4.out.then7 HFj.out
          clear hltj
          go_wp2_with fail
          exact ⟨⟨k + 1, by omega, by go_num, HA.out HY2.out, HFl.out⟩, by simp [intOf]; omega⟩
    · have e : k = n := by omega
      subst e
      have HR1 : Hid (R = true) := by
        have h := HT.out
        rw [List.take_of_length_le (by rw [HL.out.1]; exact Nat.le_refl _)] at h
        show R = true
        rw [HR.out]
        exact h
      have HFl : Hid (Fr None' w wr) := (HF.out.then7 HF3.out).then7 HFr.out
      clear hlt
      go_wp2_with fail
      go_ret
      exact ⟨by rw [HR1.out]; rfl, HFl.out⟩

end Go.Proofs.YtpfkkpghgmmijaaGreatDoor

namespace Go.Proofs.YtpfkkpghgmmijaaGreatDoor
open Go.RowKit
set_option maxRecDepth 100000

theorem toHid11 {p : Prop} (h : p) : Hid p := h

set_option maxHeartbeats 8000000 in
theorem alike_any (x y : Pr) (vo vn uo un : Value) (w : World) (ho : StrsAt w vo x.old) (hn : StrsAt w vn x.new) (go : StrsAt w uo y.old) (gn : StrsAt w un y.new) (lo : x.old.length ≤ 900000) (ln : x.new.length ≤ 900000) :
    Calls Tryz.prog 64 #[.agg #[.int .i64 x.kind, .string x.path, .string x.dst, .string x.src, .int .i64 x.pos, vo, vn], .agg #[.int .i64 y.kind, .string y.path, .string y.dst, .string y.src, .int .i64 y.pos, uo, un]] w fun e w' => e = .returned (.bool (alikeP x y)) ∧ Fr None' w w' := by
  obtain ⟨K, P, T, F, A, lO, lN⟩ := x
  obtain ⟨K', P', T', F', A', mO, mN⟩ := y
  simp only at ho hn go gn lo ln ⊢
  obtain ⟨pa, ca, rfl, _, _, r1⟩ := ho
  obtain ⟨pb, cb, rfl, _, _, r2⟩ := hn
  obtain ⟨qa, da, rfl, _, _, r3⟩ := go
  obtain ⟨qb, db, rfl, _, _, r4⟩ := gn
  have cO : ∀ w', Fr None' w w' → Calls Tryz.prog 66 #[.slice pa lO.length ca, .slice qa mO.length da] w' fun e w'' => e = .returned (.bool (decide (lO = mO))) ∧ Fr None' w' w'' := fun w' f => equalS_any pa qa ca da lO mO w' (r1.fr (toLN f)) (r3.fr (toLN f)) (by omega)
  have cN : ∀ w', Fr None' w w' → Calls Tryz.prog 66 #[.slice pb lN.length cb, .slice qb mN.length db] w' fun e w'' => e = .returned (.bool (decide (lN = mN))) ∧ Fr None' w' w'' := fun w' f => equalS_any pb qb cb db lN mN w' (r2.fr (toLN f)) (r4.fr (toLN f)) (by omega)
  obtain ⟨no, hno⟩ : ∃ n, lO.length = n := ⟨_, rfl⟩
  obtain ⟨nn, hnn⟩ : ∃ n, lN.length = n := ⟨_, rfl⟩
  obtain ⟨mo, hmo⟩ : ∃ n, mO.length = n := ⟨_, rfl⟩
  obtain ⟨mn, hmn⟩ : ∃ n, mN.length = n := ⟨_, rfl⟩
  rw [hno, hmo] at cO
  rw [hnn, hmn] at cN
  rw [hno, hnn, hmo, hmn]
  have HE := toHid11 (show alikeP ⟨K, P, T, F, A, lO, lN⟩ ⟨K', P', T', F', A', mO, mN⟩ = (decide (K = K') && decide (P = P') && decide (T = T') && decide (F = F') && decide (A = A') && decide (lO = mO) && decide (lN = mN)) from rfl)
  rw [HE.out]
  obtain ⟨RO, hRO⟩ : ∃ R, decide (lO = mO) = R := ⟨_, rfl⟩
  obtain ⟨RN, hRN⟩ : ∃ R, decide (lN = mN) = R := ⟨_, rfl⟩
  rw [hRO, hRN]
  rw [hRO] at cO
  rw [hRN] at cN
  have HO := toHid11 cO
  have HNn := toHid11 cN
  obtain ⟨w1, hw1⟩ : ∃ w1, w.alloc (.cells #[.int .i64 K, .string P, .string T, .string F, .int .i64 A, .slice pa no ca, .slice pb nn cb] 45) = w1 := ⟨_, rfl⟩
  obtain ⟨w2, hw2⟩ : ∃ w2, w1.alloc (.cells #[.int .i64 K', .string P', .string T', .string F', .int .i64 A', .slice qa mo da, .slice qb mn db] 45) = w2 := ⟨_, rfl⟩
  have F1 : Fr None' w w1 := hw1 ▸ Fr.alloc None' w _
  have F2 : Fr None' w1 w2 := hw2 ▸ Fr.alloc None' w1 _
  have HF := toHid11 (F1.then7 F2)
  have B1 : Box w2 w.heap.size (.int .i64 K) (.string P) (.string T) (.string F) (.int .i64 A) (.slice pa no ca) (.slice pb nn cb) := (hw1 ▸ Box.new w _ _ _ _ _ _ _ : Box w1 _ _ _ _ _ _ _ _).kept F2
  have B2 : Box w2 w1.heap.size (.int .i64 K') (.string P') (.string T') (.string F') (.int .i64 A') (.slice qa mo da) (.slice qb mn db) := hw2 ▸ Box.new w1 _ _ _ _ _ _ _
  have HK := toHid11 (show ∀ w', Fr None' w2 w' → w'.cell? ⟨w.heap.size, 6, none⟩ = some (.slice pb nn cb) ∧ w'.cell? ⟨w1.heap.size, 6, none⟩ = some (.slice qb mn db) from fun w' f => ⟨(B1.kept f).cells.2.2.2.2.2.2, (B2.kept f).cells.2.2.2.2.2.2⟩)
  obtain ⟨a0, a1, a2, a3, a4, a5, a6⟩ := B1.cells
  obtain ⟨b0, b1, b2, b3, b4, b5, b6⟩ := B2.cells
  clear hno hnn hmo hmn F1 F2 B1 B2 r1 r2 r3 r4 lo ln cO cN hRO hRN HE
  by_cases hK : K = K'
  case neg =>
    rw [decide_eq_false hK]
    simp only [Bool.false_and]
    have z1 : (K == K') = false := beq_eq_false_iff_ne.2 hK
    clear hK
    go_enter Tryz.func64, Tryz.ntmps64
    go_wp2_with fail
    go_ret
    exact ⟨rfl, HF.out⟩
  case pos =>
  subst hK
  by_cases hP : P = P'
  case neg =>
    rw [decide_eq_false hP]
    simp only [Bool.and_false, Bool.false_and]
    obtain ⟨z1, z2⟩ := Lines.str_no hP
    clear hP
    go_enter Tryz.func64, Tryz.ntmps64
    go_wp2_with fail
    go_ret
    exact ⟨rfl, HF.out⟩
  case pos =>
  subst hP
  by_cases hT : T = T'
  case neg =>
    rw [decide_eq_false hT]
    simp only [Bool.and_false, Bool.false_and]
    obtain ⟨z1, z2⟩ := Lines.str_no hT
    clear hT
    go_enter Tryz.func64, Tryz.ntmps64
    go_wp2_with fail
    go_ret
    exact ⟨rfl, HF.out⟩
  case pos =>
  subst hT
  by_cases hF : F = F'
  case neg =>
    rw [decide_eq_false hF]
    simp only [Bool.and_false, Bool.false_and]
    obtain ⟨z1, z2⟩ := Lines.str_no hF
    clear hF
    go_enter Tryz.func64, Tryz.ntmps64
    go_wp2_with fail
    go_ret
    exact ⟨rfl, HF.out⟩
  case pos =>
  subst hF
  by_cases hA : A = A'
  case neg =>
    rw [decide_eq_false hA]
    simp only [Bool.and_false, Bool.false_and]
    have z1 : (A == A') = false := beq_eq_false_iff_ne.2 hA
    clear hA
    go_enter Tryz.func64, Tryz.ntmps64
    go_wp2_with fail
    go_ret
    exact ⟨rfl, HF.out⟩
  case pos =>
  subst hA
  simp only [decide_true, Bool.true_and]
  have q1 := HO.out w2 HF.out
  go_enter Tryz.func64, Tryz.ntmps64
  go_wp2_with fail
  with_reducible refine q1.mono ?_
  rintro e w3 ⟨rfl, F3⟩
  have q2 := HNn.out w3 (HF.out.then7 F3)
  obtain ⟨k6, j6⟩ := HK.out w3 F3
  have HF3 := toHid11 (HF.out.then7 F3)
  clear q1 F3 a0 a1 a2 a3 a4 a5 a6 b0 b1 b2 b3 b4 b5 b6
  cases RO with
  | false =>
    go_wp2_with fail
    go_ret
    exact ⟨rfl, HF3.out⟩
  | true =>
    go_wp2_with fail
    with_reducible refine q2.mono ?_
    rintro e w4 ⟨rfl, F4⟩
    have HX := toHid11 (HF3.out.then7 F4)
    clear q2 F4 k6 j6
    cases RN <;> (go_wp2_with fail; go_ret; exact ⟨rfl, HX.out⟩)

end Go.Proofs.YtpfkkpghgmmijaaGreatDoor
