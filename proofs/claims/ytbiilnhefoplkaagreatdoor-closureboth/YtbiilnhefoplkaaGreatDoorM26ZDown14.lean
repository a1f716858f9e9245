/-
  What is proved here: the contracts that the statement stands on: ZDown14, ZUp14, ZOrd14, ZIdx14, ZOrdW14, ZHead14, ZHeadW14, ZGreL14, ZHas14, ZArgsL14, ZLeastW14, ZTurn14, ZFind14, ZOrderP14, ZGreat14, ZMoreP14, ZClosP14, ZBothP14. Conditions: as each theorem names them.
-/
import Derived.Test.YtbiilnhefoplkaaGreatDoorM25ZSorted14
import Derived.Conc.MuLone
import Derived.Test.YtbiilnhefoplkaaGreatDoorM18ZRig13
import Derived.Test.YtbiilnhefoplkaaGreatDoorM6ZStrs9
import Derived.Test.YtbiilnhefoplkaaGreatDoorM1Base
import Derived.Laws.ResultCell
namespace Go.Proofs.YtbiilnhefoplkaaGreatDoor
open Go.RowKit Go.Maps Go.WideMaps
set_option maxRecDepth 100000

/-- What a patch of the set stands on at once. -/
def downN (T : List (Kv Pv)) (k : B13) : List ByteArray := match getM T k with
  | some c => c.x.deps
  | none => []

theorem getD_V (T : List (Kv Pv)) (k : B13) : ∃ c : Pv, (getM T k).getD zeroPv = c ∧ c.x.deps = downN T k := by
  unfold downN
  cases getM T k with
  | none => exact ⟨_, rfl, rfl⟩
  | some c => exact ⟨_, rfl, rfl⟩

theorem strs_none (w : World) : StrsAt w (.slice none 0 0) [] := (World.ownsRow_nil w 0 9 1 |> fun h => OwnR14.strs (B := 0) (l := []) h)

set_option maxHeartbeats 4000000 in
theorem down1_any {T : List (Kv Pv)} {b nn bp : Nat} {w : World} {x : ByteArray} (hset : MAt mkV w b nn T) (hin : ∀ t ∈ T, PvIn w t.2) (hc : w.cell? ⟨bp, 0, none⟩ = some (.map (some b))) (hx : x.size ≤ 1000000000) :
    Calls Tryz.prog 34 #[.string x, .pointer (some ⟨bp, 0, none⟩)] w fun e w' => NextPost (downN T (unB x)) w e w' := by
  obtain ⟨d, hd, hdd⟩ := getD_V T (unB x)
  have hlook := hset.look Tryz.underlying44 (zeroPa _) x (Nat.le_trans hx (by decide))
  rw [hd] at hlook
  have HP := toHid8 (show NextPost (downN T (unB x)) w (.returned (.slice d.pu d.x.deps.length d.cu)) w from ⟨d.pu, d.cu, by rw [hdd], by
    rw [← hdd]
    cases hg : getM T (unB x) with
    | none =>
      rw [hg] at hd
      cases hd
      exact strs_none w
    | some c =>
      rw [hg] at hd
      cases hd
      exact (hin _ (getM_mem hg)).deps, Fr.refl _ _⟩)
  simp only [mkV] at hlook
  have hfd : ∀ w', (Instr.field 36 (.agg #[.string d.x.name, .slice d.pu d.x.deps.length d.cu, .slice d.pb d.x.body.length d.cb]) 1).run Tryz.prog w' = .ok (.slice d.pu d.x.deps.length d.cu) w' := fun w' => by kernel_rfl
  clear hset hin hd hdd
  go_enter Tryz.func34, Tryz.ntmps34
  go_wp2_with fail
  go_ret
  exact HP.out

/-- What Down, or Up, hands back. -/
def DownPost (R : Option (List (Kv Pv))) (Nx : List (Kv Pv) → B13 → List ByteArray) (N : List B13) (w : World) (e : Ending) (w' : World) : Prop :=
  (∀ T, R = some T → ReachPost T (Nx T) N w e w') ∧ (R = none → e = .returned (.tuple #[.slice none 0 0, .int .i64 1]) ∧ Fr None' w w')

theorem ReachPost.early {T : List (Kv Pv)} {Nx : B13 → List ByteArray} {N : List B13} {w w1 w' : World} {e : Ending} (f : Fr None' w w1) (h : ReachPost T Nx N w1 e w') : ReachPost T Nx N w e w' := ⟨h.1, f.then7 h.2⟩

theorem setV_in {va : Option Addr} {Z : List Pv} {w : World} (hr : RowV w va Z) {T : List (Kv Pv)} (h : setV Z = some T) : ∀ t ∈ T, PvIn w t.2 := fun t ht => by
  obtain ⟨hz, _⟩ := setV_mem h t ht
  obtain ⟨k, hk, e⟩ := List.getElem_of_mem hz
  obtain ⟨_, _, _, _, _, _, hin⟩ := hr k _ (List.getElem?_eq_getElem hk)
  rw [← e]
  exact hin

theorem downN_small {Z : List Pv} {T : List (Kv Pv)} (h : setV Z = some T) (hs : ∀ d ∈ Z, SmallPa d.x) (k : B13) : (downN T k).length ≤ 1000000 ∧ ∀ y ∈ downN T k, y.size ≤ 1000000000 := by
  unfold downN
  cases hg : getM T k with
  | none => exact ⟨Nat.zero_le _, fun y hy => by cases hy⟩
  | some c => exact (hs _ (setV_mem h _ (getM_mem hg)).1).deps

set_option maxHeartbeats 8000000 in
theorem down14_any (va : Option Addr) (n c : Nat) (Z : List Pv) (pv : Option Addr) (m cm : Nat) (N : List ByteArray) (w : World) (hn : Z.length = n) (hr : RowV w va Z) (hN : n ≤ 1000000) (hs : ∀ d ∈ Z, SmallPa d.x) (hm : N.length = m) (hm2 : m ≤ 1000000) (hns : ∀ y ∈ N, y.size ≤ 1000000000) (hst : StrsAt w (.slice pv m cm) N) :
    Calls Tryz.prog 15 #[.slice va n c, .slice pv m cm] w fun e w' => DownPost (setV Z) downN (N.map unB) w e w' := by
  have q1 := setOf_any va n c Z w hn hr (Nat.le_trans hN (by decide)) (fun d hd => (hs d hd).big)
  obtain ⟨R, hR⟩ : ∃ R, setV Z = R := ⟨_, rfl⟩
  have HR := toHid8 hR
  have HRow := toHid8 hr
  have HS := toHid8 hs
  have HNs := toHid8 hns
  have HSt := toHid8 hst
  have HMl := toHid8 (And.intro hm hm2)
  rw [hR] at q1 ⊢
  clear hr hs hR hn hN hns hst hm hm2
  go_enter Tryz.func15, Tryz.ntmps15
  go_wp2_with fail
  with_reducible refine q1.mono ?_
  rintro e w1 ⟨hT, hNo, f1⟩
  have HF1 := toHid8 f1
  clear q1 f1
  cases R with
  | none =>
    obtain rfl := hNo rfl
    have HF2 := toHid8 (HF1.out.then7 (Fr.alloc None' w1 (.cells #[.map none] 44)))
    clear hT hNo
    go_wp2_with fail
    go_ret2
    exact ⟨fun T e => (by cases e), fun _ => ⟨rfl, HF2.out⟩⟩
  | some T =>
    obtain ⟨b, nn, rfl, hb, hnn, hmt⟩ := hT T rfl
    obtain ⟨w2, hw2⟩ : ∃ x, w1.alloc (.cells #[.map (some b)] 44) = x := ⟨_, rfl⟩
    have c1 : w2.cell? ⟨w1.heap.size, 0, none⟩ = some (.map (some b)) := by rw [← hw2]; simp
    have F2 : Fr None' w1 w2 := hw2 ▸ Fr.alloc None' w1 _
    have HF2 := toHid8 (HF1.out.then7 F2)
    have HQ := toHid8 (reached14_any (g := 34) (vs := #[.pointer (some ⟨w1.heap.size, 0, none⟩)]) (Nx := downN T) (hmt.kept F2) (setV_len HR.out) HMl.out.1 HMl.out.2 HNs.out (HSt.out.kept HF2.out)
      (fun args w => Go.MuLone.run_callFunc_enter Tryz.func34 (by kernel_rfl) rfl args w)
      (fun wx x F hx => down1_any ((hmt.kept F2).kept F) (fun t ht => (setV_in HRow.out HR.out t ht).kept (HF2.out.then7 F)) (F.keepCell c1 (fun e => e)) hx)
      (downN_small HR.out HS.out))
    clear hT hNo hmt hb hnn F2
    go_wp2_with fail
    refine HQ.out.mono ?_
    rintro e w3 hK
    have HK := toHid8 (ReachPost.early HF2.out hK)
    obtain ⟨(⟨K, v, -, -, -, rfl, -⟩ | ⟨-, rfl⟩), -⟩ := hK
    · go_wp2_with fail
      go_ret2
      exact ⟨fun T' e => (by cases e; exact HK.out), fun e => (by cases e)⟩
    · go_wp2_with fail
      go_ret2
      exact ⟨fun T' e => (by cases e; exact HK.out), fun e => (by cases e)⟩

end Go.Proofs.YtbiilnhefoplkaaGreatDoor

namespace Go.Proofs.YtbiilnhefoplkaaGreatDoor
open Go.RowKit Go.Maps Go.WideMaps
set_option maxRecDepth 100000

theorem setGo_right : ∀ {Z : List Pv} {T0 T : List (Kv Pv)}, setGo T0 Z = some T → ∀ d ∈ Z, rightPa d.x = true
  | [], T0, T, h, d, hd => by cases hd
  | c :: Z, T0, T, h, d, hd => by
    rw [setGo] at h
    split at h
    · cases h
    · rename_i hn
      rcases List.mem_cons.1 hd with rfl | hd
      · exact (Bool.eq_false_or_eq_true _).resolve_right (fun e => hn (.inr e))
      · exact setGo_right h d hd

theorem setV_right {Z : List Pv} {T : List (Kv Pv)} (h : setV Z = some T) : ∀ d ∈ Z, rightPa d.x = true := by
  unfold setV at h
  split at h
  · exact setGo_right h
  · cases h

theorem setV_all {va : Option Addr} {Z : List Pv} {w : World} (hr : RowV w va Z) {T : List (Kv Pv)} (h : setV Z = some T) : ∀ t ∈ T, PvIn w t.2 ∧ t.1 = unB t.2.x.name ∧ DepsS t.2.x ∧ rightPa t.2.x = true := fun t ht => by
  obtain ⟨h1, h2⟩ := setV_mem h t ht
  exact ⟨setV_in hr h t ht, h2, deps_of_right (setV_right h _ h1), setV_right h _ h1⟩

theorem aboveV_mem {V : List (Kv Pv)} {k : B13} {x : ByteArray} : x ∈ aboveV V k ↔ ∃ t ∈ V, k ∈ t.2.x.deps.map unB ∧ t.2.x.name = x := by
  unfold aboveV
  simp only [List.mem_map, List.mem_filter, decide_eq_true_eq]
  exact ⟨fun ⟨t, ⟨a, b⟩, c⟩ => ⟨t, a, b, c⟩, fun ⟨t, a, b, c⟩ => ⟨t, ⟨a, b⟩, c⟩⟩

theorem Rch.same {Nx Ny : B13 → List ByteArray} (h : ∀ k x, x ∈ Nx k → x ∈ Ny k) {N : List B13} {k : B13} (r : Rch Nx N k) : Rch Ny N k := by
  induction r with
  | base hk => exact .base hk
  | step _ hx ih =>
    obtain ⟨y, hy, rfl⟩ := List.mem_map.1 hx
    exact .step ih (List.mem_map.2 ⟨y, h _ _ hy, rfl⟩)

theorem aboveV_perm {V T : List (Kv Pv)} (h : V.Perm T) {N : List B13} (k : B13) : Rch (aboveV V) N k ↔ Rch (aboveV T) N k :=
  ⟨Rch.same (fun k x hx => by obtain ⟨t, a, b⟩ := aboveV_mem.1 hx; exact aboveV_mem.2 ⟨t, h.mem_iff.1 a, b⟩), Rch.same (fun k x hx => by obtain ⟨t, a, b⟩ := aboveV_mem.1 hx; exact aboveV_mem.2 ⟨t, h.mem_iff.2 a, b⟩)⟩

theorem ReachPost.perm {T V : List (Kv Pv)} (h : V.Perm T) {N : List B13} {w w' : World} {e : Ending} (r : ReachPost T (aboveV V) N w e w') : ReachPost T (aboveV T) N w e w' := by
  refine ⟨?_, r.2⟩
  rcases r.1 with ⟨K, v, h1, h2, h3⟩ | ⟨⟨z, h1, h2⟩, h3⟩
  · exact .inl ⟨K, v, h1, fun k => (h2 k).trans (aboveV_perm h k), h3⟩
  · exact .inr ⟨⟨z, (aboveV_perm h z).1 h1, h2⟩, h3⟩

set_option maxHeartbeats 4000000 in
theorem up1_any {base ba m bp : Nat} {f : B13 → Rw} {Nx : B13 → List ByteArray} {w : World} {x : ByteArray} (hg : GR base w ba m f Nx) (hc : w.cell? ⟨bp, 0, none⟩ = some (.map (some ba))) (hx : x.size ≤ 1000000000) :
    Calls Tryz.prog 36 #[.string x, .pointer (some ⟨bp, 0, none⟩)] w fun e w' => NextPost (Nx (unB x)) w e w' := by
  have hlook := hg.look x (Nat.le_trans hx (by decide))
  have ho := hg.own (unB x)
  obtain ⟨va, c, hv⟩ := ho.slice
  have hst := ho.strs
  rw [hv] at hlook hst
  have HP := toHid8 (show NextPost (Nx (unB x)) w (.returned (.slice va (Nx (unB x)).length c)) w from ⟨va, c, rfl, hst, Fr.refl _ _⟩)
  clear hg ho hst hv
  go_enter Tryz.func36, Tryz.ntmps36
  go_wp2_with fail
  go_ret
  exact HP.out

theorem aboveV_small {Z : List Pv} {T V : List (Kv Pv)} (h : setV Z = some T) (hs : ∀ d ∈ Z, SmallPa d.x) (hp : V.Perm T) (k : B13) : (aboveV V k).length ≤ 1000000 ∧ ∀ y ∈ aboveV V k, y.size ≤ 1000000000 := by
  refine ⟨Nat.le_trans (aboveV_len V k) (by rw [hp.length_eq]; exact Nat.le_trans (setV_len h) (by decide)), fun y hy => ?_⟩
  obtain ⟨t, ht, _, rfl⟩ := aboveV_mem.1 hy
  exact (hs _ (setV_mem h t (hp.mem_iff.1 ht)).1).name

set_option maxHeartbeats 8000000 in
theorem up14_any (va : Option Addr) (n c : Nat) (Z : List Pv) (pv : Option Addr) (m cm : Nat) (N : List ByteArray) (w : World) (hn : Z.length = n) (hr : RowV w va Z) (hN : n ≤ 1000000) (hs : ∀ d ∈ Z, SmallPa d.x) (hm : N.length = m) (hm2 : m ≤ 1000000) (hns : ∀ y ∈ N, y.size ≤ 1000000000) (hst : StrsAt w (.slice pv m cm) N) :
    Calls Tryz.prog 17 #[.slice va n c, .slice pv m cm] w fun e w' => DownPost (setV Z) aboveV (N.map unB) w e w' := by
  have q1 := setOf_any va n c Z w hn hr (Nat.le_trans hN (by decide)) (fun d hd => (hs d hd).big)
  obtain ⟨R, hR⟩ : ∃ R, setV Z = R := ⟨_, rfl⟩
  have HR := toHid8 hR
  have HRow := toHid8 hr
  have HS := toHid8 hs
  have HNs := toHid8 hns
  have HSt := toHid8 hst
  have HMl := toHid8 (And.intro hm hm2)
  rw [hR] at q1 ⊢
  clear hr hs hR hn hN hns hst hm hm2
  go_enter Tryz.func17, Tryz.ntmps17
  go_wp2_with fail
  with_reducible refine q1.mono ?_
  rintro e w1 ⟨hT, hNo, f1⟩
  have HF1 := toHid8 f1
  clear q1 f1
  cases R with
  | none =>
    obtain rfl := hNo rfl
    clear hT hNo
    go_wp2_with fail
    go_ret2
    exact ⟨fun T e => (by cases e), fun _ => ⟨rfl, HF1.out⟩⟩
  | some T =>
    obtain ⟨b, nn, rfl, hb, hnn, hmt⟩ := hT T rfl
    have q2 := above14_any b nn T w1 hmt (setV_all (HRow.out.kept HF1.out) HR.out) (setV_len HR.out)
    have HM := toHid8 hmt
    clear hT hNo hmt hb hnn
    go_wp2_with fail
    refine q2.mono ?_
    rintro e w2 ⟨ba, ma, f, V, rfl, hba, hperm, hg, f2⟩
    obtain ⟨w3, hw3⟩ : ∃ x, w2.alloc (.cells #[.map (some ba)] 53) = x := ⟨_, rfl⟩
    have c3 : w3.cell? ⟨w2.heap.size, 0, none⟩ = some (.map (some ba)) := by rw [← hw3]; simp
    have F3 : Fr None' w2 w3 := hw3 ▸ Fr.alloc None' w2 _
    have HF3 := toHid8 (HF1.out.then7 (f2.then7 F3))
    have HP := toHid8 hperm
    have HQ := toHid8 (reached14_any (g := 36) (vs := #[.pointer (some ⟨w2.heap.size, 0, none⟩)]) (Nx := aboveV V) (HM.out.kept (f2.then7 F3)) (setV_len HR.out) HMl.out.1 HMl.out.2 HNs.out (HSt.out.kept HF3.out)
      (fun args w => Go.MuLone.run_callFunc_enter Tryz.func36 (by kernel_rfl) rfl args w)
      (fun wx x F hx => up1_any ((hg.kept14 F3).kept14 F) (F.keepCell c3 (fun e => e)) hx)
      (aboveV_small HR.out HS.out hperm))
    clear hg f2 F3 hba q2 hperm
    go_wp2_with fail
    refine HQ.out.mono ?_
    rintro e w4 hK
    have HK := toHid8 (ReachPost.early HF3.out (hK.perm HP.out))
    obtain ⟨(⟨K, v, -, -, -, rfl, -⟩ | ⟨-, rfl⟩), -⟩ := hK
    · go_wp2_with fail
      go_ret2
      exact ⟨fun T' e => (by cases e; exact HK.out), fun e => (by cases e)⟩
    · go_wp2_with fail
      go_ret2
      exact ⟨fun T' e => (by cases e; exact HK.out), fun e => (by cases e)⟩

end Go.Proofs.YtbiilnhefoplkaaGreatDoor

namespace Go.Proofs.YtbiilnhefoplkaaGreatDoor
open Go.RowKit Go.Maps Go.WideMaps
set_option maxRecDepth 100000

def readyV (T : List (Kv Pv)) (O : List B13) (k : B13) : Bool := decide (k ∉ O) && ((downN T k).map unB).all (fun d => decide (d ∈ O))
def ordNext (T : List (Kv Pv)) (O : List B13) : Option B13 := (T.map (·.1)).find? (readyV T O)
def ordGo (T : List (Kv Pv)) : Nat → List B13 → List B13
  | 0, O => O
  | f + 1, O => match ordNext T O with
    | none => O
    | some k => ordGo T f (O ++ [k])
def ordV (T : List (Kv Pv)) : Option (List B13) := if (ordGo T T.length []).length = T.length then some (ordGo T T.length []) else none

/-- How many Deps lack. -/
def lackV (T : List (Kv Pv)) (O : List B13) (k : B13) : Nat := (((downN T k).map unB).filter (fun d => decide (d ∉ O))).length

/-- The map of those that are not told. -/
structure LK (T : List (Kv Pv)) (O : List B13) (D : List (Kv Nat)) : Prop where
  get : ∀ q n, getM D q = some n ↔ InM T q ∧ q ∉ O ∧ n = lackV T O q
  len : D.length + O.length = T.length
  cl : ∀ o ∈ O, ∀ d ∈ (downN T o).map unB, d ∈ O

/-- While those above one that is told are gone through. -/
structure LKM (T : List (Kv Pv)) (O : List B13) (k : B13) (P : List B13) (D : List (Kv Nat)) : Prop where
  get : ∀ q n, getM D q = some n ↔ InM T q ∧ q ∉ O ++ [k] ∧ n = if q ∈ P then lackV T (O ++ [k]) q else lackV T O q
  len : D.length + (O ++ [k]).length = T.length

theorem len_del {β : Type} {D : List (Kv β)} (h : RiseM D) {k : B13} {n : β} (hg : getM D k = some n) : (delM D k).length + 1 = D.length := by
  have hm := getM_mem hg
  induction D with
  | nil => cases hm
  | cons t D ih =>
    unfold RiseM at h
    rw [List.map_cons, List.pairwise_cons] at h
    by_cases e : t.1 = k
    · have hn : getM D k = none := by
        cases hq : getM D k with
        | none => rfl
        | some c =>
          have := h.1 _ (List.mem_map.2 ⟨_, getM_mem hq, rfl⟩)
          rw [e] at this
          exact absurd this (List.lt_irrefl _)
      have := del_none hn
      unfold delM at this ⊢
      rw [List.filter_cons, if_neg (by simp [e]), this]
      rfl
    · have hm2 : (k, n) ∈ D := by
        rcases List.mem_cons.1 hm with h | h
        · exact absurd (by rw [← h]) e
        · exact h
      have := ih h.2 ((getM_iff (show RiseM D from h.2)).2 hm2) hm2
      unfold delM at this ⊢
      rw [List.filter_cons, if_pos (by simpa using e), List.length_cons, List.length_cons]
      omega

theorem len_put_old {β : Type} {D : List (Kv β)} (h : RiseM D) {k : B13} {n c : β} (hg : getM D k = some n) : (putM D k c).length = D.length := by
  unfold putM
  rw [len_insM, len_del h hg]

theorem LK.ready {T : List (Kv Pv)} {O : List B13} {D : List (Kv Nat)} (h : LK T O D) {k : B13} (hk : InM T k) : readyV T O k = true ↔ getM D k = some 0 := by
  rw [h.get]
  unfold readyV lackV
  rw [Bool.and_eq_true, decide_eq_true_eq, List.all_eq_true, eq_comm (a := 0), List.length_eq_zero_iff, List.filter_eq_nil_iff]
  exact ⟨fun ⟨a, b⟩ => ⟨hk, a, fun d hd => by simpa using b d hd⟩, fun ⟨_, a, b⟩ => ⟨a, fun d hd => by simpa using b d hd⟩⟩

theorem LK.told {T : List (Kv Pv)} {O : List B13} {D : List (Kv Nat)} (h : LK T O D) (hD : RiseM D) {k : B13} (hk : InM T k) (hr : readyV T O k = true) : LKM T O k [] (delM D k) := by
  refine ⟨fun q n => ?_, ?_⟩
  · rw [get_delM hD]
    by_cases e : q = k
    · rw [if_pos e]
      exact ⟨fun h => (by cases h), fun ⟨_, h, _⟩ => absurd (List.mem_append_right _ (List.mem_singleton.2 e)) h⟩
    · rw [if_neg e, h.get, if_neg (List.not_mem_nil)]
      exact ⟨fun ⟨a, b, c⟩ => ⟨a, fun hm => by rcases List.mem_append.1 hm with hm | hm; exact b hm; exact e (List.mem_singleton.1 hm), c⟩, fun ⟨a, b, c⟩ => ⟨a, fun hm => b (List.mem_append_left _ hm), c⟩⟩
  · have h1 := len_del hD ((h.ready hk).1 hr)
    have h2 := h.len
    rw [List.length_append, List.length_singleton]
    omega

theorem lack_step {T : List (Kv Pv)} {O : List B13} {k q : B13} (hd : ((downN T q).map unB).Pairwise (· ≠ ·)) (hk : k ∈ (downN T q).map unB) (hO : k ∉ O) : lackV T O q = lackV T (O ++ [k]) q + 1 := by
  unfold lackV
  generalize (downN T q).map unB = ds at hd hk
  have h1 : ds.filter (fun d => decide (d ∉ O ++ [k])) = (ds.filter (fun d => decide (d ∉ O))).filter (fun d => d != k) := by
    rw [List.filter_filter]
    refine List.filter_congr (fun d _ => ?_)
    by_cases e : d = k <;> by_cases e2 : d ∈ O <;> simp [e, e2]
  have h2 : (ds.filter (fun d => decide (d ∉ O))).Nodup := List.Pairwise.filter _ hd
  have h3 : k ∈ ds.filter (fun d => decide (d ∉ O)) := List.mem_filter.2 ⟨hk, by simpa using hO⟩
  rw [h1, ← h2.erase_eq_filter, List.length_erase_of_mem h3]
  have := List.length_pos_of_mem h3
  omega

theorem lack_same {T : List (Kv Pv)} {O : List B13} {k q : B13} (hk : k ∉ (downN T q).map unB) : lackV T (O ++ [k]) q = lackV T O q := by
  unfold lackV
  congr 1
  refine List.filter_congr (fun d hd => ?_)
  have : d ≠ k := fun e => hk (e ▸ hd)
  simp [this]

/-- One more that stands on k. -/
theorem LKM.step {T : List (Kv Pv)} {O : List B13} {k : B13} {P : List B13} {D : List (Kv Nat)} (h : LKM T O k P D) (hD : RiseM D) (hcl : ∀ o ∈ O, ∀ d ∈ (downN T o).map unB, d ∈ O) (hkO : k ∉ O) {q : B13} (hq : InM T q) (hqk : q ≠ k) (hqP : q ∉ P) (hd : ((downN T q).map unB).Pairwise (· ≠ ·)) (hk : k ∈ (downN T q).map unB) :
    ∃ n, getM D q = some n ∧ 1 ≤ n ∧ n ≤ ((downN T q).map unB).length ∧ LKM T O k (P ++ [q]) (putM D q (n - 1)) := by
  have hqO : q ∉ O ++ [k] := fun hm => by
    rcases List.mem_append.1 hm with hm | hm
    · exact hkO (hcl q hm k hk)
    · exact hqk (List.mem_singleton.1 hm)
  have hst := lack_step hd hk hkO
  have hg : getM D q = some (lackV T O q) := (h.get _ _).2 ⟨hq, hqO, by rw [if_neg hqP]⟩
  refine ⟨_, hg, by omega, List.length_filter_le _ _, ⟨fun r n => ?_, by rw [len_put_old hD hg]; exact h.len⟩⟩
  rw [get_putM hD]
  by_cases e : r = q
  · subst e
    rw [if_pos rfl, if_pos (List.mem_append_right _ (List.mem_singleton.2 rfl)), hst, Nat.add_sub_cancel]
    exact ⟨fun h => ⟨hq, hqO, by cases h; rfl⟩, fun ⟨_, _, h⟩ => by rw [h]⟩
  · rw [if_neg e, h.get]
    have : (r ∈ P ++ [q]) = (r ∈ P) := by simp [e]
    simp only [this]

theorem LKM.done {T : List (Kv Pv)} {O : List B13} {k : B13} {P : List B13} {D : List (Kv Nat)} (h : LKM T O k P D) (hcl : ∀ o ∈ O, ∀ d ∈ (downN T o).map unB, d ∈ O) (hr : readyV T O k = true) (hP : ∀ q, InM T q → q ∉ P → k ∉ (downN T q).map unB) : LK T (O ++ [k]) D := by
  refine ⟨fun q n => ?_, h.len, fun o ho d hd => ?_⟩
  · rw [h.get]
    by_cases e : q ∈ P
    · simp only [if_pos e]
    · simp only [if_neg e]
      exact ⟨fun ⟨a, b, c⟩ => ⟨a, b, by rw [c, lack_same (hP q a e)]⟩, fun ⟨a, b, c⟩ => ⟨a, b, by rw [c, lack_same (hP q a e)]⟩⟩
  · rcases List.mem_append.1 ho with ho | ho
    · exact List.mem_append_left _ (hcl o ho d hd)
    · rw [List.mem_singleton.1 ho] at hd
      unfold readyV at hr
      rw [Bool.and_eq_true, List.all_eq_true] at hr
      exact List.mem_append_left _ (by simpa using hr.2 d hd)

/-- While the map is laid. -/
structure LKI (V : List (Kv Pv)) (D : List (Kv Nat)) : Prop where
  get : ∀ q n, getM D q = some n ↔ ∃ t ∈ V, t.1 = q ∧ n = t.2.x.deps.length
  len : D.length = V.length

theorem LKI.nil : LKI [] [] := ⟨fun q n => ⟨fun h => (by cases h), fun ⟨t, h, _⟩ => (by cases h)⟩, rfl⟩

theorem LKI.snoc {V : List (Kv Pv)} {D : List (Kv Nat)} (h : LKI V D) (hD : RiseM D) {t : Kv Pv} (ht : ∀ s ∈ V, s.1 ≠ t.1) : LKI (V ++ [t]) (putM D t.1 t.2.x.deps.length) := by
  refine ⟨fun q n => ?_, ?_⟩
  · rw [get_putM hD]
    by_cases e : q = t.1
    · rw [if_pos e]
      constructor
      · intro h; cases h; exact ⟨t, List.mem_append_right _ (List.mem_singleton.2 rfl), e.symm, rfl⟩
      · rintro ⟨s, hs, h1, h2⟩
        rcases List.mem_append.1 hs with hs | hs
        · exact absurd (h1.trans e) (ht s hs)
        · rw [List.mem_singleton.1 hs] at h2; rw [h2]
    · rw [if_neg e, h.get]
      constructor
      · rintro ⟨s, hs, h1, h2⟩; exact ⟨s, List.mem_append_left _ hs, h1, h2⟩
      · rintro ⟨s, hs, h1, h2⟩
        rcases List.mem_append.1 hs with hs | hs
        · exact ⟨s, hs, h1, h2⟩
        · exact absurd (by rw [← h1, List.mem_singleton.1 hs]) e
  · have hn : getM D t.1 = none := by
      cases hq : getM D t.1 with
      | none => rfl
      | some c =>
        obtain ⟨s, hs, h1, _⟩ := (h.get _ _).1 hq
        exact absurd h1 (ht s hs)
    rw [len_put _ hn, h.len, List.length_append, List.length_singleton]

theorem LKI.done {V T : List (Kv Pv)} {D : List (Kv Nat)} (h : LKI V D) (hp : V.Perm T) (hT : RiseM T) : LK T [] D := by
  refine ⟨fun q n => ?_, by rw [h.len, hp.length_eq]; rfl, fun o ho => (by cases ho)⟩
  rw [h.get]
  have hlack : ∀ t ∈ T, lackV T [] t.1 = t.2.x.deps.length := fun t ht => by
    unfold lackV downN
    rw [hT.get ht]
    rw [List.filter_eq_self.2 (fun d _ => by simp), List.length_map]
  constructor
  · rintro ⟨t, ht, rfl, rfl⟩
    have ht := hp.mem_iff.1 ht
    exact ⟨by unfold InM; rw [hT.get ht]; rfl, List.not_mem_nil, (hlack t ht).symm⟩
  · rintro ⟨a, _, rfl⟩
    obtain ⟨t, ht, rfl⟩ := List.mem_map.1 ((inM_iff hT).1 a)
    exact ⟨t, hp.mem_iff.2 ht, rfl, hlack t ht⟩

/-- One more name of the order. -/
theorem ordGo_step {T : List (Kv Pv)} {f : Nat} {O : List B13} {k : B13} (h : ordNext T O = some k) : ordGo T (f + 1) O = ordGo T f (O ++ [k]) := by rw [ordGo, h]

theorem ordGo_stop {T : List (Kv Pv)} {O : List B13} (h : ordNext T O = none) : ∀ f, ordGo T f O = O
  | 0 => rfl
  | f + 1 => by rw [ordGo, h]

end Go.Proofs.YtbiilnhefoplkaaGreatDoor

namespace Go.Proofs.YtbiilnhefoplkaaGreatDoor
open Go.RowKit Go.Maps Go.WideMaps
set_option maxRecDepth 100000

def mkI (n : Nat) : Value := .int .i64 n

theorem zeroI14 (w : World) : (zeroValue 3).run Tryz.prog w = .ok (mkI 0) w := by kernel_rfl

def isReady (D : List (Kv Nat)) (k : B13) : Bool := decide (getM D k = some 0)

set_option maxHeartbeats 4000000 in
theorem order1_any {D : List (Kv Nat)} {b n bp : Nat} {w : World} {x : ByteArray} (h : MAt mkI w b n D) (hc : w.cell? ⟨bp, 0, none⟩ = some (.map (some b))) (hx : x.size ≤ 1000000000) :
    Calls Tryz.prog 29 #[.string x, .pointer (some ⟨bp, 0, none⟩)] w fun e w' => e = .returned (.bool (isReady D (unB x))) ∧ Fr None' w w' := by
  have hlook := h.look_ok Tryz.underlying50 (zeroI14 _) x (Nat.le_trans hx (by decide))
  clear h
  unfold isReady
  cases hg : getM D (unB x) with
  | none =>
    rw [hg] at hlook
    simp only [Option.getD_none, Option.isSome_none, mkI] at hlook
    clear hg
    rw [decide_eq_false (by simp)]
    go_enter Tryz.func29, Tryz.ntmps29
    go_wp2_with fail
    go_ret
    exact ⟨rfl, Fr.refl _ _⟩
  | some n =>
    rw [hg] at hlook
    simp only [Option.getD_some, Option.isSome_some, mkI] at hlook
    clear hg
    by_cases e : n = 0
    · subst e
      rw [decide_eq_true rfl]
      go_enter Tryz.func29, Tryz.ntmps29
      go_wp2_with fail
      go_ret
      exact ⟨rfl, Fr.refl _ _⟩
    · rw [decide_eq_false (fun h => e (by cases h; rfl))]
      have i1 : ((n : Int) == 0) = false := by simp [e]
      have i2 : ¬ (n : Int) = 0 := by omega
      clear e
      go_enter Tryz.func29, Tryz.ntmps29
      go_wp2_with fail
      go_ret
      exact ⟨rfl, Fr.refl _ _⟩

/-- Where the first stands. -/
def IdxAt (K : List ByteArray) (p : B13 → Bool) (z : Int) : Prop := (z = -1 ∧ ∀ x ∈ K, p (unB x) = false) ∨ ∃ k : Nat, ∃ h : k < K.length, z = k ∧ p (unB K[k]) = true ∧ ∀ x ∈ K.take k, p (unB x) = false

set_option maxHeartbeats 4000000 in
theorem idx14_any (va : Option Addr) (n c : Nat) (K : List ByteArray) {D : List (Kv Nat)} {b m bp : Nat} (w : World) (hl : K.length = n) (hst : StrsAt w (.slice va n c) K) (hn : n ≤ 1000000) (hs : ∀ y ∈ K, y.size ≤ 1000000000) (h : MAt mkI w b m D) (hb : w.cell? ⟨bp, 0, none⟩ = some (.map (some b))) :
    Calls Tryz.prog 31 #[.slice va n c, .func (.func 29) #[] #[.pointer (some ⟨bp, 0, none⟩)]] w fun e w' => ∃ z, e = .returned (.int .i64 z) ∧ IdxAt K (isReady D) z ∧ Fr None' w w' := by
  have HL := toHid8 hl
  have HSt := toHid8 hst
  have HS := toHid8 hs
  have HM := toHid8 h
  have HB := toHid8 hb
  have i1 : (n : Int) ≤ 1000000 := by omega
  clear hl hst hn hs h hb
  go_enter Tryz.func31, Tryz.ntmps31
  go_wp2_with fail
  go_loopw [8] (fun vi wr => ∃ k : Nat, k ≤ n ∧ vi = .int .i64 k ∧ Hid (Fr None' w wr) ∧ Hid (∀ x ∈ K.take k, isReady D (unB x) = false)) (fun vi _ => n - (intOf vi).toNat)
  case atStart => exact ⟨0, Nat.zero_le _, rfl, Fr.refl _ _, fun x h => by cases h⟩
  case round =>
    obtain ⟨k, hk, rfl, HF, HT⟩ := hrel
    by_cases hlt : k < n
    case neg =>
      have HE := toHid8 (show IdxAt K (isReady D) (-1) from .inl ⟨rfl, by
        have h := HT.out
        rwa [List.take_of_length_le (by rw [HL.out]; omega)] at h⟩)
      have i2 : ¬ (k : Int) < (n : Int) := by omega
      clear hlt
      go_wp2_with fail
      go_ret
      exact ⟨_, rfl, HE.out, HF.out⟩
    case pos =>
      have hka : k < K.length := by rw [HL.out]; exact hlt
      have hds : (K[k]).size ≤ 1000000000 := HS.out _ (List.getElem_mem hka)
      obtain ⟨p0, c0, e, -, -, hrow⟩ := HSt.out
      obtain ⟨gd, od, hpd, hcd⟩ := hrow.get hka
      have hcd' := HF.out.keepCell hcd (fun e => e)
      have hpu : va = some ⟨gd, od, none⟩ := by cases e; exact hpd
      have HY := toHid8 (show isReady D (unB K[k]) = true → IdxAt K (isReady D) k from fun e => .inr ⟨k, hka, rfl, e, HT.out⟩)
      have HNo := toHid8 (show isReady D (unB K[k]) = false → ∀ x ∈ K.take (k + 1), isReady D (unB x) = false from fun e x hx => by
        rw [List.take_succ_eq_append_getElem hka] at hx
        rcases List.mem_append.1 hx with hx | hx
        · exact HT.out x hx
        · rw [List.mem_singleton.1 hx]; exact e)
      obtain ⟨x, hx⟩ : ∃ x, K[k] = x := ⟨_, rfl⟩
      rw [hx] at hcd' hds HY HNo
      subst hpu
      have q1 := order1_any (HM.out.kept HF.out) (HF.out.keepCell HB.out (fun e => e)) hds
      have i3 : (k : Int) < (n : Int) := by omega
      have i4 : (0 : Int) ≤ (k : Int) := by omega
      have HLt := toHid8 hlt
      obtain ⟨R, hR⟩ : ∃ R, isReady D (unB x) = R := ⟨_, rfl⟩
      rw [hR] at q1 HY HNo
      clear hrow e hcd hpd hx hlt hds hR
      cases R with
      | true =>
        have HY2 := toHid8 (HY.out rfl)
        go_wp2_with fail
        refine q1.mono ?_
        rintro e w2 ⟨rfl, f2⟩
        have HF2 := toHid8 (HF.out.then7 f2)
        clear q1 f2
        go_wp2_with fail
        go_ret
        exact ⟨_, rfl, HY2.out, HF2.out⟩
      | false =>
        have HN2 := toHid8 (HNo.out rfl)
        go_wp2_with fail
        refine q1.mono ?_
        rintro e w2 ⟨rfl, f2⟩
        have HF2 := toHid8 (HF.out.then7 f2)
        clear q1 f2
        go_wp2_with fail
        exact ⟨⟨k + 1, by have := HLt.out; omega, by go_num, HF2.out, HN2.out⟩, by simp [intOf]; have := HLt.out; omega⟩

end Go.Proofs.YtbiilnhefoplkaaGreatDoor

namespace Go.Proofs.YtbiilnhefoplkaaGreatDoor
open Go.RowKit Go.Maps Go.WideMaps
set_option maxRecDepth 100000

/-- What Order hands back. -/
def OrdPost (w : World) (R : Option (List (Kv Pv))) (e : Ending) (w' : World) : Prop :=
  (∀ T, R = some T → NamesPost w (ordV T) 141 e w') ∧ (R = none → e = .returned (.tuple #[.slice none 0 0, .int .i64 1]) ∧ Fr None' w w')

def lenV : Value → Nat
  | .slice _ n _ => n
  | _ => 0

def manyO (n : Nat) : Nat := 256 + n * 256

theorem manyO_succ (n : Nat) : manyO (n + 1) = manyO n + 256 := by unfold manyO; omega

theorem strs_fr14 {M : Nat → Prop} {w w' : World} {v : Value} {l : List ByteArray} (h : StrsAt w v l) (F : Fr M w w') (hM : ∀ g o x, w.cell? ⟨g, o, none⟩ = some x → ¬ M g) : StrsAt w' v l := by
  obtain ⟨va, c, hv, h1, h2, hr⟩ := h
  exact ⟨va, c, hv, h1, h2, fun j x hj => by
    obtain ⟨g, o, e, hc⟩ := hr j x hj
    exact ⟨g, o, e, F.keepCell hc (hM _ _ _ hc)⟩⟩

theorem depsB_not : ∀ (N : B13) (last : B13) (l : List B13), depsB N last l = true → N ∉ l
  | _, last, [], _ => List.not_mem_nil
  | N, last, d :: l, h => by
    rw [depsB] at h
    simp only [Bool.and_eq_true, Bool.not_eq_true', decide_eq_true_eq, decide_eq_false_iff_not] at h
    obtain ⟨⟨_, h3⟩, h4⟩ := h
    intro hm
    rcases List.mem_cons.1 hm with e | hm
    · exact h3 e.symm
    · exact depsB_not N d l h4 hm

theorem deps_not {p : Pa} (h : rightPa p = true) : unB p.name ∉ p.deps.map unB := by
  unfold rightPa at h
  simp only [Bool.and_eq_true] at h
  exact depsB_not _ _ _ h.1.2.2

theorem above_nodup {V : List (Kv Pv)} (hV : V.Pairwise (fun a b => a.1 ≠ b.1)) (hn : ∀ t ∈ V, t.1 = unB t.2.x.name) (k : B13) : ((aboveV V k).map unB).Pairwise (· ≠ ·) := by
  unfold aboveV
  rw [List.map_map, List.pairwise_map]
  refine (List.Pairwise.filter _ hV).imp_of_mem (fun {a b} ha hb h e => h ?_)
  rw [hn a (List.mem_filter.1 ha).1, hn b (List.mem_filter.1 hb).1]
  exact e

theorem keys_apart {V T : List (Kv Pv)} (hp : V.Perm T) (hT : RiseM T) : V.Pairwise (fun a b => a.1 ≠ b.1) := by
  have h : (V.map (·.1)).Nodup := (hp.map _).nodup_iff.2 (keys_nodup hT)
  unfold List.Nodup at h
  rwa [List.pairwise_map] at h

/-- At a round of the loop that tells. -/
def ORel (T : List (Kv Pv)) (w4 : World) (z : Nat) (vo : Value) (wx : World) : Prop := ∃ (O : List B13) (D : List (Kv Nat)) (fu m : Nat) (vp : Option Addr) (co : Nat), vo = .slice vp O.length co ∧ ordGo T fu O = ordGo T T.length [] ∧ O.length + fu = T.length ∧ LK T O D ∧ MAt mkI wx z m D ∧ m ≤ manyO O.length ∧ OwnR14 w4.heap.size wx (.slice vp O.length co) (O.map mkB) ∧ Fr (fun i => i = z ∨ w4.heap.size ≤ i) w4 wx

theorem idx_none {T : List (Kv Pv)} {O : List B13} {D : List (Kv Nat)} (h : LK T O D) (hT : RiseM T) (hn : ∀ x ∈ (T.map (·.1)).map mkB, isReady D (unB x) = false) : ordNext T O = none := by
  unfold ordNext
  rw [List.find?_eq_none]
  intro k hk hr
  have h1 := (h.ready ((inM_iff hT).2 hk)).1 hr
  have h2 := hn _ (List.mem_map.2 ⟨k, hk, rfl⟩)
  rw [un_mk] at h2
  unfold isReady at h2
  rw [h1] at h2
  simp at h2

theorem idx_some {T : List (Kv Pv)} {O : List B13} {D : List (Kv Nat)} (h : LK T O D) (hT : RiseM T) {k : Nat} (hk : k < ((T.map (·.1)).map mkB).length) (hy : isReady D (unB ((T.map (·.1)).map mkB)[k]) = true) (hn : ∀ x ∈ ((T.map (·.1)).map mkB).take k, isReady D (unB x) = false) :
    ∃ q, ((T.map (·.1)).map mkB)[k] = mkB q ∧ InM T q ∧ readyV T O q = true ∧ ordNext T O = some q := by
  have hk2 : k < (T.map (·.1)).length := by rw [List.length_map] at hk; exact hk
  have e : ((T.map (·.1)).map mkB)[k] = mkB (T.map (·.1))[k] := List.getElem_map ..
  have hin : InM T (T.map (·.1))[k] := (inM_iff hT).2 (List.getElem_mem hk2)
  rw [e, un_mk] at hy
  have hr : readyV T O (T.map (·.1))[k] = true := (h.ready hin).2 (of_decide_eq_true hy)
  refine ⟨_, e, hin, hr, ?_⟩
  unfold ordNext
  rw [List.find?_eq_some_iff_append]
  refine ⟨hr, (T.map (·.1)).take k, (T.map (·.1)).drop (k + 1), ?_, fun a ha => ?_⟩
  · rw [← List.drop_eq_getElem_cons hk2, List.take_append_drop]
  · have h1 := hn (mkB a) (by rw [← List.map_take]; exact List.mem_map.2 ⟨a, ha, rfl⟩)
    rw [un_mk] at h1
    have h2 := (h.ready ((inM_iff hT).2 (List.mem_of_mem_take ha))).1
    cases hq : readyV T O a with
    | false => rfl
    | true =>
      unfold isReady at h1
      rw [h2 hq] at h1
      simp at h1

set_option maxHeartbeats 16000000 in
theorem order14_any (va : Option Addr) (n c : Nat) (Z : List Pv) (w : World) (hn : Z.length = n) (hr : RowV w va Z) (hN : n ≤ 140737488355328) (hs : ∀ d ∈ Z, BigPa d.x) :
    Calls Tryz.prog 11 #[.slice va n c] w fun e w' => OrdPost w (setV Z) e w' := by
  have q1 := setOf_any va n c Z w hn hr hN hs
  obtain ⟨R, hR⟩ : ∃ R, setV Z = R := ⟨_, rfl⟩
  have HR := toHid8 hR
  have HRow := toHid8 hr
  have hmm := @run_makeMap Tryz.prog
  rw [hR] at q1 ⊢
  clear hr hs hR hn hN
  go_enter Tryz.func11, Tryz.ntmps11
  go_wp2_with fail
  with_reducible refine q1.mono ?_
  rintro e w1 ⟨hT, hNo, f1⟩
  have HF1 := toHid8 f1
  clear q1 f1
  cases R with
  | none =>
    obtain rfl := hNo rfl
    clear hT hNo hmm
    go_wp2_with fail
    go_ret2
    exact ⟨fun T e => (by cases e), fun _ => ⟨rfl, HF1.out⟩⟩
  | some T =>
    obtain ⟨b, nn, rfl, hb, hnn, hmt⟩ := hT T rfl
    have HAl := toHid8 (setV_all (HRow.out.kept HF1.out) HR.out)
    have HLen := toHid8 (setV_len HR.out)
    have HRi := toHid8 hmt.rise
    have HM := toHid8 hmt
    have hlt := hmt.lt
    obtain ⟨z, hz⟩ : ∃ z, w1.heap.size = z := ⟨_, rfl⟩
    obtain ⟨wA, hwA⟩ : ∃ x, w1.alloc (.map #[] 0) = x := ⟨_, rfl⟩
    have mA : MAt mkI wA z 0 [] := by rw [← hwA, ← hz]; exact MAt.start w1
    have sA : wA.heap.size = z + 1 := by rw [← hwA]; simp [hz]
    have GA : Fr None' w1 wA := hwA ▸ Fr.alloc None' w1 _
    obtain ⟨wB, hwB⟩ : ∃ x, wA.alloc (.cells #[.map (some z)] 50) = x := ⟨_, rfl⟩
    have cB : wB.cell? ⟨z + 1, 0, none⟩ = some (.map (some z)) := by rw [← hwB, ← sA]; simp
    have sB : wB.heap.size = z + 2 := by rw [← hwB]; simp [sA]
    have GB : Fr None' wA wB := hwB ▸ Fr.alloc None' wA _
    have HF1B := toHid8 (GA.then7 GB)
    have HMA := toHid8 (mA.kept GB)
    have HCB := toHid8 cB
    have hown : wB.ownsMap Tryz.prog 9 (heldM mkV) b nn (toM mkV T) := hmt.kept (GA.then7 GB)
    have HZ := toHid8 (And.intro hz (And.intro sB (show b < z by omega)))
    clear hT hNo hmt hb hnn hlt mA GA GB
    go_wp2_with (first
      | (at_range; refine wpList_range_own _ rfl _ 44 rfl 9 36 lawS Tryz.underlying44 _ b nn _ rfl hown ?_; intro w0 hrg0 hg0 hs0)
      | go_in)
    clear hmm
    clear sB
    go_frame
    go_loopw [7] (fun _ wr => ∃ left cnt V D, wr.ranges Tryz.prog 9 (heldM mkV) b wB.heap.size nn (toM mkV T) left cnt ∧ Hid (Gath14 T left V) ∧ Hid (LKI V D) ∧ Hid (MAt mkI wr z V.length D) ∧ Hid (Fr (fun i => i = z) wB wr) ∧ Hid (wB.heap.size + 1 ≤ wr.heap.size)) (fun _ wr => wr.rangeLeft b wB.heap.size)
    case atStart =>
      have F0 : Fr None' wB w0 := Fr.grown hg0 (by simp)
      exact ⟨_, _, [], [], hrg0, Gath14.start HRi.out, LKI.nil, HMA.out.kept F0, F0.mono (fun _ e => e.elim), by show _ ≤ _; omega⟩
    case round =>
      obtain ⟨left, cnt, V, D, hrg, HG, HK, HD, HF, HY⟩ := hrel
      have hcb := HF.out.keepCell HCB.out (fun (e : z + 1 = z) => by omega)
      go_wp2_with (first
        | (at_next; refine wpList_next_ranges _ rfl _ rfl 9 lawS (heldM mkV) Value.string mkV (fun key kl hk => by obtain ⟨x, hx, _⟩ := keyOf_string_inv hk; exact ⟨x, hx⟩) (fun v y hv => heldM_inv mkV hv) b wB.heap.size nn _ _ _ rfl hrg ?_ ?_)
        | go_in)
      · intro _ hl0
        have HP := toHid8 (HG.out.done HRi.out hl0)
        have HL := toHid8 (HK.out.done HP.out HRi.out)
        have HFw := toHid8 (show Fr None' w1 wr from (HF1B.out.trans HF.out (fun i e => Or.inr (by have := HZ.out; omega))))
        have HMr := toHid8 (HM.out.kept HFw.out)
        have HLV := toHid8 (show V.length ≤ 256 from by rw [HP.out.length_eq]; exact HLen.out)
        have q3 := risingP_any mkV b nn T wr HMr.out (Nat.le_trans HLen.out (by decide))
        have Hcb := toHid8 hcb
        clear hrg hcb
        go_wp2_with fail
        refine q3.mono ?_
        rintro e w3 ⟨v3, rfl, hst, f3⟩
        have HF3 := toHid8 f3
        have q4 := above14_any b nn T w3 (HMr.out.kept f3) (fun t ht => by
          obtain ⟨a, b, c⟩ := HAl.out t ht
          exact ⟨a.kept (HFw.out.then7 f3), b, c⟩) HLen.out
        have hst' := hst
        obtain ⟨pk, ck, rfl, -, -, -⟩ := hst
        have HSt := toHid8 (show StrsAt w3 (.slice pk T.length ck) ((T.map (·.1)).map mkB) from by simpa only [List.length_map] using hst')
        clear q3 f3 hst'
        go_wp2_with fail
        refine q4.mono ?_
        rintro e w4 ⟨ba, ma, f, Va, rfl, hba, hperm, hg, f4⟩
        have HF4 := toHid8 f4
        have HPm := toHid8 hperm
        have HG4 := toHid8 hg
        have HBa := toHid8 hba
        have HZ4 := toHid8 (show z + 2 ≤ w3.heap.size ∧ z + 2 ≤ w4.heap.size ∧ w1.heap.size ≤ w4.heap.size from by
          have h1 := HZ.out
          have h2 := HF.out.size
          have h3 := HF3.out.size
          have h4 := f4.size
          omega)
        have HD4 := toHid8 (show MAt mkI w4 z V.length D from (HD.out.kept HF3.out).kept f4)
        have Hcb4 := toHid8 (f4.keepCell (HF3.out.keepCell Hcb.out (fun e => e)) (fun e => e))
        have HSt4 := toHid8 (HSt.out.kept f4)
        have HO := toHid8 (show ORel T w4 z (.slice none 0 0) w4 from ⟨[], D, T.length, V.length, none, 0, rfl, rfl, Nat.zero_add _, HL.out, HD4.out, by have := HLV.out; unfold manyO; omega, OwnR14.nil _ _, Fr.refl _ _⟩)
        have HFall := toHid8 (show Fr None' w w4 from HF1.out.then7 (HFw.out.then7 (HF3.out.then7 f4)))
        clear q4 hba hperm hg f4
        go_wp2_with fail
        go_loopw [10] (fun vo wx => Hid (ORel T w4 z vo wx)) (fun vo _ => T.length - lenV vo)
        case atStart => exact HO.out
        case round =>
          obtain ⟨O, D1, fu, m, vp, co, rfl, hgo, hle, hLK, hMD, hm, hRow, hFr⟩ := hrel.out
          have HGo := toHid8 (And.intro hgo hle)
          have HLK := toHid8 hLK
          have HMD := toHid8 hMD
          have HMm := toHid8 hm
          have HRow := toHid8 hRow
          have HFr := toHid8 hFr
          have hlo : O.length ≤ 256 := by have := HLen.out; omega
          have HLo := toHid8 hlo
          have hcbx := hFr.keepCell Hcb4.out (fun (e : z + 1 = z ∨ w4.heap.size ≤ z + 1) => by have := HZ4.out; omega)
          have hown := hMD
          unfold MAt at hown
          obtain ⟨ld, hld⟩ : ∃ y, Maps.size (toM mkI D1) = y := ⟨_, rfl⟩
          have HLd := toHid8 (show D1.length = ld from by rw [← hld, size_toM])
          have HFall2 := toHid8 (show Fr None' w wr from HFall.out.trans hFr (fun i e => Or.inr (by
            have h1 := HF1.out.size
            have h2 := HZ.out
            have h3 := HZ4.out
            omega)))
          clear hrel hgo hle hLK hMD hm hRow hFr hlo
          by_cases h0 : ld = 0
          · as_aux_lemma =>
            subst h0
            have HE := toHid8 (show ordV T = some O from by
              have h1 := HLK.out.len
              have h2 := HGo.out
              have h3 := HLd.out
              have e : fu = 0 := by omega
              rw [e] at h2
              unfold ordV
              rw [← h2.1, ordGo, if_pos (by omega)])
            have HV := toHid8 (HRow.out.strs)
            go_wp2_with (at_len; refine wpList_len_own _ rfl _ 50 rfl 9 3 Tryz.underlying50 _ z m _ rfl hown ?_; rw [hld])
            go_ret2
            exact ⟨fun T' e => (by cases e; exact ⟨fun K e => (by rw [HE.out] at e; cases e; exact ⟨_, rfl, HV.out⟩), fun e => (by rw [HE.out] at e; cases e), HFall2.out⟩), fun e => (by cases e)⟩
          · have i1 : (0 : Int) < (ld : Int) := by omega
            have HH0 := toHid8 h0
            have hStx := strs_fr14 HSt4.out HFr.out (fun g o x hx hM => by
              have h1 := cell_not_map hx HD4.out
              have h2 := cell_lt hx
              rcases hM with hM | hM
              · exact h1 hM
              · have h3 : g < w4.heap.size := h2; omega)
            have q5 := idx14_any pk T.length ck ((T.map (·.1)).map mkB) wr (by simp) hStx (Nat.le_trans HLen.out (by decide)) (fun y hy => by
              obtain ⟨k, hk, rfl⟩ := List.mem_map.1 hy
              obtain ⟨t, ht, rfl⟩ := List.mem_map.1 hk
              obtain ⟨_, h2, h3, _⟩ := HAl.out t ht
              rw [h2]
              exact h3.name) HMD.out hcbx
            have HStx := toHid8 hStx
            clear h0 hStx
            go_wp2_with (at_len; refine wpList_len_own _ rfl _ 50 rfl 9 3 Tryz.underlying50 _ z m _ rfl hown ?_; rw [hld])
            refine q5.mono ?_
            rintro e w5 ⟨zz, rfl, hidx, f5⟩
            have HF5 := toHid8 f5
            have HFall5 := toHid8 (HFall2.out.then7 f5)
            clear q5 f5 hown hld
            rcases hidx with ⟨rfl, hnone⟩ | ⟨k, hk, rfl, hyes, hno⟩
            · have HE := toHid8 (show ordV T = none from by
                have h1 := ordGo_stop (idx_none HLK.out HRi.out hnone) fu
                have h2 := HGo.out
                have h3 := HLK.out.len
                have h4 := HLd.out
                have h5 := HH0.out
                unfold ordV
                rw [← h2.1, h1, if_neg (by omega)])
              clear hnone
              go_wp2_with fail
              go_ret2
              exact ⟨fun T' e => (by cases e; exact ⟨fun K e => (by rw [HE.out] at e; cases e), fun _ => rfl, HFall5.out⟩), fun e => (by cases e)⟩
            · obtain ⟨q, hq, hqT, hqr, hqn⟩ := idx_some HLK.out HRi.out hk hyes hno
              obtain ⟨p0, c0, e0, -, -, hrow⟩ := (HStx.out.kept HF5.out)
              obtain ⟨gd, od, hpd, hcd⟩ := hrow.get hk
              have hpu : pk = some ⟨gd, od, none⟩ := by
                injection e0 with e1 _ _
                rw [e1]; exact hpd
              rw [hq] at hcd
              have hkT : k < T.length := by rw [List.length_map, List.length_map] at hk; exact hk
              obtain ⟨x, hx⟩ : ∃ x, mkB q = x := ⟨_, rfl⟩
              have hux : unB x = q := by rw [← hx]; exact un_mk q
              have hsx : x.size ≤ 1000000000 := by
                obtain ⟨t, ht, e⟩ := List.mem_map.1 ((inM_iff HRi.out).1 hqT)
                obtain ⟨_, h2, h3, _⟩ := HAl.out t ht
                have : t.2.x.name = x := unB_inj (by rw [← h2, e, hux])
                rw [← this]
                exact h3.name
              rw [hx] at hcd
              have HQ := toHid8 (And.intro hqT (And.intro hqr hqn))
              have HX := toHid8 (And.intro hx hux)
              subst hpu
              have own5 : OwnR14 w4.heap.size w5 (.slice vp O.length co) (O.map mkB) := OwnR14.fr HRow.out HF5.out (fun _ _ e => e.elim)
              have hsz5 : w4.heap.size ≤ w5.heap.size := by have := HFr.out.size; have := HF5.out.size; omega
              obtain ⟨v6, w6, hr6, own6, f6, hg6⟩ := own5.push x hsz5 (by rw [List.length_map]; have := HLo.out; omega)
              obtain ⟨v6a, v6c, rfl⟩ := own6.slice
              have HOw6 := toHid8 own6
              have off6 : ∀ i, (Value.slice vp O.length co).ownBlock = some i → w4.heap.size ≤ i := fun i e => (own5.own e).1
              have Mz : w4.heap.size > z + 1 := by have := HZ4.out; omega
              have hM6 : MAt mkI w6 z m D1 := (HMD.out.kept HF5.out).fr f6 (fun e => by have := off6 _ e; omega)
              have hcb6 := f6.keepCell (HF5.out.keepCell hcbx (fun e => e)) (fun e => by have := off6 _ e; have : w4.heap.size ≤ z + 1 := this; omega)
              have HF46 := toHid8 (show Fr (fun i => i = z ∨ w4.heap.size ≤ i) w4 w6 from (HFr.out.trans HF5.out (fun _ e => e.elim)).then (f6.mono (fun i e => .inr (off6 i e))))
              have hkS := key14 x (Nat.le_trans hsx (by decide))
              have hown6 := hM6
              unfold MAt at hown6
              have HLk := toHid8 (show ∀ w7, Fr (fun i => i = z) w6 w7 → GR (w3.heap.size + 2) w7 ba ma f (aboveV Va) from fun w7 F7 => HG4.out.fr (HF46.out.then (F7.mono (fun i e => .inl e))) (fun e => by
                  obtain ⟨A, hA, _⟩ := HG4.out.map
                  have h1 := hA.lt
                  have h2 := HBa.out
                  have h3 := HZ4.out
                  rcases e with e | e <;> omega) (fun i e => by
                  have h3 := HZ4.out
                  rcases e with e | e
                  · left; omega
                  · right; exact e))
              obtain ⟨ra, rc, hrv⟩ := (HLk.out w6 (Fr.refl _ _)).own q |>.slice
              obtain ⟨L, hL⟩ : ∃ L, aboveV Va q = L := ⟨_, rfl⟩
              obtain ⟨nl, hnl⟩ : ∃ nl, L.length = nl := ⟨_, rfl⟩
              rw [hL, hnl] at hrv
              have HLL := toHid8 (And.intro hL hnl)
              have HLk2 := toHid8 (show ∀ w7, w6.mapTurned w7 z → (Instr.lookup 53 (.map (some ba)) (.string x) false).run Tryz.prog w7 = .ok (.slice ra nl rc) w7 from fun w7 ht => by
                have h := (HLk.out w7 (Fr.turned (M := fun i => i = z) ht rfl)).look x (Nat.le_trans hsx (by decide))
                rw [hux, hrv] at h
                exact h)
              have HRv := toHid8 hrv
              have i2 : ¬ (k : Int) < 0 := by omega
              have i3 : (0 : Int) ≤ (k : Int) := by omega
              have i4 : (k : Int) < (T.length : Int) := by omega
              have HSx := toHid8 hsx
              obtain ⟨n6, hn6⟩ : ∃ y, (O.map mkB ++ [x]).length = y := ⟨_, rfl⟩
              have HN6 := toHid8 (show O.length + 1 = n6 from by rw [← hn6]; simp)
              rw [hn6] at hr6 HOw6
              clear hrow e0 hpd hk hq hqT hqr hqn hx hux hsx own5 own6 f6 hg6 off6 hM6 hcbx hL hnl hrv hyes hno hn6 hkT
              go_wp2_with (first
                | (at_builtin; refine app_list9 rfl _ _ rfl rfl rfl hr6 ?_)
                | (at_delete; refine wpList_delete_own _ rfl _ _ 50 9 rfl 3 lawS Tryz.underlying50 (heldM mkI) z m _ rfl hown6 _ _ rfl hkS ?_; intro w7 hown7 hturn7; have hlk7 := HLk2.out w7 hturn7))
              have F7 : Fr (fun i => i = z) w6 w7 := Fr.turned (M := fun i => i = z) hturn7 rfl
              have HM7 := toHid8 (show MAt mkI w7 z m (delM D1 q) from by
                have h := MAt.del hown7
                rwa [HX.out.2] at h)
              have HK7 := toHid8 (HLK.out.told HMD.out.rise HQ.out.1 HQ.out.2.1)
              have HG7 := toHid8 (HLk.out w7 F7)
              have HCb7 := toHid8 (F7.keepCell hcb6 (fun (e : z + 1 = z) => by omega))
              have HF67 := toHid8 F7
              have HStL := toHid8 (show StrsAt w7 (.slice ra nl rc) L from by
                have h := (HG7.out.own q).strs
                rw [HRv.out, HLL.out.1] at h
                exact h)
              have HNd := toHid8 (show (L.map unB).Pairwise (· ≠ ·) from by
                have h := above_nodup (keys_apart HPm.out HRi.out) (fun t ht => (HAl.out t (HPm.out.mem_iff.1 ht)).2.1) q
                rwa [HLL.out.1] at h)
              have HNl := toHid8 (show nl ≤ 256 from by
                have h1 := aboveV_len Va q
                have h2 := HPm.out.length_eq
                have h3 := HLen.out
                rw [HLL.out.1, HLL.out.2] at h1
                omega)
              have hmz : m < 1000000 := by
                have h1 := HMm.out
                have h2 := HLo.out
                unfold manyO at h1
                omega
              have HMz := toHid8 hmz
              clear F7 hown7 hturn7 hlk7 hr6 hown6 hcb6 hkS hcd hmz
              obtain ⟨wo, hwo⟩ : ∃ y, y = wr := ⟨_, rfl⟩
              clear hwo
              go_loopw [64] (fun vj wx => ∃ (j : Nat), j ≤ nl ∧ vj = .int .i64 j ∧ Hid (∃ D2 m2, MAt mkI wx z m2 D2 ∧ m2 ≤ m + j ∧ LKM T O q ((L.take j).map unB) D2) ∧ Hid (Fr (fun i => i = z) w7 wx)) (fun vj _ => nl - (intOf vj).toNat)
              case atStart => exact ⟨0, Nat.zero_le _, rfl, ⟨_, m, HM7.out, Nat.le_refl _, HK7.out⟩, Fr.refl _ _⟩
              case round =>
                obtain ⟨j, hj, rfl, HI, HFj⟩ := hrel
                obtain ⟨D2, m2, hM2, hm2, hK2⟩ := HI.out
                have HM2 := toHid8 hM2
                have Hm2 := toHid8 hm2
                have HK2 := toHid8 hK2
                by_cases hjt : j < nl
                case neg => as_aux_lemma =>
                  have HE := toHid8 (show ORel T w4 z (.slice v6a n6 v6c) wr from by
                    obtain ⟨hgo, hle⟩ := HGo.out
                    have h1 := HLK.out.len
                    have h2 := HLd.out
                    have h3 := HH0.out
                    obtain ⟨fv, rfl⟩ : ∃ fv, fu = fv + 1 := ⟨fu - 1, by omega⟩
                    rw [ordGo_step HQ.out.2.2] at hgo
                    have ht : L.take j = L := List.take_of_length_le (by rw [HLL.out.2]; omega)
                    have hk2 := HK2.out
                    rw [ht] at hk2
                    have hlk := hk2.done HLK.out.cl HQ.out.2.1 (fun r hr hrL hm => by
                      obtain ⟨t, htT, rfl⟩ := List.mem_map.1 ((inM_iff HRi.out).1 hr)
                      have hd : downN T t.1 = t.2.x.deps := by unfold downN; rw [HRi.out.get htT]
                      rw [hd] at hm
                      refine hrL (List.mem_map.2 ⟨t.2.x.name, ?_, ((HAl.out t htT).2.1).symm⟩)
                      rw [← HLL.out.1]
                      exact aboveV_mem.2 ⟨t, HPm.out.mem_iff.2 htT, hm, rfl⟩)
                    have hln : (O ++ [q]).length = n6 := by rw [List.length_append, List.length_singleton]; exact HN6.out
                    have how : OwnR14 w4.heap.size wr (.slice v6a n6 v6c) ((O ++ [q]).map mkB) := by
                      rw [List.map_append, List.map_singleton, HX.out.1]
                      exact OwnR14.fr HOw6.out (HF67.out.then HFj.out) (fun i e e2 => by
                        have h4 := (OwnR14.own HOw6.out e).1
                        have h5 := HZ4.out
                        have h6 : i = z := e2
                        omega)
                    refine ⟨O ++ [q], D2, fv, m2, v6a, v6c, by rw [hln], hgo, by rw [hln]; have := HN6.out; omega, hlk, HM2.out, ?_, by rw [hln]; exact how, HF46.out.then ((HF67.out.then HFj.out).mono (fun i e => .inl e))⟩
                    rw [List.length_append, List.length_singleton, manyO_succ]
                    have h7 := Hm2.out
                    have h8 := HMm.out
                    have h9 := HNl.out
                    omega)
                  have HLt := toHid8 (show T.length - n6 < T.length - O.length from by
                    have h1 := HLK.out.len
                    have h2 := HLd.out
                    have h3 := HH0.out
                    have h4 := HN6.out
                    omega)
                  have i6 : ¬ (j : Int) < (nl : Int) := by omega
                  clear hjt hM2 hm2 hK2 HI
                  go_wp2_with fail
                  exact ⟨HE.out, HLt.out⟩
                case pos => as_aux_lemma =>
                  have hja : j < L.length := by rw [HLL.out.2]; exact hjt
                  obtain ⟨p1, c1, e1, -, -, hrow1⟩ := HStL.out
                  obtain ⟨ge, oe, hpe, hce⟩ := hrow1.get hja
                  have hce' := HFj.out.keepCell hce (fun e => cell_not_map hce HM7.out e)
                  have hru : ra = some ⟨ge, oe, none⟩ := by
                    injection e1 with e2 _ _
                    rw [e2]; exact hpe
                  have hmem : L[j] ∈ aboveV Va q := by rw [HLL.out.1]; exact List.getElem_mem hja
                  obtain ⟨t, htV, hqd, hnm⟩ := aboveV_mem.1 hmem
                  have htT := HPm.out.mem_iff.1 htV
                  obtain ⟨-, hk1, hsm, hrt⟩ := HAl.out t htT
                  have hd : downN T t.1 = t.2.x.deps := by unfold downN; rw [HRi.out.get htT]
                  have hu : unB L[j] = t.1 := by rw [← hnm, hk1]
                  have hst := HK2.out.step HM2.out.rise HLK.out.cl (fun e => by
                    have h := HQ.out.2.1
                    unfold readyV at h
                    rw [Bool.and_eq_true, decide_eq_true_eq] at h
                    exact h.1 e) (q := unB L[j]) (by rw [hu]; exact (inM_iff HRi.out).2 (List.mem_map.2 ⟨t, htT, rfl⟩)) (fun e => by
                    have h := deps_not hrt
                    rw [← hk1, ← hu, e] at h
                    exact h hqd) (fun hm => by
                    have h := List.pairwise_iff_getElem.1 HNd.out
                    obtain ⟨y, hy, e⟩ := List.mem_map.1 hm
                    obtain ⟨i, hi, rfl⟩ := List.getElem_of_mem hy
                    rw [List.length_take] at hi
                    rw [List.getElem_take] at e
                    have h2 := h i j (by rw [List.length_map]; omega) (by rw [List.length_map]; omega) (by omega)
                    rw [List.getElem_map, List.getElem_map] at h2
                    exact h2 e) (by rw [hu, hd]; exact deps_apart hrt) (by rw [hu, hd]; exact hqd)
                  obtain ⟨nv, hgv, h1v, hlv, hKn⟩ := hst
                  rw [hu, hd, List.length_map] at hlv
                  have hnv : nv ≤ 1000000 := Nat.le_trans hlv hsm.deps.1
                  obtain ⟨nw, rfl⟩ : ∃ nw, nv = nw + 1 := ⟨nv - 1, by omega⟩
                  have HKn := toHid8 (show LKM T O q ((L.take (j + 1)).map unB) (putM D2 (unB L[j]) nw) from by
                    rw [List.take_succ_eq_append_getElem hja, List.map_append, List.map_singleton]
                    exact hKn)
                  have hsy : (L[j]).size ≤ 1000000000 := by rw [← hnm]; exact hsm.name
                  obtain ⟨y, hy⟩ : ∃ y, L[j] = y := ⟨_, rfl⟩
                  rw [hy] at hce' hsy HKn hgv
                  subst hru
                  have hkY := key14 y (Nat.le_trans hsy (by decide))
                  have hlook2 := HM2.out.look Tryz.underlying50 (zeroI14 _) y (Nat.le_trans hsy (by decide))
                  rw [hgv] at hlook2
                  simp only [Option.getD_some, mkI] at hlook2
                  have hcb8 := HFj.out.keepCell HCb7.out (fun (e : z + 1 = z) => by omega)
                  have hbig : m2 < maxLen := by
                    have h1 := Hm2.out
                    have h2 := HMz.out
                    have h3 := HNl.out
                    unfold maxLen
                    omega
                  have hown2 := HM2.out
                  unfold MAt at hown2
                  have i6 : (j : Int) < (nl : Int) := by omega
                  have i7 : (0 : Int) ≤ (j : Int) := by omega
                  have i8 : (nw : Int) ≤ 1000000 := by omega
                  have i9 : (nl : Int) ≤ 256 := by have := HNl.out; omega
                  have HJt := toHid8 hjt
                  clear hrow1 e1 hpe hce hmem htV hqd hnm htT hk1 hsm hrt hd hu hgv h1v hlv hKn hnv hsy hy hjt hM2 hm2 hK2 HI hja
                  go_wp2_with (at_mapUpdate; refine wpList_mapUpdate_in _ rfl _ _ _ 50 rfl 9 3 lawS Tryz.underlying50 (heldM mkI) z m2 _ rfl hown2 hbig _ _ _ rfl rfl hkY _ [] (heldM_mk mkI nw) ?_; intro w8 hown8 hturn8)
                  have HN := toHid8 (show ∃ D3 m3, MAt mkI w8 z m3 D3 ∧ m3 ≤ m + (j + 1) ∧ LKM T O q ((L.take (j + 1)).map unB) D3 from ⟨_, m2 + 1, MAt.put hown8, by have := Hm2.out; omega, HKn.out⟩)
                  have HFn := toHid8 (show Fr (fun i => i = z) w7 w8 from HFj.out.then (Fr.turned (M := fun i => i = z) hturn8 rfl))
                  clear hown8 hturn8 hown2 hlook2
                  exact ⟨⟨j + 1, by have := HJt.out; omega, by go_num, HN.out, HFn.out⟩, by simp [intOf]; have := HJt.out; omega⟩
      · as_aux_lemma =>
        intro x c0 kl d0 ps w2 cnt1 hkey hlk hv hat hrg1 hlt1 hg1 hs1 hen
        obtain ⟨x', ex, hkl⟩ := keyOf_string_inv hkey
        cases ex
        subst hkl
        obtain ⟨d, hc, hcv⟩ := hit14 (y := (d0, ps)) hv hat
        rw [← hcv] at hen
        rw [← hcv]
        have htm : ((x.data.toList, d) : Kv Pv) ∈ T := getM_mem hc
        obtain ⟨hin, hnm, hsm, hrt⟩ := HAl.out _ htm
        obtain rfl : x = d.x.name := unB_inj hnm
        have HRg := toHid8 hrg1
        have HLc := toHid8 hrg.left_eq
        have esB := HZ.out.2.1
        have F1 : Fr (fun k => k = wB.heap.size) wr w2 := Fr.grown hg1 (fun k e => by cases e; rfl)
        have HGa := toHid8 (HG.out.more (t := (unB d.x.name, d)) hc HRi.out hlk)
        have HKn := toHid8 (HK.out.snoc HD.out.rise (t := (unB d.x.name, d)) (fun s hs e => by
          have := ((HG.out.mem s).1 hs).2
          rw [e] at this
          rw [show left (.string (unB d.x.name)) = true from hlk] at this
          cases this))
        have hVl : V.length ≤ 256 := Nat.le_trans HG.out.len HLen.out
        have hD1 : MAt mkI w2 z V.length D := HD.out.fr F1 (fun e => by omega)
        have hsz1 : w2.heap.size = wr.heap.size := hs1
        have hcb2 := F1.keepCell hcb (fun (e : z + 1 = wB.heap.size) => by omega)
        have HF1 := toHid8 (show Fr (fun i => i = z) wB w2 from HF.out.trans F1 (fun i e => Or.inr (by omega)))
        have hnsz : d.x.name.size ≤ maxLen := Nat.le_trans hsm.name (by decide)
        have hkS := key14 d.x.name hnsz
        obtain ⟨nd, hnd⟩ : ∃ y, d.x.deps.length = y := ⟨_, rfl⟩
        have HNd := toHid8 hnd
        have HCn := toHid8 hlt1
        have i5 : (nd : Int) ≤ 1000000 := by have e : d.x.deps.length ≤ 1000000 := hsm.deps.1; omega
        obtain ⟨w3, hw3⟩ : ∃ y, w2.alloc (.cells #[.string d.x.name, .slice d.pu nd d.cu, .slice d.pb d.x.body.length d.cb] 36) = y := ⟨_, rfl⟩
        have F2 : Fr None' w2 w3 := hw3 ▸ Fr.alloc None' w2 _
        have B2 : Box3 w3 w2.heap.size (.string d.x.name) (.slice d.pu nd d.cu) (.slice d.pb d.x.body.length d.cb) := hw3 ▸ Box3.new w2 _ _ _
        rw [hsz1] at B2
        obtain ⟨b0, b1, b2⟩ := B2.cells
        have hcb3 := F2.keepCell hcb2 (fun e => e)
        have HF2 := toHid8 F2
        have hown3 := hD1.kept F2
        have hbig : V.length < maxLen := by unfold maxLen; omega
        have HSz := toHid8 (show w2.heap.size = wr.heap.size from hs1)
        simp only [mkV, hnd] at hen ⊢
        unfold MAt at hown3
        clear hkey hlk hv hat hrg1 hg1 hrg hc hcv htm hnm hin hsm hrt F1 esB hs1 F2 B2 hlt1 hnd hVl hD1 hcb2
        go_wp2_with (at_mapUpdate; refine wpList_mapUpdate_in _ rfl _ _ _ 50 rfl 9 3 lawS Tryz.underlying50 (heldM mkI) z V.length _ rfl hown3 hbig _ _ _ rfl rfl hkS _ [] (heldM_mk mkI nd) ?_; intro w4 hown4 hturn4)
        have F4 : Fr (fun i => i = z) w3 w4 := Fr.turned (M := fun i => i = z) hturn4 rfl
        have HDn := toHid8 (show MAt mkI w4 z (V.length + 1) (putM D (unB d.x.name) nd) from MAt.put hown4)
        have HFn := toHid8 (show Fr (fun i => i = z) wB w4 from (HF1.out.trans HF2.out (fun _ e => e.elim)).then F4)
        have HYn := toHid8 (show wB.heap.size + 1 ≤ w4.heap.size from by have := HY.out; have := HSz.out; have := HF2.out.size; have := F4.size; omega)
        have HRn := toHid8 (F4.ranges (HF2.out.ranges HRg.out (fun e => e) (fun e => e)) (fun (e : b = z) => by have := HZ.out; omega) (fun (e : wB.heap.size = z) => by have := HZ.out; omega))
        clear hown4 hturn4 F4 b0 b1 b2 hcb3 hcb hen
        refine ⟨⟨_, ⟨_, HRn.out⟩, V ++ [(unB d.x.name, d)], HGa.out, _, HKn.out, ?_, HFn.out, HYn.out⟩, ?_⟩
        · have h := HDn.out
          rw [← HNd.out] at h
          show MAt mkI w4 z (V ++ [((unB d.x.name, d) : Kv Pv)]).length _
          rw [List.length_append, List.length_singleton]
          exact h
        · rw [HRn.out.left_eq, HLc.out]
          exact HCn.out

end Go.Proofs.YtbiilnhefoplkaaGreatDoor

namespace Go.Proofs.YtbiilnhefoplkaaGreatDoor
open Go.RowKit Go.Maps Go.WideMaps
set_option maxRecDepth 100000

theorem rise_ext : ∀ {K L : List B13}, K.Pairwise (· < ·) → L.Pairwise (· < ·) → (∀ k, k ∈ K ↔ k ∈ L) → K = L
  | [], [], _, _, _ => rfl
  | [], b :: L, _, _, h => absurd ((h b).2 (List.mem_cons_self ..)) List.not_mem_nil
  | a :: K, [], _, _, h => absurd ((h a).1 (List.mem_cons_self ..)) List.not_mem_nil
  | a :: K, b :: L, hK, hL, h => by
    rw [List.pairwise_cons] at hK hL
    have e : a = b := by
      rcases List.mem_cons.1 ((h a).1 (List.mem_cons_self ..)) with e | e
      · exact e
      · rcases List.mem_cons.1 ((h b).2 (List.mem_cons_self ..)) with e2 | e2
        · exact e2.symm
        · exact absurd (List.lt_trans (hL.1 a e) (hK.1 b e2)) (List.lt_irrefl _)
    subst e
    rw [rise_ext hK.2 hL.2 (fun k => ⟨fun hk => (List.mem_cons.1 ((h k).1 (List.mem_cons_of_mem _ hk))).resolve_left (fun e => List.lt_irrefl _ (e ▸ hK.1 k hk)), fun hk => (List.mem_cons.1 ((h k).2 (List.mem_cons_of_mem _ hk))).resolve_left (fun e => List.lt_irrefl _ (e ▸ hL.1 k hk))⟩)]

theorem rowV_new (w : World) (Z : List Pv) {w' : World} (hw : w.alloc (.cells (vcells Z).toArray 36) = w') (hin : ∀ d ∈ Z, PvIn w' d) : RowV w' (some ⟨w.heap.size, 0, none⟩) Z := fun k d hk => by
  have hc : ∀ j, w'.cell? ⟨w.heap.size, j, none⟩ = (vcells Z)[j]? := fun j => by
    rw [← hw, World.cell?, heap_alloc_new]
    simp
  have hg := vcells_get Z k d hk
  refine ⟨w.heap.size, 0, rfl, ?_, ?_, ?_, hin d (List.mem_of_getElem? hk)⟩
  · rw [hc, Nat.zero_add]; exact hg 0 (by decide)
  · rw [hc, Nat.zero_add]; exact hg 1 (by decide)
  · rw [hc, Nat.zero_add]; exact hg 2 (by decide)

theorem nil_pv14 (w : World) (x : ByteArray) : PvIn w ⟨⟨x, [], []⟩, none, 0, none, 0⟩ := ⟨strs_none w, fun _ => rfl, fun k y hk => by cases hk⟩

theorem one_pv14 (w : World) (x d : ByteArray) {w' : World} (hw : w.alloc (.cells #[.string d] 9) = w') : PvIn w' ⟨⟨x, [d], []⟩, some ⟨w.heap.size, 0, none⟩, 1, none, 0⟩ := by
  refine ⟨⟨_, 1, rfl, (fun e => by cases e), Nat.le_refl _, fun j y hj => ⟨w.heap.size, 0, rfl, ?_⟩⟩, fun _ => rfl, fun k y hk => by cases hk⟩
  have h0 : j = 0 := by have := (List.getElem?_eq_some_iff.1 hj).1; simpa using this
  subst h0
  have hy : y = d := by simpa using hj.symm
  rw [← hw, hy, World.cell?, heap_alloc_new]
  rfl

theorem strs_one14 (w : World) (x : ByteArray) {w' : World} (hw : w.alloc (.cells #[.string x] 9) = w') : StrsAt w' (.slice (some ⟨w.heap.size, 0, none⟩) 1 1) [x] := (one_pv14 w x x hw).deps

def pB : Pv := ⟨⟨⟨#[98]⟩, [], []⟩, none, 0, none, 0⟩
def pC : Pv := ⟨⟨⟨#[99]⟩, [], []⟩, none, 0, none, 0⟩
def pA (g : Option Addr) : Pv := ⟨⟨⟨#[97]⟩, [⟨#[98]⟩], []⟩, g, 1, none, 0⟩
def pX (g : Option Addr) : Pv := ⟨⟨⟨#[97]⟩, [⟨#[120]⟩], []⟩, g, 1, none, 0⟩
def tABC (g : Option Addr) : List (Kv Pv) := [([97], pA g), ([98], pB), ([99], pC)]

theorem set_abc (g : Option Addr) : setV [pB, pA g, pC] = some (tABC g) := by kernel_rfl
theorem set_x (g : Option Addr) : setV [pX g] = some [([97], pX g)] := by kernel_rfl
theorem ord_abc (g : Option Addr) : ordV (tABC g) = some [[98], [97], [99]] := by kernel_rfl
theorem ord_x (g : Option Addr) : ordV [([97], pX g)] = none := by kernel_rfl
theorem heads_abc (g : Option Addr) : headsV [pB, pA g, pC] = some [[97], [99]] := by kernel_rfl

theorem small_abc (g : Option Addr) : ∀ d ∈ [pB, pA g, pC], SmallPa d.x := by
  intro d hd
  have hS : ∀ (x : ByteArray) (D : List ByteArray), x.size ≤ 1000000000 → D.length ≤ 1000000 → (∀ y ∈ D, y.size ≤ 1000000000) → SmallPa ⟨x, D, []⟩ := fun x D h1 h2 h3 => ⟨h1, ⟨h2, h3⟩, ⟨Nat.zero_le _, fun x hx => by cases hx⟩, fun x hx => by cases hx⟩
  rcases List.mem_cons.1 hd with rfl | hd
  · exact hS _ _ (by decide) (by decide) (fun y hy => by cases hy)
  · rcases List.mem_cons.1 hd with rfl | hd
    · exact hS _ _ (by decide) (by decide) (fun y hy => by rw [List.mem_singleton.1 hy]; decide)
    · rw [List.mem_singleton.1 hd]
      exact hS _ _ (by decide) (by decide) (fun y hy => by cases hy)

theorem small_x (g : Option Addr) : ∀ d ∈ [pX g], SmallPa d.x := by
  intro d hd
  rw [List.mem_singleton.1 hd]
  exact ⟨(show (1 : Nat) ≤ 1000000000 by decide), ⟨(show (1 : Nat) ≤ 1000000 by decide), fun y hy => by rw [List.mem_singleton.1 hy]; decide⟩, ⟨Nat.zero_le _, fun x hx => by cases hx⟩, fun x hx => by cases hx⟩

theorem two_of {Nx : B13 → List ByteArray} {a b : B13} (hab : a < b) (s : B13) (h1 : Rch Nx [s] a) (h2 : Rch Nx [s] b) (hs : s = a ∨ s = b) (hn : ∀ k, k = a ∨ k = b → ∀ x ∈ (Nx k).map unB, x = a ∨ x = b) {K : List B13} (hK : K.Pairwise (· < ·)) (hm : ∀ k, k ∈ K ↔ Rch Nx [s] k) : K = [a, b] := by
  refine rise_ext hK (List.pairwise_cons.2 ⟨fun x hx => by rw [List.mem_singleton.1 hx]; exact hab, List.pairwise_singleton ..⟩) (fun k => ?_)
  rw [hm]
  constructor
  · intro r
    have : k = a ∨ k = b := by
      induction r with
      | base hk => rw [List.mem_singleton.1 hk]; exact hs
      | step _ hx ih => exact hn _ ih _ hx
    rcases this with rfl | rfl <;> simp
  · intro hk
    rcases List.mem_cons.1 hk with rfl | hk
    · exact h1
    · rw [List.mem_singleton.1 hk]; exact h2

theorem down_abc (g : Option Addr) {K : List B13} (hK : K.Pairwise (· < ·)) (hm : ∀ k, k ∈ K ↔ Rch (downN (tABC g)) [[97]] k) : K = [[97], [98]] := by
  have e1 : downN (tABC g) [97] = [⟨#[98]⟩] := by kernel_rfl
  have e2 : downN (tABC g) [98] = [] := by kernel_rfl
  have b1 : Rch (downN (tABC g)) [[97]] [97] := .base (List.mem_singleton.2 rfl)
  refine two_of (by decide) [97] b1 (.step b1 (by rw [e1]; exact List.mem_singleton.2 rfl)) (.inl rfl) (fun k hk x hx => ?_) hK hm
  rcases hk with rfl | rfl
  · rw [e1] at hx; exact .inr (List.mem_singleton.1 hx)
  · rw [e2] at hx; cases hx

theorem up_abc (g : Option Addr) {K : List B13} (hK : K.Pairwise (· < ·)) (hm : ∀ k, k ∈ K ↔ Rch (aboveV (tABC g)) [[98]] k) : K = [[97], [98]] := by
  have e1 : aboveV (tABC g) [98] = [⟨#[97]⟩] := by kernel_rfl
  have e2 : aboveV (tABC g) [97] = [] := by kernel_rfl
  have b1 : Rch (aboveV (tABC g)) [[98]] [98] := .base (List.mem_singleton.2 rfl)
  refine two_of (by decide) [98] (.step b1 (by rw [e1]; exact List.mem_singleton.2 rfl)) b1 (.inr rfl) (fun k hk x hx => ?_) hK hm
  rcases hk with rfl | rfl
  · rw [e2] at hx; cases hx
  · rw [e1] at hx; exact .inl (List.mem_singleton.1 hx)

theorem down_only (g : Option Addr) {z : B13} (r : Rch (downN (tABC g)) [[97]] z) : z = [97] ∨ z = [98] := by
  have e1 : downN (tABC g) [97] = [⟨#[98]⟩] := by kernel_rfl
  have e2 : downN (tABC g) [98] = [] := by kernel_rfl
  induction r with
  | base hk => exact .inl (List.mem_singleton.1 hk)
  | step _ hx ih =>
    rcases ih with rfl | rfl
    · rw [e1] at hx; exact .inr (List.mem_singleton.1 hx)
    · rw [e2] at hx; cases hx

theorem up_only (g : Option Addr) {z : B13} (r : Rch (aboveV (tABC g)) [[98]] z) : z = [97] ∨ z = [98] := by
  have e1 : aboveV (tABC g) [98] = [⟨#[97]⟩] := by kernel_rfl
  have e2 : aboveV (tABC g) [97] = [] := by kernel_rfl
  induction r with
  | base hk => exact .inr (List.mem_singleton.1 hk)
  | step _ hx ih =>
    rcases ih with rfl | rfl
    · rw [e2] at hx; cases hx
    · rw [e1] at hx; exact .inl (List.mem_singleton.1 hx)

theorem in_abc (g : Option Addr) {z : B13} (h : z = [97] ∨ z = [98]) : InM (tABC g) z := by
  unfold InM
  rcases h with rfl | rfl <;> kernel_rfl

theorem names_some {w w' : World} {K : List B13} {err : Int} {e : Ending} {n : Nat} (hn : K.length = n) (h : NamesPost w (some K) err e w') : ∃ p c, e = .returned (.tuple #[.slice p n c, .int .i64 0]) ∧ StrsAt w' (.slice p n c) (K.map mkB) ∧ Fr None' w w' := by
  obtain ⟨h1, -, h3⟩ := h
  obtain ⟨v, rfl, hst⟩ := h1 K rfl
  have hst' := hst
  obtain ⟨p, c, rfl, -⟩ := hst
  rw [List.length_map, hn] at hst' ⊢
  exact ⟨p, c, rfl, hst', h3⟩

theorem reach_some {T : List (Kv Pv)} {Nx : B13 → List ByteArray} {N K : List B13} {w w' : World} {e : Ending} {n : Nat} (hn : K.length = n) (h : ReachPost T Nx N w e w') (hK : ∀ {L : List B13}, L.Pairwise (· < ·) → (∀ k, k ∈ L ↔ Rch Nx N k) → L = K) (hT : ∀ {z}, Rch Nx N z → InM T z) : ∃ p c, e = .returned (.tuple #[.slice p n c, .int .i64 0]) ∧ StrsAt w' (.slice p n c) (K.map mkB) ∧ Fr None' w w' := by
  obtain ⟨⟨L, v, h1, h2, -, rfl, hst⟩ | ⟨⟨z, hz, hz2⟩, -⟩, h3⟩ := h
  · obtain rfl := hK h1 h2
    have hst' := hst
    obtain ⟨p, c, rfl, -⟩ := hst
    rw [List.length_map, hn] at hst' ⊢
    exact ⟨p, c, rfl, hst', h3⟩
  · exact absurd (hT hz) hz2

theorem strs_two {w : World} {p : Option Addr} {n c : Nat} {l : List ByteArray} {j : Nat} {x : ByteArray} (h : StrsAt w (.slice p n c) l) (hj : l[j]? = some x) : ∃ g o, p = some ⟨g, o, none⟩ ∧ w.cell? ⟨g, o + j, none⟩ = some (.string x) := by
  obtain ⟨va, c', e, _, _, hr⟩ := h
  injection e with e1 _ _
  obtain ⟨g, o, e2, hc⟩ := hr j x hj
  exact ⟨g, o, e1.trans e2, hc⟩

end Go.Proofs.YtbiilnhefoplkaaGreatDoor

namespace Go.Proofs.YtbiilnhefoplkaaGreatDoor
open Go.RowKit Go.Maps Go.WideMaps
set_option maxRecDepth 100000

set_option maxHeartbeats 16000000 in
theorem head14_any (w : World) : Calls Tryz.prog 7 #[] w fun e w' => e = .returned (.bool true) ∧ Fr None' w w' := by
  obtain ⟨z, hz⟩ : ∃ z, w.heap.size = z := ⟨_, rfl⟩
  obtain ⟨wa, hwa⟩ : ∃ x, w.alloc (.cells #[.string ⟨#[98]⟩] 9) = x := ⟨_, rfl⟩
  have sa : wa.heap.size = z + 1 := by rw [← hwa]; simp [hz]
  have Fa : Fr None' w wa := hwa ▸ Fr.alloc None' w _
  obtain ⟨wb, hwb⟩ : ∃ x, wa.alloc (.cells #[.string ⟨#[98]⟩, .slice none 0 0, .slice none 0 0, .string ⟨#[97]⟩, .slice (some ⟨z, 0, none⟩) 1 1, .slice none 0 0, .string ⟨#[99]⟩, .slice none 0 0, .slice none 0 0] 36) = x := ⟨_, rfl⟩
  have sb : wb.heap.size = z + 2 := by rw [← hwb]; simp [sa]
  have Fb : Fr None' wa wb := hwb ▸ Fr.alloc None' wa _
  have pa := one_pv14 w ⟨#[97]⟩ ⟨#[98]⟩ hwa
  rw [hz] at pa
  have hrow : RowV wb (some ⟨z + 1, 0, none⟩) [pB, pA (some ⟨z, 0, none⟩), pC] := by
    have h := rowV_new wa [pB, pA (some ⟨z, 0, none⟩), pC] hwb (fun d hd => by
      rcases List.mem_cons.1 hd with rfl | hd
      · exact nil_pv14 wb _
      · rcases List.mem_cons.1 hd with rfl | hd
        · exact pa.kept Fb
        · rw [List.mem_singleton.1 hd]; exact nil_pv14 wb _)
    rwa [sa] at h
  have HRow := toHid8 hrow
  have HFb := toHid8 (Fa.then7 Fb)
  have q1 := order14_any (some ⟨z + 1, 0, none⟩) 3 3 _ wb rfl hrow (by decide) (fun d hd => (small_abc _ d hd).big)
  have HS := toHid8 (small_abc (some ⟨z, 0, none⟩))
  clear pa Fa Fb hrow
  go_enter Tryz.func7, Tryz.ntmps7
  go_wp2_with fail
  with_reducible refine q1.mono ?_
  rintro e w1 ⟨hP, -⟩
  obtain ⟨p1, c1, rfl, st1, f1⟩ := names_some (n := 3) rfl ((ord_abc _) ▸ hP _ (set_abc _))
  have HS1 := toHid8 (show StrsAt w1 (.slice p1 3 c1) [⟨#[98]⟩, ⟨#[97]⟩, ⟨#[99]⟩] from st1)
  have HF1 := toHid8 f1
  obtain ⟨wc, hwc⟩ : ∃ x, w1.alloc (.cells #[.string ⟨#[97]⟩] 9) = x := ⟨_, rfl⟩
  have Fc : Fr None' w1 wc := hwc ▸ Fr.alloc None' w1 _
  have q2 := down14_any (some ⟨z + 1, 0, none⟩) 3 3 _ (some ⟨w1.heap.size, 0, none⟩) 1 1 [⟨#[97]⟩] wc rfl (HRow.out.kept (f1.then7 Fc)) (by decide) HS.out rfl (by decide) (fun y hy => by rw [List.mem_singleton.1 hy]; decide) (strs_one14 w1 _ hwc)
  have HFc := toHid8 (f1.then7 Fc)
  clear q1 st1 f1 hP Fc
  go_wp2_with fail
  with_reducible refine q2.mono ?_
  rintro e w2 ⟨hP, -⟩
  obtain ⟨p2, c2, rfl, -, f2⟩ := reach_some (n := 2) rfl (hP _ (set_abc _)) (down_abc _) (fun r => in_abc _ (down_only _ r))
  have HF2 := toHid8 (HFc.out.then7 f2)
  have HS2 := toHid8 (HS1.out.kept ((show Fr None' w1 wc from hwc ▸ Fr.alloc None' w1 _).then7 f2))
  obtain ⟨wd, hwd⟩ : ∃ x, w2.alloc (.cells #[.string ⟨#[98]⟩] 9) = x := ⟨_, rfl⟩
  have Fd : Fr None' w2 wd := hwd ▸ Fr.alloc None' w2 _
  have q3 := up14_any (some ⟨z + 1, 0, none⟩) 3 3 _ (some ⟨w2.heap.size, 0, none⟩) 1 1 [⟨#[98]⟩] wd rfl (HRow.out.kept (HF2.out.then7 Fd)) (by decide) HS.out rfl (by decide) (fun y hy => by rw [List.mem_singleton.1 hy]; decide) (strs_one14 w2 _ hwd)
  have HFd := toHid8 (HF2.out.then7 Fd)
  have HSd := toHid8 (HS2.out.kept Fd)
  clear q2 hP f2 Fd
  go_wp2_with fail
  with_reducible refine q3.mono ?_
  rintro e w3 ⟨hP, -⟩
  obtain ⟨p3, c3, rfl, -, f3⟩ := reach_some (n := 2) rfl (hP _ (set_abc _)) (up_abc _) (fun r => in_abc _ (up_only _ r))
  have HF3 := toHid8 (HFd.out.then7 f3)
  have HS3 := toHid8 (HSd.out.kept f3)
  have q4 := heads14_any (some ⟨z + 1, 0, none⟩) 3 3 _ w3 rfl (HRow.out.kept HF3.out) (by decide) HS.out
  rw [heads_abc] at q4
  clear q3 hP f3
  go_wp2_with fail
  with_reducible refine q4.mono ?_
  intro e w4 hP
  obtain ⟨p4, c4, rfl, st4, f4⟩ := names_some (n := 2) rfl hP
  have HF4 := toHid8 (HF3.out.then7 f4)
  have HS4 := toHid8 (HS3.out.kept f4)
  have HT4 := toHid8 (show StrsAt w4 (.slice p4 2 c4) [⟨#[97]⟩, ⟨#[99]⟩] from st4)
  obtain ⟨we, hwe⟩ : ∃ x, w4.alloc (.cells #[.string ⟨#[120]⟩] 9) = x := ⟨_, rfl⟩
  have Fe : Fr None' w4 we := hwe ▸ Fr.alloc None' w4 _
  obtain ⟨wf, hwf⟩ : ∃ x, we.alloc (.cells #[.string ⟨#[97]⟩, .slice (some ⟨w4.heap.size, 0, none⟩) 1 1, .slice none 0 0] 36) = x := ⟨_, rfl⟩
  have Ff : Fr None' we wf := hwf ▸ Fr.alloc None' we _
  have se : we.heap.size = w4.heap.size + 1 := by rw [← hwe]; simp
  have rowx : RowV wf (some ⟨w4.heap.size + 1, 0, none⟩) [pX (some ⟨w4.heap.size, 0, none⟩)] := by
    have h := rowV_new we [pX (some ⟨w4.heap.size, 0, none⟩)] hwf (fun d hd => by
      rw [List.mem_singleton.1 hd]
      exact (one_pv14 w4 ⟨#[97]⟩ ⟨#[120]⟩ hwe).kept Ff)
    rwa [se] at h
  have q5 := order14_any (some ⟨w4.heap.size + 1, 0, none⟩) 1 1 _ wf rfl rowx (by decide) (fun d hd => (small_x _ d hd).big)
  have HFf := toHid8 (HF4.out.then7 (Fe.then7 Ff))
  have HSf := toHid8 (HS4.out.kept (Fe.then7 Ff))
  have HTf := toHid8 (HT4.out.kept (Fe.then7 Ff))
  clear q4 hP f4 st4 Fe Ff rowx
  go_wp2_with fail
  with_reducible refine q5.mono ?_
  rintro e w5 ⟨hP, -⟩
  obtain ⟨-, hP, f5⟩ := (ord_x _) ▸ hP _ (set_x _)
  obtain rfl := hP rfl
  have HF5 := toHid8 (HFf.out.then7 f5)
  have HS5 := toHid8 (HSf.out.kept f5)
  have HT5 := toHid8 (HTf.out.kept f5)
  have q6 := sorted14_any (some ⟨z + 1, 0, none⟩) 3 3 _ w5 rfl (HRow.out.kept HF5.out) (by decide) HS.out (fun d hd => by
    rcases List.mem_cons.1 hd with rfl | hd
    · exact ⟨(show (0 : Nat) ≤ 900000 by decide), (show (0 : Nat) ≤ 90000 by decide)⟩
    · rcases List.mem_cons.1 hd with rfl | hd
      · exact ⟨(show (1 : Nat) ≤ 900000 by decide), (show (0 : Nat) ≤ 90000 by decide)⟩
      · rw [List.mem_singleton.1 hd]; exact ⟨(show (0 : Nat) ≤ 900000 by decide), (show (0 : Nat) ≤ 90000 by decide)⟩)
  clear q5 hP f5
  go_wp2_with fail
  with_reducible refine q6.mono ?_
  rintro e w6 ⟨hP, -, f6⟩
  obtain ⟨p6, c6, Z', rfl, -, hZ, row6⟩ := hP _ (set_abc _)
  obtain ⟨g6, o6, e6, x6, -⟩ : ∃ g o, p6 = some ⟨g, o, none⟩ ∧ w6.cell? ⟨g, o, none⟩ = some (.string ⟨#[97]⟩) ∧ True := by
    cases Z' with
    | nil => cases hZ
    | cons d Z' =>
      obtain ⟨g, o, e, h, -⟩ := row6 0 d rfl
      have hd : d.x = (pA (some ⟨z, 0, none⟩)).x := (List.cons.inj hZ).1
      rw [hd, Nat.zero_mul, Nat.add_zero] at h
      exact ⟨g, o, e, h, trivial⟩
  subst e6
  obtain ⟨g1, o1, e1, k0⟩ := strs_two (j := 0) (HS5.out.kept f6) rfl
  obtain ⟨g1', o1', e1', k1⟩ := strs_two (j := 1) (HS5.out.kept f6) rfl
  rw [e1] at e1'
  cases e1'
  subst e1
  obtain ⟨g4, o4, e4, k4⟩ := strs_two (j := 0) (HT5.out.kept f6) rfl
  subst e4
  rw [Nat.add_zero] at k0 k4
  have HF6 := toHid8 (HF5.out.then7 f6)
  have e3 : (tABC (some ⟨z, 0, none⟩)).length = 3 := rfl
  rw [e3]
  clear q6 hP f6 hZ row6
  go_wp2_with fail
  go_ret
  exact ⟨rfl, HFb.out.then7 HF6.out⟩

end Go.Proofs.YtbiilnhefoplkaaGreatDoor

namespace Go.Proofs.YtbiilnhefoplkaaGreatDoor
open Go.RowKit Go.Maps Go.WideMaps
set_option maxRecDepth 100000

/-- Patches of bounded lists. -/
def BigV (Z : List Pv) : Prop := ∀ d ∈ Z, d.x.deps.length ≤ 140737488355328 ∧ d.x.body.length ≤ 140737488355328 ∧ ∀ x ∈ d.x.body, x.old.length ≤ 140737488355328 ∧ x.new.length ≤ 140737488355328

/-- What the law's GreatList tells. -/
def GLPost (Z : List Pv) (w : World) (e : Ending) (w' : World) : Prop := ∃ g, e = .returned (.bool g) ∧ (g = false → Z.length ≤ 60 ∧ ∀ d ∈ Z, FewPa d.x) ∧ Fr None' w w'

set_option maxHeartbeats 8000000 in
theorem greatList14_any (va : Option Addr) (n c : Nat) (Z : List Pv) (w : World) (hn : Z.length = n) (hr : RowV w va Z) (hb : BigV Z) :
    Calls Tryz.prog 24 #[.slice va n c] w fun e w' => GLPost Z w e w' := by
  have HL := toHid8 hn
  have HRow := toHid8 hr
  have HB := toHid8 hb
  by_cases h60 : n ≤ 60
  case neg =>
    have i1 : (60 : Int) < (n : Int) := by omega
    clear hn hr hb h60
    go_enter Tryz.func24, Tryz.ntmps24
    go_wp2_with fail
    go_ret
    exact ⟨_, rfl, fun e => (by cases e), Fr.refl _ _⟩
  case pos =>
    have i1 : ¬ (60 : Int) < (n : Int) := by omega
    have i2 : (n : Int) ≤ 60 := by omega
    have H60 := toHid8 h60
    clear hn hr hb h60
    go_enter Tryz.func24, Tryz.ntmps24
    go_wp2_with fail
    go_loopw [3, 4] (fun vn vi wr => ∃ (k M : Nat), k ≤ n ∧ vi = .int .i64 k ∧ vn = .int .i64 M ∧ (M : Int) ≤ 500 ∧ Hid (Fr None' w wr) ∧ Hid (∀ d ∈ Z.take k, FewPa d.x)) (fun _ vi _ => n - (intOf vi).toNat)
    case atStart => exact ⟨0, 0, Nat.zero_le _, rfl, rfl, by decide, Fr.refl _ _, fun d h => by cases h⟩
    case round =>
      obtain ⟨k, M, hk, rfl, rfl, hM, HF, HT⟩ := hrel
      by_cases hlt : k < n
      case neg =>
        have HE := toHid8 (show ∀ d ∈ Z, FewPa d.x from by
          have h := HT.out
          rwa [List.take_of_length_le (by rw [HL.out]; omega)] at h)
        have i3 : ¬ (k : Int) < (n : Int) := by omega
        clear hlt
        go_wp2_with fail
        go_ret
        exact ⟨_, rfl, fun _ => ⟨by rw [HL.out]; exact H60.out, HE.out⟩, HF.out⟩
      case pos =>
        have hka : k < Z.length := by rw [HL.out]; exact hlt
        obtain ⟨g, o, rfl, c0, c1, c2, hin⟩ := HRow.out.kept HF.out k _ (List.getElem?_eq_getElem hka)
        obtain ⟨b1, b2, b3⟩ := HB.out _ (List.getElem_mem hka)
        obtain ⟨d, hd⟩ : ∃ d, Z[k] = d := ⟨_, rfl⟩
        rw [hd] at c0 c1 c2 hin b1 b2 b3
        have HD := toHid8 hd
        obtain ⟨nd, hnd⟩ : ∃ y, d.x.deps.length = y := ⟨_, rfl⟩
        obtain ⟨nb, hnb⟩ : ∃ y, d.x.body.length = y := ⟨_, rfl⟩
        have HG := toHid8 (fun w' (f : Fr None' wr w') => great13_any d.x (.slice d.pu d.x.deps.length d.cu) d.pb nb d.cb w' (hin.deps.kept f) (hin.body.kept f) hnb b1 b3)
        rw [hnd] at c1 HG b1
        rw [hnb] at c2 b2
        have i3 : (k : Int) < (n : Int) := by omega
        have i4 : (0 : Int) ≤ (k : Int) := by omega
        have i5 : (nd : Int) ≤ 140737488355328 := by omega
        have i6 : (nb : Int) ≤ 140737488355328 := by omega
        have HLt := toHid8 hlt
        have HKa := toHid8 hka
        clear hin b1 b2 b3 hd hnd hnb hlt
        go_wp2_with fail
        go_region
        have q1 := HG.out wr.drew (Fr.drew None' wr)
        go_wp2_with fail
        refine q1.mono ?_
        rintro e w2 ⟨g', rfl, hg, f2⟩
        have HF2 := toHid8 (HF.out.then7 ((Fr.drew None' wr).then7 f2))
        have HGf := toHid8 hg
        clear q1 hg f2 c0 c1 c2
        cases g' with
        | true =>
          go_wp2_with fail
          go_ret
          exact ⟨_, rfl, fun e => (by cases e), HF2.out⟩
        | false =>
          by_cases h5 : 500 < M + 1 + nb + nd
          · have i7 : (500 : Int) < (M : Int) + 1 + (nb : Int) + (nd : Int) := by omega
            clear h5
            go_wp2_with fail
            go_ret
            exact ⟨_, rfl, fun e => (by cases e), HF2.out⟩
          · have i7 : ¬ (500 : Int) < (M : Int) + 1 + (nb : Int) + (nd : Int) := by omega
            have HN := toHid8 (show ∀ x ∈ Z.take (k + 1), FewPa x.x from fun x hx => by
              rw [List.take_succ_eq_append_getElem hka] at hx
              rcases List.mem_append.1 hx with hx | hx
              · exact HT.out x hx
              · rw [List.mem_singleton.1 hx, HD.out]
                exact HGf.out rfl)
            clear h5
            go_wp2_with fail
            exact ⟨⟨k + 1, M + 1 + nb + nd, by have := HLt.out; omega, by go_num, by go_num, by omega, HF2.out, HN.out⟩, by simp [intOf]; have := HLt.out; omega⟩

end Go.Proofs.YtbiilnhefoplkaaGreatDoor

namespace Go.Proofs.YtbiilnhefoplkaaGreatDoor
open Go.RowKit Go.Maps Go.WideMaps
set_option maxRecDepth 100000

def hasB (l : List ByteArray) (s : ByteArray) : Bool := decide (unB s ∈ l.map unB)

theorem hasB_iff {l : List ByteArray} {s : ByteArray} : hasB l s = true ↔ unB s ∈ l.map unB := by unfold hasB; exact decide_eq_true_iff

set_option maxHeartbeats 4000000 in
theorem has14_any (va : Option Addr) (n c : Nat) (l : List ByteArray) (s : ByteArray) (w : World) (hn : l.length = n) (h : StrsAt w (.slice va n c) l) (hl : n ≤ 140737488355328) :
    Calls Tryz.prog 23 #[.slice va n c, .string s] w fun e w' => e = .returned (.bool (hasB l s)) ∧ Fr None' w w' := by
  have HL := toHid8 hn
  have HSt := toHid8 h
  have i0 : (n : Int) ≤ 140737488355328 := by omega
  obtain ⟨R, hR⟩ : ∃ R, hasB l s = R := ⟨_, rfl⟩
  have HR := toHid8 hR
  rw [hR]
  clear hn h hl hR
  go_enter Tryz.func23, Tryz.ntmps23
  go_wp2_with fail
  go_loopw [5] (fun vi wr => ∃ k : Nat, k ≤ n ∧ vi = .int .i64 k ∧ Hid (Fr None' w wr) ∧ Hid (unB s ∉ (l.take k).map unB)) (fun vi _ => n - (intOf vi).toNat)
  case atStart => exact ⟨0, Nat.zero_le _, rfl, Fr.refl _ _, fun h => by cases h⟩
  case round =>
    obtain ⟨k, hk, rfl, HF, HT⟩ := hrel
    by_cases hlt : k < n
    case neg =>
      obtain rfl : R = false := by
        have h := HT.out
        rw [List.take_of_length_le (by rw [HL.out]; omega)] at h
        rw [← HR.out]
        unfold hasB
        exact decide_eq_false h
      have i2 : ¬ (k : Int) < (n : Int) := by omega
      clear hlt
      go_wp2_with fail
      go_ret
      exact ⟨rfl, HF.out⟩
    case pos =>
      have hka : k < l.length := by rw [HL.out]; exact hlt
      obtain ⟨gd, od, hpd, hcd⟩ := strs_two (HSt.out.kept HF.out) (List.getElem?_eq_getElem hka)
      obtain ⟨x, hx⟩ : ∃ x, l[k] = x := ⟨_, rfl⟩
      rw [hx] at hcd
      have HX := toHid8 hx
      subst hpd
      have i3 : (k : Int) < (n : Int) := by omega
      have i4 : (0 : Int) ≤ (k : Int) := by omega
      have HLt := toHid8 hlt
      by_cases he : x = s
      · subst he
        obtain rfl : R = true := by
          rw [← HR.out, hasB_iff, ← HX.out]
          exact List.mem_map.2 ⟨_, List.getElem_mem hka, rfl⟩
        clear hlt hx
        go_wp2_with fail
        go_ret
        exact ⟨rfl, HF.out⟩
      · have HN := toHid8 (show unB s ∉ (l.take (k + 1)).map unB from fun h => by
          rw [List.take_succ_eq_append_getElem hka, List.map_append, List.mem_append] at h
          rcases h with h | h
          · exact HT.out h
          · rw [List.map_singleton, List.mem_singleton, HX.out] at h
            exact he (unB_inj h.symm))
        obtain ⟨s1, s2⟩ := Lines.str_no he
        clear he hlt hx
        go_wp2_with fail
        exact ⟨⟨k + 1, by have := HLt.out; omega, by go_num, HF.out, HN.out⟩, by simp [intOf]; have := HLt.out; omega⟩

set_option maxHeartbeats 4000000 in
theorem hasAll14_any (va : Option Addr) (n c : Nat) (l : List ByteArray) (pb : Option Addr) (m d : Nat) (A : List ByteArray) (w : World) (hn : l.length = n) (h : StrsAt w (.slice va n c) l) (hl : n ≤ 140737488355328) (hm : A.length = m) (hA : StrsAt w (.slice pb m d) A) (hlm : m ≤ 140737488355328) :
    Calls Tryz.prog 21 #[.slice va n c, .slice pb m d] w fun e w' => e = .returned (.bool (A.all (hasB l))) ∧ Fr None' w w' := by
  have HL := toHid8 (And.intro hn hl)
  have HSt := toHid8 h
  have HM := toHid8 hm
  have HA := toHid8 hA
  have i0 : (m : Int) ≤ 140737488355328 := by omega
  obtain ⟨R, hR⟩ : ∃ R, A.all (hasB l) = R := ⟨_, rfl⟩
  have HR := toHid8 hR
  rw [hR]
  clear hn h hl hR hm hA hlm
  go_enter Tryz.func21, Tryz.ntmps21
  go_wp2_with fail
  go_loopw [5] (fun vi wr => ∃ k : Nat, k ≤ m ∧ vi = .int .i64 k ∧ Hid (Fr None' w wr) ∧ Hid ((A.take k).all (hasB l) = true)) (fun vi _ => m - (intOf vi).toNat)
  case atStart => exact ⟨0, Nat.zero_le _, rfl, Fr.refl _ _, rfl⟩
  case round =>
    obtain ⟨k, hk, rfl, HF, HT⟩ := hrel
    by_cases hlt : k < m
    case neg =>
      obtain rfl : R = true := by
        have h := HT.out
        rw [List.take_of_length_le (by rw [HM.out]; omega)] at h
        rw [← HR.out, h]
      have i2 : ¬ (k : Int) < (m : Int) := by omega
      clear hlt
      go_wp2_with fail
      go_ret
      exact ⟨rfl, HF.out⟩
    case pos =>
      have hka : k < A.length := by rw [HM.out]; exact hlt
      obtain ⟨gd, od, hpd, hcd⟩ := strs_two (HA.out.kept HF.out) (List.getElem?_eq_getElem hka)
      obtain ⟨x, hx⟩ : ∃ x, A[k] = x := ⟨_, rfl⟩
      rw [hx] at hcd
      have HX := toHid8 hx
      subst hpd
      have q1 := has14_any va n c l x wr HL.out.1 (HSt.out.kept HF.out) HL.out.2
      have i3 : (k : Int) < (m : Int) := by omega
      have i4 : (0 : Int) ≤ (k : Int) := by omega
      have HLt := toHid8 hlt
      have HKa := toHid8 hka
      obtain ⟨Y, hY⟩ : ∃ Y, hasB l x = Y := ⟨_, rfl⟩
      have HY := toHid8 hY
      rw [hY] at q1
      clear hlt hx hY
      cases Y with
      | false =>
        obtain rfl : R = false := by
          rw [← HR.out, List.all_eq_false]
          exact ⟨x, by rw [← HX.out]; exact List.getElem_mem HKa.out, by rw [HY.out]; simp⟩
        go_wp2_with fail
        refine q1.mono ?_
        rintro e w2 ⟨rfl, f2⟩
        have HF2 := toHid8 (HF.out.then7 f2)
        clear q1 f2
        go_wp2_with fail
        go_ret
        exact ⟨rfl, HF2.out⟩
      | true =>
        have HN := toHid8 (show (A.take (k + 1)).all (hasB l) = true from by
          rw [List.take_succ_eq_append_getElem HKa.out, List.all_append, HT.out, HX.out]
          simp [HY.out])
        go_wp2_with fail
        refine q1.mono ?_
        rintro e w2 ⟨rfl, f2⟩
        have HF2 := toHid8 (HF.out.then7 f2)
        clear q1 f2
        go_wp2_with fail
        exact ⟨⟨k + 1, by have := HLt.out; omega, by go_num, HF2.out, HN.out⟩, by simp [intOf]; have := HLt.out; omega⟩

end Go.Proofs.YtbiilnhefoplkaaGreatDoor

namespace Go.Proofs.YtbiilnhefoplkaaGreatDoor
open Go.ChangeShapes Go.WideShapes Go.ChangeAt Go.RowKit Go.Deep
set_option maxRecDepth 100000

theorem weight_small14 {x : Pr} (h : x.weight < 4000) : SmallP x ∧ (∀ y ∈ x.old, y.size < 4000) ∧ (∀ y ∈ x.new, y.size < 4000) := by
  unfold Pr.weight at h
  exact ⟨⟨by omega, by omega, by omega, by omega, by omega⟩, fun y hy => by have := mem_sum13 hy; omega, fun y hy => by have := mem_sum13 hy; omega⟩

theorem FewPa.small14 {p : Pa} (h : FewPa p) : SmallPa p := by
  refine ⟨by have := h.name; omega, ⟨by have := h.deps.1; omega, fun y hy => by have := h.deps.2 y hy; omega⟩, ⟨by have := h.body.1; omega, fun x hx => (weight_small14 (h.body.2 x hx)).1⟩, fun x hx => ?_⟩
  obtain ⟨_, h1, h2⟩ := weight_small14 (h.body.2 x hx)
  exact ⟨fun y hy => by have := h1 y hy; omega, fun y hy => by have := h2 y hy; omega⟩

theorem prims_len {H : Type} {enc : TypeId × Value → H} {W : World} {fuel : Nat} {sp : Nat → Bool} {held : Bool} {cs : List Value} {x : DataW H × List MemPlace} (h : DataW.trod enc Tryz.prog W 0 sp held fuel 34 cs = some x) (hr : ∀ n ∈ x.1.weights Tryz.prog 34, n ≤ reachBytes) : ∀ va len cap, cs = [.slice va len cap] → len ≤ reachBytes := fun va len cap e => by
  rcases open_slice Tryz.underlying34 h with ⟨hcs, _⟩ | ⟨a, len', cap', m, n, D, Pl, hcs, _, hl, hm, hmm, rfl, hx⟩
  · rw [hcs] at e
    injection e with e
    injection e with e1 e2 e3
    omega
  · rw [hcs] at e
    injection e with e
    injection e with e1 e2 e3
    have h1 := hr ((((List.range len').map D).length + ((List.range (m - len')).map fun j => D (len' + j)).length) * Tryz.prog.bytesOf 67) (by simp [DataW.weights, Tryz.underlying34])
    have e16 : Tryz.prog.bytesOf 67 = 112 := by kernel_rfl
    rw [e16] at h1
    simp at h1
    omega

theorem trod_patch14 {H : Type} {enc : TypeId × Value → H} {W : World} {fuel : Nat} {sp : Nat → Bool} {held : Bool} {cs : List Value} {x : DataW H × List MemPlace} (h : DataW.trod enc Tryz.prog W 0 sp held fuel 36 cs = some x) (hr : ∀ n ∈ x.1.weights Tryz.prog 36, n ≤ reachBytes) :
    ∃ c : Pv, cs = vcell c ∧ PvIn W c ∧ c.x.deps.length ≤ reachBytes ∧ c.x.body.length ≤ reachBytes ∧ ∀ x ∈ c.x.body, x.old.length ≤ reachBytes ∧ x.new.length ≤ reachBytes := by
  obtain ⟨xs, n, _, rfl, hl, hlen, hfx⟩ := DataW.trod_struct Tryz.underlying36 h
  have h3 : Tryz.prog.cellsOf 36 = 3 := by kernel_rfl
  have hcS : Tryz.prog.cellsOf 9 = 1 := by kernel_rfl
  have hcL : Tryz.prog.cellsOf 23 = 1 := by kernel_rfl
  have hcP : Tryz.prog.cellsOf 34 = 1 := by kernel_rfl
  rw [h3] at hl
  match cs, hl, xs, hlen with
  | [c0, c1, c2], _, [x0, x1, (x2a, x2b)], _ =>
    have f0 := hfx 0 _ rfl
    have f1 := hfx 1 _ rfl
    have f2 := hfx 2 _ rfl
    simp [hcS, hcL, hcP] at f0 f1 f2
    obtain ⟨s0, e0, _, _⟩ := DataW.trod_string Tryz.underlying9 f0
    obtain ⟨vd, ld, e1, t1, l1⟩ := trod_strs9 f1 (fun k hk => hr k (by
      simp [DataW.weights, Tryz.underlying36, DataW.weightsEach]
      simp [hk]))
    have hrb : ∀ k ∈ (x2a, x2b).1.weights Tryz.prog 34, k ≤ reachBytes := fun k hk => hr k (by
      simp [DataW.weights, Tryz.underlying36, DataW.weightsEach]
      simp [hk])
    obtain ⟨a, nb, cb, L, e2, z1, z2, z3, z4⟩ := prims_cells f2 hrb
    have hlb := prims_len f2 hrb _ _ _ e2
    simp only [List.cons.injEq, and_true] at e0 e1 e2
    subst e0 e1 e2
    have t1' := t1
    obtain ⟨pu, cu, rfl, -⟩ := t1
    subst z1
    exact ⟨⟨⟨s0, ld, L⟩, pu, cu, a, cb⟩, rfl, ⟨t1', z3, z2⟩, l1, hlb, z4⟩

/-- A row of patches as an argument is. -/
theorem arg_patches {H : Type} {enc : TypeId × Value → H} {W : World} {sp : Nat → Bool} {held : Bool} {base : Nat} {v : Value} {d : DataW H} {ps : List MemPlace} (hv : Value.okWide Tryz.prog W .any base 22 v) (h : DataW.Trod enc Tryz.prog W 0 sp held 22 v d ps) (hr : ∀ n ∈ d.weights Tryz.prog 22, n ≤ reachBytes) :
    ∃ a n c Z, v = .slice a n c ∧ Z.length = n ∧ RowV W a Z ∧ ∀ c ∈ Z, c.x.deps.length ≤ reachBytes ∧ c.x.body.length ≤ reachBytes ∧ ∀ x ∈ c.x.body, x.old.length ≤ reachBytes ∧ x.new.length ≤ reachBytes := by
  obtain ⟨a, n, c, rfl⟩ := okWide_slice Tryz.underlying22 hv
  obtain ⟨fuel, hf⟩ := h
  rcases open_slice Tryz.underlying22 hf with ⟨hcs, _⟩ | ⟨ad, len, cap, m, fu, D, Pl, hcs, _, hl, hm, hmm, hd, hx⟩
  · simp only [Value.cells, List.cons.injEq, Value.slice.injEq, and_true] at hcs
    obtain ⟨rfl, rfl, rfl⟩ := hcs
    exact ⟨none, 0, 0, [], rfl, rfl, (fun k x e => by simp at e), fun x e => by cases e⟩
  · simp only [Value.cells, List.cons.injEq, Value.slice.injEq, and_true] at hcs
    obtain ⟨rfl, rfl, rfl⟩ := hcs
    injection hd with hd1 hd2
    subst hd1
    have hlm : n ≤ m := by rw [hmm]; split <;> omega
    have h3 : Tryz.prog.cellsOf 36 = 3 := by kernel_rfl
    rw [h3] at hx
    have hall : ∀ i, i < n → ∃ t : Pv, ∃ cs', W.cells? 0 (ad.add (i * 3)) 3 = some cs' ∧ cs' = vcell t ∧ PvIn W t ∧ t.x.deps.length ≤ reachBytes ∧ t.x.body.length ≤ reachBytes ∧ ∀ x ∈ t.x.body, x.old.length ≤ reachBytes ∧ x.new.length ≤ reachBytes := fun i hi => by
      obtain ⟨cs', h1, h2⟩ := hx i (by omega)
      obtain ⟨t, e, h4⟩ := trod_patch14 h2 (fun k hk => hr k (by
        simp only [DataW.weights, Tryz.underlying22]
        refine List.mem_cons_of_mem _ (List.mem_append_left _ (weightsAll_mem (d := D i) (List.mem_map_of_mem (List.mem_range.2 hi)) k hk))))
      exact ⟨t, cs', h1, e, h4⟩
    have hin : Inhabited Pv := ⟨zeroPv⟩
    obtain ⟨T, hT⟩ := choose_lt hall
    refine ⟨some ad, n, c, (List.range n).map T, rfl, by simp, fun i t hi => ?_, fun x hx => ?_⟩
    · have hil : i < n := by simpa using (List.getElem?_eq_some_iff.1 hi).1
      have e : T i = t := by simpa [hil] using hi
      obtain ⟨cs', h1, h2, s1, _⟩ := hT i hil
      subst h2
      have c0 := cells_at7 h1 0 _ rfl
      have c1 := cells_at7 h1 1 _ rfl
      have c2 := cells_at7 h1 2 _ rfl
      have hsp : ad.spot = none := by
        obtain ⟨cs0, g1, g2, _⟩ := hT 0 (by omega)
        subst g2
        have := spot_none7 (cells_at7 g1 0 _ rfl)
        simpa [Addr.add] using this
      have ead : ad.add (i * 3) = ⟨ad.block, ad.off + i * 3, none⟩ := add_none7 hsp _
      rw [ead] at c0 c1 c2
      rw [add_none7 rfl] at c0 c1 c2
      rw [← e]
      refine ⟨ad.block, ad.off, ?_, c0, c1, c2, s1⟩
      obtain ⟨b, o, s⟩ := ad
      simp_all
    · obtain ⟨i, hi, rfl⟩ := List.mem_map.1 hx
      obtain ⟨_, _, _, _, s3⟩ := hT i (List.mem_range.1 hi)
      exact s3

end Go.Proofs.YtbiilnhefoplkaaGreatDoor

namespace Go.Proofs.YtbiilnhefoplkaaGreatDoor
open Go.RowKit Go.Maps Go.WideMaps
set_option maxRecDepth 100000

theorem setGo_get : ∀ {Z : List Pv} {T0 T : List (Kv Pv)}, RiseM T0 → setGo T0 Z = some T → (∀ k c, getM T0 k = some c → getM T k = some c) ∧ ∀ d ∈ Z, getM T (unB d.x.name) = some d
  | [], T0, T, _, h => by
    rw [setGo] at h
    cases h
    exact ⟨fun _ _ h => h, fun d hd => by cases hd⟩
  | c :: Z, T0, T, hr, h => by
    rw [setGo] at h
    split at h
    · cases h
    · rename_i hn
      obtain ⟨h1, h2⟩ := setGo_get (rise_put hr _ c) h
      have hg : getM T0 (unB c.x.name) = none := by
        cases e : getM T0 (unB c.x.name) with
        | none => rfl
        | some d => exact absurd (.inl (by rw [e]; rfl)) hn
      refine ⟨fun k d hk => h1 k d ?_, fun d hd => ?_⟩
      · rw [get_putM hr, if_neg (fun e => by rw [e, hg] at hk; cases hk)]
        exact hk
      · rcases List.mem_cons.1 hd with rfl | hd
        · exact h1 _ _ (by rw [get_putM hr, if_pos rfl])
        · exact h2 d hd

theorem setGo_rise : ∀ {Z : List Pv} {T0 T : List (Kv Pv)}, RiseM T0 → setGo T0 Z = some T → RiseM T
  | [], T0, T, hr, h => by rw [setGo] at h; cases h; exact hr
  | c :: Z, T0, T, hr, h => by
    rw [setGo] at h
    split at h
    · cases h
    · exact setGo_rise (rise_put hr _ c) h

theorem rise_nil {β : Type} : RiseM ([] : List (Kv β)) := List.Pairwise.nil

theorem setV_get {Z : List Pv} {T : List (Kv Pv)} (h : setV Z = some T) : RiseM T ∧ ∀ d ∈ Z, getM T (unB d.x.name) = some d := by
  unfold setV at h
  split at h
  · exact ⟨setGo_rise rise_nil h, (setGo_get rise_nil h).2⟩
  · cases h

theorem ordGo_pre (T : List (Kv Pv)) : ∀ (f : Nat) (O : List B13), O <+: ordGo T f O
  | 0, O => List.prefix_refl O
  | f + 1, O => by
    rw [ordGo]
    split
    · exact List.prefix_refl O
    · exact (List.prefix_append O _).trans (ordGo_pre T f _)

theorem ordGo_at (T : List (Kv Pv)) : ∀ (f : Nat) (O : List B13) (i : Nat), O.length ≤ i → (h : i < (ordGo T f O).length) → ordNext T ((ordGo T f O).take i) = some (ordGo T f O)[i]
  | 0, O, i, hi, h => by rw [ordGo] at h; omega
  | f + 1, O, i, hi, h => by
    cases hn : ordNext T O with
    | none =>
      have e : ordGo T (f + 1) O = O := by rw [ordGo, hn]
      rw [e] at h; omega
    | some k =>
      have e : ordGo T (f + 1) O = ordGo T f (O ++ [k]) := by rw [ordGo, hn]
      simp only [e] at h ⊢
      by_cases hio : i = O.length
      · subst hio
        obtain ⟨r, hr⟩ := ordGo_pre T f (O ++ [k])
        have h1 : (ordGo T f (O ++ [k])).take O.length = O := by rw [← hr, List.append_assoc, List.take_left]
        have h2 : (ordGo T f (O ++ [k]))[O.length]? = some k := by rw [← hr, List.append_assoc, List.getElem?_append_right (Nat.le_refl _)]; simp
        rw [h1, hn, ← h2, List.getElem?_eq_getElem h]
      · exact ordGo_at T f (O ++ [k]) i (by rw [List.length_append, List.length_singleton]; omega) h

theorem ordV_len {T : List (Kv Pv)} {O : List B13} (h : ordV T = some O) : O.length = T.length := by
  unfold ordV at h
  split at h
  · rename_i hl
    cases h
    exact hl
  · cases h

theorem ordV_at {T : List (Kv Pv)} {O : List B13} (h : ordV T = some O) (i : Nat) (hi : i < O.length) : ordNext T (O.take i) = some O[i] := by
  unfold ordV at h
  split at h
  · cases h
    exact ordGo_at T _ [] i (Nat.zero_le _) hi
  · cases h

theorem next_least {T : List (Kv Pv)} (hT : RiseM T) {P : List B13} {k : B13} (h : ordNext T P = some k) {q : B13} (hq : InM T q) (hl : q < k) : readyV T P q = false := by
  unfold ordNext at h
  rw [List.find?_eq_some_iff_append] at h
  obtain ⟨_, la, lb, he, hn⟩ := h
  have hm := (inM_iff hT).1 hq
  have hp : (la ++ k :: lb).Pairwise (· < ·) := he ▸ hT
  rw [he] at hm
  rcases List.mem_append.1 hm with hm | hm
  · simpa using hn q hm
  · rcases List.mem_cons.1 hm with e | hm
    · rw [e] at hl; exact absurd hl (List.lt_irrefl _)
    · rw [List.pairwise_append] at hp
      exact absurd (List.lt_trans hl ((List.pairwise_cons.1 hp.2.1).1 q hm)) (List.lt_irrefl _)

/-- No lesser patch could have been told ahead. -/
theorem least_plain {Z : List Pv} {T : List (Kv Pv)} {O : List B13} (hZ : setV Z = some T) (hO : ordV T = some O) {i : Nat} (hi : i < O.length) {d : Pv} (hd : d ∈ Z) (hl : unB d.x.name < O[i]) (h1 : hasB ((O.map mkB).take i) d.x.name = false) (h2 : d.x.deps.all (hasB ((O.map mkB).take i)) = true) : False := by
  obtain ⟨hT, hget⟩ := setV_get hZ
  have hg := hget d hd
  have hr := next_least hT (ordV_at hO i hi) (show InM T (unB d.x.name) by unfold InM; rw [hg]; rfl) hl
  have e : ((O.map mkB).take i).map unB = O.take i := by
    rw [← List.map_take, List.map_map]
    exact List.map_id _
  have hdn : downN T (unB d.x.name) = d.x.deps := by unfold downN; rw [hg]
  unfold hasB at h1
  rw [e] at h1
  have h1' : unB d.x.name ∉ O.take i := of_decide_eq_false h1
  have : readyV T (O.take i) (unB d.x.name) = true := by
    unfold readyV
    rw [hdn, Bool.and_eq_true]
    refine ⟨decide_eq_true h1', List.all_eq_true.2 (fun x hx => ?_)⟩
    obtain ⟨y, hy, rfl⟩ := List.mem_map.1 hx
    have h3 := hasB_iff.1 (List.all_eq_true.1 h2 y hy)
    rw [e] at h3
    exact decide_eq_true h3
  rw [hr] at this
  cases this

theorem strs_take14 {w : World} {p : Option Addr} {n c i : Nat} {l : List ByteArray} (h : StrsAt w (.slice p n c) l) (hn : l.length = n) (hi : i ≤ n) : StrsAt w (.slice p i c) (l.take i) := by
  obtain ⟨va, c', e, h1, h2, hr⟩ := h
  injection e with e1 _ e3
  subst e1 e3
  refine ⟨p, c, by rw [List.length_take, Nat.min_eq_left (by omega)], h1, by rw [List.length_take]; omega, fun j x hj => ?_⟩
  rw [List.getElem?_take] at hj
  split at hj
  · exact hr j x hj
  · cases hj

theorem strs_cap14 {w : World} {p : Option Addr} {n c : Nat} {l : List ByteArray} (h : StrsAt w (.slice p n c) l) : l.length ≤ c := by
  obtain ⟨va, c', e, h1, h2, hr⟩ := h
  injection e with e1 _ e3
  omega

/-- What Order hands back, in one. -/
theorem OrdPost.one {Z : List Pv} {w w' : World} {e : Ending} (h : OrdPost w (setV Z) e w') : ∃ p no c err O, e = .returned (.tuple #[.slice p no c, .int .i64 err]) ∧ (O : List B13).length = no ∧ StrsAt w' (.slice p no c) (O.map mkB) ∧ (0 < no → err = 0 ∧ ∃ T, setV Z = some T ∧ ordV T = some O) ∧ Fr None' w w' := by
  obtain ⟨h1, h2⟩ := h
  cases hs : setV Z with
  | none =>
    obtain ⟨rfl, f⟩ := h2 hs
    exact ⟨none, 0, 0, 1, [], rfl, rfl, strs_none w', fun h => absurd h (Nat.lt_irrefl _), f⟩
  | some T =>
    obtain ⟨a, b, f⟩ := h1 T hs
    cases ho : ordV T with
    | none =>
      obtain rfl := b ho
      exact ⟨none, 0, 0, 141, [], rfl, rfl, strs_none w', fun h => absurd h (Nat.lt_irrefl _), f⟩
    | some O =>
      rw [ho] at a b
      obtain ⟨p, c, rfl, hst, _⟩ := names_some (err := 141) rfl (show NamesPost w (some O) 141 e w' from ⟨a, b, f⟩)
      exact ⟨p, _, c, 0, O, rfl, rfl, hst, fun _ => ⟨rfl, T, rfl, ho⟩, f⟩

structure RLa (w : World) (g o n c k go oo no co i : Nat) (N X : ByteArray) (pu : Option Addr) (nd cu : Nat) (t0 t1 t2 t3 t4 t5 t6 t7 t8 t9 t10 t11 t12 t13 t14 t15 t16 t17 t18 t19 t20 t21 t22 t23 t24 t25 t26 t27 t28 t29 t30 t31 t32 : Value) (S : Nat → Bool) (w' : World) : Prop where
  fr : Fr None' w w'
  o0 : S 0 = true → t0 = .slice (some ⟨g, o, none⟩) n c
  o1 : S 1 = true → t1 = .int .i64 k
  o2 : S 2 = true → t2 = .pointer (some ⟨g, o + k * 3, none⟩)
  o3 : S 3 = true → t3 = .pointer (some ⟨g, o + k * 3, none⟩)
  o4 : S 4 = true → t4 = .string N
  o5 : S 5 = true → t5 = .slice (some ⟨go, oo, none⟩) no co
  o6 : S 6 = true → t6 = .int .i64 i
  o7 : S 7 = true → t7 = .pointer (some ⟨go, oo + i, none⟩)
  o8 : S 8 = true → t8 = .string X
  o9 : S 9 = true → t9 = .bool true
  o10 : S 10 = true → t10 = .bool true
  o11 : S 11 = true → t11 = .slice (some ⟨go, oo, none⟩) no co
  o12 : S 12 = true → t12 = .int .i64 i
  o13 : S 13 = true → t13 = .slice (some ⟨go, oo, none⟩) i co
  o14 : S 14 = true → t14 = .slice (some ⟨g, o, none⟩) n c
  o15 : S 15 = true → t15 = .int .i64 k
  o16 : S 16 = true → t16 = .pointer (some ⟨g, o + k * 3, none⟩)
  o17 : S 17 = true → t17 = .pointer (some ⟨g, o + k * 3, none⟩)
  o18 : S 18 = true → t18 = .string N
  o19 : S 19 = true → t19 = .bool true
  o20 : S 20 = true → t20 = .bool false
  o21 : S 21 = true → t21 = .bool false
  o22 : S 22 = true → t22 = .bool false
  o23 : S 23 = true → t23 = undef
  o24 : S 24 = true → t24 = undef
  o25 : S 25 = true → t25 = undef
  o26 : S 26 = true → t26 = undef
  o27 : S 27 = true → t27 = undef
  o28 : S 28 = true → t28 = undef
  o29 : S 29 = true → t29 = undef
  o30 : S 30 = true → t30 = undef
  o31 : S 31 = true → t31 = undef
  o32 : S 32 = true → t32 = .bool false

def RLaI (w : World) (g o n c k go oo no co i : Nat) (N X : ByteArray) (pu : Option Addr) (nd cu : Nat) (T : Value → Value → Value → Value → Value → Value → Value → Value → Value → Value → Value → Value → Value → Value → Value → Value → Value → Value → Value → Value → Value → Value → Value → Value → Value → Value → Value → Value → Value → Value → Value → Value → Value → Array Value) (S : Nat → Bool) (a : Act) (w' : World) : Prop := ∃ t0 t1 t2 t3 t4 t5 t6 t7 t8 t9 t10 t11 t12 t13 t14 t15 t16 t17 t18 t19 t20 t21 t22 t23 t24 t25 t26 t27 t28 t29 t30 t31 t32, a = { tmps := T t0 t1 t2 t3 t4 t5 t6 t7 t8 t9 t10 t11 t12 t13 t14 t15 t16 t17 t18 t19 t20 t21 t22 t23 t24 t25 t26 t27 t28 t29 t30 t31 t32, defers := [] } ∧ RLa w g o n c k go oo no co i N X pu nd cu t0 t1 t2 t3 t4 t5 t6 t7 t8 t9 t10 t11 t12 t13 t14 t15 t16 t17 t18 t19 t20 t21 t22 t23 t24 t25 t26 t27 t28 t29 t30 t31 t32 S w'

structure RLb (w : World) (g o n c k go oo no co i : Nat) (N X : ByteArray) (pu : Option Addr) (nd cu : Nat) (t0 t1 t2 t3 t4 t5 t6 t7 t8 t9 t10 t11 t12 t13 t14 t15 t16 t17 t18 t19 t20 t21 t22 t23 t24 t25 t26 t27 t28 t29 t30 t31 t32 : Value) (S : Nat → Bool) (w' : World) : Prop where
  fr : Fr None' w w'
  o0 : S 0 = true → t0 = .slice (some ⟨g, o, none⟩) n c
  o1 : S 1 = true → t1 = .int .i64 k
  o2 : S 2 = true → t2 = .pointer (some ⟨g, o + k * 3, none⟩)
  o3 : S 3 = true → t3 = .pointer (some ⟨g, o + k * 3, none⟩)
  o4 : S 4 = true → t4 = .string N
  o5 : S 5 = true → t5 = .slice (some ⟨go, oo, none⟩) no co
  o6 : S 6 = true → t6 = .int .i64 i
  o7 : S 7 = true → t7 = .pointer (some ⟨go, oo + i, none⟩)
  o8 : S 8 = true → t8 = .string X
  o9 : S 9 = true → t9 = .bool true
  o10 : S 10 = true → t10 = .bool true
  o11 : S 11 = true → t11 = .slice (some ⟨go, oo, none⟩) no co
  o12 : S 12 = true → t12 = .int .i64 i
  o13 : S 13 = true → t13 = .slice (some ⟨go, oo, none⟩) i co
  o14 : S 14 = true → t14 = .slice (some ⟨g, o, none⟩) n c
  o15 : S 15 = true → t15 = .int .i64 k
  o16 : S 16 = true → t16 = .pointer (some ⟨g, o + k * 3, none⟩)
  o17 : S 17 = true → t17 = .pointer (some ⟨g, o + k * 3, none⟩)
  o18 : S 18 = true → t18 = .string N
  o19 : S 19 = true → t19 = .bool false
  o20 : S 20 = true → t20 = .bool true
  o21 : S 21 = true → t21 = .bool true
  o22 : S 22 = true → t22 = .bool true
  o23 : S 23 = true → t23 = .slice (some ⟨go, oo, none⟩) no co
  o24 : S 24 = true → t24 = .int .i64 i
  o25 : S 25 = true → t25 = .slice (some ⟨go, oo, none⟩) i co
  o26 : S 26 = true → t26 = .slice (some ⟨g, o, none⟩) n c
  o27 : S 27 = true → t27 = .int .i64 k
  o28 : S 28 = true → t28 = .pointer (some ⟨g, o + k * 3, none⟩)
  o29 : S 29 = true → t29 = .pointer (some ⟨g, o + k * 3 + 1, none⟩)
  o30 : S 30 = true → t30 = .slice pu nd cu
  o31 : S 31 = true → t31 = .bool false
  o32 : S 32 = true → t32 = .bool false

def RLbI (w : World) (g o n c k go oo no co i : Nat) (N X : ByteArray) (pu : Option Addr) (nd cu : Nat) (T : Value → Value → Value → Value → Value → Value → Value → Value → Value → Value → Value → Value → Value → Value → Value → Value → Value → Value → Value → Value → Value → Value → Value → Value → Value → Value → Value → Value → Value → Value → Value → Value → Value → Array Value) (S : Nat → Bool) (a : Act) (w' : World) : Prop := ∃ t0 t1 t2 t3 t4 t5 t6 t7 t8 t9 t10 t11 t12 t13 t14 t15 t16 t17 t18 t19 t20 t21 t22 t23 t24 t25 t26 t27 t28 t29 t30 t31 t32, a = { tmps := T t0 t1 t2 t3 t4 t5 t6 t7 t8 t9 t10 t11 t12 t13 t14 t15 t16 t17 t18 t19 t20 t21 t22 t23 t24 t25 t26 t27 t28 t29 t30 t31 t32, defers := [] } ∧ RLb w g o n c k go oo no co i N X pu nd cu t0 t1 t2 t3 t4 t5 t6 t7 t8 t9 t10 t11 t12 t13 t14 t15 t16 t17 t18 t19 t20 t21 t22 t23 t24 t25 t26 t27 t28 t29 t30 t31 t32 S w'

end Go.Proofs.YtbiilnhefoplkaaGreatDoor

namespace Go.Proofs.YtbiilnhefoplkaaGreatDoor
open Go.RowKit Go.Maps Go.WideMaps
set_option maxRecDepth 100000

theorem riseM_ext {β : Type} : ∀ {K L : List (Kv β)}, RiseM K → RiseM L → (∀ t, t ∈ K ↔ t ∈ L) → K = L
  | [], [], _, _, _ => rfl
  | [], b :: L, _, _, h => absurd ((h b).2 (List.mem_cons_self ..)) List.not_mem_nil
  | a :: K, [], _, _, h => absurd ((h a).1 (List.mem_cons_self ..)) List.not_mem_nil
  | a :: K, b :: L, hK, hL, h => by
    unfold RiseM at hK hL
    rw [List.map_cons, List.pairwise_cons] at hK hL
    have hK1 : ∀ x ∈ K, a.1 < x.1 := fun x hx => hK.1 _ (List.mem_map.2 ⟨x, hx, rfl⟩)
    have hL1 : ∀ x ∈ L, b.1 < x.1 := fun x hx => hL.1 _ (List.mem_map.2 ⟨x, hx, rfl⟩)
    have e : a = b := by
      rcases List.mem_cons.1 ((h a).1 (List.mem_cons_self ..)) with e | e
      · exact e
      · rcases List.mem_cons.1 ((h b).2 (List.mem_cons_self ..)) with e2 | e2
        · exact e2.symm
        · exact absurd (List.lt_trans (hL1 a e) (hK1 b e2)) (List.lt_irrefl _)
    subst e
    rw [riseM_ext (K := K) (L := L) hK.2 hL.2 (fun k => ⟨fun hk => (List.mem_cons.1 ((h k).1 (List.mem_cons_of_mem _ hk))).resolve_left (fun e => List.lt_irrefl _ (e ▸ hK1 k hk)), fun hk => (List.mem_cons.1 ((h k).2 (List.mem_cons_of_mem _ hk))).resolve_left (fun e => List.lt_irrefl _ (e ▸ hL1 k hk))⟩)]

theorem setGo_some : ∀ {Z : List Pv} {T0 : List (Kv Pv)}, RiseM T0 → ((setGo T0 Z).isSome = true ↔ (∀ d ∈ Z, rightPa d.x = true) ∧ (Z.map (fun d => unB d.x.name)).Nodup ∧ ∀ d ∈ Z, getM T0 (unB d.x.name) = none)
  | [], T0, _ => ⟨fun _ => ⟨fun d hd => (by cases hd), List.nodup_nil, fun d hd => (by cases hd)⟩, fun _ => rfl⟩
  | c :: Z, T0, hr => by
    rw [setGo]
    by_cases h : (getM T0 (unB c.x.name)).isSome = true ∨ rightPa c.x = false
    · rw [if_pos h]
      refine ⟨fun e => (by cases e), fun ⟨h1, _, h3⟩ => ?_⟩
      rcases h with h | h
      · rw [h3 c (List.mem_cons_self ..)] at h; cases h
      · rw [h1 c (List.mem_cons_self ..)] at h; cases h
    · rw [if_neg h, setGo_some (rise_put hr _ c)]
      have hg : getM T0 (unB c.x.name) = none := by
        cases e : getM T0 (unB c.x.name) with
        | none => rfl
        | some d => exact absurd (.inl (by rw [e]; rfl)) h
      have hrc : rightPa c.x = true := (Bool.eq_false_or_eq_true _).resolve_right (fun e => h (.inr e))
      rw [List.map_cons, List.nodup_cons]
      constructor
      · rintro ⟨h1, h2, h3⟩
        refine ⟨fun d hd => ?_, ⟨fun hm => ?_, h2⟩, fun d hd => ?_⟩
        · rcases List.mem_cons.1 hd with rfl | hd
          · exact hrc
          · exact h1 d hd
        · obtain ⟨d, hd, e⟩ := List.mem_map.1 hm
          have := h3 d hd
          rw [get_putM hr, if_pos e] at this
          cases this
        · rcases List.mem_cons.1 hd with rfl | hd
          · exact hg
          · have := h3 d hd
            rw [get_putM hr] at this
            split at this
            · cases this
            · exact this
      · rintro ⟨h1, ⟨h2, h3⟩, h4⟩
        refine ⟨fun d hd => h1 d (List.mem_cons_of_mem _ hd), h3, fun d hd => ?_⟩
        rw [get_putM hr, if_neg (fun e => h2 (List.mem_map.2 ⟨d, hd, e⟩))]
        exact h4 d (List.mem_cons_of_mem _ hd)

theorem setV_some {Z : List Pv} : (setV Z).isSome = true ↔ Z.length ≤ 256 ∧ (∀ d ∈ Z, rightPa d.x = true) ∧ (Z.map (fun d => unB d.x.name)).Nodup := by
  unfold setV
  by_cases h : Z.length ≤ 256
  · rw [if_pos h, setGo_some rise_nil]
    exact ⟨fun ⟨a, b, _⟩ => ⟨h, a, b⟩, fun ⟨_, a, b⟩ => ⟨a, b, fun d _ => rfl⟩⟩
  · rw [if_neg h]
    exact ⟨fun e => (by cases e), fun e => absurd e.1 h⟩

theorem setV_is {Z : List Pv} {T : List (Kv Pv)} (h : setV Z = some T) (t : Kv Pv) : t ∈ T ↔ t.2 ∈ Z ∧ t.1 = unB t.2.x.name :=
  ⟨setV_mem h t, fun ⟨h1, h2⟩ => by
    have := getM_mem ((setV_get h).2 t.2 h1)
    rw [← h2] at this
    exact this⟩

theorem setV_perm {Z Y : List Pv} (hp : Z.Perm Y) : setV Z = setV Y := by
  have hs : (setV Z).isSome = true ↔ (setV Y).isSome = true := by
    rw [setV_some, setV_some, hp.length_eq, (hp.map _).nodup_iff]
    exact ⟨fun ⟨a, b, c⟩ => ⟨a, fun d hd => b d (hp.mem_iff.2 hd), c⟩, fun ⟨a, b, c⟩ => ⟨a, fun d hd => b d (hp.mem_iff.1 hd), c⟩⟩
  cases hz : setV Z with
  | none =>
    cases hy : setV Y with
    | none => rfl
    | some T => rw [hz, hy] at hs; exact absurd (hs.2 rfl) (by simp)
  | some T =>
    cases hy : setV Y with
    | none => rw [hz, hy] at hs; exact absurd (hs.1 rfl) (by simp)
    | some U =>
      rw [riseM_ext (setV_get hz).1 (setV_get hy).1 (fun t => by rw [setV_is hz, setV_is hy, hp.mem_iff])]

end Go.Proofs.YtbiilnhefoplkaaGreatDoor

namespace Go.Proofs.YtbiilnhefoplkaaGreatDoor
open Go.RowKit Go.Maps Go.WideMaps
set_option maxRecDepth 100000

def findV (Z : List Pv) (s : B13) : Option Pv := Z.find? (fun d => decide (unB d.x.name = s))

theorem Box3.load14 {w : World} {b : Nat} {y0 y1 y2 : Value} (h : Box3 w b y0 y1 y2) : (loadVar 36 ⟨b, 0, none⟩).run Tryz.prog w = .ok (.agg #[y0, y1, y2]) w :=
  run_loadVar_row w b 36 36 #[y0, y1, y2] (0, 0) _ h Tryz.underlying36 rfl (by kernel_rfl)

theorem ret_two14 {fn : Func} {p u : Tmp} (hres : fn.results = #[.cell p 36, .tmp u]) {Q : Ending → World → Prop} {a : Act} {w : World} {b : Nat} {y0 y1 y2 v : Value} (hd : a.defers = []) (hp : a.tmps.getD p undef = .pointer (some ⟨b, 0, none⟩)) (hu : a.tmps.getD u undef = v) (h : Box3 w b y0 y1 y2) (hq : Q (.returned (.tuple #[.agg #[y0, y1, y2], v])) w) : bodyPost Tryz.prog fn Q .ret a w :=
  bodyPost_ret (v := .tuple #[.agg #[y0, y1, y2], v]) (by rw [results_cell_tmp hres, hp, hu]; simp [asAddr, Result.andThen, Box3.load14 h]) hd hq

set_option maxHeartbeats 4000000 in
theorem find14_any (va : Option Addr) (n c : Nat) (Z : List Pv) (s : ByteArray) (w : World) (hn : Z.length = n) (hr : RowV w va Z) (hl : n ≤ 1000000) :
    Calls Tryz.prog 22 #[.slice va n c, .string s] w fun e w' => e = .returned (.tuple #[mkV ((findV Z (unB s)).getD zeroPv), .bool (findV Z (unB s)).isSome]) ∧ Fr None' w w' := by
  have HL := toHid8 hn
  have HRow := toHid8 hr
  have i0 : (n : Int) ≤ 1000000 := by omega
  obtain ⟨R, hR⟩ : ∃ R, findV Z (unB s) = R := ⟨_, rfl⟩
  have HR := toHid8 hR
  rw [hR]
  obtain ⟨b0, hb0⟩ : ∃ b, w.heap.size = b := ⟨_, rfl⟩
  obtain ⟨w1, hw1⟩ : ∃ y, w.alloc (.cells #[.string ⟨#[]⟩, .slice none 0 0, .slice none 0 0] 36) = y := ⟨_, rfl⟩
  have HB0 := toHid8 (show Box3 w1 b0 (.string ⟨#[]⟩) (.slice none 0 0) (.slice none 0 0) from by rw [← hw1, ← hb0]; exact Box3.new w _ _ _)
  have HF0 := toHid8 (show Fr None' w w1 from hw1 ▸ Fr.alloc None' w _)
  have HZ0 := toHid8 hb0
  clear hn hr hl hR
  go_enter Tryz.func22, Tryz.ntmps22
  go_wp2_with fail
  go_loopw [6] (fun vi wr => ∃ k : Nat, k ≤ n ∧ vi = .int .i64 k ∧ Hid (Fr None' w1 wr) ∧ Hid (∀ d ∈ Z.take k, decide (unB d.x.name = unB s) = false)) (fun vi _ => n - (intOf vi).toNat)
  case atStart => exact ⟨0, Nat.zero_le _, rfl, Fr.refl _ _, fun d h => by cases h⟩
  case round =>
    obtain ⟨k, hk, rfl, HF, HT⟩ := hrel
    have HBx := toHid8 (HB0.out.kept HF.out)
    have HFw := toHid8 (HF0.out.then7 HF.out)
    by_cases hlt : k < n
    case neg =>
      obtain rfl : R = none := by
        rw [← HR.out]
        unfold findV
        rw [List.find?_eq_none]
        have h := HT.out
        rw [List.take_of_length_le (by rw [HL.out]; omega)] at h
        intro d hd
        rw [h d hd]
        decide
      obtain ⟨x0, x1, x2⟩ := HBx.out.cells
      have z0 := HBx.out.frozen 0
      have z1 := HBx.out.frozen 1
      have z2 := HBx.out.frozen 2
      have i1 : ¬ (k : Int) < (n : Int) := by omega
      clear hlt
      go_wp2_with fail
      refine ret_two14 rfl rfl rfl rfl (HBx.out.all14 _ _ _) ⟨rfl, HFw.out.trans (setP14_fr _ _ _ _ _) (fun i e => Or.inr (by have := HZ0.out; omega))⟩
    case pos =>
      have hka : k < Z.length := by rw [HL.out]; exact hlt
      obtain ⟨g, o, rfl, c0, c1, c2, -⟩ := HRow.out.kept HFw.out k _ (List.getElem?_eq_getElem hka)
      have HFi := toHid8 (show decide (unB Z[k].x.name = unB s) = true → R = some Z[k] from fun e => by
        rw [← HR.out]
        unfold findV
        rw [List.find?_eq_some_iff_append]
        refine ⟨e, Z.take k, Z.drop (k + 1), by rw [← List.drop_eq_getElem_cons hka, List.take_append_drop], fun a ha => by rw [HT.out a ha]; rfl⟩)
      have HNo := toHid8 (show decide (unB Z[k].x.name = unB s) = false → ∀ d ∈ Z.take (k + 1), decide (unB d.x.name = unB s) = false from fun e d hd => by
        rw [List.take_succ_eq_append_getElem hka] at hd
        rcases List.mem_append.1 hd with hd | hd
        · exact HT.out d hd
        · rw [List.mem_singleton.1 hd]; exact e)
      obtain ⟨d, hd⟩ : ∃ d, Z[k] = d := ⟨_, rfl⟩
      rw [hd] at c0 c1 c2 HFi HNo
      obtain ⟨N, hN⟩ : ∃ N, d.x.name = N := ⟨_, rfl⟩
      obtain ⟨nd, hnd⟩ : ∃ y, d.x.deps.length = y := ⟨_, rfl⟩
      obtain ⟨nb, hnb⟩ : ∃ y, d.x.body.length = y := ⟨_, rfl⟩
      have HM := toHid8 (show mkV d = .agg #[.string N, .slice d.pu nd d.cu, .slice d.pb nb d.cb] from by unfold mkV; rw [hN, hnd, hnb])
      rw [hN] at c0 HFi HNo
      rw [hnd] at c1
      rw [hnb] at c2
      have i3 : (k : Int) < (n : Int) := by omega
      have i4 : (0 : Int) ≤ (k : Int) := by omega
      have HLt := toHid8 hlt
      obtain ⟨x0, x1, x2⟩ := HBx.out.cells
      have z0 := HBx.out.frozen 0
      have z1 := HBx.out.frozen 1
      have z2 := HBx.out.frozen 2
      clear hlt hd hN hnd hnb
      by_cases he : N = s
      · subst he
        obtain rfl := HFi.out (by simp)
        go_wp2_with fail
        refine ret_two14 rfl rfl rfl rfl (HBx.out.all14 _ _ _) ⟨?_, HFw.out.trans (setP14_fr _ _ _ _ _) (fun i e => Or.inr (by have := HZ0.out; omega))⟩
        show _ = Ending.returned (.tuple #[mkV d, .bool true])
        rw [HM.out]
        rfl
      · have HN := toHid8 (HNo.out (decide_eq_false (fun e => he (unB_inj e))))
        obtain ⟨s1, s2⟩ := Lines.str_no he
        clear he
        go_wp2_with fail
        exact ⟨⟨k + 1, by have := HLt.out; omega, by go_num, HF.out, HN.out⟩, by simp [intOf]; have := HLt.out; omega⟩

end Go.Proofs.YtbiilnhefoplkaaGreatDoor

namespace Go.Proofs.YtbiilnhefoplkaaGreatDoor
open Go.RowKit Go.Maps Go.WideMaps
set_option maxRecDepth 100000

/-- What Order answers: its error, and its names. -/
def ordE (Z : List Pv) : Int × List B13 := match setV Z with
  | none => (1, [])
  | some T => match ordV T with
    | none => (141, [])
    | some O => (0, O)

theorem ordE_perm {Z Y : List Pv} (hp : Z.Perm Y) : ordE Z = ordE Y := by
  unfold ordE
  rw [setV_perm hp]

theorem OrdPost.told {Z : List Pv} {w w' : World} {e : Ending} (h : OrdPost w (setV Z) e w') : ∃ p c, e = .returned (.tuple #[.slice p (ordE Z).2.length c, .int .i64 (ordE Z).1]) ∧ StrsAt w' (.slice p (ordE Z).2.length c) ((ordE Z).2.map mkB) ∧ Fr None' w w' := by
  obtain ⟨h1, h2⟩ := h
  unfold ordE
  cases hs : setV Z with
  | none =>
    obtain ⟨rfl, f⟩ := h2 hs
    exact ⟨none, 0, rfl, strs_none w', f⟩
  | some T =>
    obtain ⟨a, b, f⟩ := h1 T hs
    cases ho : ordV T with
    | none =>
      obtain rfl := b ho
      simp only [ho]
      exact ⟨none, 0, rfl, strs_none w', f⟩
    | some O =>
      rw [ho] at a b
      obtain ⟨p, c, rfl, hst, _⟩ := names_some (err := 141) rfl (show NamesPost w (some O) 141 e w' from ⟨a, b, f⟩)
      simp only [ho]
      exact ⟨p, c, rfl, hst, f⟩

theorem ordE_ok {Z : List Pv} (h : (ordE Z).1 = 0) : ∃ T, setV Z = some T ∧ ordV T = some (ordE Z).2 := by
  unfold ordE at h ⊢
  cases hs : setV Z with
  | none => rw [hs] at h; exact absurd h (by decide)
  | some T =>
    rw [hs] at h
    cases ho : ordV T with
    | none => simp only [ho] at h; exact absurd h (by decide)
    | some O => exact ⟨T, rfl, by simp only [ho]⟩

theorem ordE_no {Z : List Pv} (h : ¬ (ordE Z).1 = 0) : (ordE Z).2 = [] := by
  unfold ordE at h ⊢
  cases hs : setV Z with
  | none => rfl
  | some T =>
    rw [hs] at h
    cases ho : ordV T with
    | none => simp only [ho]
    | some O => simp only [ho] at h; exact absurd trivial h

theorem setV_full {Z : List Pv} {T : List (Kv Pv)} (h : setV Z = some T) : T.length = Z.length := by
  unfold setV at h
  split at h
  · rw [setGo_len h]; simp
  · cases h

theorem ordE_len {Z : List Pv} : (ordE Z).2.length ≤ 256 := by
  by_cases h : (ordE Z).1 = 0
  · obtain ⟨T, hT, hO⟩ := ordE_ok h
    rw [ordV_len hO]
    exact setV_len hT
  · rw [ordE_no h]; decide

/-- Each name that is told is one of a patch whose Deps are told ahead, and is told once. -/
theorem order_plain {Z : List Pv} {T : List (Kv Pv)} {O : List B13} (hZ : setV Z = some T) (hO : ordV T = some O) {i : Nat} (hi : i < O.length) :
    ∃ d ∈ Z, findV Z O[i] = some d ∧ hasB ((O.map mkB).take i) (mkB O[i]) = false ∧ d.x.deps.all (hasB ((O.map mkB).take i)) = true := by
  obtain ⟨hT, hget⟩ := setV_get hZ
  have hn := ordV_at hO i hi
  unfold ordNext at hn
  have hr := List.find?_some hn
  have hm := List.mem_of_find?_eq_some hn
  obtain ⟨t, ht, he⟩ := List.mem_map.1 hm
  obtain ⟨hz, hk⟩ := (setV_is hZ t).1 ht
  have e : ((O.map mkB).take i).map unB = O.take i := by
    rw [← List.map_take, List.map_map]
    exact List.map_id _
  have hdn : downN T O[i] = t.2.x.deps := by unfold downN; rw [← he, hT.get ht]
  unfold readyV at hr
  rw [hdn, Bool.and_eq_true, decide_eq_true_eq, List.all_eq_true] at hr
  refine ⟨t.2, hz, ?_, ?_, List.all_eq_true.2 (fun x hx => ?_)⟩
  · unfold findV
    cases hf : Z.find? (fun d => decide (unB d.x.name = O[i])) with
    | none =>
      rw [List.find?_eq_none] at hf
      exact absurd (decide_eq_true (show unB t.2.x.name = O[i] by rw [← hk, he])) (hf _ hz)
    | some d =>
      have h1 : unB d.x.name = O[i] := by simpa using List.find?_some hf
      have h2 := hget d (List.mem_of_find?_eq_some hf)
      have h3 := hget t.2 hz
      rw [h1] at h2
      rw [← hk, he] at h3
      rw [h2] at h3
      exact h3
  · unfold hasB
    rw [e, un_mk]
    exact decide_eq_false hr.1
  · rw [hasB_iff, e]
    have := hr.2 (unB x) (List.mem_map.2 ⟨x, hx, rfl⟩)
    simpa using this

end Go.Proofs.YtbiilnhefoplkaaGreatDoor

namespace Go.Proofs.YtbiilnhefoplkaaGreatDoor
open Go.RowKit Go.Maps Go.WideMaps
set_option maxRecDepth 100000

/-- What the law's great tells. -/
def GNPost (Z : List Pv) (D : List ByteArray) (w : World) (e : Ending) (w' : World) : Prop := ∃ g, e = .returned (.bool g) ∧ (g = false → (Z.length ≤ 60 ∧ ∀ d ∈ Z, FewPa d.x) ∧ D.length < 2000 ∧ ∀ y ∈ D, y.size < 2000) ∧ Fr None' w w'

set_option maxHeartbeats 8000000 in
theorem great14_any (va : Option Addr) (n c : Nat) (Z : List Pv) (pa : Option Addr) (no ca : Nat) (D : List ByteArray) (w : World) (hn : Z.length = n) (hr : RowV w va Z) (hb : BigV Z) (hno : D.length = no) (hd : StrsAt w (.slice pa no ca) D) (ld : no ≤ 140737488355328) :
    Calls Tryz.prog 8 #[.slice va n c, .slice pa no ca] w fun e w' => GNPost Z D w e w' := by
  have HSd := toHid8 hd
  have HL := toHid8 hno
  have HG := toHid8 (fun w' (f : Fr None' w w') => greatList14_any va n c Z w' hn (hr.kept f) hb)
  have i4 : (no : Int) ≤ 140737488355328 := by omega
  clear hd hno hn hr hb ld
  go_enter Tryz.func8, Tryz.ntmps8
  go_wp2_with fail
  go_loopw [5, 6] (fun vn vi w2 => ∃ q M : Nat, q ≤ no ∧ vi = .int .i64 q ∧ vn = .int .i64 M ∧ (M : Int) ≤ 281474976740000 ∧ Hid (M < 2000 → M = no + ((D.take q).map (·.size)).sum) ∧ Hid (Fr None' w w2)) (fun _ vi _ => no - (intOf vi).toNat)
  case atStart => exact ⟨0, no, Nat.zero_le _, rfl, rfl, by omega, fun h => by simp, Fr.refl _ _⟩
  case round =>
    obtain ⟨q, M, hq, rfl, rfl, hM, HMM, HF2⟩ := hrel
    by_cases hqt : q < no
    · by_cases hs : M < 2000
      · have hql : q < D.length := by rw [HL.out]; exact hqt
        obtain ⟨gl, ol, hpa, e1⟩ := strs_two (HSd.out.kept HF2.out) (List.getElem?_eq_getElem hql)
        subst hpa
        have HZ := toHid8 (show ((D.take (q + 1)).map (·.size)).sum = ((D.take q).map (·.size)).sum + D[q].size from sizes_step hql)
        obtain ⟨s, hse⟩ : ∃ s, D[q] = s := ⟨_, rfl⟩
        rw [hse] at e1 HZ
        obtain ⟨mS, hmS⟩ : ∃ m : Nat, min s.size 2000 = m := ⟨_, rfl⟩
        have eS : (if (2000 : Int) < (s.size : Int) then (2000 : Int) else (s.size : Int)) = (mS : Int) := by split <;> omega
        have eS2 : min (s.size : Int) 2000 = (mS : Int) := by omega
        have HM2 : Hid (mS < 2000 → mS = s.size) := by show _ → _; omega
        have u1 : (mS : Int) ≤ 2000 := by omega
        have u2 : (M : Int) < 2000 := by omega
        have u3 : (q : Int) < (no : Int) := by omega
        have u4 : (0 : Int) ≤ (q : Int) := by omega
        clear hse hmS hs hM
        go_wp2_with fail
        refine ⟨⟨q + 1, M + mS, by omega, by go_num, by go_num, by omega, fun hh => ?_, HF2.out⟩, by simp [intOf]; omega⟩
        have h1 := HMM.out (by omega)
        have h2 := HM2.out (by omega)
        rw [HZ.out]
        omega
      · have u2 : ¬ (M : Int) < 2000 := by omega
        have u3 : (q : Int) < (no : Int) := by omega
        have u5 : (2000 : Int) ≤ (M : Int) := by omega
        have HX := toHid8 HF2.out
        clear HMM hs
        go_wp2_with fail
        go_ret
        exact ⟨true, rfl, fun h => (by cases h), HX.out⟩
    · obtain rfl : q = no := by omega
      by_cases hs : M < 2000
      · have HW := toHid8 (show q < 2000 ∧ ∀ y ∈ D, y.size < 2000 by
          have h1 := HMM.out hs
          rw [List.take_of_length_le (by rw [HL.out]; exact Nat.le_refl _)] at h1
          exact ⟨by omega, fun y hy => by have := mem_sum13 hy; omega⟩)
        have u2 : (M : Int) < 2000 := by omega
        have u5 : ¬ (2000 : Int) ≤ (M : Int) := by omega
        have q1 := HG.out wr HF2.out
        clear HMM hs hM hqt
        go_wp2_with fail
        with_reducible refine q1.mono ?_
        rintro e w3 ⟨g, rfl, hg, f3⟩
        have HX := toHid8 (HF2.out.then7 f3)
        clear q1 f3
        cases g with
        | true =>
          clear hg
          go_wp2_with fail
          go_ret
          exact ⟨true, rfl, fun h => (by cases h), HX.out⟩
        | false =>
          have HGg := toHid8 (hg rfl)
          clear hg
          go_wp2_with fail
          go_ret
          exact ⟨false, rfl, fun _ => ⟨HGg.out, by rw [HL.out]; exact HW.out.1, HW.out.2⟩, HX.out⟩
      · have u2 : ¬ (M : Int) < 2000 := by omega
        have u5 : (2000 : Int) ≤ (M : Int) := by omega
        have HX := toHid8 HF2.out
        clear HMM hs
        go_wp2_with fail
        go_ret
        exact ⟨true, rfl, fun h => (by cases h), HX.out⟩

end Go.Proofs.YtbiilnhefoplkaaGreatDoor

namespace Go.Proofs.YtbiilnhefoplkaaGreatDoor
open Go.ChangeShapes Go.WideShapes Go.ChangeAt Go.RowKit Go.Maps Go.WideMaps
set_option maxRecDepth 100000

theorem rch_app {Nx : B13 → List ByteArray} {A B : List B13} (k : B13) : Rch Nx (A ++ B) k ↔ Rch Nx A k ∨ Rch Nx B k := by
  constructor
  · intro r
    induction r with
    | base hk =>
      rcases List.mem_append.1 hk with h | h
      · exact .inl (.base h)
      · exact .inr (.base h)
    | step _ hx ih =>
      rcases ih with h | h
      · exact .inl (.step h hx)
      · exact .inr (.step h hx)
  · rintro (r | r)
    · exact r.mono (fun _ h => List.mem_append_left _ h)
    · exact r.mono (fun _ h => List.mem_append_right _ h)

/-- A row of texts as an argument is. -/
theorem arg_strs14 {H : Type} {enc : TypeId × Value → H} {W : World} {sp : Nat → Bool} {held : Bool} {base : Nat} {v : Value} {d : DataW H} {ps : List MemPlace} (hv : Value.okWide Tryz.prog W .any base 23 v) (h : DataW.Trod enc Tryz.prog W 0 sp held 23 v d ps) (hr : ∀ n ∈ d.weights Tryz.prog 23, n ≤ reachBytes) :
    ∃ a n c l, v = .slice a n c ∧ (l : List ByteArray).length = n ∧ StrsAt W (.slice a n c) l ∧ n ≤ reachBytes := by
  obtain ⟨a, n, c, rfl⟩ := okWide_slice Tryz.underlying23 hv
  obtain ⟨fuel, hf⟩ := h
  obtain ⟨u, l, e, hst, hl⟩ := trod_strs9 hf hr
  simp only [Value.cells, List.cons.injEq, and_true] at e
  subst e
  have hst' := hst
  obtain ⟨va, cc, e2, -⟩ := hst
  injection e2 with _ e3 _
  exact ⟨a, n, c, l, rfl, e3.symm, hst', by omega⟩

end Go.Proofs.YtbiilnhefoplkaaGreatDoor

namespace Go.Proofs.YtbiilnhefoplkaaGreatDoor
open Go.RowKit Go.Maps Go.WideMaps
set_option maxRecDepth 100000

/-- What Down or Up tells: er is the error, K the names. -/
structure DP (R : Option (List (Kv Pv))) (Nx : List (Kv Pv) → B13 → List ByteArray) (N : List B13) (er : Int) (K : List B13) : Prop where
  ok : er = 0 → ∃ T, R = some T ∧ K.Pairwise (· < ·) ∧ (∀ k, k ∈ K ↔ Rch (Nx T) N k) ∧ ∀ k ∈ K, InM T k
  bad : er ≠ 0 → K = [] ∧ ∀ T, R = some T → ∃ z, Rch (Nx T) N z ∧ ¬ InM T z
  num : 0 ≤ er ∧ er ≤ 12

theorem DownPost.told {R : Option (List (Kv Pv))} {Nx : List (Kv Pv) → B13 → List ByteArray} {N : List B13} {w w' : World} {e : Ending} (h : DownPost R Nx N w e w') : ∃ er K p c, e = .returned (.tuple #[.slice p (K.map mkB).length c, .int .i64 er]) ∧ StrsAt w' (.slice p (K.map mkB).length c) (K.map mkB) ∧ DP R Nx N er K ∧ Fr None' w w' := by
  obtain ⟨h1, h2⟩ := h
  cases hR : R with
  | none =>
    obtain ⟨rfl, f⟩ := h2 hR
    exact ⟨1, [], none, 0, rfl, strs_none w', ⟨fun e => absurd e (by decide), fun _ => ⟨rfl, fun T h => (by cases h)⟩, by decide⟩, f⟩
  | some T =>
    obtain ⟨hh, f⟩ := h1 T hR
    rcases hh with ⟨K, v, hp, hk, hin, rfl, hst⟩ | ⟨hz, rfl⟩
    · have hst' := hst
      obtain ⟨va, c, rfl, -⟩ := hst'
      exact ⟨0, K, va, c, rfl, hst, ⟨fun _ => ⟨T, rfl, hp, hk, hin⟩, fun e => absurd rfl e, by decide⟩, f⟩
    · exact ⟨12, [], none, 0, rfl, strs_none w', ⟨fun e => absurd e (by decide), fun _ => ⟨rfl, fun T' h => by injection h with h; subst h; exact hz⟩, by decide⟩, f⟩

theorem in_len14 {T : List (Kv Pv)} (hT : RiseM T) {K : List B13} (hp : K.Pairwise (· < ·)) (h : ∀ k ∈ K, InM T k) : K.length ≤ T.length := by
  have hnd : K.Nodup := hp.imp (fun h e => by rw [e] at h; exact List.lt_irrefl _ h)
  have := hnd.length_le_of_subset (l₂ := T.map (·.1)) (fun k hk => (inM_iff hT).1 (h k hk))
  simpa using this

theorem DP.len {Z : List Pv} {Nx : List (Kv Pv) → B13 → List ByteArray} {N : List B13} {er : Int} {K : List B13} (h : DP (setV Z) Nx N er K) : K.length ≤ 256 := by
  by_cases e : er = 0
  · obtain ⟨T, hT, hp, _, hin⟩ := h.ok e
    have := in_len14 (setV_get hT).1 hp hin
    have := setV_len hT
    omega
  · rw [(h.bad e).1]; decide

/-- What two rows stand on together. -/
theorem DP.union {R : Option (List (Kv Pv))} {Nx : List (Kv Pv) → B13 → List ByteArray} {A B x y z : List B13} {e f g : Int} (ha : DP R Nx A e x) (hb : DP R Nx B f y) (hc : DP R Nx (A ++ B) g z) : (g = 0 ↔ e = 0 ∧ f = 0) ∧ (g = 0 → ∀ s, s ∈ z ↔ s ∈ x ∨ s ∈ y) := by
  have h1 : g = 0 → e = 0 ∧ f = 0 := fun hg => by
    obtain ⟨T, hT, _, hk, hin⟩ := hc.ok hg
    refine ⟨Decidable.byContradiction fun he => ?_, Decidable.byContradiction fun he => ?_⟩
    · obtain ⟨z, hz, hn⟩ := (ha.bad he).2 T hT
      exact hn (hin z ((hk z).2 ((rch_app z).2 (.inl hz))))
    · obtain ⟨z, hz, hn⟩ := (hb.bad he).2 T hT
      exact hn (hin z ((hk z).2 ((rch_app z).2 (.inr hz))))
  refine ⟨⟨h1, fun ⟨he, hf⟩ => Decidable.byContradiction fun hg => ?_⟩, fun hg s => ?_⟩
  · obtain ⟨T, hT, _, hk, hin⟩ := ha.ok he
    obtain ⟨T', hT', _, hk', hin'⟩ := hb.ok hf
    rw [hT] at hT'
    injection hT' with e2
    subst e2
    obtain ⟨z, hz, hn⟩ := (hc.bad hg).2 T hT
    rcases (rch_app z).1 hz with h | h
    · exact hn (hin z ((hk z).2 h))
    · exact hn (hin' z ((hk' z).2 h))
  · obtain ⟨he, hf⟩ := h1 hg
    obtain ⟨T, hT, _, hk, _⟩ := ha.ok he
    obtain ⟨T', hT', _, hk', _⟩ := hb.ok hf
    obtain ⟨T2, hT2, _, hk2, _⟩ := hc.ok hg
    rw [hT] at hT' hT2
    injection hT' with e2
    subst e2
    injection hT2 with e3
    subst e3
    rw [hk, hk', hk2, rch_app]

theorem DP.hasAll {R : Option (List (Kv Pv))} {Nx : List (Kv Pv) → B13 → List ByteArray} {D : List ByteArray} {K : List B13} (h : DP R Nx (D.map unB) 0 K) : D.all (hasB (K.map mkB)) = true := by
  obtain ⟨T, _, _, hk, _⟩ := h.ok rfl
  rw [List.all_eq_true]
  intro x hx
  rw [hasB_iff, un_mks]
  exact (hk _).2 (.base (List.mem_map.2 ⟨x, hx, rfl⟩))

theorem find_is14 {Z : List Pv} {T : List (Kv Pv)} (hZ : setV Z = some T) {k : B13} {d : Pv} (h : getM T k = some d) : findV Z k = some d ∧ d ∈ Z ∧ unB d.x.name = k ∧ downN T k = d.x.deps := by
  obtain ⟨hT, hget⟩ := setV_get hZ
  obtain ⟨hz, hk⟩ := (setV_is hZ (k, d)).1 (getM_mem h)
  refine ⟨?_, hz, hk.symm, by unfold downN; rw [h]⟩
  unfold findV
  cases hf : Z.find? (fun d => decide (unB d.x.name = k)) with
  | none =>
    rw [List.find?_eq_none] at hf
    exact absurd (decide_eq_true hk.symm) (hf _ hz)
  | some c =>
    have h1 : unB c.x.name = k := by simpa using List.find?_some hf
    have h2 := hget c (List.mem_of_find?_eq_some hf)
    rw [h1, h] at h2
    exact h2.symm

/-- What one of Down stands on is in it. -/
theorem DP.closed {Z : List Pv} {N : List B13} {K : List B13} (h : DP (setV Z) downN N 0 K) {i : Nat} (hi : i < K.length) : ∃ d ∈ Z, findV Z K[i] = some d ∧ d.x.deps.all (hasB (K.map mkB)) = true := by
  obtain ⟨T, hT, _, hk, hin⟩ := h.ok rfl
  obtain ⟨d, hd⟩ := Option.isSome_iff_exists.1 (hin _ (List.getElem_mem hi))
  obtain ⟨h1, h2, h3, h4⟩ := find_is14 hT hd
  refine ⟨d, h2, h1, ?_⟩
  rw [List.all_eq_true]
  intro x hx
  rw [hasB_iff, un_mks]
  refine (hk _).2 (.step ((hk _).1 (List.getElem_mem hi)) ?_)
  rw [h4]
  exact List.mem_map.2 ⟨x, hx, rfl⟩

theorem mem_above {T : List (Kv Pv)} {k : B13} {x : B13} : x ∈ (aboveV T k).map unB ↔ ∃ t ∈ T, k ∈ t.2.x.deps.map unB ∧ unB t.2.x.name = x := by
  unfold aboveV
  rw [List.map_map, List.mem_map]
  constructor
  · rintro ⟨t, ht, rfl⟩
    rw [List.mem_filter, decide_eq_true_eq] at ht
    exact ⟨t, ht.1, ht.2, rfl⟩
  · rintro ⟨t, ht, hk, rfl⟩
    exact ⟨t, by rw [List.mem_filter, decide_eq_true_eq]; exact ⟨ht, hk⟩, rfl⟩

/-- Who is in Up. -/
theorem DP.up {Z : List Pv} {N : List B13} {K : List B13} (h : DP (setV Z) aboveV N 0 K) {d : Pv} (hd : d ∈ Z) : unB d.x.name ∈ K ↔ unB d.x.name ∈ N ∨ ∃ y ∈ d.x.deps.map unB, y ∈ K := by
  obtain ⟨T, hT, _, hk, hin⟩ := h.ok rfl
  obtain ⟨hr, hget⟩ := setV_get hT
  constructor
  · intro hm
    have r := (hk _).1 hm
    generalize hx : unB d.x.name = x at r
    cases r with
    | base hN => exact .inl hN
    | step r hs =>
      obtain ⟨t, ht, hdt, e⟩ := mem_above.1 hs
      obtain ⟨hz, e2⟩ := (setV_is hT t).1 ht
      have h1 := hget t.2 hz
      have h2 := hget d hd
      rw [e] at h1
      rw [hx, h1] at h2
      injection h2 with h2
      rw [h2] at hdt
      exact .inr ⟨_, hdt, (hk _).2 r⟩
  · rintro (hN | ⟨y, hy, hyK⟩)
    · exact (hk _).2 (.base hN)
    · refine (hk _).2 (.step ((hk y).1 hyK) (mem_above.2 ⟨(unB d.x.name, d), (setV_is hT _).2 ⟨hd, rfl⟩, hy, rfl⟩))

end Go.Proofs.YtbiilnhefoplkaaGreatDoor

namespace Go.Proofs.YtbiilnhefoplkaaGreatDoor
open Go.RowKit Go.Maps Go.WideMaps
set_option maxRecDepth 100000

theorem Rch.trans14 {Nx : B13 → List ByteArray} {N : List B13} {k a : B13} (h : Rch Nx N k) (r : Rch Nx [k] a) : Rch Nx N a := by
  induction r with
  | base hk => rw [List.mem_singleton.1 hk]; exact h
  | step _ hx ih => exact .step ih hx

theorem edge_up {Z : List Pv} {T : List (Kv Pv)} (hZ : setV Z = some T) {k x : B13} (h : x ∈ (downN T k).map unB) : k ∈ (aboveV T x).map unB := by
  cases hg : getM T k with
  | none => unfold downN at h; rw [hg] at h; cases h
  | some d =>
    obtain ⟨_, h2, h3, h4⟩ := find_is14 hZ hg
    rw [h4] at h
    exact mem_above.2 ⟨(k, d), getM_mem hg, h, h3⟩

theorem edge_down {Z : List Pv} {T : List (Kv Pv)} (hZ : setV Z = some T) {k x : B13} (h : k ∈ (aboveV T x).map unB) : x ∈ (downN T k).map unB ∧ InM T k := by
  obtain ⟨t, ht, hk, rfl⟩ := mem_above.1 h
  obtain ⟨hz, e⟩ := (setV_is hZ t).1 ht
  have hg := (setV_get hZ).2 _ hz
  obtain ⟨_, _, _, h4⟩ := find_is14 hZ hg
  rw [h4]
  exact ⟨hk, by unfold InM; rw [hg]; rfl⟩

theorem rch_turn {Z : List Pv} {T : List (Kv Pv)} (hZ : setV Z = some T) {a b : B13} : Rch (downN T) [a] b ↔ Rch (aboveV T) [b] a := by
  constructor
  · intro r
    induction r with
    | base hk => rw [List.mem_singleton.1 hk]; exact .base (List.mem_singleton.2 rfl)
    | step _ hx ih => exact Rch.trans14 (.step (.base (List.mem_singleton.2 rfl)) (edge_up hZ hx)) ih
  · intro r
    induction r with
    | base hk => rw [List.mem_singleton.1 hk]; exact .base (List.mem_singleton.2 rfl)
    | step _ hx ih => exact Rch.trans14 (.step (.base (List.mem_singleton.2 rfl)) (edge_down hZ hx).1) ih

/-- An order has all names, each once, and each behind what it stands on. -/
structure Ords (T : List (Kv Pv)) (O : List B13) : Prop where
  inn : ∀ k, k ∈ O ↔ InM T k
  one : O.Nodup
  dep : ∀ i (hi : i < O.length), ∀ x ∈ (downN T O[i]).map unB, x ∈ O.take i

theorem ords_of {Z : List Pv} {T : List (Kv Pv)} {O : List B13} (hZ : setV Z = some T) (hO : ordV T = some O) : Ords T O := by
  have hb : ∀ i (hi : i < O.length), InM T O[i] ∧ O[i] ∉ O.take i ∧ ∀ x ∈ (downN T O[i]).map unB, x ∈ O.take i := fun i hi => by
    obtain ⟨d, hd, hf, hn, ha⟩ := order_plain hZ hO hi
    have hg := (setV_get hZ).2 d hd
    have hk : unB d.x.name = O[i] := by unfold findV at hf; simpa using List.find?_some hf
    rw [hk] at hg
    obtain ⟨_, _, _, h4⟩ := find_is14 hZ hg
    have e : ((O.map mkB).take i).map unB = O.take i := by rw [← List.map_take, un_mks]
    refine ⟨by unfold InM; rw [hg]; rfl, fun hm => ?_, fun x hx => ?_⟩
    · have : hasB ((O.map mkB).take i) (mkB O[i]) = true := by rw [hasB_iff, e, un_mk]; exact hm
      rw [this] at hn
      cases hn
    · rw [h4] at hx
      obtain ⟨y, hy, rfl⟩ := List.mem_map.1 hx
      have := List.all_eq_true.1 ha y hy
      rwa [hasB_iff, e] at this
  have hone : O.Nodup := by
    rw [List.Nodup, List.pairwise_iff_getElem]
    intro i j hi hj hij e
    refine (hb j hj).2.1 ?_
    rw [← e, List.mem_take_iff_getElem]
    exact ⟨i, by omega, rfl⟩
  have hsub : ∀ k ∈ O, InM T k := fun k hk => by
    obtain ⟨i, hi, rfl⟩ := List.getElem_of_mem hk
    exact (hb i hi).1
  have hr := (setV_get hZ).1
  refine ⟨fun k => ⟨hsub k, fun hk => Decidable.byContradiction fun hn => ?_⟩, hone, fun i hi => (hb i hi).2.2⟩
  have := (List.nodup_cons.2 ⟨hn, hone⟩).length_le_of_subset (l₂ := T.map (·.1)) (fun q hq => by
    rcases List.mem_cons.1 hq with rfl | hq
    · exact (inM_iff hr).1 hk
    · exact (inM_iff hr).1 (hsub q hq))
  have hl := ordV_len hO
  simp at this
  omega

theorem Ords.closed {T : List (Kv Pv)} {O : List B13} (h : Ords T O) {k x : B13} (hx : x ∈ (downN T k).map unB) : InM T x := by
  have hk : InM T k := by
    unfold InM
    unfold downN at hx
    cases hg : getM T k with
    | none => rw [hg] at hx; cases hx
    | some d => rfl
  obtain ⟨i, hi, rfl⟩ := List.getElem_of_mem ((h.inn k).2 hk)
  exact (h.inn x).1 (List.mem_of_mem_take (h.dep i hi x hx))

theorem rch_in {T : List (Kv Pv)} {Nx : B13 → List ByteArray} {N : List B13} (hN : ∀ k ∈ N, InM T k) (hc : ∀ k x, x ∈ (Nx k).map unB → InM T x) {k : B13} (r : Rch Nx N k) : InM T k := by
  cases r with
  | base hk => exact hN k hk
  | step _ hx => exact hc _ _ hx

theorem DP.yes {Z : List Pv} {T : List (Kv Pv)} {Nx : List (Kv Pv) → B13 → List ByteArray} {N K : List B13} {er : Int} (hZ : setV Z = some T) (h : DP (setV Z) Nx N er K) (hN : ∀ k ∈ N, InM T k) (hc : ∀ k x, x ∈ (Nx T k).map unB → InM T x) : er = 0 ∧ ∀ k, k ∈ K ↔ Rch (Nx T) N k := by
  have he : er = 0 := Decidable.byContradiction fun he => by
    obtain ⟨z, hz, hn⟩ := (h.bad he).2 T hZ
    exact hn (rch_in hN hc hz)
  refine ⟨he, ?_⟩
  obtain ⟨T', hT', _, hk, _⟩ := h.ok he
  rw [hZ] at hT'
  injection hT' with e
  subst e
  exact hk

theorem del_all {β : Type} : ∀ (D : List ByteArray) (T : List (Kv β)) (k : B13), k ∈ (delAll T D).map (·.1) ↔ k ∈ T.map (·.1) ∧ k ∉ D.map unB
  | [], T, k => by simp [delAll]
  | d :: D, T, k => by
    show k ∈ (delAll (delM T (unB d)) D).map (·.1) ↔ _
    rw [del_all D (delM T (unB d)) k]
    have h : k ∈ (delM T (unB d)).map (·.1) ↔ k ∈ T.map (·.1) ∧ k ≠ unB d := by
      rw [List.mem_map, List.mem_map]
      constructor
      · rintro ⟨t, ht, rfl⟩
        rw [mem_delM] at ht
        exact ⟨⟨t, ht.1, rfl⟩, ht.2⟩
      · rintro ⟨⟨t, ht, rfl⟩, hn⟩
        exact ⟨t, mem_delM.2 ⟨ht, hn⟩, rfl⟩
    rw [h, List.map_cons, List.mem_cons, not_or]
    exact ⟨fun ⟨⟨a, b⟩, c⟩ => ⟨a, b, c⟩, fun ⟨a, b, c⟩ => ⟨⟨a, b⟩, c⟩⟩

/-- Heads, and what they stand on, are all. -/
theorem heads_all {Z : List Pv} {T : List (Kv Pv)} {O H K : List B13} {er : Int} (hZ : setV Z = some T) (hO : Ords T O) (hH : headsV Z = some H) (h : DP (setV Z) downN H er K) (hne : Z ≠ []) : er = 0 ∧ K.length = Z.length ∧ 0 < H.length ∧ H.length ≤ 256 := by
  obtain ⟨hr, hget⟩ := setV_get hZ
  have eH : H = (delAll T (depsV Z)).map (·.1) := by
    unfold headsV at hH
    rw [hZ] at hH
    injection hH with hH
    exact hH.symm
  have mH : ∀ k, k ∈ H ↔ InM T k ∧ k ∉ (depsV Z).map unB := fun k => by rw [eH, del_all, inM_iff hr]
  obtain ⟨he, hk⟩ := h.yes hZ (fun k hk => ((mH k).1 hk).1) (fun k x hx => hO.closed hx)
  have reach : ∀ n j (hj : j < O.length), O.length - j ≤ n → Rch (downN T) H O[j] := by
    intro n
    induction n with
    | zero => intro j hj hn; omega
    | succ n ih =>
      intro j hj hn
      by_cases hd : O[j] ∈ (depsV Z).map unB
      · obtain ⟨y, hy, e⟩ := List.mem_map.1 hd
        unfold depsV at hy
        obtain ⟨d, hdz, hyd⟩ := List.mem_flatMap.1 hy
        have hg := hget d hdz
        have hin : InM T (unB d.x.name) := by unfold InM; rw [hg]; rfl
        obtain ⟨m, hm, em⟩ := List.getElem_of_mem ((hO.inn _).2 hin)
        obtain ⟨_, _, _, h4⟩ := find_is14 hZ hg
        have hx : O[j] ∈ (downN T O[m]).map unB := by rw [em, h4, ← e]; exact List.mem_map.2 ⟨y, hyd, rfl⟩
        obtain ⟨i, hi, ei⟩ := List.mem_take_iff_getElem.1 (hO.dep m hm _ hx)
        have : i = j := by
          have := List.pairwise_iff_getElem.1 hO.one
          rcases Nat.lt_trichotomy i j with h | h | h
          · exact absurd ei (this i j (by omega) hj h)
          · exact h
          · exact absurd ei.symm (this j i hj (by omega) h)
        exact .step (ih m hm (by omega)) hx
      · exact .base ((mH _).2 ⟨(hO.inn _).1 (List.getElem_mem hj), hd⟩)
  have hall : ∀ k, InM T k → k ∈ K := fun k hk' => by
    obtain ⟨j, hj, rfl⟩ := List.getElem_of_mem ((hO.inn k).2 hk')
    exact (hk _).2 (reach _ j hj (Nat.le_refl _))
  obtain ⟨T', hT', hp, _, hin⟩ := h.ok he
  rw [hZ] at hT'
  injection hT' with e
  subst e
  have l1 := in_len14 hr hp hin
  have l2 := (keys_nodup hr).length_le_of_subset (l₂ := K) (fun k hk' => hall k ((inM_iff hr).2 hk'))
  rw [List.length_map] at l2
  have l3 := setV_full hZ
  have l4 := setV_len hZ
  refine ⟨he, by omega, ?_, ?_⟩
  · cases hl : H with
    | cons a b => exact Nat.succ_pos _
    | nil =>
      exfalso
      cases hz : Z with
      | nil => exact hne hz
      | cons d Z' =>
        have hg := hget d (by rw [hz]; exact List.mem_cons_self ..)
        have r := (hk _).1 (hall (unB d.x.name) (by unfold InM; rw [hg]; rfl))
        rw [hl] at r
        have none14 : ∀ q, ¬ Rch (downN T) [] q := fun q r => by
          induction r with
          | base hk => cases hk
          | step _ _ ih => exact ih
        exact none14 _ r
  · rw [eH, List.length_map]
    have := delAll_len (depsV Z) T
    omega

/-- One is in what another one stands on just if that is in what stands on it. -/
theorem both_has {Z : List Pv} {T : List (Kv Pv)} {x y : ByteArray} {Kd Ku : List B13} (hZ : setV Z = some T) (hd : ∀ k, k ∈ Kd ↔ Rch (downN T) [unB x] k) (hu : ∀ k, k ∈ Ku ↔ Rch (aboveV T) [unB y] k) : hasB (Kd.map mkB) y = hasB (Ku.map mkB) x := by
  unfold hasB
  rw [un_mks, un_mks]
  have : unB y ∈ Kd ↔ unB x ∈ Ku := by rw [hd, hu, rch_turn hZ]
  by_cases h : unB y ∈ Kd
  · rw [decide_eq_true h, decide_eq_true (this.1 h)]
  · rw [decide_eq_false h, decide_eq_false (fun e => h (this.2 e))]

end Go.Proofs.YtbiilnhefoplkaaGreatDoor
