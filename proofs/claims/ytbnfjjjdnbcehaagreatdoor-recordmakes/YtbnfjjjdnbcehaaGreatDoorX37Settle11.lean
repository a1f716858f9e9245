/- What is proved here: contracts for RecordMakes. Conditions: as named. -/
import Derived.Test.YtbnfjjjdnbcehaaGreatDoorXRepl11
import Derived.Test.YtbnfjjjdnbcehaaGreatDoorX36CommD10
import Derived.Test.YtbnfjjjdnbcehaaGreatDoorX17Plain10
import Derived.Test.YtbnfjjjdnbcehaaGreatDoorX11RAll9
set_option maxHeartbeats 16000000
namespace Go.Proofs.YtbnfjjjdnbcehaaGreatDoor
open Go.RowKit
set_option maxRecDepth 100000
def settleT : List Pr → List Pr
 | [] => []
 | x :: st => pushR st x
theorem settle_of {st : List Pr} (h : Settled st) : settleT st = st := by
 cases st with
 | nil => rfl
 | cons x st =>
  cases st with
  | nil => rfl
  | cons y st => exact push_of h.1
theorem Settled.tail' {st : List Pr} (h : Settled st) : Settled st.tail := by
 cases st with
 | nil => trivial
 | cons x st => exact h.tail
theorem join_small {x y z : Pr} (hx : SmallP x) (hy : SmallP y) (h : Z3 x y = some [z]) : SmallP z := by
 unfold Z3 at h
 repeat' split at h
 all_goals first | cases h; done | (cases h; exact ⟨hx.1, by first | exact hx.2 | exact hy.2, hx.3, hx.4, by first | exact hx.5 | exact hy.5⟩)
structure SetAt (base : Nat) (w wr : World) (v v0 : Value) (T : List Pr) (L : List Pr) (V : List (Value × Value)) : Prop where
 own : Zk base wr v L V
 fr : Fr (fun k => v0.ownBlock = some k) w wr
 blk : v.ownBlock = v0.ownBlock
 tgt : settleT L.reverse = T
 set : Settled L.reverse.tail
 small : ∀ x ∈ L, SmallP x
theorem JoinPost.no {x y : Pr} {vo vn un : Value} {w w' : World} {e : Ending} (h : JoinPost x y vo vn un w e w') (hj : Z3 x y = none) : e = .returned (.tuple #[.slice none 0 0, .bool false]) ∧ Fr None' w w' := by
 obtain ⟨f, ⟨_, rfl⟩ | ⟨h, _⟩ | ⟨_, _, _, h, _⟩⟩ := h
 ·exact ⟨rfl, f⟩
 ·rw [hj] at h; cases h
 ·rw [hj] at h; cases h
theorem JoinPost.gone {x y : Pr} {vo vn un : Value} {w w' : World} {e : Ending} (h : JoinPost x y vo vn un w e w') (hj : Z3 x y = some []) : e = .returned (.tuple #[.slice none 0 0, .bool true]) ∧ Fr None' w w' := by
 obtain ⟨f, ⟨h, _⟩ | ⟨_, rfl⟩ | ⟨_, _, _, h, _⟩⟩ := h
 ·rw [hj] at h; cases h
 ·exact ⟨rfl, f⟩
 ·rw [hj] at h; cases h
theorem JoinPost.one {x y z : Pr} {vo vn un : Value} {w w' : World} {e : Ending} (h : JoinPost x y vo vn un w e w') (hj : Z3 x y = some [z]) : ∃ g, e = .returned (.tuple #[.slice (some ⟨g, 0, none⟩) 1 1, .bool true]) ∧ Hid (∃ vz, Box w' g (.int .i64 z.kind) (.string z.path) (.string z.dst) (.string z.src) (.int .i64 z.pos) (vo) (vz) ∧ z.old = x.old ∧ ((vz = vn ∧ z.new = x.new) ∨ (vz = un ∧ z.new = y.new))) ∧ Fr None' w w' := by
 obtain ⟨f, ⟨h, _⟩ | ⟨h, _⟩ | ⟨z', g, vz, h, rfl, h1, h2, h3, _⟩⟩ := h
 ·rw [hj] at h; cases h
 ·rw [hj] at h; cases h
 ·rw [hj] at h
  cases h
  exact ⟨g, rfl, ⟨vz, h1, h2, h3⟩, f⟩
theorem rev2 {L : List Pr} {i j : Nat} (h : L.length = i + 2) (hj : j = i + 1) : L.reverse = L[j]'(by omega) :: L[i]'(by omega) :: (L.take i).reverse := by
 subst hj
 have e : L = L.take i ++ [L[i]'(by omega)] ++ [L[i + 1]'(by omega)] := by
  rw [← List.take_succ_eq_append_getElem (by omega), ← List.take_succ_eq_append_getElem (by omega), List.take_of_length_le (by omega)]
 conv => lhs; rw [e]
 simp
theorem own_blk {g n cap : Nat} {v0 : Value} (h : (Value.slice (some ⟨g, 0, none⟩) n cap).ownBlock = v0.ownBlock) : v0.ownBlock = some g := h.symm
theorem SetAt.step {base : Nat} {w wr w2 w3 : World} {g m cap i j m' : Nat} {v0 : Value} {T L : List Pr} {V : List (Value × Value)} (h : SetAt base w wr (.slice (some ⟨g, 0, none⟩) m cap) v0 T L V) (hl : L.length = i + 2) (hj : j = i + 1) {B : List Pr} {V' : List (Value × Value)} (hJ : Z3 (L[i]'(by omega)) (L[j]'(by omega)) = some B) (hB : B.length ≤ 1) (f2 : Fr None' wr w2) (f3 : Fr (fun k => k = g) w2 w3) (hO : Zk base w3 (.slice (some ⟨g, 0, none⟩) m' cap) (L.take i ++ B) V') :
  SetAt base w w3 (.slice (some ⟨g, 0, none⟩) m' cap) v0 T (L.take i ++ B) V' := by
 have hr := rev2 hl hj
 have hg := own_blk h.blk
 have hs := h.set
 have ht := h.tgt
 rw [hr] at hs ht
 refine ⟨hO, (h.fr.then f2.any).then (f3.mono (fun k e => by rw [hg, e])), h.blk, ?_, ?_, ?_⟩
 ·rw [List.reverse_append]
  simp only [settleT] at ht
  unfold pushR at ht
  rw [hJ] at ht
  cases B with
  | nil =>
   simp only at ht
   rw [← ht]
   exact settle_of hs.tail
  | cons z B =>
   have : B = [] := by
    simp only [List.length_cons] at hB
    exact List.length_eq_zero_iff.1 (by omega)
   subst this
   exact ht
 ·rw [List.reverse_append]
  cases B with
  | nil => exact (hs.tail : Settled (L.take i).reverse).tail'
  | cons z B =>
   have : B = [] := by
    simp only [List.length_cons] at hB
    exact List.length_eq_zero_iff.1 (by omega)
   subst this
   exact hs.tail
 ·intro x hx
  rcases List.mem_append.1 hx with hx | hx
  ·exact h.small x (List.mem_of_mem_take hx)
  ·cases B with
   | nil => cases hx
   | cons z B =>
    have : B = [] := by
     simp only [List.length_cons] at hB
     exact List.length_eq_zero_iff.1 (by omega)
    subst this
    rw [List.mem_singleton.1 hx]
    exact join_small (h.small _ (List.getElem_mem _)) (h.small _ (List.getElem_mem _)) hJ
theorem settled_any {base : Nat} {w : World} {pv : Option Addr} {n cap : Nat} {L : List Pr} {V : List (Value × Value)} (hO : Zk base w (.slice pv n cap) L V) (hl : L.length = n) (hn : n ≤ 90000) (hs : ∀ x ∈ L, SmallP x) (hT : Settled L.reverse.tail) :
  Calls Tryz.prog 34 #[.slice pv n cap] w fun e w' => ∃ v' L' V', e = .returned v' ∧ L'.reverse = settleT L.reverse ∧ SetAt base w w' v' (.slice pv n cap) (settleT L.reverse) L' V' := by
 have HI0 := Zx (show L.length = n ∧ SetAt base w w (.slice pv n cap) (.slice pv n cap) (settleT L.reverse) L V from ⟨hl, hO, Fr.refl _ _, rfl, rfl, hT, hs⟩)
 have i1 : (n : Int) ≤ 90000 := by omega
 have i2 : (0 : Int) ≤ (n : Int) := by omega
 clear hO hl hn hs hT
 generalize settleT L.reverse = T at HI0 ⊢
 go_enter Tryz.func34, Tryz.ntmps34
 go_wp2_with fail
 go_loopw [0, 3] (fun vm vn wr => ∃ (m : Nat) (pm : Option Addr) (cm : Nat) (M : List Pr) (U : List (Value × Value)), m ≤ 90000 ∧ vm = .slice pm m cm ∧ vn = .int .i64 m ∧ Hid (M.length = m ∧ SetAt base w wr (.slice pm m cm) (.slice pv n cap) T M U)) (fun _ vn _ => (intOf vn).toNat)
 case atStart => exact ⟨n, pv, cap, L, V, by omega, rfl, rfl, HI0.out⟩
 case round =>
  clear HI0 i1 i2
  obtain ⟨m, pm, cm, M, U, hm, rfl, rfl, HI⟩ := hrel
  have i1 : (m : Int) ≤ 90000 := by omega
  have i2 : (0 : Int) ≤ (m : Int) := by omega
  by_cases hlt : m < 2
  ·have i3 : (m : Int) < 2 := by omega
   go_wp2_with fail
   go_ret
   refine ⟨_, M, U, rfl, ?_, HI.out.2⟩
   have h1 := HI.out.1
   rw [← HI.out.2.tgt]
   match M, h1 with
   | [], _ => rfl
   | [x], _ => rfl
   | x :: y :: M, h => simp at h; omega
  ·obtain ⟨i, hi⟩ : ∃ i, m = i + 2 := ⟨m - 2, by omega⟩
   obtain ⟨j, hj⟩ : ∃ j, j = i + 1 := ⟨_, rfl⟩
   have hiM : i < M.length := by rw [HI.out.1]; omega
   have hjM : j < M.length := by rw [HI.out.1]; omega
   obtain ⟨g, rfl, hg, hg2⟩ := HI.out.2.own.at0 hiM
   obtain ⟨⟨u1, u2⟩, hu, ⟨c0, c1, c2, c3, c4, c5, c6⟩, ⟨t1, t2⟩, _⟩ := HI.out.2.own.cellsAt hiM
   obtain ⟨⟨y1, y2⟩, hy, ⟨d0, d1, d2, d3, d4, d5, d6⟩, ⟨t3, t4⟩, _⟩ := HI.out.2.own.cellsAt hjM
   have hU := HI.out.2.own.str i _ _ (List.getElem?_eq_getElem hiM) hu
   have hY := HI.out.2.own.str j _ _ (List.getElem?_eq_getElem hjM) hy
   simp only at c5 c6 t1 t2 d5 d6 t3 t4 hU hY
   have s1 := HI.out.2.small _ (List.getElem_mem hiM)
   have s2 := HI.out.2.small _ (List.getElem_mem hjM)
   have HQ1 := Zx (fun w' (f : Fr None' wr w') => joined_any M[i] M[j] _ _ _ _ w' (t1.kept f) (t2.kept f) (t3.kept f) (t4.kept f) s1 s2)
   have HSt := Zx (show ∀ (B : List Pr) (w2 w3 : World) (m' : Nat) (V' : List (Value × Value)), Z3 (M[i]'hiM) (M[j]'hjM) = some B → B.length ≤ 1 → Fr None' wr w2 → Fr (fun k => k = g) w2 w3 → Zk base w3 (.slice (some ⟨g, 0, none⟩) m' cm) (M.take i ++ B) V' → SetAt base w w3 (.slice (some ⟨g, 0, none⟩) m' cm) (.slice pv n cap) T (M.take i ++ B) V' from fun B w2 w3 m' V' hJ hB f2 f3 hO => HI.out.2.step (i := i) (j := j) (by rw [HI.out.1, hi]) hj hJ hB f2 f3 hO)
   have HRp := Zx (fun w2 (f2 : Fr None' wr w2) vv B V' (hB : What w2 (.slice (some ⟨g, 0, none⟩) m cm) vv B V') => replace_any (HI.out.2.own.kept f2) (i := i) hi.symm hm hB)
   have HNo := Zx (show Z3 M[i] M[j] = none → M.reverse = T from fun h => by
    rw [← HI.out.2.tgt, rev2 (by rw [HI.out.1, hi]) hj]
    exact (push_of h).symm)
   have HFa := Zx (And.intro hU hY)
   obtain ⟨pa, ca, rfl⟩ := t1.as2
   obtain ⟨pb, cb, rfl⟩ := t2.as2
   obtain ⟨qa, da, rfl⟩ := t3.as2
   obtain ⟨qb, db, rfl⟩ := t4.as2
   have e1 : (m : Int) - 2 = (i : Int) := by omega
   have e2 : (m : Int) - 1 = (j : Int) := by omega
   have i3 : ¬ (m : Int) < 2 := by omega
   have j1 : IntKind.i64.wrap ((m : Int) - 2) = (i : Int) := by rw [IntKind.wrap_i64]; omega
   have j2 : IntKind.i64.wrap ((m : Int) - 1) = (j : Int) := by rw [IntKind.wrap_i64]; omega
   have j3 : IntKind.i64.wrap (i : Int) = (i : Int) := by rw [IntKind.wrap_i64]; omega
   have j4 : IntKind.i64.wrap (j : Int) = (j : Int) := by rw [IntKind.wrap_i64]; omega
   have i4 : (i : Int) < (m : Int) := by omega
   have i5 : (j : Int) < (m : Int) := by omega
   have i6 : (0 : Int) ≤ (i : Int) := by omega
   have i7 : (0 : Int) ≤ (j : Int) := by omega
   have i8 : (2 : Int) ≤ (m : Int) := by omega
   have HM := Zx (show m = i + 2 ∧ j = i + 1 from ⟨hi, hj⟩)
   clear t1 t2 t3 t4 s1 s2 hU hY hu hy hg hg2 hi hj hm hlt
   generalize M[i] = x at c0 c1 c2 c3 c4 c5 c6 HQ1 HSt HNo HFa
   generalize M[j] = y at d0 d1 d2 d3 d4 d5 d6 HQ1 HSt HNo HFa
   clear hiM hjM
   have HS := Zx (show ∀ w', Fr None' wr w' → Fr None' wr w' ∧ w'.cell? ⟨g, i * 7, none⟩ = some (.int .i64 x.kind) ∧ w'.cell? ⟨g, i * 7 + 1, none⟩ = some (.string x.path) ∧ w'.cell? ⟨g, i * 7 + 2, none⟩ = some (.string x.dst) ∧ w'.cell? ⟨g, i * 7 + 3, none⟩ = some (.string x.src) ∧ w'.cell? ⟨g, i * 7 + 4, none⟩ = some (.int .i64 x.pos) ∧ w'.cell? ⟨g, i * 7 + 5, none⟩ = some (.slice pa x.old.length ca) ∧ w'.cell? ⟨g, i * 7 + 6, none⟩ = some (.slice pb x.new.length cb) ∧ w'.cell? ⟨g, j * 7, none⟩ = some (.int .i64 y.kind) ∧ w'.cell? ⟨g, j * 7 + 1, none⟩ = some (.string y.path) ∧ w'.cell? ⟨g, j * 7 + 2, none⟩ = some (.string y.dst) ∧ w'.cell? ⟨g, j * 7 + 3, none⟩ = some (.string y.src) ∧ w'.cell? ⟨g, j * 7 + 4, none⟩ = some (.int .i64 y.pos) ∧ w'.cell? ⟨g, j * 7 + 5, none⟩ = some (.slice qa y.old.length da) ∧ w'.cell? ⟨g, j * 7 + 6, none⟩ = some (.slice qb y.new.length db) from fun w' f => ⟨f, f.keepCell c0 (fun e => e), f.keepCell c1 (fun e => e), f.keepCell c2 (fun e => e), f.keepCell c3 (fun e => e), f.keepCell c4 (fun e => e), f.keepCell c5 (fun e => e), f.keepCell c6 (fun e => e), f.keepCell d0 (fun e => e), f.keepCell d1 (fun e => e), f.keepCell d2 (fun e => e), f.keepCell d3 (fun e => e), f.keepCell d4 (fun e => e), f.keepCell d5 (fun e => e), f.keepCell d6 (fun e => e)⟩)
   have hS0 := HS.out wr.drew (Fr.drew _ wr)
   clear c0 c1 c2 c3 c4 c5 c6 d0 d1 d2 d3 d4 d5 d6
   have hcases : Z3 x y = none ∨ Z3 x y = some [] ∨ ∃ z, Z3 x y = some [z] := by
    cases hj : Z3 x y with
    | none => exact Or.inl rfl
    | some B =>
     have := join_len hj
     match B, this with
     | [], _ => exact Or.inr (Or.inl rfl)
     | [z], _ => exact Or.inr (Or.inr ⟨z, rfl⟩)
     | _ :: _ :: _, h => simp at h
   rcases hcases with hJ | hJ | ⟨z, hJ⟩
   ·have HE := Zx (HNo.out hJ)
    have HQ2 := Zx (fun w' f => (HQ1.out w' f).mono (fun e w'' h => h.no hJ))
    clear hJ HSt HRp HQ1
    go_wp2_with fail
    go_region_held3 (fun w' => Fr None' wr w' ∧ w'.cell? ⟨g, i * 7, none⟩ = some (.int .i64 x.kind) ∧ w'.cell? ⟨g, i * 7 + 1, none⟩ = some (.string x.path) ∧ w'.cell? ⟨g, i * 7 + 2, none⟩ = some (.string x.dst) ∧ w'.cell? ⟨g, i * 7 + 3, none⟩ = some (.string x.src) ∧ w'.cell? ⟨g, i * 7 + 4, none⟩ = some (.int .i64 x.pos) ∧ w'.cell? ⟨g, i * 7 + 5, none⟩ = some (.slice pa x.old.length ca) ∧ w'.cell? ⟨g, i * 7 + 6, none⟩ = some (.slice pb x.new.length cb) ∧ w'.cell? ⟨g, j * 7, none⟩ = some (.int .i64 y.kind) ∧ w'.cell? ⟨g, j * 7 + 1, none⟩ = some (.string y.path) ∧ w'.cell? ⟨g, j * 7 + 2, none⟩ = some (.string y.dst) ∧ w'.cell? ⟨g, j * 7 + 3, none⟩ = some (.string y.src) ∧ w'.cell? ⟨g, j * 7 + 4, none⟩ = some (.int .i64 y.pos) ∧ w'.cell? ⟨g, j * 7 + 5, none⟩ = some (.slice qa y.old.length da) ∧ w'.cell? ⟨g, j * 7 + 6, none⟩ = some (.slice qb y.new.length db))
     (first | with_reducible exact hS0 | with_reducible exact hS2)
     (first
      | (go_at_call 59; with_reducible (refine (HQ2.out _ (Fr.drew None' _)).mono ?_); rintro e w2 ⟨rfl, f2⟩; have HF2 := Zx (Fr.then7 (Fr.drew None' wr) f2); have hS2 := HS.out w2 (Hid.out HF2); clear f2)
      | fail)
    clear hS0 hS2 HQ2 HS
    go_wp2_with fail
    go_ret
    exact ⟨_, M, U, rfl, HE.out, HI.out.2.own.kept HF2.out, HI.out.2.fr.then HF2.out.any, HI.out.2.blk, HI.out.2.tgt, HI.out.2.set, HI.out.2.small⟩
   ·have HQ2 := Zx (fun w' f => (HQ1.out w' f).mono (fun e w'' h => h.gone hJ))
    have HJ := Zx hJ
    clear hJ HNo HQ1
    go_wp2_with fail
    go_region_held3 (fun w' => Fr None' wr w' ∧ w'.cell? ⟨g, i * 7, none⟩ = some (.int .i64 x.kind) ∧ w'.cell? ⟨g, i * 7 + 1, none⟩ = some (.string x.path) ∧ w'.cell? ⟨g, i * 7 + 2, none⟩ = some (.string x.dst) ∧ w'.cell? ⟨g, i * 7 + 3, none⟩ = some (.string x.src) ∧ w'.cell? ⟨g, i * 7 + 4, none⟩ = some (.int .i64 x.pos) ∧ w'.cell? ⟨g, i * 7 + 5, none⟩ = some (.slice pa x.old.length ca) ∧ w'.cell? ⟨g, i * 7 + 6, none⟩ = some (.slice pb x.new.length cb) ∧ w'.cell? ⟨g, j * 7, none⟩ = some (.int .i64 y.kind) ∧ w'.cell? ⟨g, j * 7 + 1, none⟩ = some (.string y.path) ∧ w'.cell? ⟨g, j * 7 + 2, none⟩ = some (.string y.dst) ∧ w'.cell? ⟨g, j * 7 + 3, none⟩ = some (.string y.src) ∧ w'.cell? ⟨g, j * 7 + 4, none⟩ = some (.int .i64 y.pos) ∧ w'.cell? ⟨g, j * 7 + 5, none⟩ = some (.slice qa y.old.length da) ∧ w'.cell? ⟨g, j * 7 + 6, none⟩ = some (.slice qb y.new.length db))
     (first | with_reducible exact hS0 | with_reducible exact hS2)
     (first
      | (go_at_call 59; with_reducible (refine (HQ2.out _ (Fr.drew None' _)).mono ?_); rintro e w2 ⟨rfl, f2⟩; have HF2 := Zx (Fr.then7 (Fr.drew None' wr) f2); have hS2 := HS.out w2 (Hid.out HF2); clear f2)
      | fail)
    clear hS0 hS2 HQ2 HS
    have q2 := HRp.out w2 HF2.out (.slice none 0 0) [] [] (Or.inl ⟨rfl, rfl, rfl⟩)
    go_wp2_with fail
    with_reducible refine q2.mono ?_
    rintro e w3 ⟨m', rfl, O3, f3⟩
    have hm' : (M.take i ++ []).length = m' := by
     rcases O3.row.2 with ⟨hv, _⟩ | ⟨g', cap', cur, he, _⟩
     ·cases hv
     ·cases he; rfl
    have HI' := Zx (HSt.out [] w2 w3 m' _ HJ.out (by simp) HF2.out f3 O3)
    have HMl := Zx hm'
    clear q2 O3 f3 HSt HRp hm'
    go_wp2_with fail
    exact ⟨⟨m', _, _, _, _, by have h1 := HMl.out; have h2 := HM.out; simp at h1; omega, rfl, rfl, HMl.out, HI'.out⟩, by have h1 := HMl.out; have h2 := HM.out; have h3 := HI.out.1; simp [intOf] at h1 ⊢; omega⟩
   ·have HQ2 := Zx (fun w' f => (HQ1.out w' f).mono (fun e w'' h => h.one hJ))
    have HJ := Zx hJ
    clear hJ HNo HQ1
    go_wp2_with fail
    go_region_held3 (fun w' => Fr None' wr w' ∧ w'.cell? ⟨g, i * 7, none⟩ = some (.int .i64 x.kind) ∧ w'.cell? ⟨g, i * 7 + 1, none⟩ = some (.string x.path) ∧ w'.cell? ⟨g, i * 7 + 2, none⟩ = some (.string x.dst) ∧ w'.cell? ⟨g, i * 7 + 3, none⟩ = some (.string x.src) ∧ w'.cell? ⟨g, i * 7 + 4, none⟩ = some (.int .i64 x.pos) ∧ w'.cell? ⟨g, i * 7 + 5, none⟩ = some (.slice pa x.old.length ca) ∧ w'.cell? ⟨g, i * 7 + 6, none⟩ = some (.slice pb x.new.length cb) ∧ w'.cell? ⟨g, j * 7, none⟩ = some (.int .i64 y.kind) ∧ w'.cell? ⟨g, j * 7 + 1, none⟩ = some (.string y.path) ∧ w'.cell? ⟨g, j * 7 + 2, none⟩ = some (.string y.dst) ∧ w'.cell? ⟨g, j * 7 + 3, none⟩ = some (.string y.src) ∧ w'.cell? ⟨g, j * 7 + 4, none⟩ = some (.int .i64 y.pos) ∧ w'.cell? ⟨g, j * 7 + 5, none⟩ = some (.slice qa y.old.length da) ∧ w'.cell? ⟨g, j * 7 + 6, none⟩ = some (.slice qb y.new.length db))
     (first | with_reducible exact hS0 | with_reducible exact hS2)
     (first
      | (go_at_call 59; with_reducible (refine (HQ2.out _ (Fr.drew None' _)).mono ?_); rintro e w2 ⟨b, rfl, HBz, f2⟩; have HF2 := Zx (Fr.then7 (Fr.drew None' wr) f2); have hS2 := HS.out w2 (Hid.out HF2); clear f2)
      | fail)
    clear hS0 hS2 HQ2 HS
    obtain ⟨vz, hbx, hzo, hzn⟩ := HBz.out
    have hW : What w2 (.slice (some ⟨g, 0, none⟩) m cm) (.slice (some ⟨b, 0, none⟩) 1 1) [z] [(.slice pa x.old.length ca, vz)] := by
     refine Or.inr ⟨b, z, _, _, rfl, rfl, rfl, hbx, ?_, ?_, ?_, ?_⟩
     ·rw [hzo]; exact HFa.out.1.1.kept HF2.out
     ·rcases hzn with ⟨e, e'⟩ | ⟨e, e'⟩
      ·rw [e, e']; exact HFa.out.1.2.1.kept HF2.out
      ·rw [e, e']; exact HFa.out.2.2.1.kept HF2.out
     ·rw [hzo]; exact HFa.out.1.2.2.1
     ·rcases hzn with ⟨e, e'⟩ | ⟨e, e'⟩
      ·rw [e, e']; exact HFa.out.1.2.2.2
      ·rw [e, e']; exact HFa.out.2.2.2.2
    have q2 := HRp.out w2 HF2.out _ [z] _ hW
    clear hbx hzo hzn hW HFa HBz
    go_wp2_with fail
    with_reducible refine q2.mono ?_
    rintro e w3 ⟨m', rfl, O3, f3⟩
    have hm' : (M.take i ++ [z]).length = m' := by
     rcases O3.row.2 with ⟨hv, _⟩ | ⟨g', cap', cur, he, _⟩
     ·cases hv
     ·cases he; rfl
    have HI' := Zx (HSt.out [z] w2 w3 m' _ HJ.out (by simp) HF2.out f3 O3)
    have HMl := Zx hm'
    clear q2 O3 f3 HSt HRp hm'
    go_wp2_with fail
    exact ⟨⟨m', _, _, _, _, by have h1 := HMl.out; have h2 := HM.out; have h3 := HI.out.1; simp at h1; omega, rfl, rfl, HMl.out, HI'.out⟩, by have h1 := HMl.out; have h2 := HM.out; have h3 := HI.out.1; simp [intOf] at h1 ⊢; omega⟩
theorem Zk.addOwn {base b2 : Nat} {w : World} {v v2 : Value} {L B : List Pr} {V U : List (Value × Value)} (h : Zk base w v L V) (k : Zk b2 w v2 B U) (hf : ∀ u ∈ U, ∀ j, (u.1.ownBlock = some j ∨ u.2.ownBlock = some j) → ¬ v.ownBlock = some j) (hbase : base ≤ w.heap.size) (hlen : L.length + B.length ≤ 100000) :
  ∃ v' w', (Builtin.append_ #[22, 22] 22 #[v, v2]).run Tryz.prog w = .ok v' w' ∧ Zk base w' v' (L ++ B) (V ++ U) ∧ Fr (fun k => v.ownBlock = some k) w w' := by
 rcases k.row.2 with ⟨rfl, h0⟩ | ⟨g, cap, cur, rfl, hb, hh, hc, _, hs, ht⟩
 ·have e2 : B = [] := List.length_eq_zero_iff.1 h0
  subst e2
  have e3 : U = [] := List.length_eq_zero_iff.1 k.len
  subst e3
  obtain ⟨i0, hi, _⟩ := info_parts infoP
  exact ⟨v, w, run_append_owned_none (P := Tryz.prog) (w := w) base 22 22 43 i0 7 Tryz.underlying22 hi v L.length (pcells L V) h.row, by simpa using h, Fr.refl _ _⟩
 ·obtain ⟨v', w', r1, r2, r3, _⟩ := h.append (ad := ⟨g, 0, none⟩) (c := cap) (B := B) (U := U) rfl k.len (fun j u hj => by
   rw [Addr.add_lit, Nat.zero_add]
   have hjl := (List.getElem?_eq_some_iff.1 hj).1
   rw [pcells_length B U k.len] at hjl
   rw [← ht, List.getElem?_take, if_pos hjl] at hj
   rw [World.cell?, hh]
   simpa using hj) (fun i x u e1 e2 => by
   obtain ⟨s1, s2, _, _⟩ := k.str i x u e1 e2
   have hu := List.mem_of_getElem? e2
   exact ⟨s1, s2, fun _ j e e' => hf u hu j (Or.inl e) e', fun _ j e e' => hf u hu j (Or.inr e) e'⟩) hlen hbase
  exact ⟨v', w', r1, r2, r3⟩
structure PutAt (w0 w : World) (v : Value) (M : List Pr) (V : List (Value × Value)) : Prop where
 fr : Fr None' w0 w
 own : Zk w0.heap.size w v M V
 set : Settled M.reverse
 small : ∀ x ∈ M, SmallP x
def putF (bp : Nat) : Value := .func (.func 33) #[] #[.pointer (some ⟨bp, 0, none⟩)]
def PutAll (bp : Nat) (w0 : World) (N : Nat) : Prop := ∀ (L : List Pr) (pr : Option Addr) (n cr : Nat) (w : World) (pm : Option Addr) (m cm : Nat) (M : List Pr) (V : List (Value × Value)), L.length = n → n ≤ N → PrsAt w0 pr L → (pr = none → cr = 0) → n ≤ cr → cr ≤ 9223372036854775807 → (∀ x ∈ L, SmallP x) → M.length = m → m + n ≤ 50000 → PutAt w0 w (.slice pm m cm) M V →
 Calls Tryz.prog 33 #[.slice pm m cm, .slice pr n cr, .pointer (some ⟨bp, 0, none⟩)] w fun e w' => ∃ pv nv cv, e = .returned (.slice pv nv cv) ∧ Hid (∃ M' V', M'.length = nv ∧ M'.reverse = coalR M.reverse L ∧ PutAt w0 w' (.slice pv nv cv) M' V')
theorem few_coal {L M : List Pr} (hn : L.length < 2) (hs : Settled M.reverse) : settleT (M ++ L).reverse = coalR M.reverse L ∧ Settled (M ++ L).reverse.tail := by
 match L, hn with
 | [], _ =>
  rw [List.append_nil]
  exact ⟨settle_of hs, hs.tail'⟩
 | [x], _ => simpa [coalR, settleT] using hs
 | x :: y :: L, h => simp at h; omega
theorem put_few {bp : Nat} {w0 : World} (L : List Pr) (pr : Option Addr) (n cr : Nat) (w : World) (pm : Option Addr) (m cm : Nat) (M : List Pr) (V : List (Value × Value)) (hl : L.length = n) (hn : n < 2) (hP : PrsAt w0 pr L) (hc : pr = none → cr = 0) (hs : ∀ x ∈ L, SmallP x) (hm : M.length = m) (hmn : m + n ≤ 50000) (hA : PutAt w0 w (.slice pm m cm) M V) :
  Calls Tryz.prog 33 #[.slice pm m cm, .slice pr n cr, .pointer (some ⟨bp, 0, none⟩)] w fun e w' => ∃ pv nv cv, e = .returned (.slice pv nv cv) ∧ Hid (∃ M' V', M'.length = nv ∧ M'.reverse = coalR M.reverse L ∧ PutAt w0 w' (.slice pv nv cv) M' V') := by
 have i1 : (n : Int) < 2 := by omega
 have i2 : (0 : Int) ≤ (n : Int) := by omega
 have q1 := copiedR_any pr n cr L w hl (hP.kept hA.fr) hc (by omega) (fun x hx => by have h1 := (hs x hx).old; have h2 := (hs x hx).new; omega)
 have HA := Zx hA
 have HX := Zx (show L.length = n ∧ n < 2 ∧ M.length = m ∧ m + n ≤ 50000 ∧ (∀ x ∈ L, SmallP x) from ⟨hl, hn, hm, hmn, hs⟩)
 clear hl hn hP hc hs hm hmn hA
 go_enter Tryz.func33, Tryz.ntmps33
 go_wp2_with fail
 with_reducible refine q1.mono ?_
 rintro e w1 ⟨v2, U, rfl, O2, f1, hU⟩
 obtain ⟨hl, hn, hm, hmn, hs⟩ := HX.out
 obtain ⟨v3, w2, r3, O3, f3⟩ := (HA.out.own.kept f1).addOwn O2 (fun u hu j e e' => by have h1 := hU u hu j e; have h2 := (HA.out.own.ge e').2; omega) (by have := HA.out.fr.size; have := f1.size; omega) (by omega)
 obtain ⟨p2, c2, hv2, _⟩ := O2.slice
 obtain ⟨p3, c3, hv3, _⟩ := O3.slice
 have hn3 : (M ++ L).length = m + n := by simp; omega
 rw [hl] at hv2
 rw [hn3] at hv3
 subst hv2 hv3
 obtain ⟨k1, k2⟩ := few_coal (L := L) (by omega) HA.out.set
 have hs3 : ∀ x ∈ M ++ L, SmallP x := fun x hx => by
  rcases List.mem_append.1 hx with hx | hx
  ·exact HA.out.small x hx
  ·exact hs x hx
 have q2 := settled_any O3 hn3 (by omega) hs3 k2
 rw [k1] at q2
 have HF := Zx (show Fr None' w0 w2 from (HA.out.fr.then7 f1).trans f3 (fun i e => Or.inr (HA.out.own.ge e).1))
 have HG := Zx (fun k (e : (Value.slice p3 (m + n) c3).ownBlock = some k) => (O3.ge e).1)
 have HS := Zx (coal_settled L _ HA.out.set)
 have HR := Zx r3
 clear q1 O2 f1 hU O3 f3 hl hn hm hmn hs k1 k2 hs3 r3 hn3
 go_wp2_with (at_builtin
              refine app_list9 rfl _ _ rfl rfl rfl HR.out ?_)
 with_reducible refine q2.mono ?_
 rintro e w3 ⟨v4, M', V', rfl, hM, hA⟩
 obtain ⟨p4, c4, hv4, _⟩ := hA.own.slice
 obtain ⟨n4, hn4⟩ : ∃ n4, M'.length = n4 := ⟨_, rfl⟩
 rw [hn4] at hv4
 subst hv4
 have HE := Zx (show ∃ M' V', M'.length = n4 ∧ M'.reverse = coalR M.reverse L ∧ PutAt w0 w3 (.slice p4 n4 c4) M' V' from ⟨M', V', hn4, hM, HF.out.trans hA.fr (fun i e => Or.inr (HG.out i e)), hA.own, by rw [hM]; exact HS.out, hA.small⟩)
 clear q2 hM hA hn4
 go_wp2_with fail
 go_ret
 exact ⟨p4, n4, c4, rfl, HE.out⟩
theorem PrsAt.takeP {w : World} {va : Option Addr} {L : List Pr} (h : PrsAt w va L) (i : Nat) : PrsAt w va (L.take i) := fun k x hk => by
 have hk' : k < i := by have := (List.getElem?_eq_some_iff.1 hk).1; simp at this; omega
 rw [List.getElem?_take, if_pos hk'] at hk
 exact h k x hk
theorem PrsAt.dropP {w : World} {g o : Nat} {L : List Pr} (h : PrsAt w (some ⟨g, o, none⟩) L) (i : Nat) : PrsAt w (some ⟨g, o + i * 7, none⟩) (L.drop i) := fun k x hk => by
 rw [List.getElem?_drop] at hk
 obtain ⟨g', o', e, hx⟩ := h (i + k) x hk
 cases e
 exact ⟨g, o + i * 7, rfl, by rw [show o + i * 7 + k * 7 = o + (i + k) * 7 from by omega]; exact hx⟩
theorem put_many {bp : Nat} {w0 : World} (hcell : w0.cell? ⟨bp, 0, none⟩ = some (putF bp)) (N : Nat) (IH : PutAll bp w0 N) (L : List Pr) (pr : Option Addr) (n cr : Nat) (w : World) (pm : Option Addr) (m cm : Nat) (M : List Pr) (V : List (Value × Value)) (hl : L.length = n) (hn : n ≤ N + 1) (h2 : 2 ≤ n) (hP : PrsAt w0 pr L) (hcr : n ≤ cr) (hcm : cr ≤ 9223372036854775807) (hs : ∀ x ∈ L, SmallP x) (hm : M.length = m) (hmn : m + n ≤ 50000) (hA : PutAt w0 w (.slice pm m cm) M V) :
  Calls Tryz.prog 33 #[.slice pm m cm, .slice pr n cr, .pointer (some ⟨bp, 0, none⟩)] w fun e w' => ∃ pv nv cv, e = .returned (.slice pv nv cv) ∧ Hid (∃ M' V', M'.length = nv ∧ M'.reverse = coalR M.reverse L ∧ PutAt w0 w' (.slice pv nv cv) M' V') := by
 obtain ⟨g, o, rfl⟩ : ∃ g o, pr = some ⟨g, o, none⟩ := by
  obtain ⟨g, o, e, _⟩ := hP.get (k := 0) (by omega)
  exact ⟨g, o, e⟩
 obtain ⟨h, hh⟩ : ∃ h, n / 2 = h := ⟨_, rfl⟩
 have HI1 := Zx (fun w' (f : Fr None' w w') => IH (L.take h) (some ⟨g, o, none⟩) h cr w' pm m cm M V (by simp; omega) (by omega) (hP.takeP h) (fun e => by cases e) (by omega) hcm (fun x hx => hs x (List.mem_of_mem_take hx)) hm (by omega) ⟨hA.fr.then7 f, hA.own.kept f, hA.set, hA.small⟩)
 have HI2 := Zx (fun w' pv nv cv (k : ∃ M' V', M'.length = nv ∧ M'.reverse = coalR M.reverse (L.take h) ∧ PutAt w0 w' (.slice pv nv cv) M' V') => (show Calls Tryz.prog 33 #[.slice pv nv cv, .slice (some ⟨g, o + h * 7, none⟩) (n - h) (cr - h), .pointer (some ⟨bp, 0, none⟩)] w' fun e w' => ∃ pv nv cv, e = .returned (.slice pv nv cv) ∧ Hid (∃ M' V', M'.length = nv ∧ M'.reverse = coalR M.reverse L ∧ PutAt w0 w' (.slice pv nv cv) M' V') from by
  obtain ⟨M1, V1, k1, k2, k3⟩ := k
  have hle := coal_length (L.take h) M.reverse
  have hl1 : M1.length ≤ m + h := by
   have := congrArg List.length k2
   simp only [List.length_reverse, List.length_take] at this hle
   omega
  refine (IH (L.drop h) (some ⟨g, o + h * 7, none⟩) (n - h) (cr - h) w' pv nv cv M1 V1 (by simp; omega) (by omega) (hP.dropP h) (fun e => by cases e) (by omega) (by omega) (fun x hx => hs x (List.mem_of_mem_drop hx)) k1 (by omega) k3).mono ?_
  rintro e w'' ⟨pv, nv, cv, rfl, M2, V2, j1, j2, j3⟩
  refine ⟨pv, nv, cv, rfl, M2, V2, j1, ?_, j3⟩
  rw [j2, k2, ← coalR_append, List.take_append_drop]))
 have HC := Zx (fun w' (f : Fr None' w0 w') => f.keepCell hcell (fun e => e))
 unfold putF at HC
 have c0 := HC.out w hA.fr
 have HA := Zx hA.fr
 have i1 : ¬ (n : Int) < 2 := by omega
 have i2 : (0 : Int) ≤ (n : Int) := by omega
 have i3 : (n : Int) ≤ (cr : Int) := by omega
 have i4 : (cr : Int) ≤ 9223372036854775807 := by omega
 have i5 : (h : Int) < (n : Int) := by omega
 have i6 : (0 : Int) ≤ (h : Int) := by omega
 have i7 : ¬ cr = h := by omega
 have i8 : (n : Int) ≤ 50000 := by omega
 have i9 : (h : Int) ≤ (n : Int) := by omega
 have j1 : (h : Int) ≤ (cr : Int) := by omega
 have e1 : Int.tdiv (n : Int) 2 = (h : Int) := by rw [← hh]; rfl
 have hS0 := Zx (And.intro (HA.out.then7 (Fr.drew None' w)) (HC.out w.drew (HA.out.then7 (Fr.drew None' w))))
 clear hcell IH hl hn h2 hP hcr hcm hs hm hmn hA hh
 go_enter Tryz.func33, Tryz.ntmps33
 go_wp2_with fail
 go_region_held3 (fun w' => Fr None' w0 w' ∧ w'.cell? ⟨bp, 0, none⟩ = some (.func (.func 33) #[] #[.pointer (some ⟨bp, 0, none⟩)]))
  (first | with_reducible exact Hid.out hS0 | with_reducible exact Hid.out hS1 | with_reducible exact Hid.out hS2)
  (first
   | (go_at_call 33; with_reducible (refine (HI1.out _ (Fr.drew None' _)).mono ?_); rintro e w1 ⟨pv, nv, cv, rfl, HK⟩; have hS1 := Zx (show Fr None' w0 w1 ∧ _ from by obtain ⟨_, _, _, _, k⟩ := Hid.out HK; exact ⟨PutAt.fr k, HC.out w1 (PutAt.fr k)⟩))
   | (go_at_call 33; with_reducible (refine (HI2.out w1 pv nv cv (Hid.out HK)).mono ?_); rintro e w2 ⟨pu, nu, cu, rfl, HK2⟩; have hS2 := Zx (show Fr None' w0 w2 ∧ _ from by obtain ⟨_, _, _, _, k⟩ := Hid.out HK2; exact ⟨PutAt.fr k, HC.out w2 (PutAt.fr k)⟩))
   | fail)
 clear hS0 hS1 hS2 c0
 go_wp2_with fail
 go_ret
 exact ⟨pu, nu, cu, rfl, HK2.out⟩
theorem put_all {bp : Nat} {w0 : World} (hcell : w0.cell? ⟨bp, 0, none⟩ = some (putF bp)) : ∀ N, PutAll bp w0 N
 | 0 => fun L pr n cr w pm m cm M V hl hn hP hc hcr hcm hs hm hmn hA => put_few L pr n cr w pm m cm M V hl (by omega) hP hc hs hm hmn hA
 | N + 1 => fun L pr n cr w pm m cm M V hl hn hP hc hcr hcm hs hm hmn hA => by
  by_cases h2 : n < 2
  ·exact put_few L pr n cr w pm m cm M V hl h2 hP hc hs hm hmn hA
  ·exact put_many hcell N (put_all hcell N) L pr n cr w pm m cm M V hl hn (by omega) hP hcr hcm hs hm hmn hA
theorem run_store_func11 {P : Program} {w : World} {a : Addr} {m : Mode} (f : Fn) (x y : Array Value) : (store a (.func f x y) m).run P w = stored P w a (.func f x y) m := run_store P w a _ m rfl
attribute [local go_sem] run_store_func11
theorem Zk.weaken {base base' : Nat} {w : World} {v : Value} {L : List Pr} {V : List (Value × Value)} (h : Zk base w v L V) (hb : base' ≤ base) : Zk base' w v L V := by
 refine ⟨h.len, ⟨h.row.1, ?_⟩, h.str⟩
 rcases h.row.2 with h | ⟨g, cap, cur, he, h1, h2⟩
 ·exact Or.inl h
 ·exact Or.inr ⟨g, cap, cur, he, Nat.le_trans hb h1, h2⟩
theorem coalesce_any (va : Option Addr) (n c : Nat) (L : List Pr) (w : World) (hl : L.length = n) (ha : PrsAt w va L) (hc : va = none → c = 0) (hnc : n ≤ c) (hcm : c ≤ 9223372036854775807) (hn : n ≤ 40000) (hs : ∀ x ∈ L, SmallP x) :
  Calls Tryz.prog 15 #[.slice va n c] w fun e w' => ∃ pv nv cv, e = .returned (.slice pv nv cv) ∧ Hid (∃ V, Zk w.heap.size w' (.slice pv nv cv) (coalP L) V ∧ (coalP L).length = nv ∧ Fr None' w w' ∧ ∀ x ∈ coalP L, SmallP x) := by
 obtain ⟨w1, hw1⟩ : ∃ w1, w.alloc (.cells #[.nilFunc] 56) = w1 := ⟨_, rfl⟩
 have hh1 : w1.heap[w.heap.size]? = some (.cells #[.nilFunc] 56 (0, 0)) := hw1 ▸ heap_alloc_new w _
 obtain ⟨w2, hw2⟩ : ∃ w2, w1.setCell ⟨w.heap.size, 0, none⟩ (.func (.func 33) #[] #[.pointer (some ⟨w.heap.size, 0, none⟩)]) = w2 := ⟨_, rfl⟩
 have F2 : Fr None' w w2 := hw2 ▸ (show Fr None' w w1 from hw1 ▸ Fr.alloc None' w _).trans (Fr.setQ w1 w.heap.size 0 _) (fun i e => Or.inr (by omega))
 have hh2 : w2.heap[w.heap.size]? = some (.cells #[.func (.func 33) #[] #[.pointer (some ⟨w.heap.size, 0, none⟩)]] 56 (0, 0)) := by
  have := Go.heap_setCell_same w1 w.heap.size 0 _ _ (.func (.func 33) #[] #[.pointer (some ⟨w.heap.size, 0, none⟩)]) hh1
  rw [hw2] at this
  simpa using this
 have c2 : w2.cell? ⟨w.heap.size, 0, none⟩ = some (.func (.func 33) #[] #[.pointer (some ⟨w.heap.size, 0, none⟩)]) := by rw [World.cell?, hh2]; rfl
 have c1 : w1.cell? ⟨w.heap.size, 0, none⟩ = some .nilFunc := by rw [World.cell?, hh1]; rfl
 have z1 : ∀ o, w1.frozen? ⟨w.heap.size, o, none⟩ = false := fun o => by unfold World.frozen?; rw [hh1]; simp
 have HQ := Zx (fun w' (f : Fr None' w2 w') => put_all (bp := w.heap.size) (w0 := w2) c2 n L va n c w' none 0 0 [] [] hl (Nat.le_refl _) (ha.kept F2) hc hnc hcm hs rfl (by omega) ⟨f, Zk.nil _ _, trivial, fun x hx => by cases hx⟩)
 have HF := Zx F2
 clear hl ha hc hnc hcm hn hs hh1 hh2 F2
 go_enter Tryz.func15, Tryz.ntmps15
 go_wp2_with fail
 with_reducible refine (HQ.out w2 (Fr.refl _ _)).mono ?_
 rintro e w3 ⟨pv, nv, cv, rfl, HK⟩
 clear HQ c2 c1 z1
 go_wp2_with fail
 go_ret
 refine ⟨pv, nv, cv, rfl, ?_⟩
 obtain ⟨M', V', k1, k2, k3⟩ := HK.out
 have e : coalP L = M' := by
  unfold coalP
  rw [show coalR [] L = M'.reverse from k2.symm, List.reverse_reverse]
 rw [e]
 exact ⟨V', k3.own.weaken HF.out.size, k1, HF.out.then7 k3.fr, k3.small⟩
end Go.Proofs.YtbnfjjjdnbcehaaGreatDoor
namespace Go.Proofs.YtbnfjjjdnbcehaaGreatDoor
open Go.RowKit
set_option maxRecDepth 100000
theorem Zk.fr2 {M : Nat → Prop} {base : Nat} {w w' : World} {v : Value} {L : List Pr} {V : List (Value × Value)} (h : Zk base w v L V) (f : Fr M w w') (hv : ∀ k, v.ownBlock = some k → ¬ M k) (hs : ∀ (k : Nat) (x : Pr) (u : Value × Value), L[k]? = some x → V[k]? = some u → (x.old ≠ [] → ∀ j, u.1.ownBlock = some j → ¬ M j) ∧ (x.new ≠ [] → ∀ j, u.2.ownBlock = some j → ¬ M j)) : Zk base w' v L V := by
 refine ⟨h.len, ⟨h.row.1, ?_⟩, fun k x u e1 e2 => ?_⟩
 ·rcases h.row.2 with h | ⟨g, cap, cur, he, hb, hh, h⟩
  ·exact Or.inl h
  ·exact Or.inr ⟨g, cap, cur, he, hb, f.at hh (hv g (by rw [he]; rfl)), h⟩
 ·obtain ⟨h1, h2, h3, h4⟩ := h.str k x u e1 e2
  obtain ⟨g1, g2⟩ := hs k x u e1 e2
  exact ⟨h1.far f g1, h2.far f g2, h3, h4⟩
theorem Zk.made {base : Nat} {w' : World} {g n : Nat} {cur : Array Value} (hb : base ≤ g) (hh : w'.heap[g]? = some (.cells cur 43 (0, 0))) (hs : cur.size = n * 7) (hn : n ≤ 90000) : Zk base w' (.slice (some ⟨g, 0, none⟩) 0 n) [] [] :=
 ⟨rfl, ⟨rfl, Or.inr ⟨g, n, cur, rfl, hb, hh, Nat.zero_le _, by unfold maxLen; omega, hs, rfl⟩⟩, fun k x u e => by simp at e⟩
def PastPost11 (x : Pr) (L : List Pr) (w : World) (e : Ending) (w' : World) : Prop := ∃ va vb V, e = .returned (.tuple #[va, vb, .bool (pastP x L).2.2]) ∧ Zk w.heap.size w' va (pastP x L).1 V ∧ (∀ u ∈ V, ∀ k, (u.1.ownBlock = some k ∨ u.2.ownBlock = some k) → w.heap.size ≤ k) ∧ PrNew w w' vb (pastP x L).2.1 ∧ Fr None' w w'
def CommC (a b : Pr) (r : Bool) (w : World) (e : Ending) (w' : World) : Prop := ∃ (po1 pn1 po2 pn2 : Option Addr) (co1 cn1 co2 cn2 : Nat), e = .returned (.tuple #[.agg #[.int .i64 a.kind, .string a.path, .string a.dst, .string a.src, .int .i64 a.pos, .slice po1 a.old.length co1, .slice pn1 a.new.length cn1], .agg #[.int .i64 b.kind, .string b.path, .string b.dst, .string b.src, .int .i64 b.pos, .slice po2 b.old.length co2, .slice pn2 b.new.length cn2], .bool r]) ∧ Hid ((Zy w' (.slice po1 a.old.length co1) a.old ∧ Zy w' (.slice pn1 a.new.length cn1) a.new) ∧ Zy w' (.slice po2 b.old.length co2) b.old ∧ Zy w' (.slice pn2 b.new.length cn2) b.new) ∧ Fr None' w w'
theorem CommPost.at {x y a b : Pr} {r : Bool} {w w' : World} {e : Ending} (hc : commP x y = (a, b, r)) (h : CommPost x y w e w') : CommC a b r w e w' := by
 obtain ⟨va, vb, he, ⟨vo1, vn1, rfl, s1, s2, _, _⟩, ⟨vo2, vn2, rfl, s3, s4, _, _⟩, f⟩ := h
 rw [hc] at he s1 s2 s3 s4
 simp only at he s1 s2 s3 s4
 obtain ⟨po1, co1, rfl⟩ := s1.as2
 obtain ⟨pn1, cn1, rfl⟩ := s2.as2
 obtain ⟨po2, co2, rfl⟩ := s3.as2
 obtain ⟨pn2, cn2, rfl⟩ := s4.as2
 exact ⟨po1, pn1, po2, pn2, co1, cn1, co2, cn2, he, ⟨⟨s1, s2⟩, s3, s4⟩, f⟩
def hdP : Pr := ⟨7, ⟨#[97]⟩, ⟨#[]⟩, ⟨#[]⟩, 0, [⟨#[120]⟩], [⟨#[121]⟩, ⟨#[122]⟩]⟩
def hdQ : Pr := ⟨7, ⟨#[97]⟩, ⟨#[]⟩, ⟨#[]⟩, 5, [⟨#[119]⟩], []⟩
def hdM : Pr := ⟨10, ⟨#[109]⟩, ⟨#[110]⟩, ⟨#[]⟩, 0, [], []⟩
def hdB : Pr := ⟨9, ⟨#[110, 47, 120]⟩, ⟨#[49]⟩, ⟨#[]⟩, 0, [], []⟩
theorem hd1 : commP hdP hdQ = (⟨7, ⟨#[97]⟩, ⟨#[]⟩, ⟨#[]⟩, 4, [⟨#[119]⟩], []⟩, hdP, true) := by kernel_rfl
theorem hd2 : commP hdM hdB = (⟨9, ⟨#[109, 47, 120]⟩, ⟨#[49]⟩, ⟨#[]⟩, 0, [], []⟩, hdM, true) := by kernel_rfl
end Go.Proofs.YtbnfjjjdnbcehaaGreatDoor
