/- What is proved here: contracts that SeqTells stands on. Conditions: as each theorem names them. -/
import Derived.Test.YtbnfjjjdnbcehaaGreatDoorMRepl11
import Derived.Test.YtbnfjjjdnbcehaaGreatDoorM28CommD10
import Derived.Test.YtbnfjjjdnbcehaaGreatDoorM14Plain10
import Derived.Test.YtbnfjjjdnbcehaaGreatDoorMRAll9
import Derived.Test.YtbnfjjjdnbcehaaGreatDoorM1Base
import Derived.Test.YtbnfjjjdnbcehaaGreatDoorM6Strs9
import Derived.Test.YtbnfjjjdnbcehaaGreatDoorM10Clone11
import Derived.Shelf.Abstract
import Derived.Shelf.RegionOpen
import Derived.WalkKit
import Derived.OwnWalkIn
import Derived.TacticsInMore
import Derived.LoopNIn
import Derived.LoopIn
import Derived.Test.YtbnfjjjdnbcehaaGreatDoorM8RInv9
set_option maxHeartbeats 16000000
namespace Go.Proofs.YtbnfjjjdnbcehaaGreatDoor
open Go.RowKit
set_option maxRecDepth 100000
def settleT : List Pr → List Pr
 | [] => []
 | x :: st => pushR st x
theorem settle_of {st : List Pr} (h : Ya st) : settleT st = st := by
 cases st with
 | nil => rfl
 | cons x st =>
  cases st with
  | nil => rfl
  | cons y st => exact push_of h.1
theorem Ya.tail' {st : List Pr} (h : Ya st) : Ya st.tail := by
 cases st with
 | nil => trivial
 | cons x st => exact h.tail
theorem join_small {x y z : Pr} (hx : Zs x) (hy : Zs y) (h : Z0 x y = some [z]) : Zs z := by
 unfold Z0 at h
 repeat' split at h
 all_goals first | cases h; done | (cases h; exact ⟨hx.1, by first | exact hx.2 | exact hy.2, hx.3, hx.4, by first | exact hx.5 | exact hy.5⟩)
structure SetAt (base : Nat) (w wr : World) (v v0 : Value) (T : List Pr) (L : List Pr) (V : List (Value × Value)) : Prop where
 own : Zh base wr v L V
 fr : Fr (fun k => v0.ownBlock = some k) w wr
 blk : v.ownBlock = v0.ownBlock
 tgt : settleT L.reverse = T
 set : Ya L.reverse.tail
 small : ∀ x ∈ L, Zs x
theorem JoinPost.no {x y : Pr} {vo vn un : Value} {w w' : World} {e : Ending} (h : JoinPost x y vo vn un w e w') (hj : Z0 x y = none) : e = .returned (.tuple #[.slice none 0 0, .bool false]) ∧ Fr None' w w' := by
 obtain ⟨f, ⟨_, rfl⟩ | ⟨h, _⟩ | ⟨_, _, _, h, _⟩⟩ := h
 ·exact ⟨rfl, f⟩
 ·rw [hj] at h; cases h
 ·rw [hj] at h; cases h
theorem JoinPost.gone {x y : Pr} {vo vn un : Value} {w w' : World} {e : Ending} (h : JoinPost x y vo vn un w e w') (hj : Z0 x y = some []) : e = .returned (.tuple #[.slice none 0 0, .bool true]) ∧ Fr None' w w' := by
 obtain ⟨f, ⟨h, _⟩ | ⟨_, rfl⟩ | ⟨_, _, _, h, _⟩⟩ := h
 ·rw [hj] at h; cases h
 ·exact ⟨rfl, f⟩
 ·rw [hj] at h; cases h
theorem JoinPost.one {x y z : Pr} {vo vn un : Value} {w w' : World} {e : Ending} (h : JoinPost x y vo vn un w e w') (hj : Z0 x y = some [z]) : ∃ g, e = .returned (.tuple #[.slice (some ⟨g, 0, none⟩) 1 1, .bool true]) ∧ Hid (∃ vz, Box w' g (.int .i64 z.kind) (.string z.path) (.string z.dst) (.string z.src) (.int .i64 z.pos) (vo) (vz) ∧ z.old = x.old ∧ ((vz = vn ∧ z.new = x.new) ∨ (vz = un ∧ z.new = y.new))) ∧ Fr None' w w' := by
 obtain ⟨f, ⟨h, _⟩ | ⟨h, _⟩ | ⟨z', g, vz, h, rfl, h1, h2, h3, _⟩⟩ := h
 ·rw [hj] at h; cases h
 ·rw [hj] at h; cases h
 ·rw [hj] at h
  cases h
  exact ⟨g, rfl, ⟨vz, h1, h2, h3⟩, f⟩
theorem rev2 {L : List Pr} {i j : Nat} (h : L.length = i + 2) (hj : j = i + 1) : L.reverse = L[j]'(by omega) :: L[i]'(by omega) :: (L.take i).reverse := by
 subst hj
 have e : L = L.take i ++ [L[i]'(by omega)] ++ [L[i + 1]'(by omega)] := by
  rw [← List.take_succ_eq_append_getElem (by omega), ← List.take_succ_eq_append_getElem (by omega), List.take_of_length_le (by omega)]
 conv => lhs; rw [e]
 simp
theorem own_blk {g n cap : Nat} {v0 : Value} (h : (Value.slice (some ⟨g, 0, none⟩) n cap).ownBlock = v0.ownBlock) : v0.ownBlock = some g := h.symm
theorem SetAt.step {base : Nat} {w wr w2 w3 : World} {g m cap i j m' : Nat} {v0 : Value} {T L : List Pr} {V : List (Value × Value)} (h : SetAt base w wr (.slice (some ⟨g, 0, none⟩) m cap) v0 T L V) (hl : L.length = i + 2) (hj : j = i + 1) {B : List Pr} {V' : List (Value × Value)} (hJ : Z0 (L[i]'(by omega)) (L[j]'(by omega)) = some B) (hB : B.length ≤ 1) (f2 : Fr None' wr w2) (f3 : Fr (fun k => k = g) w2 w3) (hO : Zh base w3 (.slice (some ⟨g, 0, none⟩) m' cap) (L.take i ++ B) V') :
  SetAt base w w3 (.slice (some ⟨g, 0, none⟩) m' cap) v0 T (L.take i ++ B) V' := by
 have hr := rev2 hl hj
 have hg := own_blk h.blk
 have hs := h.set
 have ht := h.tgt
 rw [hr] at hs ht
 refine ⟨hO, (h.fr.then f2.any).then (f3.mono (fun k e => by rw [hg, e])), h.blk, ?_, ?_, ?_⟩
 ·rw [List.reverse_append]
  simp only [settleT] at ht
  unfold pushR at ht
  rw [hJ] at ht
  cases B with
  | nil =>
   simp only at ht
   rw [← ht]
   exact settle_of hs.tail
  | cons z B =>
   have : B = [] := by
    simp only [List.length_cons] at hB
    exact List.length_eq_zero_iff.1 (by omega)
   subst this
   exact ht
 ·rw [List.reverse_append]
  cases B with
  | nil => exact (hs.tail : Ya (L.take i).reverse).tail'
  | cons z B =>
   have : B = [] := by
    simp only [List.length_cons] at hB
    exact List.length_eq_zero_iff.1 (by omega)
   subst this
   exact hs.tail
 ·intro x hx
  rcases List.mem_append.1 hx with hx | hx
  ·exact h.small x (List.mem_of_mem_take hx)
  ·cases B with
   | nil => cases hx
   | cons z B =>
    have : B = [] := by
     simp only [List.length_cons] at hB
     exact List.length_eq_zero_iff.1 (by omega)
    subst this
    rw [List.mem_singleton.1 hx]
    exact join_small (h.small _ (List.getElem_mem _)) (h.small _ (List.getElem_mem _)) hJ
theorem settled_any {base : Nat} {w : World} {pv : Option Addr} {n cap : Nat} {L : List Pr} {V : List (Value × Value)} (hO : Zh base w (.slice pv n cap) L V) (hl : L.length = n) (hn : n ≤ 90000) (hs : ∀ x ∈ L, Zs x) (hT : Ya L.reverse.tail) :
  Calls Tryz.prog 34 #[.slice pv n cap] w fun e w' => ∃ v' L' V', e = .returned v' ∧ L'.reverse = settleT L.reverse ∧ SetAt base w w' v' (.slice pv n cap) (settleT L.reverse) L' V' := by
 have HI0 := Zy (show L.length = n ∧ SetAt base w w (.slice pv n cap) (.slice pv n cap) (settleT L.reverse) L V from ⟨hl, hO, Fr.refl _ _, rfl, rfl, hT, hs⟩)
 have i1 : (n : Int) ≤ 90000 := by omega
 have i2 : (0 : Int) ≤ (n : Int) := by omega
 clear hO hl hn hs hT
 generalize settleT L.reverse = T at HI0 ⊢
 go_enter Tryz.func34, Tryz.ntmps34
 go_wp2_with fail
 go_loopw [0, 3] (fun vm vn wr => ∃ (m : Nat) (pm : Option Addr) (cm : Nat) (M : List Pr) (U : List (Value × Value)), m ≤ 90000 ∧ vm = .slice pm m cm ∧ vn = .int .i64 m ∧ Hid (M.length = m ∧ SetAt base w wr (.slice pm m cm) (.slice pv n cap) T M U)) (fun _ vn _ => (intOf vn).toNat)
 case atStart => exact ⟨n, pv, cap, L, V, by omega, rfl, rfl, HI0.out⟩
 case round =>
  clear HI0 i1 i2
  obtain ⟨m, pm, cm, M, U, hm, rfl, rfl, HI⟩ := hrel
  have i1 : (m : Int) ≤ 90000 := by omega
  have i2 : (0 : Int) ≤ (m : Int) := by omega
  by_cases hlt : m < 2
  ·have i3 : (m : Int) < 2 := by omega
   go_wp2_with fail
   go_ret
   refine ⟨_, M, U, rfl, ?_, HI.out.2⟩
   have h1 := HI.out.1
   rw [← HI.out.2.tgt]
   match M, h1 with
   | [], _ => rfl
   | [x], _ => rfl
   | x :: y :: M, h => simp at h; omega
  ·obtain ⟨i, hi⟩ : ∃ i, m = i + 2 := ⟨m - 2, by omega⟩
   obtain ⟨j, hj⟩ : ∃ j, j = i + 1 := ⟨_, rfl⟩
   have hiM : i < M.length := by rw [HI.out.1]; omega
   have hjM : j < M.length := by rw [HI.out.1]; omega
   obtain ⟨g, rfl, hg, hg2⟩ := HI.out.2.own.at0 hiM
   obtain ⟨⟨u1, u2⟩, hu, ⟨c0, c1, c2, c3, c4, c5, c6⟩, ⟨t1, t2⟩, _⟩ := HI.out.2.own.cellsAt hiM
   obtain ⟨⟨y1, y2⟩, hy, ⟨d0, d1, d2, d3, d4, d5, d6⟩, ⟨t3, t4⟩, _⟩ := HI.out.2.own.cellsAt hjM
   have hU := HI.out.2.own.str i _ _ (List.getElem?_eq_getElem hiM) hu
   have hY := HI.out.2.own.str j _ _ (List.getElem?_eq_getElem hjM) hy
   simp only at c5 c6 t1 t2 d5 d6 t3 t4 hU hY
   have s1 := HI.out.2.small _ (List.getElem_mem hiM)
   have s2 := HI.out.2.small _ (List.getElem_mem hjM)
   have HQ1 := Zy (fun w' (f : Fr None' wr w') => joined_any M[i] M[j] _ _ _ _ w' (t1.kept f) (t2.kept f) (t3.kept f) (t4.kept f) s1 s2)
   have HSt := Zy (show ∀ (B : List Pr) (w2 w3 : World) (m' : Nat) (V' : List (Value × Value)), Z0 (M[i]'hiM) (M[j]'hjM) = some B → B.length ≤ 1 → Fr None' wr w2 → Fr (fun k => k = g) w2 w3 → Zh base w3 (.slice (some ⟨g, 0, none⟩) m' cm) (M.take i ++ B) V' → SetAt base w w3 (.slice (some ⟨g, 0, none⟩) m' cm) (.slice pv n cap) T (M.take i ++ B) V' from fun B w2 w3 m' V' hJ hB f2 f3 hO => HI.out.2.step (i := i) (j := j) (by rw [HI.out.1, hi]) hj hJ hB f2 f3 hO)
   have HRp := Zy (fun w2 (f2 : Fr None' wr w2) vv B V' (hB : What w2 (.slice (some ⟨g, 0, none⟩) m cm) vv B V') => replace_any (HI.out.2.own.kept f2) (i := i) hi.symm hm hB)
   have HNo := Zy (show Z0 M[i] M[j] = none → M.reverse = T from fun h => by
    rw [← HI.out.2.tgt, rev2 (by rw [HI.out.1, hi]) hj]
    exact (push_of h).symm)
   have HFa := Zy (And.intro hU hY)
   obtain ⟨pa, ca, rfl⟩ := t1.as2
   obtain ⟨pb, cb, rfl⟩ := t2.as2
   obtain ⟨qa, da, rfl⟩ := t3.as2
   obtain ⟨qb, db, rfl⟩ := t4.as2
   have e1 : (m : Int) - 2 = (i : Int) := by omega
   have e2 : (m : Int) - 1 = (j : Int) := by omega
   have i3 : ¬ (m : Int) < 2 := by omega
   have j1 : IntKind.i64.wrap ((m : Int) - 2) = (i : Int) := by rw [IntKind.wrap_i64]; omega
   have j2 : IntKind.i64.wrap ((m : Int) - 1) = (j : Int) := by rw [IntKind.wrap_i64]; omega
   have j3 : IntKind.i64.wrap (i : Int) = (i : Int) := by rw [IntKind.wrap_i64]; omega
   have j4 : IntKind.i64.wrap (j : Int) = (j : Int) := by rw [IntKind.wrap_i64]; omega
   have i4 : (i : Int) < (m : Int) := by omega
   have i5 : (j : Int) < (m : Int) := by omega
   have i6 : (0 : Int) ≤ (i : Int) := by omega
   have i7 : (0 : Int) ≤ (j : Int) := by omega
   have i8 : (2 : Int) ≤ (m : Int) := by omega
   have HM := Zy (show m = i + 2 ∧ j = i + 1 from ⟨hi, hj⟩)
   clear t1 t2 t3 t4 s1 s2 hU hY hu hy hg hg2 hi hj hm hlt
   generalize M[i] = x at c0 c1 c2 c3 c4 c5 c6 HQ1 HSt HNo HFa
   generalize M[j] = y at d0 d1 d2 d3 d4 d5 d6 HQ1 HSt HNo HFa
   clear hiM hjM
   have HS := Zy (show ∀ w', Fr None' wr w' → Fr None' wr w' ∧ w'.cell? ⟨g, i * 7, none⟩ = some (.int .i64 x.kind) ∧ w'.cell? ⟨g, i * 7 + 1, none⟩ = some (.string x.path) ∧ w'.cell? ⟨g, i * 7 + 2, none⟩ = some (.string x.dst) ∧ w'.cell? ⟨g, i * 7 + 3, none⟩ = some (.string x.src) ∧ w'.cell? ⟨g, i * 7 + 4, none⟩ = some (.int .i64 x.pos) ∧ w'.cell? ⟨g, i * 7 + 5, none⟩ = some (.slice pa x.old.length ca) ∧ w'.cell? ⟨g, i * 7 + 6, none⟩ = some (.slice pb x.new.length cb) ∧ w'.cell? ⟨g, j * 7, none⟩ = some (.int .i64 y.kind) ∧ w'.cell? ⟨g, j * 7 + 1, none⟩ = some (.string y.path) ∧ w'.cell? ⟨g, j * 7 + 2, none⟩ = some (.string y.dst) ∧ w'.cell? ⟨g, j * 7 + 3, none⟩ = some (.string y.src) ∧ w'.cell? ⟨g, j * 7 + 4, none⟩ = some (.int .i64 y.pos) ∧ w'.cell? ⟨g, j * 7 + 5, none⟩ = some (.slice qa y.old.length da) ∧ w'.cell? ⟨g, j * 7 + 6, none⟩ = some (.slice qb y.new.length db) from fun w' f => ⟨f, f.keepCell c0 (fun e => e), f.keepCell c1 (fun e => e), f.keepCell c2 (fun e => e), f.keepCell c3 (fun e => e), f.keepCell c4 (fun e => e), f.keepCell c5 (fun e => e), f.keepCell c6 (fun e => e), f.keepCell d0 (fun e => e), f.keepCell d1 (fun e => e), f.keepCell d2 (fun e => e), f.keepCell d3 (fun e => e), f.keepCell d4 (fun e => e), f.keepCell d5 (fun e => e), f.keepCell d6 (fun e => e)⟩)
   have hS0 := HS.out wr.drew (Fr.drew _ wr)
   clear c0 c1 c2 c3 c4 c5 c6 d0 d1 d2 d3 d4 d5 d6
   have hcases : Z0 x y = none ∨ Z0 x y = some [] ∨ ∃ z, Z0 x y = some [z] := by
    cases hj : Z0 x y with
    | none => exact Or.inl rfl
    | some B =>
     have := join_len hj
     match B, this with
     | [], _ => exact Or.inr (Or.inl rfl)
     | [z], _ => exact Or.inr (Or.inr ⟨z, rfl⟩)
     | _ :: _ :: _, h => simp at h
   rcases hcases with hJ | hJ | ⟨z, hJ⟩
   ·have HE := Zy (HNo.out hJ)
    have HQ2 := Zy (fun w' f => (HQ1.out w' f).mono (fun e w'' h => h.no hJ))
    clear hJ HSt HRp HQ1
    go_wp2_with fail
    go_region_held3 (fun w' => Fr None' wr w' ∧ w'.cell? ⟨g, i * 7, none⟩ = some (.int .i64 x.kind) ∧ w'.cell? ⟨g, i * 7 + 1, none⟩ = some (.string x.path) ∧ w'.cell? ⟨g, i * 7 + 2, none⟩ = some (.string x.dst) ∧ w'.cell? ⟨g, i * 7 + 3, none⟩ = some (.string x.src) ∧ w'.cell? ⟨g, i * 7 + 4, none⟩ = some (.int .i64 x.pos) ∧ w'.cell? ⟨g, i * 7 + 5, none⟩ = some (.slice pa x.old.length ca) ∧ w'.cell? ⟨g, i * 7 + 6, none⟩ = some (.slice pb x.new.length cb) ∧ w'.cell? ⟨g, j * 7, none⟩ = some (.int .i64 y.kind) ∧ w'.cell? ⟨g, j * 7 + 1, none⟩ = some (.string y.path) ∧ w'.cell? ⟨g, j * 7 + 2, none⟩ = some (.string y.dst) ∧ w'.cell? ⟨g, j * 7 + 3, none⟩ = some (.string y.src) ∧ w'.cell? ⟨g, j * 7 + 4, none⟩ = some (.int .i64 y.pos) ∧ w'.cell? ⟨g, j * 7 + 5, none⟩ = some (.slice qa y.old.length da) ∧ w'.cell? ⟨g, j * 7 + 6, none⟩ = some (.slice qb y.new.length db))
     (first | with_reducible exact hS0 | with_reducible exact hS2)
     (first
      | (go_at_call 59; with_reducible (refine (HQ2.out _ (Fr.drew None' _)).mono ?_); rintro e w2 ⟨rfl, f2⟩; have HF2 := Zy (Fr.then7 (Fr.drew None' wr) f2); have hS2 := HS.out w2 (Hid.out HF2); clear f2)
      | fail)
    clear hS0 hS2 HQ2 HS
    go_wp2_with fail
    go_ret
    exact ⟨_, M, U, rfl, HE.out, HI.out.2.own.kept HF2.out, HI.out.2.fr.then HF2.out.any, HI.out.2.blk, HI.out.2.tgt, HI.out.2.set, HI.out.2.small⟩
   ·have HQ2 := Zy (fun w' f => (HQ1.out w' f).mono (fun e w'' h => h.gone hJ))
    have HJ := Zy hJ
    clear hJ HNo HQ1
    go_wp2_with fail
    go_region_held3 (fun w' => Fr None' wr w' ∧ w'.cell? ⟨g, i * 7, none⟩ = some (.int .i64 x.kind) ∧ w'.cell? ⟨g, i * 7 + 1, none⟩ = some (.string x.path) ∧ w'.cell? ⟨g, i * 7 + 2, none⟩ = some (.string x.dst) ∧ w'.cell? ⟨g, i * 7 + 3, none⟩ = some (.string x.src) ∧ w'.cell? ⟨g, i * 7 + 4, none⟩ = some (.int .i64 x.pos) ∧ w'.cell? ⟨g, i * 7 + 5, none⟩ = some (.slice pa x.old.length ca) ∧ w'.cell? ⟨g, i * 7 + 6, none⟩ = some (.slice pb x.new.length cb) ∧ w'.cell? ⟨g, j * 7, none⟩ = some (.int .i64 y.kind) ∧ w'.cell? ⟨g, j * 7 + 1, none⟩ = some (.string y.path) ∧ w'.cell? ⟨g, j * 7 + 2, none⟩ = some (.string y.dst) ∧ w'.cell? ⟨g, j * 7 + 3, none⟩ = some (.string y.src) ∧ w'.cell? ⟨g, j * 7 + 4, none⟩ = some (.int .i64 y.pos) ∧ w'.cell? ⟨g, j * 7 + 5, none⟩ = some (.slice qa y.old.length da) ∧ w'.cell? ⟨g, j * 7 + 6, none⟩ = some (.slice qb y.new.length db))
     (first | with_reducible exact hS0 | with_reducible exact hS2)
     (first
      | (go_at_call 59; with_reducible (refine (HQ2.out _ (Fr.drew None' _)).mono ?_); rintro e w2 ⟨rfl, f2⟩; have HF2 := Zy (Fr.then7 (Fr.drew None' wr) f2); have hS2 := HS.out w2 (Hid.out HF2); clear f2)
      | fail)
    clear hS0 hS2 HQ2 HS
    have q2 := HRp.out w2 HF2.out (.slice none 0 0) [] [] (Or.inl ⟨rfl, rfl, rfl⟩)
    go_wp2_with fail
    with_reducible refine q2.mono ?_
    rintro e w3 ⟨m', rfl, O3, f3⟩
    have hm' : (M.take i ++ []).length = m' := by
     rcases O3.row.2 with ⟨hv, _⟩ | ⟨g', cap', cur, he, _⟩
     ·cases hv
     ·cases he; rfl
    have HI' := Zy (HSt.out [] w2 w3 m' _ HJ.out (by simp) HF2.out f3 O3)
    have HMl := Zy hm'
    clear q2 O3 f3 HSt HRp hm'
    go_wp2_with fail
    exact ⟨⟨m', _, _, _, _, by have h1 := HMl.out; have h2 := HM.out; simp at h1; omega, rfl, rfl, HMl.out, HI'.out⟩, by have h1 := HMl.out; have h2 := HM.out; have h3 := HI.out.1; simp [intOf] at h1 ⊢; omega⟩
   ·have HQ2 := Zy (fun w' f => (HQ1.out w' f).mono (fun e w'' h => h.one hJ))
    have HJ := Zy hJ
    clear hJ HNo HQ1
    go_wp2_with fail
    go_region_held3 (fun w' => Fr None' wr w' ∧ w'.cell? ⟨g, i * 7, none⟩ = some (.int .i64 x.kind) ∧ w'.cell? ⟨g, i * 7 + 1, none⟩ = some (.string x.path) ∧ w'.cell? ⟨g, i * 7 + 2, none⟩ = some (.string x.dst) ∧ w'.cell? ⟨g, i * 7 + 3, none⟩ = some (.string x.src) ∧ w'.cell? ⟨g, i * 7 + 4, none⟩ = some (.int .i64 x.pos) ∧ w'.cell? ⟨g, i * 7 + 5, none⟩ = some (.slice pa x.old.length ca) ∧ w'.cell? ⟨g, i * 7 + 6, none⟩ = some (.slice pb x.new.length cb) ∧ w'.cell? ⟨g, j * 7, none⟩ = some (.int .i64 y.kind) ∧ w'.cell? ⟨g, j * 7 + 1, none⟩ = some (.string y.path) ∧ w'.cell? ⟨g, j * 7 + 2, none⟩ = some (.string y.dst) ∧ w'.cell? ⟨g, j * 7 + 3, none⟩ = some (.string y.src) ∧ w'.cell? ⟨g, j * 7 + 4, none⟩ = some (.int .i64 y.pos) ∧ w'.cell? ⟨g, j * 7 + 5, none⟩ = some (.slice qa y.old.length da) ∧ w'.cell? ⟨g, j * 7 + 6, none⟩ = some (.slice qb y.new.length db))
     (first | with_reducible exact hS0 | with_reducible exact hS2)
     (first
      | (go_at_call 59; with_reducible (refine (HQ2.out _ (Fr.drew None' _)).mono ?_); rintro e w2 ⟨b, rfl, HBz, f2⟩; have HF2 := Zy (Fr.then7 (Fr.drew None' wr) f2); have hS2 := HS.out w2 (Hid.out HF2); clear f2)
      | fail)
    clear hS0 hS2 HQ2 HS
    obtain ⟨vz, hbx, hzo, hzn⟩ := HBz.out
    have hW : What w2 (.slice (some ⟨g, 0, none⟩) m cm) (.slice (some ⟨b, 0, none⟩) 1 1) [z] [(.slice pa x.old.length ca, vz)] := by
     refine Or.inr ⟨b, z, _, _, rfl, rfl, rfl, hbx, ?_, ?_, ?_, ?_⟩
     ·rw [hzo]; exact HFa.out.1.1.kept HF2.out
     ·rcases hzn with ⟨e, e'⟩ | ⟨e, e'⟩
      ·rw [e, e']; exact HFa.out.1.2.1.kept HF2.out
      ·rw [e, e']; exact HFa.out.2.2.1.kept HF2.out
     ·rw [hzo]; exact HFa.out.1.2.2.1
     ·rcases hzn with ⟨e, e'⟩ | ⟨e, e'⟩
      ·rw [e, e']; exact HFa.out.1.2.2.2
      ·rw [e, e']; exact HFa.out.2.2.2.2
    have q2 := HRp.out w2 HF2.out _ [z] _ hW
    clear hbx hzo hzn hW HFa HBz
    go_wp2_with fail
    with_reducible refine q2.mono ?_
    rintro e w3 ⟨m', rfl, O3, f3⟩
    have hm' : (M.take i ++ [z]).length = m' := by
     rcases O3.row.2 with ⟨hv, _⟩ | ⟨g', cap', cur, he, _⟩
     ·cases hv
     ·cases he; rfl
    have HI' := Zy (HSt.out [z] w2 w3 m' _ HJ.out (by simp) HF2.out f3 O3)
    have HMl := Zy hm'
    clear q2 O3 f3 HSt HRp hm'
    go_wp2_with fail
    exact ⟨⟨m', _, _, _, _, by have h1 := HMl.out; have h2 := HM.out; have h3 := HI.out.1; simp at h1; omega, rfl, rfl, HMl.out, HI'.out⟩, by have h1 := HMl.out; have h2 := HM.out; have h3 := HI.out.1; simp [intOf] at h1 ⊢; omega⟩
end Go.Proofs.YtbnfjjjdnbcehaaGreatDoor
namespace Go.Proofs.YtbnfjjjdnbcehaaGreatDoor
open Go.RowKit
set_option maxRecDepth 100000
theorem Zh.addOwn {base b2 : Nat} {w : World} {v v2 : Value} {L B : List Pr} {V U : List (Value × Value)} (h : Zh base w v L V) (k : Zh b2 w v2 B U) (hf : ∀ u ∈ U, ∀ j, (u.1.ownBlock = some j ∨ u.2.ownBlock = some j) → ¬ v.ownBlock = some j) (hbase : base ≤ w.heap.size) (hlen : L.length + B.length ≤ 100000) :
  ∃ v' w', (Builtin.append_ #[22, 22] 22 #[v, v2]).run Tryz.prog w = .ok v' w' ∧ Zh base w' v' (L ++ B) (V ++ U) ∧ Fr (fun k => v.ownBlock = some k) w w' := by
 rcases k.row.2 with ⟨rfl, h0⟩ | ⟨g, cap, cur, rfl, hb, hh, hc, _, hs, ht⟩
 ·have e2 : B = [] := List.length_eq_zero_iff.1 h0
  subst e2
  have e3 : U = [] := List.length_eq_zero_iff.1 k.len
  subst e3
  obtain ⟨i0, hi, _⟩ := info_parts infoP
  exact ⟨v, w, run_append_owned_none (P := Tryz.prog) (w := w) base 22 22 43 i0 7 Tryz.underlying22 hi v L.length (pcells L V) h.row, by simpa using h, Fr.refl _ _⟩
 ·obtain ⟨v', w', r1, r2, r3, _⟩ := h.append (ad := ⟨g, 0, none⟩) (c := cap) (B := B) (U := U) rfl k.len (fun j u hj => by
   rw [Addr.add_lit, Nat.zero_add]
   have hjl := (List.getElem?_eq_some_iff.1 hj).1
   rw [Yc B U k.len] at hjl
   rw [← ht, List.getElem?_take, if_pos hjl] at hj
   rw [World.cell?, hh]
   simpa using hj) (fun i x u e1 e2 => by
   obtain ⟨s1, s2, _, _⟩ := k.str i x u e1 e2
   have hu := List.mem_of_getElem? e2
   exact ⟨s1, s2, fun _ j e e' => hf u hu j (Or.inl e) e', fun _ j e e' => hf u hu j (Or.inr e) e'⟩) hlen hbase
  exact ⟨v', w', r1, r2, r3⟩
structure PutAt (w0 w : World) (v : Value) (M : List Pr) (V : List (Value × Value)) : Prop where
 fr : Fr None' w0 w
 own : Zh w0.heap.size w v M V
 set : Ya M.reverse
 small : ∀ x ∈ M, Zs x
def putF (bp : Nat) : Value := .func (.func 33) #[] #[.pointer (some ⟨bp, 0, none⟩)]
def PutAll (bp : Nat) (w0 : World) (N : Nat) : Prop := ∀ (L : List Pr) (pr : Option Addr) (n cr : Nat) (w : World) (pm : Option Addr) (m cm : Nat) (M : List Pr) (V : List (Value × Value)), L.length = n → n ≤ N → Zc w0 pr L → (pr = none → cr = 0) → n ≤ cr → cr ≤ 9223372036854775807 → (∀ x ∈ L, Zs x) → M.length = m → m + n ≤ 50000 → PutAt w0 w (.slice pm m cm) M V →
 Calls Tryz.prog 33 #[.slice pm m cm, .slice pr n cr, .pointer (some ⟨bp, 0, none⟩)] w fun e w' => ∃ pv nv cv, e = .returned (.slice pv nv cv) ∧ Hid (∃ M' V', M'.length = nv ∧ M'.reverse = coalR M.reverse L ∧ PutAt w0 w' (.slice pv nv cv) M' V')
theorem few_coal {L M : List Pr} (hn : L.length < 2) (hs : Ya M.reverse) : settleT (M ++ L).reverse = coalR M.reverse L ∧ Ya (M ++ L).reverse.tail := by
 match L, hn with
 | [], _ =>
  rw [List.append_nil]
  exact ⟨settle_of hs, hs.tail'⟩
 | [x], _ => simpa [coalR, settleT] using hs
 | x :: y :: L, h => simp at h; omega
theorem put_few {bp : Nat} {w0 : World} (L : List Pr) (pr : Option Addr) (n cr : Nat) (w : World) (pm : Option Addr) (m cm : Nat) (M : List Pr) (V : List (Value × Value)) (hl : L.length = n) (hn : n < 2) (hP : Zc w0 pr L) (hc : pr = none → cr = 0) (hs : ∀ x ∈ L, Zs x) (hm : M.length = m) (hmn : m + n ≤ 50000) (hA : PutAt w0 w (.slice pm m cm) M V) :
  Calls Tryz.prog 33 #[.slice pm m cm, .slice pr n cr, .pointer (some ⟨bp, 0, none⟩)] w fun e w' => ∃ pv nv cv, e = .returned (.slice pv nv cv) ∧ Hid (∃ M' V', M'.length = nv ∧ M'.reverse = coalR M.reverse L ∧ PutAt w0 w' (.slice pv nv cv) M' V') := by
 have i1 : (n : Int) < 2 := by omega
 have i2 : (0 : Int) ≤ (n : Int) := by omega
 have q1 := copiedR_any pr n cr L w hl (hP.kept hA.fr) hc (by omega) (fun x hx => by have h1 := (hs x hx).old; have h2 := (hs x hx).new; omega)
 have HA := Zy hA
 have HX := Zy (show L.length = n ∧ n < 2 ∧ M.length = m ∧ m + n ≤ 50000 ∧ (∀ x ∈ L, Zs x) from ⟨hl, hn, hm, hmn, hs⟩)
 clear hl hn hP hc hs hm hmn hA
 go_enter Tryz.func33, Tryz.ntmps33
 go_wp2_with fail
 with_reducible refine q1.mono ?_
 rintro e w1 ⟨v2, U, rfl, O2, f1, hU⟩
 obtain ⟨hl, hn, hm, hmn, hs⟩ := HX.out
 obtain ⟨v3, w2, r3, O3, f3⟩ := (HA.out.own.kept f1).addOwn O2 (fun u hu j e e' => by have h1 := hU u hu j e; have h2 := (HA.out.own.ge e').2; omega) (by have := HA.out.fr.size; have := f1.size; omega) (by omega)
 obtain ⟨p2, c2, hv2, _⟩ := O2.slice
 obtain ⟨p3, c3, hv3, _⟩ := O3.slice
 have hn3 : (M ++ L).length = m + n := by simp; omega
 rw [hl] at hv2
 rw [hn3] at hv3
 subst hv2 hv3
 obtain ⟨k1, k2⟩ := few_coal (L := L) (by omega) HA.out.set
 have hs3 : ∀ x ∈ M ++ L, Zs x := fun x hx => by
  rcases List.mem_append.1 hx with hx | hx
  ·exact HA.out.small x hx
  ·exact hs x hx
 have q2 := settled_any O3 hn3 (by omega) hs3 k2
 rw [k1] at q2
 have HF := Zy (show Fr None' w0 w2 from (HA.out.fr.then7 f1).trans f3 (fun i e => Or.inr (HA.out.own.ge e).1))
 have HG := Zy (fun k (e : (Value.slice p3 (m + n) c3).ownBlock = some k) => (O3.ge e).1)
 have HS := Zy (coal_settled L _ HA.out.set)
 have HR := Zy r3
 clear q1 O2 f1 hU O3 f3 hl hn hm hmn hs k1 k2 hs3 r3 hn3
 go_wp2_with (at_builtin
              refine Y0 rfl _ _ rfl rfl rfl HR.out ?_)
 with_reducible refine q2.mono ?_
 rintro e w3 ⟨v4, M', V', rfl, hM, hA⟩
 obtain ⟨p4, c4, hv4, _⟩ := hA.own.slice
 obtain ⟨n4, hn4⟩ : ∃ n4, M'.length = n4 := ⟨_, rfl⟩
 rw [hn4] at hv4
 subst hv4
 have HE := Zy (show ∃ M' V', M'.length = n4 ∧ M'.reverse = coalR M.reverse L ∧ PutAt w0 w3 (.slice p4 n4 c4) M' V' from ⟨M', V', hn4, hM, HF.out.trans hA.fr (fun i e => Or.inr (HG.out i e)), hA.own, by rw [hM]; exact HS.out, hA.small⟩)
 clear q2 hM hA hn4
 go_wp2_with fail
 go_ret
 exact ⟨p4, n4, c4, rfl, HE.out⟩
theorem Zc.takeP {w : World} {va : Option Addr} {L : List Pr} (h : Zc w va L) (i : Nat) : Zc w va (L.take i) := fun k x hk => by
 have hk' : k < i := by have := (List.getElem?_eq_some_iff.1 hk).1; simp at this; omega
 rw [List.getElem?_take, if_pos hk'] at hk
 exact h k x hk
theorem Zc.dropP {w : World} {g o : Nat} {L : List Pr} (h : Zc w (some ⟨g, o, none⟩) L) (i : Nat) : Zc w (some ⟨g, o + i * 7, none⟩) (L.drop i) := fun k x hk => by
 rw [List.getElem?_drop] at hk
 obtain ⟨g', o', e, hx⟩ := h (i + k) x hk
 cases e
 exact ⟨g, o + i * 7, rfl, by rw [show o + i * 7 + k * 7 = o + (i + k) * 7 from by omega]; exact hx⟩
theorem put_many {bp : Nat} {w0 : World} (hcell : w0.cell? ⟨bp, 0, none⟩ = some (putF bp)) (N : Nat) (IH : PutAll bp w0 N) (L : List Pr) (pr : Option Addr) (n cr : Nat) (w : World) (pm : Option Addr) (m cm : Nat) (M : List Pr) (V : List (Value × Value)) (hl : L.length = n) (hn : n ≤ N + 1) (h2 : 2 ≤ n) (hP : Zc w0 pr L) (hcr : n ≤ cr) (hcm : cr ≤ 9223372036854775807) (hs : ∀ x ∈ L, Zs x) (hm : M.length = m) (hmn : m + n ≤ 50000) (hA : PutAt w0 w (.slice pm m cm) M V) :
  Calls Tryz.prog 33 #[.slice pm m cm, .slice pr n cr, .pointer (some ⟨bp, 0, none⟩)] w fun e w' => ∃ pv nv cv, e = .returned (.slice pv nv cv) ∧ Hid (∃ M' V', M'.length = nv ∧ M'.reverse = coalR M.reverse L ∧ PutAt w0 w' (.slice pv nv cv) M' V') := by
 obtain ⟨g, o, rfl⟩ : ∃ g o, pr = some ⟨g, o, none⟩ := by
  obtain ⟨g, o, e, _⟩ := hP.get (k := 0) (by omega)
  exact ⟨g, o, e⟩
 obtain ⟨h, hh⟩ : ∃ h, n / 2 = h := ⟨_, rfl⟩
 have HI1 := Zy (fun w' (f : Fr None' w w') => IH (L.take h) (some ⟨g, o, none⟩) h cr w' pm m cm M V (by simp; omega) (by omega) (hP.takeP h) (fun e => by cases e) (by omega) hcm (fun x hx => hs x (List.mem_of_mem_take hx)) hm (by omega) ⟨hA.fr.then7 f, hA.own.kept f, hA.set, hA.small⟩)
 have HI2 := Zy (fun w' pv nv cv (k : ∃ M' V', M'.length = nv ∧ M'.reverse = coalR M.reverse (L.take h) ∧ PutAt w0 w' (.slice pv nv cv) M' V') => (show Calls Tryz.prog 33 #[.slice pv nv cv, .slice (some ⟨g, o + h * 7, none⟩) (n - h) (cr - h), .pointer (some ⟨bp, 0, none⟩)] w' fun e w' => ∃ pv nv cv, e = .returned (.slice pv nv cv) ∧ Hid (∃ M' V', M'.length = nv ∧ M'.reverse = coalR M.reverse L ∧ PutAt w0 w' (.slice pv nv cv) M' V') from by
  obtain ⟨M1, V1, k1, k2, k3⟩ := k
  have hle := coal_length (L.take h) M.reverse
  have hl1 : M1.length ≤ m + h := by
   have := congrArg List.length k2
   simp only [List.length_reverse, List.length_take] at this hle
   omega
  refine (IH (L.drop h) (some ⟨g, o + h * 7, none⟩) (n - h) (cr - h) w' pv nv cv M1 V1 (by simp; omega) (by omega) (hP.dropP h) (fun e => by cases e) (by omega) (by omega) (fun x hx => hs x (List.mem_of_mem_drop hx)) k1 (by omega) k3).mono ?_
  rintro e w'' ⟨pv, nv, cv, rfl, M2, V2, j1, j2, j3⟩
  refine ⟨pv, nv, cv, rfl, M2, V2, j1, ?_, j3⟩
  rw [j2, k2, ← coalR_append, List.take_append_drop]))
 have HC := Zy (fun w' (f : Fr None' w0 w') => f.keepCell hcell (fun e => e))
 unfold putF at HC
 have c0 := HC.out w hA.fr
 have HA := Zy hA.fr
 have i1 : ¬ (n : Int) < 2 := by omega
 have i2 : (0 : Int) ≤ (n : Int) := by omega
 have i3 : (n : Int) ≤ (cr : Int) := by omega
 have i4 : (cr : Int) ≤ 9223372036854775807 := by omega
 have i5 : (h : Int) < (n : Int) := by omega
 have i6 : (0 : Int) ≤ (h : Int) := by omega
 have i7 : ¬ cr = h := by omega
 have i8 : (n : Int) ≤ 50000 := by omega
 have i9 : (h : Int) ≤ (n : Int) := by omega
 have j1 : (h : Int) ≤ (cr : Int) := by omega
 have e1 : Int.tdiv (n : Int) 2 = (h : Int) := by rw [← hh]; rfl
 have hS0 := Zy (And.intro (HA.out.then7 (Fr.drew None' w)) (HC.out w.drew (HA.out.then7 (Fr.drew None' w))))
 clear hcell IH hl hn h2 hP hcr hcm hs hm hmn hA hh
 go_enter Tryz.func33, Tryz.ntmps33
 go_wp2_with fail
 go_region_held3 (fun w' => Fr None' w0 w' ∧ w'.cell? ⟨bp, 0, none⟩ = some (.func (.func 33) #[] #[.pointer (some ⟨bp, 0, none⟩)]))
  (first | with_reducible exact Hid.out hS0 | with_reducible exact Hid.out hS1 | with_reducible exact Hid.out hS2)
  (first
   | (go_at_call 33; with_reducible (refine (HI1.out _ (Fr.drew None' _)).mono ?_); rintro e w1 ⟨pv, nv, cv, rfl, HK⟩; have hS1 := Zy (show Fr None' w0 w1 ∧ _ from by obtain ⟨_, _, _, _, k⟩ := Hid.out HK; exact ⟨PutAt.fr k, HC.out w1 (PutAt.fr k)⟩))
   | (go_at_call 33; with_reducible (refine (HI2.out w1 pv nv cv (Hid.out HK)).mono ?_); rintro e w2 ⟨pu, nu, cu, rfl, HK2⟩; have hS2 := Zy (show Fr None' w0 w2 ∧ _ from by obtain ⟨_, _, _, _, k⟩ := Hid.out HK2; exact ⟨PutAt.fr k, HC.out w2 (PutAt.fr k)⟩))
   | fail)
 clear hS0 hS1 hS2 c0
 go_wp2_with fail
 go_ret
 exact ⟨pu, nu, cu, rfl, HK2.out⟩
theorem put_all {bp : Nat} {w0 : World} (hcell : w0.cell? ⟨bp, 0, none⟩ = some (putF bp)) : ∀ N, PutAll bp w0 N
 | 0 => fun L pr n cr w pm m cm M V hl hn hP hc hcr hcm hs hm hmn hA => put_few L pr n cr w pm m cm M V hl (by omega) hP hc hs hm hmn hA
 | N + 1 => fun L pr n cr w pm m cm M V hl hn hP hc hcr hcm hs hm hmn hA => by
  by_cases h2 : n < 2
  ·exact put_few L pr n cr w pm m cm M V hl h2 hP hc hs hm hmn hA
  ·exact put_many hcell N (put_all hcell N) L pr n cr w pm m cm M V hl hn (by omega) hP hcr hcm hs hm hmn hA
end Go.Proofs.YtbnfjjjdnbcehaaGreatDoor
namespace Go.Proofs.YtbnfjjjdnbcehaaGreatDoor
open Go.RowKit
set_option maxRecDepth 100000
theorem run_store_func11 {P : Program} {w : World} {a : Addr} {m : Mode} (f : Fn) (x y : Array Value) : (store a (.func f x y) m).run P w = stored P w a (.func f x y) m := run_store P w a _ m rfl
attribute [local go_sem] run_store_func11
theorem Zh.weaken {base base' : Nat} {w : World} {v : Value} {L : List Pr} {V : List (Value × Value)} (h : Zh base w v L V) (hb : base' ≤ base) : Zh base' w v L V := by
 refine ⟨h.len, ⟨h.row.1, ?_⟩, h.str⟩
 rcases h.row.2 with h | ⟨g, cap, cur, he, h1, h2⟩
 ·exact Or.inl h
 ·exact Or.inr ⟨g, cap, cur, he, Nat.le_trans hb h1, h2⟩
theorem coalesce_any (va : Option Addr) (n c : Nat) (L : List Pr) (w : World) (hl : L.length = n) (ha : Zc w va L) (hc : va = none → c = 0) (hnc : n ≤ c) (hcm : c ≤ 9223372036854775807) (hn : n ≤ 40000) (hs : ∀ x ∈ L, Zs x) :
  Calls Tryz.prog 15 #[.slice va n c] w fun e w' => ∃ pv nv cv, e = .returned (.slice pv nv cv) ∧ Hid (∃ V, Zh w.heap.size w' (.slice pv nv cv) (coalP L) V ∧ (coalP L).length = nv ∧ Fr None' w w' ∧ ∀ x ∈ coalP L, Zs x) := by
 obtain ⟨w1, hw1⟩ : ∃ w1, w.alloc (.cells #[.nilFunc] 56) = w1 := ⟨_, rfl⟩
 have hh1 : w1.heap[w.heap.size]? = some (.cells #[.nilFunc] 56 (0, 0)) := hw1 ▸ heap_alloc_new w _
 obtain ⟨w2, hw2⟩ : ∃ w2, w1.setCell ⟨w.heap.size, 0, none⟩ (.func (.func 33) #[] #[.pointer (some ⟨w.heap.size, 0, none⟩)]) = w2 := ⟨_, rfl⟩
 have F2 : Fr None' w w2 := hw2 ▸ (show Fr None' w w1 from hw1 ▸ Fr.alloc None' w _).trans (Fr.setQ w1 w.heap.size 0 _) (fun i e => Or.inr (by omega))
 have hh2 : w2.heap[w.heap.size]? = some (.cells #[.func (.func 33) #[] #[.pointer (some ⟨w.heap.size, 0, none⟩)]] 56 (0, 0)) := by
  have := Go.heap_setCell_same w1 w.heap.size 0 _ _ (.func (.func 33) #[] #[.pointer (some ⟨w.heap.size, 0, none⟩)]) hh1
  rw [hw2] at this
  simpa using this
 have c2 : w2.cell? ⟨w.heap.size, 0, none⟩ = some (.func (.func 33) #[] #[.pointer (some ⟨w.heap.size, 0, none⟩)]) := by rw [World.cell?, hh2]; rfl
 have c1 : w1.cell? ⟨w.heap.size, 0, none⟩ = some .nilFunc := by rw [World.cell?, hh1]; rfl
 have z1 : ∀ o, w1.frozen? ⟨w.heap.size, o, none⟩ = false := fun o => by unfold World.frozen?; rw [hh1]; simp
 have HQ := Zy (fun w' (f : Fr None' w2 w') => put_all (bp := w.heap.size) (w0 := w2) c2 n L va n c w' none 0 0 [] [] hl (Nat.le_refl _) (ha.kept F2) hc hnc hcm hs rfl (by omega) ⟨f, Zh.nil _ _, trivial, fun x hx => by cases hx⟩)
 have HF := Zy F2
 clear hl ha hc hnc hcm hn hs hh1 hh2 F2
 go_enter Tryz.func15, Tryz.ntmps15
 go_wp2_with fail
 with_reducible refine (HQ.out w2 (Fr.refl _ _)).mono ?_
 rintro e w3 ⟨pv, nv, cv, rfl, HK⟩
 clear HQ c2 c1 z1
 go_wp2_with fail
 go_ret
 refine ⟨pv, nv, cv, rfl, ?_⟩
 obtain ⟨M', V', k1, k2, k3⟩ := HK.out
 have e : coalP L = M' := by
  unfold coalP
  rw [show coalR [] L = M'.reverse from k2.symm, List.reverse_reverse]
 rw [e]
 exact ⟨V', k3.own.weaken HF.out.size, k1, HF.out.then7 k3.fr, k3.small⟩
end Go.Proofs.YtbnfjjjdnbcehaaGreatDoor
namespace Go.Proofs.YtbnfjjjdnbcehaaGreatDoor
open Go.RowKit
set_option maxRecDepth 100000
theorem Zh.fr2 {M : Nat → Prop} {base : Nat} {w w' : World} {v : Value} {L : List Pr} {V : List (Value × Value)} (h : Zh base w v L V) (f : Fr M w w') (hv : ∀ k, v.ownBlock = some k → ¬ M k) (hs : ∀ (k : Nat) (x : Pr) (u : Value × Value), L[k]? = some x → V[k]? = some u → (x.old ≠ [] → ∀ j, u.1.ownBlock = some j → ¬ M j) ∧ (x.new ≠ [] → ∀ j, u.2.ownBlock = some j → ¬ M j)) : Zh base w' v L V := by
 refine ⟨h.len, ⟨h.row.1, ?_⟩, fun k x u e1 e2 => ?_⟩
 ·rcases h.row.2 with h | ⟨g, cap, cur, he, hb, hh, h⟩
  ·exact Or.inl h
  ·exact Or.inr ⟨g, cap, cur, he, hb, f.at hh (hv g (by rw [he]; rfl)), h⟩
 ·obtain ⟨h1, h2, h3, h4⟩ := h.str k x u e1 e2
  obtain ⟨g1, g2⟩ := hs k x u e1 e2
  exact ⟨h1.far f g1, h2.far f g2, h3, h4⟩
def Apt (b5 b8 : Nat) (v : Value) (l : List ByteArray) : Prop := l ≠ [] → ∀ j, v.ownBlock = some j → ¬ (j = b5 ∨ j = b8)
structure PastAt (x : Pr) (L : List Pr) (k : Nat) (A : List Pr) (b : Pr) : Prop where
 eq : Zk x (L.take k) = (A, b, true)
 small : Zs b
 len : A.length = k
theorem past_take {x : Pr} {L : List Pr} {k : Nat} (hk : k < L.length) {A : List Pr} {b : Pr} (h : Zk x (L.take k) = (A, b, true)) : Zk x (L.take (k + 1)) = if (Zj b L[k]).2.2 then (A ++ [(Zj b L[k]).1], (Zj b L[k]).2.1, true) else ([], Yr, false) := by
 rw [List.take_succ_eq_append_getElem hk, past_append, h]
 simp only [Zk, if_true]
 by_cases hc : (Zj b L[k]).2.2 = true
 ·rw [if_pos hc, if_pos hc]
  rfl
 ·rw [if_neg hc, if_neg hc]
  rfl
theorem past_stop {x : Pr} {L : List Pr} {k : Nat} (h : (Zk x (L.take k)).2.2 = false) : Zk x L = ([], Yr, false) := by
 conv => lhs; rw [← List.take_append_drop k L]
 rw [past_append, if_neg (by rw [h]; simp)]
theorem results_tct {fn : Func} {p q r : Tmp} (hres : fn.results = #[.tmp p, .cell q 43, .tmp r]) (tmps : Array Value) {w : World} {c : Nat} {z0 z1 z2 z3 z4 z5 z6 : Value} (hq : tmps.getD q undef = .pointer (some ⟨c, 0, none⟩)) (k : Box w c z0 z1 z2 z3 z4 z5 z6) :
  (results fn tmps).run Tryz.prog w = .ok (.tuple #[tmps.getD p undef, .agg #[z0, z1, z2, z3, z4, z5, z6], tmps.getD r undef]) w := by
 have hq' : tmps[q]?.getD undef = .pointer (some ⟨c, 0, none⟩) := by simpa using hq
 simp [results, hres, hq', asAddr, k.load]
theorem ret_tct {fn : Func} {p q r : Tmp} (hres : fn.results = #[.tmp p, .cell q 43, .tmp r]) {Q : Ending → World → Prop} {a : Act} {w : World} {c : Nat} {z0 z1 z2 z3 z4 z5 z6 u v : Value} (hd : a.defers = []) (hq : a.tmps.getD q undef = .pointer (some ⟨c, 0, none⟩)) (hv : a.tmps.getD p undef = v) (hu : a.tmps.getD r undef = u) (k : Box w c z0 z1 z2 z3 z4 z5 z6)
  (hQ : Q (.returned (.tuple #[v, .agg #[z0, z1, z2, z3, z4, z5, z6], u])) w) : bodyPost Tryz.prog fn Q .ret a w := by
 subst hu hv
 exact bodyPost_ret (results_tct hres _ hq k) hd hQ
theorem Zh.made {base : Nat} {w' : World} {g n : Nat} {cur : Array Value} (hb : base ≤ g) (hh : w'.heap[g]? = some (.cells cur 43 (0, 0))) (hs : cur.size = n * 7) (hn : n ≤ 90000) : Zh base w' (.slice (some ⟨g, 0, none⟩) 0 n) [] [] :=
 ⟨rfl, ⟨rfl, Or.inr ⟨g, n, cur, rfl, hb, hh, Nat.zero_le _, by unfold maxLen; omega, hs, rfl⟩⟩, fun k x u e => by simp at e⟩
end Go.Proofs.YtbnfjjjdnbcehaaGreatDoor
namespace Go.Proofs.YtbnfjjjdnbcehaaGreatDoor
open Go.RowKit
set_option maxRecDepth 100000
structure PastIn11 (w : World) (b5 b8 : Nat) (wr : World) (va : Value) (A : List Pr) (b : Pr) (V : List (Value × Value)) (po pn : Option Addr) (co cn : Nat) : Prop where
 fr : Fr None' w wr
 own : Zh w.heap.size wr va A V
 far : ∀ k, va.ownBlock = some k → ¬ (k = b5 ∨ k = b8)
 apt : ∀ (k : Nat) (x : Pr) (u : Value × Value), A[k]? = some x → V[k]? = some u → Apt b5 b8 u.1 x.old ∧ Apt b5 b8 u.2 x.new
 nw : ∀ u ∈ V, ∀ k, (u.1.ownBlock = some k ∨ u.2.ownBlock = some k) → w.heap.size ≤ k
 bx : Box wr b8 (.int .i64 b.kind) (.string b.path) (.string b.dst) (.string b.src) (.int .i64 b.pos) (.slice po b.old.length co) (.slice pn b.new.length cn)
 so : Zv wr (.slice po b.old.length co) b.old
 sn : Zv wr (.slice pn b.new.length cn) b.new
 ao : Apt b5 b8 (.slice po b.old.length co) b.old
 an : Apt b5 b8 (.slice pn b.new.length cn) b.new
 go : ∀ k, (Value.slice po b.old.length co).ownBlock = some k → w.heap.size ≤ k
 gn : ∀ k, (Value.slice pn b.new.length cn).ownBlock = some k → w.heap.size ≤ k
 res : Box wr b5 (.int .i64 0) (.string ⟨#[]⟩) (.string ⟨#[]⟩) (.string ⟨#[]⟩) (.int .i64 0) (.slice none 0 0) (.slice none 0 0)
def PastPost11 (x : Pr) (L : List Pr) (w : World) (e : Ending) (w' : World) : Prop := ∃ va vb V, e = .returned (.tuple #[va, vb, .bool (Zk x L).2.2]) ∧ Zh w.heap.size w' va (Zk x L).1 V ∧ (∀ u ∈ V, ∀ k, (u.1.ownBlock = some k ∨ u.2.ownBlock = some k) → w.heap.size ≤ k) ∧ PrNew w w' vb (Zk x L).2.1 ∧ Fr None' w w'
theorem past_new (hC : CommuteAll) (x : Pr) (vo vn : Value) (va : Option Addr) (n c : Nat) (L : List Pr) (w : World) (ho : Zv w vo x.old) (hn : Zv w vn x.new) (sx : Zs x) (hl : L.length = n) (hn60 : n ≤ 200) (hL : Zc w va L) (sL : ∀ y ∈ L, Zs y) :
  Calls Tryz.prog 29 #[.agg #[.int .i64 x.kind, .string x.path, .string x.dst, .string x.src, .int .i64 x.pos, vo, vn], .slice va n c] w fun e w' => PastPost11 x L w e w' := by
 have HCp := Zz (show ∀ w', Fr None' w w' → Calls Tryz.prog 55 #[.agg #[.int .i64 x.kind, .string x.path, .string x.dst, .string x.src, .int .i64 x.pos, vo, vn]] w' (fun e w'' => ∃ v, e = .returned v ∧ PrNew w' w'' v x ∧ Fr None' w' w'') from fun w' f => copied_any x vo vn w' (ho.kept f) (hn.kept f) (by have := sx.old; omega) (by have := sx.new; omega))
 have HCm := Zz (show ∀ (b : Pr) (k : Nat) (hk : k < L.length) w' po co pn cn ra rc rb rd, Zs b → Zv w' (.slice po b.old.length co) b.old → Zv w' (.slice pn b.new.length cn) b.new → Zv w' (.slice ra L[k].old.length rc) L[k].old → Zv w' (.slice rb L[k].new.length rd) L[k].new → Calls Tryz.prog 56 #[.agg #[.int .i64 b.kind, .string b.path, .string b.dst, .string b.src, .int .i64 b.pos, .slice po b.old.length co, .slice pn b.new.length cn], .agg #[.int .i64 L[k].kind, .string L[k].path, .string L[k].dst, .string L[k].src, .int .i64 L[k].pos, .slice ra L[k].old.length rc, .slice rb L[k].new.length rd]] w' (fun e w'' => CommPost b L[k] w' e w'') from fun b k hk w' po co pn cn ra rc rb rd sb h1 h2 h3 h4 => hC b L[k] _ _ _ _ w' h1 h2 h3 h4 sb (sL _ (List.getElem_mem hk)))
 have HLe := Zz hl
 have HLs := Zz hL
 have HSL := Zz sL
 have HSx := Zz sx
 have HRx := Zz (And.intro ho hn)
 obtain ⟨pa, ca, rfl⟩ := ho.as2
 obtain ⟨pb, cb, rfl⟩ := hn.as2
 obtain ⟨no, hno⟩ : ∃ m, x.old.length = m := ⟨_, rfl⟩
 obtain ⟨nn, hnn⟩ : ∃ m, x.new.length = m := ⟨_, rfl⟩
 rw [hno] at HCp ⊢
 rw [hnn] at HCp ⊢
 obtain ⟨i0, hi, hz0, hz1, hz2⟩ := info_parts infoP
 obtain ⟨w1, hw1⟩ : ∃ w1, w.alloc (.cells #[.int .i64 x.kind, .string x.path, .string x.dst, .string x.src, .int .i64 x.pos, .slice pa no ca, .slice pb nn cb] 43) = w1 := ⟨_, rfl⟩
 obtain ⟨w2, hw2⟩ : ∃ w2, w1.alloc (.cells #[.int .i64 0, .string ⟨#[]⟩, .string ⟨#[]⟩, .string ⟨#[]⟩, .int .i64 0, .slice none 0 0, .slice none 0 0] 43) = w2 := ⟨_, rfl⟩
 have F1 : Fr None' w w1 := hw1 ▸ Fr.alloc None' w _
 have F2 : Fr None' w1 w2 := hw2 ▸ Fr.alloc None' w1 _
 have s1 : w1.heap.size = w.heap.size + 1 := by rw [← hw1]; simp
 have s2 : w2.heap.size = w1.heap.size + 1 := by rw [← hw2]; simp
 obtain ⟨w3, hmk, F3, s3, O3⟩ : ∃ w3, (Instr.makeSlice 22 (.int .i64 0) (.int .i64 (n : Int))).run Tryz.prog w2 = .ok (.slice (some ⟨w2.heap.size, 0, none⟩) 0 n) w3 ∧ Fr None' w2 w3 ∧ w3.heap.size = w2.heap.size + 1 ∧ Zh w.heap.size w3 (.slice (some ⟨w2.heap.size, 0, none⟩) 0 n) [] [] := by
  have hmk := run_make (P := Tryz.prog) w2 22 43 i0 _ Tryz.underlying22 hi hz0 .i64 .i64 0 (n : Int) (Int.le_refl _) (by omega) (by rw [hz2]; omega) (by omega)
  exact ⟨_, hmk, Fr.alloc _ _ _, by simp, Zh.made (by omega) (heap_alloc_new _ _) (by simp [size_madeCells, hz1]) (by omega)⟩
 have BX : Box w3 w.heap.size (.int .i64 x.kind) (.string x.path) (.string x.dst) (.string x.src) (.int .i64 x.pos) (.slice pa no ca) (.slice pb nn cb) := (hw1 ▸ Box.new w _ _ _ _ _ _ _ : Box w1 _ _ _ _ _ _ _ _).kept (F2.then7 F3)
 have BR : Box w3 w1.heap.size (.int .i64 0) (.string ⟨#[]⟩) (.string ⟨#[]⟩) (.string ⟨#[]⟩) (.int .i64 0) (.slice none 0 0) (.slice none 0 0) := (hw2 ▸ Box.new w1 _ _ _ _ _ _ _ : Box w2 _ _ _ _ _ _ _ _).kept F3
 have HF3 := Zz ((F1.then7 F2).then7 F3)
 have HO3 := Zz O3
 have HBR := Zz BR
 have HN := Zz (show w1.heap.size = w.heap.size + 1 ∧ w2.heap.size = w1.heap.size + 1 ∧ w3.heap.size = w2.heap.size + 1 from ⟨s1, s2, s3⟩)
 obtain ⟨x0, x1, x2, x3, x4, x5, x6⟩ := BX.cells
 have q1 := HCp.out w3 HF3.out
 have i1 : (n : Int) ≤ 200 := by omega
 have i2 : (0 : Int) ≤ (n : Int) := by omega
 have HN60 := Zz hn60
 clear hC ho hn sx hl hL sL hno hnn hi hz0 hz1 hz2 F1 F2 F3 s1 s2 s3 O3 BX BR HCp hn60
 go_enter Tryz.func29, Tryz.ntmps29
 go_wp2_with fail
 with_reducible refine q1.mono ?_
 rintro e w4 ⟨v, rfl, ⟨vo4, vn4, rfl, r1, r2, g1, g2⟩, f4⟩
 obtain ⟨po4, co4, rfl⟩ := r1.as2
 obtain ⟨pn4, cn4, rfl⟩ := r2.as2
 clear q1 x0 x1 x2 x3 x4 x5 x6
 obtain ⟨w5, hw5⟩ : ∃ w5, w4.alloc (.cells #[.int .i64 x.kind, .string x.path, .string x.dst, .string x.src, .int .i64 x.pos, .slice po4 x.old.length co4, .slice pn4 x.new.length cn4] 43) = w5 := ⟨_, rfl⟩
 have F5 : Fr None' w4 w5 := hw5 ▸ Fr.alloc None' w4 _
 have B5 : Box w5 w4.heap.size (.int .i64 x.kind) (.string x.path) (.string x.dst) (.string x.src) (.int .i64 x.pos) (.slice po4 x.old.length co4) (.slice pn4 x.new.length cn4) := hw5 ▸ Box.new w4 _ _ _ _ _ _ _
 obtain ⟨b5, hb5⟩ : ∃ b, w1.heap.size = b := ⟨_, rfl⟩
 obtain ⟨b8, hb8⟩ : ∃ b, w4.heap.size = b := ⟨_, rfl⟩
 have h34 := f4.size
 have HP0 := Zz (show PastAt x L 0 [] x from ⟨rfl, HSx.out, rfl⟩)
 have HI0 := Zz (show PastIn11 w b5 b8 w5 (.slice (some ⟨w2.heap.size, 0, none⟩) 0 n) [] x [] po4 pn4 co4 cn4 from
  ⟨(HF3.out.then7 f4).then7 F5, (HO3.out.kept f4).kept F5, (fun k e => by have hk : w2.heap.size = k := Option.some.inj e; have := HN.out; omega), (fun k x u e => by simp at e), (fun u hu => by cases hu), hb8 ▸ B5, r1.kept F5, r2.kept F5,
    (fun hl j e => by have := r1.lt hl e; have := g1 j e; have := HN.out; omega), (fun hl j e => by have := r2.lt hl e; have := g2 j e; have := HN.out; omega),
    (fun k e => by have := g1 k e; have := HN.out; omega), (fun k e => by have := g2 k e; have := HN.out; omega), hb5 ▸ (HBR.out.kept f4).kept F5⟩)
 have HB58 := Zz (show w.heap.size ≤ b5 ∧ b5 < b8 from by have := HN.out; omega)
 clear r1 r2 g1 g2 f4 F5 B5 h34 HO3 HBR hmk HRx HSx
 go_wp2_with fail
 go_loopw [7, 21] (fun va vi wr => ∃ (k : Nat) (A : List Pr) (b : Pr) (V : List (Value × Value)) (po pn : Option Addr) (co cn : Nat), k ≤ n ∧ vi = .int .i64 k ∧ Hid (PastAt x L k A b) ∧ Hid (PastIn11 w b5 b8 wr va A b V po pn co cn)) (fun _ vi _ => n - (intOf vi).toNat)
 case atStart => exact ⟨0, [], x, [], po4, pn4, co4, cn4, Nat.zero_le _, rfl, HP0.out, HI0.out⟩
 case round =>
  obtain ⟨k, A, b, V, po, pn, co, cn, hk, rfl, HP, HI⟩ := hrel
  obtain ⟨vg, vc, hva, _, _, _⟩ := HI.out.own.slice
  by_cases hlt : k < n
  ·have hkL : k < L.length := by rw [HLe.out]; exact hlt
   obtain ⟨g, o, rfl, uo, un, d0, d1, d2, d3, d4, d5, d6, t1, t2⟩ := (HLs.out.kept HI.out.fr).get hkL
   have HT := Zz (past_take hkL HP.out.eq)
   have HSq := Zz (HSL.out _ (List.getElem_mem hkL))
   obtain ⟨ra, rc, rfl⟩ := t1.as2
   obtain ⟨rb, rd, rfl⟩ := t2.as2
   have HCk := Zz (fun w' (f : Fr None' wr w') => HCm.out b k hkL w' po co pn cn ra rc rb rd HP.out.small (HI.out.so.kept f) (HI.out.sn.kept f) (t1.kept f) (t2.kept f))
   generalize L[k] = q at d0 d1 d2 d3 d4 d5 d6 HT HCk HSq
   obtain ⟨c0, c1, c2, c3, c4, c5, c6⟩ := HI.out.bx.cells
   have hnew := HI.out.bx.lt
   have i3 : (k : Int) < (n : Int) := by omega
   have i4 : (0 : Int) ≤ (k : Int) := by omega
   obtain ⟨wA, hwA⟩ : ∃ wA, wr.alloc (.cells #[.int .i64 q.kind, .string q.path, .string q.dst, .string q.src, .int .i64 q.pos, .slice ra q.old.length rc, .slice rb q.new.length rd] 43) = wA := ⟨_, rfl⟩
   have FA : Fr None' wr wA := hwA ▸ Fr.alloc None' wr _
   have BA : Box wA wr.heap.size (.int .i64 q.kind) (.string q.path) (.string q.dst) (.string q.src) (.int .i64 q.pos) (.slice ra q.old.length rc) (.slice rb q.new.length rd) := hwA ▸ Box.new wr _ _ _ _ _ _ _
   have q2 := HCk.out wA FA
   obtain ⟨e0, e1, e2, e3, e4, e5, e6⟩ := BA.cells
   obtain ⟨h0, h1, h2, h3, h4, h5, h6⟩ := (HI.out.bx.kept FA).cells
   have HFA := Zz FA
   have HNA := Zz (show b8 < wr.heap.size ∧ wr.heap.size < wA.heap.size from ⟨hnew, BA.lt⟩)
   clear FA BA t1 t2 hlt hnew HCk
   subst hva
   go_wp2_with fail
   with_reducible refine q2.mono ?_
   rintro e w6 ⟨va6, vb6, rfl, ⟨vo1, vn1, rfl, r1, r2, g1, g2⟩, ⟨vo2, vn2, rfl, r3, r4, g3, g4⟩, f6⟩
   clear q2 c0 c1 c2 c3 c4 c5 c6 d0 d1 d2 d3 d4 d5 d6 e0 e1 e2 e3 e4 e5 e6 h0 h1 h2 h3 h4 h5 h6
   obtain ⟨r, hr⟩ : ∃ r, Zj b q = r := ⟨_, rfl⟩
   have HCy := Zz (show (Zj b q).2.2 = true → Zs (Zj b q).2.1 from fun h => by
    obtain ⟨y1, y2, y3, _⟩ := commP_yes h
    rw [y3]
    exact (rule_small y1 y2 HP.out.small HSq.out).2)
   rw [hr] at r1 r2 r3 r4 HT HCy ⊢
   obtain ⟨⟨k1, p1, t1, f1, a1, o1, m1⟩, ⟨k2, p2, t2, f2, a2, o2, m2⟩, rt⟩ := r
   simp only at r1 r2 r3 r4 HT HCy ⊢
   obtain ⟨po1, co1, rfl⟩ := r1.as2
   obtain ⟨pn1, cn1, rfl⟩ := r2.as2
   obtain ⟨po2, co2, rfl⟩ := r3.as2
   obtain ⟨pn2, cn2, rfl⟩ := r4.as2
   have HI6 := Zz (show Fr None' w w6 ∧ Box w6 b5 (.int .i64 0) (.string ⟨#[]⟩) (.string ⟨#[]⟩) (.string ⟨#[]⟩) (.int .i64 0) (.slice none 0 0) (.slice none 0 0) from ⟨HI.out.fr.then7 (HFA.out.then7 f6), HI.out.res.kept (HFA.out.then7 f6)⟩)
   have HF6 := Zz (HFA.out.then7 f6)
   have HR6 := Zz (And.intro (And.intro r1 r2) (And.intro g1 g2))
   have HR7 := Zz (And.intro (And.intro r3 r4) (And.intro g3 g4))
   have HS6 := Zz f6.size
   clear hr r1 r2 r3 r4 g1 g2 g3 g4 f6
   cases rt with
   | false =>
    have HE := Zz (show Zk x L = ([], Yr, false) from past_stop (k := k + 1) (by rw [HT.out]; rfl))
    obtain ⟨w7, hw7⟩ : ∃ w7, (w6.alloc (.cells #[.int .i64 k1, .string p1, .string t1, .string f1, .int .i64 a1, .slice po1 o1.length co1, .slice pn1 m1.length cn1] 43)).alloc (.cells #[.int .i64 k2, .string p2, .string t2, .string f2, .int .i64 a2, .slice po2 o2.length co2, .slice pn2 m2.length cn2] 43) = w7 := ⟨_, rfl⟩
    have F7 : Fr None' w6 w7 := hw7 ▸ (Fr.alloc None' _ _).then7 (Fr.alloc None' _ _)
    have B7 := HI6.out.2.kept F7
    have HB7 := Zz B7
    have HF7 := Zz (HI6.out.1.then7 F7)
    obtain ⟨c0, c1, c2, c3, c4, c5, c6⟩ := B7.cells
    have cz := B7.frozen
    clear F7 B7
    go_wp2_with fail
    have hfin := fin9 (W := w7) HF7.out HB7.out (Fr.refl (fun k => k = w7.heap.size) _) (by have := HB7.out.lt; omega) HB58.out.1 HF7.out.size (.int .i64 0) (.string ⟨#[]⟩) (.string ⟨#[]⟩) (.string ⟨#[]⟩) (.int .i64 0) (.slice none 0 0) (.slice none 0 0)
    refine ret_tct (u := .bool false) (v := .slice none 0 0) rfl rfl rfl rfl rfl hfin.1 ?_
    unfold PastPost11
    rw [HE.out]
    exact ⟨_, _, [], rfl, Zh.nil _ _, (fun u hu => by cases hu), zero_new _ _, hfin.2⟩
   | true =>
    obtain ⟨w7, hw7⟩ : ∃ w7, (w6.alloc (.cells #[.int .i64 k1, .string p1, .string t1, .string f1, .int .i64 a1, .slice po1 o1.length co1, .slice pn1 m1.length cn1] 43)).alloc (.cells #[.int .i64 k2, .string p2, .string t2, .string f2, .int .i64 a2, .slice po2 o2.length co2, .slice pn2 m2.length cn2] 43) = w7 := ⟨_, rfl⟩
    obtain ⟨wC, hwC⟩ : ∃ wC, w6.alloc (.cells #[.int .i64 k1, .string p1, .string t1, .string f1, .int .i64 a1, .slice po1 o1.length co1, .slice pn1 m1.length cn1] 43) = wC := ⟨_, rfl⟩
    have FC : Fr None' w6 wC := hwC ▸ Fr.alloc None' _ _
    have FC7 : Fr None' wC w7 := by rw [← hw7, hwC]; exact Fr.alloc None' _ _
    have F7 := FC.then7 FC7
    have sC : wC.heap.size = w6.heap.size + 1 := by rw [← hwC]; simp
    have B11 : Box w7 w6.heap.size (.int .i64 k1) (.string p1) (.string t1) (.string f1) (.int .i64 a1) (.slice po1 o1.length co1) (.slice pn1 m1.length cn1) := (hwC ▸ Box.new w6 _ _ _ _ _ _ _ : Box wC _ _ _ _ _ _ _ _).kept FC7
    have B12 : Box w7 (w6.heap.size + 1) (.int .i64 k2) (.string p2) (.string t2) (.string f2) (.int .i64 a2) (.slice po2 o2.length co2) (.slice pn2 m2.length cn2) := by rw [← sC, ← hw7, hwC]; exact Box.new wC _ _ _ _ _ _ _
    have l12 := B12.lt
    obtain ⟨⟨r1, r2⟩, g1, g2⟩ := HR6.out
    obtain ⟨⟨r3, r4⟩, g3, g4⟩ := HR7.out
    have hI := HI.out
    have hA := HNA.out
    have h6 := HS6.out
    have FR7 := HF6.out.then7 F7
    obtain ⟨W8, hW8⟩ : ∃ W8, (w7.alloc (.cells #[.int .i64 k1, .string p1, .string t1, .string f1, .int .i64 a1, .slice po1 o1.length co1, .slice pn1 m1.length cn1] 43)).drew = W8 := ⟨_, rfl⟩
    have F8 : Fr None' w7 W8 := hW8 ▸ (Fr.alloc None' _ _).then7 (Fr.drew None' _)
    have B8 : Box W8 w7.heap.size (.int .i64 k1) (.string p1) (.string t1) (.string f1) (.int .i64 a1) (.slice po1 o1.length co1) (.slice pn1 m1.length cn1) := hW8 ▸ (Box.new w7 _ _ _ _ _ _ _).drew
    have s8 : W8.heap.size = w7.heap.size + 1 := by rw [← hW8]; simp
    have own8 := (hI.own.kept FR7).kept F8
    have hlt7 : ∀ j, (Value.slice vg A.length vc).ownBlock = some j → w.heap.size ≤ j ∧ j < wr.heap.size := fun j e => hI.own.ge e
    obtain ⟨v9, w9, hr9, own9, hf9, ho9⟩ := own8.push (b := w7.heap.size) (x := ⟨k1, p1, t1, f1, a1, o1, m1⟩) B8 ((r1.kept F7).kept F8) ((r2.kept F7).kept F8) (fun hl j e e' => by have := g1 j e; have := hlt7 j e'; omega) (fun hl j e e' => by have := g2 j e; have := hlt7 j e'; omega) (by rw [HP.out.len]; have := HN60.out; omega) (by have := hI.fr.size; omega)
    obtain ⟨vg9, vc9, hv9, _⟩ := own9.slice
    have hne9 : ∀ j, v9.ownBlock = some j → ¬ (j = b5 ∨ j = b8) := fun j e => by
     rcases ho9 with h | h
     ·rw [h] at e; exact hI.far j e
     ·rw [h] at e; have : W8.heap.size = j := Option.some.inj e; have := HB58.out; omega
    have bx9 : Box w9 b8 (.int .i64 b.kind) (.string b.path) (.string b.dst) (.string b.src) (.int .i64 b.pos) (.slice po b.old.length co) (.slice pn b.new.length cn) := ((hI.bx.kept FR7).kept F8).fr hf9 (fun e => hI.far b8 e (Or.inr rfl))
    have FS : Fr (fun k => k = b8) w9 (setP w9 b8 (.int .i64 k2) (.string p2) (.string t2) (.string f2) (.int .i64 a2) (.slice po2 o2.length co2) (.slice pn2 m2.length cn2)) := Fr.setP (M := fun k => k = b8) w9 rfl _ _ _ _ _ _ _
    have HIn := Zz (show PastIn11 w b5 b8 (setP w9 b8 (.int .i64 k2) (.string p2) (.string t2) (.string f2) (.int .i64 a2) (.slice po2 o2.length co2) (.slice pn2 m2.length cn2)) v9 (A ++ [⟨k1, p1, t1, f1, a1, o1, m1⟩]) ⟨k2, p2, t2, f2, a2, o2, m2⟩ (V ++ [(.slice po1 o1.length co1, .slice pn1 m1.length cn1)]) po2 pn2 co2 cn2 from by
     have apt9 : ∀ (k : Nat) (x : Pr) (u : Value × Value), (A ++ [⟨k1, p1, t1, f1, a1, o1, m1⟩])[k]? = some x → (V ++ [(.slice po1 o1.length co1, .slice pn1 m1.length cn1)])[k]? = some u → Apt b5 b8 u.1 x.old ∧ Apt b5 b8 u.2 x.new := fun i y u e1 e2 => by
      have hVA := hI.own.len
      rcases Nat.lt_or_ge i A.length with hi | hi
      ·rw [List.getElem?_append_left hi] at e1
       rw [List.getElem?_append_left (by omega)] at e2
       exact hI.apt i y u e1 e2
      ·rw [List.getElem?_append_right hi] at e1
       rw [List.getElem?_append_right (by omega), hVA] at e2
       have hi0 : i - A.length = 0 := by
        have := (List.getElem?_eq_some_iff.1 e1).1
        simpa using this
       rw [hi0] at e1 e2
       simp at e1 e2
       subst e1 e2
       have := HB58.out
       exact ⟨fun _ j e => by have := g1 j e; omega, fun _ j e => by have := g2 j e; omega⟩
     have hb := HB58.out
     have fr9 : Fr None' w w9 := ((hI.fr.then7 FR7).then7 F8).trans hf9 (fun i e => Or.inr (hlt7 i e).1)
     have st3 : Zv w9 (.slice po2 o2.length co2) o2 := ((r3.kept F7).kept F8).far hf9 (fun _ j e e' => by have := g3 j e; have := hlt7 j e'; omega)
     have st4 : Zv w9 (.slice pn2 m2.length cn2) m2 := ((r4.kept F7).kept F8).far hf9 (fun _ j e e' => by have := g4 j e; have := hlt7 j e'; omega)
     refine ⟨fr9.trans FS (fun i e => Or.inr (by omega)), own9.fr2 FS (fun j e h => hne9 j e (Or.inr h)) (fun i y u e1 e2 => ⟨fun hl j e h => (apt9 i y u e1 e2).1 hl j e (Or.inr h), fun hl j e h => (apt9 i y u e1 e2).2 hl j e (Or.inr h)⟩), hne9, apt9, (fun u hu j e => by
      rcases List.mem_append.1 hu with hu | hu
      ·exact hI.nw u hu j e
      ·have hu := List.mem_singleton.1 hu
       subst hu
       have := hI.fr.size
       rcases e with e | e
       ·have := g1 j e; omega
       ·have := g2 j e; omega), bx9.all _ _ _ _ _ _ _, st3.far FS (fun _ j e h => by have := g3 j e; omega), st4.far FS (fun _ j e h => by have := g4 j e; omega), (fun _ j e => by have := g3 j e; omega), (fun _ j e => by have := g4 j e; omega), (fun j e => by have := g3 j e; have := hI.fr.size; omega), (fun j e => by have := g4 j e; have := hI.fr.size; omega), ?_⟩
     exact (((hI.res.kept FR7).kept F8).fr hf9 (fun e => hI.far b5 e (Or.inl rfl))).fr FS (by omega))
    have HPn := Zz (show PastAt x L (k + 1) (A ++ [⟨k1, p1, t1, f1, a1, o1, m1⟩]) ⟨k2, p2, t2, f2, a2, o2, m2⟩ from ⟨HT.out, HCy.out rfl, by rw [List.length_append, HP.out.len]; rfl⟩)
    have HS := Zz (show ∀ w', Fr (fun k => k = b8 ∨ (Value.slice vg A.length vc).ownBlock = some k) w7 w' → Fr (fun k => k = b8 ∨ (Value.slice vg A.length vc).ownBlock = some k) w7 w' ∧ w'.cell? ⟨w6.heap.size, 0, none⟩ = some (.int .i64 k1) ∧ w'.cell? ⟨w6.heap.size, 1, none⟩ = some (.string p1) ∧ w'.cell? ⟨w6.heap.size, 2, none⟩ = some (.string t1) ∧ w'.cell? ⟨w6.heap.size, 3, none⟩ = some (.string f1) ∧ w'.cell? ⟨w6.heap.size, 4, none⟩ = some (.int .i64 a1) ∧ w'.cell? ⟨w6.heap.size, 5, none⟩ = some (.slice po1 o1.length co1) ∧ w'.cell? ⟨w6.heap.size, 6, none⟩ = some (.slice pn1 m1.length cn1) ∧ w'.cell? ⟨w6.heap.size + 1, 0, none⟩ = some (.int .i64 k2) ∧ w'.cell? ⟨w6.heap.size + 1, 1, none⟩ = some (.string p2) ∧ w'.cell? ⟨w6.heap.size + 1, 2, none⟩ = some (.string t2) ∧ w'.cell? ⟨w6.heap.size + 1, 3, none⟩ = some (.string f2) ∧ w'.cell? ⟨w6.heap.size + 1, 4, none⟩ = some (.int .i64 a2) ∧ w'.cell? ⟨w6.heap.size + 1, 5, none⟩ = some (.slice po2 o2.length co2) ∧ w'.cell? ⟨w6.heap.size + 1, 6, none⟩ = some (.slice pn2 m2.length cn2) from fun w' f => by
     have hm1 : ¬ (w6.heap.size = b8 ∨ (Value.slice vg A.length vc).ownBlock = some w6.heap.size) := fun h => by rcases h with h | h; omega; have := hlt7 _ h; omega
     have hm2 : ¬ (w6.heap.size + 1 = b8 ∨ (Value.slice vg A.length vc).ownBlock = some (w6.heap.size + 1)) := fun h => by rcases h with h | h; omega; have := hlt7 _ h; omega
     obtain ⟨x0, x1, x2, x3, x4, x5, x6⟩ := (B11.fr f hm1).cells
     obtain ⟨y0, y1, y2, y3, y4, y5, y6⟩ := (B12.fr f hm2).cells
     exact ⟨f, x0, x1, x2, x3, x4, x5, x6, y0, y1, y2, y3, y4, y5, y6⟩)
    have hS0 := HS.out w7.drew (Fr.drew _ w7)
    have hS1 := HS.out (w7.alloc (.cells #[.int .i64 k1, .string p1, .string t1, .string f1, .int .i64 a1, .slice po1 o1.length co1, .slice pn1 m1.length cn1] 43)).drew (Fr.then (Fr.alloc _ _ _) (Fr.drew _ _))
    have f79 : Fr (fun k => k = b8 ∨ (Value.slice vg A.length vc).ownBlock = some k) w7 w9 := (Fr.any F8).then (hf9.mono (fun _ e => Or.inr e))
    have hS2 := HS.out w9 f79
    have hS3 := HS.out (setP w9 b8 (.int .i64 k2) (.string p2) (.string t2) (.string f2) (.int .i64 a2) (.slice po2 o2.length co2) (.slice pn2 m2.length cn2)) (f79.then (Fr.setP _ (Or.inl rfl) _ _ _ _ _ _ _))
    obtain ⟨c0, c1, c2, c3, c4, c5, c6⟩ := bx9.cells
    have cz := bx9.frozen
    rw [← hW8] at hr9
    have HRr := Zz hr9
    subst hv9
    generalize (A ++ [(⟨k1, p1, t1, f1, a1, o1, m1⟩ : Pr)]).length = al at HRr HIn
    clear FC FC7 F7 sC B11 B12 l12 r1 r2 r3 r4 g1 g2 g3 g4 hI hA h6 FR7 F8 B8 s8 own8 hlt7 hr9 own9 hf9 ho9 hne9 bx9 FS f79 hwC hW8
    go_wp2_with fail
    go_region_held3 (fun w' => Fr (fun k => k = b8 ∨ (Value.slice vg A.length vc).ownBlock = some k) w7 w' ∧ w'.cell? ⟨w6.heap.size, 0, none⟩ = some (.int .i64 k1) ∧ w'.cell? ⟨w6.heap.size, 1, none⟩ = some (.string p1) ∧ w'.cell? ⟨w6.heap.size, 2, none⟩ = some (.string t1) ∧ w'.cell? ⟨w6.heap.size, 3, none⟩ = some (.string f1) ∧ w'.cell? ⟨w6.heap.size, 4, none⟩ = some (.int .i64 a1) ∧ w'.cell? ⟨w6.heap.size, 5, none⟩ = some (.slice po1 o1.length co1) ∧ w'.cell? ⟨w6.heap.size, 6, none⟩ = some (.slice pn1 m1.length cn1) ∧ w'.cell? ⟨w6.heap.size + 1, 0, none⟩ = some (.int .i64 k2) ∧ w'.cell? ⟨w6.heap.size + 1, 1, none⟩ = some (.string p2) ∧ w'.cell? ⟨w6.heap.size + 1, 2, none⟩ = some (.string t2) ∧ w'.cell? ⟨w6.heap.size + 1, 3, none⟩ = some (.string f2) ∧ w'.cell? ⟨w6.heap.size + 1, 4, none⟩ = some (.int .i64 a2) ∧ w'.cell? ⟨w6.heap.size + 1, 5, none⟩ = some (.slice po2 o2.length co2) ∧ w'.cell? ⟨w6.heap.size + 1, 6, none⟩ = some (.slice pn2 m2.length cn2))
     (first | with_reducible exact hS0 | with_reducible exact hS1 | with_reducible exact hS2 | with_reducible exact hS3)
     (refine step_app9 rfl _ _ rfl rfl rfl (Hid.out HRr) ?_)
    clear hS0 hS1 hS2 hS3 c0 c1 c2 c3 c4 c5 c6 cz
    go_wp2_with fail
    exact ⟨⟨k + 1, _, _, _, po2, pn2, co2, cn2, by omega, by go_num, HPn.out, HIn.out⟩, by simp [intOf]; omega⟩
  ·have e : k = n := by omega
   subst e
   have HE := Zz (show Zk x L = (A, b, true) from by have h := HP.out.eq; rw [List.take_of_length_le (by rw [HLe.out]; exact Nat.le_refl _)] at h; exact h)
   obtain ⟨bK, bP, bT, bF, bA, bO, bN⟩ := b
   have HBx := HI.out.bx
   have HRs := HI.out.res
   simp only at HBx
   obtain ⟨xo, hxo⟩ : ∃ m, bO.length = m := ⟨_, rfl⟩
   obtain ⟨xn, hxn⟩ : ∃ m, bN.length = m := ⟨_, rfl⟩
   rw [hxo, hxn] at HBx
   have HBx2 := Zz HBx
   have HRs2 := Zz HRs
   have hb58 := HB58.out
   have HS := Zz (show ∀ w', Fr (fun k => k = b5) wr w' → Fr (fun k => k = b5) wr w' ∧ w'.cell? ⟨b8, 0, none⟩ = some (.int .i64 bK) ∧ w'.cell? ⟨b8, 1, none⟩ = some (.string bP) ∧ w'.cell? ⟨b8, 2, none⟩ = some (.string bT) ∧ w'.cell? ⟨b8, 3, none⟩ = some (.string bF) ∧ w'.cell? ⟨b8, 4, none⟩ = some (.int .i64 bA) ∧ w'.cell? ⟨b8, 5, none⟩ = some (.slice po xo co) ∧ w'.cell? ⟨b8, 6, none⟩ = some (.slice pn xn cn) from fun w' f => by
    obtain ⟨x0, x1, x2, x3, x4, x5, x6⟩ := (HBx2.out.fr f (by omega)).cells
    exact ⟨f, x0, x1, x2, x3, x4, x5, x6⟩)
   have hS0 := HS.out wr.drew (Fr.drew _ wr)
   have hS1 := HS.out (setP wr b5 (.int .i64 bK) (.string bP) (.string bT) (.string bF) (.int .i64 bA) (.slice po xo co) (.slice pn xn cn)).drew (Fr.then (Fr.setP (M := fun k => k = b5) _ rfl _ _ _ _ _ _ _) (Fr.drew _ _))
   obtain ⟨c0, c1, c2, c3, c4, c5, c6⟩ := HRs.cells
   have cz := HRs.frozen
   subst hva
   clear HBx HRs hlt
   go_wp2_with fail
   go_region_held3 (fun w' => Fr (fun k => k = b5) wr w' ∧ w'.cell? ⟨b8, 0, none⟩ = some (.int .i64 bK) ∧ w'.cell? ⟨b8, 1, none⟩ = some (.string bP) ∧ w'.cell? ⟨b8, 2, none⟩ = some (.string bT) ∧ w'.cell? ⟨b8, 3, none⟩ = some (.string bF) ∧ w'.cell? ⟨b8, 4, none⟩ = some (.int .i64 bA) ∧ w'.cell? ⟨b8, 5, none⟩ = some (.slice po xo co) ∧ w'.cell? ⟨b8, 6, none⟩ = some (.slice pn xn cn))
    (first | with_reducible exact hS0 | with_reducible exact hS1)
    (fail)
   clear hS0 hS1 c0 c1 c2 c3 c4 c5 c6 cz
   go_wp2_with fail
   have hB := (HRs2.out.all (.int .i64 bK) (.string bP) (.string bT) (.string bF) (.int .i64 bA) (.slice po xo co) (.slice pn xn cn)).drew
   have hF : Fr (fun k => k = b5) wr (setP wr b5 (.int .i64 bK) (.string bP) (.string bT) (.string bF) (.int .i64 bA) (.slice po xo co) (.slice pn xn cn)).drew := (Fr.setP (M := fun k => k = b5) wr rfl _ _ _ _ _ _ _).then (Fr.drew _ _)
   have hI := HI.out
   refine ret_tct (u := .bool true) rfl rfl rfl rfl rfl hB ?_
   unfold PastPost11
   rw [HE.out]
   refine ⟨_, _, V, rfl, hI.own.fr2 hF (fun k e h => hI.far k e (Or.inl h)) (fun k x u e1 e2 => ⟨fun hl j e h => (hI.apt k x u e1 e2).1 hl j e (Or.inl h), fun hl j e h => (hI.apt k x u e1 e2).2 hl j e (Or.inl h)⟩), hI.nw, ⟨_, _, rfl, ?_, ?_, ?_, ?_⟩, hI.fr.trans hF (fun i e => Or.inr (by omega))⟩
   ·have h := hI.so.far hF (fun hl j e h => hI.ao hl j e (Or.inl h)); simp only at h; rw [hxo] at h; exact h
   ·have h := hI.sn.far hF (fun hl j e h => hI.an hl j e (Or.inl h)); simp only at h; rw [hxn] at h; exact h
   ·have h := hI.go; simp only at h; rw [hxo] at h; exact h
   ·have h := hI.gn; simp only at h; rw [hxn] at h; exact h
end Go.Proofs.YtbnfjjjdnbcehaaGreatDoor
namespace Go.Proofs.YtbnfjjjdnbcehaaGreatDoor
open Go.RowKit Go.Shelf
set_option maxRecDepth 100000
attribute [local go_sem] Oper.semAt_some
structure KeepB (R : Nat → Prop) (W W' : World) : Prop where
 size : W.heap.size ≤ W'.heap.size
 same : ∀ k, R k → k < W.heap.size → W'.heap[k]? = W.heap[k]?
theorem KeepB.refl (R : Nat → Prop) (W : World) : KeepB R W W := ⟨Nat.le_refl _, fun _ _ _ => rfl⟩
theorem KeepB.trans {R : Nat → Prop} {A B C : World} (h : KeepB R A B) (k : KeepB R B C) : KeepB R A C := ⟨Nat.le_trans h.size k.size, fun i hi hl => (k.same i hi (by have := h.size; omega)).trans (h.same i hi hl)⟩
theorem KeepB.put {R : Nat → Prop} (W : World) {l : Nat} (hl : ∀ k, R k → k ≠ l) (o : Obj) : KeepB R W (W.putObj l o) := ⟨by simp, fun k hk _ => World.putObj_heap_other (fun e => hl k hk e)⟩
theorem KeepB.of {R M : Nat → Prop} {W W' : World} (f : Fr M W W') (h : ∀ k, R k → ¬ M k) : KeepB R W W' := ⟨f.size, fun k hk hl => f.block k hl (h k hk)⟩
theorem KeepB.cell {R : Nat → Prop} {W W' : World} (h : KeepB R W W') {a : Addr} {v : Value} (hc : W.cell? a = some v) (hr : R a.block) : W'.cell? a = some v := by
 have := h.same a.block hr (cell_lt hc)
 unfold World.cell? at hc ⊢
 rw [this]; exact hc
def RowC (W : World) (ad : Option Addr) (vs : List Value) : Prop := ∀ j v, vs[j]? = some v → ∃ g o, ad = some ⟨g, o, none⟩ ∧ W.cell? ⟨g, o + j, none⟩ = some v
theorem KeepB.row {R : Nat → Prop} {W W' : World} (h : KeepB R W W') {va : Option Addr} {L : List Value} (hr : RowC W va L) (hR : ∀ a, va = some a → R a.block) : RowC W' va L := fun j v hj => by
 obtain ⟨g, o, e, hc⟩ := hr j v hj
 exact ⟨g, o, e, h.cell hc (hR ⟨g, o, none⟩ e)⟩
def aggs (L : List Pr) (U : List (Value × Value)) : List Value := List.zipWith (fun x u => .agg #[.int .i64 x.kind, .string x.path, .string x.dst, .string x.src, .int .i64 x.pos, u.1, u.2]) L U
theorem aggs_length {L : List Pr} {U : List (Value × Value)} (h : U.length = L.length) : (aggs L U).length = L.length := by simp [aggs, h]
theorem aggs_get {L : List Pr} {U : List (Value × Value)} (h : U.length = L.length) {k : Nat} (hk : k < L.length) : (aggs L U)[k]'(by rw [aggs_length h]; exact hk) = .agg #[.int .i64 L[k].kind, .string L[k].path, .string L[k].dst, .string L[k].src, .int .i64 L[k].pos, (U[k]'(by omega)).1, (U[k]'(by omega)).2] := by
 simp [aggs]
def elB (L : List Value) (t : Nat) : Nat × Value := (L.length - 1 - t, L[L.length - 1 - t]?.getD (.bool false))
def uptoB (L : List Value) (m : Nat) : List (Nat × Value) := (List.range m).map (elB L)
theorem uptoB_succ (L : List Value) (m : Nat) : uptoB L (m + 1) = uptoB L m ++ [elB L m] := by
 simp [uptoB, List.range_succ]
theorem uptoB_length (L : List Value) (m : Nat) : (uptoB L m).length = m := by simp [uptoB]
theorem uptoB_snoc {L : List Value} {pre : List (Nat × Value)} {x : Nat × Value} {m : Nat} (h : pre ++ [x] = uptoB L m) : ∃ t, m = t + 1 ∧ pre = uptoB L t ∧ x = elB L t := by
 have hl := congrArg List.length h
 rw [uptoB_length, List.length_append] at hl
 cases m with
 | zero => simp at hl
 | succ t =>
  rw [uptoB_succ] at h
  obtain ⟨h1, h2⟩ := List.append_inj' h rfl
  exact ⟨t, rfl, h1, by simpa using h2⟩
theorem elB_get {L : List Value} {t k : Nat} (h : t + k + 1 = L.length) : elB L t = (k, L[k]'(by omega)) := by
 unfold elB
 rw [show L.length - 1 - t = k by omega, List.getElem?_eq_getElem (by omega)]
 rfl
theorem backP_any (va : Option Addr) (n c : Nat) (w : World) : Calls Tryz.prog 28 #[.slice va n c] w fun e w' => e = .returned (.func (.func 54) #[] #[.pointer (some ⟨w.heap.size, 0, none⟩)]) ∧ w' = w.alloc (.cells #[.slice va n c] 22) := by
 go_enter Tryz.func28, Tryz.ntmps28
 go_wp2_with fail
 go_ret
 exact ⟨rfl, rfl⟩
theorem backP_seq (b n c : Nat) (va : Option Addr) (L : List Pr) (U : List (Value × Value)) (N : Nat) (Rk : Nat → Prop) (hRb : Rk b) (hRa : L ≠ [] → ∀ a, va = some a → Rk a.block) (hU : U.length = L.length) (hN : L.length = N) (hL : N ≤ 90000) (hsl : ∀ u ∈ U, (∃ a n c, u.1 = .slice a n c) ∧ ∃ a n c, u.2 = .slice a n c) : SeqM (α := Nat × Value) Fence.wide n Tryz.prog 54 #[.pointer (some ⟨b, 0, none⟩)] (fun x => #[.int .i64 x.1, x.2]) None' (KeepB Rk)
  (fun xs => xs = uptoB (aggs L U) N) (fun pre => ∃ m, m ≤ N ∧ pre = uptoB (aggs L U) m) (fun W => W.cell? ⟨b, 0, none⟩ = some (.slice va N c) ∧ RowC W va (pcells L U)) := fun l J Jx W hB hJ hJx hY h0 => by
 obtain ⟨hb, hr⟩ := hB
 have HN : Hid (L.length = N ∧ U.length = L.length) := ⟨hN, hU⟩
 have HSL : Hid (∀ u ∈ U, (∃ a n c, u.1 = .slice a n c) ∧ ∃ a n c, u.2 = .slice a n c) := hsl
 have i1 : (N : Int) ≤ 90000 := by omega
 refine callsIn_of_wp Tryz.func54 rfl trivial ?_ rfl
 simp only [Tryz.ntmps54, List.size_toArray, List.length_cons, List.length_nil, Nat.reduceAdd, Nat.reduceSub, Array.replicate_succ, Array.replicate_zero, List.push_toArray, List.append_toArray, List.nil_append, List.cons_append]
 clear hN hU hsl
 gi_wp2
 gi_loopw [3] (fun v wr => ∃ k m : Nat, m + k = N ∧ v = .int .i64 ((k : Int) - 1) ∧ Hid (J (uptoB (aggs L U) m) wr) ∧ wr.cell? ⟨b, 0, none⟩ = some (.slice va N c) ∧ Hid (RowC wr va (pcells L U))) (fun v _ => (intOf v + 1).toNat)
 case atStart => exact ⟨N, 0, by omega, rfl, h0, hb, hr⟩
 case round =>
  clear hb hr h0
  obtain ⟨k, m, hkm, rfl, HJ, hb, HR⟩ := hrel
  cases k with
  | zero =>
   gi_wp2_with fail
   go_end0
   exact ⟨⟨_, rfl⟩, .inl ⟨_, by rw [show m = N by omega], HJ.out⟩⟩
  | succ k =>
   have hkB : k < L.length := by rw [HN.out.1]; omega
   have hkU : k < U.length := by rw [HN.out.2]; exact hkB
   have hx := pcells_get L U k L[k] U[k] (List.getElem?_eq_getElem hkB) (List.getElem?_eq_getElem hkU)
   obtain ⟨g, o, rfl, c0⟩ := HR.out _ _ (hx 0 (by omega))
   obtain ⟨g1, o1, e1, c1⟩ := HR.out _ _ (hx 1 (by omega))
   obtain ⟨g2, o2, e2, c2⟩ := HR.out _ _ (hx 2 (by omega))
   obtain ⟨g3, o3, e3, c3⟩ := HR.out _ _ (hx 3 (by omega))
   obtain ⟨g4, o4, e4, c4⟩ := HR.out _ _ (hx 4 (by omega))
   obtain ⟨g5, o5, e5, c5⟩ := HR.out _ _ (hx 5 (by omega))
   obtain ⟨g6, o6, e6, c6⟩ := HR.out _ _ (hx 6 (by omega))
   cases e1; cases e2; cases e3; cases e4; cases e5; cases e6
   rw [Nat.add_zero] at c0
   rw [← Nat.add_assoc] at c1 c2 c3 c4 c5 c6
   have e1 : ((k + 1 : Nat) : Int) - 1 = (k : Int) := by omega
   rw [e1]
   have i3 : (0 : Int) ≤ (k : Int) := by omega
   have i4 : (k : Int) < (N : Int) := by omega
   have hel := elB_get (L := aggs L U) (t := m) (k := k) (by rw [aggs_length HN.out.2, HN.out.1]; omega)
   rw [aggs_get HN.out.2 hkB] at hel
   obtain ⟨⟨pa, na, ca, hua⟩, pb, nb, cb, hub⟩ := HSL.out U[k] (List.getElem_mem hkU)
   rw [hua, hub] at hel
   rw [hua] at c5
   rw [hub] at c6
   generalize L[k] = x at c0 c1 c2 c3 c4 hel
   obtain ⟨K, P, T, F, A, lO, lN⟩ := x
   simp only at c0 c1 c2 c3 c4 hel
   have hup : uptoB (aggs L U) m ++ [(k, .agg #[.int .i64 K, .string P, .string T, .string F, .int .i64 A, .slice pa na ca, .slice pb nb cb])] = uptoB (aggs L U) (m + 1) := by rw [uptoB_succ, hel]
   obtain ⟨fn, tmps, assign, body, hy, hR⟩ := hY (uptoB (aggs L U) m) (k, .agg #[.int .i64 K, .string P, .string T, .string F, .int .i64 A, .slice pa na ca, .slice pb nb cb]) wr HJ.out ⟨m + 1, by omega, hup⟩
   dsimp only at hy
   have HU : Hid (uptoB (aggs L U) m ++ [(k, .agg #[.int .i64 K, .string P, .string T, .string F, .int .i64 A, .slice pa na ca, .slice pb nb cb])] = uptoB (aggs L U) (m + 1)) := hup
   have HRr : Hid (RowC wr (some ⟨g, o, none⟩) (pcells L U)) := HR.out
   clear hup hel HR HJ hY hua hub hx
   gi_wp2_with fail
   refine ⟨(fun h => by cases h), hR.mono ?_⟩
   clear hy hR
   rintro e W' (⟨rfl, hJ', hK⟩ | ⟨rfl, hJx'⟩)
   ·rw [HU.out] at hJ'
    have HJ' : Hid (J (uptoB (aggs L U) (m + 1)) W') := hJ'
    have hb' := hK.cell hb hRb
    have HR' : Hid (RowC W' (some ⟨g, o, none⟩) (pcells L U)) := hK.row HRr.out (hRa (fun e => by rw [e] at hkB; cases hkB))
    clear hJ' hK HRr hb c0 c1 c2 c3 c4 c5 c6
    gi_wp2_with fail
    go_roundw
    case rel => exact ⟨k, m + 1, by omega, rfl, HJ'.out, hb', HR'.out⟩
    case measure => simp [intOf]
   ·gi_wp2_with fail
    refine bodyPost_ret (results_none rfl _ _ _) rfl ?_
    rw [HU.out] at hJx'
    exact ⟨⟨_, rfl⟩, .inr ⟨_, ⟨m + 1, by omega, rfl⟩, hJx'⟩⟩
end Go.Proofs.YtbnfjjjdnbcehaaGreatDoor
namespace Go.Proofs.YtbnfjjjdnbcehaaGreatDoor
open Go.RowKit
set_option maxRecDepth 100000
theorem nilS10 (w : World) : Zv w (.slice none 0 0) [] := ⟨none, 0, rfl, fun _ => rfl, Nat.le_refl _, Lines.Row.nil _ _⟩
def CommC (a b : Pr) (r : Bool) (w : World) (e : Ending) (w' : World) : Prop := ∃ (po1 pn1 po2 pn2 : Option Addr) (co1 cn1 co2 cn2 : Nat), e = .returned (.tuple #[.agg #[.int .i64 a.kind, .string a.path, .string a.dst, .string a.src, .int .i64 a.pos, .slice po1 a.old.length co1, .slice pn1 a.new.length cn1], .agg #[.int .i64 b.kind, .string b.path, .string b.dst, .string b.src, .int .i64 b.pos, .slice po2 b.old.length co2, .slice pn2 b.new.length cn2], .bool r]) ∧ Hid ((Zv w' (.slice po1 a.old.length co1) a.old ∧ Zv w' (.slice pn1 a.new.length cn1) a.new) ∧ Zv w' (.slice po2 b.old.length co2) b.old ∧ Zv w' (.slice pn2 b.new.length cn2) b.new) ∧ Fr None' w w'
theorem CommPost.at {x y a b : Pr} {r : Bool} {w w' : World} {e : Ending} (hc : Zj x y = (a, b, r)) (h : CommPost x y w e w') : CommC a b r w e w' := by
 obtain ⟨va, vb, he, ⟨vo1, vn1, rfl, s1, s2, _, _⟩, ⟨vo2, vn2, rfl, s3, s4, _, _⟩, f⟩ := h
 rw [hc] at he s1 s2 s3 s4
 simp only at he s1 s2 s3 s4
 obtain ⟨po1, co1, rfl⟩ := s1.as2
 obtain ⟨pn1, cn1, rfl⟩ := s2.as2
 obtain ⟨po2, co2, rfl⟩ := s3.as2
 obtain ⟨pn2, cn2, rfl⟩ := s4.as2
 exact ⟨po1, pn1, po2, pn2, co1, cn1, co2, cn2, he, ⟨⟨s1, s2⟩, s3, s4⟩, f⟩
def hdP : Pr := ⟨7, ⟨#[97]⟩, ⟨#[]⟩, ⟨#[]⟩, 0, [⟨#[120]⟩], [⟨#[121]⟩, ⟨#[122]⟩]⟩
def hdQ : Pr := ⟨7, ⟨#[97]⟩, ⟨#[]⟩, ⟨#[]⟩, 5, [⟨#[119]⟩], []⟩
def hdM : Pr := ⟨10, ⟨#[109]⟩, ⟨#[110]⟩, ⟨#[]⟩, 0, [], []⟩
def hdB : Pr := ⟨9, ⟨#[110, 47, 120]⟩, ⟨#[49]⟩, ⟨#[]⟩, 0, [], []⟩
theorem hd1 : Zj hdP hdQ = (⟨7, ⟨#[97]⟩, ⟨#[]⟩, ⟨#[]⟩, 4, [⟨#[119]⟩], []⟩, hdP, true) := by kernel_rfl
theorem hd2 : Zj hdM hdB = (⟨9, ⟨#[109, 47, 120]⟩, ⟨#[49]⟩, ⟨#[]⟩, 0, [], []⟩, hdM, true) := by kernel_rfl
end Go.Proofs.YtbnfjjjdnbcehaaGreatDoor
namespace Go.Proofs.YtbnfjjjdnbcehaaGreatDoor
open Go.RowKit
set_option maxRecDepth 100000
theorem comm_small {x y : Pr} (sx : Zs x) (sy : Zs y) (h : (Zj x y).2.2 = true) : Zs (Zj x y).1 ∧ Zs (Zj x y).2.1 := by
 obtain ⟨h1, h2, h3, _⟩ := commP_yes h
 rw [h3]
 exact rule_small h1 h2 sx sy
end Go.Proofs.YtbnfjjjdnbcehaaGreatDoor
