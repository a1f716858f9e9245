/-
  What is proved here: RecordRight answers true; what is recorded is right, tells no two alike, and is empty for alike trees; the document's Same of two trees. Conditions: its arguments lie in memory, and are no longer than the reach; the two tables hold what they are laid with.
-/
import Derived.Test.YtbnfjjjdnbcehaaGreatDoorQ58RecW12
import Derived.Test.YtbnfjjjdnbcehaaGreatDoorQSameE
import Derived.Test.YtbnfjjjdnbcehaaGreatDoorQ26RFindE
import Derived.Test.YtbnfjjjdnbcehaaGreatDoorQRule8
namespace Go.Proofs.YtbnfjjjdnbcehaaGreatDoor
open Go.RowKit
set_option maxRecDepth 100000

theorem chg_alike (p : ByteArray) {f t : En} (h1 : f.lines = t.lines) (h2 : f.data = t.data) : chgL p f t = [] := by
  unfold chgL
  rw [h1, if_pos h2, (Diff.diffs_nil_iff _ _).2 rfl]
  rfl

theorem like_self {a : List En} (ha : Strict a) {x : En} (hx : x ∈ a) : likeE a x = some x := like_of ha hx rfl rfl

theorem rec_same {a : List En} (ha : TreeR a) : recL a a = [] := by
  unfold recL
  rw [List.append_eq_nil_iff]
  refine ⟨List.flatMap_eq_nil_iff.2 (fun x hx => ?_), List.flatMap_eq_nil_iff.2 (fun x hx => ?_)⟩
  · unfold goL
    rw [like_self ha.strict (List.mem_reverse.1 hx)]
  · unfold comeL
    rw [like_self ha.strict hx]
    exact chg_alike _ rfl rfl

theorem rec_nil {a b : List En} (ha : TreeR a) (hb : TreeR b) (hlen : ∀ x ∈ b, x.lines.length ≤ 1073741824) : recL a b = [] ↔ a = b := by
  constructor
  · intro h
    have := rec_makes ha hb hlen
    rw [h] at this
    simp only [runE, Prod.mk.injEq] at this
    exact this.1
  · rintro rfl
    exact rec_same ha

theorem run_all_right : ∀ {ps : List Pr} {L M : List En} {k : Nat}, runE L ps k = (M, 0, 0) → ∀ p ∈ ps, rightP p = true
  | [], _, _, _, _, p, hp => by cases hp
  | q :: ps, L, M, k, h, p, hp => by
    obtain ⟨M1, h1, h2⟩ := run_cons.1 h
    rcases List.mem_cons.1 hp with rfl | hp
    · exact (do_of h1).1
    · exact run_all_right h2 p hp

theorem rec_right {a b : List En} (ha : TreeR a) (hb : TreeR b) (hlen : ∀ x ∈ b, x.lines.length ≤ 1073741824) : ∀ p ∈ recL a b, rightP p = true := run_all_right (rec_makes ha hb hlen)

theorem chg_path {at' : ByteArray} {f t : En} {p : Pr} (h : p ∈ chgL at' f t) : p.path = at' := by
  rcases chg_mem h with ⟨_, _, rfl⟩ | ⟨_, rfl⟩ <;> rfl

theorem go_path {b : List En} {x : En} {p : Pr} (h : p ∈ goL b x) : p.path = x.path ∧ likeE b x = none := by
  unfold goL at h
  cases hl : likeE b x with
  | some y => rw [hl] at h; cases h
  | none =>
    rw [hl] at h
    rcases List.mem_append.1 h with h | h
    · exact ⟨chg_path h, rfl⟩
    · simp at h
      exact ⟨by rw [h]; rfl, rfl⟩

theorem come_path {a : List En} {x : En} {p : Pr} (h : p ∈ comeL a x) : p.path = x.path ∧ likeE a x ≠ some x := by
  unfold comeL at h
  cases hl : likeE a x with
  | some y =>
    rw [hl] at h
    refine ⟨chg_path h, fun e => ?_⟩
    cases e
    dsimp only at h
    rw [show chgL x.path x x = [] from chg_alike _ rfl rfl] at h
    cases h
  | none =>
    rw [hl] at h
    refine ⟨?_, fun e => by cases e⟩
    rcases List.mem_cons.1 h with rfl | h
    · rfl
    · exact chg_path h

theorem rec_apart {a b : List En} (ha : TreeR a) (hb : TreeR b) {p : Pr} (hp : p ∈ recL a b) {x : En} (h1 : findE a (bl p.path) = some x) (h2 : findE b (bl p.path) = some x) : False := by
  unfold recL at hp
  rcases List.mem_append.1 hp with hp | hp
  · obtain ⟨y, hy, hm⟩ := List.mem_flatMap.1 hp
    obtain ⟨e, hl⟩ := go_path hm
    have hxy : y = x := by
      have := find_is ha.strict (List.mem_reverse.1 hy) rfl
      rw [e, this] at h1
      exact Option.some.inj h1
    subst hxy
    rw [like_of hb.strict (find_some h2).1 rfl rfl] at hl
    cases hl
  · obtain ⟨y, hy, hm⟩ := List.mem_flatMap.1 hp
    obtain ⟨e, hl⟩ := come_path hm
    have hxy : y = x := by
      have := find_is hb.strict hy rfl
      rw [e, this] at h2
      exact Option.some.inj h2
    subst hxy
    exact hl (like_of ha.strict (find_some h1).1 rfl rfl)

set_option maxHeartbeats 4000000 in
theorem qright_any (x : Pr) (vo vn : Value) (w : World) (ho : StrsAt w vo x.old) (hn : StrsAt w vn x.new) (hs : SmallP x) :
    Calls Tryz.prog 24 #[.agg #[.int .i64 x.kind, .string x.path, .string x.dst, .string x.src, .int .i64 x.pos, vo, vn]] w fun e w' => e = .returned (.bool (rightP x)) ∧ Fr None' w w' := by
  have HR : Hid (∀ w', Fr None' w w' → Calls Tryz.prog 51 #[.agg #[.int .i64 x.kind, .string x.path, .string x.dst, .string x.src, .int .i64 x.pos, vo, vn]] w' fun e w'' => RulePost x.kind (rightP x) w' e w'') := fun w' f => ruleOf_any x vo vn w' (ho.kept f) (hn.kept f) hs
  generalize rightP x = R at HR ⊢
  obtain ⟨pa, ca, rfl, _⟩ := ho.sl
  obtain ⟨pb, cb, rfl, _⟩ := hn.sl
  obtain ⟨K, P, T, F, A, lO, lN⟩ := x
  simp only at HR ⊢
  generalize lO.length = no at HR ⊢
  generalize lN.length = nn at HR ⊢
  obtain ⟨w1, hw1⟩ : ∃ w1, w.alloc (.cells #[.int .i64 K, .string P, .string T, .string F, .int .i64 A, .slice pa no ca, .slice pb nn cb] 43) = w1 := ⟨_, rfl⟩
  have F1 : Fr None' w w1 := hw1 ▸ Fr.alloc None' w _
  obtain ⟨a0, a1, a2, a3, a4, a5, a6⟩ := (hw1 ▸ Box.new w _ _ _ _ _ _ _ : Box w1 w.heap.size (.int .i64 K) (.string P) (.string T) (.string F) (.int .i64 A) (.slice pa no ca) (.slice pb nn cb)).cells
  have q1 := HR.out w1 F1
  have HF : Hid (Fr None' w w1) := F1
  clear F1 ho hn hs
  go_enter Tryz.func24, Tryz.ntmps24
  go_wp2_with fail
  with_reducible refine q1.mono ?_
  rintro e w2 ⟨r0, r1, rfl, ⟨h0, h1⟩, _, f2⟩
  have HF2 : Hid (Fr None' w w2) := HF.out.then7 f2
  have H01 : Hid (r0.oneCell' = true ∧ r1.oneCell' = true) := ⟨h0, h1⟩
  clear q1 f2 h0 h1
  go_wp2_with (refine wpList_store_row rfl _ _ _ rfl w2.heap.size _ rfl rfl 83 _ (heap_alloc_new w2 _) infoRule (by simp) (by simp [H01.out.1, H01.out.2]) ?_)
  go_ret
  exact ⟨rfl, HF2.out.then7 ((Fr.alloc None' w2 _).trans (Fr.setRow (M := fun i => i = w2.heap.size) _ rfl _) (fun i e => Or.inr (by omega)))⟩

end Go.Proofs.YtbnfjjjdnbcehaaGreatDoor

namespace Go.Proofs.YtbnfjjjdnbcehaaGreatDoor
open Go.RowKit
set_option maxRecDepth 100000
attribute [local irreducible] wpQuiet

/-- What Same answers. -/
def SameP12 (A B : List En) (w : World) (e : Ending) (w' : World) : Prop := ∃ r : Bool, e = .returned (.bool r) ∧ (r = true ↔ A = B) ∧ Fr None' w w'

theorem mk12 {A B : List En} {w : World} {e : Ending} {w' : World} (r : Bool) (h1 : e = .returned (.bool r)) (h2 : r = true ↔ A = B) (h3 : Fr None' w w') : SameP12 A B w e w' := ⟨r, h1, h2, h3⟩

theorem differ12 {A B : List En} {k : Nat} (h1 : k < A.length) (h2 : k < B.length) (h : ¬ A[k] = B[k]) : (false = true ↔ A = B) := ⟨fun e => Bool.noConfusion e, fun e => absurd (by subst e; rfl) h⟩

theorem alike12 {A B : List En} {n : Nat} (h1 : A.length = n) (h2 : B.length = n) (h : A.take n = B.take n) : (true = true ↔ A = B) := ⟨fun _ => by rw [← List.take_length (l := A), ← List.take_length (l := B), h1, h2]; exact h, fun _ => rfl⟩

theorem take12 {A B : List En} {k : Nat} (h1 : k < A.length) (h2 : k < B.length) (h : A.take k = B.take k) (e : A[k] = B[k]) : A.take (k + 1) = B.take (k + 1) := by
  rw [List.take_succ_eq_append_getElem h1, List.take_succ_eq_append_getElem h2, h, e]

set_option maxHeartbeats 8000000 in
theorem esame_dec (va vb : Option Addr) (n c m d : Nat) (A B : List En) (w : World) (hl : A.length = n) (hm : B.length = m) (ha : EntsAt w va A) (hb : EntsAt w vb B) (hn : n ≤ 100000) (hn2 : m ≤ 100000) (hs : SmallE A) :
    Calls Tryz.prog 23 #[.slice va n c, .slice vb m d] w (SameP12 A B w) := by
  have HL : Hid (A.length = n) := hl
  have HM : Hid (B.length = m) := hm
  have HA : Hid (EntsAt w va A) := ha
  have HB : Hid (EntsAt w vb B) := hb
  have HS : Hid (SmallE A) := hs
  have i1 : (n : Int) ≤ 100000 := by omega
  have i1' : (m : Int) ≤ 100000 := by omega
  clear hl hm ha hb hs
  by_cases hnm : n = m
  case neg =>
    have HNo := toHid8 (show (false = true ↔ A = B) from ⟨fun e => Bool.noConfusion e, fun e => absurd (by rw [← HL.out, ← HM.out, e]) hnm⟩)
    have z0 : ¬ (n : Int) = (m : Int) := by omega
    have z1 : ((n : Int) == (m : Int)) = false := by simpa using z0
    clear hnm
    go_enter Tryz.func23, Tryz.ntmps23
    go_wp2_with fail
    go_ret
    exact mk12 false rfl HNo.out (Fr.refl _ _)
  case pos =>
  subst hnm
  clear hn hn2 i1'
  go_enter Tryz.func23, Tryz.ntmps23
  go_wp2_with fail
  go_loopw [5] (fun vi wr => ∃ k : Nat, k ≤ n ∧ vi = .int .i64 k ∧ Hid (A.take k = B.take k) ∧ Hid (Fr None' w wr)) (fun vi _ => n - (intOf vi).toNat)
  case atStart => exact ⟨0, Nat.zero_le _, rfl, rfl, Fr.refl _ _⟩
  case round =>
    obtain ⟨k, hk, rfl, HT, HF⟩ := hrel
    by_cases hlt : k < n
    · have hkL : k < A.length := by rw [HL.out]; exact hlt
      have hkM : k < B.length := by rw [HM.out]; exact hlt
      obtain ⟨g, o, rfl, vl, d0, d1, d2, d3, hs1⟩ := (HA.out.kept HF.out).get hkL
      obtain ⟨g2, o2, rfl, vl2, e0, e1, e2, e3, hs2⟩ := (HB.out.kept HF.out).get hkM
      obtain ⟨z1, z2, z3, z4⟩ := HS.out _ (List.getElem_mem hkL)
      obtain ⟨pl, cl, rfl, _, _, r1⟩ := hs1
      obtain ⟨pl2, cl2, rfl, _, _, r2⟩ := hs2
      obtain ⟨R, hR⟩ : ∃ R, decide (A[k].lines = B[k].lines) = R := ⟨_, rfl⟩
      have cS : ∀ x : FrE wr, Calls Tryz.prog 50 #[.slice pl A[k].lines.length cl, .slice pl2 B[k].lines.length cl2] x.to fun e w' => e = .returned (.bool R) ∧ ∃ y : FrE wr, w' = y.to := fun x => by
        have h := Lines.same_any pl pl2 cl cl2 A[k].lines B[k].lines x.to (r1.fr (toLN x.fr)) (r2.fr (toLN x.fr)) (by omega)
        rw [hR] at h
        exact h.mono fun _ _ h => ⟨h.1, ⟨_, x.fr.then7 (ofLN h.2)⟩, rfl⟩
      have HN := toHid8 (fun h => take12 hkL hkM HT.out h)
      have HD := toHid8 (fun h => differ12 hkL hkM h)
      have HR := toHid8 hR
      obtain ⟨x, hxe⟩ : ∃ x, A[k] = x := ⟨_, rfl⟩
      obtain ⟨y, hye⟩ : ∃ y, B[k] = y := ⟨_, rfl⟩
      rw [hxe] at d0 d1 d2 d3 cS HN HD HR
      rw [hye] at e0 e1 e2 e3 cS HN HD HR
      clear hR
      obtain ⟨P, K, l, Da⟩ := x
      obtain ⟨P', K', l', Da'⟩ := y
      simp only at d0 d1 d2 d3 e0 e1 e2 e3 cS
      obtain ⟨nl, hnl⟩ : ∃ m, l.length = m := ⟨_, rfl⟩
      obtain ⟨ml, hml⟩ : ∃ m, l'.length = m := ⟨_, rfl⟩
      rw [hnl] at d2 cS
      rw [hml] at e2 cS
      have K0 : ∀ x : FrE wr, x.to.cell? ⟨g, o + k * 4, none⟩ = some (.string P) := fun x => x.fr.keepCell d0 (fun e => e)
      have K1 : ∀ x : FrE wr, x.to.cell? ⟨g, o + k * 4 + 1, none⟩ = some (.int .i64 K) := fun x => x.fr.keepCell d1 (fun e => e)
      have K2 : ∀ x : FrE wr, x.to.cell? ⟨g, o + k * 4 + 2, none⟩ = some (.slice pl nl cl) := fun x => x.fr.keepCell d2 (fun e => e)
      have K3 : ∀ x : FrE wr, x.to.cell? ⟨g, o + k * 4 + 3, none⟩ = some (.string Da) := fun x => x.fr.keepCell d3 (fun e => e)
      have J0 : ∀ x : FrE wr, x.to.cell? ⟨g2, o2 + k * 4, none⟩ = some (.string P') := fun x => x.fr.keepCell e0 (fun e => e)
      have J1 : ∀ x : FrE wr, x.to.cell? ⟨g2, o2 + k * 4 + 1, none⟩ = some (.int .i64 K') := fun x => x.fr.keepCell e1 (fun e => e)
      have J2 : ∀ x : FrE wr, x.to.cell? ⟨g2, o2 + k * 4 + 2, none⟩ = some (.slice pl2 ml cl2) := fun x => x.fr.keepCell e2 (fun e => e)
      have J3 : ∀ x : FrE wr, x.to.cell? ⟨g2, o2 + k * 4 + 3, none⟩ = some (.string Da') := fun x => x.fr.keepCell e3 (fun e => e)
      have i2 : (k : Int) < (n : Int) := by omega
      have i3 : (0 : Int) ≤ (k : Int) := by omega
      clear hxe hye hnl hml d0 d1 d2 d3 e0 e1 e2 e3 z1 z2 z3 z4 r1 r2
      by_cases hP : P = P'
      case neg =>
        have HNo := toHid8 (HD.out (fun e => hP (by injection e)))
        obtain ⟨z1, z2⟩ := Lines.str_no hP
        clear hP HN HD HR
        go_wp2_with fail
        refine wp_region_quiet (C := fun w' => ∃ x : FrE wr, w' = x.to) (by kernel_rfl) (by kernel_rfl) ⟨⟨_, Fr.drew None' wr⟩, rfl⟩ ?_
        simp only
        repeat (quiet_step ((go_at_call 50; exact cS _)))
        refine wpQuiet_nil ?_
        intro w10 hw10
        obtain ⟨x, rfl⟩ := hw10
        have HX : Hid (Fr None' w x.to) := HF.out.then7 x.fr
        clear K0 K1 K2 K3 J0 J1 J2 J3 cS
        go_wp2_with fail
        go_ret
        exact mk12 false rfl HNo.out HX.out
      case pos =>
      subst hP
      by_cases hK : K = K'
      case neg =>
        have HNo := toHid8 (HD.out (fun e => hK (by injection e)))
        have z1 : (K == K') = false := beq_eq_false_iff_ne.2 hK
        have z2 : (K != K') = true := by unfold bne; rw [z1]; rfl
        clear hK HN HD HR
        go_wp2_with fail
        refine wp_region_quiet (C := fun w' => ∃ x : FrE wr, w' = x.to) (by kernel_rfl) (by kernel_rfl) ⟨⟨_, Fr.drew None' wr⟩, rfl⟩ ?_
        simp only
        repeat (quiet_step ((go_at_call 50; exact cS _)))
        refine wpQuiet_nil ?_
        intro w10 hw10
        obtain ⟨x, rfl⟩ := hw10
        have HX : Hid (Fr None' w x.to) := HF.out.then7 x.fr
        clear K0 K1 K2 K3 J0 J1 J2 J3 cS
        go_wp2_with fail
        go_ret
        exact mk12 false rfl HNo.out HX.out
      case pos =>
      subst hK
      by_cases hD : Da = Da'
      case neg =>
        have HNo := toHid8 (HD.out (fun e => hD (by injection e)))
        obtain ⟨z1, z2⟩ := Lines.str_no hD
        clear hD HN HD HR
        go_wp2_with fail
        refine wp_region_quiet (C := fun w' => ∃ x : FrE wr, w' = x.to) (by kernel_rfl) (by kernel_rfl) ⟨⟨_, Fr.drew None' wr⟩, rfl⟩ ?_
        simp only
        repeat (quiet_step ((go_at_call 50; exact cS _)))
        refine wpQuiet_nil ?_
        intro w10 hw10
        obtain ⟨x, rfl⟩ := hw10
        have HX : Hid (Fr None' w x.to) := HF.out.then7 x.fr
        clear K0 K1 K2 K3 J0 J1 J2 J3 cS
        go_wp2_with fail
        go_ret
        exact mk12 false rfl HNo.out HX.out
      case pos =>
      subst hD
      cases R with
      | false =>
        have HNo := toHid8 (HD.out (fun e => of_decide_eq_false HR.out (by injection e)))
        clear HN HD HR
        go_wp2_with fail
        refine wp_region_quiet (C := fun w' => ∃ x : FrE wr, w' = x.to) (by kernel_rfl) (by kernel_rfl) ⟨⟨_, Fr.drew None' wr⟩, rfl⟩ ?_
        simp only
        repeat (quiet_step ((go_at_call 50; exact cS _)))
        refine wpQuiet_nil ?_
        intro w10 hw10
        obtain ⟨x, rfl⟩ := hw10
        have HX : Hid (Fr None' w x.to) := HF.out.then7 x.fr
        clear K0 K1 K2 K3 J0 J1 J2 J3 cS
        go_wp2_with fail
        go_ret
        exact mk12 false rfl HNo.out HX.out
      | true =>
        have HN1 := toHid8 (HN.out (by have h : l = l' := of_decide_eq_true HR.out; rw [h]))
        clear HN HD HR
        go_wp2_with fail
        refine wp_region_quiet (C := fun w' => ∃ x : FrE wr, w' = x.to) (by kernel_rfl) (by kernel_rfl) ⟨⟨_, Fr.drew None' wr⟩, rfl⟩ ?_
        simp only
        repeat (quiet_step ((go_at_call 50; exact cS _)))
        refine wpQuiet_nil ?_
        intro w10 hw10
        obtain ⟨x, rfl⟩ := hw10
        have HX : Hid (Fr None' w x.to) := HF.out.then7 x.fr
        clear K0 K1 K2 K3 J0 J1 J2 J3 cS
        go_wp2_with fail
        exact ⟨⟨k + 1, by omega, by go_num, HN1.out, HX.out⟩, by simp [intOf]; omega⟩
    · have e : n = k := by omega
      subst e
      have i2 : ¬ (n : Int) < (n : Int) := by omega
      go_wp2_with fail
      go_ret
      exact mk12 true rfl (alike12 HL.out HM.out HT.out) HF.out

end Go.Proofs.YtbnfjjjdnbcehaaGreatDoor

namespace Go.Proofs.YtbnfjjjdnbcehaaGreatDoor
open Go.RowKit Go.Maps Go.WideMaps
set_option maxRecDepth 100000

theorem ent_one12 {w : World} {b : Nat} {x : En} {vl : Value} (h : EBox w b (.string x.path) (.int .i64 x.kind) vl (.string x.data)) (hs : StrsAt w vl x.lines) : EntsAt w (some ⟨b, 0, none⟩) [x] := fun j y hj => by
  have hj0 : j = 0 := by have := (List.getElem?_eq_some_iff.1 hj).1; simpa using this
  subst hj0
  have hx0 : y = x := by simpa using hj.symm
  subst hx0
  obtain ⟨c0, c1, c2, c3⟩ := h.cells
  exact ⟨b, 0, rfl, vl, c0, c1, c2, c3, hs⟩

theorem find12 {r : Option En} {w : World} {args : Array Value} (h : Calls Tryz.prog 25 args w (FindPost w r)) : Calls Tryz.prog 25 args w fun e w' => ∃ (P : ByteArray) (K : Int) (pl : Option Addr) (nl cl : Nat) (Da : ByteArray) (l : List ByteArray) (b : Bool), e = .returned (.tuple #[.agg #[.string P, .int .i64 K, .slice pl nl cl, .string Da], .bool b]) ∧ Hid (l.length = nl ∧ StrsAt w' (.slice pl nl cl) l ∧ (b = true → r = some ⟨P, K, l, Da⟩)) ∧ Fr None' w w' := h.mono fun e w' q => by
  obtain ⟨f, q⟩ := q
  cases r with
  | none =>
    subst q
    exact ⟨_, _, none, 0, 0, _, [], false, rfl, ⟨rfl, ⟨none, 0, rfl, fun _ => rfl, Nat.le_refl _, Lines.Row.nil _ _⟩, fun e => Bool.noConfusion e⟩, f⟩
  | some x =>
    obtain ⟨vl, rfl, hs⟩ := q
    obtain ⟨pl, cl, rfl⟩ := hs.as2
    exact ⟨_, _, pl, _, cl, _, x.lines, true, rfl, ⟨rfl, hs, fun _ => rfl⟩, f⟩

set_option maxHeartbeats 16000000 in
theorem rright_walk (va : Option Addr) (n c : Nat) (a : List En) (vb : Option Addr) (m d : Nat) (b : List En) (W : World) (ht : TabsAt W) (hl : a.length = n) (ha : EntsAt W va a) (hn : n ≤ 140737488355328) (hx : ∀ x ∈ a, x.lines.length ≤ 140737488355328) (hl2 : b.length = m) (ha2 : EntsAt W vb b) (hn2 : m ≤ 140737488355328) (hx2 : ∀ x ∈ b, x.lines.length ≤ 140737488355328) :
    Calls Tryz.prog 5 #[.slice va n c, .slice vb m d] W fun e w' => e = .returned (.bool true) ∧ Fr None' W w' := by
  have HG1 := toHid8 (fun w' (f : Fr None' W w') => great_any va n c a w' hl (ha.kept f) hn hx)
  have HG2 := toHid8 (fun w' (f : Fr None' W w') => great_any vb m d b w' hl2 (ha2.kept f) hn2 hx2)
  unfold GreatPost at HG1 HG2
  have HL := toHid8 (And.intro hl hl2)
  have HE := toHid8 (show (∀ w', Fr None' W w' → EntsAt w' va a) ∧ (∀ w', Fr None' W w' → EntsAt w' vb b) from ⟨fun w' f => ha.kept f, fun w' f => ha2.kept f⟩)
  have HT := toHid8 (fun w' (f : Fr None' W w') => ht.kept f)
  have HF0 := toHid8 (Fr.refl None' W)
  have q1 := head12_any W ht
  clear ht hl ha hn hx hl2 ha2 hn2 hx2
  go_enter Tryz.func5, Tryz.ntmps5
  go_wp2_with fail
  with_reducible refine q1.mono ?_
  rintro e w1 ⟨rfl, f⟩
  have HF1 := toHid8 (HF0.out.then7 f)
  clear q1 f HF0
  have q2 := HG1.out w1 HF1.out
  clear HG1
  go_wp2_with fail
  with_reducible refine q2.mono ?_
  rintro e w2 ⟨g, rfl, hg, f⟩
  have HF2 := toHid8 (HF1.out.then7 f)
  have HGf := toHid8 hg
  clear q2 f hg HF1
  cases g with
  | true =>
    go_wp2_with fail
    go_ret
    exact ⟨rfl, HF2.out⟩
  | false =>
  have HWa := toHid8 (HGf.out rfl)
  have q3 := HG2.out w2 HF2.out
  clear HGf HG2
  go_wp2_with fail
  with_reducible refine q3.mono ?_
  rintro e w3 ⟨g, rfl, hg, f⟩
  have HF3 := toHid8 (HF2.out.then7 f)
  have HGf := toHid8 hg
  clear q3 f hg HF2
  cases g with
  | true =>
    go_wp2_with fail
    go_ret
    exact ⟨rfl, HF3.out⟩
  | false =>
  have HWb := toHid8 (HGf.out rfl)
  have q4 := eright_any va n c a w3 HL.out.1 (HE.out.1 w3 HF3.out) (by have := (weight_smE HWa.out).2.1; have := HL.out.1; omega) (weight_smE HWa.out).1
  have HRb := toHid8 (fun w' f => eright_any vb m d b w' HL.out.2 (HE.out.2 w' f) (by have := (weight_smE HWb.out).2.1; have := HL.out.2; omega) (weight_smE HWb.out).1)
  clear HGf
  cases ra : treeRight a with
  | false =>
    rw [ra] at q4
    clear ra
    go_wp2_with fail
    with_reducible refine q4.mono ?_
    rintro e w4 ⟨rfl, f⟩
    have HF4 := toHid8 (HF3.out.then7 f)
    clear q4 f HF3
    go_wp2_with fail
    go_ret
    exact ⟨rfl, HF4.out⟩
  | true =>
  rw [ra] at q4
  have Hra := toHid8 ra
  clear ra
  go_wp2_with fail
  with_reducible refine q4.mono ?_
  rintro e w4 ⟨rfl, f⟩
  have HF4 := toHid8 (HF3.out.then7 f)
  have q5 := HRb.out w4 HF4.out
  clear q4 f HF3 HRb
  cases rb : treeRight b with
  | false =>
    rw [rb] at q5
    clear rb
    go_wp2_with fail
    with_reducible refine q5.mono ?_
    rintro e w5 ⟨rfl, f⟩
    have HF5 := toHid8 (HF4.out.then7 f)
    clear q5 f HF4
    go_wp2_with fail
    go_ret
    exact ⟨rfl, HF5.out⟩
  | true =>
  rw [rb] at q5
  have Hrb := toHid8 rb
  clear rb
  go_wp2_with fail
  with_reducible refine q5.mono ?_
  rintro e w5 ⟨rfl, f⟩
  have HF5 := toHid8 (HF4.out.then7 f)
  have q6 := rec12_yes Hra.out Hrb.out (record12_any va vb n c m d a b w5 HL.out.1 HL.out.2 (HE.out.1 w5 HF5.out) (HE.out.2 w5 HF5.out) HWa.out HWb.out (HT.out w5 HF5.out))
  clear q5 f HF4 HT
  have hNil := rec_nil ((treeR a).1 Hra.out) ((treeR b).1 Hrb.out) (mk_len HWb.out)
  have hRt := rec_right ((treeR a).1 Hra.out) ((treeR b).1 Hrb.out) (mk_len HWb.out)
  have hAp := fun (p : Pr) (hp : p ∈ recL a b) (x : En) h1 h2 => rec_apart ((treeR a).1 Hra.out) ((treeR b).1 Hrb.out) (p := p) hp (x := x) h1 h2
  have hSm := rec_sm (a := a) (b := b) HWa.out HWb.out
  have hK := mk_count Hra.out Hrb.out HWa.out HWb.out
  obtain ⟨X, hX⟩ : ∃ X, recL a b = X := ⟨_, rfl⟩
  rw [hX] at q6 hNil hRt hAp hSm hK
  have HNil := toHid8 hNil
  have HP := toHid8 (show ∀ p ∈ X, rightP p = true ∧ SmPr p ∧ ∀ x, findE a (bl p.path) = some x → findE b (bl p.path) = some x → False from fun p hp => ⟨hRt p hp, hSm p hp, fun x h1 h2 => hAp p hp x h1 h2⟩)
  have HK := toHid8 hK.1
  clear hX hNil hRt hAp hSm hK
  go_wp2_with fail
  with_reducible refine q6.mono ?_
  rintro e w6 ⟨p5, n5, c5, rfl, HX, f⟩
  have HF6 := toHid8 (HF5.out.then7 f)
  have HXl := toHid8 HX.out.1
  have HPX := toHid8 HX.out.2.1
  have i5 : (n5 : Int) ≤ 20000 := by have := HX.out.1; have := HK.out; omega
  have q7 := esame_dec va vb n c m d a b w6 HL.out.1 HL.out.2 (HE.out.1 w6 HF6.out) (HE.out.2 w6 HF6.out) (by have := (weight_smE HWa.out).2.1; have := HL.out.1; omega) (by have := (weight_smE HWb.out).2.1; have := HL.out.2; omega) (weight_smE HWa.out).1
  unfold SameP12 at q7
  clear q6 f HF5 HX
  go_wp2_with fail
  with_reducible refine q7.mono ?_
  rintro e w7 ⟨r, rfl, hr, f⟩
  have HF7 := toHid8 (HF6.out.then7 f)
  have HPX7 := toHid8 (HPX.out.kept f)
  have hz : ((n5 : Int) == 0) = r := by
    have h := HNil.out
    cases r with
    | true => have e := h.2 (hr.1 rfl); have h2 := HXl.out; rw [e] at h2; simp at h2; subst h2; rfl
    | false =>
      have h3 : ¬ X = [] := fun e => Bool.noConfusion (hr.2 (h.1 e))
      have h2 := HXl.out
      have : 0 < X.length := List.length_pos_iff.2 h3
      rw [beq_eq_false_iff_ne]
      omega
  have hz2 : (((n5 : Int) == 0) != r) = false := by rw [hz]; cases r <;> rfl
  clear q7 f HF6 HPX hr HNil
  go_wp2_with fail
  go_loopw [8] (fun vi wr => ∃ k : Nat, k ≤ n5 ∧ vi = .int .i64 k ∧ Hid (Fr None' w7 wr)) (fun vi _ => n5 - (intOf vi).toNat)
  case atStart => exact ⟨0, Nat.zero_le _, rfl, Fr.refl _ _⟩
  case round =>
    obtain ⟨k, hk, rfl, HF⟩ := hrel
    clear hz hz2
    by_cases hlt : k < n5
    · have hkL : k < X.length := by rw [HXl.out]; exact hlt
      obtain ⟨g, o, rfl, uo, un, d0, d1, d2, d3, d4, d5, d6, t1, t2⟩ := (HPX7.out.kept HF.out).get hkL
      have HPk := toHid8 (HP.out _ (List.getElem_mem hkL))
      obtain ⟨pa, ca, rfl⟩ := t1.as2
      obtain ⟨pb, cb, rfl⟩ := t2.as2
      generalize X[k] = p at d0 d1 d2 d3 d4 d5 d6 t1 t2 HPk
      have qR := qright_any p _ _ wr t1 t2 HPk.out.2.1.small
      rw [HPk.out.1] at qR
      have hps := HPk.out.2.1.path
      have HF0 := toHid8 (HF7.out.then7 HF.out)
      have HD := toHid8 (fun w' (f : Fr None' wr w') => f.keepCell d1 (fun e => e))
      have i2 : (k : Int) < (n5 : Int) := by omega
      have i3 : (0 : Int) ≤ (k : Int) := by omega
      clear t1 t2
      go_wp2_with fail
      with_reducible refine qR.mono ?_
      rintro e w8 ⟨rfl, f8⟩
      have HW8 := toHid8 f8
      have e1 := HD.out w8 f8
      have q8 := find12 (efind_any va n c a p.path w8 HL.out.1 (HE.out.1 w8 (HF0.out.then7 f8)) (by have := (weight_smE HWa.out).2.1; have := HL.out.1; omega))
      clear qR f8 d0 d1 d2 d3 d4 d5 d6 hps
      go_wp2_with fail
      with_reducible refine q8.mono ?_
      rintro e w9 ⟨P, K, pl, nl, cl, Da, l, b1, rfl, HY1, f9⟩
      obtain ⟨wA, hwA⟩ : ∃ wA, w9.alloc (.cells #[.string P, .int .i64 K, .slice pl nl cl, .string Da] 45) = wA := ⟨_, rfl⟩
      have FA : Fr None' w9 wA := hwA ▸ Fr.alloc None' w9 _
      have BA : EBox wA w9.heap.size (.string P) (.int .i64 K) (.slice pl nl cl) (.string Da) := hwA ▸ EBox.new w9 _ _ _ _
      have HBA := toHid8 BA
      have HWA := toHid8 (HW8.out.then7 (f9.then7 FA))
      have HSA := toHid8 (HY1.out.2.1.kept FA)
      have e2 := HD.out wA HWA.out
      have q9 := find12 (efind_any vb m d b p.path wA HL.out.2 (HE.out.2 wA (HF0.out.then7 HWA.out)) (by have := (weight_smE HWb.out).2.1; have := HL.out.2; omega))
      clear q8 f9 FA BA e1 HW8
      go_wp2_with fail
      with_reducible refine q9.mono ?_
      rintro e w10 ⟨P', K', pl', nl', cl', Da', l', b2, rfl, HY2, f10⟩
      obtain ⟨wB, hwB⟩ : ∃ wB, w10.alloc (.cells #[.string P', .int .i64 K', .slice pl' nl' cl', .string Da'] 45) = wB := ⟨_, rfl⟩
      have FB : Fr None' w10 wB := hwB ▸ Fr.alloc None' w10 _
      have BB : EBox wB w10.heap.size (.string P') (.int .i64 K') (.slice pl' nl' cl') (.string Da') := hwB ▸ EBox.new w10 _ _ _ _
      have HBB := toHid8 BB
      have HBA2 := toHid8 (HBA.out.kept (f10.then7 FB))
      have HWB := toHid8 (HWA.out.then7 (f10.then7 FB))
      have HSA2 := toHid8 (HSA.out.kept (f10.then7 FB))
      have HSB := toHid8 (HY2.out.2.1.kept FB)
      obtain ⟨y0, y1, y2, y3⟩ := HBA2.out.cells
      obtain ⟨z0, z1, z2, z3⟩ := HBB.out.cells
      have HFk := toHid8 (HF.out.then7 HWB.out)
      clear q9 f10 FB BB e2 HD HWA
      cases b1 with
      | false =>
        go_wp2_with fail
        exact ⟨⟨k + 1, by omega, by go_num, HFk.out⟩, by simp [intOf]; omega⟩
      | true =>
      cases b2 with
      | false =>
        go_wp2_with fail
        exact ⟨⟨k + 1, by omega, by go_num, HFk.out⟩, by simp [intOf]; omega⟩
      | true =>
        obtain ⟨wC, hwC⟩ : ∃ wC, wB.alloc (.cells #[.string P, .int .i64 K, .slice pl nl cl, .string Da] 45) = wC := ⟨_, rfl⟩
        have FC : Fr None' wB wC := hwC ▸ Fr.alloc None' wB _
        have BC : EBox wC wB.heap.size (.string P) (.int .i64 K) (.slice pl nl cl) (.string Da) := hwC ▸ EBox.new wB _ _ _ _
        obtain ⟨v0, v1, v2, v3⟩ := (HBB.out.kept FC).cells
        obtain ⟨wD, hwD⟩ : ∃ wD, wC.alloc (.cells #[.string P', .int .i64 K', .slice pl' nl' cl', .string Da'] 45) = wD := ⟨_, rfl⟩
        have FD : Fr None' wC wD := hwD ▸ Fr.alloc None' wC _
        have BD : EBox wD wC.heap.size (.string P') (.int .i64 K') (.slice pl' nl' cl') (.string Da') := hwD ▸ EBox.new wC _ _ _ _
        have hf1 := HY1.out.2.2 rfl
        have hf2 := HY2.out.2.2 rfl
        have hS1 := HSA2.out.kept (FC.then7 FD)
        have hS2 := HSB.out.kept (FC.then7 FD)
        rw [← HY1.out.1] at hS1 BC
        rw [← HY2.out.1] at hS2 BD
        have q10 := esame_dec (some ⟨wB.heap.size, 0, none⟩) (some ⟨wC.heap.size, 0, none⟩) 1 1 1 1 [⟨P, K, l, Da⟩] [⟨P', K', l', Da'⟩] wD rfl rfl (ent_one12 (x := ⟨P, K, l, Da⟩) (BC.kept FD) hS1) (ent_one12 (x := ⟨P', K', l', Da'⟩) BD hS2) (by decide) (by decide) (fun y hy => by rw [List.mem_singleton.1 hy]; exact (weight_smE HWa.out).1 _ (find_some hf1).1)
        have HNe := toHid8 (show ¬ ([⟨P, K, l, Da⟩] : List En) = [⟨P', K', l', Da'⟩] from fun e => by
          rw [← List.singleton_inj.1 e] at hf2
          exact HPk.out.2.2 _ hf1 hf2)
        have HFD := toHid8 (HFk.out.then7 (FC.then7 FD))
        unfold SameP12 at q10
        clear FC FD BC BD hf1 hf2 hS1 hS2
        go_wp2_with fail
        with_reducible refine q10.mono ?_
        rintro e w11 ⟨r, rfl, hr, f11⟩
        obtain rfl : r = false := by
          cases r with
          | false => rfl
          | true => exact absurd (hr.1 rfl) HNe.out
        have HF11 := toHid8 (HFD.out.then7 f11)
        clear q10 hr f11
        go_wp2_with fail
        exact ⟨⟨k + 1, by omega, by go_num, HF11.out⟩, by simp [intOf]; omega⟩
    · have i2 : ¬ (k : Int) < (n5 : Int) := by omega
      have HFz := toHid8 (HF7.out.then7 HF.out)
      go_wp2_with fail
      go_ret
      exact ⟨rfl, HFz.out⟩

end Go.Proofs.YtbnfjjjdnbcehaaGreatDoor
