/-
  What is proved here: the contracts that the statement stands on: LinesP8, Ins7, ChildE, DocP8, DHelp8, DSort8, DPut8, DMove8, DApp8, DTok8. Conditions: as each theorem names them.
-/
import Derived.Test.YtcpjneejlfgkeaaGreatDoorM38Laws8
import Derived.Test.YtcpjneejlfgkeaaGreatDoorM7Strs9
import Derived.Test.YtcpjneejlfgkeaaGreatDoorMSameE
import Derived.Test.YtcpjneejlfgkeaaGreatDoorM22RFindE
import Derived.Test.YtcpjneejlfgkeaaGreatDoorM13PRRest
import Derived.Test.YtcpjneejlfgkeaaGreatDoorM14Plain10
import Derived.Test.YtcpjneejlfgkeaaGreatDoorM32WithL8
import Derived.Test.YtcpjneejlfgkeaaGreatDoorM17Has8
import Derived.Test.YtcpjneejlfgkeaaGreatDoorM35Tok8
import Derived.Test.YtcpjneejlfgkeaaGreatDoorMApp7
import Derived.Test.YtcpjneejlfgkeaaGreatDoorM6LStrs
namespace Go.Proofs.YtcpjneejlfgkeaaGreatDoor
open Go.RowKit Go.Maps Go.WideMaps
set_option maxRecDepth 100000

theorem set_paths {L : List En} {K : Nat} (hK : K < L.length) {y : En} (hp : y.path = L[K].path) : (L.set K y).map (fun x => bl x.path) = L.map (fun x => bl x.path) := by
  rw [List.map_set, hp]
  apply List.ext_getElem
  · simp
  · intro i h1 h2
    rw [List.getElem_set]
    split
    · rename_i h; subst h; simp
    · rfl

theorem strict_set {L : List En} (h : Strict L) {K : Nat} (hK : K < L.length) {y : En} (hp : y.path = L[K].path) : Strict (L.set K y) := by
  have h1 : (L.map (fun x => bl x.path)).Pairwise (· < ·) := List.pairwise_map.2 h
  rw [← set_paths hK hp] at h1
  exact List.pairwise_map.1 h1

theorem strict_at {L : List En} (h : Strict L) {i k : Nat} (hi : i < L.length) (hk : k < L.length) (e : bl L[i].path = bl L[k].path) : i = k := by
  rcases Nat.lt_trichotomy i k with hlt | he | hlt
  · have := List.pairwise_iff_getElem.1 h i k hi hk hlt
    rw [e] at this
    exact absurd this (List.lt_irrefl _)
  · exact he
  · have := List.pairwise_iff_getElem.1 h k i hk hi hlt
    rw [e] at this
    exact absurd this (List.lt_irrefl _)

/-- What lies at a place, changed. -/
theorem put_set {L : List En} (h : Strict L) {K : Nat} (hK : K < L.length) {y : En} (hp : y.path = L[K].path) : putE L y = L.set K y := by
  refine strict_ext (strict_putE h y) (strict_set h hK hp) fun x => ?_
  rw [mem_putE]
  constructor
  · rintro (rfl | ⟨h1, h2⟩)
    · exact List.mem_set hK x
    · obtain ⟨i, hi, rfl⟩ := List.getElem_of_mem h1
      have hik : K ≠ i := fun e => by subst e; rw [hp] at h2; exact h2 rfl
      exact List.mem_iff_getElem.2 ⟨i, by simpa using hi, by rw [List.getElem_set, if_neg hik]⟩
  · intro h1
    obtain ⟨i, hi, rfl⟩ := List.getElem_of_mem h1
    rw [List.getElem_set]
    split
    · exact Or.inl rfl
    · rename_i hne
      have hi' : i < L.length := by simpa using hi
      refine Or.inr ⟨List.getElem_mem hi', fun e => hne ?_⟩
      rw [hp] at e
      exact (strict_at h hi' hK e).symm

theorem find_at {L : List En} (h : Strict L) {K : Nat} (hK : K < L.length) : findE L (bl L[K].path) = some L[K] := (find_mem h).2 ⟨List.getElem_mem hK, rfl⟩

/-- A change of lines, put where it is to be. -/
def lnP (x : En) (p : Pr) : Pr := { p with kind := 7, path := x.path, dst := ⟨#[]⟩, src := ⟨#[]⟩ }

theorem ln_sm {x : En} {p : Pr} (hx : x.path.size ≤ 4000) (h : SmPr p) : SmPr (lnP x p) := ⟨hx, Nat.zero_le _, Nat.zero_le _, h.old, h.new, h.line, h.oline⟩

theorem ln_all {L : List En} {K : Nat} (ht : treeRight L = true) (hK : K < L.length) {p : Pr} (hr : rightP (lnP L[K] p) = true) :
    allE L [lnP L[K] p] = (if L[K].kind ≠ 2 then (([], 73, 0) : List En × Int × Nat) else match hunkL L[K].lines p.pos p.old p.new with | none => ([], 81, 0) | some l => (L.set K ⟨L[K].path, L[K].kind, l, L[K].data⟩, 0, 0)) := by
  have hT := (treeR L).1 ht
  rw [runE_good ht, runE]
  have hf := find_at hT.strict hK
  have hd : doE L (lnP L[K] p) = (if L[K].kind ≠ 2 then ((L, 73) : List En × Int) else match hunkL L[K].lines p.pos p.old p.new with | none => (L, 81) | some l => (L.set K ⟨L[K].path, L[K].kind, l, L[K].data⟩, 0)) := by
    unfold doE
    rw [if_pos hr]
    unfold actE
    rw [if_neg (by show ¬ ((7 : Int) = 1 ∨ (7 : Int) = 3 ∨ (7 : Int) = 5); omega), if_neg (by show ¬ ((7 : Int) = 2 ∨ (7 : Int) = 4 ∨ (7 : Int) = 6); omega), if_neg (by show ¬ (7 : Int) = 10; omega), show (lnP L[K] p).path = L[K].path from rfl, if_neg (show ¬ (lnP L[K] p).kind = 9 from by show ¬ (7 : Int) = 9; omega)]
    unfold hasE
    rw [hf]
    simp only
    by_cases hk : L[K].kind = 2
    · simp only [hk]
      unfold withE
      cases hh : hunkL L[K].lines p.pos p.old p.new with
      | none => simp [lnP, hh]
      | some l =>
        simp [lnP, hh]
        have h9 := put_set (y := ⟨L[K].path, L[K].kind, l, L[K].data⟩) hT.strict hK rfl
        simpa [hk] using h9
    · simp [hk]
  rw [hd]
  by_cases hk : L[K].kind = 2
  · simp only [hk, ne_eq, not_true_eq_false, if_false]
    cases hunkL L[K].lines p.pos p.old p.new with
    | none => simp
    | some l => simp [runE]
  · simp [hk]

end Go.Proofs.YtcpjneejlfgkeaaGreatDoor

namespace Go.Proofs.YtcpjneejlfgkeaaGreatDoor
open Go.RowKit
set_option maxRecDepth 100000

theorem insE_none (x : En) : ∀ {o : List En}, (∀ y ∈ o, ¬ bl x.path < bl y.path) → insE x o = o ++ [x]
  | [], _ => rfl
  | y :: r, h => by
    rw [insE, if_neg (h y (List.mem_cons_self ..)), insE_none x (fun z hz => h z (List.mem_cons_of_mem _ hz))]
    rfl

theorem insE_in (x z : En) : ∀ {o : List En}, (∃ y ∈ o, bl x.path < bl y.path) → insE x (o ++ [z]) = insE x o ++ [z]
  | [], h => by obtain ⟨y, hy, _⟩ := h; cases hy
  | y :: r, h => by
    by_cases hy : bl x.path < bl y.path
    · rw [List.cons_append, insE, if_pos hy, insE, if_pos hy]
      rfl
    · have hr : ∃ y ∈ r, bl x.path < bl y.path := by
        obtain ⟨u, hu, hlt⟩ := h
        rcases List.mem_cons.1 hu with rfl | hu
        · exact absurd hlt hy
        · exact ⟨u, hu, hlt⟩
      rw [List.cons_append, insE, if_neg hy, insE, if_neg hy, insE_in x z hr]
      rfl

theorem insE_at (x z : En) : ∀ {o : List En}, (∀ y ∈ o, ¬ bl x.path < bl y.path) → bl x.path < bl z.path → insE x (o ++ [z]) = o ++ [x] ++ [z]
  | [], _, h => by rw [List.nil_append, insE, if_pos h]; rfl
  | y :: r, hn, h => by
    rw [List.cons_append, insE, if_neg (hn y (List.mem_cons_self ..)), insE_at x z (fun u hu => hn u (List.mem_cons_of_mem _ hu)) h]
    rfl

theorem sortE_snoc {L : List En} {k : Nat} (hk : k < L.length) : sortE (L.take (k + 1)) = insE L[k] (sortE (L.take k)) := by
  unfold sortE
  rw [List.take_succ_eq_append_getElem hk, List.foldl_append]
  rfl

end Go.Proofs.YtcpjneejlfgkeaaGreatDoor

namespace Go.Proofs.YtcpjneejlfgkeaaGreatDoor
open Go.RowKit
set_option maxRecDepth 100000

/-- Does a thing lie in a directory (in the tree itself: no path)? -/
def isChild (d : List UInt8) (x : En) : Bool := match Path.parent (bl x.path) with
  | none => decide (d = [])
  | some p => !decide (d = []) && decide (p = d)

def children (L : List En) (d : List UInt8) : List En := L.filter (isChild d)

theorem children_step {L : List En} {k : Nat} (hk : k < L.length) (d : List UInt8) : (isChild d L[k] = true → children (L.take (k + 1)) d = children (L.take k) d ++ [L[k]]) ∧ (isChild d L[k] = false → children (L.take (k + 1)) d = children (L.take k) d) := by
  unfold children
  rw [List.take_succ_eq_append_getElem hk, List.filter_append]
  constructor
  · intro h
    simp [h]
  · intro h
    simp [h]

theorem app_list7 {ops : Array Oper} {rest : List Oper} {o : Oper} {a : Act} {w w' : World} {Q : Exit → Act → World → Prop} {t : TypeId} (hgd : o.guard = none) (s x : Operand)
    (ho : o.op = .call { callee := .builtin .append, args := #[s, x], argTypes := #[t, t] }) {vs vx v : Value} (hs : a.eval s = vs) (hx : a.eval x = vx) (hr : (Builtin.append_ #[t, t] o.type #[vs, vx]).run Tryz.prog w = .ok v w')
    (h : wpList Tryz.prog ops Q rest (a.put o.dst v) w') : wpList Tryz.prog ops Q (o :: rest) a w := by
  refine wpList_plain hgd fun K hK => ?_
  unfold Oper.wp execOp
  simp only [ho, resolve, invoke, builtin, Sem.run_bind, Sem.run_pure, Result.andThen_ok, List.map_toArray, List.map_cons, List.map_nil, hs, hx, hr]
  exact hK _ _ h

set_option maxHeartbeats 4000000 in
theorem echildren_any (va : Option Addr) (n c : Nat) (L : List En) (d : ByteArray) (w : World) (hl : L.length = n) (h : EntsAt w va L) (hn : n ≤ 100000) (hs : SmallE L) :
    Calls Tryz.prog 31 #[.slice va n c, .string d] w fun e w' => ∃ v V, e = .returned v ∧ OwnE w.heap.size w w' v (children L (bl d)) V ∧ Fr None' w w' := by
  have HL : Hid (L.length = n) := hl
  have HE : Hid (EntsAt w va L) := h
  have HS : Hid (SmallE L) := hs
  have i1 : (n : Int) ≤ 100000 := by omega
  clear hl h hn hs
  go_enter Tryz.func31, Tryz.ntmps31
  go_wp2_with fail
  go_loopw [5, 6] (fun vo vi wr => ∃ (k : Nat) (v' : Value) (V : List Value), k ≤ n ∧ vi = .int .i64 k ∧ v' = vo ∧ Hid (OwnE w.heap.size w wr v' (children (L.take k) (bl d)) V) ∧ Hid (Fr None' w wr)) (fun _ vi _ => n - (intOf vi).toNat)
  case atStart => exact ⟨0, _, [], Nat.zero_le _, rfl, rfl, OwnE.nil _ _ _, Fr.refl _ _⟩
  case round =>
    obtain ⟨k, v0, V, hk, rfl, rfl, HO, HF⟩ := hrel
    by_cases hlt : k < n
    · have hkL : k < L.length := by rw [HL.out]; exact hlt
      obtain ⟨g, o, rfl, vl, d0, d1, d2, d3, hs1⟩ := HE.out.get hkL
      obtain ⟨z1, z2, z3, z4⟩ := HS.out _ (List.getElem_mem hkL)
      have HCS : Hid ((isChild (bl d) L[k] = true → children (L.take (k + 1)) (bl d) = children (L.take k) (bl d) ++ [L[k]]) ∧ (isChild (bl d) L[k] = false → children (L.take (k + 1)) (bl d) = children (L.take k) (bl d))) := children_step hkL (bl d)
      have HLN : Hid ((children (L.take k) (bl d)).length ≤ 100000) := by
        have h1 : (children (L.take k) (bl d)).length ≤ (L.take k).length := List.length_filter_le _ _
        rw [List.length_take] at h1
        show _ ≤ _
        omega
      obtain ⟨x, hxe⟩ : ∃ x, L[k] = x := ⟨_, rfl⟩
      rw [hxe] at d0 d1 d3 hs1 z1 HCS
      obtain ⟨P, K, l, Da⟩ := x
      simp only at d0 d1 d3 hs1 z1
      have HST0 : Hid (StrsAt w vl l) := hs1
      obtain ⟨pl, cl, rfl, _⟩ := hs1
      obtain ⟨nl, hnl⟩ : ∃ m, l.length = m := ⟨_, rfl⟩
      rw [hnl] at d2 HST0
      have HST : Hid (StrsAt w (.slice pl nl cl) l) := HST0.out
      replace d0 := HF.out.keepCell d0 (fun e => e)
      replace d1 := HF.out.keepCell d1 (fun e => e)
      replace d2 := HF.out.keepCell d2 (fun e => e)
      replace d3 := HF.out.keepCell d3 (fun e => e)
      have i2 : (k : Int) < (n : Int) := by omega
      have i3 : (0 : Int) ≤ (k : Int) := by omega
      have cP := Path.rparent_any P wr (by omega)
      unfold Path.parentS at cP
      clear hxe hnl z1 z2 z3 z4 HST0
      by_cases hd : d.size = 0
      · have hde := empty_of hd
        subst hde
        cases hpa : Path.parent (bl P) with
        | none =>
          have hpa' : Path.parent P.data.toList = none := hpa
          rw [hpa'] at cP
          have hch : isChild (bl ⟨#[]⟩) ⟨P, K, l, Da⟩ = true := by unfold isChild; simp only [hpa]; rfl
          have HC : Hid (children (L.take (k + 1)) (bl ⟨#[]⟩) = children (L.take k) (bl ⟨#[]⟩) ++ [⟨P, K, l, Da⟩]) := HCS.out.1 hch
          obtain ⟨va1, ca1, hv1, hle1, hno1, _, hlt1⟩ := HO.out.slice HF.out
          obtain ⟨m, hm⟩ : ∃ m, (children (L.take k) (bl ⟨#[]⟩)).length = m := ⟨_, rfl⟩
          rw [hm] at hv1
          subst hv1
          obtain ⟨g3, c3, w3, hr3, O3, f3, _⟩ := (HO.out.kept (Fr.alloc None' wr (.cells #[.string P, .int .i64 K, .slice pl nl cl, .string Da] 41))).append (b := wr.heap.size) (x := ⟨P, K, l, Da⟩) (vl := .slice pl nl cl) (heap_alloc_new wr _) rfl HST.out (by have := HLN.out; rw [hm]; omega) (by have := HF.out.size; simp; omega)
          rw [hm] at hr3 O3
          have HF3 : Hid (Fr None' w w3) := (HF.out.then7 (Fr.alloc None' wr _)).trans f3 (fun i e => Or.inr (hlt1 i e).1)
          have HO3 : Hid (OwnE w.heap.size w w3 (.slice (some ⟨g3, 0, none⟩) (m + 1) c3) (children (L.take (k + 1)) (bl ⟨#[]⟩)) (V ++ [.slice pl nl cl])) := by rw [HC.out]; exact O3
          have HR3 : Hid ((Builtin.append_ #[22, 22] 22 #[.slice va1 m ca1, .slice (some ⟨wr.heap.size, 0, none⟩) 1 1]).run Tryz.prog (wr.alloc (.cells #[.string P, .int .i64 K, .slice pl nl cl, .string Da] 41)) = .ok (.slice (some ⟨g3, 0, none⟩) (m + 1) c3) w3) := hr3
          clear hr3 O3 f3 hm hle1 hno1 hlt1 HCS hch
          go_wp2_with fail
          refine cP.mono ?_
          rintro e w2 ⟨rfl, rfl⟩
          clear cP
          go_wp2_with (at_builtin
                       refine app_list7 rfl _ _ rfl rfl rfl HR3.out ?_)
          exact ⟨⟨k + 1, _, V ++ [Value.slice pl nl cl], by omega, by go_num, rfl, HO3.out, HF3.out⟩, by simp [intOf]; omega⟩
        | some p =>
          have hpa' : Path.parent P.data.toList = some p := hpa
          rw [hpa'] at cP
          have hch : isChild (bl ⟨#[]⟩) ⟨P, K, l, Da⟩ = false := by unfold isChild; simp only [hpa]; rfl
          have HC : Hid (children (L.take (k + 1)) (bl ⟨#[]⟩) = children (L.take k) (bl ⟨#[]⟩)) := HCS.out.2 hch
          have HO3 : Hid (OwnE w.heap.size w wr v0 (children (L.take (k + 1)) (bl ⟨#[]⟩)) V) := by rw [HC.out]; exact HO.out
          clear HCS hch
          go_wp2_with fail
          refine cP.mono ?_
          rintro e w2 ⟨rfl, rfl⟩
          clear cP
          go_wp2_with fail
          exact ⟨⟨k + 1, v0, V, by omega, by go_num, rfl, HO3.out, HF.out⟩, by simp [intOf]; omega⟩
      · have yd := isEmpty_no hd
        have hdn : ¬ bl d = [] := fun e => hd (by have h2 : d.data.toList.length = d.size := by cases d; rfl
                                                  rw [← h2]; exact congrArg List.length e)
        cases hpa : Path.parent (bl P) with
        | none =>
          have hpa' : Path.parent P.data.toList = none := hpa
          rw [hpa'] at cP
          have hch : isChild (bl d) ⟨P, K, l, Da⟩ = false := by unfold isChild; simp only [hpa]; exact decide_eq_false hdn
          have HC : Hid (children (L.take (k + 1)) (bl d) = children (L.take k) (bl d)) := HCS.out.2 hch
          have HO3 : Hid (OwnE w.heap.size w wr v0 (children (L.take (k + 1)) (bl d)) V) := by rw [HC.out]; exact HO.out
          clear HCS hch
          go_wp2_with fail
          refine cP.mono ?_
          rintro e w2 ⟨rfl, rfl⟩
          clear cP
          go_wp2_with fail
          exact ⟨⟨k + 1, v0, V, by omega, by go_num, rfl, HO3.out, HF.out⟩, by simp [intOf]; omega⟩
        | some p =>
          have hpa' : Path.parent P.data.toList = some p := hpa
          rw [hpa'] at cP
          obtain ⟨q, hq⟩ : ∃ q : ByteArray, (⟨p.toArray⟩ : ByteArray) = q := ⟨_, rfl⟩
          simp only [Option.getD_some, Option.isSome_some, hq] at cP
          by_cases hpd : q = d
          · have hch : isChild (bl d) ⟨P, K, l, Da⟩ = true := by unfold isChild; simp only [hpa]; rw [decide_eq_false hdn, ← hpd, ← hq]; exact decide_eq_true rfl
            subst hpd
            clear hq
            have HC : Hid (children (L.take (k + 1)) (bl q) = children (L.take k) (bl q) ++ [⟨P, K, l, Da⟩]) := HCS.out.1 hch
            obtain ⟨va1, ca1, hv1, hle1, hno1, _, hlt1⟩ := HO.out.slice HF.out
            obtain ⟨m, hm⟩ : ∃ m, (children (L.take k) (bl q)).length = m := ⟨_, rfl⟩
            rw [hm] at hv1
            subst hv1
            obtain ⟨g3, c3, w3, hr3, O3, f3, _⟩ := (HO.out.kept (Fr.alloc None' wr (.cells #[.string P, .int .i64 K, .slice pl nl cl, .string Da] 41))).append (b := wr.heap.size) (x := ⟨P, K, l, Da⟩) (vl := .slice pl nl cl) (heap_alloc_new wr _) rfl HST.out (by have := HLN.out; rw [hm]; omega) (by have := HF.out.size; simp; omega)
            rw [hm] at hr3 O3
            have HF3 : Hid (Fr None' w w3) := (HF.out.then7 (Fr.alloc None' wr _)).trans f3 (fun i e => Or.inr (hlt1 i e).1)
            have HO3 : Hid (OwnE w.heap.size w w3 (.slice (some ⟨g3, 0, none⟩) (m + 1) c3) (children (L.take (k + 1)) (bl q)) (V ++ [.slice pl nl cl])) := by rw [HC.out]; exact O3
            have HR3 : Hid ((Builtin.append_ #[22, 22] 22 #[.slice va1 m ca1, .slice (some ⟨wr.heap.size, 0, none⟩) 1 1]).run Tryz.prog (wr.alloc (.cells #[.string P, .int .i64 K, .slice pl nl cl, .string Da] 41)) = .ok (.slice (some ⟨g3, 0, none⟩) (m + 1) c3) w3) := hr3
            clear hr3 O3 f3 hm hle1 hno1 hlt1 HCS hch
            go_wp2_with fail
            refine cP.mono ?_
            rintro e w2 ⟨rfl, rfl⟩
            clear cP
            go_wp2_with (at_builtin
                         refine app_list7 rfl _ _ rfl rfl rfl HR3.out ?_)
            exact ⟨⟨k + 1, _, V ++ [Value.slice pl nl cl], by omega, by go_num, rfl, HO3.out, HF3.out⟩, by simp [intOf]; omega⟩
          · have hch : isChild (bl d) ⟨P, K, l, Da⟩ = false := by
              unfold isChild
              simp only [hpa]
              rw [decide_eq_false hdn, decide_eq_false (fun e => hpd (bl_inj (by rw [← e, ← hq]; rfl)))]
              rfl
            obtain ⟨s1, s2⟩ := str_no7 hpd
            clear hq hpd
            have HC : Hid (children (L.take (k + 1)) (bl d) = children (L.take k) (bl d)) := HCS.out.2 hch
            have HO3 : Hid (OwnE w.heap.size w wr v0 (children (L.take (k + 1)) (bl d)) V) := by rw [HC.out]; exact HO.out
            clear HCS hch
            go_wp2_with fail
            refine cP.mono ?_
            rintro e w2 ⟨rfl, rfl⟩
            clear cP
            go_wp2_with fail
            exact ⟨⟨k + 1, v0, V, by omega, by go_num, rfl, HO3.out, HF.out⟩, by simp [intOf]; omega⟩
    · have e : k = n := by omega
      subst e
      have HO2 : Hid (OwnE w.heap.size w wr v0 (children L (bl d)) V) := by
        have h := HO.out
        rw [List.take_of_length_le (by rw [HL.out]; exact Nat.le_refl _)] at h
        exact h
      go_wp2_with fail
      go_ret
      exact ⟨_, V, rfl, HO2.out, HF.out⟩

end Go.Proofs.YtcpjneejlfgkeaaGreatDoor

namespace Go.Proofs.YtcpjneejlfgkeaaGreatDoor
open Go.RowKit
set_option maxRecDepth 100000

theorem sort_strict {L : List En} (h : Strict L) : sortE L = L := (weak_unique (sortE_perm L).symm h (sortE_weak L)).symm

theorem sort_app (M : List En) (x : En) : sortE (M ++ [x]) = insE x (sortE M) := by
  unfold sortE
  rw [List.foldl_append]
  rfl

theorem put_sorted {L : List En} (h : Strict L) (x : En) : sortE (delE L (bl x.path) ++ [x]) = putE L x := by
  rw [sort_app, sort_strict (strict_delE h _)]
  rfl

/-- A thing, elsewhere if it lies in A. -/
def mvI (A B : List UInt8) (x : En) : En := if Path.within (bl x.path) A then mvE A B x else x

theorem mvI_yes {A B : List UInt8} {x : En} (h : Path.within (bl x.path) A = true) : mvI A B x = mvE A B x := by unfold mvI; rw [if_pos h]
theorem mvI_no {A B : List UInt8} {x : En} (h : Path.within (bl x.path) A = false) : mvI A B x = x := by unfold mvI; rw [if_neg (by rw [h]; simp)]

theorem mvI_apart {L : List En} (h : TreeR L) {A B : List UInt8} (hB : findE L B = none) {x y : En} (hx : x ∈ L) (hy : y ∈ L) (e : bl (mvI A B x).path = bl (mvI A B y).path) : bl x.path = bl y.path := by
  cases hwx : Path.within (bl x.path) A with
  | true =>
    cases hwy : Path.within (bl y.path) A with
    | true => rw [mvI_yes hwx, mvI_yes hwy] at e; exact mv_inj hwx hwy e
    | false => rw [mvI_yes hwx, mvI_no hwy] at e; exact absurd e.symm (h.far hB hy hwx)
  | false =>
    cases hwy : Path.within (bl y.path) A with
    | true => rw [mvI_no hwx, mvI_yes hwy] at e; exact absurd e (h.far hB hx hwy)
    | false => rw [mvI_no hwx, mvI_no hwy] at e; exact e

theorem move_sorted {L : List En} (h : TreeR L) {A B : List UInt8} (hB : findE L B = none) : sortE (L.map (mvI A B)) = moveL L (inE L A) A B := by
  have hn : (L.map (mvI A B)).Nodup := by
    refine List.pairwise_map.2 ?_
    refine List.Pairwise.imp_of_mem (fun {a b} ha hb hlt e => ?_) (show List.Pairwise (fun x y : En => bl x.path < bl y.path) L from h.strict)
    have := mvI_apart h hB ha hb (congrArg (fun x => bl x.path) e)
    rw [this] at hlt
    exact List.lt_irrefl _ hlt
  have hs := strict_moveL h.strict (inE L A) A B
  refine (weak_unique (((List.perm_ext_iff_of_nodup (strict_nodup hs) hn).2 fun y => ?_).trans (sortE_perm _).symm) hs (sortE_weak _)).symm
  rw [h.mem_move hB, List.mem_map]
  constructor
  · rintro (⟨x, hx, hw, rfl⟩ | ⟨hy, hw⟩)
    · exact ⟨x, hx, mvI_yes hw⟩
    · exact ⟨y, hy, mvI_no hw⟩
  · rintro ⟨x, hx, rfl⟩
    cases hw : Path.within (bl x.path) A with
    | true => exact Or.inl ⟨x, hx, hw, mvI_yes hw⟩
    | false => rw [mvI_no hw]; exact Or.inr ⟨hx, hw⟩

theorem mvI_right {L : List En} (h : TreeR L) {A B : List UInt8} : (L.all fun x => Path.right (bl (mvI A B x).path)) = (inE L A).all (fun x => Path.right (bl (mvE A B x).path)) := by
  rw [Bool.eq_iff_iff, List.all_eq_true, List.all_eq_true]
  constructor
  · intro h1 x hx
    obtain ⟨a, b⟩ := mem_inE.1 hx
    have := h1 x a
    rwa [mvI_yes b] at this
  · intro h1 x hx
    cases hw : Path.within (bl x.path) A with
    | true => rw [mvI_yes hw]; exact h1 x (mem_inE.2 ⟨hx, hw⟩)
    | false => rw [mvI_no hw]; exact (h.own x hx).1

theorem child_of {L : List En} (h : TreeR L) {q : List UInt8} (hq : q ≠ []) : ∀ (n : Nat) (r : List UInt8) (x : En), r.length ≤ n → x ∈ L → bl x.path = q ++ 47 :: r → ∃ d, d ∈ children L q
  | n, r, x, hn, hx, e => by
    rcases split_last r with h1 | ⟨a, b, rfl, hb⟩
    · refine ⟨x, List.mem_filter.2 ⟨hx, ?_⟩⟩
      unfold isChild
      rw [e, Path.parent_join q h1]
      simp [hq]
    · obtain ⟨d, hd, hp, _⟩ := h.above x hx (q ++ 47 :: a) (by rw [e, show q ++ 47 :: (a ++ 47 :: b) = (q ++ 47 :: a) ++ 47 :: b by simp]; exact Path.parent_join _ hb)
      cases n with
      | zero => simp at hn
      | succ n => exact child_of h hq n a d (by simp at hn; omega) hd hp

/-- Nothing lies in a thing just if it has no children. -/
theorem child_none {L : List En} (h : TreeR L) {x : En} (hx : x ∈ L) (hq : bl x.path ≠ []) : (inE L (bl x.path)).length = 1 ↔ (children L (bl x.path)).length = 0 := by
  have hin : x ∈ inE L (bl x.path) := mem_inE.2 ⟨hx, Path.within_refl _⟩
  constructor
  · intro h1
    cases hc : children L (bl x.path) with
    | nil => rfl
    | cons c t =>
      obtain ⟨c1, c2⟩ := List.mem_filter.1 (show c ∈ L.filter (isChild (bl x.path)) from by
        have : c ∈ children L (bl x.path) := by rw [hc]; exact List.mem_cons_self ..
        exact this)
      unfold isChild at c2
      cases hp : Path.parent (bl c.path) with
      | none => rw [hp] at c2; simp [hq] at c2
      | some q =>
        rw [hp] at c2
        obtain rfl : q = bl x.path := by simpa [hq] using c2
        obtain ⟨b, e, _⟩ := Path.parent_some hp
        have : c = x := in_one h1 (mem_inE.2 ⟨c1, by rw [e]; exact Path.within_join _ _⟩) hin
        subst this
        have := congrArg List.length e
        simp at this
  · intro h1
    have hall : ∀ y ∈ inE L (bl x.path), y = x := fun y hy => by
      obtain ⟨y1, y2⟩ := mem_inE.1 hy
      rcases (Path.within_iff _ _).1 y2 with e | ⟨r, e⟩
      · exact strict_inj h.strict y1 hx e
      · obtain ⟨d, hd⟩ := child_of h hq r.length r y (Nat.le_refl _) y1 e
        rw [List.length_eq_zero_iff.1 h1] at hd
        cases hd
    have hst : Strict (inE L (bl x.path)) := List.Pairwise.filter _ h.strict
    cases hi : inE L (bl x.path) with
    | nil => rw [hi] at hin; cases hin
    | cons a t =>
      cases t with
      | nil => rfl
      | cons b t =>
        have ha := hall a (by rw [hi]; exact List.mem_cons_self ..)
        have hb := hall b (by rw [hi]; exact List.mem_cons_of_mem _ (List.mem_cons_self ..))
        rw [hi] at hst
        have := (List.pairwise_cons.1 hst).1 b (List.mem_cons_self ..)
        rw [ha, hb] at this
        exact absurd this (List.lt_irrefl _)

end Go.Proofs.YtcpjneejlfgkeaaGreatDoor

namespace Go.Proofs.YtcpjneejlfgkeaaGreatDoor
open Go.RowKit
set_option maxRecDepth 100000

theorem del_step {L : List En} {k : Nat} (hk : k < L.length) (d : List UInt8) : (bl L[k].path ≠ d → delE (L.take (k + 1)) d = delE (L.take k) d ++ [L[k]]) ∧ (bl L[k].path = d → delE (L.take (k + 1)) d = delE (L.take k) d) := by
  unfold delE
  rw [List.take_succ_eq_append_getElem hk, List.filter_append]
  constructor
  · intro h
    simp [h]
  · intro h
    simp [h]

set_option maxHeartbeats 4000000 in
theorem vwithout_any (va : Option Addr) (n c : Nat) (L : List En) (d : ByteArray) (w0 w : World) (hl : L.length = n) (h : EntsAt w0 va L) (f0 : Fr None' w0 w) (hn : n ≤ 90000) :
    Calls Tryz.prog 32 #[.slice va n c, .string d] w fun e w' => ∃ v V, e = .returned v ∧ OwnE w.heap.size w0 w' v (delE L (bl d)) V ∧ Fr None' w w' := by
  have HL : Hid (L.length = n) := hl
  have HE : Hid (EntsAt w0 va L) := h
  have HF0 : Hid (Fr None' w0 w) := f0
  have i1 : (n : Int) ≤ 90000 := by omega
  clear hl h hn f0
  go_enter Tryz.func32, Tryz.ntmps32
  go_wp2_with fail
  go_loopw [5, 6] (fun vo vi wr => ∃ (k : Nat) (v' : Value) (V : List Value), k ≤ n ∧ vi = .int .i64 k ∧ v' = vo ∧ Hid (OwnE w.heap.size w0 wr v' (delE (L.take k) (bl d)) V) ∧ Hid (Fr None' w wr)) (fun _ vi _ => n - (intOf vi).toNat)
  case atStart => exact ⟨0, _, [], Nat.zero_le _, rfl, rfl, OwnE.nil _ _ _, Fr.refl _ _⟩
  case round =>
    obtain ⟨k, v0, V, hk, rfl, rfl, HO, HF⟩ := hrel
    by_cases hlt : k < n
    · have hkL : k < L.length := by rw [HL.out]; exact hlt
      obtain ⟨g, o, rfl, vl, d0, d1, d2, d3, hs1⟩ := HE.out.get hkL
      have HCS : Hid ((bl L[k].path ≠ bl d → delE (L.take (k + 1)) (bl d) = delE (L.take k) (bl d) ++ [L[k]]) ∧ (bl L[k].path = bl d → delE (L.take (k + 1)) (bl d) = delE (L.take k) (bl d))) := del_step hkL (bl d)
      have HLN : Hid ((delE (L.take k) (bl d)).length ≤ 90000) := by
        have h1 : (delE (L.take k) (bl d)).length ≤ (L.take k).length := List.length_filter_le _ _
        rw [List.length_take] at h1
        show _ ≤ _
        omega
      obtain ⟨x, hxe⟩ : ∃ x, L[k] = x := ⟨_, rfl⟩
      rw [hxe] at d0 d1 d3 hs1 HCS
      obtain ⟨P, K, l, Da⟩ := x
      simp only at d0 d1 d3 hs1
      have HST0 : Hid (StrsAt w0 vl l) := hs1
      obtain ⟨pl, cl, rfl, _⟩ := hs1
      obtain ⟨nl, hnl⟩ : ∃ m, l.length = m := ⟨_, rfl⟩
      rw [hnl] at d2 HST0
      have HST : Hid (StrsAt w0 (.slice pl nl cl) l) := HST0.out
      replace d0 := (HF0.out.then7 HF.out).keepCell d0 (fun e => e)
      replace d1 := (HF0.out.then7 HF.out).keepCell d1 (fun e => e)
      replace d2 := (HF0.out.then7 HF.out).keepCell d2 (fun e => e)
      replace d3 := (HF0.out.then7 HF.out).keepCell d3 (fun e => e)
      have i2 : (k : Int) < (n : Int) := by omega
      have i3 : (0 : Int) ≤ (k : Int) := by omega
      clear hxe hnl HST0
      by_cases hpd : P = d
      · have HC : Hid (delE (L.take (k + 1)) (bl d) = delE (L.take k) (bl d)) := HCS.out.2 (by rw [hpd])
        have HO3 : Hid (OwnE w.heap.size w0 wr v0 (delE (L.take (k + 1)) (bl d)) V) := by rw [HC.out]; exact HO.out
        subst hpd
        clear HCS
        go_wp2_with fail
        exact ⟨⟨k + 1, v0, V, by omega, by go_num, rfl, HO3.out, HF.out⟩, by simp [intOf]; omega⟩
      · obtain ⟨s1, s2⟩ := str_no7 hpd
        have HC : Hid (delE (L.take (k + 1)) (bl d) = delE (L.take k) (bl d) ++ [⟨P, K, l, Da⟩]) := HCS.out.1 (fun e => hpd (bl_inj e))
        obtain ⟨va1, ca1, hv1, hle1, hno1, _, hlt1⟩ := HO.out.slice (HF0.out.then7 HF.out)
        obtain ⟨m, hm⟩ : ∃ m, (delE (L.take k) (bl d)).length = m := ⟨_, rfl⟩
        rw [hm] at hv1
        subst hv1
        obtain ⟨g3, c3, w3, hr3, O3, f3, _⟩ := (HO.out.kept (Fr.alloc None' wr (.cells #[.string P, .int .i64 K, .slice pl nl cl, .string Da] 41))).append (b := wr.heap.size) (x := ⟨P, K, l, Da⟩) (vl := .slice pl nl cl) (heap_alloc_new wr _) rfl HST.out (by have := HLN.out; rw [hm]; omega) (by have := HF.out.size; simp; omega)
        rw [hm] at hr3 O3
        have HF3 : Hid (Fr None' w w3) := (HF.out.then7 (Fr.alloc None' wr _)).trans f3 (fun i e => Or.inr (hlt1 i e).1)
        have HO3 : Hid (OwnE w.heap.size w0 w3 (.slice (some ⟨g3, 0, none⟩) (m + 1) c3) (delE (L.take (k + 1)) (bl d)) (V ++ [.slice pl nl cl])) := by rw [HC.out]; exact O3
        have HR3 : Hid ((Builtin.append_ #[22, 22] 22 #[.slice va1 m ca1, .slice (some ⟨wr.heap.size, 0, none⟩) 1 1]).run Tryz.prog (wr.alloc (.cells #[.string P, .int .i64 K, .slice pl nl cl, .string Da] 41)) = .ok (.slice (some ⟨g3, 0, none⟩) (m + 1) c3) w3) := hr3
        clear hr3 O3 f3 hm hle1 hno1 hlt1 HCS hpd
        go_wp2_with (at_builtin
                     refine app_list7 rfl _ _ rfl rfl rfl HR3.out ?_)
        exact ⟨⟨k + 1, _, V ++ [Value.slice pl nl cl], by omega, by go_num, rfl, HO3.out, HF3.out⟩, by simp [intOf]; omega⟩
    · have e : k = n := by omega
      subst e
      have HO2 : Hid (OwnE w.heap.size w0 wr v0 (delE L (bl d)) V) := by
        have h := HO.out
        rw [List.take_of_length_le (by rw [HL.out]; exact Nat.le_refl _)] at h
        exact h
      go_wp2_with fail
      go_ret
      exact ⟨_, V, rfl, HO2.out, HF.out⟩

theorem vkind_any (k : Int) (w : World) (hk : 1 ≤ k ∧ k ≤ 10) : Calls Tryz.prog 28 #[.int .i64 k] w fun e w' => e = .returned (.int .i64 (if k = 1 ∨ k = 2 then 1 else if k = 5 ∨ k = 6 ∨ k = 9 then 3 else 2)) ∧ w' = w := by
  rcases kinds10 hk with rfl | rfl | rfl | rfl | rfl | rfl | rfl | rfl | rfl | rfl <;>
    (go_enter Tryz.func28, Tryz.ntmps28
     go_wp2_with fail
     go_ret
     exact ⟨rfl, rfl⟩)

set_option maxHeartbeats 4000000 in
theorem vroom_any (va : Option Addr) (n c : Nat) (L : List En) (p : ByteArray) (w : World) (hl : L.length = n) (h : EntsAt w va L) (hn : n ≤ 90000) (hp : p.size ≤ 4000) :
    Calls Tryz.prog 29 #[.slice va n c, .string p] w fun e w' => e = .returned (.int .i64 (freeE L (bl p))) ∧ Fr None' w w' := by
  have HF0 := toHid8 (fun (q : ByteArray) (b : Bool) (kd : Int) (hb : (findE L (bl q)).isSome = b) (hk : ((findE L (bl q)).map En.kind).getD 0 = kd) w' (f : Fr None' w w') => (efind_any va n c L q w' hl (h.kept f) (Nat.le_trans hn (by decide))).mono (fun e w'' h => find_k hb hk h))
  unfold FindK at HF0
  obtain ⟨b1, hb1⟩ : ∃ b, (findE L (bl p)).isSome = b := ⟨_, rfl⟩
  obtain ⟨k1, hk1⟩ : ∃ x, ((findE L (bl p)).map En.kind).getD 0 = x := ⟨_, rfl⟩
  have q1 := HF0.out p b1 k1 hb1 hk1 w (Fr.refl _ _)
  have HB1 := toHid8 hb1
  clear h hl
  go_enter Tryz.func29, Tryz.ntmps29
  go_wp2_with fail
  with_reducible refine q1.mono ?_
  rintro e w2 ⟨s0, a1, a2, a3, s3, rfl, f2⟩
  have HF2 := toHid8 f2
  clear q1 f2 hk1 hb1
  cases b1 with
  | true =>
    have he : freeE L (bl p) = 71 := by
      unfold freeE
      cases hf : findE L (bl p) with
      | none => have := HB1.out; rw [hf] at this; cases this
      | some y => rfl
    have HFr := toHid8 he
    have HF3 := toHid8 (HF2.out.then7 (Fr.alloc None' w2 (.cells #[.string s0, .int .i64 k1, .slice a1 a2 a3, .string s3] 41)))
    clear he
    go_wp2_with fail
    go_ret
    exact ⟨by rw [HFr.out]; rfl, HF3.out⟩
  | false =>
    have hno : findE L (bl p) = none := by
      cases hf : findE L (bl p) with
      | none => rfl
      | some y => have := HB1.out; rw [hf] at this; cases this
    have hfr : freeE L (bl p) = (match Path.parent (bl p) with | none => 0 | some q => hasE L q 1) := by unfold freeE; rw [hno]; rfl
    clear hno HB1
    obtain ⟨w3, hw3⟩ : ∃ x, w2.alloc (.cells #[.string s0, .int .i64 k1, .slice a1 a2 a3, .string s3] 41) = x := ⟨_, rfl⟩
    have HF3 := toHid8 (HF2.out.then7 (hw3 ▸ Fr.alloc None' w2 _ : Fr None' w2 w3))
    have q2 := Path.rparent_any p w3 (by omega)
    unfold Path.parentS at q2
    cases hpa : Path.parent (bl p) with
    | none =>
      have hpa' : Path.parent p.data.toList = none := hpa
      rw [hpa'] at q2
      rw [hpa] at hfr
      have HFr := toHid8 hfr
      clear hfr
      go_wp2_with fail
      with_reducible refine q2.mono ?_
      rintro e w4 ⟨rfl, rfl⟩
      clear q2
      go_wp2_with fail
      go_ret
      exact ⟨by rw [HFr.out]; rfl, HF3.out⟩
    | some q =>
      have hpa' : Path.parent p.data.toList = some q := hpa
      rw [hpa'] at q2
      obtain ⟨Q, hQ⟩ : ∃ Q : ByteArray, (⟨q.toArray⟩ : ByteArray) = Q := ⟨_, rfl⟩
      have hq : bl Q = q := by rw [← hQ]; rfl
      simp only [Option.getD_some, Option.isSome_some, hQ] at q2
      rw [hpa] at hfr
      simp only at hfr
      rw [← hq] at hfr
      obtain ⟨b4, hb4⟩ : ∃ b, (findE L (bl Q)).isSome = b := ⟨_, rfl⟩
      obtain ⟨k4, hk4⟩ : ∃ x, ((findE L (bl Q)).map En.kind).getD 0 = x := ⟨_, rfl⟩
      have q3 := HF0.out Q b4 k4 hb4 hk4 w3 HF3.out
      have HH := toHid8 (show hasE L (bl Q) 1 = (if b4 then (if k4 = 1 then 0 else 73) else 72) from by
        rw [← hb4, ← hk4]
        unfold hasE
        cases findE L (bl Q) with
        | none => rfl
        | some y => rfl)
      rw [HH.out] at hfr
      have HFr := toHid8 hfr
      clear hfr hq hQ hpa hpa' hb4 hk4
      go_wp2_with fail
      with_reducible refine q2.mono ?_
      rintro e w4 ⟨rfl, rfl⟩
      clear q2
      go_wp2_with fail
      with_reducible refine q3.mono ?_
      rintro e w5 ⟨s0', a1', a2', a3', s3', rfl, f5⟩
      obtain ⟨w6, hw6⟩ : ∃ x, w5.alloc (.cells #[.string s0', .int .i64 k4, .slice a1' a2' a3', .string s3'] 41) = x := ⟨_, rfl⟩
      have HF6 := toHid8 (HF3.out.then7 (f5.then7 (hw6 ▸ Fr.alloc None' w5 _ : Fr None' w5 w6)))
      have x1 : w6.cell? ⟨w5.heap.size, 1, none⟩ = some (.int .i64 k4) := by rw [← hw6, World.cell?, heap_alloc_new]; rfl
      clear q3 f5
      cases b4 with
      | false =>
        go_wp2_with fail
        go_ret
        exact ⟨by rw [HFr.out]; rfl, HF6.out⟩
      | true =>
        by_cases h1 : k4 = 1
        · subst h1
          go_wp2_with fail
          go_ret
          exact ⟨by rw [HFr.out]; rfl, HF6.out⟩
        · have h2 : (k4 == 1) = false := by simpa using h1
          go_wp2_with fail
          go_ret
          exact ⟨by rw [HFr.out, if_neg h1]; rfl, HF6.out⟩

end Go.Proofs.YtcpjneejlfgkeaaGreatDoor

namespace Go.Proofs.YtcpjneejlfgkeaaGreatDoor
open Go.RowKit
set_option maxRecDepth 100000

theorem OwnE.weaken {b b' : Nat} {w0 w : World} {v : Value} {L : List En} {V : List Value} (h : OwnE b w0 w v L V) (hb : b' ≤ b) : OwnE b' w0 w v L V := by
  refine ⟨h.len, ⟨h.row.1, ?_⟩, h.str⟩
  rcases h.row.2 with h1 | ⟨g, cap, cur, hv, hg, h1⟩
  · exact Or.inl h1
  · exact Or.inr ⟨g, cap, cur, hv, Nat.le_trans hb hg, h1⟩

theorem OwnE.at {base : Nat} {w0 w : World} {v : Value} {L : List En} {V : List Value} (h : OwnE base w0 w v L V) {j : Nat} (hj : j < L.length) : ∃ g c vl, v = .slice (some ⟨g, 0, none⟩) L.length c ∧ w.cell? ⟨g, j * 4, none⟩ = some (.string L[j].path) ∧ w.cell? ⟨g, j * 4 + 1, none⟩ = some (.int .i64 L[j].kind) ∧ w.cell? ⟨g, j * 4 + 2, none⟩ = some vl ∧ w.cell? ⟨g, j * 4 + 3, none⟩ = some (.string L[j].data) ∧ StrsAt w0 vl L[j].lines := by
  rcases h.row.2 with ⟨_, e⟩ | ⟨g, cap, cur, hv, hb, hh, hc, _, hs, ht⟩
  · omega
  · obtain ⟨vl, hp⟩ : ∃ vl, V[j]? = some vl := ⟨_, List.getElem?_eq_getElem (by rw [h.len]; exact hj)⟩
    have hx := ecells_get L V j L[j] vl (List.getElem?_eq_getElem hj) hp
    have hc' : ∀ i u, i < L.length * 4 → (ecells L V)[i]? = some u → w.cell? ⟨g, i, none⟩ = some u := fun i u hi h1 => by
      rw [← ht, List.getElem?_take, if_pos hi] at h1
      rw [World.cell?, hh]
      simpa using h1
    exact ⟨g, cap, vl, hv, hc' _ _ (by omega) hx.1, hc' _ _ (by omega) hx.2.1, hc' _ _ (by omega) hx.2.2.1, hc' _ _ (by omega) hx.2.2.2, h.str j _ vl (List.getElem?_eq_getElem hj) hp⟩

/-- Is a text above another one, as it is asked? -/
theorem gt_yes {a b : ByteArray} (h : bl b < bl a) : (!Op.bytesLess a.toList b.toList && !a.toList == b.toList) = true := by
  rw [less_eq, decide_eq_false (fun e => List.lt_irrefl _ (List.lt_trans h e))]
  have : (a.toList == b.toList) = false := by
    rw [beq_eq_false_iff_ne]
    intro e
    rw [ByteArray.toList_eq, ByteArray.toList_eq] at e
    have e2 : bl a = bl b := e
    rw [e2] at h
    exact List.lt_irrefl _ h
  rw [this]
  rfl

theorem gt_no {a b : ByteArray} (h : ¬ bl b < bl a) : (!Op.bytesLess a.toList b.toList && !a.toList == b.toList) = false := by
  rw [less_eq]
  by_cases e : bl a = bl b
  · have : a = b := bl_inj e
    subst this
    simp
  · rw [decide_eq_true ((lt_or e).resolve_right h)]
    rfl

/-- What the inner loop has. -/
def InsAt (x : En) (O X : List En) (j : Nat) (b : Bool) : Prop := (b = false → X = O.take j ∧ ∀ y ∈ O.take j, ¬ bl x.path < bl y.path) ∧ (b = true → X = insE x (O.take j) ∧ ∃ y ∈ O.take j, bl x.path < bl y.path)

set_option maxHeartbeats 4000000 in
theorem esorted_any (va : Option Addr) (n c : Nat) (L : List En) (w : World) (hl : L.length = n) (h : EntsAt w va L) (hn : n ≤ 2000) :
    Calls Tryz.prog 44 #[.slice va n c] w fun e w' => ∃ v V, e = .returned v ∧ OwnE w.heap.size w w' v (sortE L) V ∧ Fr None' w w' := by
  have HL : Hid (L.length = n) := hl
  have HE : Hid (EntsAt w va L) := h
  have i1 : (n : Int) ≤ 2000 := by omega
  clear hl h hn
  go_enter Tryz.func44, Tryz.ntmps44
  go_wp2_with fail
  go_loopw [3, 4] (fun vo vi wr => ∃ (k : Nat) (v' : Value) (V : List Value), k ≤ n ∧ vi = .int .i64 k ∧ v' = vo ∧ Hid (OwnE w.heap.size w wr v' (sortE (L.take k)) V) ∧ Hid (Fr None' w wr)) (fun _ vi _ => n - (intOf vi).toNat)
  case atStart => exact ⟨0, _, [], Nat.zero_le _, rfl, rfl, OwnE.nil _ _ _, Fr.refl _ _⟩
  case round =>
    obtain ⟨k, v0, V, hk, rfl, rfl, HO, HF⟩ := hrel
    by_cases hlt : k < n
    · have hkL : k < L.length := by rw [HL.out]; exact hlt
      obtain ⟨wo, rfl⟩ : ∃ x, x = wr := ⟨wr, rfl⟩
      obtain ⟨va1, ca1, hv1, hle1, hno1, _, hlt1⟩ := HO.out.slice HF.out
      obtain ⟨m, hm⟩ : ∃ m, (sortE (L.take k)).length = m := ⟨_, rfl⟩
      rw [hm] at hv1
      subst hv1
      have HM : Hid ((sortE (L.take k)).length = m ∧ m ≤ 2000) := ⟨hm, by
        rw [← hm]
        have h1 : (sortE (L.take k)).length = (L.take k).length := (sortE_perm _).length_eq
        rw [h1, List.length_take]
        omega⟩
      obtain ⟨g, o, rfl, vl, d0, d1, d2, d3, hs1⟩ := HE.out.get hkL
      have HSO : Hid (sortE (L.take (k + 1)) = insE L[k] (sortE (L.take k))) := sortE_snoc hkL
      generalize sortE (L.take k) = O at HO HM HSO hle1
      obtain ⟨x, hxe⟩ : ∃ x, L[k] = x := ⟨_, rfl⟩
      rw [hxe] at d0 d1 d3 hs1 HSO
      obtain ⟨P, K, l, Da⟩ := x
      simp only at d0 d1 d3 hs1
      have HST0 : Hid (StrsAt w vl l) := hs1
      obtain ⟨pl, cl, rfl, _⟩ := hs1
      generalize l.length = nl at d2 HST0
      have HD : Hid (∀ w', Fr None' w w' → w'.cell? ⟨g, o + k * 4, none⟩ = some (.string P) ∧ w'.cell? ⟨g, o + k * 4 + 1, none⟩ = some (.int .i64 K) ∧ w'.cell? ⟨g, o + k * 4 + 2, none⟩ = some (.slice pl nl cl) ∧ w'.cell? ⟨g, o + k * 4 + 3, none⟩ = some (.string Da)) := fun w' f => ⟨f.keepCell d0 (fun e => e), f.keepCell d1 (fun e => e), f.keepCell d2 (fun e => e), f.keepCell d3 (fun e => e)⟩
      have i2 : (k : Int) < (n : Int) := by omega
      have i3 : (0 : Int) ≤ (k : Int) := by omega
      have i4 : (m : Int) ≤ 2000 := by have := HM.out.2; omega
      clear d0 d1 d2 d3 hxe hm hle1 hno1 hlt1
      go_wp2_with fail
      go_loopw [5, 6, 7] (fun vn vd vj w2 => ∃ (j : Nat) (b : Bool) (v2 : Value) (X : List En) (V2 : List Value), j ≤ m ∧ vj = .int .i64 j ∧ vd = .bool b ∧ v2 = vn ∧ Hid (OwnE wo.heap.size w w2 v2 X V2) ∧ Hid (InsAt ⟨P, K, l, Da⟩ O X j b) ∧ Hid (Fr None' wo w2)) (fun _ _ vj _ => m - (intOf vj).toNat)
      case atStart => exact ⟨0, false, _, [], [], Nat.zero_le _, rfl, rfl, rfl, OwnE.nil _ _ _, ⟨fun _ => ⟨rfl, fun y hy => by simp at hy⟩, fun e => by cases e⟩, Fr.refl _ _⟩
      case round =>
        obtain ⟨j, b, v2, X, V2, hj, rfl, rfl, rfl, HO2, HI, HF2⟩ := hrel
        by_cases hjt : j < m
        · have hjO : j < O.length := by rw [HM.out.1]; exact hjt
          obtain ⟨g1, c1, vl1, hv, e0, e1, e2, e3, hsy⟩ := HO.out.at hjO
          rw [HM.out.1] at hv
          cases hv
          have HTK : Hid (O.take (j + 1) = O.take j ++ [O[j]]) := List.take_succ_eq_append_getElem hjO
          obtain ⟨y, hye⟩ : ∃ y, O[j] = y := ⟨_, rfl⟩
          rw [hye] at e0 e1 e3 hsy HTK
          obtain ⟨P1, K1, l1, Da1⟩ := y
          simp only at e0 e1 e3 hsy
          have HST1 : Hid (StrsAt w vl1 l1) := hsy
          obtain ⟨pl1, cl1, rfl, _⟩ := hsy
          generalize l1.length = nl1 at e2 HST1
          have HC : Hid (∀ w', Fr None' wo w' → (w'.cell? ⟨g1, j * 4, none⟩ = some (.string P1) ∧ w'.cell? ⟨g1, j * 4 + 1, none⟩ = some (.int .i64 K1) ∧ w'.cell? ⟨g1, j * 4 + 2, none⟩ = some (.slice pl1 nl1 cl1) ∧ w'.cell? ⟨g1, j * 4 + 3, none⟩ = some (.string Da1)) ∧ w'.cell? ⟨g, o + k * 4, none⟩ = some (.string P) ∧ w'.cell? ⟨g, o + k * 4 + 1, none⟩ = some (.int .i64 K) ∧ w'.cell? ⟨g, o + k * 4 + 2, none⟩ = some (.slice pl nl cl) ∧ w'.cell? ⟨g, o + k * 4 + 3, none⟩ = some (.string Da)) := fun w' f => ⟨⟨f.keepCell e0 (fun e => e), f.keepCell e1 (fun e => e), f.keepCell e2 (fun e => e), f.keepCell e3 (fun e => e)⟩, HD.out w' (HF.out.then7 f)⟩
          obtain ⟨va2, ca2, hv2, _, _, _, hog⟩ := HO2.out.slice (HF.out.then7 HF2.out)
          obtain ⟨xm, hxm⟩ : ∃ xm, X.length = xm := ⟨_, rfl⟩
          rw [hxm] at hv2
          subst hv2
          have HOG : Hid (∀ i, (Value.slice va2 xm ca2).ownBlock = some i → wo.heap.size ≤ i) := fun i e => (hog i e).1
          have HXm : Hid (X.length = xm) := hxm
          clear hog e0 e1 e2 e3 hxm
          have i5 : (j : Int) < (m : Int) := by omega
          have i6 : (0 : Int) ≤ (j : Int) := by omega
          clear hye
          have HXL : Hid (X.length ≤ 50000) := by
            show _ ≤ _
            have h2 := HM.out
            cases b with
            | false => rw [(HI.out.1 rfl).1, List.length_take]; omega
            | true => rw [(HI.out.2 rfl).1, (insE_perm _ _).length_eq, List.length_cons, List.length_take]; omega
          obtain ⟨⟨e0, e1, e2, e3⟩, d0, d1, d2, d3⟩ := HC.out wr HF2.out
          cases b with
          | false =>
            obtain ⟨hX, hno⟩ := HI.out.1 rfl
            by_cases hgt : bl P < bl P1
            · have hg := gt_yes hgt
              have HI3 : Hid (InsAt ⟨P, K, l, Da⟩ O (X ++ [⟨P, K, l, Da⟩] ++ [⟨P1, K1, l1, Da1⟩]) (j + 1) true) := by
                show InsAt _ _ _ _ _
                refine ⟨fun e => (by cases e), fun _ => ?_⟩
                rw [HTK.out, insE_at _ _ hno hgt, hX]
                exact ⟨rfl, _, List.mem_append_right _ (List.mem_singleton.2 rfl), hgt⟩
              clear hX hno hgt
              go_wp2_with fail
              go_quiet (fail)
              have FX := Fr.drewN None' wr nq
              generalize wr.drewN nq = wX at FX ⊢
              have HFX : Hid (Fr None' wo wX) := HF2.out.then7 FX
              obtain ⟨g3, c3, w3, hr3, O3, f3, _⟩ := (HO2.out.kept (FX.then7 (Fr.alloc None' wX (.cells #[.string P, .int .i64 K, .slice pl nl cl, .string Da] 41)))).append (b := wX.heap.size) (x := ⟨P, K, l, Da⟩) (heap_alloc_new wX _) rfl HST0.out (Nat.le_trans HXL.out (by decide)) (by have := HFX.out.size; simp; omega)
              have HF3 : Hid (Fr None' wo w3) := (HFX.out.then7 (Fr.alloc None' wX _)).trans f3 (fun i e => Or.inr (HOG.out i e))
              have HR3 : Hid _ := hr3
              have HO3 : Hid _ := O3
              rw [HXm.out] at HR3 HO3
              obtain ⟨⟨x0, x1, x2, x3⟩, y0, y1, y2, y3⟩ := HC.out wX HFX.out
              obtain ⟨⟨u0, u1, u2, u3⟩, _⟩ := HC.out w3 HF3.out
              obtain ⟨g4, c4, w4, hr4, O4, f4, _⟩ := (O3.kept (Fr.alloc None' w3 (.cells #[.string P1, .int .i64 K1, .slice pl1 nl1 cl1, .string Da1] 41))).append (b := w3.heap.size) (x := ⟨P1, K1, l1, Da1⟩) (heap_alloc_new w3 _) rfl HST1.out (by rw [List.length_append]; have := HXL.out; simp; omega) (by have := HF3.out.size; simp; omega)
              have HG3 : Hid (∀ i, (Value.slice (some ⟨g3, 0, none⟩) (X.length + 1) c3).ownBlock = some i → wo.heap.size ≤ i) := fun i e => by
                rcases O3.row.2 with ⟨h, _⟩ | ⟨g5, cap, cur, h, hb5, _⟩
                · cases h
                · rw [h] at e; cases e; exact hb5
              have HF4 : Hid (Fr None' wo w4) := (HF3.out.then7 (Fr.alloc None' w3 _)).trans f4 (fun i e => Or.inr (HG3.out i e))
              have HR4 : Hid _ := hr4
              have HO4 : Hid _ := O4
              rw [List.length_append, HXm.out] at HR4 HO4
              clear hr3 O3 f3 hr4 O4 f4 FX d0 d1 d2 d3 e0 e1 e2 e3
              go_wp2_with (at_builtin
                           first
                           | refine app_list7 rfl _ _ rfl rfl rfl HR3.out ?_
                           | refine app_list7 rfl _ _ rfl rfl rfl HR4.out ?_)
              exact ⟨⟨j + 1, true, _, _, _, by omega, by go_num, rfl, rfl, HO4.out, HI3.out, HF4.out⟩, by simp [intOf]; omega⟩
            · have hg := gt_no hgt
              have HI3 : Hid (InsAt ⟨P, K, l, Da⟩ O (X ++ [⟨P1, K1, l1, Da1⟩]) (j + 1) false) := by
                show InsAt _ _ _ _ _
                refine ⟨fun _ => ⟨by rw [HTK.out, hX], fun u hu => ?_⟩, fun e => (by cases e)⟩
                rw [HTK.out] at hu
                rcases List.mem_append.1 hu with h | h
                · exact hno u h
                · rw [List.mem_singleton.1 h]; exact hgt
              clear hX hno hgt
              go_wp2_with fail
              go_quiet (fail)
              have FX := Fr.drewN None' wr nq
              generalize wr.drewN nq = wX at FX ⊢
              have HFX : Hid (Fr None' wo wX) := HF2.out.then7 FX
              obtain ⟨g3, c3, w3, hr3, O3, f3, _⟩ := (HO2.out.kept (FX.then7 (Fr.alloc None' wX (.cells #[.string P1, .int .i64 K1, .slice pl1 nl1 cl1, .string Da1] 41)))).append (b := wX.heap.size) (x := ⟨P1, K1, l1, Da1⟩) (heap_alloc_new wX _) rfl HST1.out (Nat.le_trans HXL.out (by decide)) (by have := HFX.out.size; simp; omega)
              have HF3 : Hid (Fr None' wo w3) := (HFX.out.then7 (Fr.alloc None' wX _)).trans f3 (fun i e => Or.inr (HOG.out i e))
              have HR3 : Hid _ := hr3
              have HO3 : Hid _ := O3
              rw [HXm.out] at HR3 HO3
              obtain ⟨⟨x0, x1, x2, x3⟩, y0, y1, y2, y3⟩ := HC.out wX HFX.out
              clear hr3 O3 f3 FX d0 d1 d2 d3 e0 e1 e2 e3
              go_wp2_with (at_builtin
                           refine app_list7 rfl _ _ rfl rfl rfl HR3.out ?_)
              exact ⟨⟨j + 1, false, _, _, _, by omega, by go_num, rfl, rfl, HO3.out, HI3.out, HF3.out⟩, by simp [intOf]; omega⟩
          | true =>
            obtain ⟨hX, hex⟩ := HI.out.2 rfl
            have HI3 : Hid (InsAt ⟨P, K, l, Da⟩ O (X ++ [⟨P1, K1, l1, Da1⟩]) (j + 1) true) := by
              show InsAt _ _ _ _ _
              refine ⟨fun e => (by cases e), fun _ => ?_⟩
              rw [HTK.out, insE_in _ _ hex, hX]
              obtain ⟨u, hu, hlu⟩ := hex
              exact ⟨rfl, u, List.mem_append_left _ hu, hlu⟩
            clear hX hex
            go_wp2_with fail
            go_quiet (fail)
            have FX := Fr.drewN None' wr nq
            generalize wr.drewN nq = wX at FX ⊢
            have HFX : Hid (Fr None' wo wX) := HF2.out.then7 FX
            obtain ⟨g3, c3, w3, hr3, O3, f3, _⟩ := (HO2.out.kept (FX.then7 (Fr.alloc None' wX (.cells #[.string P1, .int .i64 K1, .slice pl1 nl1 cl1, .string Da1] 41)))).append (b := wX.heap.size) (x := ⟨P1, K1, l1, Da1⟩) (heap_alloc_new wX _) rfl HST1.out (Nat.le_trans HXL.out (by decide)) (by have := HFX.out.size; simp; omega)
            have HF3 : Hid (Fr None' wo w3) := (HFX.out.then7 (Fr.alloc None' wX _)).trans f3 (fun i e => Or.inr (HOG.out i e))
            have HR3 : Hid _ := hr3
            have HO3 : Hid _ := O3
            rw [HXm.out] at HR3 HO3
            obtain ⟨⟨x0, x1, x2, x3⟩, y0, y1, y2, y3⟩ := HC.out wX HFX.out
            clear hr3 O3 f3 FX d0 d1 d2 d3 e0 e1 e2 e3
            go_wp2_with (at_builtin
                         refine app_list7 rfl _ _ rfl rfl rfl HR3.out ?_)
            exact ⟨⟨j + 1, true, _, _, _, by omega, by go_num, rfl, rfl, HO3.out, HI3.out, HF3.out⟩, by simp [intOf]; omega⟩
        · obtain ⟨d0, d1, d2, d3⟩ := HD.out wr (HF.out.then7 HF2.out)
          obtain ⟨va2, ca2, hv2, _, _, _, hog⟩ := HO2.out.slice (HF.out.then7 HF2.out)
          obtain ⟨xm, hxm⟩ : ∃ xm, X.length = xm := ⟨_, rfl⟩
          rw [hxm] at hv2
          subst hv2
          have HOG : Hid (∀ i, (Value.slice va2 xm ca2).ownBlock = some i → _ ≤ i) := fun i e => (hog i e).1
          clear hog
          have i7 : ¬ (j : Int) < (m : Int) := by omega
          cases b with
          | false =>
            obtain ⟨hX, hno⟩ := HI.out.1 rfl
            have HXL : Hid (X.length ≤ 100000) := by show _ ≤ _; rw [hX, List.length_take]; have := HM.out; omega
            obtain ⟨g3, c3, w3, hr3, O3, f3, _⟩ := (HO2.out.kept (Fr.alloc None' wr (.cells #[.string P, .int .i64 K, .slice pl nl cl, .string Da] 41))).append (b := wr.heap.size) (x := ⟨P, K, l, Da⟩) (heap_alloc_new wr _) rfl HST0.out HXL.out (by have := HF2.out.size; simp; omega)
            have HFin : Hid (sortE (L.take (k + 1)) = X ++ [⟨P, K, l, Da⟩]) := by
              show _ = _
              have hXO : X = O := by rw [hX, List.take_of_length_le (by rw [HM.out.1]; omega)]
              have hno' : ∀ y ∈ O, ¬ bl (⟨P, K, l, Da⟩ : En).path < bl y.path := fun y hy => hno y (by rw [List.take_of_length_le (by rw [HM.out.1]; omega)]; exact hy)
              rw [HSO.out, insE_none _ hno', hXO]
            have HO3 : Hid (OwnE w.heap.size w w3 (.slice (some ⟨g3, 0, none⟩) (X.length + 1) c3) (sortE (L.take (k + 1))) (V2 ++ [.slice pl nl cl])) := by show OwnE _ _ _ _ _ _; rw [HFin.out]; exact O3.weaken HF.out.size
            have HF3 : Hid (Fr None' w w3) := ((HF.out.then7 HF2.out).then7 (Fr.alloc None' wr _)).trans f3 (fun i e => Or.inr (by have := (HOG.out i e); have := HF.out.size; omega))
            have HR3 : Hid _ := hr3
            rw [hxm] at HR3 HO3
            clear hr3 O3 f3 hX hno
            go_wp2_with (at_builtin
                         refine app_list7 rfl _ _ rfl rfl rfl HR3.out ?_)
            exact ⟨⟨k + 1, _, _, by omega, by go_num, rfl, HO3.out, HF3.out⟩, by simp [intOf]; omega⟩
          | true =>
            obtain ⟨hX, _⟩ := HI.out.2 rfl
            have HO3 : Hid (OwnE w.heap.size w wr (.slice va2 xm ca2) (sortE (L.take (k + 1))) V2) := by
              show OwnE _ _ _ _ _ _
              have h := HO2.out.weaken HF.out.size
              rw [hX, List.take_of_length_le (by rw [HM.out.1]; omega), ← HSO.out] at h
              exact h
            clear hX
            go_wp2_with fail
            exact ⟨⟨k + 1, _, _, by omega, by go_num, rfl, HO3.out, HF.out.then7 HF2.out⟩, by simp [intOf]; omega⟩
    · have HOz : Hid (OwnE w.heap.size w wr v0 (sortE L) V) := by
        have := HO.out
        rw [List.take_of_length_le (by rw [HL.out]; omega)] at this
        exact this
      go_wp2_with fail
      go_ret
      exact ⟨_, V, rfl, HOz.out, HF.out⟩

end Go.Proofs.YtcpjneejlfgkeaaGreatDoor

namespace Go.Proofs.YtcpjneejlfgkeaaGreatDoor
open Go.RowKit
set_option maxRecDepth 100000

/-- A row of things, handed back. -/
def RowPost (R : List En) (w : World) (e : Ending) (w' : World) : Prop := ∃ (va : Option Addr) (c : Nat), e = .returned (.slice va R.length c) ∧ Hid (EntsAt w' va R) ∧ Hid (va = none → c = 0) ∧ Fr None' w w'

theorem row_own {R : List En} {w w1 w' : World} {v : Value} {V : List Value} (h : OwnE w1.heap.size w1 w' v R V) (f1 : Fr None' w1 w') (f : Fr None' w w1) : RowPost R w (.returned v) w' := by
  obtain ⟨va, c, rfl, _, h2, h3, _⟩ := h.slice f1
  exact ⟨va, c, rfl, h3, h2, f.then7 f1⟩

theorem step_app8 {P : Program} {ops : Array Oper} {o : Oper} {a : Act} {w w' : World} {K : Act → World → Prop} {Q : Exit → Act → World → Prop} {E : Prop} {v : Value} {t : TypeId} (hgd : o.guard = none) (s x : Operand)
    (ho : o.op = .call { callee := .builtin .append, args := #[s, x], argTypes := #[t, t] }) {vs vx : Value} (hs : a.eval s = vs) (hx : a.eval x = vx) (hr : (Builtin.append_ #[t, t] o.type #[vs, vx]).run P w = .ok v w') (h : K (a.put o.dst v) w') :
    if Region.wanted o (yielded ops a.tmps) = true then Oper.wp P o a w K Q else E := by
  have hw : Region.wanted o (yielded ops a.tmps) = true := by simp [Region.wanted, hgd]
  rw [if_pos hw]
  unfold Oper.wp execOp
  simp only [ho, resolve, invoke, builtin, Sem.run_bind, Sem.run_pure, Result.andThen_ok, List.map_toArray, List.map_cons, List.map_nil, hs, hx, hr]
  exact h

/-- What without and append leave, one behind the other. -/
theorem app_own {w1 w2 : World} {v : Value} {M : List En} {V : List Value} {P : ByteArray} {K : Int} {l : List ByteArray} {vl : Value} {Da : ByteArray} (O : OwnE w1.heap.size w1 w2 v M V) (F : Fr None' w1 w2) (b : Nat) (hb : w2.heap[b]? = some (.cells #[.string P, .int .i64 K, vl, .string Da] 41 (0, 0))) (hz : vl.oneCell' = true) (hs : StrsAt w1 vl l) (hn : M.length ≤ 1900) :
    ∃ g c w3, (Builtin.append_ #[22, 22] 22 #[v, .slice (some ⟨b, 0, none⟩) 1 1]).run Tryz.prog w2 = .ok (.slice (some ⟨g, 0, none⟩) (M.length + 1) c) w3 ∧ Hid (∀ w', Fr None' w3 w' → Calls Tryz.prog 44 #[.slice (some ⟨g, 0, none⟩) (M.length + 1) c] w' fun e w'' => RowPost (sortE (M ++ [⟨P, K, l, Da⟩])) w1 e w'') ∧ Fr None' w1 w3 := by
  obtain ⟨va, ca, hv, _, _, _, hlt⟩ := O.slice F
  obtain ⟨g3, c3, w3, hr3, O3, f3, _⟩ := O.append (b := b) (x := ⟨P, K, l, Da⟩) (vl := vl) hb hz hs (by omega) F.size
  have F3 : Fr None' w1 w3 := F.trans f3 (fun i e => Or.inr (hlt i e).1)
  refine ⟨g3, c3, w3, hr3, ?_, F3⟩
  refine toHid8 (fun w' f => ?_)
  obtain ⟨vb, cb, hvb, _, _, E3, _⟩ := (O3.kept f).slice (F3.then7 f)
  have hM : (M ++ [⟨P, K, l, Da⟩] : List En).length = M.length + 1 := by simp
  rw [hM] at hvb
  cases hvb
  refine (esorted_any _ (M.length + 1) c3 (M ++ [⟨P, K, l, Da⟩]) w' hM E3 (by omega)).mono ?_
  rintro e w'' ⟨v', V', rfl, O4, f4⟩
  exact row_own O4 f4 (F3.then7 f)

set_option maxHeartbeats 4000000 in
theorem vput_any (va : Option Addr) (n c : Nat) (L : List En) (x : En) (vl : Value) (w : World) (hl : L.length = n) (h : EntsAt w va L) (hn : n ≤ 1900) (hs : StrsAt w vl x.lines) (hst : Strict L) :
    Calls Tryz.prog 30 #[.slice va n c, .agg #[.string x.path, .int .i64 x.kind, vl, .string x.data]] w fun e w' => RowPost (putE L x) w e w' := by
  obtain ⟨P, K, l, Da⟩ := x
  obtain ⟨pl, cl, rfl, hs'⟩ := hs
  simp only at hs' ⊢
  obtain ⟨w1, hw1⟩ : ∃ w1, w.alloc (.cells #[.string P, .int .i64 K, .slice pl l.length cl, .string Da] 41) = w1 := ⟨_, rfl⟩
  have F1 : Fr None' w w1 := hw1 ▸ Fr.alloc None' w _
  have HB := toHid8 (show EBox w1 w.heap.size (.string P) (.int .i64 K) (.slice pl l.length cl) (.string Da) from hw1 ▸ EBox.new w _ _ _ _)
  have HPS := toHid8 (show sortE (delE L (bl P) ++ [⟨P, K, l, Da⟩]) = putE L ⟨P, K, l, Da⟩ from put_sorted hst ⟨P, K, l, Da⟩)
  obtain ⟨b0, b1, b2, b3⟩ := HB.out.cells
  have HSx := toHid8 (show StrsAt w1 (.slice pl l.length cl) l from StrsAt.kept ⟨pl, cl, rfl, hs'⟩ F1)
  have HW := toHid8 (show ∀ w', Fr None' w1 w' → Calls Tryz.prog 32 #[.slice va n c, .string P] w' fun e w'' => ∃ v V, e = .returned v ∧ Hid (OwnE w1.heap.size w1 w'' v (delE L (bl P)) V) ∧ Fr None' w1 w'' from fun w' f => by
    refine (vwithout_any va n c L P w1 w' hl (h.kept F1) f (by omega)).mono ?_
    rintro e w'' ⟨v, V, rfl, O, f2⟩
    exact ⟨v, V, rfl, O.weaken f.size, f.then7 f2⟩)
  have HWb := toHid8 (show ∀ X, Fr None' w1 X → Calls Tryz.prog 32 #[.slice va n c, .string P] (X.alloc (.cells #[.string P, .int .i64 K, .slice pl l.length cl, .string Da] 41)).drew fun e w'' => ∃ v V, e = .returned v ∧ Hid (OwnE w1.heap.size w1 w'' v (delE L (bl P)) V) ∧ Fr None' w1 w'' ∧ Hid (w''.heap[X.heap.size]? = some (.cells #[.string P, .int .i64 K, .slice pl l.length cl, .string Da] 41 (0, 0))) from fun X f => by
    have f' := (f.then7 (Fr.alloc None' X (.cells #[.string P, .int .i64 K, .slice pl l.length cl, .string Da] 41))).then7 (Fr.drew None' _)
    refine (vwithout_any va n c L P w1 _ hl (h.kept F1) f' (by omega)).mono ?_
    rintro e w'' ⟨v, V, rfl, O, f2⟩
    exact ⟨v, V, rfl, O.weaken f'.size, f'.then7 f2, f2.at (heap_alloc_new X _) (fun e => e)⟩)
  have HLd := toHid8 (show (delE L (bl P)).length ≤ 1900 from by have h1 : (delE L (bl P)).length ≤ L.length := List.length_filter_le _ _; omega)
  have HF1 := toHid8 F1
  have HI := toHid8 (show ∀ w', Fr None' w1 w' → Fr None' w1 w' ∧ w'.cell? ⟨w.heap.size, 0, none⟩ = some (.string P) ∧ w'.cell? ⟨w.heap.size, 1, none⟩ = some (.int .i64 K) ∧ w'.cell? ⟨w.heap.size, 2, none⟩ = some (.slice pl l.length cl) ∧ w'.cell? ⟨w.heap.size, 3, none⟩ = some (.string Da) from fun w' f => ⟨f, f.keepCell b0 (fun e => e), f.keepCell b1 (fun e => e), f.keepCell b2 (fun e => e), f.keepCell b3 (fun e => e)⟩)
  clear hs' h hst F1 b0 b1 b2 b3 hl hn
  go_enter Tryz.func30, Tryz.ntmps30
  go_wp2_with fail
  go_region_held3 (fun w' => Fr None' w1 w' ∧ w'.cell? ⟨w.heap.size, 0, none⟩ = some (.string P) ∧ w'.cell? ⟨w.heap.size, 1, none⟩ = some (.int .i64 K) ∧ w'.cell? ⟨w.heap.size, 2, none⟩ = some (.slice pl l.length cl) ∧ w'.cell? ⟨w.heap.size, 3, none⟩ = some (.string Da))
    (exact HI.out _ (by first | assumption | exact Fr.drew None' w1 | exact (Fr.alloc None' w1 _).then7 (Fr.drew None' _) | exact (Fr.drew None' w1).then7 (Fr.alloc None' _ _) | exact Fr.then7 (by assumption) (Fr.alloc None' _ _) | exact Fr.then7 (by assumption) (Fr.drew None' _) | exact Fr.alloc None' w1 _))
    (first
      | (go_at_call 32; with_reducible (refine (HWb.out _ (by first | exact Fr.drew None' w1 | exact Fr.refl _ _)).mono ?_); rintro e w2 ⟨v2, V2, rfl, O2, F2, HC2⟩; obtain ⟨g3, c3, w3, hr3, HS3, F3⟩ := app_own O2.out F2 _ HC2.out rfl HSx.out HLd.out)
      | (go_at_call 32; with_reducible (refine (HW.out _ (by first | exact Fr.drew None' w1 | exact Fr.refl _ _)).mono ?_); rintro e w2 ⟨v2, V2, rfl, O2, F2⟩; obtain ⟨g3, c3, w3, hr3, HS3, F3⟩ := app_own (O2.out.kept (Fr.alloc None' w2 (.cells #[.string P, .int .i64 K, .slice pl l.length cl, .string Da] 41))) (F2.then7 (Fr.alloc None' w2 _)) w2.heap.size (heap_alloc_new w2 _) rfl HSx.out HLd.out)
      | (refine step_app8 rfl (.tmp 8) (.tmp 10) rfl (by first | rfl | simp [Act.eval]) (by first | rfl | simp [Act.eval]) hr3 ?_)
      | (go_at_call 44; with_reducible (refine (HS3.out _ (by first | exact Fr.refl _ _ | assumption)).mono ?_); unfold RowPost; rintro e w4 ⟨v4, c4, rfl, HE4, HC4, F4⟩))
  all_goals
    have HFz := toHid8 (HF1.out.then7 F4)
    go_wp2_with fail
    go_ret
    refine ⟨v4, c4, ?_, ?_, HC4, HFz.out⟩
    · rw [← HPS.out]; rfl
    · rw [← HPS.out]; exact HE4

end Go.Proofs.YtcpjneejlfgkeaaGreatDoor

namespace Go.Proofs.YtcpjneejlfgkeaaGreatDoor
open Go.RowKit
set_option maxRecDepth 100000

/-- One patch, told by what it does. -/
theorem all_act {L M : List En} {p : Pr} {er : Int} (ht : treeRight L = true) (hr : rightP p = true) (e : actE L p = (M, er)) : allE L [p] = if er = 0 then (M, 0, 0) else ([], er, 0) := by
  rw [runE_good ht, runE]
  have hd : doE L p = (M, er) := by unfold doE; rw [if_pos hr, e]
  rw [hd]
  by_cases h : er = 0
  · rw [if_pos h, if_pos h]; rfl
  · rw [if_neg h, if_neg h]

theorem act_mv {L : List En} {p : Pr} (hk : p.kind = 10) : actE L p = moveE L (bl p.path) (bl p.dst) := by
  unfold actE
  rw [if_neg (by omega), if_neg (by omega), if_pos hk]

set_option maxHeartbeats 8000000 in
theorem vmove_any (va : Option Addr) (n c : Nat) (L : List En) (p : Pr) (vo vn : Value) (w : World) (hl : L.length = n) (h : EntsAt w va L) (hT : treeRight L = true) (hR : rightP p = true) (hk : p.kind = 10) (hp : SmPr p) (ho : StrsAt w vo p.old) (hn : StrsAt w vn p.new) :
    Calls Tryz.prog 27 #[.slice va n c, .agg #[.int .i64 p.kind, .string p.path, .string p.dst, .string p.src, .int .i64 p.pos, vo, vn]] w fun e w' => ApplyPost8 (allE L [p]) w e w' := by
  obtain ⟨pa, ca, rfl, _⟩ := ho
  obtain ⟨pb, cb, rfl, _⟩ := hn
  have hTR := (treeR L).1 hT
  have hn9 : n ≤ 1024 := by have := hTR.len; omega
  have hMv := act_mv (L := L) hk
  have H0 := toHid8 (show findE L (bl p.path) = none → allE L [p] = ([], 72, 0) from fun e => by
    rw [all_act hT hR (hMv.trans (show moveE L (bl p.path) (bl p.dst) = (L, 72) from by unfold moveE; rw [if_pos e]))]; rfl)
  have H1 := toHid8 (show findE L (bl p.path) ≠ none → freeE L (bl p.dst) ≠ 0 → allE L [p] = ([], freeE L (bl p.dst), 0) from fun e1 e2 => by
    rw [all_act hT hR (hMv.trans (show moveE L (bl p.path) (bl p.dst) = (L, freeE L (bl p.dst)) from by unfold moveE; rw [if_neg e1, if_pos e2])), if_neg e2])
  have H2 := toHid8 (show findE L (bl p.path) ≠ none → freeE L (bl p.dst) = 0 → (∃ x ∈ L, Path.right (bl (mvI (bl p.path) (bl p.dst) x).path) = false) → allE L [p] = ([], 41, 0) from fun e1 e2 ⟨x, hx, hb⟩ => by
    rw [all_act hT hR (hMv.trans (show moveE L (bl p.path) (bl p.dst) = (L, 41) from by
      unfold moveE
      rw [if_neg e1, if_neg (by rw [e2]; simp), ← mvI_right hTR, if_neg (by
        intro ha
        have := List.all_eq_true.1 ha x hx
        rw [hb] at this
        cases this)]))]; rfl)
  have H3 := toHid8 (show findE L (bl p.path) ≠ none → freeE L (bl p.dst) = 0 → (∀ x ∈ L, Path.right (bl (mvI (bl p.path) (bl p.dst) x).path) = true) → allE L [p] = (sortE (L.map (mvI (bl p.path) (bl p.dst))), 0, 0) from fun e1 e2 ha => by
    rw [all_act hT hR (hMv.trans (show moveE L (bl p.path) (bl p.dst) = (sortE (L.map (mvI (bl p.path) (bl p.dst))), 0) from by
      unfold moveE
      rw [if_neg e1, if_neg (by rw [e2]; simp), ← mvI_right hTR, if_pos (List.all_eq_true.2 ha), move_sorted hTR (freeE_zero.1 e2).1])), if_pos rfl])
  have HPR := toHid8 (show ∀ x ∈ L, x.path.size ≤ 4000 from fun x hx => by have := right_len (hTR.own x hx).1; have h2 : (bl x.path).length = x.path.size := Array.length_toList; omega)
  have HE := toHid8 (show ∀ w', Fr None' w w' → EntsAt w' va L from fun w' f => h.kept f)
  have HFd := toHid8 (fun (q : ByteArray) (b : Bool) (hb : (findE L (bl q)).isSome = b) w' (f : Fr None' w w') => (efind_any va n c L q w' hl (h.kept f) (by omega)).mono (fun e w'' h => find_k hb (rfl : ((findE L (bl q)).map En.kind).getD 0 = ((findE L (bl q)).map En.kind).getD 0) h))
  have HRm := toHid8 (fun w' (f : Fr None' w w') => vroom_any va n c L p.dst w' hl (h.kept f) (by omega) hp.dst)
  unfold FindK at HFd
  have HLen := toHid8 hl
  have HSp := toHid8 hp
  obtain ⟨w1, hw1⟩ : ∃ w1, w.alloc (.cells #[.int .i64 p.kind, .string p.path, .string p.dst, .string p.src, .int .i64 p.pos, .slice pa p.old.length ca, .slice pb p.new.length cb] 25) = w1 := ⟨_, rfl⟩
  have HF1 := toHid8 (show Fr None' w w1 from hw1 ▸ Fr.alloc None' w _)
  have HB1 := toHid8 (show Box w1 w.heap.size (.int .i64 p.kind) (.string p.path) (.string p.dst) (.string p.src) (.int .i64 p.pos) (.slice pa p.old.length ca) (.slice pb p.new.length cb) from hw1 ▸ Box.new w _ _ _ _ _ _ _)
  obtain ⟨b1, hb1⟩ : ∃ b, (findE L (bl p.path)).isSome = b := ⟨_, rfl⟩
  have q1 := HFd.out p.path b1 hb1 w1 HF1.out
  obtain ⟨k1, hk1⟩ : ∃ x, ((findE L (bl p.path)).map En.kind).getD 0 = x := ⟨_, rfl⟩
  rw [hk1] at q1
  obtain ⟨p0, p1, p2, p3, p4, p5, p6⟩ := HB1.out.cells
  have HBb := toHid8 hb1
  have i1 : (n : Int) ≤ 1024 := by omega
  clear h hl hT hR hk hp hTR hMv hb1 hk1 HFd
  go_enter Tryz.func27, Tryz.ntmps27
  go_wp2_with fail
  with_reducible refine q1.mono ?_
  rintro e w2 ⟨s0, a1, a2, a3, s3, rfl, f2⟩
  obtain ⟨w3, hw3⟩ : ∃ x, w2.alloc (.cells #[.string s0, .int .i64 k1, .slice a1 a2 a3, .string s3] 41) = x := ⟨_, rfl⟩
  have F3 : Fr None' w2 w3 := hw3 ▸ Fr.alloc None' w2 _
  have HF3 := toHid8 (HF1.out.then7 (f2.then7 F3))
  have HB3 := toHid8 (HB1.out.kept (f2.then7 F3))
  clear q1 f2 F3 p0 p1 p2 p3 p4 p5 p6
  cases b1 with
  | false =>
    have HEq := toHid8 (H0.out (by cases hf : findE L (bl p.path) with | none => rfl | some y => have := HBb.out; rw [hf] at this; cases this))
    go_wp2_with fail
    go_ret2
    rw [HEq.out]
    exact ⟨none, 0, rfl, (fun j x hj => by simp at hj), fun _ => rfl, HF3.out⟩
  | true =>
    have HSm := toHid8 (show findE L (bl p.path) ≠ none from fun e => by have := HBb.out; rw [e] at this; cases this)
    obtain ⟨p0, p1, p2, p3, p4, p5, p6⟩ := HB3.out.cells
    have q2 := HRm.out w3 HF3.out
    obtain ⟨er, her⟩ : ∃ x, freeE L (bl p.dst) = x := ⟨_, rfl⟩
    rw [her] at q2
    have HEr := toHid8 her
    clear her HRm HBb
    go_wp2_with fail
    with_reducible refine q2.mono ?_
    rintro e w5 ⟨rfl, f5⟩
    have HF5 := toHid8 (HF3.out.then7 f5)
    have HB5 := toHid8 (HB3.out.kept f5)
    clear q2 f5 p0 p1 p2 p3 p4 p5 p6
    by_cases he : er = 0
    · subst he
      go_wp2_with fail
      go_loopw [9, 10] (fun vo vi wr => ∃ (k : Nat) (v' : Value) (V : List Value), k ≤ n ∧ vi = .int .i64 k ∧ v' = vo ∧ Hid (OwnE w5.heap.size w5 wr v' ((L.take k).map (mvI (bl p.path) (bl p.dst))) V) ∧ Hid (Fr None' w5 wr) ∧ Hid (∀ x ∈ L.take k, Path.right (bl (mvI (bl p.path) (bl p.dst) x).path) = true)) (fun _ vi _ => n - (intOf vi).toNat)
      case atStart => exact ⟨0, _, [], Nat.zero_le _, rfl, rfl, OwnE.nil _ _ _, Fr.refl _ _, fun x hx => by simp at hx⟩
      case round =>
        obtain ⟨k, v0, V, hk, rfl, rfl, HO, HF, HRt⟩ := hrel
        have HMk := toHid8 (show ((L.take k).map (mvI (bl p.path) (bl p.dst))).length = k from by rw [List.length_map, List.length_take, HLen.out]; omega)
        obtain ⟨va1, ca1, hv1, _, _, _, hlt1⟩ := HO.out.slice HF.out
        rw [HMk.out] at hv1
        subst hv1
        have HLt := toHid8 (fun i e => (hlt1 i e).1)
        clear hlt1
        by_cases hlt : k < n
        · have hkL : k < L.length := by rw [HLen.out]; exact hlt
          obtain ⟨g, o, rfl, vl, d0, d1, d2, d3, hs1⟩ := (HE.out w5 HF5.out).get hkL
          have HPz := toHid8 (HPR.out _ (List.getElem_mem hkL))
          have HTk := toHid8 (show (L.take (k + 1)).map (mvI (bl p.path) (bl p.dst)) = (L.take k).map (mvI (bl p.path) (bl p.dst)) ++ [mvI (bl p.path) (bl p.dst) L[k]] from by rw [List.take_succ_eq_append_getElem hkL, List.map_append]; rfl)
          have HNx := toHid8 (show Path.right (bl (mvI (bl p.path) (bl p.dst) L[k]).path) = true → ∀ x ∈ L.take (k + 1), Path.right (bl (mvI (bl p.path) (bl p.dst) x).path) = true from fun h x hx => by
            rw [List.take_succ_eq_append_getElem hkL] at hx
            rcases List.mem_append.1 hx with hx | hx
            · exact HRt.out x hx
            · rw [List.mem_singleton.1 hx]; exact h)
          have HBad := toHid8 (show Path.right (bl (mvI (bl p.path) (bl p.dst) L[k]).path) = false → allE L [p] = ([], 41, 0) from fun h => H2.out HSm.out HEr.out ⟨_, List.getElem_mem hkL, h⟩)
          obtain ⟨x, hxe⟩ : ∃ x, L[k] = x := ⟨_, rfl⟩
          rw [hxe] at d0 d1 d3 hs1 HPz HTk HNx HBad
          obtain ⟨P, K, l, Da⟩ := x
          simp only at d0 d1 d3 hs1 HPz
          have HS1 := toHid8 hs1
          obtain ⟨pl, cl, rfl, _⟩ := hs1
          obtain ⟨nl, hnl⟩ : ∃ m, l.length = m := ⟨_, rfl⟩
          rw [hnl] at d2 HS1
          replace d0 := HF.out.keepCell d0 (fun e => e)
          replace d1 := HF.out.keepCell d1 (fun e => e)
          replace d2 := HF.out.keepCell d2 (fun e => e)
          replace d3 := HF.out.keepCell d3 (fun e => e)
          obtain ⟨w6, hw6⟩ : ∃ x, wr.alloc (.cells #[.string P, .int .i64 K, .slice pl nl cl, .string Da] 41) = x := ⟨_, rfl⟩
          have F6 : Fr None' wr w6 := hw6 ▸ Fr.alloc None' wr _
          have BB : EBox w6 wr.heap.size (.string P) (.int .i64 K) (.slice pl nl cl) (.string Da) := hw6 ▸ EBox.new wr _ _ _ _
          obtain ⟨b0, b1, b2, b3⟩ := BB.cells
          have bz := BB.frozen
          obtain ⟨p0, p1, p2, p3, p4, p5, p6⟩ := (HB5.out.kept (HF.out.then7 F6)).cells
          have q5 := Path.rmoved_any P p.path p.dst w6 (by have := HPz.out; omega) (by have := HSp.out.path; omega) (by have := HSp.out.dst; omega)
          obtain ⟨M, hM⟩ : ∃ Q : ByteArray, (⟨(Path.moved P.data.toList p.path.data.toList p.dst.data.toList).toArray⟩ : ByteArray) = Q := ⟨_, rfl⟩
          rw [hM] at q5
          have i2 : (k : Int) < (n : Int) := by omega
          have i3 : (0 : Int) ≤ (k : Int) := by omega
          clear hxe hnl
          cases hw : Path.within P.data.toList p.path.data.toList with
          | true =>
            rw [hw] at q5
            have HQe := toHid8 (show mvI (bl p.path) (bl p.dst) ⟨P, K, l, Da⟩ = ⟨M, K, l, Da⟩ from by rw [mvI_yes (x := ⟨P, K, l, Da⟩) (A := bl p.path) hw, ← hM]; rfl)
            have HQs := toHid8 (show M.size ≤ 2000000 from hM ▸ moved_len P p.path p.dst (by have := HPz.out; omega) (by have := HSp.out.dst; omega))
            obtain ⟨wY, hwY⟩ : ∃ x, w6.setCell ⟨wr.heap.size, 0, none⟩ (.string M) = x := ⟨_, rfl⟩
            have FY : Fr None' wr wY := F6.trans (hwY ▸ Fr.setCell (M := fun k => k = wr.heap.size) (a := ⟨wr.heap.size, 0, none⟩) w6 rfl _ : Fr (fun k => k = wr.heap.size) w6 wY) (fun i e => Or.inr (by have e : i = wr.heap.size := e; omega))
            have HBY := toHid8 (show EBox wY wr.heap.size (.string M) (.int .i64 K) (.slice pl nl cl) (.string Da) from hwY ▸ BB.set0 _)
            have HFrY := toHid8 FY
            have HFY := toHid8 (HF.out.then7 FY)
            clear hM FY F6 BB
            go_wp2_with fail
            with_reducible refine q5.mono ?_
            rintro e w7 ⟨rfl, rfl⟩
            clear q5
            obtain ⟨y0, y1, y2, y3⟩ := HBY.out.cells
            have q6 := Path.rright_any M wY (by have := HQs.out; omega)
            cases hrt : Path.right M.data.toList with
            | false =>
              rw [hrt] at q6
              have HE := toHid8 (HBad.out (by rw [HQe.out]; exact hrt))
              go_wp2_with fail
              with_reducible refine q6.mono ?_
              rintro e w7 ⟨rfl, rfl⟩
              have HFz := toHid8 (HF5.out.then7 HFY.out)
              clear q6
              go_wp2_with fail
              go_ret2
              rw [HE.out]
              exact ⟨none, 0, rfl, (fun j x hj => by simp at hj), fun _ => rfl, HFz.out⟩
            | true =>
              rw [hrt] at q6
              have HN2 := toHid8 (HNx.out (by rw [HQe.out]; exact hrt))
              obtain ⟨g3, c3, w8, hr3, O3, f3, _⟩ := ((HO.out.kept HFrY.out).kept (Fr.alloc None' wY (.cells #[.string M, .int .i64 K, .slice pl nl cl, .string Da] 41))).append (b := wY.heap.size) (x := ⟨M, K, l, Da⟩) (vl := .slice pl nl cl) (heap_alloc_new wY _) rfl HS1.out (by rw [List.length_map, List.length_take]; omega) (by have := HFY.out.size; simp; omega)
              have HF8 := toHid8 ((HFY.out.then7 (Fr.alloc None' wY _)).trans f3 (fun i e => Or.inr (HLt.out i e)))
              have HR3 := toHid8 hr3
              have HO3 := toHid8 (show OwnE w5.heap.size w5 w8 (.slice (some ⟨g3, 0, none⟩) (((L.take k).map (mvI (bl p.path) (bl p.dst))).length + 1) c3) ((L.take (k + 1)).map (mvI (bl p.path) (bl p.dst))) (V ++ [.slice pl nl cl]) from by rw [HTk.out, HQe.out]; exact O3)
              clear hr3 O3 f3 hrt
              rw [HMk.out] at HR3 HO3
              go_wp2_with fail
              with_reducible refine q6.mono ?_
              rintro e w7 ⟨rfl, rfl⟩
              clear q6
              go_wp2_with (at_builtin
                           refine app_list7 rfl _ _ rfl rfl rfl HR3.out ?_)
              exact ⟨⟨k + 1, _, _, by omega, by go_num, rfl, HO3.out, HF8.out, HN2.out⟩, by simp [intOf]; omega⟩
          | false =>
            rw [hw] at q5
            have HQe := toHid8 (show mvI (bl p.path) (bl p.dst) ⟨P, K, l, Da⟩ = ⟨P, K, l, Da⟩ from mvI_no (x := ⟨P, K, l, Da⟩) (A := bl p.path) hw)
            have HQs := toHid8 (show P.size ≤ 2000000 from by have := HPz.out; omega)
            have HBY := toHid8 BB
            have HFrY := toHid8 F6
            have HFY := toHid8 (HF.out.then7 F6)
            clear hM F6 BB
            go_wp2_with fail
            with_reducible refine q5.mono ?_
            rintro e w7 ⟨rfl, rfl⟩
            clear q5
            obtain ⟨y0, y1, y2, y3⟩ := HBY.out.cells
            have q6 := Path.rright_any P w6 (by have := HQs.out; omega)
            cases hrt : Path.right P.data.toList with
            | false =>
              rw [hrt] at q6
              have HE := toHid8 (HBad.out (by rw [HQe.out]; exact hrt))
              go_wp2_with fail
              with_reducible refine q6.mono ?_
              rintro e w7 ⟨rfl, rfl⟩
              have HFz := toHid8 (HF5.out.then7 HFY.out)
              clear q6
              go_wp2_with fail
              go_ret2
              rw [HE.out]
              exact ⟨none, 0, rfl, (fun j x hj => by simp at hj), fun _ => rfl, HFz.out⟩
            | true =>
              rw [hrt] at q6
              have HN2 := toHid8 (HNx.out (by rw [HQe.out]; exact hrt))
              obtain ⟨g3, c3, w8, hr3, O3, f3, _⟩ := ((HO.out.kept HFrY.out).kept (Fr.alloc None' w6 (.cells #[.string P, .int .i64 K, .slice pl nl cl, .string Da] 41))).append (b := w6.heap.size) (x := ⟨P, K, l, Da⟩) (vl := .slice pl nl cl) (heap_alloc_new w6 _) rfl HS1.out (by rw [List.length_map, List.length_take]; omega) (by have := HFY.out.size; simp; omega)
              have HF8 := toHid8 ((HFY.out.then7 (Fr.alloc None' w6 _)).trans f3 (fun i e => Or.inr (HLt.out i e)))
              have HR3 := toHid8 hr3
              have HO3 := toHid8 (show OwnE w5.heap.size w5 w8 (.slice (some ⟨g3, 0, none⟩) (((L.take k).map (mvI (bl p.path) (bl p.dst))).length + 1) c3) ((L.take (k + 1)).map (mvI (bl p.path) (bl p.dst))) (V ++ [.slice pl nl cl]) from by rw [HTk.out, HQe.out]; exact O3)
              clear hr3 O3 f3 hrt
              rw [HMk.out] at HR3 HO3
              go_wp2_with fail
              with_reducible refine q6.mono ?_
              rintro e w7 ⟨rfl, rfl⟩
              clear q6
              go_wp2_with (at_builtin
                           refine app_list7 rfl _ _ rfl rfl rfl HR3.out ?_)
              exact ⟨⟨k + 1, _, _, by omega, by go_num, rfl, HO3.out, HF8.out, HN2.out⟩, by simp [intOf]; omega⟩
        · have e : k = n := by omega
          subst e
          have HEq := toHid8 (H3.out HSm.out HEr.out (fun x hx => HRt.out x (by rw [List.take_of_length_le (by rw [HLen.out]; exact Nat.le_refl _)]; exact hx)))
          obtain ⟨vb, cb', hvb, _, _, E3, _⟩ := HO.out.slice HF.out
          rw [List.take_of_length_le (by rw [HLen.out]; exact Nat.le_refl _)] at E3 HMk
          rw [show ((L.take k).map (mvI (bl p.path) (bl p.dst))).length = k from by rw [List.take_of_length_le (by rw [HLen.out]; exact Nat.le_refl _)]; exact HMk.out] at hvb
          cases hvb
          have q7 := esorted_any va1 k ca1 (L.map (mvI (bl p.path) (bl p.dst))) wr HMk.out E3 (by omega)
          clear E3
          go_wp2_with fail
          with_reducible refine q7.mono ?_
          rintro e w7 ⟨v7, V7, rfl, O7, f7⟩
          obtain ⟨v8, c8, rfl, _, h8c, E8, _⟩ := O7.slice f7
          have HE8 := toHid8 E8
          have HC8 := toHid8 h8c
          have HFz := toHid8 (HF5.out.then7 (HF.out.then7 f7))
          clear q7 O7 E8 h8c f7
          go_wp2_with fail
          go_ret2
          rw [HEq.out]
          exact ⟨v8, c8, rfl, HE8, HC8, HFz.out⟩
    · have he2 : (er == 0) = false := by simpa using he
      have HEq := toHid8 (H1.out HSm.out (by rw [HEr.out]; exact he))
      go_wp2_with fail
      go_ret2
      rw [HEq.out, HEr.out]
      exact ⟨none, 0, rfl, (fun j x hj => by simp at hj), fun _ => rfl, HF5.out⟩

end Go.Proofs.YtcpjneejlfgkeaaGreatDoor

namespace Go.Proofs.YtcpjneejlfgkeaaGreatDoor
open Go.RowKit
set_option maxRecDepth 100000

theorem app_str8 {w0 w : World} {v : Value} {l : List ByteArray} (hown : Lines.OwnS w0 w v l) (hfr : Fr None' w0 w) (b : Nat) (z : ByteArray) (hb : w.cell? ⟨b, 0, none⟩ = some (.string z)) (hbig : l.length ≤ 900000) :
    ∃ v' w', (Builtin.append_ #[23, 23] 23 #[v, .slice (some ⟨b, 0, none⟩) 1 1]).run Tryz.prog w = .ok v' w' ∧ Hid (Lines.OwnS w0 w' v' (l ++ [z])) ∧ Fr None' w0 w' := by
  obtain ⟨i0, hi, hz0, hz1, hz2⟩ := info_parts Lines.Tryz.infoS
  obtain ⟨v', w', hr, h5, h6, _, h7⟩ := run_append_own_at (P := Tryz.prog) w w0.heap.size 23 23 9 i0 _ 1 16 Tryz.underlying23 hi hz0 hz1 hz2 rfl (by decide) v l.length (l.map Value.string) hown ⟨b, 0, none⟩ 1 1 [.string z] rfl (fun j u hj => by
    have hj0 : j = 0 := by have := (List.getElem?_eq_some_iff.1 hj).1; simpa using this
    subst hj0
    have e : (⟨b, 0, none⟩ : Addr).add 0 = ⟨b, 0 + 0, none⟩ := Addr.add_lit ..
    rw [e]
    simp at hj
    subst hj
    exact hb) (fun u hu => by rw [List.mem_singleton.1 hu]; rfl) (by unfold maxLen; omega) (by omega) hfr.size
  refine ⟨v', w', hr, ?_, ofLN (Lines.grown_fr hown (toLN hfr) h6)⟩
  show Lines.OwnS _ _ _ _
  unfold Lines.OwnS
  rw [List.length_append, List.map_append]
  exact h5

end Go.Proofs.YtcpjneejlfgkeaaGreatDoor

namespace Go.Proofs.YtcpjneejlfgkeaaGreatDoor
open Go.RowKit
set_option maxRecDepth 100000

theorem rtokens8_any (s : ByteArray) (w : World) (hs : s.size < 100000) : Calls Tryz.prog 45 #[.string s] w fun e w' => ∃ (l : List ByteArray) (va : Option Addr) (n c : Nat), e = .returned (.slice va n c) ∧ Hid (Lines.bs l = Lines.pieces (bl s) ∧ l.length = n ∧ Lines.Row w' va l) ∧ Fr None' w w' := by
  refine (Lines.rTokens_any s w hs).mono ?_
  rintro e w' ⟨v, rfl, h⟩
  obtain ⟨l, h1, va, c, h2, _, h3⟩ := h.is
  exact ⟨l, va, l.length, c, by rw [h2], ⟨h1, rfl, h3⟩, ofLN h.fr⟩

theorem rreplace8_any (y f t : ByteArray) (w : World) (h1 : y.size < 100000) (h2 : f.size < 100000) (h3 : t.size < 100000) : Calls Tryz.prog 46 #[.string y, .string f, .string t] w fun e w' => e = .returned (.string (repB f t y)) ∧ Fr None' w w' :=
  (Lines.rReplace_any y f t w h1 h2 h3).mono fun _ _ ⟨a, b⟩ => ⟨a, ofLN b⟩

set_option maxHeartbeats 8000000 in
theorem vchange_8 (x : En) (p : Pr) (ua : Option Addr) (um uc : Nat) (vo vn : Value) (w : World) (hx : StrsAt w (.slice ua um uc) x.lines) (ho : StrsAt w vo p.old) (hn : StrsAt w vn p.new) (hk : p.kind = 8) (l1 : x.lines.length ≤ 90000) (l2 : ∀ y ∈ x.lines, y.size < 100000) (l3 : p.src.size < 100000 ∧ p.dst.size < 100000) :
    Calls Tryz.prog 33 #[.agg #[.string x.path, .int .i64 x.kind, .slice ua um uc, .string x.data], .agg #[.int .i64 p.kind, .string p.path, .string p.dst, .string p.src, .int .i64 p.pos, vo, vn]] w fun e w' => WithPost (withE x p) w e w' := by
  have HW := toHid8 (show withE x p = (tokensL x.lines p.src p.dst).map (fun l => { x with lines := l }) from by unfold withE; rw [if_neg (by omega), if_pos hk])
  rw [HW.out]
  clear HW
  have HX := toHid8 hx
  obtain ⟨P, K, l, D⟩ := x
  obtain ⟨K2, P2, T2, F2, A2, lO, lN⟩ := p
  simp only at hx ho hn HX l1 l2 l3 hk ⊢
  subst hk
  obtain ⟨pa, ca, rfl, _⟩ := ho
  obtain ⟨pb, cb, rfl, _⟩ := hn
  obtain ⟨va0, c0, e0, _, _, hrow⟩ := hx
  cases e0
  have HR := toHid8 hrow
  have HL2 := toHid8 l2
  have i1 : (l.length : Int) ≤ 90000 := by omega
  have HB3 := toHid8 l3
  clear hrow l2 l3
  generalize lO.length = no
  generalize lN.length = nn
  obtain ⟨w1, hw1⟩ : ∃ w1, w.alloc (.cells #[.string P, .int .i64 K, .slice ua l.length uc, .string D] 41) = w1 := ⟨_, rfl⟩
  obtain ⟨w2, hw2⟩ : ∃ w2, w1.alloc (.cells #[.int .i64 8, .string P2, .string T2, .string F2, .int .i64 A2, .slice pa no ca, .slice pb nn cb] 25) = w2 := ⟨_, rfl⟩
  obtain ⟨w3, hw3⟩ : ∃ w3, w2.alloc (.cells #[.string ⟨#[]⟩, .int .i64 0, .slice none 0 0, .string ⟨#[]⟩] 41) = w3 := ⟨_, rfl⟩
  have F1 : Fr None' w w1 := hw1 ▸ Fr.alloc None' w _
  have F2' : Fr None' w1 w2 := hw2 ▸ Fr.alloc None' w1 _
  have F3 : Fr None' w2 w3 := hw3 ▸ Fr.alloc None' w2 _
  have s1 : w1.heap.size = w.heap.size + 1 := by rw [← hw1]; simp
  have s2 : w2.heap.size = w1.heap.size + 1 := by rw [← hw2]; simp
  have s3 : w3.heap.size = w2.heap.size + 1 := by rw [← hw3]; simp
  have BX : EBox w3 w.heap.size (.string P) (.int .i64 K) (.slice ua l.length uc) (.string D) := ((hw1 ▸ EBox.new w _ _ _ _ : EBox w1 _ _ _ _ _).kept F2').kept F3
  have BP : Box w3 w1.heap.size (.int .i64 8) (.string P2) (.string T2) (.string F2) (.int .i64 A2) (.slice pa no ca) (.slice pb nn cb) := (hw2 ▸ Box.new w1 _ _ _ _ _ _ _ : Box w2 _ _ _ _ _ _ _ _).kept F3
  have BR : EBox w3 w2.heap.size (.string ⟨#[]⟩) (.int .i64 0) (.slice none 0 0) (.string ⟨#[]⟩) := hw3 ▸ EBox.new w2 _ _ _ _
  have HF := toHid8 ((F1.then7 F2').then7 F3)
  have HS := toHid8 (And.intro s1 (And.intro s2 s3))
  have HBX := toHid8 BX
  have HBP := toHid8 BP
  have HBR := toHid8 BR
  obtain ⟨x0, x1, x2, x3⟩ := BX.cells
  obtain ⟨q0, q1, q2, q3, q4, q5, q6⟩ := BP.cells
  clear BX BP BR F1 F2' F3 s1 s2 s3
  go_enter Tryz.func33, Tryz.ntmps33
  go_wp2_with fail
  clear x0 x1 x2 x3 q0 q1 q2 q3 q4 q5 q6
  go_loopw [9, 10] (fun v vi wr => ∃ (k : Nat), k ≤ l.length ∧ vi = .int .i64 k ∧ Hid (Lines.OwnS w3 wr v ((l.take k).map (repB F2 T2))) ∧ Hid (Fr None' w3 wr) ∧ Hid (∀ j (hj : j < l.length), j < k → bl T2 ∉ Lines.pieces (bl l[j]))) (fun _ vi _ => l.length - (intOf vi).toNat)
  case atStart => exact ⟨0, Nat.zero_le _, rfl, Lines.OwnS.nil _ _, Fr.refl _ _, fun j _ h => by omega⟩
  case round =>
    obtain ⟨k, hk, rfl, HO, HFr, HT⟩ := hrel
    obtain ⟨va, vc, hv, _⟩ := HO.out.slice
    subst hv
    by_cases hlt : k < l.length
    · obtain ⟨g, o, rfl, d0⟩ := HR.out k l[k] (List.getElem?_eq_getElem hlt)
      have HD0 := toHid8 (show ∀ w', Fr None' w3 w' → w'.cell? ⟨g, o + k, none⟩ = some (.string l[k]) from fun w' f => (HF.out.then7 f).keepCell d0 (fun e => e))
      replace d0 := HD0.out wr HFr.out
      have hm := List.getElem_mem hlt
      have z1 := HL2.out _ hm
      have HY := toHid8 (show bl T2 ∈ Lines.pieces (bl l[k]) → tokensL l F2 T2 = none from fun e => tokens_none hm e)
      have HN := toHid8 (show bl T2 ∉ Lines.pieces (bl l[k]) → ∀ j (hj : j < l.length), j < k + 1 → bl T2 ∉ Lines.pieces (bl l[j]) from fun h j hj hlt => by
        by_cases e : j = k
        · subst e; exact h
        · exact HT.out j hj (by omega))
      have HK := toHid8 (show (l.take (k + 1)).map (repB F2 T2) = (l.take k).map (repB F2 T2) ++ [repB F2 T2 l[k]] from by
        rw [List.take_succ_eq_append_getElem hlt, List.map_append]
        rfl)
      have HR3 := toHid8 (fun w' => rreplace8_any l[k] F2 T2 w' z1 HB3.out.1 HB3.out.2)
      generalize l[k] = y at d0 z1 HY HN HK HR3 HD0
      clear hm
      have i2 : (k : Int) < (l.length : Int) := by omega
      have i3 : (0 : Int) ≤ (k : Int) := by omega
      have hmk : ((l.take k).map (repB F2 T2)).length = k := by rw [List.length_map, List.length_take]; omega
      rw [hmk] at HO
      rw [hmk]
      have cT := rtokens8_any y wr z1
      obtain ⟨x0, x1, x2, x3⟩ := (HBX.out.kept HFr.out).cells
      have HNl := toHid8 (show ∀ l' : List ByteArray, Lines.bs l' = Lines.pieces (bl y) → l'.length < 100000 from fun l' h => by
        have h1 := Lines.pieces_count (bl y)
        have h2 := congrArg List.length h
        have h3 : (bl y).length = y.size := Array.length_toList
        unfold Lines.bs at h2
        rw [List.length_map] at h2
        omega)
      clear z1 hmk HT
      go_wp2_with fail
      with_reducible refine cT.mono ?_
      rintro e w4 ⟨l', va4, n4, c4, rfl, HM, f4⟩
      have i4 : (n4 : Int) < 100000 := by have := HNl.out l' HM.out.1; have := HM.out.2.1; omega
      have HF4' := toHid8 (HFr.out.then7 f4)
      have HO4' := toHid8 (HO.out.fr (toLN f4))
      clear cT f4 x0 x1 x2 x3 HNl HO
      go_wp2_with fail
      go_loopw [12] (fun vj w4' => ∃ j : Nat, j ≤ n4 ∧ vj = .int .i64 j ∧ Hid (Fr None' w4 w4') ∧ Hid (∀ i (hi : i < l'.length), i < j → ¬ l'[i] = T2)) (fun vj _ => n4 - (intOf vj).toNat)
      case atStart => exact ⟨0, Nat.zero_le _, rfl, Fr.refl _ _, fun i _ h => by omega⟩
      case round =>
        obtain ⟨j, hj, rfl, HFj, HT2⟩ := hrel
        have HF4 := toHid8 (HF4'.out.then7 HFj.out)
        have HO4 := toHid8 (HO4'.out.fr (toLN HFj.out))
        obtain ⟨q0, q1, q2, q3, q4, q5, q6⟩ := (HBP.out.kept HF4.out).cells
        by_cases hjt : j < n4
        · have hjl : j < l'.length := by rw [HM.out.2.1]; exact hjt
          obtain ⟨g4, o4, rfl, d4⟩ := (HM.out.2.2.fr (toLN HFj.out)) j l'[j] (List.getElem?_eq_getElem hjl)
          have HYj := toHid8 (show l'[j] = T2 → bl T2 ∈ Lines.pieces (bl y) from fun e => (tok_in HM.out.1 T2).1 (e ▸ List.getElem_mem hjl))
          have HNj := toHid8 (show ¬ l'[j] = T2 → ∀ i (hi : i < l'.length), i < j + 1 → ¬ l'[i] = T2 from fun h i hi hlt => by
            by_cases e : i = j
            · subst e; exact h
            · exact HT2.out i hi (by omega))
          generalize l'[j] = z at d4 HYj HNj
          have i5 : (j : Int) < (n4 : Int) := by omega
          have i6 : (0 : Int) ≤ (j : Int) := by omega
          by_cases e : z = T2
          · subst e
            have HE := toHid8 (HY.out (HYj.out rfl))
            clear HY HN HK HR3 HYj HNj HO4 HO4' HT2
            go_wp2_with fail
            go_quiet (fail)
            have FX := Fr.drewN None' wr nq
            generalize wr.drewN nq = wX at FX ⊢
            replace HF4 := toHid8 (HF4.out.then7 FX)
            obtain ⟨x0, x1, x2, x3⟩ := (HBX.out.kept HF4.out).cells
            have BR4 := HBR.out.kept HF4.out
            obtain ⟨r0, r1, r2, r3⟩ := BR4.cells
            have rz := BR4.frozen
            have HBR4 := toHid8 BR4
            clear BR4
            go_wp2_with fail
            obtain ⟨hld, hfs, hfr⟩ := fin_entry (HF.out.then7 HF4.out) HBR4.out (by have := HS.out; omega) (.string P) (.int .i64 K) (.slice (some ⟨g, o, none⟩) l.length uc) (.string D)
            refine bodyPost_ret (v := .tuple #[.agg #[.string P, .int .i64 K, .slice (some ⟨g, o, none⟩) l.length uc, .string D], .bool false]) (by rw [results_cell_tmp rfl]; simp [asAddr, Result.andThen, hld]) rfl ?_
            rw [HE.out]
            exact ⟨P, K, some ⟨g, o, none⟩, l.length, uc, D, false, rfl, rfl, fun y hy => (by cases hy), hfr⟩
          · obtain ⟨t1, t2⟩ := str_no7 e
            have HN3 := toHid8 (HNj.out e)
            clear HYj HNj HT2 e
            go_wp2_with fail
            go_quiet (fail)
            have FX := Fr.drewN None' wr nq
            generalize wr.drewN nq = wX at FX ⊢
            have HFk := toHid8 (HFj.out.then7 FX)
            go_wp2_with fail
            exact ⟨⟨j + 1, by omega, by go_num, HFk.out, HN3.out⟩, by simp [intOf]; omega⟩
        · have HN2 := toHid8 (HN.out (fun e => by
            obtain ⟨i, hi, e2⟩ := List.getElem_of_mem ((tok_in HM.out.1 T2).2 e)
            exact HT2.out i hi (by have := HM.out.2.1; omega) e2))
          have HI := toHid8 (show ∀ w', Fr None' w3 w' → Fr None' w3 w' ∧ w'.cell? ⟨w.heap.size, 2, none⟩ = some (.slice (some ⟨g, o, none⟩) l.length uc) ∧ w'.cell? ⟨g, o + k, none⟩ = some (.string y) ∧ w'.cell? ⟨w1.heap.size, 3, none⟩ = some (.string F2) ∧ w'.cell? ⟨w1.heap.size, 2, none⟩ = some (.string T2) from fun w' f => ⟨f, (HBX.out.kept f).cells.2.2.1, HD0.out w' f, (HBP.out.kept f).cells.2.2.2.1, (HBP.out.kept f).cells.2.2.1⟩)
          have i7 : ¬ (j : Int) < (n4 : Int) := by omega
          have frr := HF4.out
          have HAp := toHid8 (fun w5 (f5 : Fr None' wr w5) => app_str8 ((HO4.out.fr (toLN f5)).alloc (.cells #[.string (repB F2 T2 y)] 9)) ((HF4.out.then7 f5).then7 (Fr.alloc None' w5 _)) w5.heap.size (repB F2 T2 y) (by rw [World.cell?, heap_alloc_new]; rfl) (by rw [List.length_map, List.length_take]; omega))
          clear HY HN HM HT2 q0 q1 q2 q3 q4 q5 q6 d0
          go_wp2_with fail
          go_region_held3 (fun w' => Fr None' w3 w' ∧ w'.cell? ⟨w.heap.size, 2, none⟩ = some (.slice (some ⟨g, o, none⟩) l.length uc) ∧ w'.cell? ⟨g, o + k, none⟩ = some (.string y) ∧ w'.cell? ⟨w1.heap.size, 3, none⟩ = some (.string F2) ∧ w'.cell? ⟨w1.heap.size, 2, none⟩ = some (.string T2))
            (exact HI.out _ (by first | with_reducible assumption | with_reducible exact Fr.then7 frr (Fr.drew None' _) | with_reducible exact Fr.then7 g6 (Fr.alloc None' _ _) | with_reducible exact Fr.then7 g6 (Fr.drew None' _)))
            (first
              | (go_at_call 46; with_reducible (refine (HR3.out _).mono ?_); rintro e w5 ⟨rfl, f5⟩; have g5 := Fr.then7 (show Fr None' wr _ by first | exact Fr.refl _ _ | exact Fr.drew None' _) f5; have g6 := Fr.then7 frr g5; obtain ⟨v6, w6, hr6, HO6, F6⟩ := HAp.out w5 g5)
              | (refine step_app8 rfl (.tmp 73) (.tmp 84) rfl (by first | rfl | simp [Act.eval]) (by first | rfl | simp [Act.eval]) hr6 ?_))
          go_wp2_with fail
          refine ⟨⟨k + 1, by omega, by go_num, ?_, F6, HN2.out⟩, by simp [intOf]; omega⟩
          show Lines.OwnS _ _ _ _
          rw [HK.out]
          exact HO6
    · have e : k = l.length := by omega
      subst e
      have HE := toHid8 (tokens_all (f := F2) (t := T2) (l := l) (fun j hj => HT.out j hj hj))
      have HO2 := toHid8 (show Lines.OwnS w3 wr (.slice va (l.map (repB F2 T2)).length vc) (l.map (repB F2 T2)) from by
        have h := HO.out
        rw [List.take_length] at h
        exact h)
      rw [List.take_length]
      obtain ⟨x0, x1, x2, x3⟩ := (HBX.out.kept HFr.out).cells
      have xz := (HBX.out.kept HFr.out).frozen
      obtain ⟨w5, hw5⟩ : ∃ w5, wr.setCell ⟨w.heap.size, 2, none⟩ (.slice va (l.map (repB F2 T2)).length vc) = w5 := ⟨_, rfl⟩
      have F5 : Fr (fun k => k = w.heap.size) wr w5 := hw5 ▸ Fr.setCell (M := fun k => k = w.heap.size) (a := ⟨w.heap.size, 2, none⟩) wr rfl _
      have BX5 : EBox w5 w.heap.size (.string P) (.int .i64 K) (.slice va (l.map (repB F2 T2)).length vc) (.string D) := hw5 ▸ (HBX.out.kept HFr.out).set2 _
      have BR5 : EBox w5 w2.heap.size (.string ⟨#[]⟩) (.int .i64 0) (.slice none 0 0) (.string ⟨#[]⟩) := (HBR.out.kept HFr.out).fr F5 (fun e => by have e : w2.heap.size = w.heap.size := e; have := HS.out; omega)
      obtain ⟨e0, e1, e2, e3⟩ := BX5.cells
      obtain ⟨r0, r1, r2, r3⟩ := BR5.cells
      have rz := BR5.frozen
      have HBR5 := toHid8 BR5
      have HF5 := toHid8 ((HF.out.then7 HFr.out).trans F5 (fun i e => Or.inr (by have e : i = w.heap.size := e; omega)))
      have HN := toHid8 (show ∀ W, Fr (fun k => k = w2.heap.size) w5 W → StrsAt W (.slice va (l.map (repB F2 T2)).length vc) (l.map (repB F2 T2)) from fun W f => by
        have hO : wr.ownsRow w3.heap.size 9 1 (.slice va (l.map (repB F2 T2)).length vc) (l.map (repB F2 T2)).length ((l.map (repB F2 T2)).map Value.string) := HO2.out
        have h4 := own_strs hO
        have hz := fun k (e : (Value.slice va (l.map (repB F2 T2)).length vc).ownBlock = some k) => own_ge hO e
        refine (h4.far F5 (fun hl k ek ek' => ?_)).far f (fun hl k ek ek' => ?_)
        · have := hz k ek; have e' : k = w.heap.size := ek'; have := HS.out; omega
        · have := hz k ek; have e' : k = w2.heap.size := ek'; have := HS.out; omega)
      clear BX5 BR5 F5 HBX HBR HO HO2 HT HR HX HBP
      generalize hmm : l.map (repB F2 T2) = M at *
      go_wp2_with fail
      obtain ⟨hld, hfs, hfr⟩ := fin_entry HF5.out HBR5.out (by have := HS.out; omega) (.string P) (.int .i64 K) (.slice va M.length vc) (.string D)
      refine bodyPost_ret (v := .tuple #[.agg #[.string P, .int .i64 K, .slice va M.length vc, .string D], .bool true]) (by rw [results_cell_tmp rfl]; simp [asAddr, Result.andThen, hld]) rfl ?_
      rw [HE.out]
      exact ⟨P, K, va, M.length, vc, D, true, rfl, rfl, fun y hy => (by cases hy; exact ⟨rfl, rfl, rfl, HN.out _ hfs⟩), hfr⟩

end Go.Proofs.YtcpjneejlfgkeaaGreatDoor
