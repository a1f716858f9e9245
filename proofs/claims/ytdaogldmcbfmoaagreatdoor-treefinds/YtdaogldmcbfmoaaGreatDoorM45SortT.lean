/-
  What is proved here: the contracts that the statement stands on: SortT, LoadT. Conditions: as each theorem names them.
-/
import Derived.Test.YtdaogldmcbfmoaaGreatDoorM44TakeT
import Derived.Test.YtdaogldmcbfmoaaGreatDoorMLaySF
namespace Go.Proofs.YtdaogldmcbfmoaaGreatDoor
open Go.RowKit Go.Sort Go.Lib
set_option maxRecDepth 100000

/-- A thing, and the slice of its lines. -/
structure C4 where
  x : En
  va : Option Addr
  n : Nat
  c : Nat

instance : Inhabited C4 := ⟨⟨⟨⟨#[]⟩, 0, [], ⟨#[]⟩⟩, none, 0, 0⟩⟩

def C4.v (t : C4) : Value := .slice t.va t.n t.c
def enc4 (t : C4) : List Value := [.string t.x.path, .int .i64 t.x.kind, t.v, .string t.x.data]
def cf4 (s t : C4) : Int := Lib.compareBytes s.x.path.data.toList t.x.path.data.toList

theorem lt4 (s t : C4) : ltOf cf4 s t = decide (bl s.x.path < bl t.x.path) := decide_eq_decide.2 (cmp_lt _ _)

theorem swo4 : SWO (ltOf cf4) where
  irrefl x := by rw [lt4]; exact decide_eq_false (List.lt_irrefl _)
  trans x y z h1 h2 := by
    rw [lt4] at *
    exact decide_eq_true (List.lt_trans (of_decide_eq_true h1) (of_decide_eq_true h2))
  ntrans x y z h1 h2 := by
    rw [lt4] at *
    have g1 : bl y.x.path ≤ bl x.x.path := List.not_lt.1 (of_decide_eq_false h1)
    have g2 : bl z.x.path ≤ bl y.x.path := List.not_lt.1 (of_decide_eq_false h2)
    exact decide_eq_false (List.not_lt.2 (List.le_trans g2 g1))

theorem rows4 {w : World} : ∀ (L : List En) (V : List Value), V.length = L.length → (∀ (k : Nat) (x : En) (vl : Value), L[k]? = some x → V[k]? = some vl → StrsAt w vl x.lines) → ∃ T : List C4, T.map C4.x = L ∧ T.map C4.v = V ∧ ∀ t ∈ T, StrsAt w t.v t.x.lines
  | [], [], _, _ => ⟨[], rfl, rfl, fun t e => by cases e⟩
  | [], _ :: _, e, _ => by cases e
  | _ :: _, [], e, _ => by cases e
  | x :: L, vl :: V, e, h => by
    obtain ⟨T, h1, h2, h3⟩ := rows4 L V (by simpa using e) (fun k y vy e1 e2 => h (k + 1) y vy (by simpa using e1) (by simpa using e2))
    have h0 := h 0 x vl rfl rfl
    obtain ⟨va, c, hv, _⟩ := id h0
    refine ⟨⟨x, va, x.lines.length, c⟩ :: T, by rw [List.map_cons, h1], by rw [List.map_cons, h2, hv]; rfl, fun t ht => ?_⟩
    rcases List.mem_cons.1 ht with e | e
    · subst e
      show StrsAt w (.slice va x.lines.length c) x.lines
      rw [← hv]
      exact h0
    · exact h3 t e

theorem flat4 (d : Array C4) (k : Nat) (hk : k < d.size) : (flatK enc4 4 d)[k * 4]! = .string (d[k]!).x.path ∧ (flatK enc4 4 d)[k * 4 + 1]! = .int .i64 (d[k]!).x.kind ∧ (flatK enc4 4 d)[k * 4 + 2]! = (d[k]!).v ∧ (flatK enc4 4 d)[k * 4 + 3]! = .string (d[k]!).x.data := by
  have e : ∀ i, i < 4 → (flatK enc4 4 d)[k * 4 + i]! = (enc4 d[k]!)[i]! := fun i hi => by
    rw [get_flatK _ _ _ _ (by omega), show (k * 4 + i) / 4 = k from by omega, show (k * 4 + i) % 4 = i from by omega]
  exact ⟨e 0 (by decide), e 1 (by decide), e 2 (by decide), e 3 (by decide)⟩

theorem holds4 {w : World} {g : Nat} {d : Array C4} (h : HoldsK enc4 4 w g 0 d) (k : Nat) (hk : k < d.size) : w.cell? ⟨g, 0 + k * 4, none⟩ = some (.string (d[k]!).x.path) ∧ w.cell? ⟨g, 0 + k * 4 + 1, none⟩ = some (.int .i64 (d[k]!).x.kind) ∧ w.cell? ⟨g, 0 + k * 4 + 2, none⟩ = some (d[k]!).v ∧ w.cell? ⟨g, 0 + k * 4 + 3, none⟩ = some (.string (d[k]!).x.data) := by
  have hz : (flatK enc4 4 d).size = d.size * 4 := size_flatK _ _ _
  obtain ⟨e0, e1, e2, e3⟩ := flat4 d k hk
  have q : ∀ i, i < 4 → w.cell? ⟨g, 0 + k * 4 + i, none⟩ = some ((flatK enc4 4 d)[k * 4 + i]!) := fun i hi => by
    have := (h (k * 4 + i) (by rw [hz]; omega)).1
    rw [Nat.add_assoc]
    exact this
  exact ⟨e0 ▸ q 0 (by decide), e1 ▸ q 1 (by decide), e2 ▸ q 2 (by decide), e3 ▸ q 3 (by decide)⟩

theorem frSort {w : World} {g m : Nat} (d : Array C4) (os : Array Obj) : Fr (fun k => k = g) w (sortWorldK enc4 4 w g 0 m d os) := by
  unfold sortWorldK
  refine ⟨rfl, rfl, rfl, ?_, fun k hk hm => ?_⟩
  · rw [size_grow, size_putRowK]
    exact Nat.le_add_right _ _
  · rw [heap_grow_old _ _ (by rw [size_putRowK]; exact hk)]
    show (Array.modify w.heap g _)[k]? = _
    rw [Array.getElem?_modify, if_neg (fun e => hm e.symm)]

set_option maxHeartbeats 1000000 in
theorem load1_any (s t : C4) (W : World) : Calls Tryz.prog 57 #[.agg (enc4 s).toArray, .agg (enc4 t).toArray] W fun e w' => e = .returned (.int .i64 (cf4 s t)) ∧ ∃ q os', w' = grow (W.drewN q) os' := by
  obtain ⟨⟨P, K, l, D⟩, va, n, c⟩ := s
  obtain ⟨⟨P', K', l', D'⟩, va', n', c'⟩ := t
  have cC := fun W' => Tryz.strings_Compare P P' W'
  unfold cf4 enc4 C4.v
  simp only
  generalize Lib.compareBytes P.data.toList P'.data.toList = r at cC ⊢
  go_enter Tryz.func57, Tryz.ntmps57
  go_wp2_with (go_at_call 58; refine (cC _).mono ?_; rintro e w' ⟨rfl, rfl⟩)
  go_ret
  exact ⟨rfl, 0, _, by rw [alloc_eq_grow, alloc_eq_grow, grow_grow]; rfl⟩

set_option maxHeartbeats 1000000 in
theorem sort_any {w : World} {base bL : Nat} {va : Option Addr} {n c : Nat} {L : List En} {V : List Value} (h : OwnX base bL w (.slice va n c) L V) (hl : L.length ≤ 1024) :
    Calls Tryz.prog 56 #[.slice va n c, .func (.func 57) #[] #[]] w fun e w' => e = .returned (.tuple #[]) ∧ ∃ L', L'.Perm L ∧ Weak L' ∧ EntsAt w' va L' ∧ Fr (fun k => (Value.slice va n c).ownBlock = some k) w w' := by
  rcases h.row.2 with ⟨hv0, h0⟩ | ⟨g, cap, cur, hvg, hb, hh, hc, _, hs, ht⟩
  · have hL : L = [] := List.length_eq_zero_iff.1 h0
    subst hL
    injection hv0 with e1 e2 e3
    subst e1 e2 e3
    have hcon := AnyF.slices_SortFunc_none Tryz.sort56 none 0 (.func (.func 57) #[] #[]) w
    exact hcon.mono fun e w' ⟨h1, h2⟩ => ⟨h1, [], List.Perm.refl _, List.Pairwise.nil, fun k x hk => by simp at hk, h2 ▸ Fr.refl _ _⟩
  · injection hvg with e1 e2 e3
    subst e1 e2 e3
    obtain ⟨T, hT1, hT2, hT3⟩ := rows4 L V h.len h.str
    have hTl : T.length = L.length := by rw [← hT1, List.length_map]
    have hget : ∀ k (hk : k < T.length), T.toArray[k]! = T[k] := fun k hk => by rw [getElem!_pos T.toArray k (by simpa using hk)]; rfl
    have hcell : ∀ j u, j < L.length * 4 → (ecells L V)[j]? = some u → w.cell? ⟨g, j, none⟩ = some u := fun j u hj h1 => by
      rw [← ht, List.getElem?_take, if_pos hj] at h1
      rw [World.cell?, hh]
      simpa using h1
    have hfr : ∀ j, w.frozen? ⟨g, j, none⟩ = false := fun j => by simp [World.frozen?, hh]
    have hH : HoldsK enc4 4 w g 0 T.toArray := fun j hj => by
      rw [size_flatK] at hj
      have hj' : j < T.length * 4 := by simpa using hj
      have hk : j / 4 < T.length := by omega
      have hx : L[j / 4]? = some T[j / 4].x := by rw [← hT1, List.getElem?_map, List.getElem?_eq_getElem hk]; rfl
      have hv : V[j / 4]? = some T[j / 4].v := by rw [← hT2, List.getElem?_map, List.getElem?_eq_getElem hk]; rfl
      obtain ⟨q0, q1, q2, q3⟩ := ecells_get L V (j / 4) _ _ hx hv
      obtain ⟨f0, f1, f2, f3⟩ := flat4 T.toArray (j / 4) (by simpa using hk)
      rw [hget _ hk] at f0 f1 f2 f3
      refine ⟨?_, by rw [Nat.zero_add]; exact hfr j⟩
      rw [Nat.zero_add]
      have hm : j % 4 = 0 ∨ j % 4 = 1 ∨ j % 4 = 2 ∨ j % 4 = 3 := by omega
      rcases hm with e | e | e | e
      · have ej : j = j / 4 * 4 := by omega
        generalize j / 4 = k at *
        subst ej
        exact (hcell _ _ (by omega) q0).trans (congrArg some f0.symm)
      · have ej : j = j / 4 * 4 + 1 := by omega
        generalize j / 4 = k at *
        subst ej
        exact (hcell _ _ (by omega) q1).trans (congrArg some f1.symm)
      · have ej : j = j / 4 * 4 + 2 := by omega
        generalize j / 4 = k at *
        subst ej
        exact (hcell _ _ (by omega) q2).trans (congrArg some f2.symm)
      · have ej : j = j / 4 * 4 + 3 := by omega
        generalize j / 4 = k at *
        subst ej
        exact (hcell _ _ (by omega) q3).trans (congrArg some f3.symm)
    have hlt : g < w.heap.size := lt_of_some hh
    have eg : ∀ args w, (callFunc 57 args).run Tryz.prog w = .ok (.enter 57 args) w := enters_of Tryz.func57 (by kernel_rfl) rfl
    have hcon := AnyQ.slices_SortFunc Tryz.sort56 4 Tryz.isAgg38 Tryz.sizeOf38 enc4 (fun _ => rfl) (fun x v hv => by simp [enc4, C4.v] at hv; rcases hv with rfl | rfl | rfl | rfl <;> rfl) cf4 swo4 57 #[] g 0 c T.toArray w eg (fun _ _ _ _ s t => load1_any s t _) hH hlt (by simp; omega)
    have hsz : T.toArray.size = L.length := by simpa using hTl
    rw [hsz] at hcon
    refine hcon.mono fun e w' ⟨h1, d', m, os, hp, hs', hw⟩ => ⟨h1, d'.toList.map C4.x, ?_, ?_, ?_, ?_⟩
    · obtain ⟨p1, _, p3⟩ := hp
      have z1 : d'.size = L.length := p1.trans hsz
      have x1 : d'.extract 0 L.length = d' := by rw [← z1]; exact Array.extract_size
      have x2 : T.toArray.extract 0 L.length = T.toArray := by rw [← hsz]; exact Array.extract_size
      rw [x1, x2] at p3
      have := p3.map C4.x
      rw [show T.toArray.toList = T from rfl, hT1] at this
      exact this
    · have z1 : d'.size = L.length := hp.1.trans hsz
      unfold Weak
      rw [List.pairwise_map]
      refine List.pairwise_iff_getElem.2 fun i j hi hj hij => ?_
      have hi' : i < d'.size := by simpa using hi
      have hj' : j < d'.size := by simpa using hj
      have := hs' i j (Nat.zero_le _) hij (by omega)
      rw [lt4, getElem!_pos d' i hi', getElem!_pos d' j hj'] at this
      exact of_decide_eq_false this
    · have z1 : d'.size = T.toArray.size := hp.1
      have hH2 : HoldsK enc4 4 w' g 0 d' := by rw [hw]; exact holdsK_sortWorldK_c enc4 4 w g 0 T.toArray d' m os hH hlt z1
      have F : Fr (fun k => k = g) w w' := by rw [hw]; exact frSort d' os
      have hmem : ∀ t ∈ d'.toList, t ∈ T := fun t ht => by
        obtain ⟨p1, _, p3⟩ := hp
        have x1 : d'.extract 0 L.length = d' := by rw [← (p1.trans hsz)]; exact Array.extract_size
        have x2 : T.toArray.extract 0 L.length = T.toArray := by rw [← hsz]; exact Array.extract_size
        rw [x1, x2] at p3
        exact p3.mem_iff.1 ht
      intro k x hk
      rw [List.getElem?_map] at hk
      cases hd : d'.toList[k]? with
      | none => rw [hd] at hk; cases hk
      | some t =>
        rw [hd] at hk
        have hx : t.x = x := by simpa using hk
        subst hx
        have hk' : k < d'.size := by have := (List.getElem?_eq_some_iff.1 hd).1; simpa using this
        have hgd : d'[k]! = t := by
          rw [getElem!_pos d' k hk']
          have := (List.getElem?_eq_some_iff.1 hd).2
          simpa using this
        obtain ⟨q0, q1, q2, q3⟩ := holds4 hH2 k hk'
        rw [hgd] at q0 q1 q2 q3
        have htT := hmem t (List.mem_of_getElem? hd)
        refine ⟨g, 0, rfl, t.v, q0, q1, q2, q3, (hT3 t htT).fr F (fun i hi e => ?_)⟩
        have e' : i = g := e
        subst e'
        obtain ⟨kk, hkk, ek⟩ := List.getElem_of_mem htT
        have hvm : t.v ∈ V := by rw [← hT2]; exact List.mem_map_of_mem htT
        exact (h.off t.v hvm i hi).2.2 rfl
    · rw [hw]
      exact (frSort d' os).mono (fun k e => by subst e; rfl)

end Go.Proofs.YtdaogldmcbfmoaaGreatDoor

namespace Go.Proofs.YtdaogldmcbfmoaaGreatDoor
open Go.RowKit Go.Maps Go.WideMaps
set_option maxRecDepth 100000

/-- What Load hands back, and leaves. -/
def LoadPost (w0 : World) (p : Nat) (S : St) (r : List En × Int) (w : World) (e : Ending) (w' : World) : Prop :=
  ∃ va c, e = .returned (.tuple #[.slice va r.1.length c, .int .i64 r.2]) ∧ EntsAt w' va r.1 ∧ Live w0 w' p S ∧ Fr None' w w'

theorem read_small {N : Nat} (hN : N ≤ 9000000) {L : List En} (h : RdOk N L) : SmallE L ∧ ∀ x ∈ L, x.path.size ≤ N ∧ x.lines.length < 900000 ∧ (leaf x).length ≤ 100000 := by
  refine ⟨fun x hx => ?_, fun x hx => ?_⟩
  · obtain ⟨h1, h2, h3, h4, h5, h6, h7⟩ := h.2 x hx
    refine ⟨by omega, by omega, by omega, fun y hy => ?_⟩
    have hm : bl y ∈ Lines.bs x.lines := List.mem_map_of_mem hy
    have := join_mem hm
    have e : (bl y).length = y.size := Path.len_eq y
    omega
  · obtain ⟨h1, h2, h3, h4, h5, h6, h7⟩ := h.2 x hx
    refine ⟨h1, by omega, ?_⟩
    unfold leaf
    have e : (bl x.data).length = x.data.size := Path.len_eq x.data
    split
    · rw [List.length_cons]; omega
    · rw [List.length_cons]; omega

set_option maxHeartbeats 4000000 in
theorem tload_any {w0 w : World} {p : Nat} {S : St} (h : Live w0 w p S) (hu : used S.F < 1099511627776) (hb : ∀ t ∈ S.F, t.b.length ≤ 100000) (x : ByteArray) (hx : x.size ≤ maxLen) :
    Calls Tryz.prog 22 #[.pointer (some ⟨p, 0, none⟩), .string x] w (LoadPost w0 p S (loadL S.getB 2000000 (bl x)) w) := by
  have cR := tread_any h hu hb x hx
  have hok : RdOk 2000000 (rd S.getB 9 (bl x) [] []).1 := rd_ok (getB_length hb) 9 (bl x) [] [] (by decide) ⟨Nat.zero_le _, fun x hx => by cases hx⟩
  have hw0 : w0.heap.size ≤ w.heap.size := by
    obtain ⟨M, _, h2, _⟩ := h
    exact h2.size
  unfold loadL
  obtain ⟨L, hL⟩ : ∃ L, (rd S.getB 9 (bl x) [] []).1 = L := ⟨_, rfl⟩
  obtain ⟨er, her⟩ : ∃ e, (rd S.getB 9 (bl x) [] []).2 = e := ⟨_, rfl⟩
  unfold ReadPost at cR
  rw [hL] at hok
  rw [hL, her] at cR ⊢
  clear h hu hb hx hL her
  by_cases h0 : er = 0
  case neg =>
    rw [if_neg h0]
    have he2 : decide (er = 0) = false := by simpa using h0
    clear hok hw0
    go_enter Tryz.func22, Tryz.ntmps22
    go_wp2_with fail
    refine cR.mono ?_
    rintro e w1 ⟨v, V, rfl, own, live, F1⟩
    obtain ⟨va, c, hv, _⟩ := own.slice
    subst hv
    have HQ : Hid (Live w0 w1 p S ∧ Fr None' w w1) := ⟨live, F1⟩
    clear own live F1 cR
    go_wp2_with fail
    go_ret2
    exact ⟨none, 0, rfl, fun k x hk => by simp at hk, HQ.out⟩
  subst h0
  rw [if_pos rfl]
  obtain ⟨r, hr⟩ : ∃ r, (if treeRight (sortE L) = true ∧ lastName (keptL (sortE L) (2000000 + 1) []) = bl x then (sortE L, (0 : Int)) else ([], 3)) = r := ⟨_, rfl⟩
  rw [hr]
  have HR : Hid ((if treeRight (sortE L) = true ∧ lastName (keptL (sortE L) (2000000 + 1) []) = bl x then (sortE L, (0 : Int)) else ([], 3)) = r) := hr
  clear hr
  have HS : Hid (∀ A, A.Perm L → SmallE A ∧ ∀ x ∈ A, x.path.size ≤ 2000000 ∧ x.lines.length < 900000 ∧ (leaf x).length ≤ 100000) := fun A hA => read_small (by decide) ⟨by rw [hA.length_eq]; exact hok.1, fun x hx => hok.2 x (hA.mem_iff.1 hx)⟩
  have HL : Hid (L.length ≤ 1024 ∧ w0.heap.size ≤ w.heap.size) := ⟨hok.1, hw0⟩
  clear hok hw0
  go_enter Tryz.func22, Tryz.ntmps22
  go_wp2_with fail
  refine cR.mono ?_
  rintro e w1 ⟨v, V, rfl, own, live, F1⟩
  obtain ⟨va, c, hv, _, _, _, hbk⟩ := own.slice
  subst hv
  have cS := sort_any own HL.out.1
  have HQ1 : Hid (Live w0 w1 p S ∧ Fr None' w w1 ∧ OwnX w.heap.size (w.heap.size + 1) w1 (.slice va L.length c) L V ∧ ∀ k, (Value.slice va L.length c).ownBlock = some k → w.heap.size ≤ k ∧ k < w1.heap.size) := ⟨live, F1, own, hbk⟩
  obtain ⟨n, hn⟩ : ∃ n, L.length = n := ⟨_, rfl⟩
  rw [hn] at cS HQ1 ⊢
  have HN : Hid (L.length = n) := hn
  have i1 : (n : Int) ≤ 1024 := by have := HL.out.1; omega
  clear own live F1 cR hbk hn
  go_wp2_with fail
  refine cS.mono ?_
  rintro e w2 ⟨rfl, L', hp, hw, hE, F2⟩
  have live2 : Live w0 w2 p S := HQ1.out.1.keptX F2 (fun k hk => by
    obtain ⟨c', f', hc'⟩ := HQ1.out.2.2.1.cellsOf hk
    exact ⟨foreignE hc', Nat.le_trans HL.out.2 (HQ1.out.2.2.2 k hk).1⟩)
  have F02 : Fr None' w w2 := HQ1.out.2.1.trans F2 (fun k hk => Or.inr (HQ1.out.2.2.2 k hk).1)
  have hl' : L'.length = n := by rw [hp.length_eq]; exact HN.out
  obtain ⟨hsm, hsz⟩ := HS.out L' hp
  have cN := tname_any (N := 2000000) (by decide) hsz hsm hl' (by have := HL.out.1; have := HN.out; omega) hE (c := c)
  obtain ⟨s1, s2⟩ := sorted_same hp hw
  have HZ : Hid (Live w0 w2 p S ∧ Fr None' w w2 ∧ EntsAt w2 va L' ∧ L'.length = n) := ⟨live2, F02, hE, hl'⟩
  clear cS F2 live2 F02 hE hsm hsz hp hw HQ1 hl'
  unfold nameAns at cN
  cases hT : treeRight L' with
  | false =>
    rw [if_neg (by rw [hT]; exact Bool.false_ne_true)] at cN
    rw [hT] at s1
    have hr : r = ([], 3) := by rw [← HR.out, if_neg (fun e => by rw [← s1] at e; exact Bool.false_ne_true e.1)]
    subst hr
    clear s1 s2 hT
    go_wp2_with fail
    refine cN.mono ?_
    rintro e w3 ⟨rfl, F3⟩
    have HQ : Hid (Live w0 w3 p S ∧ Fr None' w w3) := ⟨HZ.out.1.fresh F3, HZ.out.2.1.then7 F3⟩
    clear cN F3
    go_wp2_with fail
    go_ret2
    exact ⟨none, 0, rfl, fun k x hk => by simp at hk, HQ.out⟩
  | true =>
    rw [if_pos hT] at cN
    have e := s2 hT
    obtain ⟨y, hy⟩ : ∃ y, strB (lastName (keptL L' (2000000 + 1) [])) = y := ⟨_, rfl⟩
    rw [hy] at cN
    by_cases hyx : y = x
    · subst hyx
      have hr : r = (L', 0) := by rw [← HR.out, ← e, if_pos ⟨hT, by rw [← hy]; rfl⟩]
      subst hr
      clear s1 s2 hT e hy
      go_wp2_with fail
      refine cN.mono ?_
      rintro e w3 ⟨rfl, F3⟩
      have HQ : Hid (EntsAt w3 va L' ∧ Live w0 w3 p S ∧ Fr None' w w3) := ⟨HZ.out.2.2.1.kept F3, HZ.out.1.fresh F3, HZ.out.2.1.then7 F3⟩
      clear cN F3
      go_wp2_with fail
      go_ret2
      exact ⟨va, c, by rw [HZ.out.2.2.2]; rfl, HQ.out⟩
    · have hr : r = ([], 3) := by rw [← HR.out, ← e, if_neg (fun e2 => hyx (by rw [← hy, e2.2]; exact (strB_bl rfl).symm))]
      subst hr
      obtain ⟨q1, q2⟩ := str_no7 hyx
      clear s1 s2 hT e hy hyx
      go_wp2_with fail
      refine cN.mono ?_
      rintro e w3 ⟨rfl, F3⟩
      have HQ : Hid (Live w0 w3 p S ∧ Fr None' w w3) := ⟨HZ.out.1.fresh F3, HZ.out.2.1.then7 F3⟩
      clear cN F3
      go_wp2_with fail
      go_ret2
      exact ⟨none, 0, rfl, fun k x hk => by simp at hk, HQ.out⟩

end Go.Proofs.YtdaogldmcbfmoaaGreatDoor
