/- What is proved here: contracts for RecordMakes. Conditions: as named. -/
import Derived.Test.YtbnfjjjdnbcehaaGreatDoorX5FEx
import Derived.Maps.OwnSet
import Derived.StringKeys
set_option maxHeartbeats 16000000
namespace Go.Proofs.YtbnfjjjdnbcehaaGreatDoor.Diff
open Go.RowKit Go.Maps Go.WideMaps
set_option maxRecDepth 100000
abbrev Pr := List UInt8 × Int
def entP (t : Pr) : Lit × DataW Unit := (.string t.1, .lit (.int .i64 t.2))
def toP (T : List Pr) : DataW Unit := .map (T.map entP)
def insP (x : Pr) : List Pr → List Pr
 | [] => [x]
 | y :: r => if Lit.before (.string x.1) (.string y.1) then x :: y :: r else y :: insP x r
def getP (T : List Pr) (k : List UInt8) : Option Pr := T.find? (fun t => t.1 == k)
theorem ent_insP (x : Pr) : ∀ T : List Pr, (insP x T).map entP = DataW.insert (entP x) (T.map entP)
 | [] => rfl
 | y :: r => by
  simp only [insP, List.map_cons, DataW.insert]
  have e : (entP x).1.before (entP y).1 = Lit.before (.string x.1) (.string y.1) := rfl
  rw [e]
  split
  ·rfl
  ·simp [ent_insP x r]
theorem findP_map {α β : Type} (f : α → β) (p : β → Bool) : ∀ l : List α, (l.map f).find? p = (l.find? (fun x => p (f x))).map f
 | [] => rfl
 | x :: r => by
  simp only [List.map_cons, List.find?_cons]
  cases p (f x) <;> simp [findP_map f p r]
theorem atKey_toP (T : List Pr) (k : List UInt8) (z : DataW Unit) : (toP T).atKey (.string k) z = (match getP T k with | some t => .lit (.int .i64 t.2) | none => z) := by
 unfold toP DataW.atKey getP
 simp only
 rw [findP_map]
 have e : (fun x => (entP x).1.sameKey (.string k)) = fun t : Pr => t.1 == k := rfl
 rw [e]
 cases T.find? (fun t => t.1 == k) <;> rfl
theorem has_toP (T : List Pr) (k : List UInt8) : Maps.has (toP T) (.string k) = (getP T k).isSome := by
 unfold toP getP
 rw [Maps.has_eq, List.any_map]
 have e : ((fun p : Lit × DataW Unit => p.fst.sameKey (Lit.string k)) ∘ entP) = fun t : Pr => t.1 == k := rfl
 rw [e]
 induction T with
 | nil => rfl
 | cons x r ih =>
  rw [List.any_cons, List.find?_cons]
  cases hx : (x.1 == k)
  ·simpa using ih
  ·simp
theorem size_toP (T : List Pr) : Maps.size (toP T) = T.length := by simp [toP, Maps.size]
theorem length_insP (x : Pr) : ∀ T : List Pr, (insP x T).length = T.length + 1
 | [] => rfl
 | y :: r => by
  unfold insP
  split
  ·rfl
  ·simp [length_insP x r]
theorem put_toP {T : List Pr} {x : Pr} (h : getP T x.1 = none) : (toP T).put (.string x.1) (.lit (.int .i64 x.2)) = toP (insP x T) := by
 have hd : (T.map entP).filter (fun p => !p.1.sameKey (.string x.1)) = T.map entP := by
  rw [List.filter_eq_self]
  intro p hp
  obtain ⟨t, ht, rfl⟩ := List.mem_map.1 hp
  have := List.find?_eq_none.1 h t ht
  simpa [entP, Lit.sameKey] using this
 unfold toP
 rw [ent_insP]
 show DataW.map (DataW.insert (.string x.1, .lit (.int .i64 x.2)) ((T.map entP).filter (fun p => !p.1.sameKey (.string x.1)))) = _
 rw [hd]
 rfl
theorem mem_insP {x y : Pr} : ∀ {T : List Pr}, y ∈ insP x T ↔ y = x ∨ y ∈ T
 | [] => by simp [insP]
 | z :: r => by
  unfold insP
  split
  ·simp
  ·simp only [List.mem_cons, mem_insP (T := r)]
   constructor
   ·rintro (h | h | h)
    ·exact Or.inr (Or.inl h)
    ·exact Or.inl h
    ·exact Or.inr (Or.inr h)
   ·rintro (h | h | h)
    ·exact Or.inr (Or.inl h)
    ·exact Or.inl h
    ·exact Or.inr (Or.inr h)
theorem get_insP_other {x : Pr} {k : List UInt8} (hk : x.1 ≠ k) : ∀ T : List Pr, getP (insP x T) k = getP T k
 | [] => by simp [getP, insP, hk]
 | y :: r => by
  unfold insP
  split
  ·simp [getP, List.find?_cons, hk]
  ·have := get_insP_other hk r
   unfold getP at this ⊢
   rw [List.find?_cons, List.find?_cons, this]
theorem get_insP_same {T : List Pr} {x : Pr} (h : getP T x.1 = none) : getP (insP x T) x.1 = some x := by
 unfold getP at h ⊢
 have : ∀ l : List Pr, (∀ t ∈ l, (t.1 == x.1) = false) → (insP x l).find? (fun t => t.1 == x.1) = some x := by
  intro l
  induction l with
  | nil => intro _; simp [insP]
  | cons y r ih =>
   intro h
   unfold insP
   split
   ·simp
   ·rw [List.find?_cons, h y (by simp)]
    exact ih (fun t ht => h t (by simp [ht]))
 exact this _ (fun t ht => by simpa using List.find?_eq_none.1 h t ht)
structure GoodP (T : List Pr) : Prop where
 low : ∀ t ∈ T, 1 ≤ t.2 ∧ t.2 ≤ T.length
 apart : ∀ t ∈ T, ∀ t' ∈ T, t.2 = t'.2 → t.1 = t'.1
theorem GoodP.more {T : List Pr} (h : GoodP T) {k : List UInt8} : GoodP (insP (k, (T.length : Int) + 1) T) := by
 refine ⟨fun t ht => ?_, fun t ht t' ht' e => ?_⟩
 ·rw [length_insP]
  rcases mem_insP.1 ht with rfl | ht
  ·dsimp only; omega
  ·have := h.low t ht; omega
 ·rcases mem_insP.1 ht with rfl | ht <;> rcases mem_insP.1 ht' with rfl | ht'
  ·rfl
  ·have := h.low t' ht'; dsimp only at e; omega
  ·have := h.low t ht; dsimp only at e; omega
  ·exact h.apart t ht t' ht' e
def numP (T : List Pr) (s : ByteArray) : Int := match getP T s.data.toList with | some t => t.2 | none => 0
def HasP (T : List Pr) (s : ByteArray) : Prop := (getP T s.data.toList).isSome = true
def SubP (T T' : List Pr) : Prop := ∀ s, HasP T s → HasP T' s ∧ numP T' s = numP T s
theorem SubP.refl (T : List Pr) : SubP T T := fun _ h => ⟨h, rfl⟩
theorem SubP.trans {A B C : List Pr} (h : SubP A B) (k : SubP B C) : SubP A C := fun s hs => ⟨(k s (h s hs).1).1, (k s (h s hs).1).2.trans (h s hs).2⟩
theorem SubP.more {T : List Pr} {k : List UInt8} {n : Int} (h : getP T k = none) : SubP T (insP (k, n) T) := fun s hs => by
 have hne : (k, n).1 ≠ s.data.toList := fun e => by
  unfold HasP at hs
  rw [← e] at hs
  rw [h] at hs
  cases hs
 unfold HasP numP at *
 rw [get_insP_other hne]
 exact ⟨hs, rfl⟩
theorem get_mem {T : List Pr} {k : List UInt8} {t : Pr} (h : getP T k = some t) : t ∈ T ∧ t.1 = k := by
 refine ⟨List.mem_of_find?_eq_some h, ?_⟩
 have := List.find?_some h
 simpa using this
theorem num_pos {T : List Pr} (hg : GoodP T) {s : ByteArray} (h : HasP T s) : 1 ≤ numP T s := by
 unfold HasP at h
 unfold numP
 cases hs : getP T s.data.toList with
 | none => rw [hs] at h; cases h
 | some t => exact (hg.low t (get_mem hs).1).1
theorem num_inj {T : List Pr} (hg : GoodP T) {s s' : ByteArray} (h : HasP T s) (h' : HasP T s') : numP T s = numP T s' ↔ s = s' := by
 constructor
 ·intro e
  unfold HasP at h h'
  unfold numP at e
  cases hs : getP T s.data.toList with
  | none => rw [hs] at h; cases h
  | some t =>
   cases hs' : getP T s'.data.toList with
   | none => rw [hs'] at h'; cases h'
   | some t' =>
    rw [hs, hs'] at e
    have := hg.apart t (get_mem hs).1 t' (get_mem hs').1 e
    rw [(get_mem hs).2, (get_mem hs').2] at this
    exact (str_of this).trans (str_of rfl).symm
 ·rintro rfl; rfl
theorem num_map {T T' : List Pr} (hs : SubP T T') {L : List ByteArray} (hL : ∀ s ∈ L, HasP T s) : L.map (numP T') = L.map (numP T) := List.map_congr_left (fun s h => (hs s (hL s h)).2)
theorem wf_small {v : Int} (h0 : 0 ≤ v) (h1 : v ≤ 100000) : (Lit.int .i64 v).wf = true := by
 have h2 : IntKind.i64.min ≤ v := by show (-9223372036854775808 : Int) ≤ v; omega
 have h3 : v ≤ IntKind.i64.max := by show v ≤ (9223372036854775807 : Int); omega
 simp [Lit.wf, h2]
 omega
theorem lawP : Keyed Tryz.prog 9 := string_keyed Tryz.underlying9
theorem zeroI (w : World) : (zeroValue 3).run Tryz.prog w = .ok (.int .i64 0) w := Tryz.zeroValue3 w
def MapP (w : World) (b n : Nat) (T : List Pr) : Prop := w.ownsMap (H := Unit) Tryz.prog 9 (plainElem Tryz.prog 3) b n (toP T)
theorem MapP.fr {M : Nat → Prop} {w w' : World} {b n : Nat} {T : List Pr} (h : MapP w b n T) (f : Fr M w w') (hb : ¬ M b) : MapP w' b n T := by
 obtain ⟨es, clock, h1, r⟩ := h
 exact ⟨es, clock, f.at h1 hb, r⟩
theorem MapP.look {w : World} {b n : Nat} {T : List Pr} (h : MapP w b n T) {s : ByteArray} (hs : s.size ≤ maxLen) :
  (Instr.lookup 143 (.map (some b)) (.string s) true).run Tryz.prog w = .ok (.tuple #[.int .i64 (numP T s), .bool (getP T s.data.toList).isSome]) w := by
 obtain ⟨v, ps, hrun, hv⟩ := World.ownsMap.look_ok h lawP Tryz.underlying143 (zeroI w) (plainElem_int Tryz.underlying3 (by decide)) (keyOf_string_mk Tryz.underlying9 hs)
 rw [has_toP] at hrun
 rw [atKey_toP] at hv
 obtain ⟨c, rfl, hc, _⟩ := plainElem_int_inv Tryz.underlying3 hv
 rw [hrun]
 unfold numP
 cases hg : getP T s.data.toList with
 | none => rw [hg] at hc; simp at hc; rw [← hc.1]
 | some t => rw [hg] at hc; simp at hc; rw [← hc.1]
theorem MapP.len {w : World} {b n : Nat} {T : List Pr} (h : MapP w b n T) (ty : TypeId) : (Builtin.len_ #[143] ty #[.map (some b)]).run Tryz.prog w = .ok (.int .i64 T.length) w := by
 have := World.ownsMap.len h Tryz.underlying143 ty
 rw [size_toP] at this
 exact this
theorem MapP.put {w : World} {b n : Nat} {T : List Pr} (h : MapP w b n T) (hn : n ≤ 100000) {s : ByteArray} (hs : s.size ≤ maxLen) (hg : getP T s.data.toList = none) {v : Int} (hv : 0 ≤ v ∧ v ≤ 100000) :
  ∃ w', (Instr.mapUpdate 143 (.map (some b)) (.string s) (.int .i64 v)).run Tryz.prog w = .ok () w' ∧ MapP w' b (n + 1) (insP (s.data.toList, v) T) ∧ Fr (fun k => k = b) w w' := by
 obtain ⟨w', h1, h2, h3⟩ := World.ownsMap.update h lawP Tryz.underlying143 (by unfold maxLen; omega) (keyOf_string_mk Tryz.underlying9 hs) (plainElem_int Tryz.underlying3 (a := v) (wf_small (by omega) (by omega)))
 rw [put_toP (x := (s.data.toList, v)) hg] at h2
 exact ⟨w', h1, h2, Fr.grown h3 (fun k e => by cases e; rfl)⟩
theorem numbersOf_any (pm bm n : Nat) (T : List Pr) (va : Option Addr) (ca : Nat) (L : List ByteArray) (N : Nat) (w : World) (hL : Row w va L) (hN : L.length = N) (hN9 : N ≤ 4020) (hz : ∀ s ∈ L, s.size ≤ maxLen)
  (hp : w.cell? ⟨pm, 0, none⟩ = some (.map (some bm))) (hM : MapP w bm n T) (hn : n ≤ 8200) (hg : GoodP T) (hT : T.length ≤ n) (hpb : pm ≠ bm) (hvb : L ≠ [] → Off (fun k => k = bm) va) :
  Calls Tryz.prog 130 #[.slice va N ca, .pointer (some ⟨pm, 0, none⟩)] w fun e w' => ∃ v T', e = .returned v ∧ OwnV w.heap.size w' 3 v (ints (L.map (numP T') ++ [0])) ∧ MapP w' bm (n + N) T' ∧ T'.length ≤ n + N ∧ GoodP T' ∧ SubP T T' ∧ (∀ s ∈ L, HasP T' s) ∧ Fr (fun k => k = bm) w w' := by
 have HN : Hid (L.length = N) := hN
 have HZ : Hid (∀ s ∈ L, s.size ≤ maxLen) := hz
 have HMG : Hid (MapP w bm n T ∧ GoodP T ∧ T.length ≤ n) := ⟨hM, hg, hT⟩
 have hbm := World.ownsMap.lt hM
 have i1 : (N : Int) ≤ 4020 := by omega
 clear hN hz hM hg hT
 go_enter Tryz.func130, Tryz.ntmps130
 go_wp2_with fail
 go_loopw [4, 11] (fun v i wr => ∃ (k : Nat) (T' : List Pr), k ≤ N ∧ i = .int .i64 k ∧ Hid (OwnV w.heap.size wr 3 v (ints ((L.take k).map (numP T')))) ∧ Hid (MapP wr bm (n + k) T' ∧ T'.length ≤ n + k ∧ GoodP T' ∧ SubP T T' ∧ ∀ s ∈ L.take k, HasP T' s) ∧ Fr (fun k => k = bm) w wr) (fun _ i _ => N - (intOf i).toNat)
 case atStart => exact ⟨0, T, Nat.zero_le _, rfl, OwnV.nil _ _ _, ⟨HMG.out.1, HMG.out.2.2, HMG.out.2.1, SubP.refl T, fun s h => by simp at h⟩, Fr.refl _ _⟩
 case round =>
  obtain ⟨k, T', hk, rfl, HO, HM, hF⟩ := hrel
  by_cases hlt : k < N
  ·have hkL : k < L.length := by rw [HN.out]; exact hlt
   obtain ⟨ga, oa, rfl, c1⟩ := (hL.frW hF hvb).get hkL
   obtain ⟨s, hs⟩ : ∃ s, L[k] = s := ⟨_, rfl⟩
   rw [hs] at c1
   have hsz := HZ.out s (hs ▸ List.getElem_mem hkL)
   have HT : Hid (L.take (k + 1) = L.take k ++ [s]) := by
    show _ = _
    rw [List.take_succ_eq_append_getElem hkL, hs]
   have cm := hF.cell hp hpb
   have i3 : (0 : Int) ≤ (k : Int) := by omega
   have i4 : (k : Int) < (N : Int) := by omega
   obtain ⟨M1, M2, M3, M4, M5⟩ := HM.out
   have hlook := M1.look hsz
   have hml : ((L.take k).map (numP T')).length = k := by rw [List.length_map, List.length_take]; omega
   have HML : Hid ((ints ((L.take k).map (numP T'))).length = k) := by
    show _ = _
    rw [Z9, hml]
   cases hgt : getP T' s.data.toList with
   | some t =>
    have hnum : numP T' s = t.2 := by unfold numP; rw [hgt]
    have hhas : HasP T' s := by unfold HasP; rw [hgt]; rfl
    have HE : Hid (ints ((L.take k).map (numP T')) ++ [.int .i64 t.2] = ints ((L.take (k + 1)).map (numP T')) ∧ (∀ x ∈ L.take (k + 1), HasP T' x)) := by
     refine ⟨?_, fun x hx => ?_⟩
     ·rw [HT.out]; simp [ints, hnum]
     ·rw [HT.out] at hx
      rcases List.mem_append.1 hx with hx | hx
      ·exact M5 x hx
      ·simp at hx; rw [hx]; exact hhas
    rw [hgt, hnum] at hlook
    have M1' := World.ownsMap.mono M1 (n' := n + (k + 1)) (by omega)
    have HM2 : Hid (MapP wr bm (n + (k + 1)) T' ∧ T'.length ≤ n + (k + 1) ∧ GoodP T' ∧ SubP T T') := ⟨M1', by omega, M3, M4⟩
    clear M1 M1' M2 M3 M4 M5 hgt hnum hhas hs hsz hL hml HM HMG
    obtain ⟨nv, hnv⟩ : ∃ nv, t.2 = nv := ⟨_, rfl⟩
    rw [hnv] at hlook HE
    clear hnv
    go_wp2_with (at_builtin
                 refine append_one oneI rfl _ _ rfl rfl (HO.out.kept (Fr.alloc None' wr _)) (m := [.int .i64 nv]) rfl rfl (one_row wr 3 _) (fun e => by cases e) (fun u hu => by simp at hu; subst hu; rfl) (by rw [HML.out]; simp; omega) (by have := hF.size; simp; omega) ?_
                 intro v1 w1 own1 f1 _
                 rw [HE.out.1] at own1)
    obtain ⟨F1, F2⟩ := own_fr HO.out hF (Fr.alloc None' wr _) f1
    obtain ⟨a1, a2, a3, a4⟩ := HM2.out
    exact ⟨⟨k + 1, T', by omega, by go_num, own1, ⟨a1.fr F2 (fun e => by have := (HO.out.lt e).1; omega), a2, a3, a4, HE.out.2⟩, F1⟩, by simp [intOf]; omega⟩
   | none =>
    have hnum : numP T' s = 0 := by unfold numP; rw [hgt]
    have hlen := M1.len 3
    obtain ⟨w1, hput, P1, FP⟩ := M1.put (by omega) hsz hgt (v := (T'.length : Int) + 1) (by omega)
    obtain ⟨T2, hT2⟩ : ∃ T2, insP (s.data.toList, (T'.length : Int) + 1) T' = T2 := ⟨_, rfl⟩
    have G2 : GoodP T2 := hT2 ▸ M3.more
    have S2 : SubP T' T2 := hT2 ▸ SubP.more hgt
    have hget : getP T2 s.data.toList = some (s.data.toList, (T'.length : Int) + 1) := hT2 ▸ get_insP_same (x := (s.data.toList, (T'.length : Int) + 1)) hgt
    have hL2 : T2.length = T'.length + 1 := by rw [← hT2, length_insP]
    rw [hT2] at P1
    have hnum2 : numP T2 s = (T'.length : Int) + 1 := by unfold numP; rw [hget]
    have hhas : HasP T2 s := by unfold HasP; rw [hget]; rfl
    have hold : (L.take k).map (numP T2) = (L.take k).map (numP T') := num_map S2 M5
    have HE : Hid (ints ((L.take k).map (numP T')) ++ [.int .i64 ((T'.length : Int) + 1)] = ints ((L.take (k + 1)).map (numP T2)) ∧ (∀ x ∈ L.take (k + 1), HasP T2 x)) := by
     refine ⟨?_, fun x hx => ?_⟩
     ·rw [HT.out, List.map_append, hold]; simp [ints, hnum2]
     ·rw [HT.out] at hx
      rcases List.mem_append.1 hx with hx | hx
      ·exact (S2 x (M5 x hx)).1
      ·simp at hx; rw [hx]; exact hhas
    rw [hgt, hnum] at hlook
    have HM2 : Hid (MapP w1 bm (n + k + 1) T2 ∧ T2.length ≤ n + (k + 1) ∧ GoodP T2 ∧ SubP T T2) := ⟨P1, by omega, G2, M4.trans S2⟩
    have HO1 : Hid (∀ {v}, OwnV w.heap.size wr 3 v (ints ((L.take k).map (numP T'))) → OwnV w.heap.size w1 3 v (ints ((L.take k).map (numP T')))) := fun h => h.fr FP (fun j hj e => by have := (h.lt hj).1; omega)
    have hF1 : Fr (fun k => k = bm) w w1 := hF.then FP
    have iT : (T'.length : Int) ≤ 12300 := by omega
    obtain ⟨nv, hnv⟩ : ∃ nv, 1 + (T'.length : Int) = nv := ⟨_, rfl⟩
    have hnv2 : (T'.length : Int) + 1 = nv := by omega
    rw [hnv2] at hput HE
    have HO2 := HO1.out HO.out
    have HO3 : Hid (OwnV w.heap.size w1 3 _ (ints ((L.take k).map (numP T')))) := HO2
    have h1s := hF1.size
    clear M1 M2 M3 M4 M5 hgt hnum hhas hs hsz hL hml HM HMG G2 S2 hget hL2 P1 hnum2 hold hT2 FP HO HO1 HO2 hF hnv2
    go_wp2_with (at_builtin
                 refine append_one oneI rfl _ _ rfl rfl (HO3.out.kept (Fr.alloc None' w1 _)) (m := [.int .i64 nv]) rfl rfl (one_row w1 3 _) (fun e => by cases e) (fun u hu => by simp at hu; subst hu; rfl) (by rw [HML.out]; simp; omega) (by simp; omega) ?_
                 intro v1 w2 own1 f1 _
                 rw [HE.out.1] at own1)
    obtain ⟨F1, F2⟩ := own_fr HO3.out hF1 (Fr.alloc None' w1 _) f1
    obtain ⟨a1, a2, a3, a4⟩ := HM2.out
    exact ⟨⟨k + 1, T2, by omega, by go_num, own1, ⟨a1.fr F2 (fun e => by have := (HO3.out.lt e).1; omega), a2, a3, a4, HE.out.2⟩, F1⟩, by simp [intOf]; omega⟩
  ·have hkN : k = N := by omega
   have HT : Hid (L.take k = L) := List.take_of_length_le (by rw [HN.out]; omega)
   rw [HT.out] at HO HM
   have HML : Hid ((ints (L.map (numP T'))).length ≤ 4020) := by
    show _ ≤ _
    rw [Z9, List.length_map, HN.out]
    exact hN9
   have HE : Hid (ints (L.map (numP T')) ++ [.int .i64 0] = ints (L.map (numP T') ++ [0])) := by simp [ints, Hid]
   have h1s := hF.size
   clear HMG hL
   go_wp2_with (at_builtin
                refine append_one oneI rfl _ _ rfl rfl (HO.out.kept (Fr.alloc None' wr _)) (m := [.int .i64 0]) rfl rfl (one_row wr 3 _) (fun e => by cases e) (fun u hu => by simp at hu; subst hu; rfl) (by have := HML.out; rw [List.length_singleton]; omega) (by simp; omega) ?_
                intro v1 w2 own1 f1 _
                rw [HE.out] at own1)
   obtain ⟨F1, F2⟩ := own_fr HO.out hF (Fr.alloc None' wr _) f1
   obtain ⟨a1, a2, a3, a4, a5⟩ := HM.out
   have a1' := a1.fr F2 (fun e => by have := (HO.out.lt e).1; omega)
   rw [hkN] at a1' a2
   go_ret
   exact ⟨_, T', rfl, own1, a1', a2, a3, a4, a5, F1⟩
theorem mapP_new (w : World) : MapP (w.alloc (.map #[] 0)) w.heap.size 0 [] := World.ownsMap_made w _ _ _
theorem numbered_any (va vb : Option Addr) (ca cb : Nat) (a b : List ByteArray) (w : World) (ha : Row w va a) (hb : Row w vb b) (ha9 : a.length ≤ 4020) (hb9 : b.length ≤ 4020) (hza : ∀ s ∈ a, s.size ≤ maxLen) (hzb : ∀ s ∈ b, s.size ≤ maxLen) (hoa : a ≠ [] → ∀ x, va = some x → x.block < w.heap.size) (hob : b ≠ [] → ∀ x, vb = some x → x.block < w.heap.size) :
  Calls Tryz.prog 98 #[.slice va a.length ca, .slice vb b.length cb] w fun e w' => ∃ v1 v2 T, e = .returned (.tuple #[v1, v2]) ∧ GoodP T ∧ (∀ s ∈ a, HasP T s) ∧ (∀ s ∈ b, HasP T s) ∧ OwnV w.heap.size w' 3 v1 (ints (a.map (numP T) ++ [0])) ∧ OwnV w.heap.size w' 3 v2 (ints (b.map (numP T) ++ [0])) ∧ Fr None' w w' := by
 obtain ⟨na, hna⟩ : ∃ n, a.length = n := ⟨_, rfl⟩
 obtain ⟨nb, hnb⟩ : ∃ n, b.length = n := ⟨_, rfl⟩
 have HA : Hid (a.length = na) := hna
 have HB : Hid (b.length = nb) := hnb
 rw [hna, hnb]
 rw [hna] at ha9
 rw [hnb] at hb9
 have hmm := @run_makeMap Tryz.prog
 obtain ⟨w1, hw1⟩ : ∃ w1, (w.alloc (.map #[] 0)).alloc (.cells #[.map (some w.heap.size)] 143) = w1 := ⟨_, rfl⟩
 have F1 : Fr None' w w1 := hw1 ▸ (Fr.alloc None' w _).then (Fr.alloc None' _ _)
 have hs1 : w1.heap.size = w.heap.size + 2 := by rw [← hw1]; simp
 have M1 : MapP w1 w.heap.size 0 [] := hw1 ▸ (mapP_new w).fr (Fr.alloc None' _ _) (fun e => e)
 have p1 : w1.cell? ⟨w.heap.size + 1, 0, none⟩ = some (.map (some w.heap.size)) := by
  have h := (fun (v : World) (n : Nat) (hn : v.heap.size = n) (x : Value) => show (v.alloc (.cells #[x] 143)).cell? ⟨n, 0, none⟩ = some x by rw [← hn]; simp) (w.alloc (.map #[] 0)) (w.heap.size + 1) (by simp) (.map (some w.heap.size))
  rw [hw1] at h
  exact h
 have c1 := numbersOf_any (w.heap.size + 1) w.heap.size 0 [] va ca a na w1 (ha.fr F1) HA.out ha9 hza p1 M1 (by omega) ⟨fun t h => by simp at h, fun t h => by simp at h⟩ (by simp) (by omega) (fun hl x e => by
  show ¬ x.block = w.heap.size
  have := hoa hl x e
  omega)
 clear hna hnb ha M1
 go_enter Tryz.func98, Tryz.ntmps98
 go_wp2_with fail
 refine c1.mono ?_
 rintro e w2 ⟨v1, T1, rfl, o1, m1, l1, g1, s1, h1, f1⟩
 have p2 := f1.cell p1 (fun e => by have e' : w.heap.size + 1 = w.heap.size := e; omega)
 have F2 : Fr None' w w2 := F1.trans f1 (fun i e => Or.inr (by omega))
 have c2 := numbersOf_any (w.heap.size + 1) w.heap.size (0 + na) T1 vb cb b nb w2 (hb.fr F2) HB.out hb9 hzb p2 m1 (by omega) g1 l1 (by omega) (fun hl x e => by
  show ¬ x.block = w.heap.size
  have := hob hl x e
  omega)
 have hs2 := f1.size
 have HO : Hid (OwnV w1.heap.size w2 3 v1 (ints (a.map (numP T1) ++ [0])) ∧ (∀ s ∈ a, HasP T1 s)) := ⟨o1, h1⟩
 obtain ⟨va1, cv1, hv1, _, _, _, _⟩ := o1.slice
 obtain ⟨L1, hL1⟩ : ∃ n, (ints (a.map (numP T1) ++ [0])).length = n := ⟨_, rfl⟩
 rw [hL1] at hv1
 subst hv1
 clear c1 o1 m1 h1 hL1 hb
 go_wp2_with fail
 refine c2.mono ?_
 rintro e w3 ⟨v2, T2, rfl, o2, m2, l2, g2, s2, h2, f2⟩
 clear c2
 have F3 : Fr None' w w3 := F2.trans f2 (fun i e => Or.inr (by omega))
 have HR : Hid (GoodP T2 ∧ (∀ s ∈ a, HasP T2 s) ∧ (∀ s ∈ b, HasP T2 s) ∧ OwnV w.heap.size w3 3 (.slice va1 L1 cv1) (ints (a.map (numP T2) ++ [0])) ∧ OwnV w.heap.size w3 3 v2 (ints (b.map (numP T2) ++ [0])) ∧ Fr None' w w3) := by
  refine ⟨g2, fun s hs => (s2 s (HO.out.2 s hs)).1, h2, ?_, ?_, F3⟩
  ·rw [num_map s2 HO.out.2]
   have := HO.out.1.fr f2 (fun k hk e => by have := (HO.out.1.lt hk).1; omega)
   refine ⟨this.1, ?_⟩
   rcases this.2 with h | ⟨g, cap, cur, hv, hg, h⟩
   ·exact Or.inl h
   ·exact Or.inr ⟨g, cap, cur, hv, by omega, h⟩
  ·refine ⟨o2.1, ?_⟩
   rcases o2.2 with h | ⟨g, cap, cur, hv, hg, h⟩
   ·exact Or.inl h
   ·exact Or.inr ⟨g, cap, cur, hv, by omega, h⟩
 obtain ⟨va2, cv2, hv2, _, _, _, _⟩ := o2.slice
 obtain ⟨L2, hL2⟩ : ∃ n, (ints (b.map (numP T2) ++ [0])).length = n := ⟨_, rfl⟩
 rw [hL2] at hv2
 subst hv2
 clear o2 hL2 g2 s2 h2
 go_wp2_with fail
 go_ret2
 exact ⟨_, _, T2, rfl, HR.out⟩
end Go.Proofs.YtbnfjjjdnbcehaaGreatDoor.Diff
