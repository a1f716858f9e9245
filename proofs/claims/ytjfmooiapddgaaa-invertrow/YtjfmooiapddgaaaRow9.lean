/-
  What is proved here: InvertRow answers true. Conditions: its arguments lie in memory, and are no longer than the reach.
-/
import Derived.Test.YtjfmooiapddgaaaTells9
namespace Go.Proofs.Ytjfmooiapddgaaa
open Go.RowKit
set_option maxRecDepth 100000

/-- 'append(l, b...)', both rows of the call's own. -/
theorem OwnP.addOwn {base base2 : Nat} {w : World} {v v2 : Value} {L B : List Pr} {V U : List (Value × Value)} (h : OwnP base w v L V) (h2 : OwnP base2 w v2 B U) (hf : ∀ u ∈ U, ∀ k, (u.1.ownBlock = some k ∨ u.2.ownBlock = some k) → ¬ v.ownBlock = some k) (hbase : base ≤ w.heap.size) (hlen : L.length + B.length ≤ 100000) :
    ∃ v' w', (Builtin.append_ #[25, 25] 25 #[v, v2]).run Try.prog w = .ok v' w' ∧ OwnP base w' v' (L ++ B) (V ++ U) ∧ Fr (fun k => v.ownBlock = some k) w w' := by
  rcases h2.row.2 with ⟨hv, e⟩ | ⟨g, cap, cur, hv, hb, hh, hc, _, hs, ht⟩
  · have e2 : B = [] := List.length_eq_zero_iff.1 e
    have e3 : U = [] := List.length_eq_zero_iff.1 (by rw [h2.len, e2]; rfl)
    subst e2 e3
    rw [hv]
    obtain ⟨i0, hi, _⟩ := info_parts infoP
    exact ⟨v, w, run_append_owned_none (P := Try.prog) (w := w) base 25 25 24 i0 7 Try.underlying25 hi v L.length (pcells L V) h.row, by simpa using h, Fr.refl _ _⟩
  · rw [hv]
    obtain ⟨v', w', r1, r2, r3, _⟩ := h.append (ad := ⟨g, 0, none⟩) (c := cap) rfl h2.len (fun j u hj => by
      rw [show (⟨g, 0, none⟩ : Addr).add j = ⟨g, 0 + j, none⟩ from Addr.add_lit .., Nat.zero_add]
      have hjl : j < B.length * 7 := by
        have := (List.getElem?_eq_some_iff.1 hj).1
        rw [pcells_length B U h2.len] at this
        exact this
      rw [← ht, List.getElem?_take, if_pos hjl] at hj
      rw [World.cell?, hh]
      simpa using hj) (fun k x u e1 e2 => by
      obtain ⟨s1, s2, _, _⟩ := h2.str k x u e1 e2
      have hu := List.mem_of_getElem? e2
      exact ⟨s1, s2, fun _ k e => hf u hu k (Or.inl e), fun _ k e => hf u hu k (Or.inr e)⟩) hlen hbase
    exact ⟨v', w', r1, r2, r3⟩

set_option maxHeartbeats 4000000 in
theorem row_walk (va vb : Option Addr) (n m c d : Nat) (A B : List Pr) (W : World) (hh : ∀ w, Calls Try.prog 5 #[] w fun e w' => e = .returned (.bool true) ∧ Fr None' w w') (hl : A.length = n) (ha : PrsAt W va A) (hc : va = none → c = 0) (hs : ∀ x ∈ A, x.old.length ≤ 140737488355328 ∧ x.new.length ≤ 140737488355328) (hl2 : B.length = m) (hb : PrsAt W vb B) (hd : vb = none → d = 0) (hs2 : ∀ x ∈ B, x.old.length ≤ 140737488355328 ∧ x.new.length ≤ 140737488355328) :
    Calls Try.prog 4 #[.slice va n c, .slice vb m d] W fun e w' => e = .returned (.bool true) ∧ Fr None' W w' := by
  have cA : Hid (∀ w', Fr None' W w' → Calls Try.prog 7 #[.slice va n c] w' fun e w'' => GreatPs A n w' e w'') := fun w' f => pgreats_any va n c A w' hl (ha.kept f) hs
  have cB : Hid (∀ w', Fr None' W w' → Calls Try.prog 7 #[.slice vb m d] w' fun e w'' => GreatPs B m w' e w'') := fun w' f => pgreats_any vb m d B w' hl2 (hb.kept f) hs2
  have q1 := hh W
  go_enter Try.func4, Try.ntmps4
  go_wp2_with fail
  with_reducible refine q1.mono ?_
  rintro e w2 ⟨rfl, F2⟩
  have HF2 : Hid (Fr None' W w2) := F2
  have q2 := cA.out w2 F2
  clear q1 F2
  go_wp2_with fail
  with_reducible refine q2.mono ?_
  rintro e w3 ⟨g, rfl, hg, F3⟩
  have HF3 : Hid (Fr None' W w3) := HF2.out.then7 F3
  clear q2 F3
  cases g with
  | true =>
    go_wp2_with fail
    go_ret
    exact ⟨rfl, HF3.out⟩
  | false =>
    have HG1 : Hid (n ≤ 60 ∧ ∀ x ∈ A, x.weight < 4000) := hg rfl
    have q3 := cB.out w3 HF3.out
    clear hg
    go_wp2_with fail
    with_reducible refine q3.mono ?_
    rintro e w4 ⟨g, rfl, hg, F4⟩
    have HF4 : Hid (Fr None' W w4) := HF3.out.then7 F4
    clear q3 F4
    cases g with
    | true =>
      go_wp2_with fail
      go_ret
      exact ⟨rfl, HF4.out⟩
    | false =>
      have HG2 : Hid (m ≤ 60 ∧ ∀ x ∈ B, x.weight < 4000) := hg rfl
      clear hg
      obtain ⟨w5, hw5⟩ : ∃ w5, w4.alloc (.cells #[] 24) = w5 := ⟨_, rfl⟩
      have F5 : Fr None' w4 w5 := hw5 ▸ Fr.alloc None' w4 _
      have O5 : OwnP w4.heap.size w5 (.slice (some ⟨w4.heap.size, 0, none⟩) 0 0) [] [] := hw5 ▸ OwnP.empty (Nat.le_refl _)
      have g1 := HG1.out.1
      have g2 := HG2.out.1
      obtain ⟨v6, U6, w6, r6, O6, f6⟩ := O5.addAll (ha.kept HF4.out) hl hc F5 (Nat.le_refl _) F5.size (by simp; omega)
      have F6 : Fr None' w4 w6 := F5.trans f6 (fun i e => Or.inr (O5.ge e).1)
      obtain ⟨v7, U7, w7, r7, O7, f7⟩ := O6.addAll (hb.kept HF4.out) hl2 hd F6 (Nat.le_refl _) F6.size (by simp; omega)
      have F7 : Fr None' w4 w7 := F6.trans f7 (fun i e => Or.inr (O6.ge e).1)
      obtain ⟨p6, c6, hv6, _⟩ := O6.slice
      obtain ⟨p7, c7, hv7, _, hc7, P7⟩ := O7.slice
      have hn6 : ([] ++ A).length = n := by simpa using hl
      have hn7 : ([] ++ A ++ B).length = n + m := by simp; omega
      rw [hn6] at hv6
      rw [hn7] at hv7
      subst hv6 hv7
      have HR6 : Hid ((Builtin.append_ #[25, 25] 25 #[.slice (some ⟨w4.heap.size, 0, none⟩) 0 0, .slice va n c]).run Try.prog w5 = .ok (.slice p6 n c6) w6) := r6
      have HR7 : Hid ((Builtin.append_ #[25, 25] 25 #[.slice p6 n c6, .slice vb m d]).run Try.prog w6 = .ok (.slice p7 (n + m) c7) w7) := r7
      have HP7 : Hid (PrsAt w7 p7 (A ++ B)) := by show PrsAt w7 p7 (A ++ B); simpa using P7
      have HF7 : Hid (Fr None' W w7) := HF4.out.then7 F7
      have HA : Hid (PrsAt W va A ∧ PrsAt W vb B ∧ A.length = n ∧ B.length = m) := ⟨ha, hb, hl, hl2⟩
      clear F5 O5 r6 O6 f6 F6 r7 O7 f7 F7 hn6 hn7 P7 ha hb hl hl2 hs hs2 hc hd hh cA cB g1 g2
      go_wp2_with (at_builtin
                   first
                     | (refine app_list9 rfl _ _ rfl rfl rfl HR6.out ?_)
                     | (refine app_list9 rfl _ _ rfl rfl rfl HR7.out ?_))
      obtain ⟨w8, hw8⟩ : ∃ w8, w7.alloc (.cells #[] 24) = w8 := ⟨_, rfl⟩
      have F8 : Fr None' w7 w8 := hw8 ▸ Fr.alloc None' w7 _
      have s8 : w7.heap.size < w8.heap.size := by rw [← hw8]; simp
      have O8 : OwnP w7.heap.size w8 (.slice (some ⟨w7.heap.size, 0, none⟩) 0 0) [] [] := hw8 ▸ OwnP.empty (Nat.le_refl _)
      have q8 := all_new vb m d B w8 HA.out.2.2.2 (HA.out.2.1.kept (HF7.out.then7 F8)) (by have := HG2.out.1; omega) (fun x hx => by have := weight_len (HG2.out.2 x hx); omega)
      have HO8 : Hid (OwnP w7.heap.size w8 (.slice (some ⟨w7.heap.size, 0, none⟩) 0 0) [] [] ∧ w7.heap.size < w8.heap.size ∧ Fr None' w7 w8) := ⟨O8, s8, F8⟩
      rw [hw8]
      clear F8 s8 O8 HR6 HR7 hw8 hw5
      with_reducible refine q8.mono ?_
      rintro e w9 ⟨v9, V9, rfl, ⟨O9, F9⟩, N9⟩
      obtain ⟨p9, c9, hv9, _⟩ := O9.slice
      rw [List.length_map, List.length_reverse, HA.out.2.2.2] at hv9
      obtain ⟨v10, w10, r10, O10, f10⟩ := (HO8.out.1.kept F9).addOwn O9 (fun u hu k e e' => by have := N9 u hu k e; have h : w7.heap.size = k := Option.some.inj e'; have := HO8.out.2.1; omega) (by have := F9.size; have := HO8.out.2.1; omega) (by have := HG2.out.1; have := HA.out.2.2.2; simp; omega)
      have F10 : Fr None' w7 w10 := (HO8.out.2.2.then7 F9).trans f10 (fun i e => Or.inr (by have h : w7.heap.size = i := Option.some.inj e; omega))
      obtain ⟨p10, c10, hv10, _⟩ := O10.slice
      have hn10 : ([] ++ B.reverse.map inv).length = m := by rw [List.nil_append, List.length_map, List.length_reverse]; exact HA.out.2.2.2
      rw [hn10] at hv10
      have q11 := all_new va n c A w10 HA.out.2.2.1 (HA.out.1.kept (HF7.out.then7 F10)) (by have := HG1.out.1; omega) (fun x hx => by have := weight_len (HG1.out.2 x hx); omega)
      subst hv9 hv10
      have HR10 : Hid ((Builtin.append_ #[25, 25] 25 #[.slice (some ⟨w7.heap.size, 0, none⟩) 0 0, .slice p9 m c9]).run Try.prog w9 = .ok (.slice p10 m c10) w10) := r10
      have HO10 : Hid (OwnP w7.heap.size w10 (.slice p10 m c10) (B.reverse.map inv) ([] ++ V9) ∧ Fr None' w7 w10) := ⟨by rw [List.nil_append] at O10; exact O10, F10⟩
      clear q8 r10 O10 f10 F10 F9 N9 O9 HO8 hn10
      go_wp2_with (at_builtin
                   refine app_list9 rfl _ _ rfl rfl rfl HR10.out ?_)
      with_reducible refine q11.mono ?_
      rintro e w11 ⟨v11, V11, rfl, ⟨O11, F11⟩, N11⟩
      obtain ⟨p11, c11, hv11, _⟩ := O11.slice
      rw [List.length_map, List.length_reverse, HA.out.2.2.1] at hv11
      obtain ⟨v12, w12, r12, O12, f12⟩ := (HO10.out.1.kept F11).addOwn O11 (fun u hu k e e' => by have := N11 u hu k e; have := (HO10.out.1.ge e').2; omega) (by have := F11.size; have := HO10.out.2.size; omega) (by have := HG1.out.1; have := HG2.out.1; have := HA.out.2.2; simp; omega)
      have F12 : Fr None' w7 w12 := (HO10.out.2.then7 F11).trans f12 (fun i e => Or.inr (HO10.out.1.ge e).1)
      obtain ⟨p12, c12, hv12, _, _, P12⟩ := O12.slice
      have hn12 : (B.reverse.map inv ++ A.reverse.map inv).length = n + m := by have := HA.out.2.2; simp; omega
      rw [hn12] at hv12
      subst hv11 hv12
      have HR12 : Hid ((Builtin.append_ #[25, 25] 25 #[.slice p10 m c10, .slice p11 n c11]).run Try.prog w11 = .ok (.slice p12 (n + m) c12) w12) := r12
      have HP12 : Hid (PrsAt w12 p12 ((A ++ B).reverse.map inv)) := by show PrsAt w12 p12 ((A ++ B).reverse.map inv); rw [List.reverse_append, List.map_append]; exact P12
      have HF12 : Hid (Fr None' W w12 ∧ Fr None' w7 w12) := ⟨HF7.out.then7 F12, F12⟩
      have HAll : Hid (∀ w', Fr None' w12 w' → Calls Try.prog 12 #[.slice p7 (n + m) c7] w' fun e w'' => ∃ p d, e = .returned (.slice p (n + m) d) ∧ Hid (PrsAt w'' p ((A ++ B).reverse.map inv)) ∧ Fr None' w' w'') := fun w' f => by
        refine (all_any p7 (n + m) c7 (A ++ B) w' (by have := HA.out.2.2; simp; omega) (HP7.out.kept (HF12.out.2.then7 f)) (by have := HG1.out.1; have := HG2.out.1; omega) (fun x hx => by
          rcases List.mem_append.1 hx with hx | hx
          · have := weight_len (HG1.out.2 x hx); omega
          · have := weight_len (HG2.out.2 x hx); omega)).mono ?_
        rintro e w'' ⟨v, V, rfl, hO, f2⟩
        obtain ⟨p, d, e, _, _, hP⟩ := hO.slice
        rw [List.length_map, List.length_reverse, List.length_append, HA.out.2.2.1, HA.out.2.2.2] at e
        exact ⟨p, d, by rw [e], hP, f2⟩
      have HAllA : Hid (∀ w', Fr None' w12 w' → Calls Try.prog 12 #[.slice va n c] w' fun e w'' => ∃ p d, e = .returned (.slice p n d) ∧ Fr None' w' w'') := fun w' f => by
        refine (all_any va n c A w' HA.out.2.2.1 (HA.out.1.kept (HF12.out.1.then7 f)) (by have := HG1.out.1; omega) (fun x hx => by have := weight_len (HG1.out.2 x hx); omega)).mono ?_
        rintro e w'' ⟨v, V, rfl, hO, f2⟩
        obtain ⟨p, d, e, _⟩ := hO.slice
        rw [List.length_map, List.length_reverse, HA.out.2.2.1] at e
        exact ⟨p, d, by rw [e], f2⟩
      have HSL : Hid (∀ w' p d, PrsAt w' p ((A ++ B).reverse.map inv) → Fr None' w12 w' → Calls Try.prog 11 #[.slice p (n + m) d, .slice p12 (n + m) c12] w' fun e w'' => e = .returned (.bool true) ∧ Fr None' w' w'') := fun w' p d h1 f =>
        psames_any p p12 (n + m) d c12 ((A ++ B).reverse.map inv) w' (by have := HA.out.2.2; simp; omega) h1 (HP12.out.kept f) (by have := HG1.out.1; have := HG2.out.1; omega) (fun y hy => by
          obtain ⟨z, hz, rfl⟩ := List.mem_map.1 hy
          have h1 : z.weight < 4000 := by
            rcases List.mem_append.1 (List.mem_reverse.1 hz) with hx | hx
            · exact HG1.out.2 z hx
            · exact HG2.out.2 z hx
          have := weight_len h1
          have := inv_len z
          omega)
      clear q11 r12 O12 f12 F12 F11 N11 O11 HO10 hn12 P12 HR10
      go_wp2_with (at_builtin
                   refine app_list9 rfl _ _ rfl rfl rfl HR12.out ?_)
      have q13 := HAll.out w12 (Fr.refl _ _)
      with_reducible refine q13.mono ?_
      rintro e w13 ⟨p13, d13, rfl, HP13, F13⟩
      have q14 := HSL.out w13 p13 d13 HP13.out F13
      have HF13 : Hid (Fr None' w12 w13) := F13
      clear q13 F13 HAll
      go_wp2_with fail
      with_reducible refine q14.mono ?_
      rintro e w14 ⟨rfl, F14⟩
      have HF14 : Hid (Fr None' w12 w14) := HF13.out.then7 F14
      have q15 := HAllA.out w14 HF14.out
      clear q14 F14 HSL
      go_wp2_with fail
      with_reducible refine q15.mono ?_
      rintro e w15 ⟨p15, d15, rfl, F15⟩
      have HF15 : Hid (Fr None' W w15) := HF12.out.1.then7 (HF14.out.then7 F15)
      clear q15 F15 HAllA
      go_wp2_with fail
      go_ret
      exact ⟨rfl, HF15.out⟩

end Go.Proofs.Ytjfmooiapddgaaa
