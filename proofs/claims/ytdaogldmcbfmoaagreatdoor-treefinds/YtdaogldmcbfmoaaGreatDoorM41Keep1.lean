/-
  What is proved here: the contracts that the statement stands on: Keep1, Keep1T. Conditions: as each theorem names them.
-/
import Derived.Test.YtdaogldmcbfmoaaGreatDoorM40RowT
import Derived.Test.YtdaogldmcbfmoaaGreatDoorM34Plain3
import Derived.Test.YtdaogldmcbfmoaaGreatDoorM25LRightP
import Derived.Lib.ConvBytes
namespace Go.Proofs.YtdaogldmcbfmoaaGreatDoor
open Go.RowKit
set_option maxRecDepth 100000

/-- A function g with the variables vs puts bytes: R tells what a put hands back and leaves; what At tells of lies in the blocks M. -/
structure PutFn {S : Type} (At : S → (Nat → Prop) → World → Prop) (R : S → List UInt8 → Int → S → Prop) (B : Nat) (cnt : S → Nat) (Km : Nat) (g : Nat) (vs : Array Value) : Prop where
  step : ∀ {s b e s'}, R s b e s' → cnt s' ≤ cnt s + 1
  enters : ∀ (args : Array Value) (w : World), (callFunc g args).run Tryz.prog w = .ok (.enter g args) w
  fresh : ∀ {s M w w'}, At s M w → Fr None' w w' → At s M w'
  kept : ∀ {s M w w'} {X : Nat → Prop}, At s M w → Fr X w w' → (∀ k, X k → ¬ M k ∧ ∃ c, w.heap[k]? = some (.cells c 9 (0, 0)) ∧ 2 ≤ c.size) → At s M w'
  lt : ∀ {s M w k}, At s M w → M k → k < w.heap.size
  call : ∀ {s M w} (v : Value) (b : List UInt8), At s M w → Arg w v b → Out M v → b.length ≤ B → cnt s < Km → Calls Tryz.prog g (#[v] ++ vs) w fun e w' => ∃ er y s' M', e = .returned (.tuple #[.string y, .int .i64 er]) ∧ bl y = (if er = 0 then nm b else []) ∧ R s b er s' ∧ At s' M' w' ∧ Fr M w w' ∧ ∀ k, M' k → M k ∨ w.heap.size ≤ k

theorem Puts.cnt {S : Type} {At : S → (Nat → Prop) → World → Prop} {R : S → List UInt8 → Int → S → Prop} {B g : Nat} {cnt : S → Nat} {Km : Nat} {vs : Array Value} (PF : PutFn At R B cnt Km g vs) {s s' : S} {ks : List (List UInt8)} {e : Int} (h : Puts R s ks e s') : cnt s' ≤ cnt s + ks.length := by
  induction h with
  | nil s => exact Nat.le_refl _
  | stop h1 _ =>
    have := PF.step h1
    rw [List.length_cons]
    omega
  | next h1 _ ih =>
    have := PF.step h1
    rw [List.length_cons]
    omega

/-- What is handed back where ks is put, and what it leaves. -/
def KPost {S : Type} (At : S → (Nat → Prop) → World → Prop) (R : S → List UInt8 → Int → S → Prop) (s : S) (ks : List (List UInt8)) (M : Nat → Prop) (w : World) (e : Ending) (w' : World) : Prop :=
  ∃ er y s' M', e = .returned (.tuple #[.string y, .int .i64 er]) ∧ bl y = (if er = 0 then lastName ks else []) ∧ Puts R s ks er s' ∧ At s' M' w' ∧ Fr M w w' ∧ ∀ k, M' k → M k ∨ w.heap.size ≤ k

theorem KPost.early {S : Type} {At : S → (Nat → Prop) → World → Prop} {R : S → List UInt8 → Int → S → Prop} {s : S} {ks : List (List UInt8)} {M : Nat → Prop} {w w1 w' : World} {e : Ending} (f : Fr None' w w1) (h : KPost At R s ks M w1 e w') : KPost At R s ks M w e w' := by
  obtain ⟨er, y, s', M', h1, h0, h2, h3, h4, h5⟩ := h
  exact ⟨er, y, s', M', h1, h0, h2, h3, (f.mono (fun _ e => e.elim)).trans h4 (fun _ e => Or.inl e), fun k hk => (h5 k hk).imp_right (fun h => Nat.le_trans f.size h)⟩

theorem conv_arg (w : World) (s : ByteArray) : ∃ c w', (convert 9 57 (.string s)).run Tryz.prog w = .ok (.slice (some ⟨w.heap.size, 0, none⟩) s.size c) w' ∧ Arg w' (.slice (some ⟨w.heap.size, 0, none⟩) s.size c) (bl s) ∧ Fr None' w w' := by
  have hl : (bl s).length = s.size := Path.len_eq s
  have hc := fun j hj => Lib.bytesWorld_cell w 5 s j hj
  refine ⟨grownCap w s.size 0 5, Lib.bytesWorld w 5 s, Lib.run_convert_string_bytes (P := Tryz.prog) w 9 57 5 s Tryz.underlying9 Tryz.underlying57 Tryz.underlying5, ⟨Or.inr ⟨_, _, by rw [hl], fun j u hj => ?_⟩, ⟨_, _, by rw [hl], ?_, fun i hi => ⟨_, _, rfl, ?_⟩⟩⟩, ?_⟩
  · have hjl : j < (bl s).length := by
      have := (List.getElem?_eq_some_iff.1 hj).1
      simpa [u8s] using this
    have e : (⟨w.heap.size, 0, none⟩ : Addr).add j = ⟨w.heap.size, j, none⟩ := by unfold Addr.add; split <;> simp_all
    rw [e, hc j (by omega), ← hj]
    unfold bl at hjl ⊢
    simp [u8s, List.getElem?_eq_getElem hjl]
  · rw [hl]; exact grownCap_ge _ _ _ _
  · rw [Nat.zero_add, hc i (by omega)]
    rfl
  · refine ⟨?_, ?_, ?_, by rw [Lib.bytesWorld_size]; omega, fun k hk _ => Lib.bytesWorld_at_old w _ _ k hk⟩ <;> first | rfl | simp [Lib.bytesWorld, World.freeze]

set_option maxHeartbeats 1000000 in
theorem keep1_dir {S : Type} {At : S → (Nat → Prop) → World → Prop} {R : S → List UInt8 → Int → S → Prop} {s : S} {ks : List (List UInt8)} {M : Nat → Prop} (P D : ByteArray) (vl : Value) (w : World) (pl : Option Addr) (nl cl : Nat) (hv : vl = .slice pl nl cl) (bD : Nat) (q : Value) (p1 p2 p3 : Value) (hD : w.cell? ⟨bD, 0, none⟩ = some (.func (.func 68) #[] #[p1, p2, p3]))
    (hc : ∀ w1, Fr None' w w1 → Calls Tryz.prog 68 #[.string P, p1, p2, p3] w1 (KPost At R s ks M w1)) :
    Calls Tryz.prog 66 #[.agg #[.string P, .int .i64 1, vl, .string D], .pointer (some ⟨bD, 0, none⟩), q] w (KPost At R s ks M w) := by
  subst hv
  obtain ⟨w1, hw1⟩ : ∃ w1, w.alloc (.cells #[.string P, .int .i64 1, .slice pl nl cl, .string D] 38) = w1 := ⟨_, rfl⟩
  have F1 : Fr None' w w1 := hw1 ▸ Fr.alloc None' w _
  obtain ⟨b0, b1, b2, b3⟩ := cell4 w 38 (.string P) (.int .i64 1) (.slice pl nl cl) (.string D)
  rw [hw1] at b0 b1 b2 b3
  replace hD := F1.keepCell hD (fun e => e)
  have cD := hc w1 F1
  have HF : Hid (Fr None' w w1) := F1
  clear hc F1
  go_enter Tryz.func66, Tryz.ntmps66
  go_wp2_with fail
  refine cD.mono ?_
  rintro e w' hK
  have HK : Hid (KPost At R s ks M w e w') := hK.early HF.out
  obtain ⟨er, y, s', M', he, _⟩ := hK
  subst he
  clear cD
  go_wp2_with fail
  go_ret2
  exact HK.out

set_option maxHeartbeats 1000000 in
theorem keep1_data {S : Type} {At : S → (Nat → Prop) → World → Prop} {R : S → List UInt8 → Int → S → Prop} {B g : Nat} {cnt : S → Nat} {Km : Nat} {vs : Array Value} (PF : PutFn At R B cnt Km g vs) {s : S} (hcn : cnt s < Km) {M : Nat → Prop} (P D : ByteArray) (vl : Value) (w : World) (pl : Option Addr) (nl cl : Nat) (hv : vl = .slice pl nl cl) (q : Value) (bP : Nat) (hP : w.cell? ⟨bP, 0, none⟩ = some (.func (.func g) #[] vs)) (hA : At s M w) (hD : D.size + 1 ≤ B) (hB : B ≤ 100000000) :
    Calls Tryz.prog 66 #[.agg #[.string P, .int .i64 3, vl, .string D], q, .pointer (some ⟨bP, 0, none⟩)] w (KPost At R s [98 :: bl D] M w) := by
  subst hv
  obtain ⟨w1, hw1⟩ : ∃ w1, w.alloc (.cells #[.string P, .int .i64 3, .slice pl nl cl, .string D] 38) = w1 := ⟨_, rfl⟩
  have F1 : Fr None' w w1 := hw1 ▸ Fr.alloc None' w _
  obtain ⟨b0, b1, b2, b3⟩ := cell4 w 38 (.string P) (.int .i64 3) (.slice pl nl cl) (.string D)
  rw [hw1] at b0 b1 b2 b3
  replace hP := F1.keepCell hP (fun e => e)
  obtain ⟨T, hT⟩ : ∃ T, (⟨#[98]⟩ : ByteArray) ++ D = T := ⟨_, rfl⟩
  have sT : T.size = 1 + D.size := by rw [← hT, ByteArray.size_append]; rfl
  have bT : bl T = 98 :: bl D := by rw [← hT]; simp [bl, ByteArray.data_append]
  have a1 : ∀ v, (Op.stringOp .add ⟨#[98]⟩ D).run Tryz.prog v = .ok (.string T) v := fun v => by rw [run_string_add_sum _ _ _ (by show 1 + D.size ≤ _; omega), hT]
  obtain ⟨c, w2, hcv, hArg, F2⟩ := conv_arg w1 T
  have cP := PF.call _ _ (PF.fresh hA (F1.then7 F2)) hArg (fun ad n c e _ hm => by
    cases e
    have h1 : w1.heap.size < w.heap.size := PF.lt hA hm
    have h2 := F1.size
    omega) (by rw [bT, List.length_cons]; have : (bl D).length = D.size := Path.len_eq D; omega) hcn
  rw [bT] at cP
  have hE := PF.enters
  have HF : Hid (Fr None' w w2) := F1.then7 F2
  clear hT sT bT hArg F1 F2 hA hD hB PF hcn
  go_enter Tryz.func66, Tryz.ntmps66
  go_wp2_with fail
  refine cP.mono ?_
  rintro e w' ⟨er, y, s', M', he, hy, hR, hA', hf, hM⟩
  subst he
  have HK : Hid (KPost At R s [98 :: bl D] M w (.returned (.tuple #[.string y, .int .i64 er])) w') := KPost.early HF.out ⟨er, y, s', M', rfl, hy, Puts.one hR, hA', hf, hM⟩
  clear cP hy hR hA' hf hM
  go_wp2_with fail
  go_ret2
  exact HK.out

end Go.Proofs.YtdaogldmcbfmoaaGreatDoor

namespace Go.Proofs.YtdaogldmcbfmoaaGreatDoor
open Go.RowKit
set_option maxRecDepth 100000

set_option maxHeartbeats 4000000 in
theorem keep1_text {S : Type} {At : S → (Nat → Prop) → World → Prop} {R : S → List UInt8 → Int → S → Prop} {B g : Nat} {cnt : S → Nat} {Km : Nat} {vs : Array Value} (PF : PutFn At R B cnt Km g vs) {s : S} (hcn : cnt s < Km) {M : Nat → Prop} (P D : ByteArray) (vl : Value) (w : World) (l : List ByteArray) (pl : Option Addr) (nl cl : Nat) (hv : vl = .slice pl nl cl) (hnl : l.length = nl) (hr : Lines.Row w pl l) (hl : l.length < 900000) (q : Value) (bP : Nat) (hP : w.cell? ⟨bP, 0, none⟩ = some (.func (.func g) #[] vs)) (hA : At s M w) (hD : (Lines.join (Lines.bs l)).length + 1 ≤ B) (hB : B ≤ 10000000) :
    Calls Tryz.prog 66 #[.agg #[.string P, .int .i64 2, vl, .string D], q, .pointer (some ⟨bP, 0, none⟩)] w (KPost At R s [116 :: Lines.join (Lines.bs l)] M w) := by
  subst hv
  obtain ⟨w1, hw1⟩ : ∃ w1, w.alloc (.cells #[.string P, .int .i64 2, .slice pl nl cl, .string D] 38) = w1 := ⟨_, rfl⟩
  have F1 : Fr None' w w1 := hw1 ▸ Fr.alloc None' w _
  have Fd : Fr None' w w1.drew := F1.then7 (Fr.drew None' w1)
  obtain ⟨b0, b1, b2, b3⟩ := cell4 w 38 (.string P) (.int .i64 2) (.slice pl nl cl) (.string D)
  rw [hw1] at b0 b1 b2 b3
  replace b2 : w1.drew.cell? ⟨w.heap.size, 2, none⟩ = some (.slice pl nl cl) := b2
  have hPd := Fd.keepCell hP (fun e => e)
  obtain ⟨J, hJ⟩ : ∃ J, (⟨(Lines.join (Lines.bs l)).toArray⟩ : ByteArray) = J := ⟨_, rfl⟩
  have sJ : bl J = Lines.join (Lines.bs l) := by rw [← hJ]; rfl
  have lJ : (bl J).length = J.size := Path.len_eq J
  obtain ⟨T, hT⟩ : ∃ T, (⟨#[116]⟩ : ByteArray) ++ J = T := ⟨_, rfl⟩
  have bT : bl T = 116 :: bl J := by rw [← hT]; simp [bl, ByteArray.data_append]
  have a1 : ∀ v, (Op.stringOp .add ⟨#[116]⟩ J).run Tryz.prog v = .ok (.string T) v := fun v => by rw [run_string_add_sum _ _ _ (by show 1 + J.size ≤ _; rw [← lJ, sJ]; omega), hT]
  have cJ : Calls Tryz.prog 67 #[.slice pl nl cl] w1.drew fun e w' => e = .returned (.string J) ∧ Fr None' w1.drew w' := by
    have h := Lines.join_any pl cl l w1.drew (Lines.Row.fr hr (toLN Fd)) (by omega) (by omega)
    rw [hJ, hnl] at h
    exact h.mono fun _ _ ⟨a, b⟩ => ⟨a, ofLN b⟩
  have HN : Hid (∀ w2, Fr None' w1.drew w2 → ∃ c w3, (convert 9 57 (.string T)).run Tryz.prog w2 = .ok (.slice (some ⟨w2.heap.size, 0, none⟩) T.size c) w3 ∧ w2.cell? ⟨bP, 0, none⟩ = some (.func (.func g) #[] vs) ∧ w3.cell? ⟨bP, 0, none⟩ = some (.func (.func g) #[] vs) ∧
      Calls Tryz.prog g (#[.slice (some ⟨w2.heap.size, 0, none⟩) T.size c] ++ vs) w3 (KPost At R s [116 :: Lines.join (Lines.bs l)] M w)) := fun w2 F2 => by
    obtain ⟨c, w3, hcv, hArg, F3⟩ := conv_arg w2 T
    have F := (Fd.then7 F2).then7 F3
    refine ⟨c, w3, hcv, (Fd.then7 F2).keepCell hP (fun e => e), F.keepCell hP (fun e => e), ?_⟩
    have cP := PF.call _ _ (PF.fresh hA F) hArg (fun ad n c e _ hm => by
      cases e
      have h1 : w2.heap.size < w.heap.size := PF.lt hA hm
      have h2 := (Fd.then7 F2).size
      omega) (by rw [bT, List.length_cons, sJ]; omega) hcn
    rw [bT, sJ] at cP
    refine cP.mono ?_
    rintro e w' ⟨er, y, s', M', he, hy, hR, hA', hf, hM⟩
    exact KPost.early F ⟨er, y, s', M', he, hy, Puts.one hR, hA', hf, hM⟩
  have hE := PF.enters
  clear hT sJ lJ bT F1 hA hD hB PF hP hJ hr hl Fd hcn
  go_enter Tryz.func66, Tryz.ntmps66
  go_wp2_with fail
  go_region_with (first
    | (go_at_call 67; refine cJ.mono ?_; rintro e w2 ⟨rfl, F2⟩; obtain ⟨c, w3, hcv, hP2, hP3, cP⟩ := HN.out w2 F2)
    | (refine cP.mono ?_; rintro e w4 hK; have HK : Hid (KPost At R s [116 :: Lines.join (Lines.bs l)] M w e w4) := hK; obtain ⟨er, y, s', M', he, _⟩ := hK; subst he))
  all_goals go_wp2_with fail
  all_goals go_ret2
  all_goals exact HK.out

end Go.Proofs.YtdaogldmcbfmoaaGreatDoor
