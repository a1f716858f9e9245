/-
  What is proved here: what SetRoot answers, told by plain states. Conditions: as in the texts that this one stands on.
-/
import Derived.Test.YtklefjmihapdpaaInv3
import Derived.Lib.ConvBytes
namespace Go.Proofs.Ytklefjmihapdpaa
open Go.RowKit Go.Maps Go.WideMaps
set_option maxRecDepth 100000

/-- Step j of SetRoot; the disk behind j of them; SetRoot. -/
def St.stepAt (x : List UInt8) (v : Value) (j : Nat) (T : St) : Int × St :=
  match j with
  | 1 => T.write ⟨newK, v, x⟩
  | 3 => T.rename newK rootK
  | _ => T.sync

def St.after (S : St) (x : List UInt8) (v : Value) : Nat → St
  | 0 => S
  | j + 1 => (St.stepAt x v j (St.after S x v j)).2

/-- The call ended with r, and the disk T: behind all five steps, or at the first that answered an error. -/
def Ended (S : St) (x : List UInt8) (v : Value) (r : Int) (T : St) : Prop :=
  ∃ j, j ≤ 5 ∧ (∀ i, i < j → (St.stepAt x v i (St.after S x v i)).1 = 0) ∧ ((j = 5 ∧ r = 0 ∧ T = St.after S x v 5) ∨ (j < 5 ∧ r = (St.stepAt x v j (St.after S x v j)).1 ∧ r ≠ 0 ∧ T = St.after S x v (j + 1)))

theorem Inv.after {k : Nat} {S : St} (h : Inv k S) (x : List UInt8) (v : Value) : ∀ j, Inv (k + j) (St.after S x v j)
  | 0 => h
  | j + 1 => by
    have ih := Inv.after h x v j
    unfold St.after St.stepAt
    split
    · exact ih.write _
    · exact ih.rename _ _
    · exact ih.sync

theorem Stepped.start {w : World} {p : Nat} {M : Nat → Prop} {S : St} (h : Disk w p M S) : Stepped M w p S w := ⟨M, h, Fr.refl _ _, fun _ e => Or.inl e⟩

theorem Stepped.next {M : Nat → Prop} {w w1 w2 : World} {p : Nat} {S2 : St} {M1 : Nat → Prop} (hf : Fr M w w1) (hM : ∀ k, M1 k → M k ∨ w.heap.size ≤ k) (h : Stepped M1 w1 p S2 w2) : Stepped M w p S2 w2 := by
  obtain ⟨M2, h1, h2, h3⟩ := h
  refine ⟨M2, h1, hf.trans h2 hM, fun k hk => ?_⟩
  rcases h3 k hk with e | e
  · exact hM k e
  · exact Or.inr (Nat.le_trans hf.size e)

theorem conv_str (w : World) (l : List UInt8) : ∃ c w', (convert 9 22 (.string ⟨l.toArray⟩)).run Try.prog w = .ok (.slice (some ⟨w.heap.size, 0, none⟩) l.length c) w' ∧ Bytes w' (.slice (some ⟨w.heap.size, 0, none⟩) l.length c) l ∧ Fr None' w w' := by
  refine ⟨grownCap w l.length 0 5, Lib.bytesWorld w 5 ⟨l.toArray⟩, ?_, Or.inr ⟨_, _, rfl, fun j u hj => ?_⟩, ?_⟩
  · have := Lib.run_convert_string_bytes (P := Try.prog) w 9 22 5 ⟨l.toArray⟩ Try.underlying9 Try.underlying22 Try.underlying5
    rw [size_mk] at this
    exact this
  · have hjl : j < l.length := by
      have := (List.getElem?_eq_some_iff.1 hj).1
      simpa [u8s] using this
    have e : (⟨w.heap.size, 0, none⟩ : Addr).add j = ⟨w.heap.size, j, none⟩ := by unfold Addr.add; split <;> simp_all
    rw [e, Lib.bytesWorld_cell w 5 ⟨l.toArray⟩ j (by rw [size_mk]; exact hjl)]
    rw [← hj]
    simp [u8s, List.getElem?_eq_getElem hjl]
  · refine ⟨?_, ?_, ?_, by rw [Lib.bytesWorld_size]; omega, fun k hk _ => Lib.bytesWorld_at_old w _ _ k hk⟩ <;> first | rfl | simp [Lib.bytesWorld, World.freeze]

theorem out_new {w : World} {p : Nat} {M : Nat → Prop} {S : St} (h : Disk w p M S) (n c : Nat) : Out M (.slice (some ⟨w.heap.size, 0, none⟩) n c) := by
  intro ad n' c' e _ hm
  cases e
  have := h.lt hm
  simp at this

set_option maxHeartbeats 2000000 in
theorem sr1_any (p bd bn : Nat) (M : Nat → Prop) (S : St) (x : List UInt8) (w : World) (h : Disk w p M S) (hS : S.fine) (hx : x.length ≤ 100000) (hu : used S.F < 1099511627776) (h1 : w.heap[bd]? = some (.cells #[.pointer (some ⟨p, 0, none⟩)] 26)) (h2 : w.heap[bn]? = some (.cells #[.string ⟨x.toArray⟩] 9)) :
    Calls Try.prog 28 #[.pointer (some ⟨bd, 0, none⟩), .pointer (some ⟨bn, 0, none⟩)] w fun e w' => ∃ v, e = .returned (.int .i64 (S.write ⟨newK, v, x⟩).1) ∧ Stepped M w p (S.write ⟨newK, v, x⟩).2 w' := by
  have c1 : w.cell? ⟨bd, 0, none⟩ = some (.pointer (some ⟨p, 0, none⟩)) := by simp [World.cell?, h1]
  have c2 : w.cell? ⟨bn, 0, none⟩ = some (.string ⟨x.toArray⟩) := by simp [World.cell?, h2]
  obtain ⟨c, w1, hcv, hb, f1⟩ := conv_str w x
  have hW := write_any p M S ⟨newK.toArray⟩ _ x w1 (h.fresh f1) hS (by rw [size_mk]; have := max100; unfold newK; simp; omega) hb (out_new h _ _) hu (by omega)
  rw [toList_mk] at hW
  have HF : Hid (Disk w p M S ∧ Fr None' w w1) := ⟨h, f1⟩
  clear h hS hu h1 h2 hb f1
  go_enter Try.func28, Try.ntmps28
  go_wp2_with fail
  refine hW.mono ?_
  rintro e w2 ⟨v, rfl, hst⟩
  clear hW
  go_wp2
  go_ret
  refine ⟨v, rfl, ?_⟩
  have f1 := HF.out.2
  exact Stepped.next (f1.mono (fun _ e => e.elim)) (fun k hk => Or.inl hk) hst

set_option maxHeartbeats 2000000 in
theorem sr2_any (p bd : Nat) (M : Nat → Prop) (S : St) (w : World) (h : Disk w p M S) (hS : S.fine) (h1 : w.heap[bd]? = some (.cells #[.pointer (some ⟨p, 0, none⟩)] 26)) :
    Calls Try.prog 29 #[.pointer (some ⟨bd, 0, none⟩)] w fun e w' => e = .returned (.int .i64 (S.rename newK rootK).1) ∧ Stepped M w p (S.rename newK rootK).2 w' := by
  have c1 : w.cell? ⟨bd, 0, none⟩ = some (.pointer (some ⟨p, 0, none⟩)) := by simp [World.cell?, h1]
  have hR := rename_any p M S ⟨newK.toArray⟩ ⟨rootK.toArray⟩ w h hS (by rw [size_mk]; have := max100; unfold newK; simp; omega) (by rw [size_mk]; have := max100; unfold rootK; simp; omega)
  rw [toList_mk, toList_mk] at hR
  clear h hS h1
  go_enter Try.func29, Try.ntmps29
  go_wp2_with fail
  refine hR.mono ?_
  rintro e w2 ⟨rfl, hst⟩
  clear hR
  go_wp2
  go_ret
  exact ⟨rfl, hst⟩

/-- The row of SetRoot's steps. -/
def stepsRow (p bd bn : Nat) : Array Value := #[.func (.func 27) #[.pointer (some ⟨p, 0, none⟩)] #[], .func (.func 28) #[] #[.pointer (some ⟨bd, 0, none⟩), .pointer (some ⟨bn, 0, none⟩)], .func (.func 27) #[.pointer (some ⟨p, 0, none⟩)] #[], .func (.func 29) #[] #[.pointer (some ⟨bd, 0, none⟩)], .func (.func 27) #[.pointer (some ⟨p, 0, none⟩)] #[]]

set_option maxHeartbeats 4000000 in
theorem inOrder_any (p bd bn g k : Nat) (M : Nat → Prop) (S : St) (x : List UInt8) (w : World) (h : Disk w p M S) (hi : Inv k S) (hk : k + 5 ≤ 1000) (hx : x.length ≤ 100000)
    (h1 : w.heap[bd]? = some (.cells #[.pointer (some ⟨p, 0, none⟩)] 26)) (h2 : w.heap[bn]? = some (.cells #[.string ⟨x.toArray⟩] 9)) (h3 : w.heap[g]? = some (.cells (stepsRow p bd bn) 75)) (m1 : ¬ M bd) (m2 : ¬ M bn) (m3 : ¬ M g) :
    Calls Try.prog 26 #[.slice (some ⟨g, 0, none⟩) 5 5] w fun e w' => ∃ v r T, e = .returned (.int .i64 r) ∧ Ended S x v r T ∧ Stepped M w p T w' := by
  go_enter Try.func26, Try.ntmps26
  go_wp2_with fail
  go_loopw [8] (fun i wr => ∃ (j : Nat) (v : Value), j ≤ 5 ∧ i = .int .i64 j ∧ Stepped M w p (St.after S x v j) wr ∧ ∀ i, i < j → (St.stepAt x v i (St.after S x v i)).1 = 0) (fun i _ => 5 - (intOf i).toNat)
  case atStart => exact ⟨0, .slice none 0 0, by omega, rfl, Stepped.start h, fun i hi => by omega⟩
  case round =>
    obtain ⟨j, v, hj, rfl, hst, hall⟩ := hrel
    by_cases hlt : j < 5
    · have hinv := hi.after x v j
      obtain ⟨T, hT⟩ : ∃ T, S.after x v j = T := ⟨_, rfl⟩
      rw [hT] at hst hinv
      have hfin := hinv.fine (by omega)
      obtain ⟨M1, hd, hf, hM⟩ := hst
      have b1 := hf.at h1 m1
      have b2 := hf.at h2 m2
      have b3 := hf.at h3 m3
      have hjs : j = 0 ∨ j = 1 ∨ j = 2 ∨ j = 3 ∨ j = 4 := by omega
      clear hj hlt
      rcases hjs with hjj | hjj | hjj | hjj | hjj
      · subst hjj
        have cg : wr.cell? ⟨g, 0, none⟩ = some (.func (.func 27) #[.pointer (some ⟨p, 0, none⟩)] #[]) := by simp [World.cell?, b3, stepsRow]
        have hc := sync_any p M1 T wr hd hfin
        have HK : Hid (S.after x v 0 = T ∧ (∀ i, i < 0 → (St.stepAt x v i (St.after S x v i)).1 = 0) ∧ Fr M w wr ∧ ∀ k, M1 k → M k ∨ w.heap.size ≤ k) := ⟨hT, hall, hf, hM⟩
        clear hT hall hf hM hd hfin hinv b1 b2 b3 h h1 h2 h3 hi
        go_wp2_with fail
        refine hc.mono ?_
        rintro e w2 ⟨rfl, hs2⟩
        clear hc cg
        obtain ⟨c, hcc⟩ : ∃ c, (T.sync).1 = c := ⟨_, rfl⟩
        obtain ⟨hT, hall, hf, hM⟩ := HK.out
        have hs3 := Stepped.next hf hM hs2
        have ha : S.after x v 0 = T := hT
        have hall' := hall
        have hstep : (St.stepAt x v 0 (S.after x v 0)) = T.sync := by rw [ha]; rfl
        have hs4 : Stepped M w p (S.after x v 1) w2 := by
          show Stepped M w p (St.stepAt x v 0 (S.after x v 0)).2 w2
          rw [hstep]; exact hs3
        have hc2 : (St.stepAt x v 0 (S.after x v 0)).1 = c := by rw [hstep]; exact hcc
        have HQ : Hid (Stepped M w p (S.after x v 1) w2 ∧ (∀ i, i < 0 → (St.stepAt x v i (St.after S x v i)).1 = 0) ∧ (St.stepAt x v 0 (S.after x v 0)).1 = c) := ⟨hs4, hall', hc2⟩
        rw [hcc]
        clear hT hall hf hM hs2 hs3 ha hall' hstep hs4 hc2 HK hcc
        by_cases hc0 : c = 0
        · subst hc0
          go_wp2_with fail
          obtain ⟨q1, q2, q3⟩ := HQ.out
          refine ⟨⟨1, v, by omega, by first | rfl | go_num, q1, fun i hi => ?_⟩, by simp [intOf]⟩
          by_cases e : i = 0
          · subst e; exact q3
          · exact q2 i (by omega)
        · go_wp2_with fail
          go_ret
          obtain ⟨q1, q2, q3⟩ := HQ.out
          exact ⟨v, c, _, rfl, ⟨0, by omega, q2, Or.inr ⟨by omega, q3.symm, hc0, rfl⟩⟩, q1⟩
      · subst hjj
        have cg : wr.cell? ⟨g, 1, none⟩ = some (.func (.func 28) #[] #[.pointer (some ⟨bd, 0, none⟩), .pointer (some ⟨bn, 0, none⟩)]) := by simp [World.cell?, b3, stepsRow]
        have hc := sr1_any p bd bn M1 T x wr hd hfin hx (hd.used hinv (by omega)) b1 b2
        have HK : Hid (S.after x v 1 = T ∧ (∀ i, i < 1 → (St.stepAt x v i (St.after S x v i)).1 = 0) ∧ Fr M w wr ∧ ∀ k, M1 k → M k ∨ w.heap.size ≤ k) := ⟨hT, hall, hf, hM⟩
        clear hT hall hf hM hd hfin hinv b1 b2 b3 h h1 h2 h3 hi
        go_wp2_with fail
        refine hc.mono ?_
        rintro e w2 ⟨v', rfl, hs2⟩
        clear hc cg
        obtain ⟨c, hcc⟩ : ∃ c, (T.write ⟨newK, v', x⟩).1 = c := ⟨_, rfl⟩
        obtain ⟨hT, hall, hf, hM⟩ := HK.out
        have hs3 := Stepped.next hf hM hs2
        have ha : S.after x v' 1 = T := hT
        have hall' : ∀ i, i < 1 → (St.stepAt x v' i (S.after x v' i)).1 = 0 := fun i hi => by
          obtain rfl : i = 0 := by omega
          exact hall 0 (by omega)
        have hstep : (St.stepAt x v' 1 (S.after x v' 1)) = T.write ⟨newK, v', x⟩ := by rw [ha]; rfl
        have hs4 : Stepped M w p (S.after x v' 2) w2 := by
          show Stepped M w p (St.stepAt x v' 1 (S.after x v' 1)).2 w2
          rw [hstep]; exact hs3
        have hc2 : (St.stepAt x v' 1 (S.after x v' 1)).1 = c := by rw [hstep]; exact hcc
        have HQ : Hid (Stepped M w p (S.after x v' 2) w2 ∧ (∀ i, i < 1 → (St.stepAt x v' i (St.after S x v' i)).1 = 0) ∧ (St.stepAt x v' 1 (S.after x v' 1)).1 = c) := ⟨hs4, hall', hc2⟩
        rw [hcc]
        clear hT hall hf hM hs2 hs3 ha hall' hstep hs4 hc2 HK hcc
        by_cases hc0 : c = 0
        · subst hc0
          go_wp2_with fail
          obtain ⟨q1, q2, q3⟩ := HQ.out
          refine ⟨⟨2, v', by omega, by first | rfl | go_num, q1, fun i hi => ?_⟩, by simp [intOf]⟩
          by_cases e : i = 1
          · subst e; exact q3
          · exact q2 i (by omega)
        · go_wp2_with fail
          go_ret
          obtain ⟨q1, q2, q3⟩ := HQ.out
          exact ⟨v', c, _, rfl, ⟨1, by omega, q2, Or.inr ⟨by omega, q3.symm, hc0, rfl⟩⟩, q1⟩
      · subst hjj
        have cg : wr.cell? ⟨g, 2, none⟩ = some (.func (.func 27) #[.pointer (some ⟨p, 0, none⟩)] #[]) := by simp [World.cell?, b3, stepsRow]
        have hc := sync_any p M1 T wr hd hfin
        have HK : Hid (S.after x v 2 = T ∧ (∀ i, i < 2 → (St.stepAt x v i (St.after S x v i)).1 = 0) ∧ Fr M w wr ∧ ∀ k, M1 k → M k ∨ w.heap.size ≤ k) := ⟨hT, hall, hf, hM⟩
        clear hT hall hf hM hd hfin hinv b1 b2 b3 h h1 h2 h3 hi
        go_wp2_with fail
        refine hc.mono ?_
        rintro e w2 ⟨rfl, hs2⟩
        clear hc cg
        obtain ⟨c, hcc⟩ : ∃ c, (T.sync).1 = c := ⟨_, rfl⟩
        obtain ⟨hT, hall, hf, hM⟩ := HK.out
        have hs3 := Stepped.next hf hM hs2
        have ha : S.after x v 2 = T := hT
        have hall' := hall
        have hstep : (St.stepAt x v 2 (S.after x v 2)) = T.sync := by rw [ha]; rfl
        have hs4 : Stepped M w p (S.after x v 3) w2 := by
          show Stepped M w p (St.stepAt x v 2 (S.after x v 2)).2 w2
          rw [hstep]; exact hs3
        have hc2 : (St.stepAt x v 2 (S.after x v 2)).1 = c := by rw [hstep]; exact hcc
        have HQ : Hid (Stepped M w p (S.after x v 3) w2 ∧ (∀ i, i < 2 → (St.stepAt x v i (St.after S x v i)).1 = 0) ∧ (St.stepAt x v 2 (S.after x v 2)).1 = c) := ⟨hs4, hall', hc2⟩
        rw [hcc]
        clear hT hall hf hM hs2 hs3 ha hall' hstep hs4 hc2 HK hcc
        by_cases hc0 : c = 0
        · subst hc0
          go_wp2_with fail
          obtain ⟨q1, q2, q3⟩ := HQ.out
          refine ⟨⟨3, v, by omega, by first | rfl | go_num, q1, fun i hi => ?_⟩, by simp [intOf]⟩
          by_cases e : i = 2
          · subst e; exact q3
          · exact q2 i (by omega)
        · go_wp2_with fail
          go_ret
          obtain ⟨q1, q2, q3⟩ := HQ.out
          exact ⟨v, c, _, rfl, ⟨2, by omega, q2, Or.inr ⟨by omega, q3.symm, hc0, rfl⟩⟩, q1⟩
      · subst hjj
        have cg : wr.cell? ⟨g, 3, none⟩ = some (.func (.func 29) #[] #[.pointer (some ⟨bd, 0, none⟩)]) := by simp [World.cell?, b3, stepsRow]
        have hc := sr2_any p bd M1 T wr hd hfin b1
        have HK : Hid (S.after x v 3 = T ∧ (∀ i, i < 3 → (St.stepAt x v i (St.after S x v i)).1 = 0) ∧ Fr M w wr ∧ ∀ k, M1 k → M k ∨ w.heap.size ≤ k) := ⟨hT, hall, hf, hM⟩
        clear hT hall hf hM hd hfin hinv b1 b2 b3 h h1 h2 h3 hi
        go_wp2_with fail
        refine hc.mono ?_
        rintro e w2 ⟨rfl, hs2⟩
        clear hc cg
        obtain ⟨c, hcc⟩ : ∃ c, (T.rename newK rootK).1 = c := ⟨_, rfl⟩
        obtain ⟨hT, hall, hf, hM⟩ := HK.out
        have hs3 := Stepped.next hf hM hs2
        have ha : S.after x v 3 = T := hT
        have hall' := hall
        have hstep : (St.stepAt x v 3 (S.after x v 3)) = T.rename newK rootK := by rw [ha]; rfl
        have hs4 : Stepped M w p (S.after x v 4) w2 := by
          show Stepped M w p (St.stepAt x v 3 (S.after x v 3)).2 w2
          rw [hstep]; exact hs3
        have hc2 : (St.stepAt x v 3 (S.after x v 3)).1 = c := by rw [hstep]; exact hcc
        have HQ : Hid (Stepped M w p (S.after x v 4) w2 ∧ (∀ i, i < 3 → (St.stepAt x v i (St.after S x v i)).1 = 0) ∧ (St.stepAt x v 3 (S.after x v 3)).1 = c) := ⟨hs4, hall', hc2⟩
        rw [hcc]
        clear hT hall hf hM hs2 hs3 ha hall' hstep hs4 hc2 HK hcc
        by_cases hc0 : c = 0
        · subst hc0
          go_wp2_with fail
          obtain ⟨q1, q2, q3⟩ := HQ.out
          refine ⟨⟨4, v, by omega, by first | rfl | go_num, q1, fun i hi => ?_⟩, by simp [intOf]⟩
          by_cases e : i = 3
          · subst e; exact q3
          · exact q2 i (by omega)
        · go_wp2_with fail
          go_ret
          obtain ⟨q1, q2, q3⟩ := HQ.out
          exact ⟨v, c, _, rfl, ⟨3, by omega, q2, Or.inr ⟨by omega, q3.symm, hc0, rfl⟩⟩, q1⟩
      · subst hjj
        have cg : wr.cell? ⟨g, 4, none⟩ = some (.func (.func 27) #[.pointer (some ⟨p, 0, none⟩)] #[]) := by simp [World.cell?, b3, stepsRow]
        have hc := sync_any p M1 T wr hd hfin
        have HK : Hid (S.after x v 4 = T ∧ (∀ i, i < 4 → (St.stepAt x v i (St.after S x v i)).1 = 0) ∧ Fr M w wr ∧ ∀ k, M1 k → M k ∨ w.heap.size ≤ k) := ⟨hT, hall, hf, hM⟩
        clear hT hall hf hM hd hfin hinv b1 b2 b3 h h1 h2 h3 hi
        go_wp2_with fail
        refine hc.mono ?_
        rintro e w2 ⟨rfl, hs2⟩
        clear hc cg
        obtain ⟨c, hcc⟩ : ∃ c, (T.sync).1 = c := ⟨_, rfl⟩
        obtain ⟨hT, hall, hf, hM⟩ := HK.out
        have hs3 := Stepped.next hf hM hs2
        have ha : S.after x v 4 = T := hT
        have hall' := hall
        have hstep : (St.stepAt x v 4 (S.after x v 4)) = T.sync := by rw [ha]; rfl
        have hs4 : Stepped M w p (S.after x v 5) w2 := by
          show Stepped M w p (St.stepAt x v 4 (S.after x v 4)).2 w2
          rw [hstep]; exact hs3
        have hc2 : (St.stepAt x v 4 (S.after x v 4)).1 = c := by rw [hstep]; exact hcc
        have HQ : Hid (Stepped M w p (S.after x v 5) w2 ∧ (∀ i, i < 4 → (St.stepAt x v i (St.after S x v i)).1 = 0) ∧ (St.stepAt x v 4 (S.after x v 4)).1 = c) := ⟨hs4, hall', hc2⟩
        rw [hcc]
        clear hT hall hf hM hs2 hs3 ha hall' hstep hs4 hc2 HK hcc
        by_cases hc0 : c = 0
        · subst hc0
          go_wp2_with fail
          obtain ⟨q1, q2, q3⟩ := HQ.out
          refine ⟨⟨5, v, by omega, by first | rfl | go_num, q1, fun i hi => ?_⟩, by simp [intOf]⟩
          by_cases e : i = 4
          · subst e; exact q3
          · exact q2 i (by omega)
        · go_wp2_with fail
          go_ret
          obtain ⟨q1, q2, q3⟩ := HQ.out
          exact ⟨v, c, _, rfl, ⟨4, by omega, q2, Or.inr ⟨by omega, q3.symm, hc0, rfl⟩⟩, q1⟩
    · have hj5 : j = 5 := by omega
      subst hj5
      go_wp2
      go_ret
      exact ⟨v, 0, _, rfl, ⟨5, by omega, hall, Or.inl ⟨rfl, rfl, rfl⟩⟩, hst⟩
end Go.Proofs.Ytklefjmihapdpaa
