/-
  What is proved here: what slices.Chunk gives, one by one, and slices.Collect of it. Conditions: the row lies in memory, and has from 1 to 900 numbers; the size is from 1 to 100.
-/
import Derived.Test.YtoophkpmbinmlaaBelow
namespace Go.Proofs.Ytoophkpmbinmlaa
open Go.RowKit Go.Shelf
set_option maxRecDepth 100000
attribute [local go_sem] Oper.semAt_some

/-- How long the k-th piece is, and the piece itself. -/
def chLen (N sz k : Nat) : Nat := min sz (N - k * sz)
def chV (g o N sz k : Nat) : Value := .slice (some ⟨g, o + k * sz, none⟩) (chLen N sz k) (chLen N sz k)
def chs (g o N sz t : Nat) : List Value := (List.range t).map (chV g o N sz)

theorem chs_succ (g o N sz t : Nat) : chs g o N sz (t + 1) = chs g o N sz t ++ [chV g o N sz t] := by simp [chs, List.range_succ]
theorem chs_length (g o N sz t : Nat) : (chs g o N sz t).length = t := by simp [chs]

theorem chs_snoc {g o N sz : Nat} {pre : List Value} {x : Value} {t : Nat} (h : pre ++ [x] = chs g o N sz t) : ∃ k, t = k + 1 ∧ pre = chs g o N sz k ∧ x = chV g o N sz k := by
  have hl := congrArg List.length h
  rw [chs_length, List.length_append] at hl
  cases t with
  | zero => simp at hl
  | succ k =>
    rw [chs_succ] at h
    obtain ⟨h1, h2⟩ := List.append_inj' h rfl
    exact ⟨k, rfl, h1, by simpa using h2⟩

/-- The blocks that Chunk reads. -/
def ChR (b1 b2 : Nat) : Nat → Prop := fun k => k = b1 ∨ k = b2

set_option maxHeartbeats 1000000 in
theorem chunk_any (va : Option Addr) (n c sz : Nat) (hsz : 1 ≤ sz) (w : World) : Calls Try.prog 34 #[.slice va n c, .int .i64 sz] w fun e w' => e = .returned (.func (.func 40) #[] #[.pointer (some ⟨w.heap.size, 0, none⟩), .pointer (some ⟨w.heap.size + 1, 0, none⟩)]) ∧ w' = (w.alloc (.cells #[.slice va n c] 37)).alloc (.cells #[.int .i64 sz] 3) := by
  have i1 : (1 : Int) ≤ (sz : Int) := by omega
  go_enter Try.func34, Try.ntmps34
  go_wp2_with fail
  go_ret
  exact ⟨rfl, rfl⟩

set_option maxHeartbeats 2000000 in
theorem chunk_seq (b1 b2 g o c N sz n : Nat) (hN : N ≤ 900) (hc : N ≤ c) (h1 : 1 ≤ sz) (hsz : sz ≤ 100) : SeqM (α := Value) Fence.wide n Try.prog 40 #[.pointer (some ⟨b1, 0, none⟩), .pointer (some ⟨b2, 0, none⟩)] (fun x => #[x]) None' (KeepB (ChR b1 b2))
    (fun xs => ∃ nb, xs = chs g o N sz nb ∧ N ≤ nb * sz ∧ ∀ k, k < nb → k * sz < N) (fun pre => ∃ t, pre = chs g o N sz t ∧ ∀ k, k < t → k * sz < N) (fun W => W.cell? ⟨b1, 0, none⟩ = some (.slice (some ⟨g, o, none⟩) N c) ∧ W.cell? ⟨b2, 0, none⟩ = some (.int .i64 sz)) := fun l J Jx W hB hJ hJx hY h0 => by
  obtain ⟨hb1, hb2⟩ := hB
  have i1 : (N : Int) ≤ 900 := by omega
  have i2 : (sz : Int) ≤ 100 := by omega
  have i3 : (1 : Int) ≤ (sz : Int) := by omega
  have i4 : (N : Int) ≤ (c : Int) := by omega
  refine callsIn_of_wp Try.func40 rfl trivial ?_ rfl
  simp only [Try.ntmps40, List.size_toArray, List.length_cons, List.length_nil, Nat.reduceAdd, Nat.reduceSub, Array.replicate_succ, Array.replicate_zero, List.push_toArray, List.append_toArray, List.nil_append, List.cons_append]
  gi_wp2
  gi_loopw [4] (fun v wr => ∃ t i : Nat, v = .int .i64 i ∧ i = t * sz ∧ i ≤ 1000 ∧ (∀ k, k < t → k * sz < N) ∧ Hid (J (chs g o N sz t) wr) ∧ wr.cell? ⟨b1, 0, none⟩ = some (.slice (some ⟨g, o, none⟩) N c) ∧ wr.cell? ⟨b2, 0, none⟩ = some (.int .i64 sz)) (fun v _ => 1100 - (intOf v).toNat)
  case atStart => exact ⟨0, 0, rfl, by simp, by omega, fun k hk => by omega, h0, hb1, hb2⟩
  case round =>
    clear hb1 hb2 h0
    obtain ⟨t, i, rfl, hi, hi9, hk, HJ, hb1, hb2⟩ := hrel
    by_cases hlt : i < N
    · obtain ⟨e, he⟩ : ∃ e, chLen N sz t = e := ⟨_, rfl⟩
      have he2 : e = min sz (N - i) := by rw [← he, chLen, hi]
      have em : min (sz : Int) ((N : Int) - (i : Int)) = (e : Int) := by omega
      have j0 : (0 : Int) ≤ (i : Int) := by omega
      have j1 : (i : Int) ≤ (N : Int) := by omega
      have j2 : (i : Int) < (N : Int) := by omega
      have HI : Hid (i = t * sz ∧ e = min sz (N - i) ∧ chLen N sz t = e) := ⟨hi, he2, he⟩
      have HK : Hid (∀ k, k < t → k * sz < N) := hk
      have j3 : (i : Int) + (e : Int) ≤ (N : Int) := by omega
      have j4 : (0 : Int) ≤ (e : Int) := by omega
      clear he he2 hi hk
      gi_wp2_with fail
      refine wpIn_wide.2 ?_
      go_quiet (fail)
      rw [show (if N - i < sz then ((N - i : Nat) : Int) else (sz : Int)) = (e : Int) by split <;> omega]
      have hx : chV g o N sz t = .slice (some ⟨g, o + i, none⟩) e e := by rw [chV, HI.out.2.2, ← HI.out.1]
      have hup : chs g o N sz t ++ [.slice (some ⟨g, o + i, none⟩) e e] = chs g o N sz (t + 1) := by rw [chs_succ, hx]
      have HT : Hid (∀ k, k < t + 1 → k * sz < N) := fun k hk => by
        by_cases ek : k = t
        · rw [ek, ← HI.out.1]; exact hlt
        · exact HK.out k (by omega)
      obtain ⟨fn, tmps, assign, body, hy, hR⟩ := hY (chs g o N sz t) (.slice (some ⟨g, o + i, none⟩) e e) (wr.drewN nq) (hJ _ _ _ HJ.out (Fr.drewN _ _ _)) ⟨t + 1, hup, HT.out⟩
      have HU : Hid (chs g o N sz t ++ [.slice (some ⟨g, o + i, none⟩) e e] = chs g o N sz (t + 1)) := hup
      have c1 : (wr.drewN nq).cell? ⟨b1, 0, none⟩ = some (.slice (some ⟨g, o, none⟩) N c) := hb1
      have c2 : (wr.drewN nq).cell? ⟨b2, 0, none⟩ = some (.int .i64 sz) := hb2
      have HE : Hid (t * sz + sz = (t + 1) * sz) := by show _ = _; rw [Nat.succ_mul]
      clear hx hup HJ hY
      gi_wp2_with fail
      refine ⟨(fun h => by cases h), hR.mono ?_⟩
      clear hy hR
      rintro er W' (⟨rfl, hJ', hK⟩ | ⟨rfl, hJx'⟩)
      · rw [HU.out] at hJ'
        have HJ' : Hid (J (chs g o N sz (t + 1)) W') := hJ'
        have d1 := hK.cell c1 (Or.inl rfl)
        have d2 := hK.cell c2 (Or.inr rfl)
        clear hJ' hK c1 c2 hb1 hb2
        gi_wp2_with fail
        go_roundw
        case rel => exact ⟨t + 1, i + sz, by go_num, by rw [← HE.out, HI.out.1], by omega, HT.out, HJ'.out, d1, d2⟩
        case measure => simp [intOf]; omega
      · gi_wp2_with fail
        refine bodyPost_ret (results_none rfl _ _ _) rfl ?_
        rw [HU.out] at hJx'
        exact ⟨⟨_, rfl⟩, .inr ⟨_, ⟨t + 1, rfl, HT.out⟩, hJx'⟩⟩
    · have HS : Hid (N ≤ t * sz) := by show _ ≤ _; omega
      gi_wp2_with fail
      go_end0
      exact ⟨⟨_, rfl⟩, .inl ⟨_, ⟨t, rfl, HS.out, hk⟩, HJ.out⟩⟩

theorem append_oneIn {F : Fence} {nn : Nat} {e t : TypeId} {bytes : Nat} (h1 : One e t bytes) {ops : Array Oper} {rest : List Oper} {o : Oper} {a : Act} {w : World} {Q : Exit → Act → World → Prop} (hgd : o.guard = none) (s x : Operand)
    (ho : o.op = .call { callee := .builtin .append, args := #[s, x], argTypes := #[t, t] })
    {base : Nat} {v : Value} {vs : List Value} (hs : a.eval s = v) (hown : OwnV base w e v vs) {va : Option Addr} {c k : Nat} {m : List Value} (hx : a.eval x = .slice va k c) (hk : m.length = k) (hl : RowV w va m) (hn : va = none → c = 0) (hm : ∀ u ∈ m, u.oneCell' = true) (hbig : vs.length + m.length ≤ 1000000) (hb : base ≤ w.heap.size)
    (h : ∀ v' w', OwnV base w' e v' (vs ++ m) → Fr (Own1 v) w w' → (v'.ownBlock = v.ownBlock ∨ v'.ownBlock = some w.heap.size) → wpListIn F nn Try.prog ops Q rest (a.put o.dst v') w') : wpListIn F nn Try.prog ops Q (o :: rest) a w := by
  refine wpListIn_plain hgd fun K hK => ?_
  obtain ⟨v', w', hr, h2, h3, h4⟩ := append_run h1 o.type hown hk hl hn hm hbig hb
  unfold Oper.wpIn
  refine ⟨?_, ?_⟩
  · simp [Oper.about, ho, resolve, Target.leads, Sem.run_pure]
  · rw [Oper.semAt_plain F _ _ (by rw [ho]; intro c hc'; cases hc')]
    simp [execOp, ho, resolve, invoke, builtin, hs, hx, hr, Result.andThen]
    exact hK _ _ (h v' w' h2 h3 h4)

/-- What has been collected. -/
structure CollAt (w : World) (b : Nat) (pre : List Value) (W : World) : Prop where
  fr : Fr None' w W
  box : ∃ v, W.cell? ⟨b, 0, none⟩ = some v ∧ W.frozen? ⟨b, 0, none⟩ = false ∧ OwnV (b + 1) W 37 v pre
  low : w.heap.size ≤ b
  room : b < W.heap.size

theorem CollAt.keep {w : World} {b : Nat} {pre : List Value} {A C : World} (h : CollAt w b pre A) {Y : Nat → Prop} (f : Fr Y A C) (hY : ∀ k, Y k → w.heap.size ≤ k ∧ NoCells A k) : CollAt w b pre C := by
  obtain ⟨v, hc, hz, hv⟩ := h.box
  have nb : ¬ Y b := fun e => by
    have hc' := hc
    unfold World.cell? at hc'
    split at hc'
    · exact (hY b e).2 _ _ _ (by assumption)
    · cases hc'
  exact ⟨h.fr.trans f (fun i e => Or.inr (hY i e).1), ⟨v, f.cell hc nb, (frozen_kept' (f.block b h.room nb)).trans hz, hv.fr f (fun k hk e => by
    obtain ⟨c, t, fz, e2⟩ := own_cells hv hk
    exact (hY k e).2 _ _ _ e2)⟩, h.low, Nat.lt_of_lt_of_le h.room f.size⟩

theorem CollAt.more {w : World} {b : Nat} {pre : List Value} {x v v1 : Value} {W W1 W2 : World} (h : CollAt w b pre W) (f1 : Fr None' W W1) (hc : W.cell? ⟨b, 0, none⟩ = some v) (hv : OwnV (b + 1) W 37 v pre) (own : OwnV (b + 1) W2 37 v1 (pre ++ [x])) (f2 : Fr (Own1 v) W1 W2) :
    CollAt w b (pre ++ [x]) (W2.setCell ⟨b, 0, none⟩ v1) ∧ Fr (fun k => k = b ∨ Own1 v k) W (W2.setCell ⟨b, 0, none⟩ v1) ∧ W2.cell? ⟨b, 0, none⟩ = some v ∧ W2.frozen? ⟨b, 0, none⟩ = false := by
  obtain ⟨_, hc0, hz, _⟩ := h.box
  have nb : ¬ Own1 v b := fun e => by have := (hv.lt e).1; omega
  have f12 : Fr (Own1 v) W W2 := (f1.mono (fun _ e => e.elim)).then f2
  have c2 := f12.cell hc nb
  have z2 : W2.frozen? ⟨b, 0, none⟩ = false := (frozen_kept' (f12.block b h.room nb)).trans hz
  have f3 : Fr (fun k => k = b) W2 (W2.setCell ⟨b, 0, none⟩ v1) := Fr.setCell (M := fun k => k = b) W2 (a := ⟨b, 0, none⟩) rfl _
  have fA : Fr (fun k => k = b ∨ Own1 v k) W (W2.setCell ⟨b, 0, none⟩ v1) := (f12.mono (fun _ e => Or.inr e)).then (f3.mono (fun _ e => Or.inl e))
  have hlow := h.low
  refine ⟨⟨h.fr.trans fA (fun i e => Or.inr ?_), ⟨v1, World.cell?_setCell_same' _ _ _ (by rw [c2]; rfl), by rw [World.frozen?_setCell]; exact z2, own.fr f3 (fun k hk e => by have := (own.lt hk).1; omega)⟩, hlow, Nat.lt_of_lt_of_le h.room fA.size⟩, fA, c2, z2⟩
  rcases e with e | e
  · omega
  · have := (hv.lt e).1; omega

set_option maxHeartbeats 4000000 in
theorem collect_any (g o c N sz : Nat) (w : World) (hN : N ≤ 900) (hc : N ≤ c) (h1 : 1 ≤ sz) (hsz : sz ≤ 100) (b1 b2 : Nat) (hb1 : w.cell? ⟨b1, 0, none⟩ = some (.slice (some ⟨g, o, none⟩) N c)) (hb2 : w.cell? ⟨b2, 0, none⟩ = some (.int .i64 sz)) :
    Calls Try.prog 39 #[.slice none 0 0, .func (.func 40) #[] #[.pointer (some ⟨b1, 0, none⟩), .pointer (some ⟨b2, 0, none⟩)]] w fun e w' => ∃ v nb, e = .returned v ∧ OwnV w.heap.size w' 37 v (chs g o N sz nb) ∧ N ≤ nb * sz ∧ (∀ k, k < nb → k * sz < N) ∧ Fr None' w w' := by
  have hbl1 := cell_lt hb1
  have hbl2 := cell_lt hb2
  obtain ⟨w1, hw1⟩ : ∃ w1, w.alloc (.cells #[.slice none 0 0] 35) = w1 := ⟨_, rfl⟩
  have F1 : Fr None' w w1 := hw1 ▸ Fr.alloc None' w _
  have hs1 : w1.heap.size = w.heap.size + 1 := by rw [← hw1]; simp
  have A1 : CollAt w w.heap.size [] w1 := ⟨F1, ⟨.slice none 0 0, hw1 ▸ cell_new1 w 35 _, by rw [← hw1]; simp, OwnV.nil _ _ _⟩, Nat.le_refl _, by omega⟩
  have HA1 : Hid (CollAt w w.heap.size [] w1) := A1
  have d1 := F1.cell hb1 (fun e => e)
  have d2 := F1.cell hb2 (fun e => e)
  clear A1 hb1 hb2
  refine (callsIn_wide (n := 6)).1 ?_
  refine callsIn_of_wp_marks Try.func39 rfl trivial ?_ rfl
  simp only [Try.ntmps39, List.size_toArray, List.length_cons, List.length_nil, Nat.reduceAdd, Nat.reduceSub, Array.replicate_succ, Array.replicate_zero, List.push_toArray, List.append_toArray, List.nil_append, List.cons_append]
  gi_wp2_with fail
  refine range_own (α := Value) rfl (by omega) (gf := 40) (lb := #[.pointer (some ⟨b1, 0, none⟩), .pointer (some ⟨b2, 0, none⟩)]) rfl trivial (enters_of Try.func40 (by kernel_rfl) rfl) (chunk_seq b1 b2 g o c N sz _ hN hc h1 hsz)
    (fun k hk => hk.elim) (fun W hb => ⟨(Grew.of hb).cell d1 (fun e => e), (Grew.of hb).cell d2 (fun e => e)⟩) KeepB.trans (fun W l o' hl => KeepB.put W (fun k hkb e => by rcases hkb with e2 | e2 <;> omega) o') (fun _ => rfl)
    (CollAt w w.heap.size) (fun _ _ _ => False)
    (fun pre A C hs f => hs.keep f (fun k e => by
      rcases e with e | ⟨e1, e2⟩
      · exact e.elim
      · exact ⟨by omega, e2⟩)) (fun _ _ _ _ h _ => h) HA1.out
    (fun x => { tmps := #[.slice none 0 0, .func (.func 40) #[] #[.pointer (some ⟨b1, 0, none⟩), .pointer (some ⟨b2, 0, none⟩)], .pointer (some ⟨w.heap.size, 0, none⟩), undef, .slice none 0 0, x, .func (.func 40) #[] #[.pointer (some ⟨b1, 0, none⟩), .pointer (some ⟨b2, 0, none⟩)], x, undef, undef, undef, undef, undef], defers := [] }) ?assign ?body ?done ?stop
  case assign =>
    intro l x W K hK
    gi_wp2
    exact hK
  case body =>
    clear HA1 d1 d2
    rintro l pre x W hA ⟨t, hpre, ht⟩ hl _
    obtain ⟨k, rfl, rfl, rfl⟩ := chs_snoc hpre
    obtain ⟨v, hcv, hz, hv⟩ := hA.box
    obtain ⟨va, cv, hva, _, _, _, _⟩ := hv.slice
    have hk1 := ht k (by omega)
    have hk9 : k ≤ 900 := by
      have : k * 1 ≤ k * sz := Nat.mul_le_mul_left k h1
      omega
    have HA : Hid (CollAt w w.heap.size (chs g o N sz k) W) := hA
    have HV : Hid (OwnV (w.heap.size + 1) W 37 v (chs g o N sz k)) := hv
    have hroom := hA.room
    have hcv2 := hcv
    rw [hva] at hcv
    have hwl : (chs g o N sz k).length ≤ 900 := by rw [chs_length]; exact hk9
    have HX : Hid (chV g o N sz k = .slice (some ⟨g, o + k * sz, none⟩) (chLen N sz k) (chLen N sz k)) := rfl
    have HP : Hid (chs g o N sz k ++ [chV g o N sz k] = chs g o N sz (k + 1)) := (chs_succ g o N sz k).symm
    clear hA hv hpre ht
    rw [HX.out]
    rw [hva] at HV hcv2
    gi_wp2_with (gi_at_builtin
                 refine append_oneIn oneIS rfl _ _ rfl rfl (HV.out.kept (Fr.alloc None' W _)) (m := [.slice (some ⟨g, o + k * sz, none⟩) (chLen N sz k) (chLen N sz k)]) rfl rfl (one_row W 37 _) (fun e => by cases e) (fun u hu => by simp at hu; subst hu; rfl) (by simp; omega) (by simp; omega) ?_
                 intro v1 W2 own1 f1 _
                 obtain ⟨A2, F2, c2, z2⟩ := HA.out.more (Fr.alloc None' W _) hcv2 HV.out own1 f1
                 obtain ⟨va1, cv1, hva1, _, _, _, _⟩ := own1.slice
                 obtain ⟨L1, hL1⟩ : ∃ n, (chs g o N sz k ++ [Value.slice (some ⟨g, o + k * sz, none⟩) (chLen N sz k) (chLen N sz k)]).length = n := ⟨_, rfl⟩
                 rw [hL1] at hva1
                 clear hL1
                 subst hva1)
    refine ⟨keeps_of_fr F2 (fun k' e => ?_), KeepB.of F2 (fun k' hkb e => ?_), ?_⟩
    · rcases e with e | e
      · have := hcv2
        unfold World.cell? at this
        split at this
        · exact ⟨_, _, _, by rw [e]; assumption⟩
        · cases this
      · exact own_cells HV.out e
    · rcases e with e | e
      · rcases hkb with e2 | e2 <;> omega
      · have := (HV.out.lt e).1
        rcases hkb with e2 | e2 <;> omega
    · exact A2
  case done =>
    rintro D xs W ⟨nb, rfl, hnb, hk⟩ hA hK hD
    clear HA1 d1 d2
    have A2 := hA.keep (Fr.putObj (M := fun k => k = D) W rfl (.deferred none)) (fun k e => ⟨by omega, fun c t f e2 => by rw [e, hK] at e2; cases e2⟩)
    obtain ⟨v, hc, hz, hv⟩ := hA.box
    obtain ⟨v2, hc2, hz2, hv2⟩ := A2.box
    have e2 : v2 = v := by
      have h3 : (W.putObj D (.deferred none)).cell? ⟨w.heap.size, 0, none⟩ = some v := (Fr.putObj (M := fun k => k = D) W rfl (.deferred none)).cell hc (fun e => by have e' : w.heap.size = D := e; omega)
      rw [hc2] at h3
      exact Option.some.inj h3
    subst e2
    have HO : Hid (OwnV w.heap.size (W.putObj D (.deferred none)) 37 v2 (chs g o N sz nb)) := own_mono hv2 (by omega)
    have HF : Hid (Fr None' w (W.putObj D (.deferred none))) := A2.fr
    obtain ⟨va, cv, hva, _, _, _, _⟩ := hv.slice
    subst hva
    clear hv hv2 hc2 hz2 A2 hA
    gi_wp2
    refine ⟨by simp, .inl ⟨_, _, rfl, run_takeDeferred hK, ?_⟩⟩
    refine ⟨_, results_tmp rfl _ _ _, ?_⟩
    exact ⟨_, nb, rfl, HO.out, hnb, hk, HF.out⟩
  case stop =>
    rintro D c pre W _ h _ _
    exact h.elim

set_option maxHeartbeats 1000000 in
theorem collectV_any (g o c N sz : Nat) (w : World) (hN : N ≤ 900) (hc : N ≤ c) (h1 : 1 ≤ sz) (hsz : sz ≤ 100) (b1 b2 : Nat) (hb1 : w.cell? ⟨b1, 0, none⟩ = some (.slice (some ⟨g, o, none⟩) N c)) (hb2 : w.cell? ⟨b2, 0, none⟩ = some (.int .i64 sz)) :
    Calls Try.prog 33 #[.func (.func 40) #[] #[.pointer (some ⟨b1, 0, none⟩), .pointer (some ⟨b2, 0, none⟩)]] w fun e w' => ∃ v nb, e = .returned v ∧ OwnV w.heap.size w' 37 v (chs g o N sz nb) ∧ N ≤ nb * sz ∧ (∀ k, k < nb → k * sz < N) ∧ Fr None' w w' := by
  have cA := collect_any g o c N sz w hN hc h1 hsz b1 b2 hb1 hb2
  clear hb1 hb2
  go_enter Try.func33, Try.ntmps33
  go_wp2_with fail
  refine cA.mono ?_
  rintro e w1 ⟨v, nb, rfl, h2, h3, h4, h5⟩
  obtain ⟨va, cv, hva, _, _, _, _⟩ := h2.slice
  have HO : Hid (OwnV w.heap.size w1 37 v (chs g o N sz nb)) := h2
  obtain ⟨L1, hL1⟩ : ∃ n, (chs g o N sz nb).length = n := ⟨_, rfl⟩
  rw [hL1] at hva
  subst hva
  clear h2 hL1
  go_wp2_with fail
  go_ret
  exact ⟨_, nb, rfl, HO.out, h3, h4, h5⟩

end Go.Proofs.Ytoophkpmbinmlaa
