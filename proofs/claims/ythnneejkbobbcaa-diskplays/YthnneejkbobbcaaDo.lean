/-
  What is proved here: what a change does to the files, and what do leaves. Condition: the disk lies in memory, its counts are small, and its maps have room.
-/
import Derived.Test.YthnneejkbobbcaaSettle
namespace Go.Proofs.Ythnneejkbobbcaa
open Go.RowKit Go.Maps Go.WideMaps
set_option maxRecDepth 100000

theorem heldR_data {w : World} {v : Value} {b : List UInt8} (h : Data w v b) : heldR v = some (.held v, []) := by
  rcases h.2 with ⟨hv, _⟩ | ⟨g, cap, cur, hv, _⟩ <;> rw [hv] <;> rfl

theorem named_cell {w : World} {b : Nat} {k : List UInt8} (h : Named w b k) : ∃ s : ByteArray, w.cell? ⟨b, 0, none⟩ = some (.string s) ∧ keyOf Try.prog 9 (.string s) = some (.string k) := by
  obtain ⟨s, h1, h2, h3⟩ := h
  exact ⟨s, by simp [World.cell?, h1], by rw [← h2]; exact keyOf_string_mk Try.underlying9 h3⟩

theorem turned_cell {w w' : World} {b : Nat} {a : Addr} {u : Value} (ht : w.mapTurned w' b) (h : w.cell? a = some u) : w'.cell? a = some u := by
  have hg := ht.grown
  obtain ⟨es, clock, _, _, hb, _⟩ := ht
  have hk : ∃ o, w.heap[a.block]? = some o ∧ ∀ es c, o ≠ .map es c := by
    unfold World.cell? at h
    split at h
    · rename_i hk; exact ⟨_, hk, by simp⟩
    · cases h
  obtain ⟨o, hk, hne⟩ := hk
  rw [World.cell?_of_block (w := w) (hg.block a.block (lt_of_some hk) (fun e => by
    have e' : a.block = b := by simpa using e
    rw [e', hb] at hk
    cases hk
    exact hne _ _ rfl))]
  exact h

/-- A write, done once more on the map bm. -/
theorem w1_any (bm n b1 b2 : Nat) (t : Tri) (T : List Tri) (w : World) (h1 : w.heap[b1]? = some (.cells #[t.v] 33)) (h2 : Named w b2 t.k) (h3 : Data w t.v t.b) (hm : w.ownsMap Try.prog 9 heldR bm n (toD T)) (hn : n < maxLen) :
    Calls Try.prog 46 #[.map (some bm), .pointer (some ⟨b1, 0, none⟩), .pointer (some ⟨b2, 0, none⟩)] w fun e w' => e = .returned (.tuple #[]) ∧ w'.ownsMap Try.prog 9 heldR bm (n + 1) (toD (put T t)) ∧ w.mapTurned w' bm := by
  obtain ⟨s, c2, hkey⟩ := named_cell h2
  have c1 : w.cell? ⟨b1, 0, none⟩ = some t.v := by simp [World.cell?, h1]
  have hv := heldR_data h3
  clear h1 h2 h3
  go_enter Try.func46, Try.ntmps46
  go_wp2_with (first
    | (at_mapUpdate; refine wpList_mapUpdate_in _ rfl _ _ _ 56 rfl 9 33 lawS Try.underlying56 _ bm n _ rfl hm hn _ _ _ rfl rfl hkey _ [] hv ?_; intro w1 hown1 hturn1)
    | go_in)
  go_end0
  exact ⟨rfl, toD_put T t ▸ hown1, hturn1⟩

set_option maxHeartbeats 1000000 in
/-- A rename, done once more on the map bm. -/
theorem r1_any (bm n b1 b2 : Nat) (x y : List UInt8) (T : List Tri) (w : World) (h1 : Named w b1 x) (h2 : Named w b2 y) (hm : w.ownsMap Try.prog 9 heldR bm n (toD T)) (hn : n < maxLen) :
    Calls Try.prog 48 #[.map (some bm), .pointer (some ⟨b1, 0, none⟩), .pointer (some ⟨b2, 0, none⟩)] w fun e w' => e = .returned (.tuple #[]) ∧ w'.ownsMap Try.prog 9 heldR bm (n + 1) (toD (Ch.app (Ch.mv x y) T)) ∧ w.mapTurned w' bm := by
  obtain ⟨s, c1, hkx⟩ := named_cell h1
  obtain ⟨s', c2, hky⟩ := named_cell h2
  obtain ⟨v, ps, hrun, hv⟩ := hm.look_ok lawS Try.underlying56 (zeroBS _) (zd := .held (.slice none 0 0)) (zp := []) rfl hkx
  rw [has_toD] at hrun
  rw [atKey_toD] at hv
  clear h1 h2
  cases hg : get T x with
  | none =>
    rw [hg] at hrun
    have e1 : Ch.app (Ch.mv x y) T = T := by simp [Ch.app, hg]
    rw [e1]
    have ht := hm.turned_refl
    have hm' := hm.mono (Nat.le_succ n)
    clear hv e1 hm
    go_enter Try.func48, Try.ntmps48
    go_wp2
    exact bodyPost_ret (v := .tuple #[]) (by simp [results, Try.results48, go_sem]) rfl ⟨rfl, hm', ht⟩
  | some t =>
    rw [hg] at hrun hv
    have e1 : Ch.app (Ch.mv x y) T = put (del T x) { t with k := y } := by simp [Ch.app, hg]
    rw [e1]
    have e2 := heldR_eq hv
    simp only at e2
    cases e2
    have hv' : heldR t.v = some (.held t.v, []) := by
      cases hh : t.v <;> rw [hh] at hv <;> simp [heldR] at hv ⊢
    clear hv
    go_enter Try.func48, Try.ntmps48
    go_wp2_with (first
      | (at_delete; refine wpList_delete_own _ rfl _ _ 56 9 rfl 33 lawS Try.underlying56 _ bm n _ rfl hm _ _ rfl hkx ?_; intro w1 hown1 hturn1; have c3 := turned_cell hturn1 c2)
      | (at_mapUpdate; refine wpList_mapUpdate_in _ rfl _ _ _ 56 rfl 9 33 lawS Try.underlying56 _ bm n _ rfl hown1 hn _ _ _ rfl rfl hky _ [] hv' ?_; intro w2 hown2 hturn2)
      | go_in)
    go_end0
    refine ⟨rfl, ?_, hturn1.trans hturn2⟩
    rw [toD_del] at hown2
    exact toD_put (del T x) ⟨y, t.v, t.b⟩ ▸ hown2

/-- A removal, done once more on the map bm. -/
theorem rm1_any (bm n b1 : Nat) (x : List UInt8) (T : List Tri) (w : World) (h1 : Named w b1 x) (hm : w.ownsMap Try.prog 9 heldR bm n (toD T)) :
    Calls Try.prog 52 #[.map (some bm), .pointer (some ⟨b1, 0, none⟩)] w fun e w' => e = .returned (.tuple #[]) ∧ w'.ownsMap Try.prog 9 heldR bm (n + 1) (toD (Ch.app (Ch.rm x) T)) ∧ w.mapTurned w' bm := by
  obtain ⟨s, c1, hkx⟩ := named_cell h1
  clear h1
  go_enter Try.func52, Try.ntmps52
  go_wp2_with (first
    | (at_delete; refine wpList_delete_own _ rfl _ _ 56 9 rfl 33 lawS Try.underlying56 _ bm n _ rfl hm _ _ rfl hkx ?_; intro w1 hown1 hturn1)
    | go_in)
  go_end0
  rw [toD_del] at hown1
  exact ⟨rfl, hown1.mono (Nat.le_succ n), hturn1⟩

/-- The files turn. -/
theorem DiskAt.turned {w w' : World} {p bf bs n : Nat} {ca : Value} {S : St} {F : List Tri} (h : DiskAt w p bf bs ca S) (ht : w.mapTurned w' bf) (hn : S.n ≤ n) (hf : w'.ownsMap Try.prog 9 heldR bf n (toD F)) (hd : AllData w F) :
    DiskAt w' p bf bs ca { S with F := F, n := n } := by
  have hfr : Fr (Mut p bf ca) w w' := Fr.turned ht (Or.inr (Or.inl rfl))
  have hfr' : Fr (fun k => k = bf) w w' := Fr.turned ht rfl
  have hs := h.still
  obtain ⟨fs, h1, h2⟩ := h.changes
  refine ⟨hfr'.at h.own (fun e => h.p_map h.files e.symm), hf, (hfr'.map h.synced (fun e => h.ne e.symm)).mono hn, h.ne, ⟨fs, hfr'.row h1 (fun g e e' => ?_), hfr.clos hs h2⟩, hfr.allData hs hd, hfr.allData hs h.dataY⟩
  subst e'
  rcases h1.2 with ⟨hv, _⟩ | ⟨g', cap, cur, hv, _, hh, _⟩
  · rw [hv] at e; cases e
  · rw [hv] at e; cases e
    obtain ⟨es, cl, hb, _⟩ := h.files
    rw [hb] at hh; cases hh

theorem allData_app {w : World} {f : Value} {c : Ch} {T : List Tri} (hc : Clo w f c) (h : AllData w T) : AllData w (c.app T) := by
  intro t ht
  rcases c.three with ⟨x, rfl⟩ | ⟨a, b, rfl⟩ | ⟨k, rfl⟩
  · obtain ⟨_, _, _, _, _, hd⟩ := hc
    rcases mem_put.1 ht with rfl | ⟨h1, _⟩
    · exact hd
    · exact h t h1
  · simp only [Ch.app] at ht
    split at ht
    · exact h t ht
    · rename_i x hx
      rcases mem_put.1 ht with rfl | ⟨h1, _⟩
      · exact h x (get_mem hx).1
      · exact h t (mem_del.1 h1).1
  · exact h t (mem_del.1 ht).1

def St.did (S : St) (c : Ch) : St := { S with F := c.app S.F, n := S.n + 1, ch := S.ch ++ [c] }.counted

theorem DiskAt.appended {w w2 : World} {p bf bs : Nat} {ca v' f : Value} {S : St} {c : Ch} {fs : List Value} (h : DiskAt w p bf bs ca S) (hfs : Clos w fs S.ch) (hc : Clo w f c) (hg : w.grownBy w2 ca.ownBlock)
    (hr : w2.ownsRow 0 75 1 v' (S.ch.length + 1) (fs ++ [f])) (hloc : v'.ownBlock = ca.ownBlock ∨ v'.ownBlock = some w.heap.size) :
    DiskAt (w2.setCell ⟨p, 3, none⟩ v') p bf bs v' { S with ch := S.ch ++ [c] } := by
  have hs := h.still
  have hfr : Fr (Mut p bf ca) w w2 := Fr.grown hg (fun k e => Or.inr (Or.inr e))
  have hfr' : Fr (fun k => ca.ownBlock = some k) w w2 := Fr.grown hg (fun k e => e)
  have ho := hfr'.at h.own h.p_row
  have hb : ∀ {b n : Nat} {D : DataW Value}, w.ownsMap Try.prog 9 heldR b n D → ca.ownBlock ≠ some b := fun {b n D} hm e => by
    obtain ⟨fs', hr', _⟩ := h.changes
    obtain ⟨es, cl, hb, _⟩ := hm
    rcases hr'.2 with ⟨hv, _⟩ | ⟨g', cap, cur, hv, _, hh, _⟩
    · rw [hv] at e; cases e
    · rw [hv] at e; cases e
      rw [hb] at hh; cases hh
  have hf := hfr'.map h.files (hb h.files)
  have hy := hfr'.map h.synced (hb h.synced)
  have hvp : v'.ownBlock ≠ some p := by
    rcases hloc with e | e <;> rw [e]
    · exact h.p_row
    · have := lt_of_some h.own
      intro e'; injection e' with e'; omega
  have hset : Fr (fun k => k = p) w2 (w2.setCell ⟨p, 3, none⟩ v') := Fr.setCell w2 (a := ⟨p, 3, none⟩) (by rfl) v'
  have hall : Fr (Mut p bf ca) w (w2.setCell ⟨p, 3, none⟩ v') := hfr.trans hset (fun i e => Or.inl (Or.inl e))
  refine ⟨by rw [heap_setCell_same ho]; rfl, hset.map hf (h.p_map h.files), hset.map hy (h.p_map h.synced), h.ne, ⟨fs ++ [f], ?_, (hall.clos hs hfs).snoc (hall.clo hs hc)⟩, hall.allData hs h.dataF, hall.allData hs h.dataY⟩
  have := hset.row hr (fun g e e' => hvp (e' ▸ e))
  simpa using this

theorem row_slice {w : World} {base : Nat} {e : TypeId} {size : Nat} {v : Value} {n : Nat} {xs : List Value} (h : w.ownsRow base e size v n xs) : ∃ a c, v = .slice a n c := by
  rcases h.2 with ⟨hv, h0⟩ | ⟨g, cap, cur, hv, _⟩
  · exact ⟨none, 0, by rw [hv, h0]⟩
  · exact ⟨_, _, hv⟩

set_option maxHeartbeats 2000000 in
theorem do_any (p bf bs : Nat) (ca f : Value) (S : St) (c : Ch) (w : World) (h : DiskAt w p bf bs ca S) (hc : Clo w f c) (hS : S.fine) :
    Calls Try.prog 45 #[.pointer (some ⟨p, 0, none⟩), f] w fun e w' => e = .returned (.tuple #[]) ∧ ∃ ca', DiskAt w' p bf bs ca' (S.did c) ∧ Fr (Mut p bf ca) w w' ∧ ∀ k, Mut p bf ca' k → Mut p bf ca k ∨ w.heap.size ≤ k := by
  obtain ⟨i0, hi, hz0, hz1, hz2⟩ := info_parts Try.infoC
  obtain ⟨_, c1, _⟩ := h.cells
  have hn : S.n < maxLen := by have := hS.n1; unfold maxLen; omega
  have hl := hS.c1
  have hcl : (∃ t b1 b2, c = Ch.wr t ∧ f = .func (.func 46) #[] #[.pointer (some ⟨b1, 0, none⟩), .pointer (some ⟨b2, 0, none⟩)] ∧ w.heap[b1]? = some (.cells #[t.v] 33) ∧ Named w b2 t.k ∧ Data w t.v t.b) ∨
      (∃ a b b1 b2, c = Ch.mv a b ∧ f = .func (.func 48) #[] #[.pointer (some ⟨b1, 0, none⟩), .pointer (some ⟨b2, 0, none⟩)] ∧ Named w b1 a ∧ Named w b2 b)
      ∨ (∃ k b1, c = Ch.rm k ∧ f = .func (.func 52) #[] #[.pointer (some ⟨b1, 0, none⟩)] ∧ Named w b1 k)
      := by
    rcases c.three with ⟨t, rfl⟩ | ⟨a, b, rfl⟩ | ⟨k, rfl⟩
    · obtain ⟨b1, b2, r⟩ := hc; exact Or.inl ⟨t, b1, b2, rfl, r⟩
    · obtain ⟨b1, b2, r⟩ := hc; exact Or.inr (Or.inl ⟨a, b, b1, b2, rfl, r⟩)
    · obtain ⟨b1, r⟩ := hc; exact Or.inr (Or.inr ⟨k, b1, rfl, r⟩)
  have hdata := allData_app hc h.dataF
  -- what follows the change
  have after : ∀ w1, w1.ownsMap Try.prog 9 heldR bf (S.n + 1) (toD (c.app S.F)) → w.mapTurned w1 bf →
      ∃ fs, DiskAt w1 p bf bs ca { S with F := c.app S.F, n := S.n + 1 } ∧ Fr (Mut p bf ca) w w1 ∧ w1.ownsRow 0 75 1 ca S.ch.length fs ∧ Clos w1 fs S.ch ∧ Clo w1 f c := fun w1 hm ht => by
    have h1 := h.turned ht (Nat.le_succ _) hm hdata
    have f1 : Fr (Mut p bf ca) w w1 := Fr.turned ht (Or.inr (Or.inl rfl))
    obtain ⟨fs, a1, a2⟩ := h1.changes
    exact ⟨fs, h1, f1, a1, a2, f1.clo h.still hc⟩
  have then2 : ∀ w1 o v' w2 fs, DiskAt w1 p bf bs ca { S with F := c.app S.F, n := S.n + 1 } → Fr (Mut p bf ca) w w1 → Clos w1 fs S.ch → Clo w1 f c → (w1.alloc o).grownBy w2 ca.ownBlock → w2.ownsRow 0 75 1 v' (S.ch.length + 1) (fs ++ [f]) →
      (v'.ownBlock = ca.ownBlock ∨ v'.ownBlock = some (w1.alloc o).heap.size) →
      w2.cell? ⟨p, 3, none⟩ = some ca ∧ w2.frozen? ⟨p, 3, none⟩ = false ∧ DiskAt (w2.setCell ⟨p, 3, none⟩ v') p bf bs v' { S with F := c.app S.F, n := S.n + 1, ch := S.ch ++ [c] } ∧
        (Fr (Mut p bf ca) w (w2.setCell ⟨p, 3, none⟩ v') ∧ ∀ k, Mut p bf v' k → Mut p bf ca k ∨ w.heap.size ≤ k) := by
    intro w1 o v' w2 fs h1 f1 hfs k1 hg hr hloc
    have hA : DiskAt (w1.alloc o) p bf bs ca { S with F := c.app S.F, n := S.n + 1 } := h1.fresh (Fr.alloc _ _ _)
    have fA : Fr None' w1 (w1.alloc o) := Fr.alloc _ _ _
    have sA : Still None' w1 := fun _ _ _ _ _ hm => hm.elim
    have hfr : Fr (Mut p bf ca) (w1.alloc o) w2 := Fr.grown hg (fun k e => Or.inr (Or.inr e))
    have hfr' : Fr (fun k => ca.ownBlock = some k) (w1.alloc o) w2 := Fr.grown hg (fun k e => e)
    have ho := hfr'.at hA.own hA.p_row
    refine ⟨by simp [World.cell?, ho, cellsOf], by simp [World.frozen?, ho], hA.appended (fA.clos sA hfs) (fA.clo sA k1) hg hr hloc, ?_, ?_⟩
    · exact (f1.trans (M' := Mut p bf ca) ((fA.mono (fun _ e => e.elim)).trans hfr (fun i e => Or.inl e)) (fun i e => Or.inl e)).trans (M' := fun k => k = p) (Fr.setCell w2 (a := ⟨p, 3, none⟩) (by rfl) v') (fun i e => Or.inl (Or.inl e))
    · intro k hk
      rcases hk with hk | hk | hk
      · exact Or.inl (Or.inl hk)
      · exact Or.inl (Or.inr (Or.inl hk))
      · rcases hloc with e | e
        · exact Or.inl (Or.inr (Or.inr (e ▸ hk)))
        · rw [e] at hk
          injection hk with hk
          have := f1.size
          simp at hk
          exact Or.inr (by omega)
  rcases hcl with ⟨t, b1, b2, rfl, rfl, q1, q2, q3⟩ | ⟨a, b, b1, b2, rfl, rfl, q1, q2⟩ | ⟨x, b1, rfl, rfl, q1⟩
  · go_enter Try.func45, Try.ntmps45
    go_wp2_with (first
      | (go_at_call 46; refine (w1_any bf S.n b1 b2 t S.F _ q1 q2 q3 h.files hn).mono ?_; rintro e w1 ⟨rfl, hm, ht⟩; obtain ⟨fs, h1, f1, hrow, hfs, k1⟩ := after w1 hm ht; obtain ⟨_, _, _, d3, _⟩ := h1.cells; clear hm ht after)
      | (at_builtin; refine wpList_append_own_at _ rfl _ _ 57 rfl 0 75 i0 .nilFunc 1 8 Try.underlying57 hi hz0 hz1 hz2 rfl (by decide) _ _ _ rfl (hrow.alloc _) ⟨w1.heap.size, 0, none⟩ 1 1 [.func (.func 46) #[] #[.pointer (some ⟨b1, 0, none⟩), .pointer (some ⟨b2, 0, none⟩)]] rfl rfl (cell_one_new _ _ _) (fun u hu => by simp at hu; subst hu; rfl) (by unfold maxLen; omega) (by omega) (Nat.zero_le _) ?_; intro v' w2 hown2 hg2 hnil hloc; obtain ⟨va, vc, rfl⟩ := row_slice hown2; obtain ⟨e3, z3, h2, hk2⟩ := then2 w1 _ _ w2 fs h1 f1 hfs k1 hg2 hown2 hloc; clear hg2 hown2 hloc hnil d3)
      | (go_at_call 47; refine (h2.counted hS.a0 hS.a1 hS.f1).mono ?_; rintro e w3 ⟨rfl, h3, f3⟩))
    go_end0
    exact ⟨rfl, _, h3, hk2.1.trans f3 (fun i e => Or.inl (Or.inl e)), hk2.2⟩
  · go_enter Try.func45, Try.ntmps45
    go_wp2_with (first
      | (go_at_call 48; refine (r1_any bf S.n b1 b2 a b S.F _ q1 q2 h.files hn).mono ?_; rintro e w1 ⟨rfl, hm, ht⟩; obtain ⟨fs, h1, f1, hrow, hfs, k1⟩ := after w1 hm ht; obtain ⟨_, _, _, d3, _⟩ := h1.cells; clear hm ht after)
      | (at_builtin; refine wpList_append_own_at _ rfl _ _ 57 rfl 0 75 i0 .nilFunc 1 8 Try.underlying57 hi hz0 hz1 hz2 rfl (by decide) _ _ _ rfl (hrow.alloc _) ⟨w1.heap.size, 0, none⟩ 1 1 [.func (.func 48) #[] #[.pointer (some ⟨b1, 0, none⟩), .pointer (some ⟨b2, 0, none⟩)]] rfl rfl (cell_one_new _ _ _) (fun u hu => by simp at hu; subst hu; rfl) (by unfold maxLen; omega) (by omega) (Nat.zero_le _) ?_; intro v' w2 hown2 hg2 hnil hloc; obtain ⟨va, vc, rfl⟩ := row_slice hown2; obtain ⟨e3, z3, h2, hk2⟩ := then2 w1 _ _ w2 fs h1 f1 hfs k1 hg2 hown2 hloc; clear hg2 hown2 hloc hnil d3)
      | (go_at_call 47; refine (h2.counted hS.a0 hS.a1 hS.f1).mono ?_; rintro e w3 ⟨rfl, h3, f3⟩))
    go_end0
    exact ⟨rfl, _, h3, hk2.1.trans f3 (fun i e => Or.inl (Or.inl e)), hk2.2⟩
  · go_enter Try.func45, Try.ntmps45
    go_wp2_with (first
      | (go_at_call 52; refine (rm1_any bf S.n b1 x S.F _ q1 h.files).mono ?_; rintro e w1 ⟨rfl, hm, ht⟩; obtain ⟨fs, h1, f1, hrow, hfs, k1⟩ := after w1 hm ht; obtain ⟨_, _, _, d3, _⟩ := h1.cells; clear hm ht after)
      | (at_builtin; refine wpList_append_own_at _ rfl _ _ 57 rfl 0 75 i0 .nilFunc 1 8 Try.underlying57 hi hz0 hz1 hz2 rfl (by decide) _ _ _ rfl (hrow.alloc _) ⟨w1.heap.size, 0, none⟩ 1 1 [.func (.func 52) #[] #[.pointer (some ⟨b1, 0, none⟩)]] rfl rfl (cell_one_new _ _ _) (fun u hu => by simp at hu; subst hu; rfl) (by unfold maxLen; omega) (by omega) (Nat.zero_le _) ?_; intro v' w2 hown2 hg2 hnil hloc; obtain ⟨va, vc, rfl⟩ := row_slice hown2; obtain ⟨e3, z3, h2, hk2⟩ := then2 w1 _ _ w2 fs h1 f1 hfs k1 hg2 hown2 hloc; clear hg2 hown2 hloc hnil d3)
      | (go_at_call 47; refine (h2.counted hS.a0 hS.a1 hS.f1).mono ?_; rintro e w3 ⟨rfl, h3, f3⟩))
    go_end0
    exact ⟨rfl, _, h3, hk2.1.trans f3 (fun i e => Or.inl (Or.inl e)), hk2.2⟩

end Go.Proofs.Ythnneejkbobbcaa
