/-
  What is proved here: what the document's New and Of leave. Condition: the files lie in memory.
-/
import Derived.Test.YtnmghgbpgpaomaaGreatMG5
import Derived.Maps.AppendAt
import Derived.Laws.OwnMore
namespace Go.Proofs.YtnmghgbpgpaomaaGreat
open Go.RowKit Go.Maps Go.WideMaps
set_option maxRecDepth 100000

def RSt.new (room : Int) : RSt := ⟨max room 0, [], [], [], 0, false, 0, false⟩

theorem rnew_disk (room r : Int) (w : World) (hr : r = max room 0) :
    RAt (w.alloc (.cells #[.int .i64 r, .slice none 0 0, .slice none 0 0, .slice none 0 0, .int .i64 0, .bool false, .int .i64 0, .bool false] 55)) w.heap.size (.slice none 0 0) (.slice none 0 0) (.slice none 0 0) (RSt.new room) := by
  subst hr
  exact ⟨(MapKept.heap_alloc w _).1, ⟨⟨rfl, Or.inl ⟨rfl, rfl⟩⟩, fun t ht => by simp [RSt.new] at ht⟩, ⟨⟨rfl, Or.inl ⟨rfl, rfl⟩⟩, fun t ht => by simp [RSt.new] at ht⟩, ⟨rfl, Or.inl ⟨rfl, rfl⟩⟩, fun t ht => by simp [RSt.new] at ht⟩

theorem rnew_any (room : Int) (w : World) :
    Calls Tryz.prog 33 #[.int .i64 room] w fun e w' => e = .returned (.pointer (some ⟨w.heap.size, 0, none⟩)) ∧ RAt w' w.heap.size (.slice none 0 0) (.slice none 0 0) (.slice none 0 0) (RSt.new room) ∧ Fr None' w w' := by
  go_enter Tryz.func33, Tryz.ntmps33
  go_wp2
  go_ret
  exact ⟨rfl, rnew_disk room _ w rfl, Fr.alloc _ _ _⟩

def RSt.of (room : Int) (T : List Tri) : RSt := { RSt.new room with L := T, Y := T }

def ROfTold (room : Int) (L : List FileD) (w : World) (e : Ending) (w' : World) : Prop :=
  (e = .returned (.pointer none) ∧ ¬ (L.length ≤ 512 ∧ Good L L.length) ∧ Fr None' w w') ∨
  ∃ p T M, e = .returned (.pointer (some ⟨p, 0, none⟩)) ∧ L.length ≤ 512 ∧ Good L L.length ∧ Built L L.length T ∧ Rising T ∧ RDisk w' p M (RSt.of room T) ∧ Fr None' w w' ∧ ∀ k, M k → w.heap.size ≤ k

theorem get_of_rising {T : List Tri} (hT : Rising T) {f : Tri} {k : List UInt8} : get (withF T f) k = if k = f.k then some f else get T k := by
  have hA := rising_apart (rising_withF hT f)
  have hA' := rising_apart hT
  by_cases h : k = f.k
  · rw [if_pos h, h]
    exact get_of_mem hA (mem_withF.2 (Or.inl rfl))
  · rw [if_neg h]
    cases hg : get T k with
    | none =>
      cases hg' : get (withF T f) k with
      | none => rfl
      | some t =>
        obtain ⟨h1, h2⟩ := get_mem hg'
        rcases mem_withF.1 h1 with rfl | ⟨h3, _⟩
        · exact absurd h2.symm h
        · rw [← h2, get_of_mem hA' h3] at hg; cases hg
    | some t =>
      obtain ⟨h1, h2⟩ := get_mem hg
      rw [← h2]
      exact get_of_mem hA (mem_withF.2 (Or.inr ⟨h1, fun e => h (h2.symm.trans e)⟩))

theorem Built.rstep {L : List FileD} {n : Nat} {T : List Tri} {f : FileD} (h : Built L n T) (hf : L[n]? = some f) (hT : Rising T) (hnew : get T f.k = none) (v : Value) : Built L (n + 1) (withF T ⟨f.k, v, f.b⟩) := by
  refine ⟨fun i g hi hg => ?_, fun t ht => ?_⟩
  · rw [get_of_rising hT]
    by_cases e : i = n
    · subst e
      rw [hf] at hg
      cases hg
      exact ⟨_, if_pos rfl, rfl⟩
    · obtain ⟨t, h1, h2⟩ := h.has i g (by omega) hg
      refine ⟨t, ?_, h2⟩
      rw [if_neg (fun e' => ?_)]
      · exact h1
      · have e' : g.k = f.k := e'
        rw [e', hnew] at h1
        cases h1
  · rcases mem_withF.1 ht with rfl | ⟨h1, _⟩
    · exact ⟨n, f, by omega, hf, rfl, rfl⟩
    · obtain ⟨i, g, a1, a2, a3⟩ := h.only t h1
      exact ⟨i, g, by omega, a2, a3⟩

/-- 'append([]byte{}, x...)', as one step of a region that draws its order. -/
theorem step_clone {ops : Array Oper} {o : Oper} {a : Act} {w : World} {K : Act → World → Prop} {Q : Exit → Act → World → Prop} {E : Prop} (hgd : o.guard = none) (s x : Operand)
    (ho : o.op = .call { callee := .builtin .append, args := #[s, x], argTypes := #[31, 31] })
    {v sv : Value} {b : List UInt8} (hs : a.eval s = v) (hown : w.ownsRow 0 5 1 v 0 []) (hx : a.eval x = sv) (hd : Bytes w sv b) (hb : b.length ≤ 70368744177664)
    (h : ∀ v' w', Data w' v' b → w.grownBy w' v.ownBlock → K (a.put o.dst v') w') : if Region.wanted o (yielded ops a.tmps) = true then Oper.wp Tryz.prog o a w K Q else E := by
  have hw : Region.wanted o (yielded ops a.tmps) = true := by simp [Region.wanted, hgd]
  rw [if_pos hw]
  obtain ⟨i0, hi, hz0, hz1, hz2⟩ := info_parts Tryz.infoU
  rcases hd with ⟨rfl, rfl⟩ | ⟨ad, c, rfl, hc⟩
  · have hrun := run_append_owned_none (P := Tryz.prog) (w := w) 0 31 o.type 5 i0 1 Tryz.underlying31 hi v 0 [] hown
    unfold Oper.wp
    simp [execOp, ho, resolve, invoke, builtin, hs, hx, hrun, Result.andThen]
    exact h v w hown ⟨rfl, rfl, rfl, Nat.le_refl _, fun _ _ _ => rfl⟩
  · have hlen : (u8s b).length = b.length * 1 := by simp [u8s]
    obtain ⟨v', w', hr, h2, h3, _, _⟩ := run_append_own_at (P := Tryz.prog) w 0 31 o.type 5 i0 (.int .u8 0) 1 1 Tryz.underlying31 hi hz0 hz1 hz2 rfl (by decide) v 0 [] hown ad b.length c (u8s b) hlen hc (u8s_one b) (by unfold maxLen; omega) (by omega) (Nat.zero_le _)
    unfold Oper.wp execOp
    simp only [ho, resolve, invoke, builtin, Sem.run_bind, Sem.run_pure, Result.andThen_ok, List.map_toArray, List.map_cons, List.map_nil, hs, hx, hr]
    exact h v' w' (by simpa [Data] using h2) h3

set_option maxHeartbeats 8000000 in
theorem rof_any (room : Int) (v : Value) (L : List FileD) (w : World) (h : FilesAt w w.heap.size v L) : Calls Tryz.prog 8 #[.int .i64 room, v] w fun e w' => ROfTold room L w e w' := by
  obtain ⟨va, vc, rfl, hat⟩ := h.shape
  by_cases hlong : 512 < L.length
  · have hl' : (512 : Int) < L.length := by omega
    go_enter Tryz.func8, Tryz.ntmps8
    go_wp2_with fail
    refine (rnew_any room w).mono ?_
    rintro e w1 ⟨rfl, hD, F1⟩
    go_wp2
    go_ret
    exact Or.inl ⟨rfl, fun e => by omega, F1⟩
  · have hl' : (L.length : Int) ≤ 512 := by omega
    go_enter Tryz.func8, Tryz.ntmps8
    go_wp2_with fail
    refine (rnew_any room w).mono ?_
    rintro e w1 ⟨rfl, hD, F1⟩
    go_wp2_with fail
    generalize hp : w.heap.size = p at hD
    go_loopw [6] (fun i wr => ∃ (k : Nat) (T : List Tri) (vL : Value), k ≤ L.length ∧ T.length ≤ k ∧ i = .int .i64 k ∧ RAt wr p vL (.slice none 0 0) (.slice none 0 0) { RSt.new room with L := T } ∧ Rising T ∧ Good L k ∧ Built L k T ∧ Fr None' w wr) (fun i _ => L.length - (intOf i).toNat)
    case atStart => exact ⟨0, [], _, Nat.zero_le _, Nat.le_refl _, rfl, hD, List.Pairwise.nil, fun i f hi => by omega, Built.start L, F1⟩
    case round =>
      obtain ⟨k, T, vL, hk, hTk, rfl, hd, hris, hgood, hbuilt, hfr⟩ := hrel
      clear hD F1
      by_cases hlt : k < L.length
      · obtain ⟨f, hf⟩ : ∃ f, L[k]? = some f := ⟨L[k], by simp [hlt]⟩
        obtain ⟨g, off, vb, rfl, hgB, hov, c0, c1⟩ := hat k f hf
        obtain ⟨sb, cb, rfl⟩ := bytes_slice hov.1
        have hs := hov.2.2
        have i0 : (0 : Int) ≤ (k : Int) := by omega
        have i1 : (k : Int) < (L.length : Int) := by omega
        have hce : ∀ off, wr.cell? ⟨g, off, none⟩ = w.cell? ⟨g, off, none⟩ := fun off => World.cell?_of_block (w := w) (a := ⟨g, off, none⟩) (hfr.block g hgB (fun e => e))
        have d0 := (hce _).trans c0
        have d1 := (hce _).trans c1
        have hb1 := hov.1.kept hfr (fun _ _ _ _ _ e => e)
        obtain ⟨la, lc, hvL⟩ := row_slice hd.files.1
        have e0 : ({ RSt.new room with L := T } : RSt).L = T := rfl
        rw [e0] at hvL
        subst hvL
        obtain ⟨_, l1, _, _, _, _, _, _, z⟩ := hd.cells
        have hN := fun w' => rright_any f.name w' hs
        have hH := fun w' (h' : FilesRes w' (.slice la T.length lc) T) => rfind_any _ T f.name w' h' (by omega)
        clear hat hce c0 c1 hov h
        cases hr : right f.k
        · rw [show right f.name.data.toList = false from hr] at hN
          clear hH
          go_wp2_with fail
          go_quiet (first
            | (go_at_call 34; exact Calls.quiet_of_same ((hN _).mono fun _ _ ⟨a, b⟩ => ⟨a, b.symm⟩)))
          go_wp2
          go_ret
          exact Or.inl ⟨rfl, fun e => bad_name hf (Or.inl hr) e.2, hfr.then (fr_drewN _ _)⟩
        rw [show right f.name.data.toList = true from hr] at hN
        have hq : ∀ n, FilesRes (wr.drewN n) (.slice la T.length lc) T := fun n => hd.files.kept (fr_drewN wr n) (stillN _)
        rcases find_get T f.name.data.toList with ⟨e1, e2⟩ | ⟨i, t, e1, e2, e3, e4⟩
        · rw [e1] at hH
          by_cases hbig : 65536 < f.b.length
          · have hbig' : (65536 : Int) < f.b.length := by omega
            go_wp2_with fail
            go_quiet (first
              | (go_at_call 34; exact Calls.quiet_of_same ((hN _).mono fun _ _ ⟨a, b⟩ => ⟨a, b.symm⟩))
              | (go_at_call 35; exact Calls.quiet_of_same ((hH _ (hq _)).mono fun _ _ ⟨a, b⟩ => ⟨a, b.symm⟩)))
            go_wp2
            go_ret
            exact Or.inl ⟨rfl, fun e => bad_name hf (Or.inr hbig) e.2, hfr.then (fr_drewN _ _)⟩
          · have hbig' : ¬ (65536 : Int) < f.b.length := by omega
            go_wp2_with fail
            go_quiet (first
              | (go_at_call 34; exact Calls.quiet_of_same ((hN _).mono fun _ _ ⟨a, b⟩ => ⟨a, b.symm⟩))
              | (go_at_call 35; exact Calls.quiet_of_same ((hH _ (hq _)).mono fun _ _ ⟨a, b⟩ => ⟨a, b.symm⟩)))
            go_wp2_with fail
            have hfq := hfr.then (fr_drewN wr nq)
            have hdq := hd.fresh (fr_drewN wr nq)
            have q0 := (fr_drewN wr nq).cell d0
            have q1 := (fr_drewN wr nq).cell d1
            have hbq := hb1.kept (fr_drewN wr nq) (fun _ _ _ _ _ e => e)
            clear hN hH hq d0 d1 hb1 hd z hlt hbig'
            generalize wr.drewN nq = wq at *
            obtain ⟨_, r1, _, _, _, _, _, _, z⟩ := hdq.cells
            have zp := z 1
            have HG : Hid (Good L k ∧ Built L k T ∧ L[k]? = some f ∧ get T f.k = none ∧ right f.k = true ∧ f.b.length ≤ 65536 ∧ Rising T ∧ T.length ≤ k ∧ k < L.length ∧ L.length ≤ 512 ∧ w.heap.size = p) := ⟨hgood, hbuilt, hf, e2, hr, by omega, hris, hTk, by omega, by omega, hp⟩
            have HQ : Hid (RAt wq p (.slice la T.length lc) (.slice none 0 0) (.slice none 0 0) { RSt.new room with L := T } ∧ Fr None' w wq) := ⟨hdq, hfq⟩
            have hE : (wq.drew.alloc (.cells #[] 5)).ownsRow 0 5 1 (.slice (some ⟨wq.drew.heap.size, 0, none⟩) 0 0) 0 [] := empty_row wq.drew
            have fA : ∀ o, Fr None' wq (wq.drew.alloc o) := fun o => (Fr.drew None' wq).then (Fr.alloc None' _ o)
            have HB : Hid (Bytes (wq.drew.alloc (.cells #[] 5)) (.slice sb f.b.length cb) f.b) := hbq.kept (fA _) (fun _ _ _ _ _ e => e)
            have s1 : wq.drew.cell? ⟨p, 1, none⟩ = some (.slice la T.length lc) := r1
            have s2 : wq.drew.cell? ⟨g, off + k * 2, none⟩ = some (.string f.name) := q0
            have s3 : wq.drew.cell? ⟨g, off + k * 2 + 1, none⟩ = some (.slice sb f.b.length cb) := q1
            have t1 : ∀ o, (wq.alloc o).cell? ⟨p, 1, none⟩ = some (.slice la T.length lc) := fun o => (Fr.alloc None' wq o).cell r1
            have t2 : ∀ o, (wq.alloc o).cell? ⟨g, off + k * 2, none⟩ = some (.string f.name) := fun o => (Fr.alloc None' wq o).cell q0
            have t3 : ∀ o, (wq.alloc o).cell? ⟨g, off + k * 2 + 1, none⟩ = some (.slice sb f.b.length cb) := fun o => (Fr.alloc None' wq o).cell q1
            have HF : Hid (∀ w2, (wq.drew.alloc (.cells #[] 5)).grownBy w2 (Value.slice (some ⟨wq.drew.heap.size, 0, none⟩) 0 0).ownBlock → Fr None' wq w2) := fun w2 g2 => (fA _).trans (Fr.grown (M := fun i => i = wq.heap.size) g2 (fun k e => by cases e; rfl)) (fun i e => Or.inr (by omega))
            clear hgood hbuilt hf e1 e2 hr hris hTk hbig hdq hfq z hbq fA e0 hlong hl' hfr hk hs hgB hp
            go_region_law (first
              | (refine step_clone rfl (.tmp 57) (.tmp 62) rfl (by first | rfl | simp [Act.eval, Act.put]) hE (by first | rfl | simp [Act.eval, Act.put]) HB.out (by have := HG.out.2.2.2.2.2.1; omega) ?_; intro v2 w2 d2 g2; obtain ⟨xa, xc, hv2⟩ := row_slice d2; subst hv2; have f2 := HF.out w2 g2; have u1 := f2.cell r1; have u2 := f2.cell q0; clear g2)
              | (go_simp; go_at_call 36; refine (rwith_any _ T f.name _ f.b _ ((HQ.out.1.fresh f2).files) (by have := HG.out; omega) d2).mono ?_; rintro e w3 ⟨v3, rfl, R3, f3⟩; obtain ⟨ya, yc, hv3⟩ := row_slice R3.1; subst hv3; have h3 := HQ.out.1.fresh (f2.then f3); have x1 := h3.cells.2.1; have x2 := h3.cells.2.2.2.2.2.2.2.2 1))
            all_goals
              have HZ : Hid (∃ T' vL', T'.length ≤ k + 1 ∧ RAt (w3.setCell ⟨p, 1, none⟩ (.slice ya (withF T ⟨f.name.data.toList, .slice xa f.b.length xc, f.b⟩).length yc)) p vL' (.slice none 0 0) (.slice none 0 0) { RSt.new room with L := T' } ∧ Rising T' ∧ Good L (k + 1) ∧ Built L (k + 1) T' ∧
                  Fr None' w (w3.setCell ⟨p, 1, none⟩ (.slice ya (withF T ⟨f.name.data.toList, .slice xa f.b.length xc, f.b⟩).length yc))) := by
                obtain ⟨g1, g2, g3, g4, g5, g6, g7, g8, _, _, g11⟩ := HG.out
                refine ⟨withF T ⟨f.k, .slice xa f.b.length xc, f.b⟩, _, Nat.le_trans (withF_len _ _) (by omega), h3.stored rfl R3 h3.old h3.row h3.data h3.p_row, rising_withF g7 _, g1.step g2 g3 g5 g6 g4, g2.rstep g3 g7 g4 _, ?_⟩
                exact (HQ.out.2.then (f2.then f3)).trans (fr_cell _ _ _ _) (fun k e => Or.inr (by omega))
              generalize w3.setCell ⟨p, 1, none⟩ (.slice ya (withF T ⟨f.name.data.toList, .slice xa f.b.length xc, f.b⟩).length yc) = w5 at HZ ⊢
              clear hE HB s1 s2 s3 t1 t2 t3 HF u1 u2 f2 d2 R3 f3 h3 x1 x2 HQ r1 q0 q1 zp HG l1
              go_wp2
              obtain ⟨T', vL', z1, z2, z3, z4, z5, z6⟩ := HZ.out
              exact ⟨⟨k + 1, T', vL', by omega, z1, by go_num, z2, z3, z4, z5, z6⟩, by simp [intOf]; omega⟩
        · rw [e1] at hH
          go_wp2_with fail
          go_quiet (first
            | (go_at_call 34; exact Calls.quiet_of_same ((hN _).mono fun _ _ ⟨a, b⟩ => ⟨a, b.symm⟩))
            | (go_at_call 35; exact Calls.quiet_of_same ((hH _ (hq _)).mono fun _ _ ⟨a, b⟩ => ⟨a, b.symm⟩)))
          go_wp2
          go_ret
          exact Or.inl ⟨rfl, fun e => bad_twice hbuilt hf (by rw [e3]; rfl) e.2, hfr.then (fr_drewN _ _)⟩
      · have hkL : k = L.length := by omega
        subst hkL
        obtain ⟨la, lc, hvL⟩ := row_slice hd.files.1
        subst hvL
        obtain ⟨_, l1, l2, _, _, _, _, _, z⟩ := hd.cells
        have z2 := z 2
        have h9 : RAt (wr.setCell ⟨p, 2, none⟩ (.slice la T.length lc)) p (.slice la T.length lc) (.slice la T.length lc) (.slice none 0 0) (RSt.of room T) := hd.stored rfl hd.files hd.files hd.row hd.data hd.p_row
        clear hat z
        go_wp2
        go_ret
        refine Or.inr ⟨p, T, _, rfl, by omega, hgood, hbuilt, hris, h9.disk, ?_, ?_⟩
        · exact hfr.trans (fr_cell _ _ _ _) (fun k e => Or.inr (by omega))
        · rintro k (e | e)
          · omega
          · cases e
end Go.Proofs.YtnmghgbpgpaomaaGreat
