/-
  What is proved here: DiskRefused answers true, whatever its room and its calls. Condition: what came in lies in memory, and is no greater than the reach.
-/
import Derived.Test.YtijcddgiaegoiaaSame
import Derived.Test.YtijcddgiaegoiaaLiveMore
namespace Go.Proofs.Ytijcddgiaegoiaa
open Go.RowKit Go.Maps Go.WideMaps
set_option maxRecDepth 100000

theorem kb_len {L : List Tri} {T : List Tri} (h : kb L = sortedFiles T) : L.length = T.length := by
  have h1 := congrArg List.length h
  simpa [kb, sortedFiles, sortedNames] using h1

theorem live_files {w wi : World} {p k : Nat} {S : St} (h : Live w wi p S) (hi : Inv k S) (hk : k ≤ 1000) :
    Calls Try.prog 24 #[.pointer (some ⟨p, 0, none⟩)] wi fun e w' => ∃ v L, e = .returned v ∧ FilesRes w' v L ∧ kb L = sortedFiles S.F ∧ L.length ≤ 1000000 ∧ Live w w' p S ∧ Fr None' wi w' := by
  have hL := h
  obtain ⟨M, h1, h2, h3⟩ := h
  refine (files_any p M S wi h1 (hi.fine hk) (h1.used hi hk)).mono ?_
  rintro e w' ⟨v, L, e1, hr, hkb, hf⟩
  refine ⟨v, L, e1, hr, hkb, ?_, hL.fresh hf, hf⟩
  obtain ⟨bf, bs, ca, h, _⟩ := h1
  have h1 := h.files.size_le
  rw [size_toD] at h1
  have h3 := hi.nc
  rw [kb_len hkb]
  omega

theorem live_does_kept {w wi : World} {p k : Nat} {S : St} (h : Live w wi p S) (hi : Inv k S) (hk : k ≤ 1000) (o : OpD) (vb vk : Value) (ho : OpVal wi w.heap.size o vb vk) (hb : o.b.length < 200000) {x : Value} {L : List Tri} (hx : FilesRes wi x L) :
    Calls Try.prog 14 #[.pointer (some ⟨p, 0, none⟩), .agg #[.int .i64 o.what, .string o.a, .string o.to, vb, .int .i64 o.n, vk]] wi fun e w' => ∃ v, e = .returned (.int .i64 (S.does o v).1) ∧ Live w w' p (S.does o v).2 ∧ FilesRes w' x L := by
  obtain ⟨M, h1, h2, h3⟩ := h
  refine (does_any p w.heap.size M S o vb vk wi h1 (hi.fine hk) h3 ho (h1.used hi hk) (by omega)).mono ?_
  rintro e w' ⟨v, e1, hst⟩
  have hst' := hst
  obtain ⟨M', _, hf, _⟩ := hst'
  exact ⟨v, e1, Live.step h2 h3 hst, hx.kept hf h1.still⟩

/-- What a call answers, and what it leaves. -/
theorem does_said (S : St) (o : OpD) (v : Value) (h0 : 0 ≤ o.what) (h4 : o.what ≤ 4) :
    ((S.does o v).1 = 0 ∧ S.asked.down = false ∧ (S.does o v).2.acts = S.acts + 1) ∨ ((S.does o v).1 = 13 ∧ (S.does o v).2 = S.asked ∧ S.asked.down = true) ∨ ((S.does o v).1 ≠ 0 ∧ (S.does o v).1 ≠ 13 ∧ (S.does o v).2 = S.asked ∧ S.asked.down = false) := by
  have hr : ∀ k n, S.asked.refuse k n ≠ 13 := fun k n => by unfold St.refuse; repeat' split <;> try omega
  unfold St.does
  split
  · unfold St.write
    cases hd : S.asked.down
    · simp only [Bool.false_eq_true, if_false]
      split
      · exact Or.inl ⟨rfl, by simp, rfl⟩
      · rename_i h; exact Or.inr (Or.inr ⟨h, hr _ _, rfl, by simp⟩)
    · exact Or.inr (Or.inl ⟨rfl, rfl, rfl⟩)
  · split
    · unfold St.rename
      cases hd : S.asked.down
      · simp only [Bool.false_eq_true, if_false]
        split
        · exact Or.inr (Or.inr ⟨by simp, by simp, rfl, by simp⟩)
        · split
          · exact Or.inr (Or.inr ⟨by simp, by simp, rfl, by simp⟩)
          · exact Or.inl ⟨rfl, by simp, rfl⟩
      · exact Or.inr (Or.inl ⟨rfl, rfl, rfl⟩)
    · split
      · unfold St.remove
        cases hd : S.asked.down
        · simp only [Bool.false_eq_true, if_false]
          split
          · exact Or.inr (Or.inr ⟨by simp, by simp, rfl, by simp⟩)
          · exact Or.inl ⟨rfl, by simp, rfl⟩
        · exact Or.inr (Or.inl ⟨rfl, rfl, rfl⟩)
      · split
        · unfold St.sync
          cases hd : S.asked.down
          · exact Or.inl ⟨rfl, rfl, rfl⟩
          · exact Or.inr (Or.inl ⟨rfl, rfl, rfl⟩)
        · omega

theorem down_asked {S : St} (h : S.asked.down = false) : S.down = false := by
  simp [St.asked] at h
  exact h.1

set_option maxHeartbeats 8000000 in
theorem refused_walk (room : Int) (vl : Value) (L : List OpD) (w : World) (hl : OpsAt w w.heap.size vl L) (hL : L.length ≤ reachBytes) :
    Calls Try.prog 6 #[.int .i64 room, vl] w fun e w' => e = .returned (.bool true) ∧ Fr None' w w' := by
  obtain ⟨va, vc, rfl, hat⟩ := hl.shape
  go_enter Try.func6, Try.ntmps6
  go_wp2_with fail
  refine (head_any w).mono ?_
  rintro e w1 ⟨rfl, F1⟩
  go_wp2_with fail
  refine (live_new room w1).mono ?_
  rintro e w2 ⟨p, rfl, L0⟩
  go_wp2_with fail
  have hG := great_any w.heap.size _ L w2 (hl.kept (F1.then L0.fr) (fun _ e => e.elim) (Nat.le_refl _)) hL
  refine hG.mono ?_
  rintro e w3 ⟨g, rfl, F3, hg⟩
  clear hG hL
  cases g
  · obtain ⟨hl3, hbs⟩ := hg rfl
    have L1 := (L0.lower F1).fresh F3
    clear hg
    clear L0 F1 F3
    go_wp2_with fail
    go_loopw [7] (fun i wr => ∃ (k : Nat) (S : St), k ≤ L.length ∧ i = .int .i64 k ∧ Live w wr p S ∧ Inv k S) (fun i _ => L.length - (intOf i).toNat)
    case atStart => exact ⟨0, _, Nat.zero_le _, rfl, L1, Inv.new room⟩
    case round =>
      obtain ⟨k, S, hk, rfl, hlive, hinv⟩ := hrel
      clear L1
      by_cases hlt : k < L.length
      · obtain ⟨o, ho⟩ : ∃ o, L[k]? = some o := ⟨L[k], by simp [hlt]⟩
        obtain ⟨g, off, vb, vk, rfl, hgB, hov, hkl, c0, c1, c2, c3, c4, c5⟩ := hat k o ho
        have hob := (hbs o (List.mem_of_getElem? ho)).1
        have hon := hov.2.2.2.2.2.2.2.1
        obtain ⟨sb, cb, rfl⟩ := bytes_slice hov.1
        obtain ⟨sk, ck, rfl⟩ := bools_slice hov.2.1
        have i0 : (0 : Int) ≤ (k : Int) := by omega
        have i1 : (k : Int) < (L.length : Int) := by omega
        have hfi := hinv.fine (by omega)
        have HC : Hid (∀ wr, Fr None' w wr → ∀ off, wr.cell? ⟨g, off, none⟩ = w.cell? ⟨g, off, none⟩) := fun wr hf off => World.cell?_of_block (w := w) (a := ⟨g, off, none⟩) (hf.block g hgB (fun e => e))
        have HW := hov
        clear hat hkl hl hbs ho hov
        go_wp2_with fail
        refine (live_files hlive hinv (by omega)).mono ?_
        rintro e w4 ⟨x, X, rfl, hX, hkX, hXl, hlive4, F4⟩
        obtain ⟨xa, xc, rfl⟩ := row_slice hX.1
        go_wp2_with fail
        refine (live_acts hlive4).mono ?_
        rintro e w5 ⟨rfl, rfl⟩
        go_wp2_with fail
        refine (live_loose hlive4).mono ?_
        rintro e w5 ⟨rfl, rfl⟩
        go_wp2_with fail
        refine (live_down hlive4).mono ?_
        rintro e w5 ⟨rfl, rfl⟩
        have ho4 := HW.kept hlive4.fr (fun _ e => e.elim)
        have d0 := (HC.out _ hlive4.fr _).trans c0
        have d1 := (HC.out _ hlive4.fr _).trans c1
        have d2 := (HC.out _ hlive4.fr _).trans c2
        have d3 := (HC.out _ hlive4.fr _).trans c3
        have d4 := (HC.out _ hlive4.fr _).trans c4
        have d5 := (HC.out _ hlive4.fr _).trans c5
        clear c1 c2 c3 c4 c5 hlive
        have ha0 := hfi.a0
        have ha1 := hfi.a1
        go_wp2_with fail
        refine (live_does_kept hlive4 hinv (by omega) o _ _ ho4 hob hX).mono ?_
        rintro e w5 ⟨v, rfl, L5, hX5⟩
        have i5 := hinv.does o v hon
        have e0 := (HC.out _ L5.fr _).trans c0
        have hsaid := does_said S o v
        generalize (S.does o v).1 = r at hsaid ⊢
        generalize (S.does o v).2 = S5 at L5 i5 hsaid
        clear d0 d1 d2 d3 d4 d5 ho4 hlive4 hinv hX c0
        by_cases hw4 : 4 < o.what
        · clear hsaid
          go_wp2_with fail
          go_roundw
          case rel => exact ⟨k + 1, S5, by omega, by go_num, L5, i5⟩
          case measure => simp [intOf]; omega
        by_cases hw0 : o.what < 0
        · clear hsaid
          go_wp2_with fail
          go_roundw
          case rel => exact ⟨k + 1, S5, by omega, by go_num, L5, i5⟩
          case measure => simp [intOf]; omega
        rcases hsaid (by omega) (by omega) with ⟨rfl, hd, hac⟩ | ⟨rfl, rfl, hd⟩ | ⟨hr0, hr13, rfl, hd⟩
        · have hd' := down_asked hd
          rw [hd']
          clear hsaid
          go_wp2_with fail
          refine (live_acts L5).mono ?_
          rintro e w6 ⟨rfl, rfl⟩
          rw [hac]
          go_wp2_with fail
          go_roundw
          case rel => exact ⟨k + 1, S5, by omega, by go_num, L5, i5⟩
          case measure => simp [intOf]; omega
        · cases hd' : S.down
          · clear hsaid
            go_wp2_with fail
            refine (live_down L5).mono ?_
            rintro e w6 ⟨rfl, rfl⟩
            rw [hd]
            go_wp2_with fail
            refine (live_files L5 i5 (by omega)).mono ?_
            rintro e w6 ⟨y, Y, rfl, hY, hkY, hYl, L6, F6⟩
            obtain ⟨ya, yc, rfl⟩ := row_slice hY.1
            go_wp2_with fail
            refine (same_any _ _ Y X w6 hY (hX5.kept F6 (stillN _)) (hkY.trans hkX.symm) hYl).mono ?_
            rintro e w7 ⟨rfl, F7⟩
            have L7 := L6.fresh F7
            go_wp2_with fail
            refine (live_acts L7).mono ?_
            rintro e w8 ⟨rfl, rfl⟩
            go_wp2_with fail
            refine (live_loose L7).mono ?_
            rintro e w8 ⟨rfl, rfl⟩
            go_wp2_with fail
            go_roundw
            case rel => exact ⟨k + 1, S.asked, by omega, by go_num, L7, i5⟩
            case measure => simp [intOf]; omega
          · clear hsaid
            go_wp2_with fail
            refine (live_down L5).mono ?_
            rintro e w6 ⟨rfl, rfl⟩
            rw [hd]
            go_wp2_with fail
            refine (live_files L5 i5 (by omega)).mono ?_
            rintro e w6 ⟨y, Y, rfl, hY, hkY, hYl, L6, F6⟩
            obtain ⟨ya, yc, rfl⟩ := row_slice hY.1
            go_wp2_with fail
            refine (same_any _ _ Y X w6 hY (hX5.kept F6 (stillN _)) (hkY.trans hkX.symm) hYl).mono ?_
            rintro e w7 ⟨rfl, F7⟩
            have L7 := L6.fresh F7
            go_wp2_with fail
            refine (live_acts L7).mono ?_
            rintro e w8 ⟨rfl, rfl⟩
            go_wp2_with fail
            refine (live_loose L7).mono ?_
            rintro e w8 ⟨rfl, rfl⟩
            go_wp2_with fail
            go_roundw
            case rel => exact ⟨k + 1, S.asked, by omega, by go_num, L7, i5⟩
            case measure => simp [intOf]; omega
        · have hd' := down_asked hd
          rw [hd']
          have hb0 : (r == 0) = false := by simpa using hr0
          have hb13 : (r == 13) = false := by simpa using hr13
          clear hsaid
          go_wp2_with fail
          refine (live_files L5 i5 (by omega)).mono ?_
          rintro e w6 ⟨y, Y, rfl, hY, hkY, hYl, L6, F6⟩
          obtain ⟨ya, yc, rfl⟩ := row_slice hY.1
          go_wp2_with fail
          refine (same_any _ _ Y X w6 hY (hX5.kept F6 (stillN _)) (hkY.trans hkX.symm) hYl).mono ?_
          rintro e w7 ⟨rfl, F7⟩
          have L7 := L6.fresh F7
          go_wp2_with fail
          refine (live_acts L7).mono ?_
          rintro e w8 ⟨rfl, rfl⟩
          go_wp2_with fail
          refine (live_loose L7).mono ?_
          rintro e w8 ⟨rfl, rfl⟩
          go_wp2_with fail
          go_roundw
          case rel => exact ⟨k + 1, S.asked, by omega, by go_num, L7, i5⟩
          case measure => simp [intOf]; omega
      · have hkL : k = L.length := by omega
        subst hkL
        clear hat
        go_wp2_with fail
        go_ret
        exact ⟨rfl, hlive.fr⟩
  · clear hg
    go_wp2
    go_ret
    exact ⟨rfl, (fin F1 L0).then F3⟩

end Go.Proofs.Ytijcddgiaegoiaa
