/-
  What is proved here: DiskKept answers true, whatever its files, its calls and what is kept. Condition: what came in lies in memory, and is no greater than the reach.
-/
import Derived.Test.YtijcddgiaegoiaaRefused
import Derived.Test.YtijcddgiaegoiaaStays
import Derived.Deep.OwnRows
namespace Go.Proofs.Ytijcddgiaegoiaa
open Go.RowKit Go.Maps Go.WideMaps
set_option maxRecDepth 100000

/-- The files are what was synced, with all changes since. -/
def Whole (S : St) : Prop := S.F = S.ch.foldl (fun T c => c.app T) S.Y

theorem Whole.did {S : St} (h : Whole S) (c : Ch) : Whole (S.did c) := by
  unfold Whole at h ⊢
  simp only [St.did, St.counted, List.foldl_append, List.foldl_cons, List.foldl_nil]
  rw [h]

theorem Whole.does {S : St} (h : Whole S) (o : OpD) (v : Value) (h5 : o.what < 5) : Whole (S.does o v).2 := by
  have hA : Whole S.asked := h
  unfold St.does
  split
  · unfold St.write
    split
    · exact hA
    · split
      · exact hA.did _
      · exact hA
  · split
    · unfold St.rename
      split
      · exact hA
      · split
        · exact hA
        · split
          · exact hA
          · exact hA.did _
    · split
      · unfold St.remove
        split
        · exact hA
        · split
          · exact hA
          · exact hA.did _
      · split
        · unfold St.sync
          split
          · exact hA
          · exact rfl
        · split
          · omega
          · split
            · omega
            · exact h

theorem ch_does (S : St) (o : OpD) (v : Value) (h5 : o.what < 5) : (S.does o v).2.ch.length ≤ S.ch.length + 1 := by
  have hA : S.asked.ch.length ≤ S.ch.length + 1 := Nat.le_succ _
  have hD : ∀ c, (S.asked.did c).ch.length ≤ S.ch.length + 1 := fun c => by simp [St.did, St.counted, St.asked]
  unfold St.does
  split
  · unfold St.write
    split
    · exact hA
    · split
      · exact hD _
      · exact hA
  · split
    · unfold St.rename
      split
      · exact hA
      · split
        · exact hA
        · split
          · exact hA
          · exact hD _
    · split
      · unfold St.remove
        split
        · exact hA
        · split
          · exact hA
          · exact hD _
      · split
        · unfold St.sync
          split
          · exact hA
          · simp [St.settled, St.counted]
        · split
          · omega
          · split
            · omega
            · exact Nat.le_succ _

/-- Sync. -/
theorem does_sync {S : St} {o : OpD} {v : Value} (h4 : o.what = 4) : ((S.does o v).1 = 0 ∧ (S.does o v).2.Y = (S.does o v).2.F) ∨ ((S.does o v).1 = 13 ∧ (S.does o v).2.Y = S.Y) := by
  have e : S.does o v = S.sync := by simp [St.does, h4]
  rw [e]
  unfold St.sync
  cases S.asked.down
  · exact Or.inl ⟨rfl, rfl⟩
  · exact Or.inr ⟨rfl, rfl⟩

theorem rep_all {ch : List Ch} {Y : List Tri} (n : Nat) (hn : ch.length ≤ n) : ∀ i, i ≤ ch.length → rep ch (List.replicate n true) Y i = (ch.take i).foldl (fun T c => c.app T) Y
  | 0, _ => by simp [rep]
  | i + 1, hi => by
    have ih := rep_all (ch := ch) (Y := Y) n hn i (by omega)
    have h1 : ch[i]? = some ch[i] := List.getElem?_eq_getElem (by omega)
    have h2 : (List.replicate n true)[i]? = some true := by rw [List.getElem?_replicate]; simp; omega
    rw [rep_done h1 h2, ih, List.take_add_one, h1]
    rw [List.foldl_append]
    rfl

theorem rep_none {ch : List Ch} {Y : List Tri} (n : Nat) : ∀ i, rep ch (List.replicate n false) Y i = Y
  | 0 => rfl
  | i + 1 => by
    rw [rep_not, rep_none n i]
    rw [List.getElem?_replicate]
    split <;> simp

theorem crash_whole {S : St} (h : Whole S) : (S.crash (List.replicate S.ch.length true)).F = S.F := by
  show rep _ _ _ _ = _
  rw [rep_all _ (Nat.le_refl _) _ (Nat.le_refl _), List.take_length]
  exact h.symm

theorem crash_none (S : St) : (S.crash (List.replicate S.ch.length false)).F = S.Y := rep_none _ _

theorem live_crash_kept {w w0 wi : World} {p : Nat} {S : St} (h : Live w w0 p S) (hf : Fr None' w0 wi) (hS : S.fine) (v : Value) (keep : List Bool) (hv : Bools wi v keep) (hO : Aside w w0 v) {x y : Value} {A B : List Tri} (hx : FilesRes wi x A) (hy : FilesRes wi y B) :
    Calls Try.prog 25 #[.pointer (some ⟨p, 0, none⟩), v] wi fun e w' => e = .returned (.tuple #[]) ∧ Live w w' p (S.crash keep) ∧ FilesRes w' x A ∧ FilesRes w' y B := by
  obtain ⟨M, h1, h2, h3⟩ := h
  refine (crash_any p M S v keep wi (h1.fresh hf) hS hv (hO.out h1 h3)).mono fun _ _ ⟨e1, hst⟩ => ?_
  have hst' := hst
  obtain ⟨M', _, hfr, _⟩ := hst'
  exact ⟨e1, Live.step (h2.then hf) h3 hst, hx.kept hfr (h1.fresh hf).still, hy.kept hfr (h1.fresh hf).still⟩

theorem inv_crash {k : Nat} {S : St} (h : Inv k S) (keep : List Bool) : Inv (k + 1) (S.crash keep) :=
  ⟨h.a0, by have := h.a1; simp [St.crash]; omega, by simp [St.crash], by have := h.nc; simp [St.crash]; omega, small_rep h.sY h.sC _, small_rep h.sY h.sC _, fun c hc => by simp [St.crash] at hc⟩

theorem Try.infoBl : (Try.prog.info? 4).map (fun i => (i.zero, i.size, i.bytes)) = some (some (.bool false), 1, 1) := by kernel_rfl

theorem makeB (n : Nat) (hn : n ≤ 400) (w : World) : ∃ w', (Instr.makeSlice 34 (.int .i64 n) (.int .i64 n)).run Try.prog w = .ok (.slice (some ⟨w.heap.size, 0, none⟩) n n) w' ∧ w'.rowIs w.heap.size 4 n (fun _ => .bool false) ∧ Fr None' w w' :=
  ⟨_, run_make_row' (P := Try.prog) 34 4 (.bool false) 1 Try.underlying34 Try.infoBl rfl .i64 .i64 n (by omega) (by omega) w, World.rowIs_made w _ n 4, Fr.alloc _ _ _⟩

theorem bools_row {w : World} {b n : Nat} {a : Bool} (h : w.rowIs b 4 n (fun _ => .bool a)) : Bools w (.slice (some ⟨b, 0, none⟩) n n) (List.replicate n a) := by
  refine Or.inr ⟨⟨b, 0, none⟩, n, by simp, fun j u hj => ⟨rfl, ?_⟩⟩
  rw [List.getElem?_replicate] at hj
  split at hj
  · rename_i hlt
    cases hj
    simpa using h.cell hlt
  · cases hj

set_option maxHeartbeats 8000000 in
theorem kept_walk (vf vl : Value) (all : Bool) (FL : List FileD) (L : List OpD) (w : World) (hfl : FilesAt w w.heap.size vf FL) (hFL : FL.length ≤ reachBytes) (hl : OpsAt w w.heap.size vl L) (hL : L.length ≤ reachBytes) :
    Calls Try.prog 5 #[vf, vl, .bool all] w fun e w' => e = .returned (.bool true) ∧ Fr None' w w' := by
  obtain ⟨fa, fc, rfl, hfat⟩ := hfl.shape
  obtain ⟨va, vc, rfl, hat⟩ := hl.shape
  go_enter Try.func5, Try.ntmps5
  go_wp2_with fail
  refine (head_any w).mono ?_
  rintro e w1 ⟨rfl, F1⟩
  go_wp2_with fail
  have hB := F1.size
  have hOf := of_any 1048576 _ FL w1 (by
    have h1 := hfl.kept F1 (fun _ e => e.elim) (Nat.le_refl _)
    exact h1.higher hB)
  refine hOf.mono ?_
  rintro e w2 (⟨rfl, hbad, F2⟩ | ⟨p, T, rfl, h512, hgood, hbuilt, L0⟩)
  · clear hOf hbad hB
    go_wp2
    go_ret
    exact ⟨rfl, F1.then F2⟩
  · have L0' := L0.lower F1
    clear hOf hB L0
    go_wp2_with fail
    refine (greatFiles_any w.heap.size _ FL w2 (hfl.kept L0'.fr (fun _ e => e.elim) (Nat.le_refl _)) hFL).mono ?_
    rintro e w3 ⟨gf, rfl, F3⟩
    cases gf
    · have L1 := L0'.fresh F3
      go_wp2_with fail
      refine (great_any w.heap.size _ L w3 (hl.kept L1.fr (fun _ e => e.elim) (Nat.le_refl _)) hL).mono ?_
      rintro e w4 ⟨g, rfl, F4, hg⟩
      cases g
      · obtain ⟨hl3, hbs⟩ := hg rfl
        have L2 := L1.fresh F4
        have i2 := inv_of (room := 1048576) h512 hgood hbuilt
        clear hg L1 L0' F3 F4 F1 hFL hL hfat hfl
        go_wp2_with fail
        refine (live_files L2 i2 (by omega)).mono ?_
        rintro e w5 ⟨x, X, rfl, hX, hkX, hXl, L3, F5⟩
        clear L2 F5
        have W0 : Whole (St.of 1048576 T FL.length) := rfl
        have C0 : (St.of 1048576 T FL.length).ch.length ≤ 0 := Nat.le_refl _
        have K0 : kb X = sortedFiles (St.of 1048576 T FL.length).Y := hkX
        generalize St.of 1048576 T FL.length = S0 at i2 L3 W0 C0 K0 hkX
        clear hkX hgood hbuilt
        go_wp2_with fail
        go_loopw [9, 10] (fun sy i wr => ∃ (k : Nat) (S : St) (X : List Tri), k ≤ L.length ∧ i = .int .i64 k ∧ Live w wr p S ∧ Inv k S ∧ Whole S ∧ S.ch.length ≤ k ∧ FilesRes wr sy X ∧ kb X = sortedFiles S.Y ∧ X.length ≤ 1000000) (fun _ i _ => L.length - (intOf i).toNat)
        case atStart => exact ⟨0, S0, X, Nat.zero_le _, rfl, L3, i2, W0, C0, hX, K0, hXl⟩
        case round =>
          obtain ⟨k, S, X, hk, rfl, hlive, hinv, hwh, hch, hX, hkX, hXl⟩ := hrel
          clear L3 i2 W0 C0 K0
          obtain ⟨xa, xc, rfl⟩ := row_slice hX.1
          by_cases hlt : k < L.length
          · obtain ⟨o, ho⟩ : ∃ o, L[k]? = some o := ⟨L[k], by simp [hlt]⟩
            obtain ⟨g, off, vb, vk, rfl, hgB, hov, hkl, c0, c1, c2, c3, c4, c5⟩ := hat k o ho
            have hob := (hbs o (List.mem_of_getElem? ho)).1
            have hon := hov.2.2.2.2.2.2.2.1
            obtain ⟨sb, cb, rfl⟩ := bytes_slice hov.1
            obtain ⟨sk, ck, rfl⟩ := bools_slice hov.2.1
            have i0 : (0 : Int) ≤ (k : Int) := by omega
            have i1 : (k : Int) < (L.length : Int) := by omega
            have HC : Hid (∀ wr, Fr None' w wr → ∀ off, wr.cell? ⟨g, off, none⟩ = w.cell? ⟨g, off, none⟩) := fun wr hf off => World.cell?_of_block (w := w) (a := ⟨g, off, none⟩) (hf.block g hgB (fun e => e))
            have ho4 := hov.kept hlive.fr (fun _ e => e.elim)
            have d0 := (HC.out _ hlive.fr _).trans c0
            have d1 := (HC.out _ hlive.fr _).trans c1
            have d2 := (HC.out _ hlive.fr _).trans c2
            have d3 := (HC.out _ hlive.fr _).trans c3
            have d4 := (HC.out _ hlive.fr _).trans c4
            have d5 := (HC.out _ hlive.fr _).trans c5
            have HX : Hid (kb X = sortedFiles S.Y ∧ Whole S ∧ S.ch.length ≤ k) := ⟨hkX, hwh, hch⟩
            clear hat hkl hl hbs ho hov c1 c2 c3 c4 c5 hkX hwh hch
            by_cases hw5 : o.what < 5
            · go_wp2_with fail
              refine (live_does_kept hlive hinv (by omega) o _ _ ho4 hob hX).mono ?_
              rintro e w6 ⟨v, rfl, L6, hX6⟩
              have i6 := hinv.does o v hon
              have e0 := (HC.out _ L6.fr _).trans c0
              have HW : Hid (Whole (S.does o v).2 ∧ (S.does o v).2.ch.length ≤ k + 1) := ⟨HX.out.2.1.does o v hw5, by have h1 := ch_does S o v hw5; have h2 := HX.out.2.2; omega⟩
              have hsy := does_sync (S := S) (o := o) (v := v)
              have hst := does_stays (S := S) (o := o) (v := v)
              generalize (S.does o v).1 = r at hsy ⊢
              generalize (S.does o v).2 = S6 at L6 i6 hsy hst HW
              clear d0 d1 d2 d3 d4 d5 ho4 hlive hinv hX c0
              by_cases h4 : o.what = 4
              · have t4 : (o.what == 4) = true := by simpa using h4
                rcases hsy h4 with ⟨rfl, hy⟩ | ⟨rfl, hy⟩
                · clear hsy hst h4
                  go_wp2_with fail
                  refine (live_files L6 i6 (by omega)).mono ?_
                  rintro e w7 ⟨y, Y, rfl, hY, hkY, hYl, L7, F7⟩
                  rw [← hy] at hkY
                  have HK : Hid (kb Y = sortedFiles S6.Y) := hkY
                  obtain ⟨ya, yc, rfl⟩ := row_slice hY.1
                  clear hkY hy
                  go_wp2_with fail
                  go_roundw
                  case rel => exact ⟨k + 1, S6, Y, by omega, by go_num, L7, i6, HW.out.1, HW.out.2, hY, HK.out, hYl⟩
                  case measure => simp [intOf]; omega
                · have HK : Hid (kb X = sortedFiles S6.Y) := by rw [hy]; exact HX.out.1
                  clear hsy hst h4 hy
                  go_wp2_with fail
                  go_roundw
                  case rel => exact ⟨k + 1, S6, X, by omega, by go_num, L6, i6, HW.out.1, HW.out.2, hX6, HK.out, hXl⟩
                  case measure => simp [intOf]; omega
              · have t4 : (o.what == 4) = false := by simpa using h4
                have HK : Hid (kb X = sortedFiles S6.Y) := by rw [(hst h4 (by omega)).1]; exact HX.out.1
                clear hsy hst h4
                go_wp2_with fail
                go_roundw
                case rel => exact ⟨k + 1, S6, X, by omega, by go_num, L6, i6, HW.out.1, HW.out.2, hX6, HK.out, hXl⟩
                case measure => simp [intOf]; omega
            · have i6 := hinv.more (Nat.le_succ k)
              clear d1 d2 d3 d4 d5 ho4 hinv c0
              go_wp2_with fail
              go_roundw
              case rel => exact ⟨k + 1, S, X, by omega, by go_num, hlive, i6, HX.out.2.1, by have := HX.out.2.2; omega, hX, HX.out.1, hXl⟩
              case measure => simp [intOf]; omega
          · have hkL : k = L.length := by omega
            subst hkL
            clear hat hl hbs hlt hk
            have HX : Hid (kb X = sortedFiles S.Y ∧ Whole S) := ⟨hkX, hwh⟩
            clear hkX hwh
            go_wp2_with fail
            refine (live_files hlive hinv (by omega)).mono ?_
            rintro e w6 ⟨y, Y, rfl, hY, hkY, hYl, L6, F6⟩
            obtain ⟨ya, yc, rfl⟩ := row_slice hY.1
            have hX6 := hX.kept F6 (stillN _)
            clear hX F6 hlive
            go_wp2_with fail
            refine (live_loose L6).mono ?_
            rintro e w7 ⟨rfl, rfl⟩
            have hn4 : S.ch.length ≤ 400 := by omega
            have hn4' : (S.ch.length : Int) ≤ 400 := by omega
            obtain ⟨w7, hmk, hrow, F7⟩ := makeB S.ch.length hn4 w6
            go_wp2_with fail
            go_loopw [15] (fun i wr => ∃ j : Nat, j ≤ S.ch.length ∧ i = .int .i64 j ∧ wr.rowIs w6.heap.size 4 S.ch.length (fun i => if i < j then .bool all else .bool false) ∧ Fr None' w6 wr) (fun i _ => S.ch.length - (intOf i).toNat)
            case atStart => exact ⟨0, Nat.zero_le _, rfl, hrow.congr (fun i _ => by simp), F7⟩
            case round =>
              obtain ⟨j, hj, rfl, hr, hfr⟩ := hrel
              clear hmk hrow F7
              by_cases hlt : j < S.ch.length
              · have hc := hr.cell hlt
                have hz := hr.frozen j
                have hr' := (hr.set j (.bool all)).congr (g := fun i => if i < j + 1 then .bool all else .bool false) (fun i _ => by
                  by_cases e : i = j
                  · subst e; simp
                  · have e1 : (i < j + 1) = (i < j) := propext ⟨fun h => by omega, fun h => by omega⟩
                    simp [e, e1])
                have hfr' : Fr None' w6 (wr.setCell ⟨w6.heap.size, j, none⟩ (.bool all)) := hfr.trans (Fr.setCell (M := fun k => k = w6.heap.size) wr rfl _) (fun i e => Or.inr (by omega))
                have i0 : (0 : Int) ≤ (j : Int) := by omega
                have i1 : (j : Int) < (S.ch.length : Int) := by omega
                have HR : Hid ((wr.setCell ⟨w6.heap.size, j, none⟩ (.bool all)).rowIs w6.heap.size 4 S.ch.length (fun i => if i < j + 1 then .bool all else .bool false) ∧ Fr None' w6 (wr.setCell ⟨w6.heap.size, j, none⟩ (.bool all))) := ⟨hr', hfr'⟩
                clear hr' hfr' hr hfr
                go_wp2
                go_roundw
                case rel => exact ⟨j + 1, by omega, by go_num, HR.out.1, HR.out.2⟩
                case measure => simp [intOf]; omega
              · have hjl : j = S.ch.length := by omega
                subst hjl
                have hbo := bools_row (hr.congr (g := fun _ => .bool all) (fun i hi => by simp [hi]))
                have hX7 := hX6.kept hfr (stillN _)
                have hY7 := hY.kept hfr (stillN _)
                clear hr hX6 hY
                go_wp2_with fail
                refine (live_crash_kept L6 hfr (hinv.fine (by omega)) _ _ hbo (aside_new _ _ _ _) hX7 hY7).mono ?_
                rintro e w8 ⟨rfl, L8, hX8, hY8⟩
                have i8 := inv_crash hinv (List.replicate S.ch.length all)
                have hl8 : (S.crash (List.replicate S.ch.length all)).ch.length = 0 := rfl
                cases all
                · have hF := crash_none S
                  generalize S.crash (List.replicate S.ch.length false) = S8 at L8 i8 hl8 hF
                  clear hX7 hY7 hbo hinv L6
                  go_wp2_with fail
                  refine (live_files L8 i8 (by omega)).mono ?_
                  rintro e w9 ⟨z, Z, rfl, hZ, hkZ, hZl, L9, F9⟩
                  obtain ⟨za, zc, rfl⟩ := row_slice hZ.1
                  go_wp2_with fail
                  refine (same_any _ _ Z X w9 hZ (hX8.kept F9 (stillN _)) (by rw [hkZ, hF]; exact HX.out.1.symm) hZl).mono ?_
                  rintro e w10 ⟨rfl, F10⟩
                  have L10 := L9.fresh F10
                  go_wp2_with fail
                  refine (live_loose L10).mono ?_
                  rintro e w11 ⟨rfl, rfl⟩
                  rw [hl8]
                  go_wp2
                  go_ret
                  exact ⟨rfl, L10.fr⟩
                · have hF := crash_whole HX.out.2
                  generalize S.crash (List.replicate S.ch.length true) = S8 at L8 i8 hl8 hF
                  clear hX7 hY7 hbo hinv L6
                  go_wp2_with fail
                  refine (live_files L8 i8 (by omega)).mono ?_
                  rintro e w9 ⟨z, Z, rfl, hZ, hkZ, hZl, L9, F9⟩
                  obtain ⟨za, zc, rfl⟩ := row_slice hZ.1
                  go_wp2_with fail
                  refine (same_any _ _ Z Y w9 hZ (hY8.kept F9 (stillN _)) (by rw [hkZ, hF]; exact hkY.symm) hZl).mono ?_
                  rintro e w10 ⟨rfl, F10⟩
                  have L10 := L9.fresh F10
                  go_wp2_with fail
                  refine (live_loose L10).mono ?_
                  rintro e w11 ⟨rfl, rfl⟩
                  rw [hl8]
                  go_wp2
                  go_ret
                  exact ⟨rfl, L10.fr⟩
      · clear hg
        go_wp2
        go_ret
        exact ⟨rfl, L1.fr.then F4⟩
    · go_wp2
      go_ret
      exact ⟨rfl, L0'.fr.then F3⟩

end Go.Proofs.Ytijcddgiaegoiaa
