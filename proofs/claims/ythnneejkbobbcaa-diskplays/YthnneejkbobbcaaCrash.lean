/-
  What is proved here: what Crash leaves. Condition: the disk lies in memory, its counts are small, and what is kept is no block of the disk's own.
-/
import Derived.Test.YthnneejkbobbcaaRest
namespace Go.Proofs.Ythnneejkbobbcaa
open Go.RowKit Go.Maps Go.WideMaps
set_option maxRecDepth 100000

/-- The slice v holds these truths. -/
def Bools (w : World) (v : Value) (l : List Bool) : Prop :=
  (v = .slice none 0 0 ∧ l = []) ∨ ∃ ad c, v = .slice (some ad) l.length c ∧ ∀ j u, l[j]? = some u → ad.spot = none ∧ w.cell? ⟨ad.block, ad.off + j, none⟩ = some (.bool u)

/-- The first i changes, of which those are done that are kept. -/
def rep (ch : List Ch) (keep : List Bool) (Y : List Tri) : Nat → List Tri
  | 0 => Y
  | i + 1 => match ch[i]?, keep[i]? with
    | some c, some true => c.app (rep ch keep Y i)
    | _, _ => rep ch keep Y i

def St.crash (S : St) (keep : List Bool) : St :=
  { S with F := rep S.ch keep S.Y S.ch.length, Y := rep S.ch keep S.Y S.ch.length, ch := [], fuse := -1, down := false, n := S.n + S.ch.length }

theorem DiskAt.more {w : World} {p bf bs n : Nat} {ca : Value} {S : St} (h : DiskAt w p bf bs ca S) (hn : S.n ≤ n) : DiskAt w p bf bs ca { S with n := n } :=
  ⟨h.own, h.files.mono hn, h.synced.mono hn, h.ne, h.changes, h.dataF, h.dataY⟩

theorem row_cell {w : World} {e : TypeId} {g n cap : Nat} {xs : List Value} (h : w.ownsRow 0 e 1 (.slice (some ⟨g, 0, none⟩) n cap) n xs) {k : Nat} {u : Value} (hk : xs[k]? = some u) : w.cell? ⟨g, k, none⟩ = some u := by
  rcases h.2 with ⟨hv, _⟩ | ⟨g', cap', cur, hv, _, hh, _, _, _, ht⟩
  · cases hv
  · cases hv
    rw [← ht] at hk
    have hk' : cur.toList[k]? = some u := by
      rw [List.getElem?_take] at hk
      split at hk
      · exact hk
      · cases hk
    simp [World.cell?, hh]
    simpa using hk'

/-- The files that were synced are the files. -/
theorem DiskAt.back {w w1 : World} {p bf bs : Nat} {ca : Value} {S : St} (h : DiskAt w p bf bs ca S) (hf : Fr None' w w1) (hm : w1.ownsMap Try.prog 9 heldR w.heap.size S.n (toD S.Y)) :
    DiskAt (w1.setCell ⟨p, 1, none⟩ (.map (some w.heap.size))) p w.heap.size bs ca { S with F := S.Y } ∧ Fr (fun k => k = p) w (w1.setCell ⟨p, 1, none⟩ (.map (some w.heap.size))) := by
  have h1 := h.fresh hf
  refine ⟨h1.stored rfl (hm.setCell (h1.p_map hm) _) (h1.synced.setCell (h1.p_map h1.synced) _) (fun e => ?_) ?_ h1.dataY h1.dataY, (hf.mono (fun _ e => e.elim)).trans (Fr.setCell w1 (M := fun k => k = p) (a := ⟨p, 1, none⟩) (by rfl) _) (fun _ e => Or.inl e)⟩
  · have := h.synced.lt; omega
  · obtain ⟨fs, a1, a2⟩ := h1.changes
    exact ⟨fs, (Fr.setCell (M := fun k => k = p) _ (a := ⟨p, 1, none⟩) rfl _).row a1 (fun g e e' => h1.p_row (e' ▸ e)), a2⟩

theorem DiskAt.stillp {w : World} {p bf bs : Nat} {ca : Value} {S : St} (h : DiskAt w p bf bs ca S) : Still (fun k => k = p) w := fun k c e f hk hm => h.still k c e f hk (Or.inl hm)

/-- One change more, done or not. -/
theorem rep_done {ch : List Ch} {keep : List Bool} {Y : List Tri} {k : Nat} {c : Ch} (h1 : ch[k]? = some c) (h2 : keep[k]? = some true) : rep ch keep Y (k + 1) = c.app (rep ch keep Y k) := by
  simp [rep, h1, h2]
theorem rep_not {ch : List Ch} {keep : List Bool} {Y : List Tri} {k : Nat} (h2 : keep[k]? ≠ some true) : rep ch keep Y (k + 1) = rep ch keep Y k := by
  rw [rep]
  split
  · rename_i h; exact absurd h h2
  · rfl

set_option maxHeartbeats 4000000 in
theorem crash_any (p : Nat) (M : Nat → Prop) (S : St) (v : Value) (keep : List Bool) (w : World) (h : Disk w p M S) (hS : S.fine) (hv : Bools w v keep) (hM : Out M v) :
    Calls Try.prog 24 #[.pointer (some ⟨p, 0, none⟩), v] w fun e w' => e = .returned (.tuple #[]) ∧ Stepped M w p (S.crash keep) w' := by
  obtain ⟨bf, bs, ca, h, rfl⟩ := h
  obtain ⟨_, _, c2, _⟩ := h.cells
  obtain ⟨fs, hrow, hfs⟩ := h.changes
  have hlen := hfs.length
  have hS1 := hS.n1
  have hS2 := hS.c1
  obtain ⟨ca0, cap, rfl⟩ := row_slice hrow
  have hat : ∀ wr, Fr (fun k => k = p) w wr → ∀ k f, fs[k]? = some f → ∃ g, ca0 = some ⟨g, 0, none⟩ ∧ wr.cell? ⟨g, k, none⟩ = some f := fun wr fwr k f hf => by
    have hr := fwr.row hrow (fun g e e' => h.p_row (e' ▸ e))
    rcases hrow.2 with ⟨hv, h0⟩ | ⟨g, cap', cur, hv, _⟩
    · have := (List.getElem?_eq_some_iff.1 hf).1; omega
    · cases hv; exact ⟨g, rfl, row_cell hr hf⟩
  obtain ⟨va, vc, rfl, hva⟩ : ∃ va vc, v = .slice va keep.length vc ∧ ∀ wr, Fr (fun k => k = p) w wr → ∀ k u, keep[k]? = some u → ∃ g off, va = some ⟨g, off, none⟩ ∧ wr.cell? ⟨g, off + k, none⟩ = some (.bool u) := by
    rcases hv with ⟨rfl, rfl⟩ | ⟨ad, c, rfl, hc⟩
    · exact ⟨none, 0, rfl, fun _ _ k u hu => by simp at hu⟩
    · refine ⟨_, c, rfl, fun wr fwr k u hu => ?_⟩
      obtain ⟨h0, h1⟩ := hc k u hu
      have hlt : ad.block < w.heap.size := by
        unfold World.cell? at h1
        split at h1
        · rename_i hk; exact lt_of_some hk
        · cases h1
      refine ⟨ad.block, ad.off, by rw [← h0], ?_⟩
      rw [World.cell?_of_block (w := w) (a := ⟨ad.block, ad.off + k, none⟩) (fwr.block _ hlt (fun e => hM ad _ _ rfl (fun e0 => by have := (List.getElem?_eq_some_iff.1 hu).1; omega) (Or.inl e)))]
      exact h1
  have hsp := h.stillp
  clear hv
  go_enter Try.func24, Try.ntmps24
  go_wp2_with (first
    | (go_at_call 49; refine (mclone_any _ _ _ _ h.synced).mono ?_; rintro e w1 ⟨rfl, o, hw1, hcl⟩; have f1 : Fr None' w w1 := hw1 ▸ Fr.alloc _ _ _; clear hw1; have h1 := h.fresh f1; obtain ⟨_, d1, _, d3, _, _, _, z⟩ := h1.cells; have z1 := z 1; clear z; obtain ⟨h2, f2⟩ := h.back f1 hcl))
  go_loopw [19] (fun i wr => ∃ k : Nat, k ≤ S.ch.length ∧ i = .int .i64 k ∧ DiskAt wr p w.heap.size bs (.slice ca0 S.ch.length cap) { S with F := rep S.ch keep S.Y k, n := S.n + k } ∧ Fr (fun k => k = p) w wr) (fun i _ => S.ch.length - (intOf i).toNat)
  case atStart => exact ⟨0, Nat.zero_le _, rfl, h2, f2⟩
  case round =>
    obtain ⟨k, hk, rfl, hwr, fwr⟩ := hrel
    obtain ⟨_, e1, _⟩ := hwr.cells
    clear h2 f2 h1 f1 d1 d3 z1 hcl c2
    by_cases hlt : k < S.ch.length
    · obtain ⟨f, hf⟩ : ∃ f, fs[k]? = some f := ⟨fs[k]'(by omega), by simp⟩
      obtain ⟨c, hc, hclo⟩ := (fwr.clos hsp hfs).get hf
      obtain ⟨g, rfl, hcell⟩ := hat wr fwr k f hf
      clear hat
      by_cases hkeep : keep[k]? = some true
      · have hkl : k < keep.length := (List.getElem?_eq_some_iff.1 hkeep).1
        obtain ⟨g2, off2, rfl, hc2⟩ := hva wr fwr k true hkeep
        have hrep := rep_done (Y := S.Y) hc hkeep
        have hdat := allData_app hclo hwr.dataF
        have hn : S.n + k < maxLen := by unfold maxLen; omega
        have done : ∀ w3, w3.ownsMap Try.prog 9 heldR w.heap.size (S.n + k + 1) (toD (c.app (rep S.ch keep S.Y k))) → wr.mapTurned w3 w.heap.size →
            DiskAt w3 p w.heap.size bs (.slice (some ⟨g, 0, none⟩) S.ch.length cap) { S with F := rep S.ch keep S.Y (k + 1), n := S.n + (k + 1) } ∧ Fr (fun k => k = p) w w3 := fun w3 hm ht => by
          refine ⟨?_, fwr.trans (Fr.turned (M := fun i => i = w.heap.size) ht rfl) (fun i e => Or.inr (by omega))⟩
          rw [hrep]
          exact hwr.turned ht (by simp) hm hdat
        clear hva hrep hdat
        rcases c.three with ⟨t, rfl⟩ | ⟨x, y, rfl⟩ | ⟨x, rfl⟩
        · obtain ⟨b1, b2, rfl, q1, q2, q3⟩ := hclo
          go_wp2_with (first
            | (go_at_call 46; refine (w1_any w.heap.size (S.n + k) b1 b2 t _ _ q1 q2 q3 hwr.files hn).mono ?_; rintro e w3 ⟨rfl, hm, ht⟩; obtain ⟨r1, r2⟩ := done w3 hm ht; clear hm ht done))
          go_roundw
          case rel => exact ⟨k + 1, by omega, by go_num, r1, r2⟩
          case measure => simp [intOf]; omega
        · obtain ⟨b1, b2, rfl, q1, q2⟩ := hclo
          go_wp2_with (first
            | (go_at_call 48; refine (r1_any w.heap.size (S.n + k) b1 b2 x y _ _ q1 q2 hwr.files hn).mono ?_; rintro e w3 ⟨rfl, hm, ht⟩; obtain ⟨r1, r2⟩ := done w3 hm ht; clear hm ht done))
          go_roundw
          case rel => exact ⟨k + 1, by omega, by go_num, r1, r2⟩
          case measure => simp [intOf]; omega
        · obtain ⟨b1, rfl, q1⟩ := hclo
          go_wp2_with (first
            | (go_at_call 52; refine (rm1_any w.heap.size (S.n + k) b1 x _ _ q1 hwr.files).mono ?_; rintro e w3 ⟨rfl, hm, ht⟩; obtain ⟨r1, r2⟩ := done w3 hm ht; clear hm ht done))
          go_roundw
          case rel => exact ⟨k + 1, by omega, by go_num, r1, r2⟩
          case measure => simp [intOf]; omega
      · have hrep := rep_not (ch := S.ch) (Y := S.Y) hkeep
        by_cases hkl : k < keep.length
        · obtain ⟨g2, off2, rfl, hc2⟩ := hva wr fwr k false (by
            cases hb : keep[k] with
            | false => rw [List.getElem?_eq_getElem hkl, hb]
            | true => exact absurd (by rw [List.getElem?_eq_getElem hkl, hb]) hkeep)
          have hrel' : DiskAt wr p w.heap.size bs (.slice (some ⟨g, 0, none⟩) S.ch.length cap) { S with F := rep S.ch keep S.Y (k + 1), n := S.n + (k + 1) } := by
            rw [hrep]; exact hwr.more (by simp)
          clear hva hrep hkeep
          go_wp2
          go_roundw
          case rel => exact ⟨k + 1, by omega, by go_num, hrel', fwr⟩
          case measure => simp [intOf]; omega
        · have hrel' : DiskAt wr p w.heap.size bs (.slice (some ⟨g, 0, none⟩) S.ch.length cap) { S with F := rep S.ch keep S.Y (k + 1), n := S.n + (k + 1) } := by
            rw [hrep]; exact hwr.more (by simp)
          clear hva hrep hkeep
          go_wp2
          go_roundw
          case rel => exact ⟨k + 1, by omega, by go_num, hrel', fwr⟩
          case measure => simp [intOf]; omega
    · have hkk : k = S.ch.length := by omega
      subst hkk
      clear hat hva
      go_wp2_with (first
        | (go_at_call 28; refine (settle_any _ _ _ _ _ _ hwr).mono ?_; rintro e w3 ⟨rfl, h3, f3⟩; obtain ⟨_, _, _, _, _, d5, d6, z⟩ := h3.cells; have z5 := z 5; have z6 := z 6; clear z))
      go_end0
      have fin : DiskAt ((w3.setCell ⟨p, 5, none⟩ (.int .i64 (-1))).setCell ⟨p, 6, none⟩ (.bool false)) p w.heap.size wr.heap.size (.slice none 0 0) (S.crash keep) :=
        (h3.field (S' := { (St.settled { S with F := rep S.ch keep S.Y S.ch.length, n := S.n + S.ch.length }) with fuse := -1 }) rfl rfl rfl rfl rfl).field rfl rfl rfl rfl rfl
      refine ⟨rfl, _, fin.disk, ?_, ?_⟩
      · exact (((fwr.trans f3 (fun _ e => Or.inl e)).trans (M' := fun k => k = p) (Fr.setCell w3 (a := ⟨p, 5, none⟩) (by rfl) _) (fun _ e => Or.inl e)).trans (M' := fun k => k = p) (Fr.setCell _ (a := ⟨p, 6, none⟩) (by rfl) _) (fun _ e => Or.inl e)).mono (fun _ e => Or.inl e)
      · rintro k (e | e | e)
        · exact Or.inl (Or.inl e)
        · exact Or.inr (by omega)
        · cases e

end Go.Proofs.Ythnneejkbobbcaa
