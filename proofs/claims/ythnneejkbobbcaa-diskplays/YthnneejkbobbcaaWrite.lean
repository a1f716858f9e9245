/-
  What is proved here: what Write and Rename answer, and what they leave. Condition: the disk lies in memory, its counts are small, its files and what is written have fewer than 2^40 bytes.
-/
import Derived.Test.YthnneejkbobbcaaRefusal
namespace Go.Proofs.Ythnneejkbobbcaa
open Go.RowKit Go.Maps Go.WideMaps
set_option maxRecDepth 100000

def Out (M : Nat → Prop) (v : Value) : Prop := ∀ ad n c, v = .slice (some ad) n c → n ≠ 0 → ¬ M ad.block

theorem add_block (a : Addr) (j : Nat) : (a.add j).block = a.block := by unfold Addr.add; split <;> rfl

theorem Bytes.kept {M : Nat → Prop} {w w' : World} {v : Value} {b : List UInt8} (h : Bytes w v b) (hf : Fr M w w') (hM : Out M v) : Bytes w' v b := by
  rcases h with h | ⟨ad, c, hv, hc⟩
  · exact Or.inl h
  · refine Or.inr ⟨ad, c, hv, fun j u hj => ?_⟩
    have h1 := hc j u hj
    have hlt : (ad.add j).block < w.heap.size := by
      unfold World.cell? at h1
      split at h1
      · rename_i hk; exact lt_of_some hk
      · cases h1
    rw [World.cell?_of_block (w := w) (hf.block _ hlt (by rw [add_block]; exact hM ad _ _ hv (fun e0 => by have := (List.getElem?_eq_some_iff.1 hj).1; simp [u8s] at this; omega)))]
    exact h1

/-- Write. -/
def St.write (S : St) (t : Tri) : Int × St :=
  if S.asked.down then (13, S.asked) else if S.asked.refuse t.k t.b.length = 0 then (0, S.asked.did (Ch.wr t)) else (S.asked.refuse t.k t.b.length, S.asked)

theorem makeFunc_run : ∀ (fn : Fn) (first cap : Array Value) (w : World), (Instr.makeFunc fn first cap).run Try.prog w = .ok (.func fn first cap) w := fun _ _ _ _ => rfl

theorem named_new (w : World) (s : ByteArray) (hs : s.size ≤ maxLen) : Named (w.alloc (.cells #[.string s] 9)) w.heap.size s.data.toList := ⟨s, (MapKept.heap_alloc w _).1, rfl, hs⟩

theorem named_cell' {w : World} {b : Nat} {s : ByteArray} (h : w.heap[b]? = some (.cells #[.string s] 9)) : w.cell? ⟨b, 0, none⟩ = some (.string s) := by simp [World.cell?, h]

theorem clo_new {w : World} {nb : Nat} (s : ByteArray) (b : List UInt8) (a : Option Addr) (c : Nat) (hs : s.size ≤ maxLen) (hn : w.heap[nb]? = some (.cells #[.string s] 9)) (hd : Data w (.slice a b.length c) b) :
    Clo (w.alloc (.cells #[.slice a b.length c] 33)) (.func (.func 46) #[] #[.pointer (some ⟨w.heap.size, 0, none⟩), .pointer (some ⟨nb, 0, none⟩)]) (Ch.wr ⟨s.data.toList, .slice a b.length c, b⟩) :=
  ⟨_, _, rfl, (MapKept.heap_alloc w _).1, ⟨s, (Fr.alloc None' w _).at hn (fun e => e), rfl, hs⟩, (Fr.alloc None' w _).data (fun _ _ _ _ _ hm => hm.elim) hd⟩

set_option maxHeartbeats 2000000 in
theorem write_any (p : Nat) (M : Nat → Prop) (S : St) (s : ByteArray) (v : Value) (b : List UInt8) (w : World) (h : Disk w p M S) (hS : S.fine) (hs : s.size ≤ maxLen) (hv : Bytes w v b) (hM : Out M v)
    (hu : used S.F < 1099511627776) (hb : b.length < 1099511627776) :
    Calls Try.prog 21 #[.pointer (some ⟨p, 0, none⟩), .string s, v] w fun e w' => ∃ v', e = .returned (.int .i64 (S.write ⟨s.data.toList, v', b⟩).1) ∧ Stepped M w p (S.write ⟨s.data.toList, v', b⟩).2 w' := by
  obtain ⟨bf, bs, ca, h, rfl⟩ := h
  have hmf := makeFunc_run
  have hmp : ∀ k, k = p → Mut p bf ca k := fun k e => Or.inl e
  obtain ⟨w0, hw0⟩ : ∃ w0, w0 = w.alloc (.cells #[.string s] 9) := ⟨_, rfl⟩
  have f0 : Fr (Mut p bf ca) w w0 := hw0 ▸ Fr.alloc _ _ _
  have h0 : DiskAt w0 p bf bs ca S := h.fresh (hw0 ▸ Fr.alloc _ _ _)
  have n0 : w0.heap[w.heap.size]? = some (.cells #[.string s] 9) := hw0 ▸ (MapKept.heap_alloc w _).1
  have hA := h0.asked
  have v0 := hv.kept f0 hM
  cases hd : S.asked.down
  · rw [hd] at hA
    obtain ⟨va, vc, hvs⟩ : ∃ va vc, v = .slice va b.length vc := by
      rcases hv with ⟨e1, e2⟩ | ⟨ad, c, e1, _⟩
      · exact ⟨none, 0, by rw [e1, e2]; rfl⟩
      · exact ⟨_, _, e1⟩
    by_cases hr : S.asked.refuse s.data.toList b.length = 0
    · have hw : ∀ v', S.write ⟨s.data.toList, v', b⟩ = (0, S.asked.did (Ch.wr ⟨s.data.toList, v', b⟩)) := fun v' => by simp [St.write, hd, hr]
      simp only [hw]
      have hR := fun w1 (h1 : DiskAt w1 p bf bs ca S.asked) => refusal_any p bf bs ca S.asked s b.length w1 h1 hs hu hb
      simp only [hr] at hR
      subst hvs
      clear hw hv hd hr
      subst hw0
      go_enter Try.func21, Try.ntmps21
      go_wp2_with (first
        | (go_at_call 43; refine hA.mono ?_; rintro e w1 ⟨rfl, h1, f1⟩; have n1 := (f1.mono hmp).cellsAt h0.still n0 (by decide) (by decide); have cn := named_cell' n1; have v1 := v0.kept (f1.mono hmp) hM)
        | (go_at_call 44; refine (hR w1 h1).mono ?_; rintro e w2 ⟨rfl, f2⟩; have h2 := h1.fresh f2; have n2 := f2.at n1 (fun e => e); have v2 := v1.kept f2 (fun _ _ _ _ _ e => e))
        | (go_at_call 27; refine (bclone_any _ _ _ v2 (by omega)).mono ?_; rintro e w3 ⟨v', rfl, d3, f3⟩; have h3 := h2.fresh f3; have n3 := f3.at n2 (fun e => e); obtain ⟨a3, c3, rfl⟩ := row_slice d3; have h4 : DiskAt (w3.alloc (.cells #[.slice a3 b.length c3] 33)) p bf bs ca S.asked := h3.fresh (Fr.alloc _ _ _); have k4 := clo_new s b a3 c3 hs n3 d3)
        | (go_at_call 45; refine (do_any p bf bs ca _ S.asked _ _ h4 k4 (fine_asked hS)).mono ?_; rintro e w4 ⟨rfl, ca', h5, f5, g5⟩))
      go_ret
      have hall : Fr (Mut p bf ca) w (w3.alloc (.cells #[.slice a3 b.length c3] 33)) :=
        (((f0.trans (f1.mono hmp) (fun _ e => Or.inl e)).trans f2 (fun _ e => e.elim)).trans f3 (fun _ e => e.elim)).trans (Fr.alloc None' _ _) (fun _ e => e.elim)
      exact ⟨_, rfl, _, h5.disk, hall.trans f5 (fun _ e => Or.inl e), fun k hk => (g5 k hk).imp id (fun e => Nat.le_trans hall.size e)⟩
    · have hw : ∀ v', S.write ⟨s.data.toList, v', b⟩ = (S.asked.refuse s.data.toList b.length, S.asked) := fun v' => by simp [St.write, hd, hr]
      simp only [hw]
      have hR := fun w1 (h1 : DiskAt w1 p bf bs ca S.asked) => refusal_any p bf bs ca S.asked s b.length w1 h1 hs hu hb
      generalize S.asked.refuse s.data.toList b.length = r at hr hR ⊢
      have hr' : (r == 0) = false := by simpa using hr
      subst hvs
      clear hw hv hd hr
      subst hw0
      go_enter Try.func21, Try.ntmps21
      go_wp2_with (first
        | (go_at_call 43; refine hA.mono ?_; rintro e w1 ⟨rfl, h1, f1⟩; have n1 := (f1.mono hmp).cellsAt h0.still n0 (by decide) (by decide); have cn := named_cell' n1; have v1 := v0.kept (f1.mono hmp) hM)
        | (go_at_call 44; refine (hR w1 h1).mono ?_; rintro e w2 ⟨rfl, f2⟩; have h2 := h1.fresh f2))
      go_ret
      exact ⟨.slice none 0 0, rfl, _, h2.disk, (f0.trans (f1.mono hmp) (fun _ e => Or.inl e)).trans f2 (fun _ e => e.elim), fun k hk => Or.inl hk⟩
  · rw [hd] at hA
    have hw : ∀ v', S.write ⟨s.data.toList, v', b⟩ = (13, S.asked) := fun v' => by simp [St.write, hd]
    simp only [hw]
    clear hw hv hd
    subst hw0
    go_enter Try.func21, Try.ntmps21
    go_wp2_with (first
      | (go_at_call 43; refine hA.mono ?_; rintro e w1 ⟨rfl, h1, f1⟩))
    go_ret
    exact ⟨.slice none 0 0, rfl, _, h1.disk, f0.trans (f1.mono hmp) (fun _ e => Or.inl e), fun k hk => Or.inl hk⟩

end Go.Proofs.Ythnneejkbobbcaa
