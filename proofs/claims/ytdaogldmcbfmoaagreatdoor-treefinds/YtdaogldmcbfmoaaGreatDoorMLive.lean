/-
  What is proved here: the disk's calls, told by plain states, of a disk that was made behind a world w of which nothing turns. Conditions: as in the texts that this one stands on.
-/
import Derived.Test.YtdaogldmcbfmoaaGreatDoorM32Refusal
import Derived.Laws.IdiomStrings
namespace Go.Proofs.YtdaogldmcbfmoaaGreatDoor
open Go.RowKit Go.Maps Go.WideMaps
set_option maxRecDepth 100000

/-- In wi lies a disk S at p, made since w; nothing of w has turned. -/
def Live (w wi : World) (p : Nat) (S : St) : Prop := ∃ M, Disk wi p M S ∧ Fr None' w wi ∧ ∀ k, M k → w.heap.size ≤ k

theorem Disk.lt {w : World} {p : Nat} {M : Nat → Prop} {S : St} (h : Disk w p M S) {k : Nat} (hk : M k) : k < w.heap.size := by
  obtain ⟨bf, bs, ca, h, rfl⟩ := h
  rcases hk with rfl | rfl | hk
  · exact lt_of_some h.own
  · exact h.files.lt
  · obtain ⟨fs, hr, _⟩ := h.changes
    rcases hr.2 with ⟨hv, _⟩ | ⟨g, cap, cur, hv, _, hh, _⟩
    · rw [hv] at hk; cases hk
    · rw [hv] at hk; cases hk; exact lt_of_some hh

theorem Disk.fresh {w w' : World} {p : Nat} {M : Nat → Prop} {S : St} (h : Disk w p M S) (hf : Fr None' w w') : Disk w' p M S := by
  obtain ⟨bf, bs, ca, h, rfl⟩ := h
  exact ⟨bf, bs, ca, h.fresh hf, rfl⟩

theorem Fr.then {a b c : World} (h : Fr None' a b) (k : Fr None' b c) : Fr None' a c := h.trans k (fun _ e => Or.inl e)

theorem Live.fresh {w wi wj : World} {p : Nat} {S : St} (h : Live w wi p S) (hf : Fr None' wi wj) : Live w wj p S := by
  obtain ⟨M, h1, h2, h3⟩ := h
  exact ⟨M, h1.fresh hf, h2.then hf, h3⟩

theorem Live.step {w wi wj : World} {p : Nat} {M : Nat → Prop} {S' : St} (h2 : Fr None' w wi) (h3 : ∀ k, M k → w.heap.size ≤ k) (hs : Stepped M wi p S' wj) : Live w wj p S' := by
  obtain ⟨M', h4, h5, h6⟩ := hs
  refine ⟨M', h4, h2.trans h5 (fun i e => Or.inr (h3 i e)), fun k hk => ?_⟩
  rcases h6 k hk with e | e
  · exact h3 k e
  · exact Nat.le_trans h2.size e

/-- The slice v lies below w, or was laid since w0. -/
def Aside (w w0 : World) (v : Value) : Prop := ∀ ad n c, v = .slice (some ad) n c → n ≠ 0 → ad.block < w.heap.size ∨ w0.heap.size ≤ ad.block

theorem Aside.out {w w0 : World} {v : Value} {p : Nat} {M : Nat → Prop} {S : St} (h : Aside w w0 v) (hd : Disk w0 p M S) (h3 : ∀ k, M k → w.heap.size ≤ k) : Out M v := by
  intro ad n c hv h0 hm
  have := hd.lt hm
  have := h3 _ hm
  rcases h ad n c hv h0 with e | e <;> omega

theorem live_new (room : Int) (w : World) : Calls Tryz.prog 26 #[.int .i64 room] w fun e w' => ∃ p, e = .returned (.pointer (some ⟨p, 0, none⟩)) ∧ Live w w' p (St.new room) :=
  (new_any room w).mono fun _ _ ⟨p, M, h1, h2, h3, h4⟩ => ⟨p, h1, M, h2, h3, h4⟩

theorem live_write {w w0 wi : World} {p : Nat} {S : St} (h : Live w w0 p S) (hf : Fr None' w0 wi) (hS : S.fine) (s : ByteArray) (hs : s.size ≤ maxLen) (v : Value) (b : List UInt8) (hv : Bytes wi v b) (hO : Aside w w0 v)
    (hu : used S.F < 1099511627776) (hb : b.length < 1099511627776) :
    Calls Tryz.prog 76 #[.pointer (some ⟨p, 0, none⟩), .string s, v] wi fun e w' => ∃ v', e = .returned (.int .i64 (S.write ⟨s.data.toList, v', b⟩).1) ∧ Live w w' p (S.write ⟨s.data.toList, v', b⟩).2 := by
  obtain ⟨M, h1, h2, h3⟩ := h
  refine (write_any p M S s v b wi (h1.fresh hf) hS hs hv (hO.out h1 h3) hu hb).mono ?_
  rintro e w' ⟨v', e1, hst⟩
  exact ⟨v', e1, Live.step (h2.then hf) h3 hst⟩

theorem live_read {w wi : World} {p : Nat} {S : St} (h : Live w wi p S) (s : ByteArray) (hs : s.size ≤ maxLen) (hu : used S.F < 1099511627776) :
    Calls Tryz.prog 73 #[.pointer (some ⟨p, 0, none⟩), .string s] wi fun e w' => ∃ v, e = .returned (.tuple #[v, .int .i64 (S.read s.data.toList).2]) ∧ Bytes w' v (S.read s.data.toList).1 ∧ Live w w' p S ∧ Fr None' wi w' := by
  have hL := h
  obtain ⟨M, h1, h2, h3⟩ := h
  exact (read_any p M S s wi h1 hs hu).mono fun _ _ ⟨v, e1, hd, hf⟩ => ⟨v, e1, hd.bytes, hL.fresh hf, hf⟩

theorem live_used {w wi : World} {p : Nat} {S : St} (h : Live w wi p S) (hu : used S.F < 1099511627776) :
    Calls Tryz.prog 146 #[.pointer (some ⟨p, 0, none⟩)] wi fun e w' => e = .returned (.int .i64 (used S.F)) ∧ Live w w' p S ∧ Fr None' wi w' := by
  have hL := h
  obtain ⟨M, ⟨bf, bs, ca, h1, _⟩, h2, h3⟩ := h
  exact (used_any p bf bs ca S wi h1 (by omega)).mono fun _ _ ⟨e1, hf⟩ => ⟨e1, hL.fresh hf, hf⟩

theorem live_acts {w wi : World} {p : Nat} {S : St} (h : Live w wi p S) : Calls Tryz.prog 24 #[.pointer (some ⟨p, 0, none⟩)] wi fun e w' => e = .returned (.int .i64 S.acts) ∧ wi = w' := by
  obtain ⟨M, ⟨bf, bs, ca, h1, _⟩, h2, h3⟩ := h
  exact (acts_any p bf bs ca S wi h1).mono fun _ _ ⟨e1, hf⟩ => ⟨e1, hf.symm⟩

/-- string(v). -/
theorem str_any {w : World} {v : Value} {b : List UInt8} (h : Bytes w v b) : (convert 57 9 v).run Tryz.prog w = .ok (.string ⟨b.toArray⟩) w := by
  rcases h with ⟨rfl, rfl⟩ | ⟨ad, c, rfl, hc⟩
  · rw [run_convert_bytes_string w 57 9 5 none 0 0 Tryz.underlying57 Tryz.underlying5 Tryz.underlying9]
    rfl
  · exact run_convert_bytes_back w 57 9 5 ad c b Tryz.underlying57 Tryz.underlying5 Tryz.underlying9 (fun j hj => hc j _ (by simp [u8s, List.getElem?_eq_getElem hj]))

/-- A slice that has just been laid. -/
theorem bytes_new (w : World) (b : List UInt8) (c : Nat) (fr : Nat × Nat) : Bytes (w.alloc (.cells (u8s b).toArray 5 fr)) (.slice (some ⟨w.heap.size, 0, none⟩) b.length c) b := by
  refine Or.inr ⟨_, _, rfl, fun j u hj => ?_⟩
  have e : (⟨w.heap.size, 0, none⟩ : Addr).add j = ⟨w.heap.size, j, none⟩ := by unfold Addr.add; split <;> simp_all
  rw [e]
  have hh := (MapKept.heap_alloc w (.cells (u8s b).toArray 5 fr)).1
  unfold World.cell?
  simp only [hh]
  simpa using hj

theorem bools_new (w : World) (l : List Bool) (c : Nat) : Bools (w.alloc (.cells (l.map Value.bool).toArray 4)) (.slice (some ⟨w.heap.size, 0, none⟩) l.length c) l := by
  refine Or.inr ⟨_, _, rfl, fun j u hj => ⟨rfl, ?_⟩⟩
  have hh := (MapKept.heap_alloc w (.cells (l.map Value.bool).toArray 4)).1
  unfold World.cell?
  simp only [hh]
  simp [hj]

theorem aside_new (w w0 : World) (n c : Nat) : Aside w w0 (.slice (some ⟨w0.heap.size, 0, none⟩) n c) := by
  intro ad n' c' e _
  cases e
  exact Or.inr (Nat.le_refl _)

end Go.Proofs.YtdaogldmcbfmoaaGreatDoor
