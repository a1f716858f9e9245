/-
  What is proved here: what the document's Invert hands back. Condition: the patch lies in memory.
-/
import Derived.Test.YtlmgbcfcikdgpaaGreatDoorBox9
import Derived.Test.YtlmgbcfcikdgpaaGreatDoorKind9
import Derived.Deep.RegionHeld3
namespace Go.Proofs.YtlmgbcfcikdgpaaGreatDoor
open Go.RowKit
set_option maxRecDepth 100000

theorem StrsAt.is {w : World} {v : Value} {l : List ByteArray} (h : StrsAt w v l) : ∃ pa ca, v = .slice pa l.length ca := by
  obtain ⟨pa, ca, e, _⟩ := h
  exact ⟨pa, ca, e⟩

set_option maxHeartbeats 4000000 in
theorem rinv_any (x : Pr) (vo vn : Value) (w0 w : World) (ho : StrsAt w0 vo x.old) (hn : StrsAt w0 vn x.new) :
    Calls Tryz.prog 17 #[.agg #[.int .i64 x.kind, .string x.path, .string x.dst, .string x.src, .int .i64 x.pos, vo, vn]] w fun e w' => ∃ v, e = .returned v ∧ PrVal w0 v (inv x) ∧ Fr None' w w' := by
  obtain ⟨K, P, T, F, A, lO, lN⟩ := x
  simp only at ho hn ⊢
  obtain ⟨pa, ca, rfl⟩ := ho.is
  obtain ⟨pb, cb, rfl⟩ := hn.is
  obtain ⟨no, hno⟩ : ∃ n, lO.length = n := ⟨_, rfl⟩
  obtain ⟨nn, hnn⟩ : ∃ n, lN.length = n := ⟨_, rfl⟩
  rw [hno] at ho
  rw [hnn] at hn
  rw [hno, hnn]
  obtain ⟨w1, hw1⟩ : ∃ w1, w.alloc (.cells #[.int .i64 K, .string P, .string T, .string F, .int .i64 A, .slice pa no ca, .slice pb nn cb] 24) = w1 := ⟨_, rfl⟩
  obtain ⟨w2, hw2⟩ : ∃ w2, w1.alloc (.cells #[.int .i64 0, .string ⟨#[]⟩, .string ⟨#[]⟩, .string ⟨#[]⟩, .int .i64 0, .slice none 0 0, .slice none 0 0] 24) = w2 := ⟨_, rfl⟩
  obtain ⟨w3, hw3⟩ : ∃ w3, w2.alloc (.cells #[.int .i64 K, .string P, .string T, .string F, .int .i64 A, .slice pa no ca, .slice pb nn cb] 24) = w3 := ⟨_, rfl⟩
  have F1 : Fr None' w w1 := hw1 ▸ Fr.alloc None' w _
  have F2 : Fr None' w1 w2 := hw2 ▸ Fr.alloc None' w1 _
  have F3 : Fr None' w2 w3 := hw3 ▸ Fr.alloc None' w2 _
  have B1 : Box w3 w.heap.size (.int .i64 K) (.string P) (.string T) (.string F) (.int .i64 A) (.slice pa no ca) (.slice pb nn cb) := ((hw1 ▸ Box.new w _ _ _ _ _ _ _ : Box w1 _ _ _ _ _ _ _ _).kept F2).kept F3
  have B2 : Box w3 w1.heap.size (.int .i64 0) (.string ⟨#[]⟩) (.string ⟨#[]⟩) (.string ⟨#[]⟩) (.int .i64 0) (.slice none 0 0) (.slice none 0 0) := (hw2 ▸ Box.new w1 _ _ _ _ _ _ _ : Box w2 _ _ _ _ _ _ _ _).kept F3
  have B3 : Box w3 w2.heap.size (.int .i64 K) (.string P) (.string T) (.string F) (.int .i64 A) (.slice pa no ca) (.slice pb nn cb) := hw3 ▸ Box.new w2 _ _ _ _ _ _ _
  obtain ⟨p0, p1, p2, p3, p4, p5, p6⟩ := (((hw1 ▸ Box.new w _ _ _ _ _ _ _ : Box w1 w.heap.size (.int .i64 K) (.string P) (.string T) (.string F) (.int .i64 A) (.slice pa no ca) (.slice pb nn cb))).kept F2).cells
  have s1 : w1.heap.size = w.heap.size + 1 := by rw [← hw1]; simp
  have s2 : w2.heap.size = w1.heap.size + 1 := by rw [← hw2]; simp
  have HF : Hid (Fr None' w w3) := (F1.then7 F2).then7 F3
  have HB2 : Hid (Box w3 w1.heap.size (.int .i64 0) (.string ⟨#[]⟩) (.string ⟨#[]⟩) (.string ⟨#[]⟩) (.int .i64 0) (.slice none 0 0) (.slice none 0 0)) := B2
  have HB3 : Hid (Box w3 w2.heap.size (.int .i64 K) (.string P) (.string T) (.string F) (.int .i64 A) (.slice pa no ca) (.slice pb nn cb)) := B3
  have HN : Hid (w.heap.size < w1.heap.size ∧ w1.heap.size < w2.heap.size) := ⟨by omega, by omega⟩
  have HS : Hid (lO.length = no ∧ lN.length = nn ∧ StrsAt w0 (.slice pa no ca) lO ∧ StrsAt w0 (.slice pb nn cb) lN) := ⟨hno, hnn, ho, hn⟩
  have n1 : ¬ w.heap.size = w2.heap.size := by omega
  have n2 : ¬ w1.heap.size = w2.heap.size := by omega
  have n3 : ¬ w2.heap.size = w.heap.size := by omega
  have n4 : ¬ w2.heap.size = w1.heap.size := by omega
  obtain ⟨a0, a1, a2, a3, a4, a5, a6⟩ := B1.cells
  obtain ⟨b0, b1, b2, b3, b4, b5, b6⟩ := B2.cells
  obtain ⟨c0, c1, c2, c3, c4, c5, c6⟩ := B3.cells
  have z2 := B2.frozen
  have z3 := B3.frozen
  clear ho hn hno hnn F1 F2 F3 B1 B2 B3 s1 s2
  rcases eleven K with h | h | rfl | rfl | rfl | rfl | rfl | rfl | rfl | rfl | rfl | rfl | rfl
  · have HI : Hid (inv ⟨K, P, T, F, A, lO, lN⟩ = zeroP) := by show _ = _; unfold inv; simp only; rw [if_neg (by omega), if_neg (by omega), if_neg (by omega), if_neg (by omega), if_neg (by omega)]
    go_enter Tryz.func17, Tryz.ntmps17
    go_wp2_with fail
    have hfin := fin9 (W := w3) HF.out HB2.out (Fr.refl (fun k => k = w2.heap.size) _) n2 (by have := HN.out; omega) (by have := HN.out; omega) (.int .i64 0) (.string ⟨#[]⟩) (.string ⟨#[]⟩) (.string ⟨#[]⟩) (.int .i64 0) (.slice none 0 0) (.slice none 0 0)
    exact ret_box rfl rfl rfl hfin.1 ⟨_, rfl, by rw [HI.out]; exact ⟨_, _, rfl, ⟨none, 0, rfl, fun _ => rfl, Nat.le_refl _, Lines.Row.nil _ _⟩, ⟨none, 0, rfl, fun _ => rfl, Nat.le_refl _, Lines.Row.nil _ _⟩⟩, hfin.2⟩
  · have HI : Hid (inv ⟨K, P, T, F, A, lO, lN⟩ = zeroP) := by show _ = _; unfold inv; simp only; rw [if_neg (by omega), if_neg (by omega), if_neg (by omega), if_neg (by omega), if_neg (by omega)]
    go_enter Tryz.func17, Tryz.ntmps17
    go_wp2_with fail
    have hfin := fin9 (W := w3) HF.out HB2.out (Fr.refl (fun k => k = w2.heap.size) _) n2 (by have := HN.out; omega) (by have := HN.out; omega) (.int .i64 0) (.string ⟨#[]⟩) (.string ⟨#[]⟩) (.string ⟨#[]⟩) (.int .i64 0) (.slice none 0 0) (.slice none 0 0)
    exact ret_box rfl rfl rfl hfin.1 ⟨_, rfl, by rw [HI.out]; exact ⟨_, _, rfl, ⟨none, 0, rfl, fun _ => rfl, Nat.le_refl _, Lines.Row.nil _ _⟩, ⟨none, 0, rfl, fun _ => rfl, Nat.le_refl _, Lines.Row.nil _ _⟩⟩, hfin.2⟩
  · have HI : Hid (inv ⟨0, P, T, F, A, lO, lN⟩ = zeroP) := by show _ = _; simp [inv]
    go_enter Tryz.func17, Tryz.ntmps17
    go_wp2_with fail
    have hfin := fin9 (W := w3) HF.out HB2.out (Fr.refl (fun k => k = w2.heap.size) _) n2 (by have := HN.out; omega) (by have := HN.out; omega) (.int .i64 0) (.string ⟨#[]⟩) (.string ⟨#[]⟩) (.string ⟨#[]⟩) (.int .i64 0) (.slice none 0 0) (.slice none 0 0)
    exact ret_box rfl rfl rfl hfin.1 ⟨_, rfl, by rw [HI.out]; exact ⟨_, _, rfl, ⟨none, 0, rfl, fun _ => rfl, Nat.le_refl _, Lines.Row.nil _ _⟩, ⟨none, 0, rfl, fun _ => rfl, Nat.le_refl _, Lines.Row.nil _ _⟩⟩, hfin.2⟩
  · have HI : Hid (inv ⟨1, P, T, F, A, lO, lN⟩ = ⟨2, P, T, F, A, lO, lN⟩) := by show _ = _; simp [inv]
    go_enter Tryz.func17, Tryz.ntmps17
    go_wp2_with fail
    have hfin := fin9 (W := (w3.setCell ⟨w2.heap.size, 0, none⟩ (.int .i64 2))) HF.out HB2.out (Fr.setQ (w3) w2.heap.size 0 (.int .i64 2)) n2 (by have := HN.out; omega) (by have := HN.out; omega) (.int .i64 2) (.string P) (.string T) (.string F) (.int .i64 A) (.slice pa no ca) (.slice pb nn cb)
    exact ret_box rfl rfl rfl hfin.1 ⟨_, rfl, by rw [HI.out]; exact ⟨_, _, rfl, HS.out.2.2.1, HS.out.2.2.2⟩, hfin.2⟩
  · have HI : Hid (inv ⟨2, P, T, F, A, lO, lN⟩ = ⟨1, P, T, F, A, lO, lN⟩) := by show _ = _; simp [inv]
    go_enter Tryz.func17, Tryz.ntmps17
    go_wp2_with fail
    have hfin := fin9 (W := (w3.setCell ⟨w2.heap.size, 0, none⟩ (.int .i64 1))) HF.out HB2.out (Fr.setQ (w3) w2.heap.size 0 (.int .i64 1)) n2 (by have := HN.out; omega) (by have := HN.out; omega) (.int .i64 1) (.string P) (.string T) (.string F) (.int .i64 A) (.slice pa no ca) (.slice pb nn cb)
    exact ret_box rfl rfl rfl hfin.1 ⟨_, rfl, by rw [HI.out]; exact ⟨_, _, rfl, HS.out.2.2.1, HS.out.2.2.2⟩, hfin.2⟩
  · have HI : Hid (inv ⟨3, P, T, F, A, lO, lN⟩ = ⟨4, P, T, F, A, lO, lN⟩) := by show _ = _; simp [inv]
    go_enter Tryz.func17, Tryz.ntmps17
    go_wp2_with fail
    have hfin := fin9 (W := (w3.setCell ⟨w2.heap.size, 0, none⟩ (.int .i64 4))) HF.out HB2.out (Fr.setQ (w3) w2.heap.size 0 (.int .i64 4)) n2 (by have := HN.out; omega) (by have := HN.out; omega) (.int .i64 4) (.string P) (.string T) (.string F) (.int .i64 A) (.slice pa no ca) (.slice pb nn cb)
    exact ret_box rfl rfl rfl hfin.1 ⟨_, rfl, by rw [HI.out]; exact ⟨_, _, rfl, HS.out.2.2.1, HS.out.2.2.2⟩, hfin.2⟩
  · have HI : Hid (inv ⟨4, P, T, F, A, lO, lN⟩ = ⟨3, P, T, F, A, lO, lN⟩) := by show _ = _; simp [inv]
    go_enter Tryz.func17, Tryz.ntmps17
    go_wp2_with fail
    have hfin := fin9 (W := (w3.setCell ⟨w2.heap.size, 0, none⟩ (.int .i64 3))) HF.out HB2.out (Fr.setQ (w3) w2.heap.size 0 (.int .i64 3)) n2 (by have := HN.out; omega) (by have := HN.out; omega) (.int .i64 3) (.string P) (.string T) (.string F) (.int .i64 A) (.slice pa no ca) (.slice pb nn cb)
    exact ret_box rfl rfl rfl hfin.1 ⟨_, rfl, by rw [HI.out]; exact ⟨_, _, rfl, HS.out.2.2.1, HS.out.2.2.2⟩, hfin.2⟩
  · have HI : Hid (inv ⟨5, P, T, F, A, lO, lN⟩ = ⟨6, P, T, F, A, lO, lN⟩) := by show _ = _; simp [inv]
    go_enter Tryz.func17, Tryz.ntmps17
    go_wp2_with fail
    have hfin := fin9 (W := (w3.setCell ⟨w2.heap.size, 0, none⟩ (.int .i64 6))) HF.out HB2.out (Fr.setQ (w3) w2.heap.size 0 (.int .i64 6)) n2 (by have := HN.out; omega) (by have := HN.out; omega) (.int .i64 6) (.string P) (.string T) (.string F) (.int .i64 A) (.slice pa no ca) (.slice pb nn cb)
    exact ret_box rfl rfl rfl hfin.1 ⟨_, rfl, by rw [HI.out]; exact ⟨_, _, rfl, HS.out.2.2.1, HS.out.2.2.2⟩, hfin.2⟩
  · have HI : Hid (inv ⟨6, P, T, F, A, lO, lN⟩ = ⟨5, P, T, F, A, lO, lN⟩) := by show _ = _; simp [inv]
    go_enter Tryz.func17, Tryz.ntmps17
    go_wp2_with fail
    have hfin := fin9 (W := (w3.setCell ⟨w2.heap.size, 0, none⟩ (.int .i64 5))) HF.out HB2.out (Fr.setQ (w3) w2.heap.size 0 (.int .i64 5)) n2 (by have := HN.out; omega) (by have := HN.out; omega) (.int .i64 5) (.string P) (.string T) (.string F) (.int .i64 A) (.slice pa no ca) (.slice pb nn cb)
    exact ret_box rfl rfl rfl hfin.1 ⟨_, rfl, by rw [HI.out]; exact ⟨_, _, rfl, HS.out.2.2.1, HS.out.2.2.2⟩, hfin.2⟩
  · have HI : Hid (inv ⟨7, P, T, F, A, lO, lN⟩ = ⟨7, P, T, F, A, lN, lO⟩) := by show _ = _; simp [inv]
    go_enter Tryz.func17, Tryz.ntmps17
    go_wp2_with fail
    have hfin := fin9 (W := ((w3.setCell ⟨w2.heap.size, 5, none⟩ (.slice pb nn cb)).setCell ⟨w2.heap.size, 6, none⟩ (.slice pa no ca))) HF.out HB2.out ((Fr.setQ (w3) w2.heap.size 5 (.slice pb nn cb)).then (Fr.setQ ((w3.setCell ⟨w2.heap.size, 5, none⟩ (.slice pb nn cb))) w2.heap.size 6 (.slice pa no ca))) n2 (by have := HN.out; omega) (by have := HN.out; omega) (.int .i64 7) (.string P) (.string T) (.string F) (.int .i64 A) (.slice pb nn cb) (.slice pa no ca)
    exact ret_box rfl rfl rfl hfin.1 ⟨_, rfl, by rw [HI.out]; exact ⟨_, _, rfl, HS.out.2.2.2, HS.out.2.2.1⟩, hfin.2⟩
  · have HI : Hid (inv ⟨8, P, T, F, A, lO, lN⟩ = ⟨8, P, F, T, A, lO, lN⟩) := by show _ = _; simp [inv]
    go_enter Tryz.func17, Tryz.ntmps17
    go_wp2_with fail
    have hfin := fin9 (W := ((w3.setCell ⟨w2.heap.size, 3, none⟩ (.string T)).setCell ⟨w2.heap.size, 2, none⟩ (.string F))) HF.out HB2.out ((Fr.setQ (w3) w2.heap.size 3 (.string T)).then (Fr.setQ ((w3.setCell ⟨w2.heap.size, 3, none⟩ (.string T))) w2.heap.size 2 (.string F))) n2 (by have := HN.out; omega) (by have := HN.out; omega) (.int .i64 8) (.string P) (.string F) (.string T) (.int .i64 A) (.slice pa no ca) (.slice pb nn cb)
    exact ret_box rfl rfl rfl hfin.1 ⟨_, rfl, by rw [HI.out]; exact ⟨_, _, rfl, HS.out.2.2.1, HS.out.2.2.2⟩, hfin.2⟩
  · have HI : Hid (inv ⟨9, P, T, F, A, lO, lN⟩ = ⟨9, P, F, T, A, lO, lN⟩) := by show _ = _; simp [inv]
    go_enter Tryz.func17, Tryz.ntmps17
    go_wp2_with fail
    have hfin := fin9 (W := ((w3.setCell ⟨w2.heap.size, 3, none⟩ (.string T)).setCell ⟨w2.heap.size, 2, none⟩ (.string F))) HF.out HB2.out ((Fr.setQ (w3) w2.heap.size 3 (.string T)).then (Fr.setQ ((w3.setCell ⟨w2.heap.size, 3, none⟩ (.string T))) w2.heap.size 2 (.string F))) n2 (by have := HN.out; omega) (by have := HN.out; omega) (.int .i64 9) (.string P) (.string F) (.string T) (.int .i64 A) (.slice pa no ca) (.slice pb nn cb)
    exact ret_box rfl rfl rfl hfin.1 ⟨_, rfl, by rw [HI.out]; exact ⟨_, _, rfl, HS.out.2.2.1, HS.out.2.2.2⟩, hfin.2⟩
  · have HI : Hid (inv ⟨10, P, T, F, A, lO, lN⟩ = ⟨10, T, P, F, A, lO, lN⟩) := by show _ = _; simp [inv]
    go_enter Tryz.func17, Tryz.ntmps17
    go_wp2_with fail
    have hfin := fin9 (W := ((w3.setCell ⟨w2.heap.size, 1, none⟩ (.string T)).setCell ⟨w2.heap.size, 2, none⟩ (.string P))) HF.out HB2.out ((Fr.setQ (w3) w2.heap.size 1 (.string T)).then (Fr.setQ ((w3.setCell ⟨w2.heap.size, 1, none⟩ (.string T))) w2.heap.size 2 (.string P))) n2 (by have := HN.out; omega) (by have := HN.out; omega) (.int .i64 10) (.string T) (.string P) (.string F) (.int .i64 A) (.slice pa no ca) (.slice pb nn cb)
    exact ret_box rfl rfl rfl hfin.1 ⟨_, rfl, by rw [HI.out]; exact ⟨_, _, rfl, HS.out.2.2.1, HS.out.2.2.2⟩, hfin.2⟩

end Go.Proofs.YtlmgbcfcikdgpaaGreatDoor
