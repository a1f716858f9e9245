/-
  What is proved here: the bytes that Put makes of a patch. Conditions: the patch lies in memory, and is of bounded size; the table of powers of ten lies in memory.
-/
import Derived.Test.YtofpkpomhdhkgaaGreatDoorM14WriP13
import Derived.Test.YtofpkpomhdhkgaaGreatDoorMRigD13
import Derived.Test.YtofpkpomhdhkgaaGreatDoorM8Strs9
import Derived.Lib.ConvBytes
namespace Go.Proofs.YtofpkpomhdhkgaaGreatDoor
open Go.RowKit Go.Shelf
set_option maxRecDepth 100000

theorem SmallPa.put {p : Pa} (h : SmallPa p) (hr : rightPa p = true) : PutPa p := by
  refine ⟨h.name, h.deps, h.body.1, fun x hx => ?_⟩
  have hb : ∀ x ∈ p.body, rightP x = true := by
    unfold rightPa at hr
    simp only [Bool.and_eq_true] at hr
    exact List.all_eq_true.1 hr.2.2
  obtain ⟨h1, h2⟩ := right_small (hb x hx)
  obtain ⟨z1, z2, z3, z4, z5⟩ := h.body.2 x hx
  obtain ⟨l1, l2⟩ := h.lines x hx
  have ht : top13 = 9223372036854775807 := rfl
  have g : ∀ n : Nat, n ≤ 9000000000 → n ≤ top13 := fun n hn => by rw [ht]; exact Nat.le_trans hn (by decide)
  exact ⟨⟨by omega, g _ (by omega)⟩, by omega, by omega, by omega, ⟨by omega, g _ (by omega)⟩, ⟨by omega, fun y hy => by have := l1 y hy; omega⟩, ⟨by omega, fun y hy => by have := l2 y hy; omega⟩⟩

theorem PutPa.ok {p : Pa} (h : PutPa p) : OkPa p := by
  have ht : top13 = 9223372036854775807 := rfl
  have g : ∀ n : Nat, n ≤ 1000000000 → n ≤ top13 := fun n hn => by rw [ht]; exact Nat.le_trans hn (by decide)
  refine ⟨g _ h.name, ⟨g _ (by have := h.deps.1; omega), fun y hy => g _ (h.deps.2 y hy)⟩, ⟨g _ (by have := h.body.1; omega), fun x hx => ?_⟩⟩
  obtain ⟨a, b, c, d, e, f, i⟩ := h.body.2 x hx
  exact ⟨a, g _ b, g _ c, g _ d, e, ⟨g _ (by omega), fun y hy => g _ (f.2 y hy)⟩, ⟨g _ (by omega), fun y hy => g _ (i.2 y hy)⟩⟩

theorem conv_by (w : World) (s : ByteArray) : ∃ c w', (convert 9 26 (.string s)).run Tryz.prog w = .ok (.slice (some ⟨w.heap.size, 0, none⟩) s.size c) w' ∧ ByAt w' (.slice (some ⟨w.heap.size, 0, none⟩) s.size c) (unB s) ∧ Fr None' w w' := by
  have hl := un_len s
  have hc := fun j hj => Lib.bytesWorld_cell w 5 s j hj
  refine ⟨grownCap w s.size 0 5, Lib.bytesWorld w 5 s, Lib.run_convert_string_bytes (P := Tryz.prog) w 9 26 5 s Tryz.underlying9 Tryz.underlying26 Tryz.underlying5, ⟨_, _, by rw [hl], ?_, (fun e => by cases e), fun j x hj => ⟨_, _, rfl, ?_⟩⟩, ?_⟩
  · rw [hl]; exact grownCap_ge _ _ _ _
  · have hjl := (List.getElem?_eq_some_iff.1 hj).1
    rw [Nat.zero_add, hc j (by omega)]
    have := (List.getElem?_eq_some_iff.1 hj).2
    rw [← this]
    unfold unB at hjl ⊢
    simp [List.getD, List.getElem?_eq_getElem hjl]
  · refine ⟨?_, ?_, ?_, by rw [Lib.bytesWorld_size]; omega, fun k hk _ => Lib.bytesWorld_at_old w _ _ k hk⟩ <;> first | rfl | simp [Lib.bytesWorld, World.freeze]

/-- What Put hands back of a patch. -/
def PutPost (w : World) (p : Pa) (e : Ending) (w' : World) : Prop :=
  (rightPa p = true → ∃ v, e = .returned (.tuple #[v, .int .i64 0]) ∧ ByAt w' v (patch13 p)) ∧ (rightPa p = false → e = .returned (.tuple #[.slice none 0 0, .int .i64 1])) ∧ Fr None' w w'

theorem list_pos {p : Pa} : patch13 p ≠ [] := fun h => by
  have h1 := congrArg List.length h
  have h2 := text_len (unB p.name)
  unfold patch13 at h1
  rw [List.length_append, List.length_nil] at h1
  omega

set_option maxHeartbeats 4000000 in
theorem nput_any (p : Pa) (vd : Value) (pb : Option Addr) (cb : Nat) (w : World) (hd : StrsAt w vd p.deps) (hb : PrsAt w pb p.body) (hs : SmallPa p) (hT : Lib.TabIs Tryz.prog w pow10 .u64 Lib.pow10Tab) (hlen : rightPa p = true → (patch13 p).length ≤ 60000000000000) :
    Calls Tryz.prog 10 #[.agg #[.string p.name, vd, .slice pb p.body.length cb]] w fun e w' => PutPost w p e w' := by
  obtain ⟨w1, hw1⟩ : ∃ w1, w.alloc (.cells #[.string p.name, vd, .slice pb p.body.length cb] 25) = w1 := ⟨_, rfl⟩
  have F1 : Fr None' w w1 := hw1 ▸ Fr.alloc None' w _
  have B1 : Box3 w1 w.heap.size (.string p.name) vd (.slice pb p.body.length cb) := hw1 ▸ Box3.new w _ _ _
  have q1 := nright_any p vd pb cb w1 (hd.kept F1) (hb.kept F1) hs
  have HP := toHid8 (fun (hr : rightPa p = true) w2 w3 (f : Fr None' w1 w2) (h3 : w2.alloc (.cells #[.pointer none, .slice none 0 0] 51) = w3) => by
    have hT2 := (T13.of hT).kept (F1.then7 f)
    have F3 : Fr None' w2 w3 := h3 ▸ Fr.alloc None' w2 _
    exact wpatch_any w2.heap.size w2.heap.size [] p vd pb cb w3 w2 rfl (below_fr F3 (Nat.le_refl _)) (h3 ▸ Lib.IsBuilderF.of (Lib.fresh_isBuilder 51 5 w2)) ((hT2.mono (F1.then7 f).size).kept F3) (hd.kept (F1.then7 f)) (hb.kept (F1.then7 f)) (hs.put hr) (by simpa using hlen hr) F3.size)
  have hd' := hd
  obtain ⟨pa, ca, ed, _⟩ := hd'
  subst ed
  have HB := toHid8 (fun w' (f : Fr None' w1 w') => (B1.kept f).cells)
  have HF1 := toHid8 F1
  obtain ⟨R, hR⟩ : ∃ R, rightPa p = R := ⟨_, rfl⟩
  have HR := toHid8 hR
  rw [hR] at q1
  have HN := toHid8 (list_pos (p := p))
  unfold PutPost
  generalize patch13 p = X at *
  obtain ⟨N, D, L⟩ := p
  simp only at hw1 q1 HP HB B1
  generalize D.length = m at *
  generalize L.length = n at *
  obtain ⟨a0, a1, a2⟩ := B1.cells
  clear hd hb hs hT hlen F1 B1
  cases R with
  | false =>
    clear hR
    go_enter Tryz.func10, Tryz.ntmps10
    go_wp2_with fail
    with_reducible refine q1.mono ?_
    rintro e w2 ⟨rfl, f2⟩
    have HF2 := toHid8 (HF1.out.then7 f2)
    clear q1 f2
    go_wp2_with fail
    go_ret2
    exact ⟨fun h => by (rw [HR.out] at h; cases h), fun _ => rfl, HF2.out⟩
  | true =>
    clear hR
    go_enter Tryz.func10, Tryz.ntmps10
    go_wp2_with fail
    with_reducible refine q1.mono ?_
    rintro e w2 ⟨rfl, f2⟩
    have HF2 := toHid8 f2
    obtain ⟨w3, hw3⟩ : ∃ w3, w2.alloc (.cells #[.pointer none, .slice none 0 0] 51) = w3 := ⟨_, rfl⟩
    have F3 : Fr None' w2 w3 := hw3 ▸ Fr.alloc None' w2 _
    have q2 := HP.out HR.out w2 w3 f2 hw3
    have HF3 := toHid8 F3
    clear a0 a1 a2
    obtain ⟨a0, a1, a2⟩ := HB.out w3 (f2.then7 F3)
    clear q1 f2 F3
    go_wp2_with fail
    with_reducible refine q2.mono ?_
    rintro e w4 ⟨rfl, k4⟩
    have q3 := string_13 _ _ _ w4 k4.at' HN.out
    have HK := toHid8 k4.below
    clear q2 k4 a0 a1 a2
    go_wp2_with fail
    with_reducible refine q3.mono ?_
    rintro e w5 ⟨rfl, k5⟩
    obtain ⟨c, w6, hcv, hby, f6⟩ := conv_by w5 ⟨X.toArray⟩
    have HBy := toHid8 hby
    have HF6 := toHid8 ((HF1.out.then7 HF2.out).then7 ((ofBelow ((below_fr HF3.out (Nat.le_refl _)).trans (HK.out.trans k5))).then7 f6))
    clear q3 k5 hby f6
    go_wp2_with fail
    go_ret2
    exact ⟨fun _ => ⟨_, rfl, HBy.out⟩, fun h => by (rw [HR.out] at h; cases h), HF6.out⟩

end Go.Proofs.YtofpkpomhdhkgaaGreatDoor
