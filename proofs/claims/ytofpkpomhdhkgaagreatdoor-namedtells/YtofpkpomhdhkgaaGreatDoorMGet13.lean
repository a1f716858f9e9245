/-
  What is proved here: the patch that Get makes of bytes. Conditions: they lie in memory, and are few; what they tell is of bounded size.
-/
import Derived.Test.YtofpkpomhdhkgaaGreatDoorM11RdL13
import Derived.Test.YtofpkpomhdhkgaaGreatDoorMRigD13
import Derived.Laws.ResultCell
namespace Go.Proofs.YtofpkpomhdhkgaaGreatDoor
open Go.RowKit
set_option maxRecDepth 100000

theorem Box3.load {w : World} {b : Nat} {y0 y1 y2 : Value} (h : Box3 w b y0 y1 y2) : (loadVar 25 ⟨b, 0, none⟩).run Tryz.prog w = .ok (.agg #[y0, y1, y2]) w :=
  run_loadVar_row w b 25 25 #[y0, y1, y2] (0, 0) _ h Tryz.underlying25 rfl (by kernel_rfl)

theorem ret_box3t {fn : Func} {p u : Tmp} (hres : fn.results = #[.cell p 25, .tmp u]) {Q : Ending → World → Prop} {a : Act} {w : World} {b : Nat} {y0 y1 y2 v : Value} (hd : a.defers = []) (hp : a.tmps.getD p undef = .pointer (some ⟨b, 0, none⟩)) (hu : a.tmps.getD u undef = v) (h : Box3 w b y0 y1 y2) (hq : Q (.returned (.tuple #[.agg #[y0, y1, y2], v])) w) : bodyPost Tryz.prog fn Q .ret a w :=
  bodyPost_ret (v := .tuple #[.agg #[y0, y1, y2], v]) (by rw [results_cell_tmp hres, hp, hu]; simp [asAddr, Result.andThen, h.load]) hd hq

/-- What Get hands back of bytes. -/
def GetPost (w : World) (l : B13) (e : Ending) (w' : World) : Prop :=
  (∀ p, getP l = some p → ∃ vd pb cb, e = .returned (.tuple #[.agg #[.string p.name, vd, .slice pb p.body.length cb], .int .i64 0]) ∧ StrsAt w' vd p.deps ∧ PrsAt w' pb p.body) ∧ (getP l = none → e = .returned (.tuple #[.agg #[.string ⟨#[]⟩, .slice none 0 0, .slice none 0 0], .int .i64 3])) ∧ Fr None' w w'

set_option maxHeartbeats 16000000 in
theorem nget_any (v : Value) (l : B13) (w : World) (h : ByAt w v l) (hl : l.length ≤ 80000000) (hs : ∀ p, patchR l = some (p, []) → SmallPa p) :
    Calls Tryz.prog 12 #[v] w fun e w' => GetPost w l e w' := by
  obtain ⟨ad, c, rfl, hc, hn, hrow⟩ := h
  obtain ⟨n, hln⟩ : ∃ n, l.length = n := ⟨_, rfl⟩
  obtain ⟨w1, hw1⟩ : ∃ x, w.alloc (.cells #[.string ⟨#[]⟩, .slice none 0 0, .slice none 0 0] 25) = x := ⟨_, rfl⟩
  obtain ⟨w2, hw2⟩ : ∃ x, w1.alloc (.cells #[.slice ad n c, .bool false] 59) = x := ⟨_, rfl⟩
  have F1 : Fr None' w w1 := hw1 ▸ Fr.alloc None' w _
  have F2 : Fr None' w1 w2 := hw2 ▸ Fr.alloc None' w1 _
  have A1 : Box3 w2 w.heap.size (.string ⟨#[]⟩) (.slice none 0 0) (.slice none 0 0) := Box3.kept (by rw [← hw1]; exact Box3.new w _ _ _) F2
  have e1 : w1.heap.size = w.heap.size + 1 := by rw [← hw1]; simp
  have e2 : w2.heap.size = w1.heap.size + 1 := by rw [← hw2]; simp
  obtain ⟨r, hr⟩ : ∃ r, w1.heap.size = r := ⟨_, rfl⟩
  have R2 : RdAt w2.heap.size w2 r l false := ⟨hl, ad, c, by rw [hln, ← hr, ← hw2]; exact heap_alloc_new w1 _, hc, hn, fun j x hj => by
    obtain ⟨g, o, e, hcell⟩ := hrow j x hj
    have hg := cell_lt hcell
    have hg' : g < w.heap.size := hg
    exact ⟨g, o, e, ⟨by omega, by omega⟩, (F1.then7 F2).keepCell hcell (fun e => e)⟩⟩
  have q1 := rpatch_any w2.heap.size r l false w2 R2 (by omega) (Nat.le_refl _)
  have HA1 := toHid8 A1
  have HF2 := toHid8 (F1.then7 F2)
  have HS := toHid8 hs
  have HR := toHid8 hr
  have HE1 := toHid8 e1
  obtain ⟨rA, hrA⟩ : ∃ x, w.heap.size = x := ⟨_, rfl⟩
  have HrA := toHid8 hrA
  have HlA := toHid8 (show rA < r by omega)
  have HW2 := toHid8 (show r < w2.heap.size by omega)
  rw [hln]
  rw [hrA] at HA1
  unfold GetPost
  clear hc hn hrow hs F1 F2 A1 e1 e2 R2 hl
  go_enter Tryz.func12, Tryz.ntmps12
  go_wp2_with fail
  with_reducible refine q1.mono ?_
  rintro e w3 ⟨⟨p, vd, pb, cb, t, b, rfl, od, ⟨V, ob, hV⟩, R3, hS⟩, f3⟩
  have hB : rA < w2.heap.size := by have := HlA.out; have := HW2.out; omega
  obtain ⟨_, _, -, -, sd⟩ := od.slice
  obtain ⟨_, _, ep, _, _, sb⟩ := ob.slice
  cases ep
  have HOd := toHid8 od
  have HOb := toHid8 (show OwnP w2.heap.size w3 (.slice pb p.body.length cb) p.body V ∧ VGe w2.heap.size V from ⟨ob, hV⟩)
  have HBl := toHid8 hB
  clear od ob hV hB
  have sdc := sd
  obtain ⟨pd, cd, ed, _⟩ := sdc
  subst ed
  obtain ⟨w4, hw4⟩ : ∃ x, w3.alloc (.cells #[.string p.name, .slice pd p.deps.length cd, .slice pb p.body.length cb] 25) = x := ⟨_, rfl⟩
  have F4 : Fr None' w3 w4 := hw4 ▸ Fr.alloc None' w3 _
  have B4 : Box3 w4 w3.heap.size (.string p.name) (.slice pd p.deps.length cd) (.slice pb p.body.length cb) := hw4 ▸ Box3.new w3 _ _ _
  have A4 : Box3 w4 rA (.string ⟨#[]⟩) (.slice none 0 0) (.slice none 0 0) := (HA1.out.fr f3 (by have := HlA.out; omega)).kept F4
  obtain ⟨hs4, ad4, c4, hb4, _, _, _⟩ := R3.kept F4
  obtain ⟨m, hm⟩ : ∃ m, t.length = m := ⟨_, rfl⟩
  rw [hm] at hb4
  obtain ⟨c0, c1, z0, z1⟩ := rd_cells hb4
  obtain ⟨b0, b1, b2⟩ := B4.cells
  have HFw := toHid8 ((HF2.out.trans f3 (fun k e => Or.inr (by have := HrA.out; have := HlA.out; omega))).then7 F4)
  have HBx := toHid8 B4
  have HAx := toHid8 A4
  obtain ⟨d0, d1, d2⟩ := A4.cells
  have fzA := A4.frozen
  have HSt := toHid8 hS
  have HSd := toHid8 (sd.kept F4)
  have HF4 := toHid8 F4
  have HSb := toHid8 (sb.kept F4)
  have HT := toHid8 hm
  clear q1 f3 sd sb R3 hS F4 B4 A4 hb4 hm hs4
  cases b with
  | true =>
    have HG := toHid8 (show getP l = none by
      unfold getP
      rcases HSt.out with ⟨e, _⟩ | ⟨_, e | e⟩
      · cases e
      · cases e
      · rw [e])
    have AX := HAx
    have FX := HFw
    go_wp2_with fail
    refine ret_box3t rfl rfl rfl rfl (AX.out.all _ _ _) ⟨fun q e => (by rw [HG.out] at e; cases e), fun _ => rfl, ?_⟩
    exact FX.out.trans (setP3_fr _ rA _ _ _) (fun k e => Or.inr (by have := HrA.out; omega))
  | false =>
    have HP := toHid8 (show patchR l = some (p, t) by
      rcases HSt.out with ⟨_, _, e⟩ | ⟨e, _⟩
      · exact e
      · cases e)
    by_cases hm0 : m = 0
    case neg =>
      have HG := toHid8 (show getP l = none by
        unfold getP
        rw [HP.out]
        simp only
        rw [if_neg (fun h => hm0 (by rw [← HT.out, h.1]; rfl))])
      have AX := HAx
      have FX := HFw
      have i1 : (0 : Int) < (m : Int) := by omega
      clear hm0
      go_wp2_with fail
      refine ret_box3t rfl rfl rfl rfl (AX.out.all _ _ _) ⟨fun q e => (by rw [HG.out] at e; cases e), fun _ => rfl, ?_⟩
      exact FX.out.trans (setP3_fr _ rA _ _ _) (fun k e => Or.inr (by have := HrA.out; omega))
    case pos =>
      subst hm0
      have ht : t = [] := List.length_eq_zero_iff.1 HT.out
      have HP2 := toHid8 (show patchR l = some (p, []) by rw [HP.out, ht])
      have q2 := nright_any p _ pb cb w4 HSd.out HSb.out (HS.out p HP2.out)
      obtain ⟨R, hR⟩ : ∃ R, rightPa p = R := ⟨_, rfl⟩
      have HRp := toHid8 hR
      rw [hR] at q2
      have HQ := toHid8 (show ∀ q, getP l = some q → q = p from fun q e => by
        unfold getP at e
        rw [HP2.out] at e
        simp only at e
        split at e
        · exact (Option.some.inj e).symm
        · cases e)
      have HG2 := toHid8 (show getP l = if R = true then some p else none from by
        unfold getP
        rw [HP2.out]
        simp only
        rw [HRp.out]
        simp)
      clear hR ht
      obtain ⟨nd, hnd⟩ : ∃ x, p.deps.length = x := ⟨_, rfl⟩
      obtain ⟨nb, hnb⟩ : ∃ x, p.body.length = x := ⟨_, rfl⟩
      rw [hnd] at b1 q2 hw4 HBx ⊢
      rw [hnb] at b2 q2 hw4 HBx HOb ⊢
      have HNb := toHid8 hnb
      have HNd := toHid8 hnd
      clear hnd hnb
      go_wp2_with fail
      with_reducible refine q2.mono ?_
      rintro e w5 ⟨rfl, f5⟩
      have AX := toHid8 (HAx.out.kept f5)
      have BX := toHid8 (HBx.out.kept f5)
      have FX := toHid8 (HFw.out.then7 f5)
      have HF5 := toHid8 f5
      clear q2 f5 b0 b1 b2 d0 d1 d2 fzA c0 c1 z0 z1
      obtain ⟨b0, b1, b2⟩ := BX.out.cells
      obtain ⟨d0, d1, d2⟩ := AX.out.cells
      have fzA := AX.out.frozen
      cases R with
      | false =>
        have HG := toHid8 (show getP l = none from HG2.out)
        go_wp2_with fail
        refine ret_box3t rfl rfl rfl rfl (AX.out.all _ _ _) ⟨fun q e => (by rw [HG.out] at e; cases e), fun _ => rfl, ?_⟩
        exact FX.out.trans (setP3_fr _ rA _ _ _) (fun k e => Or.inr (by have := HrA.out; omega))
      | true =>
        have HG := toHid8 (show getP l = some p from HG2.out)
        go_wp2_with fail
        refine ret_box3t rfl rfl rfl rfl (AX.out.all _ _ _) ⟨fun q e => ?_, fun e => (by rw [HG.out] at e; cases e), ?_⟩
        · obtain rfl := HQ.out q e
          have ff := setP3_fr w5 rA (.string q.name) (.slice pd nd cd) (.slice pb nb cb)
          have hlt := HBl.out
          have h1 := (((HOd.out.frame HF4.out (fun k e => e.elim)).frame HF5.out (fun k e => e.elim)).frame ff (fun k e => by omega)).slice
          have h2 := (((HOb.out.1.kept HF4.out).kept HF5.out).fr ff (fun k e => by have := (((HOb.out.1.kept HF4.out).kept HF5.out).ge e).1; omega) (fun u hu k e _ => by have := HOb.out.2 u hu k e; omega)).slice
          obtain ⟨_, _, _, _, g1⟩ := h1
          obtain ⟨_, _, g2, _, _, g3⟩ := h2
          cases g2
          rw [HNd.out] at g1
          exact ⟨.slice pd nd cd, pb, cb, by rw [HNb.out]; rfl, g1, g3⟩
        · exact FX.out.trans (setP3_fr _ rA _ _ _) (fun k e => Or.inr (by have := HrA.out; omega))

end Go.Proofs.YtofpkpomhdhkgaaGreatDoor
