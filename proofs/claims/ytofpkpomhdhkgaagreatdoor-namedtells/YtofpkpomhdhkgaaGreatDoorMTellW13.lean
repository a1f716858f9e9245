/-
  What is proved here: NamedTells answers true. Conditions: its arguments lie in memory; the table of powers of ten does.
-/
import Derived.Test.YtofpkpomhdhkgaaGreatDoorM26Head13
import Derived.Test.YtofpkpomhdhkgaaGreatDoorMCutW13
import Derived.Test.YtofpkpomhdhkgaaGreatDoorM35DPut13
namespace Go.Proofs.YtofpkpomhdhkgaaGreatDoor
open Go.RowKit
set_option maxRecDepth 100000
attribute [local irreducible] wpQuiet

theorem few_deps {p : Pa} (h : rightPa p = true) : p.deps.length ≤ 256 := by
  unfold rightPa at h
  simp only [Bool.and_eq_true, decide_eq_true_eq] at h
  exact h.1.2.1

set_option maxHeartbeats 16000000 in
theorem ntells_walk (p : Pa) (vd : Value) (pb : Option Addr) (nb cb : Nat) (v : Value) (l : B13) (s : ByteArray) (W : World) (hT : Lib.TabIs Tryz.prog W pow10 .u64 Lib.pow10Tab) (hnb : p.body.length = nb) (sd : StrsAt W vd p.deps) (sb : PrsAt W pb p.body) (_hz : pb = none → cb = 0) (ld : p.deps.length ≤ 140737488355328) (lb : ∀ x ∈ p.body, x.old.length ≤ 140737488355328 ∧ x.new.length ≤ 140737488355328) (hv : ByAt W v l) :
    Calls Tryz.prog 3 #[.agg #[.string p.name, vd, .slice pb nb cb], v, .string s] W fun e w' => e = .returned (.bool true) ∧ Fr None' W w' := by
  have HSd := toHid8 sd
  have HSb := toHid8 sb
  have HV := toHid8 hv
  have HT := toHid8 hT
  obtain ⟨pa, ca, ed, -⟩ := sd
  subst ed
  obtain ⟨pv, cv, ev⟩ := hv.is
  subst ev
  obtain ⟨w1, hw1⟩ : ∃ x, W.alloc (.cells #[.string p.name, .slice pa p.deps.length ca, .slice pb nb cb] 25) = x := ⟨_, rfl⟩
  have F1 : Fr None' W w1 := hw1 ▸ Fr.alloc None' W _
  have B1 : Box3 w1 W.heap.size (.string p.name) (.slice pa p.deps.length ca) (.slice pb nb cb) := hw1 ▸ Box3.new W _ _ _
  have HB := toHid8 B1
  have HF1 := toHid8 F1
  have q1 := head13_any w1 (TabIs.fr hT F1)
  have HG := toHid8 (fun w' (f : Fr None' W w') => great13_any p _ pb nb cb w' (HSd.out.kept f) (HSb.out.kept f) hnb ld lb)
  unfold GPost at HG
  have HP := toHid8 (fun (h : FewPa p) w' (f : Fr None' W w') => show Calls Tryz.prog 10 #[.agg #[.string p.name, .slice pa p.deps.length ca, .slice pb nb cb]] w' fun e w'' => PutPost w' p e w'' from by
    have := nput_any p _ pb cb w' (HSd.out.kept f) (HSb.out.kept f) h.small (TabIs.fr HT.out f) (fun hr => Nat.le_trans (h.len hr) (by decide))
    rwa [hnb] at this)
  have HP2 := toHid8 (fun (h : FewPa p) w' (f : Fr None' W w') => dnput_any p _ pb nb cb w' hnb (HSd.out.kept f) (HSb.out.kept f) h.small (fun hr => Nat.le_trans (h.len hr) (by decide)) (TabIs.fr HT.out f))
  have HR := toHid8 (fun (h : FewPa p) w' (f : Fr None' W w') => show Calls Tryz.prog 14 #[.agg #[.string p.name, .slice pa p.deps.length ca, .slice pb nb cb]] w' fun e w'' => e = .returned (.bool (rightPa p)) ∧ Fr None' w' w'' from by
    have := nright_any p _ pb cb w' (HSd.out.kept f) (HSb.out.kept f) h.small
    rwa [hnb] at this)
  have HR2 := toHid8 (fun (h : FewPa p) w' (f : Fr None' W w') => dnright_any p _ pb nb cb w' hnb (HSd.out.kept f) (HSb.out.kept f) h.small)
  clear hT sb hv hnb ld lb F1 B1
  obtain ⟨m, hm⟩ : ∃ m, l.length = m := ⟨_, rfl⟩
  have HM := toHid8 hm
  rw [hm]
  clear hm
  go_enter Tryz.func3, Tryz.ntmps3
  go_wp2_with fail
  with_reducible refine q1.mono ?_
  rintro e w2 ⟨rfl, f2⟩
  have HF2 := toHid8 (HF1.out.then7 f2)
  have HB2 := toHid8 (HB.out.kept f2)
  have q2 := HG.out w2 HF2.out
  obtain ⟨a0, a1, a2⟩ := HB2.out.cells
  clear q1 f2 HF1 HB
  go_wp2_with fail
  with_reducible refine q2.mono ?_
  rintro e w3 ⟨g, rfl, hg, f3⟩
  have HF3 := toHid8 (HF2.out.then7 f3)
  have HB3 := toHid8 (HB2.out.kept f3)
  clear q2 f3 HG a0 a1 a2
  cases g with
  | true =>
    clear hg
    go_wp2_with fail
    go_ret
    exact ⟨rfl, HF3.out⟩
  | false =>
    have HW := toHid8 (hg rfl)
    clear hg
    by_cases hbig : m ≤ 20000
    case neg =>
      have i1 : (20000 : Int) < (m : Int) := by omega
      clear hbig
      go_wp2_with fail
      go_ret
      exact ⟨rfl, HF3.out⟩
    have i1 : ¬ (20000 : Int) < (m : Int) := by omega
    by_cases hsb : s.size ≤ 3000
    case neg =>
      have i2 : (3000 : Int) < (s.size : Int) := by omega
      clear hbig hsb
      go_wp2_with fail
      go_ret
      exact ⟨rfl, HF3.out⟩
    have i2 : ¬ (3000 : Int) < (s.size : Int) := by omega
    have HSz := toHid8 hsb
    have q3 := HP.out HW.out w3 HF3.out
    obtain ⟨a0, a1, a2⟩ := HB3.out.cells
    have HU := toHid8 (fun w' (f : Fr None' W w') => show Calls Tryz.prog 12 #[.slice pv m cv] w' fun e w'' => GetPost w' l e w'' from by
      have := nget_any _ l w' (HV.out.kept f) (by rw [HM.out]; omega) (fun q e => small_read (by rw [HM.out]; omega) q e)
      rwa [HM.out] at this)
    have HU2 := toHid8 (fun w' (f : Fr None' W w') => show Calls Tryz.prog 13 #[.slice pv m cv] w' fun e w'' => GetPost w' l e w'' from by
      have := dnget_any _ l w' (HV.out.kept f) (by rw [HM.out]; omega)
      rwa [HM.out] at this)
    have HSmall := toHid8 (fun u (hu : getP l = some u) => small_len (p := u) (by rw [(put_get hu).2.2, HM.out]; omega))
    clear hbig hsb
    obtain ⟨R, hR⟩ : ∃ R, rightPa p = R := ⟨_, rfl⟩
    have HRp := toHid8 hR
    have HRa := toHid8 (fun w' f => HR.out HW.out w' f)
    have HRb := toHid8 (fun w' f => HR2.out HW.out w' f)
    rw [hR] at HRa HRb
    clear hR HR HR2
    go_wp2_with fail
    with_reducible refine q3.mono ?_
    rintro e w4 ⟨hP1, hP2, f4⟩
    have HF4 := toHid8 (HF3.out.then7 f4)
    have HB4 := toHid8 (HB3.out.kept f4)
    have q4 := HP2.out HW.out w4 HF4.out
    clear q3 f4 HB3
    clear a0 a1 a2
    obtain ⟨a0, a1, a2⟩ := HB4.out.cells
    cases R with
    | false =>
      obtain rfl := hP2 HRp.out
      clear hP1 hP2
      go_wp2_with fail
      with_reducible refine q4.mono ?_
      rintro e w5 ⟨-, hP2, f5⟩
      obtain rfl := hP2 HRp.out
      have HF5 := toHid8 (HF4.out.then7 f5)
      have HB5 := toHid8 (HB4.out.kept f5)
      have q5 := HU.out w5 HF5.out
      have HXa := toHid8 (show ByAt w5 (.slice none 0 0) [] from ⟨none, 0, rfl, Nat.le_refl _, fun _ => rfl, fun j x hj => by simp at hj⟩)
      have HYa := toHid8 (show ByAt w5 (.slice none 0 0) [] from ⟨none, 0, rfl, Nat.le_refl _, fun _ => rfl, fun j x hj => by simp at hj⟩)
      clear q4 hP2 f5 a0 a1 a2
      obtain ⟨LB, hLB⟩ : ∃ L, labelB (unB s) = L := ⟨_, rfl⟩
      have HLB := toHid8 hLB
      obtain ⟨SX, hSX⟩ : ∃ S, mkB ([]) = S := ⟨_, rfl⟩
      have HSX := toHid8 hSX
      clear hLB hSX
      go_wp2_with fail
      with_reducible refine q5.mono ?_
      rintro e w6 ⟨hG1, hG2, f6⟩
      cases hg : getP l with
      | none =>
        obtain rfl := hG2 hg
        obtain ⟨w7, hw7⟩ : ∃ x, w6.alloc (.cells #[.string ⟨#[]⟩, .slice none 0 0, .slice none 0 0] 25) = x := ⟨_, rfl⟩
        have F7 : Fr None' w6 w7 := hw7 ▸ Fr.alloc None' w6 _
        have HU7 := toHid8 (show Box3 w7 w6.heap.size (.string ⟨#[]⟩) (.slice none 0 0) (.slice none 0 0) from hw7 ▸ Box3.new w6 _ _ _)
        have HF7 := toHid8 (f6.then7 F7)
        have Hw7 := toHid8 hw7
        have q6 := HU2.out w7 (HF5.out.then7 HF7.out)
        have HGn := toHid8 hg
        clear q5 hG1 hG2 f6 F7 hw7 hg
        go_wp2_with fail
        rw [Hw7.out]
        with_reducible refine q6.mono ?_
        rintro e w8 ⟨-, hG2, f8⟩
        obtain rfl := hG2 HGn.out
        obtain ⟨bU, hbU⟩ : ∃ b, w6.heap.size = b := ⟨_, rfl⟩
        obtain ⟨bV, hbV⟩ : ∃ b, w8.heap.size = b := ⟨_, rfl⟩
        obtain ⟨wE, hwE⟩ : ∃ x, w8.alloc (.cells #[.string ⟨#[]⟩, .slice none 0 0, .slice none 0 0] 25) = x := ⟨_, rfl⟩
        have FE : Fr None' w8 wE := hwE ▸ Fr.alloc None' w8 _
        have F7E := HF7.out.then7 (f8.then7 FE)
        have HVE := toHid8 (show Box3 wE bV (.string ⟨#[]⟩) (.slice none 0 0) (.slice none 0 0) from hbV ▸ (hwE ▸ Box3.new w8 _ _ _))
        have HUE := toHid8 (show Box3 wE bU (.string ⟨#[]⟩) (.slice none 0 0) (.slice none 0 0) from hbU ▸ HU7.out.kept (f8.then7 FE))
        have HBE := toHid8 (HB5.out.kept F7E)
        have HFE := toHid8 (HF5.out.then7 F7E)
        have HXE := toHid8 (HXa.out.kept F7E)
        have HYE := toHid8 (HYa.out.kept F7E)
        have HSE := toHid8 (fun w' (_f : Fr None' wE w') => show Calls Tryz.prog 16 #[.agg #[.string ⟨#[]⟩, .slice none 0 0, .slice none 0 0], .agg #[.string ⟨#[]⟩, .slice none 0 0, .slice none 0 0]] w' fun e w'' => e = .returned (.bool true) ∧ Fr None' w' w'' from msame_any ⟨⟨#[]⟩, [], []⟩ ⟨⟨#[]⟩, [], []⟩ _ _ none none 0 0 0 0 w' rfl rfl (nilS8 w') (nilS8 w') (fun k x hk => by cases hk) (fun k x hk => by cases hk) (by decide) (by decide) (fun x hx => by cases hx))
        have HwE := toHid8 hwE
        rw [hbU]
        clear q6 hG2 f8 FE F7E hwE
        have K0 : ∀ x : FrC wE, x.to.cell? ⟨W.heap.size, 0, none⟩ = some (.string p.name) := fun x => (HBE.out.kept x.fr).cells.1
        have K1 : ∀ x : FrC wE, x.to.cell? ⟨W.heap.size, 1, none⟩ = some (.slice pa p.deps.length ca) := fun x => (HBE.out.kept x.fr).cells.2.1
        have K2 : ∀ x : FrC wE, x.to.cell? ⟨W.heap.size, 2, none⟩ = some (.slice pb nb cb) := fun x => (HBE.out.kept x.fr).cells.2.2
        have C1 : ∀ x : FrC wE, (convert 26 9 (.slice none 0 0)).run Tryz.prog x.to = .ok (.string SX) x.to := fun x => by rw [← HSX.out]; exact (HXE.out.kept x.fr).conv
        have C2 : ∀ x : FrC wE, (convert 26 9 (.slice none 0 0)).run Tryz.prog x.to = .ok (.string SX) x.to := fun x => by rw [← HSX.out]; exact (HYE.out.kept x.fr).conv
        have A0 : ∀ x : FrC wE, x.to.cell? ⟨bU, 0, none⟩ = some (.string ⟨#[]⟩) := fun x => (HUE.out.kept x.fr).cells.1
        have A1 : ∀ x : FrC wE, x.to.cell? ⟨bU, 1, none⟩ = some (.slice none 0 0) := fun x => (HUE.out.kept x.fr).cells.2.1
        have A2 : ∀ x : FrC wE, x.to.cell? ⟨bU, 2, none⟩ = some (.slice none 0 0) := fun x => (HUE.out.kept x.fr).cells.2.2
        have D0 : ∀ x : FrC wE, x.to.cell? ⟨bV, 0, none⟩ = some (.string ⟨#[]⟩) := fun x => (HVE.out.kept x.fr).cells.1
        have D1 : ∀ x : FrC wE, x.to.cell? ⟨bV, 1, none⟩ = some (.slice none 0 0) := fun x => (HVE.out.kept x.fr).cells.2.1
        have D2 : ∀ x : FrC wE, x.to.cell? ⟨bV, 2, none⟩ = some (.slice none 0 0) := fun x => (HVE.out.kept x.fr).cells.2.2
        have U1 : ∀ x : FrC wE, Calls Tryz.prog 14 #[.agg #[.string p.name, .slice pa p.deps.length ca, .slice pb nb cb]] x.to fun e w' => e = .returned (.bool false) ∧ ∃ y : FrC wE, w' = y.to := fun x => (HRa.out x.to (HFE.out.then7 x.fr)).mono fun _ _ h => ⟨h.1, ⟨_, x.fr.then7 h.2⟩, rfl⟩
        have U2 : ∀ x : FrC wE, Calls Tryz.prog 15 #[.agg #[.string p.name, .slice pa p.deps.length ca, .slice pb nb cb]] x.to fun e w' => e = .returned (.bool false) ∧ ∃ y : FrC wE, w' = y.to := fun x => (HRb.out x.to (HFE.out.then7 x.fr)).mono fun _ _ h => ⟨h.1, ⟨_, x.fr.then7 h.2⟩, rfl⟩
        have U3 : ∀ x : FrC wE, Calls Tryz.prog 16 #[.agg #[(.string ⟨#[]⟩), (.slice none 0 0), (.slice none 0 0)], .agg #[(.string ⟨#[]⟩), (.slice none 0 0), (.slice none 0 0)]] x.to fun e w' => e = .returned (.bool true) ∧ ∃ y : FrC wE, w' = y.to := fun x => (HSE.out x.to x.fr).mono fun _ _ h => ⟨h.1, ⟨_, x.fr.then7 h.2⟩, rfl⟩
        have U4 : ∀ x : FrC wE, Calls Tryz.prog 17 #[.string s] x.to fun e w' => e = .returned (.bool LB) ∧ ∃ y : FrC wE, w' = y.to := fun x => (label_any s x.to (by have := HSz.out; omega)).mono fun _ _ h => ⟨by rw [HLB.out] at h; exact h.1, ⟨_, x.fr.then7 h.2⟩, rfl⟩
        have U5 : ∀ x : FrC wE, Calls Tryz.prog 18 #[.string s] x.to fun e w' => e = .returned (.bool LB) ∧ ∃ y : FrC wE, w' = y.to := fun x => (dlabel_any s x.to (by have := HSz.out; omega)).mono fun _ _ h => ⟨by rw [HLB.out] at h; exact h.1, x, h.2⟩
        go_wp2_with fail
        rw [HwE.out]
        refine wp_region_quiet (C := fun w' => ∃ x : FrC wE, w' = x.to) (by kernel_rfl) (by kernel_rfl) ⟨⟨_, Fr.drew None' wE⟩, rfl⟩ ?_
        simp only
        repeat (quiet_step (first | (go_at_call 14; with_reducible exact U1 _) | (go_at_call 15; with_reducible exact U2 _) | (go_at_call 16; with_reducible exact U3 _) | (go_at_call 17; with_reducible exact U4 _) | (go_at_call 18; with_reducible exact U5 _)))
        refine wpQuiet_nil ?_
        intro wZ hwZ
        obtain ⟨x, rfl⟩ := hwZ
        have HFx := toHid8 (HFE.out.then7 x.fr)
        clear K0 K1 K2 C1 C2 A0 A1 A2 D0 D1 D2 U1 U2 U3 U4 U5
        go_wp2_with fail
        go_ret
        exact ⟨by first | rfl | exact ret_bool7 (by simp), HFx.out⟩
      | some u =>
        obtain ⟨ud, qb, db, rfl, t1, t2⟩ := hG1 u hg
        have HSu := toHid8 (HSmall.out u hg)
        have HDf := toHid8 (few_deps (put_get hg).2.1)
        have t1c := t1
        obtain ⟨pu, cu, eu, -⟩ := t1c
        subst eu
        obtain ⟨nd, hnd⟩ : ∃ n, u.deps.length = n := ⟨_, rfl⟩
        obtain ⟨nu, hnu⟩ : ∃ n, u.body.length = n := ⟨_, rfl⟩
        have HNd := toHid8 hnd
        have HNu := toHid8 hnu
        rw [hnd, hnu]
        obtain ⟨w7, hw7⟩ : ∃ x, w6.alloc (.cells #[.string u.name, .slice pu nd cu, .slice qb nu db] 25) = x := ⟨_, rfl⟩
        have F7 : Fr None' w6 w7 := hw7 ▸ Fr.alloc None' w6 _
        have HU7 := toHid8 (show Box3 w7 w6.heap.size (.string u.name) (.slice pu nd cu) (.slice qb nu db) from hw7 ▸ Box3.new w6 _ _ _)
        have HF7 := toHid8 (f6.then7 F7)
        have q6 := HU2.out w7 (HF5.out.then7 HF7.out)
        have HGs := toHid8 hg
        have HT1 := toHid8 (t1.kept F7)
        have HT2 := toHid8 (t2.kept F7)
        clear q5 hG1 hG2 f6 F7 hg t1 t2 hnd hnu
        go_wp2_with fail
        with_reducible refine q6.mono ?_
        rintro e w8 ⟨hG1, -, f8⟩
        obtain ⟨ud', qb', db', rfl, t1, t2⟩ := hG1 u HGs.out
        have t1c := t1
        obtain ⟨pu', cu', eu, -⟩ := t1c
        subst eu
        rw [HNd.out, HNu.out]
        obtain ⟨bU, hbU⟩ : ∃ b, w6.heap.size = b := ⟨_, rfl⟩
        obtain ⟨bV, hbV⟩ : ∃ b, w8.heap.size = b := ⟨_, rfl⟩
        obtain ⟨wE, hwE⟩ : ∃ x, w8.alloc (.cells #[.string u.name, .slice pu' nd cu', .slice qb' nu db'] 25) = x := ⟨_, rfl⟩
        have FE : Fr None' w8 wE := hwE ▸ Fr.alloc None' w8 _
        have F7E := HF7.out.then7 (f8.then7 FE)
        have HVE := toHid8 (show Box3 wE bV (.string u.name) (.slice pu' nd cu') (.slice qb' nu db') from hbV ▸ (hwE ▸ Box3.new w8 _ _ _))
        have HUE := toHid8 (show Box3 wE bU (.string u.name) (.slice pu nd cu) (.slice qb nu db) from hbU ▸ HU7.out.kept (f8.then7 FE))
        have HBE := toHid8 (HB5.out.kept F7E)
        have HFE := toHid8 (HF5.out.then7 F7E)
        have HXE := toHid8 (HXa.out.kept F7E)
        have HYE := toHid8 (HYa.out.kept F7E)
        have HSE := toHid8 (fun w' (f : Fr None' wE w') => show Calls Tryz.prog 16 #[.agg #[.string u.name, .slice pu nd cu, .slice qb nu db], .agg #[.string u.name, .slice pu' nd cu', .slice qb' nu db']] w' fun e w'' => e = .returned (.bool true) ∧ Fr None' w' w'' from by
          have h := msame_any u u (.slice pu u.deps.length cu) (.slice pu' u.deps.length cu') qb qb' nu nu db db' w' HNu.out HNu.out (HT1.out.kept (f8.then7 (FE.then7 f))) (t1.kept (FE.then7 f)) (HT2.out.kept (f8.then7 (FE.then7 f))) (t2.kept (FE.then7 f)) (by have h1 := HSu.out.body.1; have h2 := HNu.out; omega) (by have h1 := HDf.out; omega) (fun x hx => by have := HSu.out.body.2 x hx; exact ⟨by have := this.old; omega, by have := this.new; omega⟩)
          rw [same_self, HNd.out] at h
          exact h)
        rw [hbU]
        clear q6 hG1 f8 FE F7E t1 t2
        have K0 : ∀ x : FrC wE, x.to.cell? ⟨W.heap.size, 0, none⟩ = some (.string p.name) := fun x => (HBE.out.kept x.fr).cells.1
        have K1 : ∀ x : FrC wE, x.to.cell? ⟨W.heap.size, 1, none⟩ = some (.slice pa p.deps.length ca) := fun x => (HBE.out.kept x.fr).cells.2.1
        have K2 : ∀ x : FrC wE, x.to.cell? ⟨W.heap.size, 2, none⟩ = some (.slice pb nb cb) := fun x => (HBE.out.kept x.fr).cells.2.2
        have C1 : ∀ x : FrC wE, (convert 26 9 (.slice none 0 0)).run Tryz.prog x.to = .ok (.string SX) x.to := fun x => by rw [← HSX.out]; exact (HXE.out.kept x.fr).conv
        have C2 : ∀ x : FrC wE, (convert 26 9 (.slice none 0 0)).run Tryz.prog x.to = .ok (.string SX) x.to := fun x => by rw [← HSX.out]; exact (HYE.out.kept x.fr).conv
        have A0 : ∀ x : FrC wE, x.to.cell? ⟨bU, 0, none⟩ = some (.string u.name) := fun x => (HUE.out.kept x.fr).cells.1
        have A1 : ∀ x : FrC wE, x.to.cell? ⟨bU, 1, none⟩ = some (.slice pu nd cu) := fun x => (HUE.out.kept x.fr).cells.2.1
        have A2 : ∀ x : FrC wE, x.to.cell? ⟨bU, 2, none⟩ = some (.slice qb nu db) := fun x => (HUE.out.kept x.fr).cells.2.2
        have D0 : ∀ x : FrC wE, x.to.cell? ⟨bV, 0, none⟩ = some (.string u.name) := fun x => (HVE.out.kept x.fr).cells.1
        have D1 : ∀ x : FrC wE, x.to.cell? ⟨bV, 1, none⟩ = some (.slice pu' nd cu') := fun x => (HVE.out.kept x.fr).cells.2.1
        have D2 : ∀ x : FrC wE, x.to.cell? ⟨bV, 2, none⟩ = some (.slice qb' nu db') := fun x => (HVE.out.kept x.fr).cells.2.2
        have U1 : ∀ x : FrC wE, Calls Tryz.prog 14 #[.agg #[.string p.name, .slice pa p.deps.length ca, .slice pb nb cb]] x.to fun e w' => e = .returned (.bool false) ∧ ∃ y : FrC wE, w' = y.to := fun x => (HRa.out x.to (HFE.out.then7 x.fr)).mono fun _ _ h => ⟨h.1, ⟨_, x.fr.then7 h.2⟩, rfl⟩
        have U2 : ∀ x : FrC wE, Calls Tryz.prog 15 #[.agg #[.string p.name, .slice pa p.deps.length ca, .slice pb nb cb]] x.to fun e w' => e = .returned (.bool false) ∧ ∃ y : FrC wE, w' = y.to := fun x => (HRb.out x.to (HFE.out.then7 x.fr)).mono fun _ _ h => ⟨h.1, ⟨_, x.fr.then7 h.2⟩, rfl⟩
        have U3 : ∀ x : FrC wE, Calls Tryz.prog 16 #[.agg #[(.string u.name), (.slice pu nd cu), (.slice qb nu db)], .agg #[(.string u.name), (.slice pu' nd cu'), (.slice qb' nu db')]] x.to fun e w' => e = .returned (.bool true) ∧ ∃ y : FrC wE, w' = y.to := fun x => (HSE.out x.to x.fr).mono fun _ _ h => ⟨h.1, ⟨_, x.fr.then7 h.2⟩, rfl⟩
        have U4 : ∀ x : FrC wE, Calls Tryz.prog 17 #[.string s] x.to fun e w' => e = .returned (.bool LB) ∧ ∃ y : FrC wE, w' = y.to := fun x => (label_any s x.to (by have := HSz.out; omega)).mono fun _ _ h => ⟨by rw [HLB.out] at h; exact h.1, ⟨_, x.fr.then7 h.2⟩, rfl⟩
        have U5 : ∀ x : FrC wE, Calls Tryz.prog 18 #[.string s] x.to fun e w' => e = .returned (.bool LB) ∧ ∃ y : FrC wE, w' = y.to := fun x => (dlabel_any s x.to (by have := HSz.out; omega)).mono fun _ _ h => ⟨by rw [HLB.out] at h; exact h.1, x, h.2⟩
        go_wp2_with fail
        refine wp_region_quiet (C := fun w' => ∃ x : FrC wE, w' = x.to) (by kernel_rfl) (by kernel_rfl) ⟨⟨_, Fr.drew None' wE⟩, rfl⟩ ?_
        simp only
        repeat (quiet_step (first | (go_at_call 14; with_reducible exact U1 _) | (go_at_call 15; with_reducible exact U2 _) | (go_at_call 16; with_reducible exact U3 _) | (go_at_call 17; with_reducible exact U4 _) | (go_at_call 18; with_reducible exact U5 _)))
        refine wpQuiet_nil ?_
        intro wZ hwZ
        obtain ⟨x, rfl⟩ := hwZ
        have HFx := toHid8 (HFE.out.then7 x.fr)
        clear K0 K1 K2 C1 C2 A0 A1 A2 D0 D1 D2 U1 U2 U3 U4 U5
        go_wp2_with fail
        go_ret
        exact ⟨by first | rfl | exact ret_bool7 (by simp), HFx.out⟩
    | true =>
      obtain ⟨x, rfl, hx⟩ := hP1 HRp.out
      clear hP1 hP2
      obtain ⟨px, cx, ex⟩ := hx.is
      subst ex
      obtain ⟨mx, hmx⟩ : ∃ m, (patch13 p).length = m := ⟨_, rfl⟩
      rw [hmx]
      have HXx := toHid8 hx
      have HMx := toHid8 hmx
      clear hmx hx
      go_wp2_with fail
      with_reducible refine q4.mono ?_
      rintro e w5 ⟨hP1, -, f5⟩
      obtain ⟨y, rfl, hy⟩ := hP1 HRp.out
      obtain ⟨py, cy, ey⟩ := hy.is
      subst ey
      have HXa := toHid8 (show ByAt w5 (.slice px mx cx) (patch13 p) from by have := HXx.out.kept f5; rwa [HMx.out] at this)
      have HYa := toHid8 (show ByAt w5 (.slice py mx cy) (patch13 p) from by rwa [HMx.out] at hy)
      rw [HMx.out]
      have HF5 := toHid8 (HF4.out.then7 f5)
      have HB5 := toHid8 (HB4.out.kept f5)
      have q5 := HU.out w5 HF5.out
      clear q4 hP1 f5 hy a0 a1 a2
      obtain ⟨LB, hLB⟩ : ∃ L, labelB (unB s) = L := ⟨_, rfl⟩
      have HLB := toHid8 hLB
      obtain ⟨SX, hSX⟩ : ∃ S, mkB (patch13 p) = S := ⟨_, rfl⟩
      have HSX := toHid8 hSX
      clear hLB hSX
      go_wp2_with fail
      with_reducible refine q5.mono ?_
      rintro e w6 ⟨hG1, hG2, f6⟩
      cases hg : getP l with
      | none =>
        obtain rfl := hG2 hg
        obtain ⟨w7, hw7⟩ : ∃ x, w6.alloc (.cells #[.string ⟨#[]⟩, .slice none 0 0, .slice none 0 0] 25) = x := ⟨_, rfl⟩
        have F7 : Fr None' w6 w7 := hw7 ▸ Fr.alloc None' w6 _
        have HU7 := toHid8 (show Box3 w7 w6.heap.size (.string ⟨#[]⟩) (.slice none 0 0) (.slice none 0 0) from hw7 ▸ Box3.new w6 _ _ _)
        have HF7 := toHid8 (f6.then7 F7)
        have Hw7 := toHid8 hw7
        have q6 := HU2.out w7 (HF5.out.then7 HF7.out)
        have HGn := toHid8 hg
        clear q5 hG1 hG2 f6 F7 hw7 hg
        go_wp2_with fail
        rw [Hw7.out]
        with_reducible refine q6.mono ?_
        rintro e w8 ⟨-, hG2, f8⟩
        obtain rfl := hG2 HGn.out
        obtain ⟨bU, hbU⟩ : ∃ b, w6.heap.size = b := ⟨_, rfl⟩
        obtain ⟨bV, hbV⟩ : ∃ b, w8.heap.size = b := ⟨_, rfl⟩
        obtain ⟨wE, hwE⟩ : ∃ x, w8.alloc (.cells #[.string ⟨#[]⟩, .slice none 0 0, .slice none 0 0] 25) = x := ⟨_, rfl⟩
        have FE : Fr None' w8 wE := hwE ▸ Fr.alloc None' w8 _
        have F7E := HF7.out.then7 (f8.then7 FE)
        have HVE := toHid8 (show Box3 wE bV (.string ⟨#[]⟩) (.slice none 0 0) (.slice none 0 0) from hbV ▸ (hwE ▸ Box3.new w8 _ _ _))
        have HUE := toHid8 (show Box3 wE bU (.string ⟨#[]⟩) (.slice none 0 0) (.slice none 0 0) from hbU ▸ HU7.out.kept (f8.then7 FE))
        have HBE := toHid8 (HB5.out.kept F7E)
        have HFE := toHid8 (HF5.out.then7 F7E)
        have HXE := toHid8 (HXa.out.kept F7E)
        have HYE := toHid8 (HYa.out.kept F7E)
        have HSE := toHid8 (fun w' (_f : Fr None' wE w') => show Calls Tryz.prog 16 #[.agg #[.string ⟨#[]⟩, .slice none 0 0, .slice none 0 0], .agg #[.string ⟨#[]⟩, .slice none 0 0, .slice none 0 0]] w' fun e w'' => e = .returned (.bool true) ∧ Fr None' w' w'' from msame_any ⟨⟨#[]⟩, [], []⟩ ⟨⟨#[]⟩, [], []⟩ _ _ none none 0 0 0 0 w' rfl rfl (nilS8 w') (nilS8 w') (fun k x hk => by cases hk) (fun k x hk => by cases hk) (by decide) (by decide) (fun x hx => by cases hx))
        have HwE := toHid8 hwE
        rw [hbU]
        clear q6 hG2 f8 FE F7E hwE
        have K0 : ∀ x : FrC wE, x.to.cell? ⟨W.heap.size, 0, none⟩ = some (.string p.name) := fun x => (HBE.out.kept x.fr).cells.1
        have K1 : ∀ x : FrC wE, x.to.cell? ⟨W.heap.size, 1, none⟩ = some (.slice pa p.deps.length ca) := fun x => (HBE.out.kept x.fr).cells.2.1
        have K2 : ∀ x : FrC wE, x.to.cell? ⟨W.heap.size, 2, none⟩ = some (.slice pb nb cb) := fun x => (HBE.out.kept x.fr).cells.2.2
        have C1 : ∀ x : FrC wE, (convert 26 9 (.slice px mx cx)).run Tryz.prog x.to = .ok (.string SX) x.to := fun x => by rw [← HSX.out]; exact (HXE.out.kept x.fr).conv
        have C2 : ∀ x : FrC wE, (convert 26 9 (.slice py mx cy)).run Tryz.prog x.to = .ok (.string SX) x.to := fun x => by rw [← HSX.out]; exact (HYE.out.kept x.fr).conv
        have A0 : ∀ x : FrC wE, x.to.cell? ⟨bU, 0, none⟩ = some (.string ⟨#[]⟩) := fun x => (HUE.out.kept x.fr).cells.1
        have A1 : ∀ x : FrC wE, x.to.cell? ⟨bU, 1, none⟩ = some (.slice none 0 0) := fun x => (HUE.out.kept x.fr).cells.2.1
        have A2 : ∀ x : FrC wE, x.to.cell? ⟨bU, 2, none⟩ = some (.slice none 0 0) := fun x => (HUE.out.kept x.fr).cells.2.2
        have D0 : ∀ x : FrC wE, x.to.cell? ⟨bV, 0, none⟩ = some (.string ⟨#[]⟩) := fun x => (HVE.out.kept x.fr).cells.1
        have D1 : ∀ x : FrC wE, x.to.cell? ⟨bV, 1, none⟩ = some (.slice none 0 0) := fun x => (HVE.out.kept x.fr).cells.2.1
        have D2 : ∀ x : FrC wE, x.to.cell? ⟨bV, 2, none⟩ = some (.slice none 0 0) := fun x => (HVE.out.kept x.fr).cells.2.2
        have U1 : ∀ x : FrC wE, Calls Tryz.prog 14 #[.agg #[.string p.name, .slice pa p.deps.length ca, .slice pb nb cb]] x.to fun e w' => e = .returned (.bool true) ∧ ∃ y : FrC wE, w' = y.to := fun x => (HRa.out x.to (HFE.out.then7 x.fr)).mono fun _ _ h => ⟨h.1, ⟨_, x.fr.then7 h.2⟩, rfl⟩
        have U2 : ∀ x : FrC wE, Calls Tryz.prog 15 #[.agg #[.string p.name, .slice pa p.deps.length ca, .slice pb nb cb]] x.to fun e w' => e = .returned (.bool true) ∧ ∃ y : FrC wE, w' = y.to := fun x => (HRb.out x.to (HFE.out.then7 x.fr)).mono fun _ _ h => ⟨h.1, ⟨_, x.fr.then7 h.2⟩, rfl⟩
        have U3 : ∀ x : FrC wE, Calls Tryz.prog 16 #[.agg #[(.string ⟨#[]⟩), (.slice none 0 0), (.slice none 0 0)], .agg #[(.string ⟨#[]⟩), (.slice none 0 0), (.slice none 0 0)]] x.to fun e w' => e = .returned (.bool true) ∧ ∃ y : FrC wE, w' = y.to := fun x => (HSE.out x.to x.fr).mono fun _ _ h => ⟨h.1, ⟨_, x.fr.then7 h.2⟩, rfl⟩
        have U4 : ∀ x : FrC wE, Calls Tryz.prog 17 #[.string s] x.to fun e w' => e = .returned (.bool LB) ∧ ∃ y : FrC wE, w' = y.to := fun x => (label_any s x.to (by have := HSz.out; omega)).mono fun _ _ h => ⟨by rw [HLB.out] at h; exact h.1, ⟨_, x.fr.then7 h.2⟩, rfl⟩
        have U5 : ∀ x : FrC wE, Calls Tryz.prog 18 #[.string s] x.to fun e w' => e = .returned (.bool LB) ∧ ∃ y : FrC wE, w' = y.to := fun x => (dlabel_any s x.to (by have := HSz.out; omega)).mono fun _ _ h => ⟨by rw [HLB.out] at h; exact h.1, x, h.2⟩
        go_wp2_with fail
        rw [HwE.out]
        refine wp_region_quiet (C := fun w' => ∃ x : FrC wE, w' = x.to) (by kernel_rfl) (by kernel_rfl) ⟨⟨_, Fr.drew None' wE⟩, rfl⟩ ?_
        simp only
        repeat (quiet_step (first | (go_at_call 14; with_reducible exact U1 _) | (go_at_call 15; with_reducible exact U2 _) | (go_at_call 16; with_reducible exact U3 _) | (go_at_call 17; with_reducible exact U4 _) | (go_at_call 18; with_reducible exact U5 _)))
        refine wpQuiet_nil ?_
        intro wZ hwZ
        obtain ⟨x, rfl⟩ := hwZ
        have HFx := toHid8 (HFE.out.then7 x.fr)
        clear K0 K1 K2 C1 C2 A0 A1 A2 D0 D1 D2 U1 U2 U3 U4 U5
        go_wp2_with fail
        go_ret
        exact ⟨by first | rfl | exact ret_bool7 (by simp), HFx.out⟩
      | some u =>
        obtain ⟨ud, qb, db, rfl, t1, t2⟩ := hG1 u hg
        have HSu := toHid8 (HSmall.out u hg)
        have HDf := toHid8 (few_deps (put_get hg).2.1)
        have t1c := t1
        obtain ⟨pu, cu, eu, -⟩ := t1c
        subst eu
        obtain ⟨nd, hnd⟩ : ∃ n, u.deps.length = n := ⟨_, rfl⟩
        obtain ⟨nu, hnu⟩ : ∃ n, u.body.length = n := ⟨_, rfl⟩
        have HNd := toHid8 hnd
        have HNu := toHid8 hnu
        rw [hnd, hnu]
        obtain ⟨w7, hw7⟩ : ∃ x, w6.alloc (.cells #[.string u.name, .slice pu nd cu, .slice qb nu db] 25) = x := ⟨_, rfl⟩
        have F7 : Fr None' w6 w7 := hw7 ▸ Fr.alloc None' w6 _
        have HU7 := toHid8 (show Box3 w7 w6.heap.size (.string u.name) (.slice pu nd cu) (.slice qb nu db) from hw7 ▸ Box3.new w6 _ _ _)
        have HF7 := toHid8 (f6.then7 F7)
        have q6 := HU2.out w7 (HF5.out.then7 HF7.out)
        have HGs := toHid8 hg
        have HT1 := toHid8 (t1.kept F7)
        have HT2 := toHid8 (t2.kept F7)
        clear q5 hG1 hG2 f6 F7 hg t1 t2 hnd hnu
        go_wp2_with fail
        with_reducible refine q6.mono ?_
        rintro e w8 ⟨hG1, -, f8⟩
        obtain ⟨ud', qb', db', rfl, t1, t2⟩ := hG1 u HGs.out
        have t1c := t1
        obtain ⟨pu', cu', eu, -⟩ := t1c
        subst eu
        rw [HNd.out, HNu.out]
        obtain ⟨bU, hbU⟩ : ∃ b, w6.heap.size = b := ⟨_, rfl⟩
        obtain ⟨bV, hbV⟩ : ∃ b, w8.heap.size = b := ⟨_, rfl⟩
        obtain ⟨wE, hwE⟩ : ∃ x, w8.alloc (.cells #[.string u.name, .slice pu' nd cu', .slice qb' nu db'] 25) = x := ⟨_, rfl⟩
        have FE : Fr None' w8 wE := hwE ▸ Fr.alloc None' w8 _
        have F7E := HF7.out.then7 (f8.then7 FE)
        have HVE := toHid8 (show Box3 wE bV (.string u.name) (.slice pu' nd cu') (.slice qb' nu db') from hbV ▸ (hwE ▸ Box3.new w8 _ _ _))
        have HUE := toHid8 (show Box3 wE bU (.string u.name) (.slice pu nd cu) (.slice qb nu db) from hbU ▸ HU7.out.kept (f8.then7 FE))
        have HBE := toHid8 (HB5.out.kept F7E)
        have HFE := toHid8 (HF5.out.then7 F7E)
        have HXE := toHid8 (HXa.out.kept F7E)
        have HYE := toHid8 (HYa.out.kept F7E)
        have HSE := toHid8 (fun w' (f : Fr None' wE w') => show Calls Tryz.prog 16 #[.agg #[.string u.name, .slice pu nd cu, .slice qb nu db], .agg #[.string u.name, .slice pu' nd cu', .slice qb' nu db']] w' fun e w'' => e = .returned (.bool true) ∧ Fr None' w' w'' from by
          have h := msame_any u u (.slice pu u.deps.length cu) (.slice pu' u.deps.length cu') qb qb' nu nu db db' w' HNu.out HNu.out (HT1.out.kept (f8.then7 (FE.then7 f))) (t1.kept (FE.then7 f)) (HT2.out.kept (f8.then7 (FE.then7 f))) (t2.kept (FE.then7 f)) (by have h1 := HSu.out.body.1; have h2 := HNu.out; omega) (by have h1 := HDf.out; omega) (fun x hx => by have := HSu.out.body.2 x hx; exact ⟨by have := this.old; omega, by have := this.new; omega⟩)
          rw [same_self, HNd.out] at h
          exact h)
        rw [hbU]
        clear q6 hG1 f8 FE F7E t1 t2
        have K0 : ∀ x : FrC wE, x.to.cell? ⟨W.heap.size, 0, none⟩ = some (.string p.name) := fun x => (HBE.out.kept x.fr).cells.1
        have K1 : ∀ x : FrC wE, x.to.cell? ⟨W.heap.size, 1, none⟩ = some (.slice pa p.deps.length ca) := fun x => (HBE.out.kept x.fr).cells.2.1
        have K2 : ∀ x : FrC wE, x.to.cell? ⟨W.heap.size, 2, none⟩ = some (.slice pb nb cb) := fun x => (HBE.out.kept x.fr).cells.2.2
        have C1 : ∀ x : FrC wE, (convert 26 9 (.slice px mx cx)).run Tryz.prog x.to = .ok (.string SX) x.to := fun x => by rw [← HSX.out]; exact (HXE.out.kept x.fr).conv
        have C2 : ∀ x : FrC wE, (convert 26 9 (.slice py mx cy)).run Tryz.prog x.to = .ok (.string SX) x.to := fun x => by rw [← HSX.out]; exact (HYE.out.kept x.fr).conv
        have A0 : ∀ x : FrC wE, x.to.cell? ⟨bU, 0, none⟩ = some (.string u.name) := fun x => (HUE.out.kept x.fr).cells.1
        have A1 : ∀ x : FrC wE, x.to.cell? ⟨bU, 1, none⟩ = some (.slice pu nd cu) := fun x => (HUE.out.kept x.fr).cells.2.1
        have A2 : ∀ x : FrC wE, x.to.cell? ⟨bU, 2, none⟩ = some (.slice qb nu db) := fun x => (HUE.out.kept x.fr).cells.2.2
        have D0 : ∀ x : FrC wE, x.to.cell? ⟨bV, 0, none⟩ = some (.string u.name) := fun x => (HVE.out.kept x.fr).cells.1
        have D1 : ∀ x : FrC wE, x.to.cell? ⟨bV, 1, none⟩ = some (.slice pu' nd cu') := fun x => (HVE.out.kept x.fr).cells.2.1
        have D2 : ∀ x : FrC wE, x.to.cell? ⟨bV, 2, none⟩ = some (.slice qb' nu db') := fun x => (HVE.out.kept x.fr).cells.2.2
        have U1 : ∀ x : FrC wE, Calls Tryz.prog 14 #[.agg #[.string p.name, .slice pa p.deps.length ca, .slice pb nb cb]] x.to fun e w' => e = .returned (.bool true) ∧ ∃ y : FrC wE, w' = y.to := fun x => (HRa.out x.to (HFE.out.then7 x.fr)).mono fun _ _ h => ⟨h.1, ⟨_, x.fr.then7 h.2⟩, rfl⟩
        have U2 : ∀ x : FrC wE, Calls Tryz.prog 15 #[.agg #[.string p.name, .slice pa p.deps.length ca, .slice pb nb cb]] x.to fun e w' => e = .returned (.bool true) ∧ ∃ y : FrC wE, w' = y.to := fun x => (HRb.out x.to (HFE.out.then7 x.fr)).mono fun _ _ h => ⟨h.1, ⟨_, x.fr.then7 h.2⟩, rfl⟩
        have U3 : ∀ x : FrC wE, Calls Tryz.prog 16 #[.agg #[(.string u.name), (.slice pu nd cu), (.slice qb nu db)], .agg #[(.string u.name), (.slice pu' nd cu'), (.slice qb' nu db')]] x.to fun e w' => e = .returned (.bool true) ∧ ∃ y : FrC wE, w' = y.to := fun x => (HSE.out x.to x.fr).mono fun _ _ h => ⟨h.1, ⟨_, x.fr.then7 h.2⟩, rfl⟩
        have U4 : ∀ x : FrC wE, Calls Tryz.prog 17 #[.string s] x.to fun e w' => e = .returned (.bool LB) ∧ ∃ y : FrC wE, w' = y.to := fun x => (label_any s x.to (by have := HSz.out; omega)).mono fun _ _ h => ⟨by rw [HLB.out] at h; exact h.1, ⟨_, x.fr.then7 h.2⟩, rfl⟩
        have U5 : ∀ x : FrC wE, Calls Tryz.prog 18 #[.string s] x.to fun e w' => e = .returned (.bool LB) ∧ ∃ y : FrC wE, w' = y.to := fun x => (dlabel_any s x.to (by have := HSz.out; omega)).mono fun _ _ h => ⟨by rw [HLB.out] at h; exact h.1, x, h.2⟩
        go_wp2_with fail
        refine wp_region_quiet (C := fun w' => ∃ x : FrC wE, w' = x.to) (by kernel_rfl) (by kernel_rfl) ⟨⟨_, Fr.drew None' wE⟩, rfl⟩ ?_
        simp only
        repeat (quiet_step (first | (go_at_call 14; with_reducible exact U1 _) | (go_at_call 15; with_reducible exact U2 _) | (go_at_call 16; with_reducible exact U3 _) | (go_at_call 17; with_reducible exact U4 _) | (go_at_call 18; with_reducible exact U5 _)))
        refine wpQuiet_nil ?_
        intro wZ hwZ
        obtain ⟨x, rfl⟩ := hwZ
        have HFx := toHid8 (HFE.out.then7 x.fr)
        clear K0 K1 K2 C1 C2 A0 A1 A2 D0 D1 D2 U1 U2 U3 U4 U5
        go_wp2_with fail
        go_ret
        exact ⟨by first | rfl | exact ret_bool7 (by simp), HFx.out⟩

end Go.Proofs.YtofpkpomhdhkgaaGreatDoor
