/-
  What is proved here: two patches and a bool are answered out of two boxes. No condition.
-/
import Derived.Test.YtlmgbcfcikdgpaaGreatDoorBox9
namespace Go.Proofs.YtlmgbcfcikdgpaaGreatDoor
open Go.RowKit
set_option maxRecDepth 100000

theorem results_two {fn : Func} {p q r : Tmp} (hres : fn.results = #[.cell p 24, .cell q 24, .tmp r]) (tmps : Array Value) {w : World} {b c : Nat} {y0 y1 y2 y3 y4 y5 y6 z0 z1 z2 z3 z4 z5 z6 : Value} (hp : tmps.getD p undef = .pointer (some ⟨b, 0, none⟩)) (hq : tmps.getD q undef = .pointer (some ⟨c, 0, none⟩)) (h : Box w b y0 y1 y2 y3 y4 y5 y6) (k : Box w c z0 z1 z2 z3 z4 z5 z6) :
    (results fn tmps).run Tryz.prog w = .ok (.tuple #[.agg #[y0, y1, y2, y3, y4, y5, y6], .agg #[z0, z1, z2, z3, z4, z5, z6], tmps.getD r undef]) w := by
  have hp' : tmps[p]?.getD undef = .pointer (some ⟨b, 0, none⟩) := by simpa using hp
  have hq' : tmps[q]?.getD undef = .pointer (some ⟨c, 0, none⟩) := by simpa using hq
  simp [results, hres, hp', hq', asAddr, h.load, k.load]

/-- Two patches and a bool are answered. -/
theorem ret_two {fn : Func} {p q r : Tmp} (hres : fn.results = #[.cell p 24, .cell q 24, .tmp r]) {Q : Ending → World → Prop} {a : Act} {w : World} {b c : Nat} {y0 y1 y2 y3 y4 y5 y6 z0 z1 z2 z3 z4 z5 z6 u : Value} (hd : a.defers = []) (hp : a.tmps.getD p undef = .pointer (some ⟨b, 0, none⟩)) (hq : a.tmps.getD q undef = .pointer (some ⟨c, 0, none⟩)) (hu : a.tmps.getD r undef = u) (h : Box w b y0 y1 y2 y3 y4 y5 y6) (k : Box w c z0 z1 z2 z3 z4 z5 z6)
    (hQ : Q (.returned (.tuple #[.agg #[y0, y1, y2, y3, y4, y5, y6], .agg #[z0, z1, z2, z3, z4, z5, z6], u])) w) : bodyPost Tryz.prog fn Q .ret a w := by
  subst hu
  exact bodyPost_ret (results_two hres _ hp hq h k) hd hQ

/-- The two boxes of an answer are set, in either order. -/
theorem two_set {w w3 W : World} {b c q : Nat} {x0 x1 x2 x3 x4 x5 x6 u0 u1 u2 u3 u4 u5 u6 : Value} (hf : Fr None' w w3) (hb : Box w3 b x0 x1 x2 x3 x4 x5 x6) (hc : Box w3 c u0 u1 u2 u3 u4 u5 u6) (f : Fr (fun k => k = q) w3 W) (hbq : ¬ b = q) (hcq : ¬ c = q) (hbc : ¬ b = c) (hwb : w.heap.size ≤ b) (hwc : w.heap.size ≤ c) (hwq : w.heap.size ≤ q) (y0 y1 y2 y3 y4 y5 y6 z0 z1 z2 z3 z4 z5 z6 : Value) :
    (Box (setP (setP W b y0 y1 y2 y3 y4 y5 y6) c z0 z1 z2 z3 z4 z5 z6) b y0 y1 y2 y3 y4 y5 y6 ∧ Box (setP (setP W b y0 y1 y2 y3 y4 y5 y6) c z0 z1 z2 z3 z4 z5 z6) c z0 z1 z2 z3 z4 z5 z6 ∧ Fr None' w (setP (setP W b y0 y1 y2 y3 y4 y5 y6) c z0 z1 z2 z3 z4 z5 z6)) :=
  ⟨((hb.fr f hbq).all y0 y1 y2 y3 y4 y5 y6).fr (Fr.setP (M := fun k => k = c) _ rfl _ _ _ _ _ _ _) hbc, (((hc.fr f hcq).fr (Fr.setP (M := fun k => k = b) W rfl y0 y1 y2 y3 y4 y5 y6) (fun e => hbc e.symm))).all _ _ _ _ _ _ _,
   ((hf.trans f (fun _ e => Or.inr (by omega))).trans (Fr.setP (M := fun k => k = b) W rfl _ _ _ _ _ _ _) (fun _ e => Or.inr (by omega))).trans (Fr.setP (M := fun k => k = c) _ rfl _ _ _ _ _ _ _) (fun _ e => Or.inr (by omega))⟩

/-- The two boxes of an answer are set. -/
theorem two_set0 {w W : World} {b c : Nat} {x0 x1 x2 x3 x4 x5 x6 u0 u1 u2 u3 u4 u5 u6 : Value} (hf : Fr None' w W) (hb : Box W b x0 x1 x2 x3 x4 x5 x6) (hc : Box W c u0 u1 u2 u3 u4 u5 u6) (hbc : ¬ b = c) (hwb : w.heap.size ≤ b) (hwc : w.heap.size ≤ c) (y0 y1 y2 y3 y4 y5 y6 z0 z1 z2 z3 z4 z5 z6 : Value) :
    (Box (setP (setP W b y0 y1 y2 y3 y4 y5 y6) c z0 z1 z2 z3 z4 z5 z6) b y0 y1 y2 y3 y4 y5 y6 ∧ Box (setP (setP W b y0 y1 y2 y3 y4 y5 y6) c z0 z1 z2 z3 z4 z5 z6) c z0 z1 z2 z3 z4 z5 z6 ∧ Fr None' w (setP (setP W b y0 y1 y2 y3 y4 y5 y6) c z0 z1 z2 z3 z4 z5 z6) ∧ Fr (fun k => k = b ∨ k = c) W (setP (setP W b y0 y1 y2 y3 y4 y5 y6) c z0 z1 z2 z3 z4 z5 z6)) :=
  ⟨(hb.all y0 y1 y2 y3 y4 y5 y6).fr (Fr.setP (M := fun k => k = c) _ rfl _ _ _ _ _ _ _) hbc, ((hc.fr (Fr.setP (M := fun k => k = b) W rfl y0 y1 y2 y3 y4 y5 y6) (fun e => hbc e.symm))).all _ _ _ _ _ _ _,
   (hf.trans (Fr.setP (M := fun k => k = b) W rfl _ _ _ _ _ _ _) (fun _ e => Or.inr (by omega))).trans (Fr.setP (M := fun k => k = c) _ rfl _ _ _ _ _ _ _) (fun _ e => Or.inr (by omega)),
   (Fr.setP (M := fun k => k = b ∨ k = c) W (Or.inl rfl) _ _ _ _ _ _ _).then (Fr.setP (M := fun k => k = b ∨ k = c) _ (Or.inr rfl) _ _ _ _ _ _ _)⟩

theorem Box.drew {w : World} {b : Nat} {y0 y1 y2 y3 y4 y5 y6 : Value} (h : Box w b y0 y1 y2 y3 y4 y5 y6) : Box w.drew b y0 y1 y2 y3 y4 y5 y6 := h

theorem drewN_box {w : World} {n b : Nat} {y0 y1 y2 y3 y4 y5 y6 : Value} (h : Box w b y0 y1 y2 y3 y4 y5 y6) : Box (w.drewN n) b y0 y1 y2 y3 y4 y5 y6 := h

end Go.Proofs.YtlmgbcfcikdgpaaGreatDoor
