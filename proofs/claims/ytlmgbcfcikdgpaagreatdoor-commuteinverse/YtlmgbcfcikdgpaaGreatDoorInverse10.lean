/-
  What is proved here: CommuteInverse answers true. Conditions: its arguments lie in memory, and are no longer than the reach; Commute answers as it does.
-/
import Derived.Test.YtlmgbcfcikdgpaaGreatDoorBack10
import Derived.Test.YtlmgbcfcikdgpaaGreatDoorRInv9
namespace Go.Proofs.YtlmgbcfcikdgpaaGreatDoor
open Go.RowKit
set_option maxRecDepth 100000

/-- What undoes a patch, its rows named. -/
theorem rinv_at {x z : Pr} (hz : inv x = z) (vo vn : Value) (w0 w : World) (ho : StrsAt w0 vo x.old) (hn : StrsAt w0 vn x.new) :
    Calls Tryz.prog 17 #[.agg #[.int .i64 x.kind, .string x.path, .string x.dst, .string x.src, .int .i64 x.pos, vo, vn]] w fun e w' => ∃ (po : Option Addr) (co : Nat) (pn : Option Addr) (cn : Nat), e = .returned (.agg #[.int .i64 z.kind, .string z.path, .string z.dst, .string z.src, .int .i64 z.pos, .slice po z.old.length co, .slice pn z.new.length cn]) ∧ Hid (StrsAt w0 (.slice po z.old.length co) z.old ∧ StrsAt w0 (.slice pn z.new.length cn) z.new) ∧ Fr None' w w' := by
  subst hz
  refine (rinv_any x vo vn w0 w ho hn).mono ?_
  rintro e w' ⟨v, rfl, ⟨vo1, vn1, rfl, s1, s2⟩, f⟩
  obtain ⟨po, co, rfl⟩ := s1.as2
  obtain ⟨pn, cn, rfl⟩ := s2.as2
  exact ⟨po, co, pn, cn, rfl, ⟨s1, s2⟩, f⟩

theorem inv_small {x : Pr} (h : SmallP x) : SmallP (inv x) := by
  unfold inv
  (repeat' split) <;> first | exact ⟨h.1, h.2, h.3, h.4, h.5⟩ | exact ⟨by first | exact h.1 | exact h.2 | exact h.3, by first | exact h.2 | exact h.1 | exact h.3, by first | exact h.3 | exact h.2 | exact h.1, by first | exact h.4 | exact h.5, by first | exact h.5 | exact h.4⟩ | exact ⟨by decide, by decide, by decide, by decide, by decide⟩

theorem strs_set {V : World} {v : Value} {l : List ByteArray} {c : Nat} (h : StrsAt V v l) (hc : l ≠ [] → ∀ k, v.ownBlock = some k → ¬ k = c) (z0 z1 z2 z3 z4 z5 z6 : Value) : StrsAt (setP V c z0 z1 z2 z3 z4 z5 z6) v l :=
  h.far (Fr.setP (M := fun k => k = c) V rfl _ _ _ _ _ _ _) hc

/-- What Commute answers, its rows named and told to be new. -/
def CommS (a b : Pr) (w : World) (e : Ending) (w' : World) : Prop := ∃ (sz : Nat) (po1 pn1 po2 pn2 : Option Addr) (co1 cn1 co2 cn2 : Nat), e = .returned (.tuple #[.agg #[.int .i64 a.kind, .string a.path, .string a.dst, .string a.src, .int .i64 a.pos, .slice po1 a.old.length co1, .slice pn1 a.new.length cn1], .agg #[.int .i64 b.kind, .string b.path, .string b.dst, .string b.src, .int .i64 b.pos, .slice po2 b.old.length co2, .slice pn2 b.new.length cn2], .bool true]) ∧ Hid ((StrsAt w' (.slice po1 a.old.length co1) a.old ∧ StrsAt w' (.slice pn1 a.new.length cn1) a.new) ∧ StrsAt w' (.slice po2 b.old.length co2) b.old ∧ StrsAt w' (.slice pn2 b.new.length cn2) b.new) ∧
  Hid ((∀ k, (Value.slice po1 a.old.length co1).ownBlock = some k → sz ≤ k) ∧ (∀ k, (Value.slice pn1 a.new.length cn1).ownBlock = some k → sz ≤ k) ∧ (∀ k, (Value.slice po2 b.old.length co2).ownBlock = some k → sz ≤ k) ∧ ∀ k, (Value.slice pn2 b.new.length cn2).ownBlock = some k → sz ≤ k) ∧ Hid (∀ c y0 y1 y2 y3 y4 y5 y6, Box w c y0 y1 y2 y3 y4 y5 y6 → c < sz) ∧ Fr None' w w'

theorem CommPost.is {x y a b : Pr} {w w' : World} {e : Ending} (hc : commP x y = (a, b, true)) (h : CommPost x y w e w') : CommS a b w e w' := by
  obtain ⟨va, vb, he, ⟨vo1, vn1, rfl, s1, s2, g1, g2⟩, ⟨vo2, vn2, rfl, s3, s4, g3, g4⟩, f⟩ := h
  rw [hc] at he s1 s2 s3 s4
  simp only at he s1 s2 s3 s4
  obtain ⟨po1, co1, rfl⟩ := s1.as2
  obtain ⟨pn1, cn1, rfl⟩ := s2.as2
  obtain ⟨po2, co2, rfl⟩ := s3.as2
  obtain ⟨pn2, cn2, rfl⟩ := s4.as2
  exact ⟨w.heap.size, po1, pn1, po2, pn2, co1, cn1, co2, cn2, he, ⟨⟨s1, s2⟩, s3, s4⟩, ⟨g1, g2, g3, g4⟩, (fun c y0 y1 y2 y3 y4 y5 y6 h => h.lt), f⟩

/-- What the region leaves: two patches in boxes of their own, their rows as they lay. -/
def EndI (w8 W : World) (b7 b9 : Nat) (iy ix : Pr) (ro1 rn1 ro2 rn2 : Option Addr) (eo1 en1 eo2 en2 : Nat) : Prop := Box W b7 (.int .i64 iy.kind) (.string iy.path) (.string iy.dst) (.string iy.src) (.int .i64 iy.pos) (.slice ro1 iy.old.length eo1) (.slice rn1 iy.new.length en1) ∧ Box W b9 (.int .i64 ix.kind) (.string ix.path) (.string ix.dst) (.string ix.src) (.int .i64 ix.pos) (.slice ro2 ix.old.length eo2) (.slice rn2 ix.new.length en2) ∧ Fr None' w8 W ∧ StrsAt W (.slice ro1 iy.old.length eo1) iy.old ∧ StrsAt W (.slice rn1 iy.new.length en1) iy.new ∧ StrsAt W (.slice ro2 ix.old.length eo2) ix.old ∧ StrsAt W (.slice rn2 ix.new.length en2) ix.new

/-- What stays when two boxes turn that are older than the rows, or new. -/
theorem endI {sz : Nat} {w8 wA W : World} {g h : Nat} {iy ix : Pr} {ro1 rn1 ro2 rn2 : Option Addr} {eo1 en1 eo2 en2 : Nat} (gA : Fr None' w8 wA)
    (hS : (StrsAt wA (.slice ro1 iy.old.length eo1) iy.old ∧ StrsAt wA (.slice rn1 iy.new.length en1) iy.new) ∧ StrsAt wA (.slice ro2 ix.old.length eo2) ix.old ∧ StrsAt wA (.slice rn2 ix.new.length en2) ix.new)
    (hG : (∀ k, (Value.slice ro1 iy.old.length eo1).ownBlock = some k → sz ≤ k) ∧ (∀ k, (Value.slice rn1 iy.new.length en1).ownBlock = some k → sz ≤ k) ∧ (∀ k, (Value.slice ro2 ix.old.length eo2).ownBlock = some k → sz ≤ k) ∧ ∀ k, (Value.slice rn2 ix.new.length en2).ownBlock = some k → sz ≤ k)
    (hg : w8.heap.size ≤ g ∧ (g < sz ∨ wA.heap.size ≤ g)) (hh : w8.heap.size ≤ h ∧ (h < sz ∨ wA.heap.size ≤ h)) (f : Fr (fun k => k = g ∨ k = h) wA W) :
    Fr None' w8 W ∧ StrsAt W (.slice ro1 iy.old.length eo1) iy.old ∧ StrsAt W (.slice rn1 iy.new.length en1) iy.new ∧ StrsAt W (.slice ro2 ix.old.length eo2) ix.old ∧ StrsAt W (.slice rn2 ix.new.length en2) ix.new := by
  have key : ∀ {v : Value} {l : List ByteArray}, StrsAt wA v l → (∀ k, v.ownBlock = some k → sz ≤ k) → StrsAt W v l := fun {v l} s q => s.far f (fun hl k e m => by
    have h1 := q k e
    have h2 := s.lt hl e
    rcases m with m | m <;> omega)
  exact ⟨gA.trans f (fun i e => Or.inr (by rcases e with e | e <;> omega)), key hS.1.1 hG.1, key hS.1.2 hG.2.1, key hS.2.1 hG.2.2.1, key hS.2.2 hG.2.2.2⟩

section
variable {sz : Nat} {w8 wA : World} {iy ix : Pr} {ro1 rn1 ro2 rn2 : Option Addr} {eo1 en1 eo2 en2 : Nat}

theorem end_A (gA : Fr None' w8 wA)
    (hS : (StrsAt wA (.slice ro1 iy.old.length eo1) iy.old ∧ StrsAt wA (.slice rn1 iy.new.length en1) iy.new) ∧ StrsAt wA (.slice ro2 ix.old.length eo2) ix.old ∧ StrsAt wA (.slice rn2 ix.new.length en2) ix.new)
    (hG : (∀ k, (Value.slice ro1 iy.old.length eo1).ownBlock = some k → sz ≤ k) ∧ (∀ k, (Value.slice rn1 iy.new.length en1).ownBlock = some k → sz ≤ k) ∧ (∀ k, (Value.slice ro2 ix.old.length eo2).ownBlock = some k → sz ≤ k) ∧ ∀ k, (Value.slice rn2 ix.new.length en2).ownBlock = some k → sz ≤ k) :
    EndI w8 ((wA.alloc (.cells #[.int .i64 iy.kind, .string iy.path, .string iy.dst, .string iy.src, .int .i64 iy.pos, .slice ro1 iy.old.length eo1, .slice rn1 iy.new.length en1] 24)).alloc (.cells #[.int .i64 ix.kind, .string ix.path, .string ix.dst, .string ix.src, .int .i64 ix.pos, .slice ro2 ix.old.length eo2, .slice rn2 ix.new.length en2] 24)) wA.heap.size (wA.heap.size + 1) iy ix ro1 rn1 ro2 rn2 eo1 en1 eo2 en2 :=
  ⟨Box.alloc10 (Box.new wA _ _ _ _ _ _ _) _, Box.new10 (by simp) _ _ _ _ _ _ _, endI (g := wA.heap.size) (h := wA.heap.size) gA hS hG ⟨gA.size, Or.inr (Nat.le_refl _)⟩ ⟨gA.size, Or.inr (Nat.le_refl _)⟩ ((Fr.alloc _ _ _).then (Fr.alloc _ _ _))⟩

theorem end_B (gA : Fr None' w8 wA)
    (hS : (StrsAt wA (.slice ro1 iy.old.length eo1) iy.old ∧ StrsAt wA (.slice rn1 iy.new.length en1) iy.new) ∧ StrsAt wA (.slice ro2 ix.old.length eo2) ix.old ∧ StrsAt wA (.slice rn2 ix.new.length en2) ix.new)
    (hG : (∀ k, (Value.slice ro1 iy.old.length eo1).ownBlock = some k → sz ≤ k) ∧ (∀ k, (Value.slice rn1 iy.new.length en1).ownBlock = some k → sz ≤ k) ∧ (∀ k, (Value.slice ro2 ix.old.length eo2).ownBlock = some k → sz ≤ k) ∧ ∀ k, (Value.slice rn2 ix.new.length en2).ownBlock = some k → sz ≤ k) :
    EndI w8 ((wA.alloc (.cells #[.int .i64 ix.kind, .string ix.path, .string ix.dst, .string ix.src, .int .i64 ix.pos, .slice ro2 ix.old.length eo2, .slice rn2 ix.new.length en2] 24)).alloc (.cells #[.int .i64 iy.kind, .string iy.path, .string iy.dst, .string iy.src, .int .i64 iy.pos, .slice ro1 iy.old.length eo1, .slice rn1 iy.new.length en1] 24)) (wA.heap.size + 1) wA.heap.size iy ix ro1 rn1 ro2 rn2 eo1 en1 eo2 en2 :=
  ⟨Box.new10 (by simp) _ _ _ _ _ _ _, Box.alloc10 (Box.new wA _ _ _ _ _ _ _) _, endI (g := wA.heap.size) (h := wA.heap.size) gA hS hG ⟨gA.size, Or.inr (Nat.le_refl _)⟩ ⟨gA.size, Or.inr (Nat.le_refl _)⟩ ((Fr.alloc _ _ _).then (Fr.alloc _ _ _))⟩

theorem end_C (gA : Fr None' w8 wA)
    (hS : (StrsAt wA (.slice ro1 iy.old.length eo1) iy.old ∧ StrsAt wA (.slice rn1 iy.new.length en1) iy.new) ∧ StrsAt wA (.slice ro2 ix.old.length eo2) ix.old ∧ StrsAt wA (.slice rn2 ix.new.length en2) ix.new)
    (hG : (∀ k, (Value.slice ro1 iy.old.length eo1).ownBlock = some k → sz ≤ k) ∧ (∀ k, (Value.slice rn1 iy.new.length en1).ownBlock = some k → sz ≤ k) ∧ (∀ k, (Value.slice ro2 ix.old.length eo2).ownBlock = some k → sz ≤ k) ∧ ∀ k, (Value.slice rn2 ix.new.length en2).ownBlock = some k → sz ≤ k)
    {g : Nat} (hg : w8.heap.size ≤ g) (lg : g < sz) (bg : Box wA g (.int .i64 0) (.string ⟨#[]⟩) (.string ⟨#[]⟩) (.string ⟨#[]⟩) (.int .i64 0) (.slice none 0 0) (.slice none 0 0)) :
    EndI w8 (setP (setP (wA.alloc (.cells #[.int .i64 0, .string ⟨#[]⟩, .string ⟨#[]⟩, .string ⟨#[]⟩, .int .i64 0, .slice none 0 0, .slice none 0 0] 24)) g (.int .i64 iy.kind) (.string iy.path) (.string iy.dst) (.string iy.src) (.int .i64 iy.pos) (.slice ro1 iy.old.length eo1) (.slice rn1 iy.new.length en1)) wA.heap.size (.int .i64 ix.kind) (.string ix.path) (.string ix.dst) (.string ix.src) (.int .i64 ix.pos) (.slice ro2 ix.old.length eo2) (.slice rn2 ix.new.length en2)) g wA.heap.size iy ix ro1 rn1 ro2 rn2 eo1 en1 eo2 en2 := by
  have hne : ¬ g = wA.heap.size := Nat.ne_of_lt bg.lt
  refine ⟨far10 (all10 (Box.alloc10 bg _) _ _ _ _ _ _ _) hne _ _ _ _ _ _ _, all10 (far10 (Box.new wA _ _ _ _ _ _ _) (fun e => hne e.symm) _ _ _ _ _ _ _) _ _ _ _ _ _ _, endI (g := g) (h := wA.heap.size) gA hS hG ⟨hg, Or.inl lg⟩ ⟨gA.size, Or.inr (Nat.le_refl _)⟩ ?_⟩
  exact ((Fr.alloc _ _ _).then (Fr.setP (M := fun k => k = g ∨ k = wA.heap.size) _ (Or.inl rfl) _ _ _ _ _ _ _)).then (Fr.setP (M := fun k => k = g ∨ k = wA.heap.size) _ (Or.inr rfl) _ _ _ _ _ _ _)

theorem end_D (gA : Fr None' w8 wA)
    (hS : (StrsAt wA (.slice ro1 iy.old.length eo1) iy.old ∧ StrsAt wA (.slice rn1 iy.new.length en1) iy.new) ∧ StrsAt wA (.slice ro2 ix.old.length eo2) ix.old ∧ StrsAt wA (.slice rn2 ix.new.length en2) ix.new)
    (hG : (∀ k, (Value.slice ro1 iy.old.length eo1).ownBlock = some k → sz ≤ k) ∧ (∀ k, (Value.slice rn1 iy.new.length en1).ownBlock = some k → sz ≤ k) ∧ (∀ k, (Value.slice ro2 ix.old.length eo2).ownBlock = some k → sz ≤ k) ∧ ∀ k, (Value.slice rn2 ix.new.length en2).ownBlock = some k → sz ≤ k)
    {g h : Nat} (hg : w8.heap.size ≤ g) (lg : g < sz) (bg : Box wA g (.int .i64 0) (.string ⟨#[]⟩) (.string ⟨#[]⟩) (.string ⟨#[]⟩) (.int .i64 0) (.slice none 0 0) (.slice none 0 0)) (hh : w8.heap.size ≤ h) (lh : h < sz) (bh : Box wA h (.int .i64 0) (.string ⟨#[]⟩) (.string ⟨#[]⟩) (.string ⟨#[]⟩) (.int .i64 0) (.slice none 0 0) (.slice none 0 0)) (hne : ¬ g = h) :
    EndI w8 (setP (setP wA g (.int .i64 iy.kind) (.string iy.path) (.string iy.dst) (.string iy.src) (.int .i64 iy.pos) (.slice ro1 iy.old.length eo1) (.slice rn1 iy.new.length en1)) h (.int .i64 ix.kind) (.string ix.path) (.string ix.dst) (.string ix.src) (.int .i64 ix.pos) (.slice ro2 ix.old.length eo2) (.slice rn2 ix.new.length en2)) g h iy ix ro1 rn1 ro2 rn2 eo1 en1 eo2 en2 := by
  refine ⟨far10 (all10 bg _ _ _ _ _ _ _) hne _ _ _ _ _ _ _, all10 (far10 bh (fun e => hne e.symm) _ _ _ _ _ _ _) _ _ _ _ _ _ _, endI (g := g) (h := h) gA hS hG ⟨hg, Or.inl lg⟩ ⟨hh, Or.inl lh⟩ ?_⟩
  exact (Fr.setP (M := fun k => k = g ∨ k = h) _ (Or.inl rfl) _ _ _ _ _ _ _).then (Fr.setP (M := fun k => k = g ∨ k = h) _ (Or.inr rfl) _ _ _ _ _ _ _)

theorem end_E (gA : Fr None' w8 wA)
    (hS : (StrsAt wA (.slice ro1 iy.old.length eo1) iy.old ∧ StrsAt wA (.slice rn1 iy.new.length en1) iy.new) ∧ StrsAt wA (.slice ro2 ix.old.length eo2) ix.old ∧ StrsAt wA (.slice rn2 ix.new.length en2) ix.new)
    (hG : (∀ k, (Value.slice ro1 iy.old.length eo1).ownBlock = some k → sz ≤ k) ∧ (∀ k, (Value.slice rn1 iy.new.length en1).ownBlock = some k → sz ≤ k) ∧ (∀ k, (Value.slice ro2 ix.old.length eo2).ownBlock = some k → sz ≤ k) ∧ ∀ k, (Value.slice rn2 ix.new.length en2).ownBlock = some k → sz ≤ k)
    {g : Nat} (hg : w8.heap.size ≤ g) (lg : g < sz) (bg : Box wA g (.int .i64 0) (.string ⟨#[]⟩) (.string ⟨#[]⟩) (.string ⟨#[]⟩) (.int .i64 0) (.slice none 0 0) (.slice none 0 0)) :
    EndI w8 (setP (wA.alloc (.cells #[.int .i64 iy.kind, .string iy.path, .string iy.dst, .string iy.src, .int .i64 iy.pos, .slice ro1 iy.old.length eo1, .slice rn1 iy.new.length en1] 24)) g (.int .i64 ix.kind) (.string ix.path) (.string ix.dst) (.string ix.src) (.int .i64 ix.pos) (.slice ro2 ix.old.length eo2) (.slice rn2 ix.new.length en2)) wA.heap.size g iy ix ro1 rn1 ro2 rn2 eo1 en1 eo2 en2 := by
  have hne : ¬ g = wA.heap.size := Nat.ne_of_lt bg.lt
  refine ⟨far10 (Box.new wA _ _ _ _ _ _ _) (fun e => hne e.symm) _ _ _ _ _ _ _, all10 (Box.alloc10 bg _) _ _ _ _ _ _ _, endI (g := g) (h := g) gA hS hG ⟨hg, Or.inl lg⟩ ⟨hg, Or.inl lg⟩ ?_⟩
  exact (Fr.alloc _ _ _).then (Fr.setP (M := fun k => k = g ∨ k = g) _ (Or.inl rfl) _ _ _ _ _ _ _)
end

set_option maxHeartbeats 32000000 in
theorem inverse_walk (hC : CommuteAll) (x y : Pr) (vo vn uo un : Value) (W : World) (ho : StrsAt W vo x.old) (hn : StrsAt W vn x.new) (go : StrsAt W uo y.old) (gn : StrsAt W un y.new) (lo : x.old.length ≤ 140737488355328) (ln : x.new.length ≤ 140737488355328) (mo' : y.old.length ≤ 140737488355328) (mn' : y.new.length ≤ 140737488355328) :
    Calls Tryz.prog 4 #[.agg #[.int .i64 x.kind, .string x.path, .string x.dst, .string x.src, .int .i64 x.pos, vo, vn], .agg #[.int .i64 y.kind, .string y.path, .string y.dst, .string y.src, .int .i64 y.pos, uo, un]] W fun e w' => e = .returned (.bool true) ∧ Fr None' W w' := by
  obtain ⟨pa, ca, hva⟩ := ho.as2
  obtain ⟨pb, cb, hvb⟩ := hn.as2
  obtain ⟨qa, da, hua⟩ := go.as2
  obtain ⟨qb, db, hub⟩ := gn.as2
  have HG1 := toHid10 (fun w' (f : Fr None' W w') => pgreat_any x vo vn w' (ho.kept f) (hn.kept f) lo ln)
  have HG2 := toHid10 (fun w' (f : Fr None' W w') => pgreat_any y uo un w' (go.kept f) (gn.kept f) mo' mn')
  have HCm := toHid10 (fun (hx : x.weight < 4000) (hy : y.weight < 4000) w' (f : Fr None' W w') => (hC x y vo vn uo un w' (ho.kept f) (hn.kept f) (go.kept f) (gn.kept f) (weight_small10 hx) (weight_small10 hy)).mono (fun e w'' h => CommPost.at (a := (commP x y).1) (b := (commP x y).2.1) (r := (commP x y).2.2) rfl h))
  have HIx := toHid10 (fun (ix : Pr) (hz : inv x = ix) w0 (f : Fr None' W w0) w' => rinv_at hz vo vn w0 w' (ho.kept f) (hn.kept f))
  have HIy := toHid10 (fun (iy : Pr) (hz : inv y = iy) w0 (f : Fr None' W w0) w' => rinv_at hz uo un w0 w' (go.kept f) (gn.kept f))
  have HCb := toHid10 (fun (z u a b : Pr) (sz : SmallP z) (su : SmallP u) (h : commP z u = (a, b, true)) w' po pn co cn ro rn do' dn (s1 : StrsAt w' (.slice po z.old.length co) z.old) (s2 : StrsAt w' (.slice pn z.new.length cn) z.new) (s3 : StrsAt w' (.slice ro u.old.length do') u.old) (s4 : StrsAt w' (.slice rn u.new.length dn) u.new) => (hC z u _ _ _ _ w' s1 s2 s3 s4 sz su).mono (fun e w'' k => CommPost.is h k))
  have HSa := toHid10 (fun (z : Pr) (sz : SmallP z) w' ro eo rn en qo fo qn fn (s1 : StrsAt w' (.slice ro z.old.length eo) z.old) (s2 : StrsAt w' (.slice rn z.new.length en) z.new) (s3 : StrsAt w' (.slice qo z.old.length fo) z.old) (s4 : StrsAt w' (.slice qn z.new.length fn) z.new) => psame_any z _ _ _ _ w' s1 s2 s3 s4 (by have := sz.old; omega) (by have := sz.new; omega))
  subst hva hvb hua hub
  obtain ⟨no, hno⟩ : ∃ m, x.old.length = m := ⟨_, rfl⟩
  obtain ⟨nn, hnn⟩ : ∃ m, x.new.length = m := ⟨_, rfl⟩
  obtain ⟨mo, hmo⟩ : ∃ m, y.old.length = m := ⟨_, rfl⟩
  obtain ⟨mn, hmn⟩ : ∃ m, y.new.length = m := ⟨_, rfl⟩
  unfold CommC at HCm
  unfold CommS at HCb
  rw [hno] at HG1 HCm HIx
  rw [hnn] at HG1 HCm HIx
  rw [hmo] at HG2 HCm HIy
  rw [hmn] at HG2 HCm HIy
  rw [hno, hnn, hmo, hmn]
  obtain ⟨w1, hw1⟩ : ∃ w1, W.alloc (.cells #[.int .i64 x.kind, .string x.path, .string x.dst, .string x.src, .int .i64 x.pos, .slice pa no ca, .slice pb nn cb] 24) = w1 := ⟨_, rfl⟩
  obtain ⟨w2, hw2⟩ : ∃ w2, w1.alloc (.cells #[.int .i64 y.kind, .string y.path, .string y.dst, .string y.src, .int .i64 y.pos, .slice qa mo da, .slice qb mn db] 24) = w2 := ⟨_, rfl⟩
  have F1 : Fr None' W w1 := hw1 ▸ Fr.alloc None' _ _
  have F2 : Fr None' w1 w2 := hw2 ▸ Fr.alloc None' _ _
  have HBX := toHid10 (show ∀ w', Fr None' w2 w' → Box w' W.heap.size (.int .i64 x.kind) (.string x.path) (.string x.dst) (.string x.src) (.int .i64 x.pos) (.slice pa no ca) (.slice pb nn cb) from fun w' f => ((hw1 ▸ Box.new W _ _ _ _ _ _ _ : Box w1 _ _ _ _ _ _ _ _).kept F2).kept f)
  have HBY := toHid10 (show ∀ w', Fr None' w2 w' → Box w' w1.heap.size (.int .i64 y.kind) (.string y.path) (.string y.dst) (.string y.src) (.int .i64 y.pos) (.slice qa mo da) (.slice qb mn db) from fun w' f => (hw2 ▸ Box.new w1 _ _ _ _ _ _ _ : Box w2 _ _ _ _ _ _ _ _).kept f)
  have HF2 := toHid10 (F1.then7 F2)
  have q1 := head_any hC w2
  clear ho hn go gn lo ln mo' mn' F1 F2 hno hnn hmo hmn hC
  go_enter Tryz.func4, Tryz.ntmps4
  go_wp2_with fail
  with_reducible refine q1.mono ?_
  rintro e w3 ⟨rfl, f3⟩
  have HF3 := toHid10 f3
  obtain ⟨x0, x1, x2, x3, x4, x5, x6⟩ := (HBX.out w3 f3).cells
  have q2 := HG1.out w3 (HF2.out.then7 f3)
  clear q1 f3
  go_wp2_with fail
  with_reducible refine q2.mono ?_
  rintro e w4 ⟨g, rfl, hg, f4⟩
  have HF4 := toHid10 (HF3.out.then7 f4)
  clear q2 f4 x0 x1 x2 x3 x4 x5 x6
  cases g with
  | true =>
    have HFW := toHid10 (HF2.out.then7 HF4.out)
    go_wp2_with fail
    go_ret
    exact ⟨rfl, HFW.out⟩
  | false =>
  have HW1 := toHid10 (hg rfl)
  clear hg
  obtain ⟨y0, y1, y2, y3, y4, y5, y6⟩ := (HBY.out w4 HF4.out).cells
  have q3 := HG2.out w4 (HF2.out.then7 HF4.out)
  go_wp2_with fail
  with_reducible refine q3.mono ?_
  rintro e w5 ⟨g, rfl, hg, f5⟩
  have HF5 := toHid10 (HF4.out.then7 f5)
  clear q3 f5 y0 y1 y2 y3 y4 y5 y6
  cases g with
  | true =>
    have HFW := toHid10 (HF2.out.then7 HF5.out)
    go_wp2_with fail
    go_ret
    exact ⟨rfl, HFW.out⟩
  | false =>
  have HW2 := toHid10 (hg rfl)
  clear hg
  have q4 := HCm.out HW1.out HW2.out w5 (HF2.out.then7 HF5.out)
  obtain ⟨x0, x1, x2, x3, x4, x5, x6⟩ := (HBX.out w5 HF5.out).cells
  obtain ⟨y0, y1, y2, y3, y4, y5, y6⟩ := (HBY.out w5 HF5.out).cells
  go_wp2_with fail
  with_reducible refine q4.mono ?_
  clear q4 x0 x1 x2 x3 x4 x5 x6 y0 y1 y2 y3 y4 y5 y6
  have HIv := toHid10 (fun h => @comm_inv x y h)
  have HSm := toHid10 (fun h => comm_small (weight_small10 HW1.out) (weight_small10 HW2.out) (x := x) (y := y) h)
  have HSi := toHid10 (And.intro (inv_small (weight_small10 HW1.out)) (inv_small (weight_small10 HW2.out)))
  generalize commP x y = cc at HIv HSm
  obtain ⟨a, b, r⟩ := cc
  simp only at HIv HSm
  rintro e w6 ⟨po1, pn1, po2, pn2, co1, cn1, co2, cn2, rfl, HS6, f6⟩
  obtain ⟨w8, hw8⟩ : ∃ w8, (w6.alloc (.cells #[.int .i64 a.kind, .string a.path, .string a.dst, .string a.src, .int .i64 a.pos, .slice po1 a.old.length co1, .slice pn1 a.new.length cn1] 24)).alloc (.cells #[.int .i64 b.kind, .string b.path, .string b.dst, .string b.src, .int .i64 b.pos, .slice po2 b.old.length co2, .slice pn2 b.new.length cn2] 24) = w8 := ⟨_, rfl⟩
  obtain ⟨B8a, B8b, F8⟩ := two_new hw8
  have HF8 := toHid10 (HF5.out.then7 (f6.then7 F8))
  have HB8 := toHid10 (show ∀ w', Fr None' w8 w' → Fr None' w8 w' ∧ w'.cell? ⟨w6.heap.size, 0, none⟩ = some (.int .i64 a.kind) ∧ w'.cell? ⟨w6.heap.size, 1, none⟩ = some (.string a.path) ∧ w'.cell? ⟨w6.heap.size, 2, none⟩ = some (.string a.dst) ∧ w'.cell? ⟨w6.heap.size, 3, none⟩ = some (.string a.src) ∧ w'.cell? ⟨w6.heap.size, 4, none⟩ = some (.int .i64 a.pos) ∧ w'.cell? ⟨w6.heap.size, 5, none⟩ = some (.slice po1 a.old.length co1) ∧ w'.cell? ⟨w6.heap.size, 6, none⟩ = some (.slice pn1 a.new.length cn1) ∧ w'.cell? ⟨(w6.heap.size + 1), 0, none⟩ = some (.int .i64 b.kind) ∧ w'.cell? ⟨(w6.heap.size + 1), 1, none⟩ = some (.string b.path) ∧ w'.cell? ⟨(w6.heap.size + 1), 2, none⟩ = some (.string b.dst) ∧ w'.cell? ⟨(w6.heap.size + 1), 3, none⟩ = some (.string b.src) ∧ w'.cell? ⟨(w6.heap.size + 1), 4, none⟩ = some (.int .i64 b.pos) ∧ w'.cell? ⟨(w6.heap.size + 1), 5, none⟩ = some (.slice po2 b.old.length co2) ∧ w'.cell? ⟨(w6.heap.size + 1), 6, none⟩ = some (.slice pn2 b.new.length cn2) from fun w' f => by
    obtain ⟨x0, x1, x2, x3, x4, x5, x6⟩ := (B8a.kept f).cells
    obtain ⟨y0, y1, y2, y3, y4, y5, y6⟩ := (B8b.kept f).cells
    exact ⟨f, x0, x1, x2, x3, x4, x5, x6, y0, y1, y2, y3, y4, y5, y6⟩)
  have HS8 := toHid10 (show (StrsAt w8 (.slice po1 a.old.length co1) a.old ∧ StrsAt w8 (.slice pn1 a.new.length cn1) a.new) ∧ StrsAt w8 (.slice po2 b.old.length co2) b.old ∧ StrsAt w8 (.slice pn2 b.new.length cn2) b.new from ⟨⟨HS6.out.1.1.kept F8, HS6.out.1.2.kept F8⟩, HS6.out.2.1.kept F8, HS6.out.2.2.kept F8⟩)
  clear f6 F8 HS6 B8a B8b
  cases r with
  | false =>
    have HFW := toHid10 (HF2.out.then7 HF8.out)
    clear HIv HSm
    go_wp2_with fail
    go_ret
    exact ⟨rfl, HFW.out⟩
  | true =>
    have hIv := HIv.out rfl
    obtain ⟨m1, m2⟩ := HSm.out rfl
    obtain ⟨ib, hib⟩ : ∃ z, inv b = z := ⟨_, rfl⟩
    obtain ⟨ia, hia⟩ : ∃ z, inv a = z := ⟨_, rfl⟩
    obtain ⟨iy, hiy⟩ : ∃ z, inv y = z := ⟨_, rfl⟩
    obtain ⟨ix, hix⟩ : ∃ z, inv x = z := ⟨_, rfl⟩
    rw [hib, hia, hiy, hix] at hIv
    rw [hiy, hix] at HSi
    have HJb := toHid10 (fun w' => rinv_at hib _ _ w8 w' HS8.out.2.1 HS8.out.2.2)
    have HJa := toHid10 (fun w' => rinv_at hia _ _ w8 w' HS8.out.1.1 HS8.out.1.2)
    have HCc := toHid10 (fun w' (f : Fr None' w8 w') po pn co cn ro rn do' dn (s1 : StrsAt w8 (.slice po ib.old.length co) ib.old ∧ StrsAt w8 (.slice pn ib.new.length cn) ib.new) (s2 : StrsAt w8 (.slice ro ia.old.length do') ia.old ∧ StrsAt w8 (.slice rn ia.new.length dn) ia.new) => HCb.out ib ia iy ix (hib ▸ inv_small m2) (hia ▸ inv_small m1) hIv w' po pn co cn ro rn do' dn (s1.1.kept f) (s1.2.kept f) (s2.1.kept f) (s2.2.kept f))
    replace HIy := toHid10 (HIy.out iy hiy)
    replace HIx := toHid10 (HIx.out ix hix)
    clear hIv m1 m2 hib hia hiy hix HIv HSm HCb
    have fr8 := Fr.refl None' w8
    go_wp2_with fail
    refine region_told (fun a' w' => ∃ b7 b9 u12 u13 u14 u15 u16 u17 u18 u19 u20 u21 u22 u23 u24 u25 u26 u27 u28 u29 u30 u31 u32 u33 u34 u35 u36 u37 u38 u39 u40 u41 u42 u43 u44 u45 u46 u47 u48 u49 u50 u51 u52 u53 u54, a' = { tmps := #[.agg #[.int .i64 x.kind, .string x.path, .string x.dst, .string x.src, .int .i64 x.pos, .slice pa no ca, .slice pb nn cb], .agg #[.int .i64 y.kind, .string y.path, .string y.dst, .string y.src, .int .i64 y.pos, .slice qa mo da, .slice qb mn db], .pointer (some ⟨W.heap.size, 0, none⟩), .pointer (some ⟨w1.heap.size, 0, none⟩), .bool false, .bool true, .pointer (some ⟨w6.heap.size, 0, none⟩), .pointer (some ⟨w6.heap.size + 1, 0, none⟩), .bool true, .pointer (some ⟨b7, 0, none⟩), .pointer (some ⟨b9, 0, none⟩), .bool true, u12, u13, u14, u15, u16, u17, u18, u19, u20, u21, u22, u23, u24, u25, u26, u27, u28, u29, u30, u31, u32, u33, u34, u35, u36, u37, u38, u39, u40, u41, u42, u43, u44, u45, u46, u47, u48, u49, u50, u51, u52, u53, u54], defers := [] } ∧ ∃ (ro1 rn1 ro2 rn2 : Option Addr) (eo1 en1 eo2 en2 : Nat), EndI w8 w' b7 b9 iy ix ro1 rn1 ro2 rn2 eo1 en1 eo2 en2) ?reg ?rest
    case reg =>
      go_region_held3 (fun w' => Fr None' w8 w' ∧ w'.cell? ⟨w6.heap.size, 0, none⟩ = some (.int .i64 a.kind) ∧ w'.cell? ⟨w6.heap.size, 1, none⟩ = some (.string a.path) ∧ w'.cell? ⟨w6.heap.size, 2, none⟩ = some (.string a.dst) ∧ w'.cell? ⟨w6.heap.size, 3, none⟩ = some (.string a.src) ∧ w'.cell? ⟨w6.heap.size, 4, none⟩ = some (.int .i64 a.pos) ∧ w'.cell? ⟨w6.heap.size, 5, none⟩ = some (.slice po1 a.old.length co1) ∧ w'.cell? ⟨w6.heap.size, 6, none⟩ = some (.slice pn1 a.new.length cn1) ∧ w'.cell? ⟨(w6.heap.size + 1), 0, none⟩ = some (.int .i64 b.kind) ∧ w'.cell? ⟨(w6.heap.size + 1), 1, none⟩ = some (.string b.path) ∧ w'.cell? ⟨(w6.heap.size + 1), 2, none⟩ = some (.string b.dst) ∧ w'.cell? ⟨(w6.heap.size + 1), 3, none⟩ = some (.string b.src) ∧ w'.cell? ⟨(w6.heap.size + 1), 4, none⟩ = some (.int .i64 b.pos) ∧ w'.cell? ⟨(w6.heap.size + 1), 5, none⟩ = some (.slice po2 b.old.length co2) ∧ w'.cell? ⟨(w6.heap.size + 1), 6, none⟩ = some (.slice pn2 b.new.length cn2))
        (exact HB8.out _ (by (repeat (first | with_reducible assumption | with_reducible refine alloc10 ?_ _ | with_reducible refine drew10 ?_ | (with_reducible refine set10 ?_ ?_ _ _ _ _ _ _ _; rotate_left; focus (first | exact Nat.le_refl _ | (simp; done) | (have h1 := Fr.size g7; simp; omega) | (have h1 := Fr.size g9; simp; omega) | (have h1 := Fr.size gA; simp; omega)))))))
        (first
          | (go_at_call 17; with_reducible (refine (HJb.out _).mono ?_); rintro e w7 ⟨po, co, pn, cn, rfl, HRb, f7⟩; have g7 := Fr.then7 (show Fr None' w8 _ by (repeat (first | with_reducible assumption | with_reducible refine alloc10 ?_ _ | with_reducible refine drew10 ?_ | (with_reducible refine set10 ?_ ?_ _ _ _ _ _ _ _; rotate_left; focus (first | exact Nat.le_refl _ | (simp; done) | (have h1 := Fr.size g7; simp; omega) | (have h1 := Fr.size g9; simp; omega) | (have h1 := Fr.size gA; simp; omega)))))) f7; have fr7 := Fr.refl None' w7; (try (refine (fun (na : Box w7 w8.heap.size (.int .i64 0) (.string ⟨#[]⟩) (.string ⟨#[]⟩) (.string ⟨#[]⟩) (.int .i64 0) (.slice none 0 0) (.slice none 0 0)) => ?_) (Box.kept ?_ f7); rotate_left; (focus ((repeat (first | with_reducible assumption | (with_reducible refine Box.new10 ?_ _ _ _ _ _ _ _; focus (simp; done)) | with_reducible refine Box.alloc10 ?_ _ | with_reducible refine Box.drew ?_)); done)); obtain ⟨na0, na1, na2, na3, na4, na5, na6⟩ := Box.cells na; have naz := Box.frozen na; have naA := fun o => Box.cells (Box.alloc10 na o); have naA0 := fun o => (naA o).1; have naA1 := fun o => (naA o).2.1; have naA2 := fun o => (naA o).2.2.1; have naA3 := fun o => (naA o).2.2.2.1; have naA4 := fun o => (naA o).2.2.2.2.1; have naA5 := fun o => (naA o).2.2.2.2.2.1; have naA6 := fun o => (naA o).2.2.2.2.2.2; have naAz := fun o => Box.frozen (Box.alloc10 na o); clear naA; have nav : ¬ w8.heap.size = w7.heap.size := Nat.ne_of_lt (Box.lt na); have nau : ¬ w7.heap.size = w8.heap.size := Nat.ne_of_gt (Box.lt na))); (try (refine (fun (nb : Box w7 (w8.heap.size + 1) (.int .i64 0) (.string ⟨#[]⟩) (.string ⟨#[]⟩) (.string ⟨#[]⟩) (.int .i64 0) (.slice none 0 0) (.slice none 0 0)) => ?_) (Box.kept ?_ f7); rotate_left; (focus ((repeat (first | with_reducible assumption | (with_reducible refine Box.new10 ?_ _ _ _ _ _ _ _; focus (simp; done)) | with_reducible refine Box.alloc10 ?_ _ | with_reducible refine Box.drew ?_)); done)); obtain ⟨nb0, nb1, nb2, nb3, nb4, nb5, nb6⟩ := Box.cells nb; have nbz := Box.frozen nb; have nbA := fun o => Box.cells (Box.alloc10 nb o); have nbA0 := fun o => (nbA o).1; have nbA1 := fun o => (nbA o).2.1; have nbA2 := fun o => (nbA o).2.2.1; have nbA3 := fun o => (nbA o).2.2.2.1; have nbA4 := fun o => (nbA o).2.2.2.2.1; have nbA5 := fun o => (nbA o).2.2.2.2.2.1; have nbA6 := fun o => (nbA o).2.2.2.2.2.2; have nbAz := fun o => Box.frozen (Box.alloc10 nb o); clear nbA; have nbv : ¬ (w8.heap.size + 1) = w7.heap.size := Nat.ne_of_lt (Box.lt nb); have nbu : ¬ w7.heap.size = (w8.heap.size + 1) := Nat.ne_of_gt (Box.lt nb))))
          | (go_at_call 17; with_reducible (refine (HJa.out _).mono ?_); rintro e w9 ⟨qo, fo, qn, fn, rfl, HRa, f9⟩; have g9 := Fr.then7 (show Fr None' w8 _ by (repeat (first | with_reducible assumption | with_reducible refine alloc10 ?_ _ | with_reducible refine drew10 ?_ | (with_reducible refine set10 ?_ ?_ _ _ _ _ _ _ _; rotate_left; focus (first | exact Nat.le_refl _ | (simp; done) | (have h1 := Fr.size g7; simp; omega) | (have h1 := Fr.size g9; simp; omega) | (have h1 := Fr.size gA; simp; omega)))))) f9; have fr9 := Fr.refl None' w9; (try (refine (fun (nc : Box w9 w8.heap.size (.int .i64 0) (.string ⟨#[]⟩) (.string ⟨#[]⟩) (.string ⟨#[]⟩) (.int .i64 0) (.slice none 0 0) (.slice none 0 0)) => ?_) (Box.kept ?_ f9); rotate_left; (focus ((repeat (first | with_reducible assumption | (with_reducible refine Box.new10 ?_ _ _ _ _ _ _ _; focus (simp; done)) | with_reducible refine Box.alloc10 ?_ _ | with_reducible refine Box.drew ?_)); done)); obtain ⟨nc0, nc1, nc2, nc3, nc4, nc5, nc6⟩ := Box.cells nc; have ncz := Box.frozen nc; have ncA := fun o => Box.cells (Box.alloc10 nc o); have ncA0 := fun o => (ncA o).1; have ncA1 := fun o => (ncA o).2.1; have ncA2 := fun o => (ncA o).2.2.1; have ncA3 := fun o => (ncA o).2.2.2.1; have ncA4 := fun o => (ncA o).2.2.2.2.1; have ncA5 := fun o => (ncA o).2.2.2.2.2.1; have ncA6 := fun o => (ncA o).2.2.2.2.2.2; have ncAz := fun o => Box.frozen (Box.alloc10 nc o); clear ncA; have ncv : ¬ w8.heap.size = w9.heap.size := Nat.ne_of_lt (Box.lt nc); have ncu : ¬ w9.heap.size = w8.heap.size := Nat.ne_of_gt (Box.lt nc))); (try (refine (fun (nd : Box w9 (w8.heap.size + 1) (.int .i64 0) (.string ⟨#[]⟩) (.string ⟨#[]⟩) (.string ⟨#[]⟩) (.int .i64 0) (.slice none 0 0) (.slice none 0 0)) => ?_) (Box.kept ?_ f9); rotate_left; (focus ((repeat (first | with_reducible assumption | (with_reducible refine Box.new10 ?_ _ _ _ _ _ _ _; focus (simp; done)) | with_reducible refine Box.alloc10 ?_ _ | with_reducible refine Box.drew ?_)); done)); obtain ⟨nd0, nd1, nd2, nd3, nd4, nd5, nd6⟩ := Box.cells nd; have ndz := Box.frozen nd; have ndA := fun o => Box.cells (Box.alloc10 nd o); have ndA0 := fun o => (ndA o).1; have ndA1 := fun o => (ndA o).2.1; have ndA2 := fun o => (ndA o).2.2.1; have ndA3 := fun o => (ndA o).2.2.2.1; have ndA4 := fun o => (ndA o).2.2.2.2.1; have ndA5 := fun o => (ndA o).2.2.2.2.2.1; have ndA6 := fun o => (ndA o).2.2.2.2.2.2; have ndAz := fun o => Box.frozen (Box.alloc10 nd o); clear ndA; have ndv : ¬ (w8.heap.size + 1) = w9.heap.size := Nat.ne_of_lt (Box.lt nd); have ndu : ¬ w9.heap.size = (w8.heap.size + 1) := Nat.ne_of_gt (Box.lt nd))); (try (refine (fun (ne : Box w9 w7.heap.size (.int .i64 0) (.string ⟨#[]⟩) (.string ⟨#[]⟩) (.string ⟨#[]⟩) (.int .i64 0) (.slice none 0 0) (.slice none 0 0)) => ?_) (Box.kept ?_ f9); rotate_left; (focus ((repeat (first | with_reducible assumption | (with_reducible refine Box.new10 ?_ _ _ _ _ _ _ _; focus (simp; done)) | with_reducible refine Box.alloc10 ?_ _ | with_reducible refine Box.drew ?_)); done)); obtain ⟨ne0, ne1, ne2, ne3, ne4, ne5, ne6⟩ := Box.cells ne; have nez := Box.frozen ne; have neA := fun o => Box.cells (Box.alloc10 ne o); have neA0 := fun o => (neA o).1; have neA1 := fun o => (neA o).2.1; have neA2 := fun o => (neA o).2.2.1; have neA3 := fun o => (neA o).2.2.2.1; have neA4 := fun o => (neA o).2.2.2.2.1; have neA5 := fun o => (neA o).2.2.2.2.2.1; have neA6 := fun o => (neA o).2.2.2.2.2.2; have neAz := fun o => Box.frozen (Box.alloc10 ne o); clear neA; have nev : ¬ w7.heap.size = w9.heap.size := Nat.ne_of_lt (Box.lt ne); have neu : ¬ w9.heap.size = w7.heap.size := Nat.ne_of_gt (Box.lt ne))); (try (refine (fun (nf : Box w9 (w7.heap.size + 1) (.int .i64 0) (.string ⟨#[]⟩) (.string ⟨#[]⟩) (.string ⟨#[]⟩) (.int .i64 0) (.slice none 0 0) (.slice none 0 0)) => ?_) (Box.kept ?_ f9); rotate_left; (focus ((repeat (first | with_reducible assumption | (with_reducible refine Box.new10 ?_ _ _ _ _ _ _ _; focus (simp; done)) | with_reducible refine Box.alloc10 ?_ _ | with_reducible refine Box.drew ?_)); done)); obtain ⟨nf0, nf1, nf2, nf3, nf4, nf5, nf6⟩ := Box.cells nf; have nfz := Box.frozen nf; have nfA := fun o => Box.cells (Box.alloc10 nf o); have nfA0 := fun o => (nfA o).1; have nfA1 := fun o => (nfA o).2.1; have nfA2 := fun o => (nfA o).2.2.1; have nfA3 := fun o => (nfA o).2.2.2.1; have nfA4 := fun o => (nfA o).2.2.2.2.1; have nfA5 := fun o => (nfA o).2.2.2.2.2.1; have nfA6 := fun o => (nfA o).2.2.2.2.2.2; have nfAz := fun o => Box.frozen (Box.alloc10 nf o); clear nfA; have nfv : ¬ (w7.heap.size + 1) = w9.heap.size := Nat.ne_of_lt (Box.lt nf); have nfu : ¬ w9.heap.size = (w7.heap.size + 1) := Nat.ne_of_gt (Box.lt nf))))
          | (go_at_call 11; with_reducible (refine (HCc.out _ (by (repeat (first | with_reducible assumption | with_reducible refine alloc10 ?_ _ | with_reducible refine drew10 ?_ | (with_reducible refine set10 ?_ ?_ _ _ _ _ _ _ _; rotate_left; focus (first | exact Nat.le_refl _ | (simp; done) | (have h1 := Fr.size g7; simp; omega) | (have h1 := Fr.size g9; simp; omega) | (have h1 := Fr.size gA; simp; omega)))))) po pn co cn qo qn fo fn (Hid.out HRb) (Hid.out HRa)).mono ?_); rintro e wA ⟨sz, ro1, rn1, ro2, rn2, eo1, en1, eo2, en2, rfl, HSt, HGe, Hsz, fA⟩; have gA := Fr.then7 (show Fr None' w8 _ by (repeat (first | with_reducible assumption | with_reducible refine alloc10 ?_ _ | with_reducible refine drew10 ?_ | (with_reducible refine set10 ?_ ?_ _ _ _ _ _ _ _; rotate_left; focus (first | exact Nat.le_refl _ | (simp; done) | (have h1 := Fr.size g7; simp; omega) | (have h1 := Fr.size g9; simp; omega) | (have h1 := Fr.size gA; simp; omega)))))) fA; (try (refine (fun (l0 : w8.heap.size < sz) => ?_) ((Hid.out Hsz) _ (.int .i64 0) (.string ⟨#[]⟩) (.string ⟨#[]⟩) (.string ⟨#[]⟩) (.int .i64 0) (.slice none 0 0) (.slice none 0 0) ?_); rotate_left; (focus ((repeat (first | with_reducible assumption | (with_reducible refine Box.new10 ?_ _ _ _ _ _ _ _; focus (simp; done)) | with_reducible refine Box.alloc10 ?_ _ | with_reducible refine Box.drew ?_)); done)))); (try (refine (fun (l1 : (w8.heap.size + 1) < sz) => ?_) ((Hid.out Hsz) _ (.int .i64 0) (.string ⟨#[]⟩) (.string ⟨#[]⟩) (.string ⟨#[]⟩) (.int .i64 0) (.slice none 0 0) (.slice none 0 0) ?_); rotate_left; (focus ((repeat (first | with_reducible assumption | (with_reducible refine Box.new10 ?_ _ _ _ _ _ _ _; focus (simp; done)) | with_reducible refine Box.alloc10 ?_ _ | with_reducible refine Box.drew ?_)); done)))); (try (refine (fun (l2 : w7.heap.size < sz) => ?_) ((Hid.out Hsz) _ (.int .i64 0) (.string ⟨#[]⟩) (.string ⟨#[]⟩) (.string ⟨#[]⟩) (.int .i64 0) (.slice none 0 0) (.slice none 0 0) ?_); rotate_left; (focus ((repeat (first | with_reducible assumption | (with_reducible refine Box.new10 ?_ _ _ _ _ _ _ _; focus (simp; done)) | with_reducible refine Box.alloc10 ?_ _ | with_reducible refine Box.drew ?_)); done)))); (try (refine (fun (l3 : (w7.heap.size + 1) < sz) => ?_) ((Hid.out Hsz) _ (.int .i64 0) (.string ⟨#[]⟩) (.string ⟨#[]⟩) (.string ⟨#[]⟩) (.int .i64 0) (.slice none 0 0) (.slice none 0 0) ?_); rotate_left; (focus ((repeat (first | with_reducible assumption | (with_reducible refine Box.new10 ?_ _ _ _ _ _ _ _; focus (simp; done)) | with_reducible refine Box.alloc10 ?_ _ | with_reducible refine Box.drew ?_)); done)))); (try (refine (fun (l4 : w9.heap.size < sz) => ?_) ((Hid.out Hsz) _ (.int .i64 0) (.string ⟨#[]⟩) (.string ⟨#[]⟩) (.string ⟨#[]⟩) (.int .i64 0) (.slice none 0 0) (.slice none 0 0) ?_); rotate_left; (focus ((repeat (first | with_reducible assumption | (with_reducible refine Box.new10 ?_ _ _ _ _ _ _ _; focus (simp; done)) | with_reducible refine Box.alloc10 ?_ _ | with_reducible refine Box.drew ?_)); done)))); (try (refine (fun (l5 : (w9.heap.size + 1) < sz) => ?_) ((Hid.out Hsz) _ (.int .i64 0) (.string ⟨#[]⟩) (.string ⟨#[]⟩) (.string ⟨#[]⟩) (.int .i64 0) (.slice none 0 0) (.slice none 0 0) ?_); rotate_left; (focus ((repeat (first | with_reducible assumption | (with_reducible refine Box.new10 ?_ _ _ _ _ _ _ _; focus (simp; done)) | with_reducible refine Box.alloc10 ?_ _ | with_reducible refine Box.drew ?_)); done)))); (try (refine (fun (ng : Box wA w8.heap.size (.int .i64 0) (.string ⟨#[]⟩) (.string ⟨#[]⟩) (.string ⟨#[]⟩) (.int .i64 0) (.slice none 0 0) (.slice none 0 0)) => ?_) (Box.kept ?_ fA); rotate_left; (focus ((repeat (first | with_reducible assumption | (with_reducible refine Box.new10 ?_ _ _ _ _ _ _ _; focus (simp; done)) | with_reducible refine Box.alloc10 ?_ _ | with_reducible refine Box.drew ?_)); done)); obtain ⟨ng0, ng1, ng2, ng3, ng4, ng5, ng6⟩ := Box.cells ng; have ngz := Box.frozen ng; have ngA := fun o => Box.cells (Box.alloc10 ng o); have ngA0 := fun o => (ngA o).1; have ngA1 := fun o => (ngA o).2.1; have ngA2 := fun o => (ngA o).2.2.1; have ngA3 := fun o => (ngA o).2.2.2.1; have ngA4 := fun o => (ngA o).2.2.2.2.1; have ngA5 := fun o => (ngA o).2.2.2.2.2.1; have ngA6 := fun o => (ngA o).2.2.2.2.2.2; have ngAz := fun o => Box.frozen (Box.alloc10 ng o); clear ngA; have ngv : ¬ w8.heap.size = wA.heap.size := Nat.ne_of_lt (Box.lt ng); have ngu : ¬ wA.heap.size = w8.heap.size := Nat.ne_of_gt (Box.lt ng))); (try (refine (fun (nh : Box wA (w8.heap.size + 1) (.int .i64 0) (.string ⟨#[]⟩) (.string ⟨#[]⟩) (.string ⟨#[]⟩) (.int .i64 0) (.slice none 0 0) (.slice none 0 0)) => ?_) (Box.kept ?_ fA); rotate_left; (focus ((repeat (first | with_reducible assumption | (with_reducible refine Box.new10 ?_ _ _ _ _ _ _ _; focus (simp; done)) | with_reducible refine Box.alloc10 ?_ _ | with_reducible refine Box.drew ?_)); done)); obtain ⟨nh0, nh1, nh2, nh3, nh4, nh5, nh6⟩ := Box.cells nh; have nhz := Box.frozen nh; have nhA := fun o => Box.cells (Box.alloc10 nh o); have nhA0 := fun o => (nhA o).1; have nhA1 := fun o => (nhA o).2.1; have nhA2 := fun o => (nhA o).2.2.1; have nhA3 := fun o => (nhA o).2.2.2.1; have nhA4 := fun o => (nhA o).2.2.2.2.1; have nhA5 := fun o => (nhA o).2.2.2.2.2.1; have nhA6 := fun o => (nhA o).2.2.2.2.2.2; have nhAz := fun o => Box.frozen (Box.alloc10 nh o); clear nhA; have nhv : ¬ (w8.heap.size + 1) = wA.heap.size := Nat.ne_of_lt (Box.lt nh); have nhu : ¬ wA.heap.size = (w8.heap.size + 1) := Nat.ne_of_gt (Box.lt nh))); (try (refine (fun (ni : Box wA w7.heap.size (.int .i64 0) (.string ⟨#[]⟩) (.string ⟨#[]⟩) (.string ⟨#[]⟩) (.int .i64 0) (.slice none 0 0) (.slice none 0 0)) => ?_) (Box.kept ?_ fA); rotate_left; (focus ((repeat (first | with_reducible assumption | (with_reducible refine Box.new10 ?_ _ _ _ _ _ _ _; focus (simp; done)) | with_reducible refine Box.alloc10 ?_ _ | with_reducible refine Box.drew ?_)); done)); obtain ⟨ni0, ni1, ni2, ni3, ni4, ni5, ni6⟩ := Box.cells ni; have niz := Box.frozen ni; have niA := fun o => Box.cells (Box.alloc10 ni o); have niA0 := fun o => (niA o).1; have niA1 := fun o => (niA o).2.1; have niA2 := fun o => (niA o).2.2.1; have niA3 := fun o => (niA o).2.2.2.1; have niA4 := fun o => (niA o).2.2.2.2.1; have niA5 := fun o => (niA o).2.2.2.2.2.1; have niA6 := fun o => (niA o).2.2.2.2.2.2; have niAz := fun o => Box.frozen (Box.alloc10 ni o); clear niA; have niv : ¬ w7.heap.size = wA.heap.size := Nat.ne_of_lt (Box.lt ni); have niu : ¬ wA.heap.size = w7.heap.size := Nat.ne_of_gt (Box.lt ni))); (try (refine (fun (nj : Box wA (w7.heap.size + 1) (.int .i64 0) (.string ⟨#[]⟩) (.string ⟨#[]⟩) (.string ⟨#[]⟩) (.int .i64 0) (.slice none 0 0) (.slice none 0 0)) => ?_) (Box.kept ?_ fA); rotate_left; (focus ((repeat (first | with_reducible assumption | (with_reducible refine Box.new10 ?_ _ _ _ _ _ _ _; focus (simp; done)) | with_reducible refine Box.alloc10 ?_ _ | with_reducible refine Box.drew ?_)); done)); obtain ⟨nj0, nj1, nj2, nj3, nj4, nj5, nj6⟩ := Box.cells nj; have njz := Box.frozen nj; have njA := fun o => Box.cells (Box.alloc10 nj o); have njA0 := fun o => (njA o).1; have njA1 := fun o => (njA o).2.1; have njA2 := fun o => (njA o).2.2.1; have njA3 := fun o => (njA o).2.2.2.1; have njA4 := fun o => (njA o).2.2.2.2.1; have njA5 := fun o => (njA o).2.2.2.2.2.1; have njA6 := fun o => (njA o).2.2.2.2.2.2; have njAz := fun o => Box.frozen (Box.alloc10 nj o); clear njA; have njv : ¬ (w7.heap.size + 1) = wA.heap.size := Nat.ne_of_lt (Box.lt nj); have nju : ¬ wA.heap.size = (w7.heap.size + 1) := Nat.ne_of_gt (Box.lt nj))); (try (refine (fun (nk : Box wA w9.heap.size (.int .i64 0) (.string ⟨#[]⟩) (.string ⟨#[]⟩) (.string ⟨#[]⟩) (.int .i64 0) (.slice none 0 0) (.slice none 0 0)) => ?_) (Box.kept ?_ fA); rotate_left; (focus ((repeat (first | with_reducible assumption | (with_reducible refine Box.new10 ?_ _ _ _ _ _ _ _; focus (simp; done)) | with_reducible refine Box.alloc10 ?_ _ | with_reducible refine Box.drew ?_)); done)); obtain ⟨nk0, nk1, nk2, nk3, nk4, nk5, nk6⟩ := Box.cells nk; have nkz := Box.frozen nk; have nkA := fun o => Box.cells (Box.alloc10 nk o); have nkA0 := fun o => (nkA o).1; have nkA1 := fun o => (nkA o).2.1; have nkA2 := fun o => (nkA o).2.2.1; have nkA3 := fun o => (nkA o).2.2.2.1; have nkA4 := fun o => (nkA o).2.2.2.2.1; have nkA5 := fun o => (nkA o).2.2.2.2.2.1; have nkA6 := fun o => (nkA o).2.2.2.2.2.2; have nkAz := fun o => Box.frozen (Box.alloc10 nk o); clear nkA; have nkv : ¬ w9.heap.size = wA.heap.size := Nat.ne_of_lt (Box.lt nk); have nku : ¬ wA.heap.size = w9.heap.size := Nat.ne_of_gt (Box.lt nk))); (try (refine (fun (nl : Box wA (w9.heap.size + 1) (.int .i64 0) (.string ⟨#[]⟩) (.string ⟨#[]⟩) (.string ⟨#[]⟩) (.int .i64 0) (.slice none 0 0) (.slice none 0 0)) => ?_) (Box.kept ?_ fA); rotate_left; (focus ((repeat (first | with_reducible assumption | (with_reducible refine Box.new10 ?_ _ _ _ _ _ _ _; focus (simp; done)) | with_reducible refine Box.alloc10 ?_ _ | with_reducible refine Box.drew ?_)); done)); obtain ⟨nl0, nl1, nl2, nl3, nl4, nl5, nl6⟩ := Box.cells nl; have nlz := Box.frozen nl; have nlA := fun o => Box.cells (Box.alloc10 nl o); have nlA0 := fun o => (nlA o).1; have nlA1 := fun o => (nlA o).2.1; have nlA2 := fun o => (nlA o).2.2.1; have nlA3 := fun o => (nlA o).2.2.2.1; have nlA4 := fun o => (nlA o).2.2.2.2.1; have nlA5 := fun o => (nlA o).2.2.2.2.2.1; have nlA6 := fun o => (nlA o).2.2.2.2.2.2; have nlAz := fun o => Box.frozen (Box.alloc10 nl o); clear nlA; have nlv : ¬ (w9.heap.size + 1) = wA.heap.size := Nat.ne_of_lt (Box.lt nl); have nlu : ¬ wA.heap.size = (w9.heap.size + 1) := Nat.ne_of_gt (Box.lt nl))))
          | fail)
      · refine ⟨_, _, _, _, _, _, _, _, _, _, _, _, _, _, _, _, _, _, _, _, _, _, _, _, _, _, _, _, _, _, _, _, _, _, _, _, _, _, _, _, _, _, _, _, _, rfl, ro1, rn1, ro2, rn2, eo1, en1, eo2, en2, ?_⟩
        with_reducible exact end_A gA (Hid.out HSt) (Hid.out HGe)
      · refine ⟨_, _, _, _, _, _, _, _, _, _, _, _, _, _, _, _, _, _, _, _, _, _, _, _, _, _, _, _, _, _, _, _, _, _, _, _, _, _, _, _, _, _, _, _, _, rfl, ro1, rn1, ro2, rn2, eo1, en1, eo2, en2, ?_⟩
        with_reducible exact end_B gA (Hid.out HSt) (Hid.out HGe)
      · refine ⟨_, _, _, _, _, _, _, _, _, _, _, _, _, _, _, _, _, _, _, _, _, _, _, _, _, _, _, _, _, _, _, _, _, _, _, _, _, _, _, _, _, _, _, _, _, rfl, ro1, rn1, ro2, rn2, eo1, en1, eo2, en2, ?_⟩
        with_reducible exact end_C gA (Hid.out HSt) (Hid.out HGe) (g := w9.heap.size) (Fr.size g9) l4 nk
      · refine ⟨_, _, _, _, _, _, _, _, _, _, _, _, _, _, _, _, _, _, _, _, _, _, _, _, _, _, _, _, _, _, _, _, _, _, _, _, _, _, _, _, _, _, _, _, _, rfl, ro1, rn1, ro2, rn2, eo1, en1, eo2, en2, ?_⟩
        with_reducible exact end_D gA (Hid.out HSt) (Hid.out HGe) (g := w9.heap.size) (h := w9.heap.size + 1) (Fr.size g9) l4 nk (Nat.le_succ_of_le (Fr.size g9)) l5 nl (by first | assumption | omega)
      · refine ⟨_, _, _, _, _, _, _, _, _, _, _, _, _, _, _, _, _, _, _, _, _, _, _, _, _, _, _, _, _, _, _, _, _, _, _, _, _, _, _, _, _, _, _, _, _, rfl, ro1, rn1, ro2, rn2, eo1, en1, eo2, en2, ?_⟩
        with_reducible exact end_E gA (Hid.out HSt) (Hid.out HGe) (g := w9.heap.size) (Fr.size g9) l4 nk
      · refine ⟨_, _, _, _, _, _, _, _, _, _, _, _, _, _, _, _, _, _, _, _, _, _, _, _, _, _, _, _, _, _, _, _, _, _, _, _, _, _, _, _, _, _, _, _, _, rfl, ro1, rn1, ro2, rn2, eo1, en1, eo2, en2, ?_⟩
        with_reducible exact end_D gA (Hid.out HSt) (Hid.out HGe) (g := w9.heap.size + 1) (h := w9.heap.size) (Nat.le_succ_of_le (Fr.size g9)) l5 nl (Fr.size g9) l4 nk (by first | assumption | omega)
      · refine ⟨_, _, _, _, _, _, _, _, _, _, _, _, _, _, _, _, _, _, _, _, _, _, _, _, _, _, _, _, _, _, _, _, _, _, _, _, _, _, _, _, _, _, _, _, _, rfl, ro1, rn1, ro2, rn2, eo1, en1, eo2, en2, ?_⟩
        with_reducible exact end_C gA (Hid.out HSt) (Hid.out HGe) (g := w7.heap.size) (Fr.size g7) l2 ni
      · refine ⟨_, _, _, _, _, _, _, _, _, _, _, _, _, _, _, _, _, _, _, _, _, _, _, _, _, _, _, _, _, _, _, _, _, _, _, _, _, _, _, _, _, _, _, _, _, rfl, ro1, rn1, ro2, rn2, eo1, en1, eo2, en2, ?_⟩
        with_reducible exact end_D gA (Hid.out HSt) (Hid.out HGe) (g := w7.heap.size) (h := w9.heap.size) (Fr.size g7) l2 ni (Fr.size g9) l4 nk (by first | assumption | omega)
      · refine ⟨_, _, _, _, _, _, _, _, _, _, _, _, _, _, _, _, _, _, _, _, _, _, _, _, _, _, _, _, _, _, _, _, _, _, _, _, _, _, _, _, _, _, _, _, _, rfl, ro1, rn1, ro2, rn2, eo1, en1, eo2, en2, ?_⟩
        with_reducible exact end_D gA (Hid.out HSt) (Hid.out HGe) (g := w7.heap.size) (h := w7.heap.size + 1) (Fr.size g7) l2 ni (Nat.le_succ_of_le (Fr.size g7)) l3 nj (by first | assumption | omega)
      · refine ⟨_, _, _, _, _, _, _, _, _, _, _, _, _, _, _, _, _, _, _, _, _, _, _, _, _, _, _, _, _, _, _, _, _, _, _, _, _, _, _, _, _, _, _, _, _, rfl, ro1, rn1, ro2, rn2, eo1, en1, eo2, en2, ?_⟩
        with_reducible exact end_E gA (Hid.out HSt) (Hid.out HGe) (g := w7.heap.size) (Fr.size g7) l2 ni
      · refine ⟨_, _, _, _, _, _, _, _, _, _, _, _, _, _, _, _, _, _, _, _, _, _, _, _, _, _, _, _, _, _, _, _, _, _, _, _, _, _, _, _, _, _, _, _, _, rfl, ro1, rn1, ro2, rn2, eo1, en1, eo2, en2, ?_⟩
        with_reducible exact end_D gA (Hid.out HSt) (Hid.out HGe) (g := w9.heap.size) (h := w7.heap.size) (Fr.size g9) l4 nk (Fr.size g7) l2 ni (by first | assumption | omega)
      · refine ⟨_, _, _, _, _, _, _, _, _, _, _, _, _, _, _, _, _, _, _, _, _, _, _, _, _, _, _, _, _, _, _, _, _, _, _, _, _, _, _, _, _, _, _, _, _, rfl, ro1, rn1, ro2, rn2, eo1, en1, eo2, en2, ?_⟩
        with_reducible exact end_D gA (Hid.out HSt) (Hid.out HGe) (g := w7.heap.size + 1) (h := w7.heap.size) (Nat.le_succ_of_le (Fr.size g7)) l3 nj (Fr.size g7) l2 ni (by first | assumption | omega)
      · refine ⟨_, _, _, _, _, _, _, _, _, _, _, _, _, _, _, _, _, _, _, _, _, _, _, _, _, _, _, _, _, _, _, _, _, _, _, _, _, _, _, _, _, _, _, _, _, rfl, ro1, rn1, ro2, rn2, eo1, en1, eo2, en2, ?_⟩
        with_reducible exact end_C gA (Hid.out HSt) (Hid.out HGe) (g := w8.heap.size) (Nat.le_refl _) l0 ng
      · refine ⟨_, _, _, _, _, _, _, _, _, _, _, _, _, _, _, _, _, _, _, _, _, _, _, _, _, _, _, _, _, _, _, _, _, _, _, _, _, _, _, _, _, _, _, _, _, rfl, ro1, rn1, ro2, rn2, eo1, en1, eo2, en2, ?_⟩
        with_reducible exact end_D gA (Hid.out HSt) (Hid.out HGe) (g := w8.heap.size) (h := w9.heap.size) (Nat.le_refl _) l0 ng (Fr.size g9) l4 nk (by first | assumption | omega)
      · refine ⟨_, _, _, _, _, _, _, _, _, _, _, _, _, _, _, _, _, _, _, _, _, _, _, _, _, _, _, _, _, _, _, _, _, _, _, _, _, _, _, _, _, _, _, _, _, rfl, ro1, rn1, ro2, rn2, eo1, en1, eo2, en2, ?_⟩
        with_reducible exact end_D gA (Hid.out HSt) (Hid.out HGe) (g := w8.heap.size) (h := w7.heap.size) (Nat.le_refl _) l0 ng (Fr.size g7) l2 ni (by first | assumption | omega)
      · refine ⟨_, _, _, _, _, _, _, _, _, _, _, _, _, _, _, _, _, _, _, _, _, _, _, _, _, _, _, _, _, _, _, _, _, _, _, _, _, _, _, _, _, _, _, _, _, rfl, ro1, rn1, ro2, rn2, eo1, en1, eo2, en2, ?_⟩
        with_reducible exact end_D gA (Hid.out HSt) (Hid.out HGe) (g := w8.heap.size) (h := w8.heap.size + 1) (Nat.le_refl _) l0 ng (Nat.le_succ _) l1 nh (by first | assumption | omega)
      · refine ⟨_, _, _, _, _, _, _, _, _, _, _, _, _, _, _, _, _, _, _, _, _, _, _, _, _, _, _, _, _, _, _, _, _, _, _, _, _, _, _, _, _, _, _, _, _, rfl, ro1, rn1, ro2, rn2, eo1, en1, eo2, en2, ?_⟩
        with_reducible exact end_E gA (Hid.out HSt) (Hid.out HGe) (g := w8.heap.size) (Nat.le_refl _) l0 ng
      · refine ⟨_, _, _, _, _, _, _, _, _, _, _, _, _, _, _, _, _, _, _, _, _, _, _, _, _, _, _, _, _, _, _, _, _, _, _, _, _, _, _, _, _, _, _, _, _, rfl, ro1, rn1, ro2, rn2, eo1, en1, eo2, en2, ?_⟩
        with_reducible exact end_D gA (Hid.out HSt) (Hid.out HGe) (g := w9.heap.size) (h := w8.heap.size) (Fr.size g9) l4 nk (Nat.le_refl _) l0 ng (by first | assumption | omega)
      · refine ⟨_, _, _, _, _, _, _, _, _, _, _, _, _, _, _, _, _, _, _, _, _, _, _, _, _, _, _, _, _, _, _, _, _, _, _, _, _, _, _, _, _, _, _, _, _, rfl, ro1, rn1, ro2, rn2, eo1, en1, eo2, en2, ?_⟩
        with_reducible exact end_D gA (Hid.out HSt) (Hid.out HGe) (g := w7.heap.size) (h := w8.heap.size) (Fr.size g7) l2 ni (Nat.le_refl _) l0 ng (by first | assumption | omega)
      · refine ⟨_, _, _, _, _, _, _, _, _, _, _, _, _, _, _, _, _, _, _, _, _, _, _, _, _, _, _, _, _, _, _, _, _, _, _, _, _, _, _, _, _, _, _, _, _, rfl, ro1, rn1, ro2, rn2, eo1, en1, eo2, en2, ?_⟩
        with_reducible exact end_D gA (Hid.out HSt) (Hid.out HGe) (g := w8.heap.size + 1) (h := w8.heap.size) (Nat.le_succ _) l1 nh (Nat.le_refl _) l0 ng (by first | assumption | omega)
    case rest =>
      rintro a' wB ⟨b7, b9, u12, u13, u14, u15, u16, u17, u18, u19, u20, u21, u22, u23, u24, u25, u26, u27, u28, u29, u30, u31, u32, u33, u34, u35, u36, u37, u38, u39, u40, u41, u42, u43, u44, u45, u46, u47, u48, u49, u50, u51, u52, u53, u54, rfl, ro1, rn1, ro2, rn2, eo1, en1, eo2, en2, B7, B9, FB, t1, t2, t3, t4⟩
      have HWB := toHid10 ((HF2.out.then7 HF8.out).then7 FB)
      have HSB := toHid10 (show ∀ w', Fr None' wB w' → Fr None' wB w' ∧ w'.cell? ⟨b7, 0, none⟩ = some (.int .i64 iy.kind) ∧ w'.cell? ⟨b7, 1, none⟩ = some (.string iy.path) ∧ w'.cell? ⟨b7, 2, none⟩ = some (.string iy.dst) ∧ w'.cell? ⟨b7, 3, none⟩ = some (.string iy.src) ∧ w'.cell? ⟨b7, 4, none⟩ = some (.int .i64 iy.pos) ∧ w'.cell? ⟨b7, 5, none⟩ = some (.slice ro1 iy.old.length eo1) ∧ w'.cell? ⟨b7, 6, none⟩ = some (.slice rn1 iy.new.length en1) ∧ w'.cell? ⟨b9, 0, none⟩ = some (.int .i64 ix.kind) ∧ w'.cell? ⟨b9, 1, none⟩ = some (.string ix.path) ∧ w'.cell? ⟨b9, 2, none⟩ = some (.string ix.dst) ∧ w'.cell? ⟨b9, 3, none⟩ = some (.string ix.src) ∧ w'.cell? ⟨b9, 4, none⟩ = some (.int .i64 ix.pos) ∧ w'.cell? ⟨b9, 5, none⟩ = some (.slice ro2 ix.old.length eo2) ∧ w'.cell? ⟨b9, 6, none⟩ = some (.slice rn2 ix.new.length en2) ∧ w'.cell? ⟨W.heap.size, 0, none⟩ = some (.int .i64 x.kind) ∧ w'.cell? ⟨W.heap.size, 1, none⟩ = some (.string x.path) ∧ w'.cell? ⟨W.heap.size, 2, none⟩ = some (.string x.dst) ∧ w'.cell? ⟨W.heap.size, 3, none⟩ = some (.string x.src) ∧ w'.cell? ⟨W.heap.size, 4, none⟩ = some (.int .i64 x.pos) ∧ w'.cell? ⟨W.heap.size, 5, none⟩ = some (.slice pa no ca) ∧ w'.cell? ⟨W.heap.size, 6, none⟩ = some (.slice pb nn cb) ∧ w'.cell? ⟨w1.heap.size, 0, none⟩ = some (.int .i64 y.kind) ∧ w'.cell? ⟨w1.heap.size, 1, none⟩ = some (.string y.path) ∧ w'.cell? ⟨w1.heap.size, 2, none⟩ = some (.string y.dst) ∧ w'.cell? ⟨w1.heap.size, 3, none⟩ = some (.string y.src) ∧ w'.cell? ⟨w1.heap.size, 4, none⟩ = some (.int .i64 y.pos) ∧ w'.cell? ⟨w1.heap.size, 5, none⟩ = some (.slice qa mo da) ∧ w'.cell? ⟨w1.heap.size, 6, none⟩ = some (.slice qb mn db) from fun w' f => by
        obtain ⟨a0, a1, a2, a3, a4, a5, a6⟩ := (B7.kept f).cells
        obtain ⟨c0, c1, c2, c3, c4, c5, c6⟩ := (B9.kept f).cells
        obtain ⟨x0, x1, x2, x3, x4, x5, x6⟩ := (HBX.out w' ((HF8.out.then7 FB).then7 f)).cells
        obtain ⟨y0, y1, y2, y3, y4, y5, y6⟩ := (HBY.out w' ((HF8.out.then7 FB).then7 f)).cells
        exact ⟨f, a0, a1, a2, a3, a4, a5, a6, c0, c1, c2, c3, c4, c5, c6, x0, x1, x2, x3, x4, x5, x6, y0, y1, y2, y3, y4, y5, y6⟩)
      have HTY := toHid10 (And.intro t1 t2)
      have HTX := toHid10 (And.intro t3 t4)
      have HIY := toHid10 (fun w' => HIy.out wB HWB.out w')
      have HIX := toHid10 (fun w' => HIx.out wB HWB.out w')
      have HQY := toHid10 (fun w' (f : Fr None' wB w') po co pn cn (s : StrsAt wB (.slice po iy.old.length co) iy.old ∧ StrsAt wB (.slice pn iy.new.length cn) iy.new) => HSa.out iy HSi.out.2 w' ro1 eo1 rn1 en1 po co pn cn (HTY.out.1.kept f) (HTY.out.2.kept f) (s.1.kept f) (s.2.kept f))
      have HQX := toHid10 (fun w' (f : Fr None' wB w') po co pn cn (s : StrsAt wB (.slice po ix.old.length co) ix.old ∧ StrsAt wB (.slice pn ix.new.length cn) ix.new) => HSa.out ix HSi.out.1 w' ro2 eo2 rn2 en2 po co pn cn (HTX.out.1.kept f) (HTX.out.2.kept f) (s.1.kept f) (s.2.kept f))
      clear B7 B9 FB t1 t2 t3 t4 HB8 fr8 HJb HJa HCc HSa HS8
      have frB := Fr.refl None' wB
      go_wp2_with fail
      go_region_held3 (fun w' => Fr None' wB w' ∧ w'.cell? ⟨b7, 0, none⟩ = some (.int .i64 iy.kind) ∧ w'.cell? ⟨b7, 1, none⟩ = some (.string iy.path) ∧ w'.cell? ⟨b7, 2, none⟩ = some (.string iy.dst) ∧ w'.cell? ⟨b7, 3, none⟩ = some (.string iy.src) ∧ w'.cell? ⟨b7, 4, none⟩ = some (.int .i64 iy.pos) ∧ w'.cell? ⟨b7, 5, none⟩ = some (.slice ro1 iy.old.length eo1) ∧ w'.cell? ⟨b7, 6, none⟩ = some (.slice rn1 iy.new.length en1) ∧ w'.cell? ⟨b9, 0, none⟩ = some (.int .i64 ix.kind) ∧ w'.cell? ⟨b9, 1, none⟩ = some (.string ix.path) ∧ w'.cell? ⟨b9, 2, none⟩ = some (.string ix.dst) ∧ w'.cell? ⟨b9, 3, none⟩ = some (.string ix.src) ∧ w'.cell? ⟨b9, 4, none⟩ = some (.int .i64 ix.pos) ∧ w'.cell? ⟨b9, 5, none⟩ = some (.slice ro2 ix.old.length eo2) ∧ w'.cell? ⟨b9, 6, none⟩ = some (.slice rn2 ix.new.length en2) ∧ w'.cell? ⟨W.heap.size, 0, none⟩ = some (.int .i64 x.kind) ∧ w'.cell? ⟨W.heap.size, 1, none⟩ = some (.string x.path) ∧ w'.cell? ⟨W.heap.size, 2, none⟩ = some (.string x.dst) ∧ w'.cell? ⟨W.heap.size, 3, none⟩ = some (.string x.src) ∧ w'.cell? ⟨W.heap.size, 4, none⟩ = some (.int .i64 x.pos) ∧ w'.cell? ⟨W.heap.size, 5, none⟩ = some (.slice pa no ca) ∧ w'.cell? ⟨W.heap.size, 6, none⟩ = some (.slice pb nn cb) ∧ w'.cell? ⟨w1.heap.size, 0, none⟩ = some (.int .i64 y.kind) ∧ w'.cell? ⟨w1.heap.size, 1, none⟩ = some (.string y.path) ∧ w'.cell? ⟨w1.heap.size, 2, none⟩ = some (.string y.dst) ∧ w'.cell? ⟨w1.heap.size, 3, none⟩ = some (.string y.src) ∧ w'.cell? ⟨w1.heap.size, 4, none⟩ = some (.int .i64 y.pos) ∧ w'.cell? ⟨w1.heap.size, 5, none⟩ = some (.slice qa mo da) ∧ w'.cell? ⟨w1.heap.size, 6, none⟩ = some (.slice qb mn db))
        (exact HSB.out _ (by (repeat (first | with_reducible assumption | with_reducible refine alloc10 ?_ _ | with_reducible refine drew10 ?_))))
        (first
          | (go_at_call 17; with_reducible (refine (HIY.out _).mono ?_); rintro e wC ⟨po, co, pn, cn, rfl, HRy, fC⟩; have gC := Fr.then7 (show Fr None' wB _ by (repeat (first | with_reducible assumption | with_reducible refine alloc10 ?_ _ | with_reducible refine drew10 ?_))) fC)
          | (go_at_call 15; with_reducible (refine (HQY.out _ (by (repeat (first | with_reducible assumption | with_reducible refine alloc10 ?_ _ | with_reducible refine drew10 ?_))) po co pn cn (Hid.out HRy)).mono ?_); rintro e wD ⟨rfl, fD⟩; have gD := Fr.then7 (show Fr None' wB _ by (repeat (first | with_reducible assumption | with_reducible refine alloc10 ?_ _ | with_reducible refine drew10 ?_))) fD)
          | (go_at_call 17; with_reducible (refine (HIX.out _).mono ?_); rintro e wE ⟨qo, do', qn, dn, rfl, HRx, fE⟩; have gE := Fr.then7 (show Fr None' wB _ by (repeat (first | with_reducible assumption | with_reducible refine alloc10 ?_ _ | with_reducible refine drew10 ?_))) fE)
          | (go_at_call 15; with_reducible (refine (HQX.out _ (by (repeat (first | with_reducible assumption | with_reducible refine alloc10 ?_ _ | with_reducible refine drew10 ?_))) qo do' qn dn (Hid.out HRx)).mono ?_); rintro e wG ⟨rfl, fG⟩; have gG := Fr.then7 (show Fr None' wB _ by (repeat (first | with_reducible assumption | with_reducible refine alloc10 ?_ _ | with_reducible refine drew10 ?_))) fG)
          | fail)
      all_goals
        go_wp2_with fail
        go_ret
        exact ⟨rfl, HWB.out.then7 (by (repeat (first | with_reducible assumption | with_reducible refine alloc10 ?_ _ | with_reducible refine drew10 ?_)))⟩

end Go.Proofs.YtlmgbcfcikdgpaaGreatDoor
