/- What is proved here: contracts that SeqTells stands on. Conditions: as each theorem names them. -/
import Derived.Test.YtbnfjjjdnbcehaaGreatDoorM6Strs9
import Derived.Maps.RangeWalk
import Derived.Maps.AppendAt
import Derived.Maps.Ext
import Derived.Maps.OwnSet
import Derived.Test.YtbnfjjjdnbcehaaGreatDoorM2PBase
import Derived.Test.YtbnfjjjdnbcehaaGreatDoorM3LPlain
import Derived.Test.YtbnfjjjdnbcehaaGreatDoorM5LStrs
import Derived.Sort.Walk0
import Derived.Test.YtbnfjjjdnbcehaaGreatDoorChecked
import Derived.Deep.Strs
import Derived.Deep.Slices
import Derived.ProofKit
import Derived.OpenShut
import Derived.ShutString
import Derived.ChangeOld
import Derived.ChangeSame
import Derived.SizedLaws
import Derived.Below
set_option maxHeartbeats 16000000
namespace Go.Proofs.YtbnfjjjdnbcehaaGreatDoor
open Go.RowKit
set_option maxRecDepth 100000
theorem results_two {fn : Func} {p q r : Tmp} (hres : fn.results = #[.cell p 43, .cell q 43, .tmp r]) (tmps : Array Value) {w : World} {b c : Nat} {y0 y1 y2 y3 y4 y5 y6 z0 z1 z2 z3 z4 z5 z6 : Value} (hp : tmps.getD p undef = .pointer (some ⟨b, 0, none⟩)) (hq : tmps.getD q undef = .pointer (some ⟨c, 0, none⟩)) (h : Box w b y0 y1 y2 y3 y4 y5 y6) (k : Box w c z0 z1 z2 z3 z4 z5 z6) :
  (results fn tmps).run Tryz.prog w = .ok (.tuple #[.agg #[y0, y1, y2, y3, y4, y5, y6], .agg #[z0, z1, z2, z3, z4, z5, z6], tmps.getD r undef]) w := by
 have hp' : tmps[p]?.getD undef = .pointer (some ⟨b, 0, none⟩) := by simpa using hp
 have hq' : tmps[q]?.getD undef = .pointer (some ⟨c, 0, none⟩) := by simpa using hq
 simp [results, hres, hp', hq', asAddr, h.load, k.load]
theorem Zr {fn : Func} {p q r : Tmp} (hres : fn.results = #[.cell p 43, .cell q 43, .tmp r]) {Q : Ending → World → Prop} {a : Act} {w : World} {b c : Nat} {y0 y1 y2 y3 y4 y5 y6 z0 z1 z2 z3 z4 z5 z6 u : Value} (hd : a.defers = []) (hp : a.tmps.getD p undef = .pointer (some ⟨b, 0, none⟩)) (hq : a.tmps.getD q undef = .pointer (some ⟨c, 0, none⟩)) (hu : a.tmps.getD r undef = u) (h : Box w b y0 y1 y2 y3 y4 y5 y6) (k : Box w c z0 z1 z2 z3 z4 z5 z6)
  (hQ : Q (.returned (.tuple #[.agg #[y0, y1, y2, y3, y4, y5, y6], .agg #[z0, z1, z2, z3, z4, z5, z6], u])) w) : bodyPost Tryz.prog fn Q .ret a w := by
 subst hu
 exact bodyPost_ret (results_two hres _ hp hq h k) hd hQ
theorem Zt {w W : World} {b c : Nat} {x0 x1 x2 x3 x4 x5 x6 u0 u1 u2 u3 u4 u5 u6 : Value} (hf : Fr None' w W) (hb : Box W b x0 x1 x2 x3 x4 x5 x6) (hc : Box W c u0 u1 u2 u3 u4 u5 u6) (hbc : ¬ b = c) (hwb : w.heap.size ≤ b) (hwc : w.heap.size ≤ c) (y0 y1 y2 y3 y4 y5 y6 z0 z1 z2 z3 z4 z5 z6 : Value) :
  (Box (setP (setP W b y0 y1 y2 y3 y4 y5 y6) c z0 z1 z2 z3 z4 z5 z6) b y0 y1 y2 y3 y4 y5 y6 ∧ Box (setP (setP W b y0 y1 y2 y3 y4 y5 y6) c z0 z1 z2 z3 z4 z5 z6) c z0 z1 z2 z3 z4 z5 z6 ∧ Fr None' w (setP (setP W b y0 y1 y2 y3 y4 y5 y6) c z0 z1 z2 z3 z4 z5 z6) ∧ Fr (fun k => k = b ∨ k = c) W (setP (setP W b y0 y1 y2 y3 y4 y5 y6) c z0 z1 z2 z3 z4 z5 z6)) :=
 ⟨(hb.all y0 y1 y2 y3 y4 y5 y6).fr (Fr.setP (M := fun k => k = c) _ rfl _ _ _ _ _ _ _) hbc, ((hc.fr (Fr.setP (M := fun k => k = b) W rfl y0 y1 y2 y3 y4 y5 y6) (fun e => hbc e.symm))).all _ _ _ _ _ _ _,
  (hf.trans (Fr.setP (M := fun k => k = b) W rfl _ _ _ _ _ _ _) (fun _ e => Or.inr (by omega))).trans (Fr.setP (M := fun k => k = c) _ rfl _ _ _ _ _ _ _) (fun _ e => Or.inr (by omega)),
  (Fr.setP (M := fun k => k = b ∨ k = c) W (Or.inl rfl) _ _ _ _ _ _ _).then (Fr.setP (M := fun k => k = b ∨ k = c) _ (Or.inr rfl) _ _ _ _ _ _ _)⟩
theorem Box.drew {w : World} {b : Nat} {y0 y1 y2 y3 y4 y5 y6 : Value} (h : Box w b y0 y1 y2 y3 y4 y5 y6) : Box w.drew b y0 y1 y2 y3 y4 y5 y6 := h
end Go.Proofs.YtbnfjjjdnbcehaaGreatDoor
namespace Go.Proofs.YtbnfjjjdnbcehaaGreatDoor
open Go.RowKit Go.Maps Go.WideMaps
set_option maxRecDepth 100000
theorem Fr.turned {M : Nat → Prop} {w w' : World} {b : Nat} (ht : w.mapTurned w' b) (hb : M b) : Fr M w w' :=
 Fr.grown ht.grown (fun k e => by cases e; exact hb)
theorem Fr.map {M : Nat → Prop} {w w' : World} (h : Fr M w w') {H : Type} {P : Program} {k : TypeId} {R : Value → Option (DataW H × List MemPlace)} {b n : Nat} {D : DataW H} (hm : w.ownsMap P k R b n D) (hb : ¬ M b) : w'.ownsMap P k R b n D := by
 obtain ⟨es, clock, h1, h2, h3, h4⟩ := hm
 exact ⟨es, clock, h.at h1 hb, h2, h3, h4⟩
theorem Fr.row {M : Nat → Prop} {w w' : World} (h : Fr M w w') {base : Nat} {e : TypeId} {size : Nat} {v : Value} {n : Nat} {xs : List Value} (hr : w.ownsRow base e size v n xs) (hb : ∀ g, v.ownBlock = some g → ¬ M g) : w'.ownsRow base e size v n xs := by
 obtain ⟨h1, h2⟩ := hr
 refine ⟨h1, ?_⟩
 rcases h2 with h2 | ⟨g, cap, cur, hv, hg, hh, r⟩
 ·exact Or.inl h2
 ·exact Or.inr ⟨g, cap, cur, hv, hg, h.at hh (hb g (by rw [hv]; rfl)), r⟩
end Go.Proofs.YtbnfjjjdnbcehaaGreatDoor
namespace Go.Proofs.YtbnfjjjdnbcehaaGreatDoor
open Go.RowKit
set_option maxRecDepth 100000
structure En where
 path : ByteArray
 kind : Int
 lines : List ByteArray
 data : ByteArray
def EnAt (w : World) (g o : Nat) (x : En) : Prop := ∃ vl, w.cell? ⟨g, o, none⟩ = some (.string x.path) ∧ w.cell? ⟨g, o + 1, none⟩ = some (.int .i64 x.kind) ∧ w.cell? ⟨g, o + 2, none⟩ = some vl ∧ w.cell? ⟨g, o + 3, none⟩ = some (.string x.data) ∧ Zv w vl x.lines
theorem EnAt.kept {w w' : World} {g o : Nat} {x : En} (h : EnAt w g o x) (f : Fr None' w w') : EnAt w' g o x := by
 obtain ⟨vl, h0, h1, h2, h3, h4⟩ := h
 exact ⟨vl, f.keepCell h0 (fun e => e), f.keepCell h1 (fun e => e), f.keepCell h2 (fun e => e), f.keepCell h3 (fun e => e), h4.kept f⟩
def EntsAt (w : World) (va : Option Addr) (L : List En) : Prop := ∀ k x, L[k]? = some x → ∃ g o, va = some ⟨g, o, none⟩ ∧ EnAt w g (o + k * 4) x
theorem EntsAt.kept {w w' : World} {va : Option Addr} {L : List En} (h : EntsAt w va L) (f : Fr None' w w') : EntsAt w' va L := fun k x hk => by
 obtain ⟨g, o, e, h1⟩ := h k x hk
 exact ⟨g, o, e, h1.kept f⟩
theorem EntsAt.get {w : World} {va : Option Addr} {L : List En} (h : EntsAt w va L) {k : Nat} (hk : k < L.length) : ∃ g o, va = some ⟨g, o, none⟩ ∧ EnAt w g (o + k * 4) L[k] := h k _ (List.getElem?_eq_getElem hk)
def En.weight (x : En) : Nat := 5 + x.lines.length + x.data.size + x.path.size + (x.lines.map (·.size)).sum
end Go.Proofs.YtbnfjjjdnbcehaaGreatDoor
namespace Go.Proofs.YtbnfjjjdnbcehaaGreatDoor
set_option maxRecDepth 100000
def bl (s : ByteArray) : List UInt8 := s.data.toList
def thing (x : En) : Bool := if x.kind = 1 then decide (x.lines = []) && decide (x.data.size = 0) else if x.kind = 2 then Lines.right (Lines.bs x.lines) && decide (x.data.size = 0) else if x.kind = 3 then decide (x.lines = []) else false
def ahead (L : List En) (j : Nat) (x : En) : Bool := match j with
 | 0 => true
 | i + 1 => match L[i]? with
  | none => true
  | some y => decide (bl y.path < bl x.path)
end Go.Proofs.YtbnfjjjdnbcehaaGreatDoor
namespace Go.Proofs.YtbnfjjjdnbcehaaGreatDoor
open Go.RowKit
set_option maxRecDepth 100000
end Go.Proofs.YtbnfjjjdnbcehaaGreatDoor
namespace Go.Proofs.YtbnfjjjdnbcehaaGreatDoor
open Go.RowKit
set_option maxRecDepth 100000
end Go.Proofs.YtbnfjjjdnbcehaaGreatDoor
namespace Go.Proofs.YtbnfjjjdnbcehaaGreatDoor
open Go.RowKit
set_option maxRecDepth 100000
end Go.Proofs.YtbnfjjjdnbcehaaGreatDoor
namespace Go.Proofs.YtbnfjjjdnbcehaaGreatDoor
open Go.RowKit Go.Maps Go.WideMaps
set_option maxRecDepth 100000
structure Th where
 x : En
 u : Option Addr × Nat × Nat
def Th.k (t : Th) : List UInt8 := bl t.x.path
def Th.sl (t : Th) : Value := .slice t.u.1 t.u.2.1 t.u.2.2
def Th.v (t : Th) : Value := .agg #[.string t.x.path, .int .i64 t.x.kind, t.sl, .string t.x.data]
def ent8 (t : Th) : Lit × DataW Value := (.string t.k, .held t.v)
def toT (T : List Th) : DataW Value := .map (T.map ent8)
def ins8 (x : Th) : List Th → List Th
 | [] => [x]
 | y :: r => if Lit.before (.string x.k) (.string y.k) then x :: y :: r else y :: ins8 x r
def del8 (T : List Th) (k : List UInt8) : List Th := T.filter (fun t => !(t.k == k))
def put8 (T : List Th) (x : Th) : List Th := ins8 x (del8 T x.k)
abbrev Cs := ByteArray × Int × (Option Addr × Nat × Nat) × ByteArray
def csV (c : Cs) : Value := .agg #[.string c.1, .int .i64 c.2.1, .slice c.2.2.1.1 c.2.2.1.2.1 c.2.2.1.2.2, .string c.2.2.2]
open Classical in
noncomputable def heldE (v : Value) : Option (DataW Value × List MemPlace) := if ∃ c, v = csV c then some (.held v, []) else none
theorem ent_insert8 (x : Th) : ∀ T : List Th, (ins8 x T).map ent8 = DataW.insert (ent8 x) (T.map ent8)
 | [] => rfl
 | y :: r => by
  simp only [ins8, List.map_cons, DataW.insert]
  have e : (ent8 x).1.before (ent8 y).1 = Lit.before (.string x.k) (.string y.k) := rfl
  rw [e]
  split
  ·rfl
  ·simp [ent_insert8 x r]
theorem ent_filter8 (T : List Th) (k : List UInt8) : (del8 T k).map ent8 = (T.map ent8).filter (fun p => !p.1.sameKey (.string k)) := by
 unfold del8
 rw [List.filter_map]
 rfl
theorem toT_put (T : List Th) (x : Th) : (toT T).put (.string x.k) (.held x.v) = toT (put8 T x) := by
 unfold toT put8
 rw [ent_insert8, ent_filter8]
 rfl
theorem mem_ins8 {x y : Th} : ∀ {T : List Th}, y ∈ ins8 x T ↔ y = x ∨ y ∈ T
 | [] => by simp [ins8]
 | z :: r => by
  unfold ins8
  split
  ·simp
  ·simp only [List.mem_cons, mem_ins8 (T := r)]
   constructor
   ·rintro (h | h | h)
    ·exact Or.inr (Or.inl h)
    ·exact Or.inl h
    ·exact Or.inr (Or.inr h)
   ·rintro (h | h | h)
    ·exact Or.inr (Or.inl h)
    ·exact Or.inl h
    ·exact Or.inr (Or.inr h)
theorem mem_del8 {T : List Th} {k : List UInt8} {y : Th} : y ∈ del8 T k ↔ y ∈ T ∧ y.k ≠ k := by simp [del8]
theorem mem_put8 {T : List Th} {x y : Th} : y ∈ put8 T x ↔ y = x ∨ (y ∈ T ∧ y.k ≠ x.k) := by
 unfold put8; rw [mem_ins8, mem_del8]
structure ThAt (w : World) (b n : Nat) (T : List Th) : Prop where
 map : w.ownsMap Tryz.prog 9 heldE b n (toT T)
 str : ∀ t ∈ T, Zv w t.sl t.x.lines
theorem ThAt.kept {w w' : World} {b n : Nat} {T : List Th} (h : ThAt w b n T) (f : Fr None' w w') : ThAt w' b n T :=
 ⟨f.map h.map (fun e => e), fun t ht => (h.str t ht).kept f⟩
theorem ThAt.mono {w : World} {b n m : Nat} {T : List Th} (h : ThAt w b n T) (hm : n ≤ m) : ThAt w b m T := ⟨h.map.mono hm, h.str⟩
theorem Zv.notMap {w : World} {v : Value} {l : List ByteArray} {b n : Nat} {T : List Th} (h : Zv w v l) (hm : w.ownsMap Tryz.prog 9 heldE b n (toT T)) (hl : l ≠ []) : ¬ v.ownBlock = some b := fun e => by
 obtain ⟨va, c, rfl, h1, h2, h3⟩ := h
 cases l with
 | nil => exact hl rfl
 | cons x l =>
  obtain ⟨g, o, e', hc⟩ := h3 0 x rfl
  subst e'
  cases e
  obtain ⟨es, cl, hb, _⟩ := hm
  unfold World.cell? at hc
  simp only at hc
  rw [hb] at hc
  cases hc
theorem Zv.turned {w w' : World} {v : Value} {l : List ByteArray} {b n : Nat} {T : List Th} (h : Zv w v l) (hm : w.ownsMap Tryz.prog 9 heldE b n (toT T)) (ht : w.mapTurned w' b) : Zv w' v l :=
 h.far (Fr.turned (M := fun k => k = b) ht rfl) (fun hl _ e e' => h.notMap hm hl (e' ▸ e))
theorem ThAt.put {w w' : World} {b n : Nat} {T : List Th} {t : Th} (h : ThAt w b n T) (hs : Zv w t.sl t.x.lines) (hown : w'.ownsMap Tryz.prog 9 heldE b (n + 1) ((toT T).put (.string t.k) (.held t.v))) (ht : w.mapTurned w' b) : ThAt w' b (n + 1) (put8 T t) := by
 refine ⟨toT_put T t ▸ hown, fun s hs' => ?_⟩
 rcases mem_put8.1 hs' with rfl | ⟨hm, _⟩
 ·exact hs.turned h.map ht
 ·exact (h.str s hm).turned h.map ht
theorem ThAt.start (w : World) : ThAt (w.alloc (.map #[] 0)) w.heap.size 0 [] :=
 ⟨World.ownsMap_made _ _ _ _, fun t ht => by cases ht⟩
end Go.Proofs.YtbnfjjjdnbcehaaGreatDoor
namespace Go.Proofs.YtbnfjjjdnbcehaaGreatDoor
open Go.ChangeShapes Go.WideShapes Go.ChangeAt Go.RowKit Go.Deep
set_option maxRecDepth 100000
theorem own : ownKnob Tryz.prog.godebug = none := by kernel_rfl
theorem laidOut : laidOutB Tryz.prog = true := by kernel_rfl
theorem add_none7 {a : Addr} (h : a.spot = none) (i : Nat) : a.add i = ⟨a.block, a.off + i, none⟩ := by
 obtain ⟨b, o, s⟩ := a
 simp only at h
 subst h
 unfold Addr.add
 split <;> simp_all
theorem spot_none7 {w : World} {a : Addr} {u : Value} (h : w.cell? a = some u) : a.spot = none := by
 unfold World.cell? at h
 split at h
 ·split at h
  ·cases h
  ·rename_i h1; simpa using h1
 ·cases h
theorem mapM_at7 {α β : Type} (f : α → Option β) : ∀ (l : List α) (r : List β), l.mapM f = some r → ∀ (j : Nat) (u : β), r[j]? = some u → ∃ x, l[j]? = some x ∧ f x = some u
 | [], r, h, j, u, hu => by
  simp at h; subst h; simp at hu
 | a :: l, r, h, j, u, hu => by
  rw [List.mapM_cons] at h
  obtain ⟨y, hy, h⟩ := Option.bind_eq_some_iff.1 h
  obtain ⟨ys, hys, h⟩ := Option.bind_eq_some_iff.1 h
  obtain rfl : y :: ys = r := by simpa using h
  cases j with
  | zero => simp at hu; subst hu; exact ⟨a, rfl, hy⟩
  | succ j => simpa using mapM_at7 f l ys hys j u (by simpa using hu)
theorem cells_at7 {w : World} {a : Addr} {n : Nat} {cs : List Value} (h : w.cells? 0 a n = some cs) (j : Nat) (u : Value) (hj : cs[j]? = some u) : w.cell? (a.add j) = some u := by
 unfold World.cells? at h
 rw [if_pos (Nat.zero_le _)] at h
 obtain ⟨x, h1, h2⟩ := mapM_at7 _ _ _ h j u hj
 have : x = j := by
  obtain ⟨h3, h4⟩ := List.getElem?_eq_some_iff.1 h1
  simpa using h4.symm
 rw [← this]; exact h2
theorem weightsAll_mem {H : Type} {P : Program} {e : TypeId} : ∀ {l : List (DataW H)} {d : DataW H}, d ∈ l → ∀ n ∈ d.weights P e, n ∈ DataW.weightsAll P e l
 | [], _, h, _, _ => by cases h
 | x :: l, d, h, n, hn => by
  rw [DataW.weightsAll]
  rcases List.mem_cons.1 h with rfl | h
  ·exact List.mem_append_left _ hn
  ·exact List.mem_append_right _ (weightsAll_mem h n hn)
theorem trod_strs9 {H : Type} {enc : TypeId × Value → H} {W : World} {fuel : Nat} {sp : Nat → Bool} {held : Bool} {cs : List Value} {x : DataW H × List MemPlace} (h : DataW.trod enc Tryz.prog W 0 sp held fuel 41 cs = some x) (hr : ∀ n ∈ x.1.weights Tryz.prog 41, n ≤ reachBytes) : ∃ v l, cs = [v] ∧ Zv W v l ∧ l.length ≤ reachBytes := by
 have hle : ∀ va len cap, cs = [.slice va len cap] → len ≤ reachBytes := fun va len cap e => by
  rcases open_slice Tryz.underlying41 h with ⟨hcs, _⟩ | ⟨a, len', cap', m, n, D, Pl, hcs, _, hl, hm, hmm, rfl, hx⟩
  ·rw [hcs] at e
   injection e with e
   injection e with e1 e2 e3
   omega
  ·rw [hcs] at e
   injection e with e
   injection e with e1 e2 e3
   have h1 := hr ((((List.range len').map D).length + ((List.range (m - len')).map fun j => D (len' + j)).length) * Tryz.prog.bytesOf 9) (by simp [DataW.weights, Tryz.underlying41])
   have e16 : Tryz.prog.bytesOf 9 = 16 := by kernel_rfl
   rw [e16] at h1
   simp at h1
   omega
 rcases Deep.open_strs Tryz.underlying41 Tryz.underlying9 (by kernel_rfl) h with ⟨hcs, _⟩ | ⟨ad, len, cap, m, Sx, hcs, _, hl, hm, hmm, _, hcell⟩
 ·exact ⟨_, [], hcs, ⟨none, 0, rfl, fun _ => rfl, Nat.le_refl _, fun j x e => by simp at e⟩, Nat.zero_le _⟩
 ·have hlm : len ≤ m := by rw [hmm]; split <;> omega
  refine ⟨_, (List.range len).map Sx, hcs, ⟨some ad, cap, by simp, (fun e => by cases e), by simpa using hl, fun j x hj => ?_⟩, by simpa using hle _ _ _ hcs⟩
  have hjn : j < len := by simpa using (List.getElem?_eq_some_iff.1 hj).1
  have hx : Sx j = x := by simpa [hjn] using hj
  have h0 := spot_none7 (hcell 0 (by omega)).1
  rw [show ad.add 0 = ad from rfl] at h0
  refine ⟨ad.block, ad.off, ?_, ?_⟩
  ·obtain ⟨b, o, s⟩ := ad
   simp_all
  ·rw [← add_none7 h0, ← hx]
   exact (hcell j (by omega)).1
theorem trod_prim {H : Type} {enc : TypeId × Value → H} {W : World} {fuel : Nat} {sp : Nat → Bool} {held : Bool} {cs : List Value} {x : DataW H × List MemPlace} (h : DataW.trod enc Tryz.prog W 0 sp held fuel 43 cs = some x) (hr : ∀ n ∈ x.1.weights Tryz.prog 43, n ≤ reachBytes) :
  ∃ (t : Pr) (vo vn : Value), cs = [.int .i64 t.kind, .string t.path, .string t.dst, .string t.src, .int .i64 t.pos, vo, vn] ∧ Zv W vo t.old ∧ Zv W vn t.new ∧ t.old.length ≤ reachBytes ∧ t.new.length ≤ reachBytes := by
 obtain ⟨xs, n, _, rfl, hl, hlen, hf⟩ := DataW.trod_struct Tryz.underlying43 h
 have h7 : Tryz.prog.cellsOf 43 = 7 := by kernel_rfl
 have hcI : Tryz.prog.cellsOf 3 = 1 := by kernel_rfl
 have hcS : Tryz.prog.cellsOf 9 = 1 := by kernel_rfl
 have hcL : Tryz.prog.cellsOf 41 = 1 := by kernel_rfl
 rw [h7] at hl
 match cs, hl, xs, hlen with
 | [c0, c1, c2, c3, c4, c5, c6], _, [x0, x1, x2, x3, x4, x5, x6], _ =>
  have f0 := hf 0 _ rfl
  have f1 := hf 1 _ rfl
  have f2 := hf 2 _ rfl
  have f3 := hf 3 _ rfl
  have f4 := hf 4 _ rfl
  have f5 := hf 5 _ rfl
  have f6 := hf 6 _ rfl
  simp [hcI, hcS, hcL] at f0 f1 f2 f3 f4 f5 f6
  obtain ⟨z0, e0, _, _⟩ := DataW.trod_int Tryz.underlying3 f0
  obtain ⟨s1, e1, _, _⟩ := DataW.trod_string Tryz.underlying9 f1
  obtain ⟨s2, e2, _, _⟩ := DataW.trod_string Tryz.underlying9 f2
  obtain ⟨s3, e3, _, _⟩ := DataW.trod_string Tryz.underlying9 f3
  obtain ⟨z4, e4, _, _⟩ := DataW.trod_int Tryz.underlying3 f4
  obtain ⟨vo, lo, e5, t5, l5⟩ := trod_strs9 f5 (fun k hk => hr k (by
   simp [DataW.weights, Tryz.underlying43, DataW.weightsEach]
   simp [hk]))
  obtain ⟨vn, ln, e6, t6, l6⟩ := trod_strs9 f6 (fun k hk => hr k (by
   simp [DataW.weights, Tryz.underlying43, DataW.weightsEach]
   simp [hk]))
  simp only [List.cons.injEq, and_true] at e0 e1 e2 e3 e4 e5 e6
  subst e0 e1 e2 e3 e4 e5 e6
  exact ⟨⟨z0, s1, s2, s3, z4, lo, ln⟩, c5, c6, rfl, t5, t6, l5, l6⟩
theorem trod_prims {H : Type} {enc : TypeId × Value → H} {W : World} {sp : Nat → Bool} {held : Bool} {base : Nat} {v : Value} {d : DataW H} {ps : List MemPlace} (hv : Value.okWide Tryz.prog W .any base 22 v) (h : DataW.Trod enc Tryz.prog W 0 sp held 22 v d ps) (hr : ∀ n ∈ d.weights Tryz.prog 22, n ≤ reachBytes) :
  ∃ a n c L, v = .slice a n c ∧ L.length = n ∧ Zc W a L ∧ (a = none → c = 0) ∧ ∀ x ∈ L, x.old.length ≤ reachBytes ∧ x.new.length ≤ reachBytes := by
 obtain ⟨a, n, c, rfl⟩ := okWide_slice Tryz.underlying22 hv
 obtain ⟨fuel, hf⟩ := h
 rcases open_slice Tryz.underlying22 hf with ⟨hcs, _⟩ | ⟨ad, len, cap, m, fu, D, Pl, hcs, _, hl, hm, hmm, hd, hx⟩
 ·simp only [Value.cells, List.cons.injEq, Value.slice.injEq, and_true] at hcs
  obtain ⟨rfl, rfl, rfl⟩ := hcs
  exact ⟨none, 0, 0, [], rfl, rfl, (fun k x e => by simp at e), fun _ => rfl, fun x e => by cases e⟩
 ·simp only [Value.cells, List.cons.injEq, Value.slice.injEq, and_true] at hcs
  obtain ⟨rfl, rfl, rfl⟩ := hcs
  injection hd with hd1 hd2
  subst hd1
  have hlm : n ≤ m := by rw [hmm]; split <;> omega
  have h7 : Tryz.prog.cellsOf 43 = 7 := by kernel_rfl
  rw [h7] at hx
  have hall : ∀ i, i < n → ∃ t : Pr × Value × Value, ∃ cs', W.cells? 0 (ad.add (i * 7)) 7 = some cs' ∧ cs' = [.int .i64 t.1.kind, .string t.1.path, .string t.1.dst, .string t.1.src, .int .i64 t.1.pos, t.2.1, t.2.2] ∧ Zv W t.2.1 t.1.old ∧ Zv W t.2.2 t.1.new ∧ t.1.old.length ≤ reachBytes ∧ t.1.new.length ≤ reachBytes := fun i hi => by
   obtain ⟨cs', h1, h2⟩ := hx i (by omega)
   obtain ⟨t, vo, vn, e, s1, s2, s3, s4⟩ := trod_prim h2 (fun k hk => hr k (by
    simp only [DataW.weights, Tryz.underlying22]
    refine List.mem_cons_of_mem _ (List.mem_append_left _ (weightsAll_mem (d := D i) (List.mem_map_of_mem (List.mem_range.2 hi)) k hk))))
   exact ⟨(t, vo, vn), cs', h1, e, s1, s2, s3, s4⟩
  have hin : Inhabited (Pr × Value × Value) := ⟨(⟨0, ⟨#[]⟩, ⟨#[]⟩, ⟨#[]⟩, 0, [], []⟩, .nilFunc, .nilFunc)⟩
  obtain ⟨T, hT⟩ := choose_lt hall
  refine ⟨some ad, n, c, (List.range n).map (fun i => (T i).1), rfl, by simp, fun i t hi => ?_, (fun e => by cases e), fun x hx => ?_⟩
  ·have hil : i < n := by simpa using (List.getElem?_eq_some_iff.1 hi).1
   have e : (T i).1 = t := by simpa [hil] using hi
   obtain ⟨cs', h1, h2, s1, s2, _⟩ := hT i hil
   subst h2
   have c0 := cells_at7 h1 0 _ rfl
   have c1 := cells_at7 h1 1 _ rfl
   have c2 := cells_at7 h1 2 _ rfl
   have c3 := cells_at7 h1 3 _ rfl
   have c4 := cells_at7 h1 4 _ rfl
   have c5 := cells_at7 h1 5 _ rfl
   have c6 := cells_at7 h1 6 _ rfl
   have hsp : ad.spot = none := by
    obtain ⟨cs0, g1, g2, _⟩ := hT 0 (by omega)
    subst g2
    have := spot_none7 (cells_at7 g1 0 _ rfl)
    simpa [Addr.add] using this
   have ead : ad.add (i * 7) = ⟨ad.block, ad.off + i * 7, none⟩ := add_none7 hsp _
   rw [ead] at c0 c1 c2 c3 c4 c5 c6
   rw [add_none7 rfl] at c0 c1 c2 c3 c4 c5 c6
   rw [← e]
   refine ⟨ad.block, ad.off, ?_, (T i).2.1, (T i).2.2, c0, c1, c2, c3, c4, c5, c6, s1, s2⟩
   obtain ⟨b, o, s⟩ := ad
   simp_all
  ·obtain ⟨i, hi, rfl⟩ := List.mem_map.1 hx
   obtain ⟨_, _, _, _, _, s3, s4⟩ := hT i (List.mem_range.1 hi)
   exact ⟨s3, s4⟩
end Go.Proofs.YtbnfjjjdnbcehaaGreatDoor
namespace Go.Proofs.YtbnfjjjdnbcehaaGreatDoor
open Go.ChangeShapes Go.WideShapes Go.ChangeAt Go.RowKit Go.Deep
set_option maxRecDepth 100000
end Go.Proofs.YtbnfjjjdnbcehaaGreatDoor
namespace Go.Proofs.YtbnfjjjdnbcehaaGreatDoor
open Go.RowKit Go.ChangeShapes Go.WideShapes Go.Deep
set_option maxRecDepth 100000
theorem room_of {H : Type} {enc : TypeId × Value → H} {W : World} {sp : Nat → Bool} {held : Bool} {v : Value} {d : DataW H} {ps : List MemPlace} (h : DataW.Trod enc Tryz.prog W 0 sp held 22 v d ps) : ∀ a n c, v = .slice a n c → n ≤ c ∧ c ≤ 9223372036854775807 := fun a n c e => by
 subst e
 obtain ⟨fuel, hf⟩ := h
 rcases open_slice Tryz.underlying22 hf with ⟨hcs, _⟩ | ⟨ad, len, cap, m, fu, D, Pl, hcs, _, hl, hm, _⟩
 ·simp only [Value.cells, List.cons.injEq, Value.slice.injEq, and_true] at hcs
  obtain ⟨rfl, rfl, rfl⟩ := hcs
  exact ⟨Nat.le_refl _, by decide⟩
 ·simp only [Value.cells, List.cons.injEq, Value.slice.injEq, and_true] at hcs
  obtain ⟨rfl, rfl, rfl⟩ := hcs
  exact ⟨hl, Nat.le_trans hm (by decide)⟩
end Go.Proofs.YtbnfjjjdnbcehaaGreatDoor
