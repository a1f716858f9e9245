/-
  What is proved here: the contracts that the statement stands on: Laws8, CTreeP8, RowF8, JoinF8, JoinM8, CPastP8, SwapB8, SeqP8, RecS12, Head8, SeqA8. Conditions: as each theorem names them.
-/
import Derived.Test.YtbnfjjjdnbcehaaGreatDoorQ55RecD12
import Derived.Test.YtbnfjjjdnbcehaaGreatDoorQ30RecC12
import Derived.Test.YtbnfjjjdnbcehaaGreatDoorQ10RInv9
import Derived.Test.YtbnfjjjdnbcehaaGreatDoorQSameE
import Derived.Test.YtbnfjjjdnbcehaaGreatDoorQ17Plain10
import Derived.Test.YtbnfjjjdnbcehaaGreatDoorQSeqs
import Derived.Test.YtbnfjjjdnbcehaaGreatDoorQ9Plain8
namespace Go.Proofs.YtbnfjjjdnbcehaaGreatDoor
open Go.RowKit Go.Maps Go.WideMaps
set_option maxRecDepth 100000

theorem weight_smE {L : List En} (h : weight L < 4000) : SmallE L ∧ L.length ≤ 1000 ∧ SmLn 4000 L := by
  refine ⟨fun x hx => ?_, by have := weight_len L; omega, fun x hx => ?_⟩
  · have h1 := weight_mem hx
    unfold En.weight at h1
    refine ⟨by omega, by omega, by omega, fun y hy => ?_⟩
    have := size_mem hy
    omega
  · have h1 := weight_mem hx
    unfold En.weight at h1
    refine ⟨⟨by omega, by omega⟩, fun y hy => SmLine.of ?_⟩
    have := size_mem hy
    omega

end Go.Proofs.YtbnfjjjdnbcehaaGreatDoor

namespace Go.Proofs.YtbnfjjjdnbcehaaGreatDoor
open Go.RowKit Go.Maps Go.WideMaps
set_option maxRecDepth 100000

end Go.Proofs.YtbnfjjjdnbcehaaGreatDoor

namespace Go.Proofs.YtbnfjjjdnbcehaaGreatDoor
open Go.RowKit
set_option maxRecDepth 100000

/-- Can right patches be done, one behind the other, if there is room? -/
def okRow : List Pr → Fm → Prop
  | [], _ => True
  | p :: ps, f => (rightP p = true ∧ okF p f) ∧ okRow ps (effF p f)

def effRow : List Pr → Fm → Fm
  | [], f => f
  | p :: ps, f => effRow ps (effF p f)

theorem okRow_append : ∀ (a b : List Pr) (f : Fm), okRow (a ++ b) f ↔ okRow a f ∧ okRow b (effRow a f)
  | [], b, f => by simp [okRow, effRow]
  | p :: a, b, f => by
    rw [List.cons_append, okRow, okRow, effRow, okRow_append a b (effF p f)]
    exact ⟨fun h => ⟨⟨h.1, h.2.1⟩, h.2.2⟩, fun h => ⟨h.1.1, h.1.2, h.2⟩⟩

theorem effRow_append : ∀ (a b : List Pr) (f : Fm), effRow (a ++ b) f = effRow b (effRow a f)
  | [], _, _ => rfl
  | p :: a, b, f => by rw [List.cons_append, effRow, effRow, effRow_append a b (effF p f)]

/-- Does a row do what another one does? -/
def RowAs (x y : List Pr) : Prop := ∀ f, okRow y f → okRow x f ∧ effRow x f = effRow y f

theorem RowAs.refl (x : List Pr) : RowAs x x := fun _ h => ⟨h, rfl⟩

theorem RowAs.trans {x y z : List Pr} (h : RowAs x y) (k : RowAs y z) : RowAs x z := fun f o => by
  obtain ⟨k1, k2⟩ := k f o
  obtain ⟨h1, h2⟩ := h f k1
  exact ⟨h1, h2.trans k2⟩

theorem RowAs.app {x y a b : List Pr} (h : RowAs x y) (k : RowAs a b) : RowAs (x ++ a) (y ++ b) := fun f o => by
  obtain ⟨o1, o2⟩ := (okRow_append y b f).1 o
  obtain ⟨h1, h2⟩ := h f o1
  obtain ⟨k1, k2⟩ := k _ o2
  refine ⟨(okRow_append x a f).2 ⟨h1, by rw [h2]; exact k1⟩, ?_⟩
  rw [effRow_append, effRow_append, h2, k2]

end Go.Proofs.YtbnfjjjdnbcehaaGreatDoor

namespace Go.Proofs.YtbnfjjjdnbcehaaGreatDoor
open Go.RowKit
set_option maxRecDepth 100000

end Go.Proofs.YtbnfjjjdnbcehaaGreatDoor

namespace Go.Proofs.YtbnfjjjdnbcehaaGreatDoor
open Go.RowKit
set_option maxRecDepth 100000

end Go.Proofs.YtbnfjjjdnbcehaaGreatDoor

namespace Go.Proofs.YtbnfjjjdnbcehaaGreatDoor
open Go.RowKit Go.Maps Go.WideMaps
set_option maxRecDepth 100000

/-- A row of one patch. -/
theorem OwnP.one {w w1 : World} {p : Pr} {vo vn : Value} (hw : w.alloc (.cells #[.int .i64 p.kind, .string p.path, .string p.dst, .string p.src, .int .i64 p.pos, vo, vn] 43) = w1) (h1 : StrsAt w vo p.old) (h2 : StrsAt w vn p.new) : OwnP w.heap.size w1 (.slice (some ⟨w.heap.size, 0, none⟩) 1 1) [p] [(vo, vn)] := by
  have f : Fr None' w w1 := hw ▸ Fr.alloc None' w _
  refine ⟨rfl, ⟨rfl, Or.inr ⟨w.heap.size, 1, #[.int .i64 p.kind, .string p.path, .string p.dst, .string p.src, .int .i64 p.pos, vo, vn], rfl, Nat.le_refl _, hw ▸ heap_alloc_new w _, Nat.le_refl _, by decide, rfl, rfl⟩⟩, fun k x u e1 e2 => ?_⟩
  have hk : k = 0 := by
    have := (List.getElem?_eq_some_iff.1 e1).1
    simpa using this
  subst hk
  simp at e1 e2
  subst e1 e2
  exact ⟨h1.kept f, h2.kept f, fun hl j e e' => by have := h1.lt hl e; have h : w.heap.size = j := Option.some.inj e'; omega, fun hl j e e' => by have := h2.lt hl e; have h : w.heap.size = j := Option.some.inj e'; omega⟩

end Go.Proofs.YtbnfjjjdnbcehaaGreatDoor

namespace Go.Proofs.YtbnfjjjdnbcehaaGreatDoor
open Go.RowKit
set_option maxRecDepth 100000

end Go.Proofs.YtbnfjjjdnbcehaaGreatDoor

namespace Go.Proofs.YtbnfjjjdnbcehaaGreatDoor
open Go.RowKit Go.Maps Go.WideMaps
set_option maxRecDepth 100000

theorem OwnP.max {base : Nat} {w : World} {pv : Option Addr} {n c : Nat} {L : List Pr} {V : List (Value × Value)} (h : OwnP base w (.slice pv n c) L V) : c ≤ 9223372036854775807 := by
  rcases h.row.2 with ⟨hv, _⟩ | ⟨g, cap, cur, hv, _, _, _, hm, _⟩
  · cases hv; decide
  · cases hv; exact Nat.le_trans hm (by decide)

end Go.Proofs.YtbnfjjjdnbcehaaGreatDoor

namespace Go.Proofs.YtbnfjjjdnbcehaaGreatDoor
open Go.RowKit
set_option maxRecDepth 100000

/-- How many lines come with patches. -/
def newS (ps : List Pr) : Nat := (ps.map (fun p => p.new.length)).sum

theorem newTo_all (ps : List Pr) : newTo ps ps.length = newS ps := by
  unfold newTo newS
  rw [List.take_length]

theorem newS_append (a b : List Pr) : newS (a ++ b) = newS a + newS b := by simp [newS]

/-! ## How many -/

def linS (L : List En) : Nat := (L.map (fun x => x.lines.length)).sum

def bothS (ps : List Pr) : Nat := (ps.map (fun p => p.old.length + p.new.length)).sum

theorem bothS_append (a b : List Pr) : bothS (a ++ b) = bothS a + bothS b := by simp [bothS]

theorem new_both (ps : List Pr) : newS ps ≤ bothS ps ∧ (ps.map (fun p => p.old.length)).sum ≤ bothS ps := by
  induction ps with
  | nil => exact ⟨Nat.le_refl _, Nat.le_refl _⟩
  | cons p ps ih =>
    simp only [newS, bothS, List.map_cons, List.sum_cons] at ih ⊢
    omega

theorem diffs_count (a b : List ByteArray) : (Diff.diffs a b).length ≤ a.length + b.length ∧ bothS ((Diff.diffs a b).map (hunkP ⟨#[]⟩)) ≤ a.length + b.length := by
  have h1 := Diff.diffs_cost a b
  have h2 := Diff.diffs_spread a b
  have key : ∀ (H : List (Diff.Hk ByteArray)) (last : Int), Diff.Spread last H → H.length ≤ Diff.cost H ∧ bothS (H.map (hunkP ⟨#[]⟩)) = Diff.cost H := fun H => by
    induction H with
    | nil => intro _ _; exact ⟨Nat.le_refl _, rfl⟩
    | cons h H ih =>
      intro last hs
      obtain ⟨i1, i2⟩ := ih _ hs.2.2
      have h0 := hs.1
      rw [Diff.cost_cons]
      simp only [bothS, hunkP, List.map_cons, List.sum_cons, List.length_cons] at i1 i2 ⊢
      omega
  obtain ⟨k1, k2⟩ := key _ _ h2
  omega

theorem both_hunks (p : ByteArray) (H : List (Diff.Hk ByteArray)) : bothS (H.map (hunkP p)) = bothS (H.map (hunkP ⟨#[]⟩)) := by
  unfold bothS
  rw [List.map_map, List.map_map]
  rfl

theorem chg_count (p : ByteArray) (f t : En) : (chgL p f t).length ≤ f.lines.length + t.lines.length + 1 ∧ bothS (chgL p f t) ≤ f.lines.length + t.lines.length := by
  obtain ⟨h1, h2⟩ := diffs_count f.lines t.lines
  unfold chgL
  rw [bothS_append, both_hunks, List.length_append, List.length_map]
  split
  · exact ⟨by simp; omega, by simpa [bothS] using h2⟩
  · exact ⟨by simp; omega, by simpa [bothS, dataP] using h2⟩

theorem gos_count (b : List En) : ∀ s : List En, (s.flatMap (goL b)).length ≤ linS s + 2 * s.length ∧ bothS (s.flatMap (goL b)) ≤ linS s
  | [] => ⟨Nat.le_refl _, Nat.le_refl _⟩
  | x :: s => by
    obtain ⟨h1, h2⟩ := gos_count b s
    have h3 : (goL b x).length ≤ x.lines.length + 2 ∧ bothS (goL b x) ≤ x.lines.length := by
      unfold goL
      split
      · exact ⟨Nat.zero_le _, Nat.zero_le _⟩
      · obtain ⟨k1, k2⟩ := chg_count x.path x noneE
        have h0 : noneE.lines.length = 0 := rfl
        rw [List.length_append, bothS_append]
        have h5 : bothS [pathP (2 * x.kind) x.path] = 0 := rfl
        have h6 : [pathP (2 * x.kind) x.path].length = 1 := rfl
        omega
    rw [List.flatMap_cons, List.length_append, bothS_append]
    simp only [linS, List.map_cons, List.sum_cons, List.length_cons] at h1 h2 ⊢
    omega

theorem comes_count (a : List En) : ∀ s : List En, (s.flatMap (comeL a)).length ≤ linS s + linS (wasL a s) + 2 * s.length ∧ bothS (s.flatMap (comeL a)) ≤ linS s + linS (wasL a s)
  | [] => ⟨Nat.le_refl _, Nat.le_refl _⟩
  | x :: s => by
    obtain ⟨h1, h2⟩ := comes_count a s
    have h3 : (comeL a x).length ≤ x.lines.length + linS (likeE a x).toList + 2 ∧ bothS (comeL a x) ≤ x.lines.length + linS (likeE a x).toList := by
      unfold comeL
      cases hl : likeE a x with
      | some y =>
        obtain ⟨k1, k2⟩ := chg_count x.path y x
        simp only [Option.toList, linS, List.map_cons, List.map_nil, List.sum_cons, List.sum_nil] at k1 k2 ⊢
        omega
      | none =>
        obtain ⟨k1, k2⟩ := chg_count x.path noneE x
        have h0 : noneE.lines.length = 0 := rfl
        simp only [Option.toList, linS, List.map_nil, List.sum_nil, List.length_cons, bothS, List.map_cons, List.sum_cons] at k1 k2 ⊢
        have h5 : (pathP (2 * x.kind - 1) x.path).old.length = 0 := rfl
        have h6 : (pathP (2 * x.kind - 1) x.path).new.length = 0 := rfl
        omega
    have h4 : linS (wasL a (x :: s)) = linS (likeE a x).toList + linS (wasL a s) := by
      unfold wasL
      rw [List.filterMap_cons]
      cases likeE a x <;> simp [linS]
    rw [List.flatMap_cons, List.length_append, bothS_append, h4]
    simp only [linS, List.map_cons, List.sum_cons, List.length_cons] at h1 h2 h3 ⊢
    omega

theorem linS_filter (f : En → Bool) : ∀ L : List En, linS (L.filter f) ≤ linS L
  | [] => Nat.le_refl _
  | x :: L => by
    have ih := linS_filter f L
    rw [List.filter_cons]
    split <;> simp only [linS, List.map_cons, List.sum_cons] at ih ⊢ <;> omega

theorem lin_weight : ∀ L : List En, linS L + 5 * L.length ≤ weight L
  | [] => Nat.le_refl _
  | x :: L => by
    have ih := lin_weight L
    unfold weight at ih ⊢
    simp only [linS, List.map_cons, List.sum_cons, List.length_cons] at ih ⊢
    unfold En.weight at *
    omega

theorem linS_reverse (L : List En) : linS L.reverse = linS L := by
  unfold linS
  rw [List.map_reverse, List.sum_reverse]

theorem rec_count {a b : List En} (ha : TreeR a) (hb : TreeR b) (wa : weight a < 4000) (wb : weight b < 4000) : (recL a b).length ≤ 20000 ∧ bothS (recL a b) ≤ 12000 := by
  obtain ⟨h1, h2⟩ := gos_count b a.reverse
  obtain ⟨h3, h4⟩ := comes_count a b
  rw [← was_kept ha hb] at h3 h4
  have h5 := linS_filter (keptB b) a
  have h6 := lin_weight a
  have h7 := lin_weight b
  rw [linS_reverse] at h1 h2
  rw [List.length_reverse] at h1
  unfold recL
  rw [List.length_append, bothS_append]
  omega

/-! ## How great each is -/

theorem chg_sm {p : ByteArray} {f t : En} (hp : p.size ≤ 4000) (hf : f.lines.length ≤ 4000 ∧ f.data.size ≤ 4000 ∧ ∀ y ∈ f.lines, y.size ≤ 4000) (ht : t.lines.length ≤ 4000 ∧ t.data.size ≤ 4000 ∧ ∀ y ∈ t.lines, y.size ≤ 4000) : ∀ q ∈ chgL p f t, SmPr q := fun q hq => by
  rcases chg_mem hq with ⟨h, hh, rfl⟩ | ⟨_, rfl⟩
  · obtain ⟨h1, h2, h3, h4⟩ := diffs_of hh
    exact ⟨hp, Nat.zero_le _, Nat.zero_le _, by show h.o.length ≤ 4000; omega, by show h.n.length ≤ 4000; omega, fun y hy => ht.2.2 y (h2 y hy), fun y hy => hf.2.2 y (h1 y hy)⟩
  · exact ⟨hp, ht.2.1, hf.2.1, Nat.zero_le _, Nat.zero_le _, (fun y hy => by cases hy), (fun y hy => by cases hy)⟩

theorem path_sm (k : Int) {p : ByteArray} (hp : p.size ≤ 4000) : SmPr (pathP k p) := ⟨hp, Nat.zero_le _, Nat.zero_le _, Nat.zero_le _, Nat.zero_le _, (fun y hy => by cases hy), (fun y hy => by cases hy)⟩

theorem mem_sum_le : ∀ {l : List Nat} {n : Nat}, n ∈ l → n ≤ l.sum
  | x :: l, n, h => by
    rcases List.mem_cons.1 h with rfl | h
    · simp
    · have := mem_sum_le h
      simp
      omega

theorem en_sm {L : List En} (hw : weight L < 4000) {x : En} (hx : x ∈ L) : x.path.size ≤ 4000 ∧ x.lines.length ≤ 4000 ∧ x.data.size ≤ 4000 ∧ ∀ y ∈ x.lines, y.size ≤ 4000 := by
  have h1 := weight_mem hx
  unfold En.weight at h1
  refine ⟨by omega, by omega, by omega, fun y hy => ?_⟩
  have := mem_sum_le (List.mem_map.2 ⟨y, hy, rfl⟩ : y.size ∈ x.lines.map (·.size))
  omega

theorem none_sm : noneE.lines.length ≤ 4000 ∧ noneE.data.size ≤ 4000 ∧ ∀ y ∈ noneE.lines, y.size ≤ 4000 := ⟨Nat.zero_le _, Nat.zero_le _, fun y hy => by cases hy⟩

theorem rec_sm {a b : List En} (wa : weight a < 4000) (wb : weight b < 4000) : ∀ p ∈ recL a b, SmPr p := fun p hp => by
  unfold recL at hp
  rcases List.mem_append.1 hp with hp | hp
  · obtain ⟨x, hx, hm⟩ := List.mem_flatMap.1 hp
    obtain ⟨h1, h2⟩ := en_sm wa (List.mem_reverse.1 hx)
    unfold goL at hm
    split at hm
    · cases hm
    · rcases List.mem_append.1 hm with hm | hm
      · exact chg_sm h1 h2 none_sm p hm
      · rw [List.mem_singleton] at hm
        rw [hm]
        exact path_sm _ h1
  · obtain ⟨x, hx, hm⟩ := List.mem_flatMap.1 hp
    obtain ⟨h1, h2⟩ := en_sm wb hx
    unfold comeL at hm
    cases hl : likeE a x with
    | some y =>
      rw [hl] at hm
      exact chg_sm h1 (en_sm wa (like_some hl).1).2 h2 p hm
    | none =>
      rw [hl] at hm
      rcases List.mem_cons.1 hm with hm | hm
      · rw [hm]
        exact path_sm _ h1
      · exact chg_sm h1 none_sm h2 p hm

end Go.Proofs.YtbnfjjjdnbcehaaGreatDoor

namespace Go.Proofs.YtbnfjjjdnbcehaaGreatDoor
open Go.RowKit Go.Maps Go.WideMaps
set_option maxRecDepth 100000

theorem nilS8 (w : World) : StrsAt w (.slice none 0 0) [] := ⟨none, 0, rfl, fun _ => rfl, Nat.le_refl _, Lines.Row.nil _ _⟩

theorem row_one8 (w : World) (x : ByteArray) {b : Nat} (hb : w.heap.size = b) : Lines.Row (w.alloc (.cells #[.string x] 9)) (some ⟨b, 0, none⟩) [x] := fun j y hj => by
  subst hb
  have h0 : j = 0 := by have := (List.getElem?_eq_some_iff.1 hj).1; simp at this; omega
  subst h0
  have : x = y := by simpa using hj
  subst this
  exact ⟨_, 0, rfl, by rw [World.cell?, heap_alloc_new]; rfl⟩

theorem row_two8 (w : World) (x z : ByteArray) {b : Nat} (hb : w.heap.size = b) : Lines.Row (w.alloc (.cells #[.string x, .string z] 9)) (some ⟨b, 0, none⟩) [x, z] := fun j y hj => by
  subst hb
  have h0 : j < 2 := by have := (List.getElem?_eq_some_iff.1 hj).1; simpa using this
  have h1 : j = 0 ∨ j = 1 := by omega
  rcases h1 with rfl | rfl
  · have : x = y := by simpa using hj
    subst this
    exact ⟨_, 0, rfl, by rw [World.cell?, heap_alloc_new]; rfl⟩
  · have : z = y := by simpa using hj
    subst this
    exact ⟨_, 0, rfl, by rw [World.cell?, heap_alloc_new]; rfl⟩

end Go.Proofs.YtbnfjjjdnbcehaaGreatDoor

namespace Go.Proofs.YtbnfjjjdnbcehaaGreatDoor
open Go.RowKit Go.Maps Go.WideMaps
set_option maxRecDepth 100000

/-- Two rows, one behind the other, as one. -/
theorem join_two {w : World} {va vb : Option Addr} {n c m d s : Nat} {A B : List Pr} (hA : PrsAt w va A) (ln : A.length = n) (hc : va = none → c = 0) (hB : PrsAt w vb B) (lm : B.length = m) (hd : vb = none → d = 0) (hs : n + m = s) (hs9 : s ≤ 90000) :
    ∃ (p1 : Option Addr) (c1 : Nat) (w1 : World) (p2 : Option Addr) (c2 : Nat) (w2 : World), (Builtin.append_ #[22, 22] 22 #[.slice (some ⟨w.heap.size, 0, none⟩) 0 0, .slice va n c]).run Tryz.prog (w.alloc (.cells #[] 43)) = .ok (.slice p1 n c1) w1 ∧ (Builtin.append_ #[22, 22] 22 #[.slice p1 n c1, .slice vb m d]).run Tryz.prog w1 = .ok (.slice p2 s c2) w2 ∧ PrsAt w2 p2 (A ++ B) ∧ (p2 = none → c2 = 0) ∧ s ≤ c2 ∧ c2 ≤ 9223372036854775807 ∧ Fr None' w w2 := by
  have F0 : Fr None' w (w.alloc (.cells #[] 43)) := Fr.alloc None' w _
  have O0 : OwnP w.heap.size (w.alloc (.cells #[] 43)) (.slice (some ⟨w.heap.size, 0, none⟩) 0 0) [] [] := OwnP.empty (Nat.le_refl _)
  obtain ⟨v1, U1, w1, r1, O1, f1⟩ := O0.addAll hA ln hc F0 (Nat.le_refl _) F0.size (by simp; omega)
  have F1 : Fr None' w w1 := F0.trans f1 (fun i e => Or.inr (O0.ge e).1)
  obtain ⟨p1, c1, rfl, _⟩ := O1.slice
  have e1 : ([] ++ A).length = n := by simpa using ln
  obtain ⟨v2, U2, w2, r2, O2, f2⟩ := O1.addAll hB lm hd F1 (Nat.le_refl _) F1.size (by rw [e1]; omega)
  have F2 : Fr None' w w2 := F1.trans f2 (fun i e => Or.inr (O1.ge e).1)
  obtain ⟨p2, c2, rfl, l2, n2, P2⟩ := O2.slice
  have e2 : ([] ++ A ++ B).length = s := by simp; omega
  rw [e1] at r1 r2
  rw [e2] at r2 l2
  exact ⟨p1, c1, w1, p2, c2, w2, r1, r2, by simpa using P2, n2, l2, O2.max, F2⟩

end Go.Proofs.YtbnfjjjdnbcehaaGreatDoor
