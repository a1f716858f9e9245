/- What is proved here: contracts for RecordMakes. Conditions: as named. -/
import Derived.Test.YtbnfjjjdnbcehaaGreatDoorX8Strs9
import Derived.Deep.AppendLies
import Derived.Maps.AppendAt
import Derived.Test.YtbnfjjjdnbcehaaGreatDoorX1FPlain
import Derived.Laws.ResultCell
import Derived.Laws.OwnMore
set_option maxHeartbeats 16000000
namespace Go.Proofs.YtbnfjjjdnbcehaaGreatDoor
open Go.RowKit
set_option maxRecDepth 100000
def delE (L : List En) (p : List UInt8) : List En := L.filter (fun x => !(bl x.path == p))
def putE (L : List En) (x : En) : List En := insE x (delE L (bl x.path))
theorem mem_delE {L : List En} {p : List UInt8} {y : En} : y ∈ delE L p ↔ y ∈ L ∧ bl y.path ≠ p := by simp [delE]
theorem mem_insE {x y : En} {L : List En} : y ∈ insE x L ↔ y = x ∨ y ∈ L := by
 rw [(insE_perm x L).mem_iff, List.mem_cons]
theorem Zg {L : List En} {x y : En} : y ∈ putE L x ↔ y = x ∨ (y ∈ L ∧ bl y.path ≠ bl x.path) := by
 unfold putE; rw [mem_insE, mem_delE]
theorem strict_delE {L : List En} (h : Zp L) (p : List UInt8) : Zp (delE L p) := List.Pairwise.filter _ h
theorem lt_or {a b : List UInt8} (h : a ≠ b) : a < b ∨ b < a := by
 rcases Classical.em (a < b) with h1 | h1
 ·exact Or.inl h1
 ·rcases Classical.em (b < a) with h2 | h2
  ·exact Or.inr h2
  ·exact absurd (List.le_antisymm (List.not_lt.1 h2) (List.not_lt.1 h1)) h
theorem strict_insE {x : En} : ∀ {L : List En}, Zp L → (∀ y ∈ L, bl y.path ≠ bl x.path) → Zp (insE x L)
 | [], _, _ => List.pairwise_singleton ..
 | y :: r, h, hn => by
  obtain ⟨h1, h2⟩ := List.pairwise_cons.1 h
  rw [insE]
  split
  ·rename_i hxy
   refine List.pairwise_cons.2 ⟨fun z hz => ?_, h⟩
   rcases List.mem_cons.1 hz with rfl | hz
   ·exact hxy
   ·exact List.lt_trans hxy (h1 z hz)
  ·rename_i hxy
   refine List.pairwise_cons.2 ⟨fun z hz => ?_, strict_insE h2 (fun z hz => hn z (List.mem_cons_of_mem _ hz))⟩
   rcases mem_insE.1 hz with rfl | hz
   ·exact (lt_or (hn y (List.mem_cons_self ..))).resolve_right hxy
   ·exact h1 z hz
theorem Zf {L : List En} (h : Zp L) (x : En) : Zp (putE L x) := strict_insE (strict_delE h _) (fun _ hy => (mem_delE.1 hy).2)
theorem strict_nodup {L : List En} (h : Zp L) : L.Nodup := h.imp (fun h e => by subst e; exact List.lt_irrefl _ h)
theorem Yz {A B : List En} (hA : Zp A) (hB : Zp B) (h : ∀ x, x ∈ A ↔ x ∈ B) : A = B :=
 weak_unique ((List.perm_ext_iff_of_nodup (strict_nodup hA) (strict_nodup hB)).2 h) hA (hB.imp (fun h e => List.lt_irrefl _ (List.lt_trans h e)))
theorem find_none {L : List En} {p : List UInt8} (h : Zt L p = none) : ∀ y ∈ L, bl y.path ≠ p := fun y hy e => by
 have := List.find?_eq_none.1 h y hy
 simp [e] at this
theorem find_no {L : List En} {p : List UInt8} (h : ∀ y ∈ L, bl y.path ≠ p) : Zt L p = none := by
 unfold Zt
 rw [List.find?_eq_none]
 intro y hy
 simpa using h y hy
theorem find_is {L : List En} (h : Zp L) {p : List UInt8} {d : En} (hd : d ∈ L) (e : bl d.path = p) : Zt L p = some d := e ▸ find_of_mem h hd
theorem len_delE {L : List En} (h : Zp L) {x : En} (hx : x ∈ L) : (delE L (bl x.path)).length + 1 = L.length := by
 have e : insE x (delE L (bl x.path)) = L := Yz (Zf h x) h (fun y => by
  rw [mem_insE, mem_delE]
  constructor
  ·rintro (rfl | ⟨h1, _⟩)
   ·exact hx
   ·exact h1
  ·intro hy
   by_cases e : bl y.path = bl x.path
   ·exact Or.inl (strict_inj h hy hx e)
   ·exact Or.inr ⟨hy, e⟩)
 have := (insE_perm x (delE L (bl x.path))).length_eq
 rw [e] at this
 simp at this
 omega
theorem del_none {L : List En} {p : List UInt8} (h : Zt L p = none) : delE L p = L := by
 unfold delE
 rw [List.filter_eq_self]
 intro y hy
 simpa using find_none h y hy
theorem len_putE_new {L : List En} {x : En} (h : Zt L (bl x.path) = none) : (putE L x).length = L.length + 1 := by
 unfold putE
 rw [del_none h, (insE_perm x L).length_eq]
 rfl
def hasE (L : List En) (p : List UInt8) (k : Int) : Int := match Zt L p with
 | none => 72
 | some x => if x.kind = k then 0 else 73
def freeE (L : List En) (p : List UInt8) : Int := match Zt L p with
 | some _ => 71
 | none => match Path.parent p with
  | none => 0
  | some q => hasE L q 1
def inE (L : List En) (p : List UInt8) : List En := L.filter (fun x => Path.within (bl x.path) p)
def emptyE (L : List En) (p : List UInt8) : Bool := match Zt L p with
 | none => false
 | some x => decide (x.lines.length = 0) && decide (x.data = ⟨#[]⟩) && decide ((inE L p).length = 1)
def hunkL (l : List ByteArray) (x : Int) (o n : List ByteArray) : Option (List ByteArray) := if 0 ≤ x ∧ x.toNat ≤ l.length ∧ (l.drop x.toNat).take o.length = o then some (l.take x.toNat ++ n ++ l.drop (x.toNat + o.length)) else none
def tokensL (l : List ByteArray) (f t : ByteArray) : Option (List ByteArray) := if l.any (fun y => decide (bl t ∈ Lines.pieces (bl y))) then none else some (l.map (fun y => ⟨(Lines.replace (bl y) (bl f) (bl t)).toArray⟩))
def Zb (x : En) (p : Pr) : Option En :=
 if p.kind = 7 then (hunkL x.lines p.pos p.old p.new).map (fun l => { x with lines := l })
 else if p.kind = 8 then (tokensL x.lines p.src p.dst).map (fun l => { x with lines := l })
 else if x.data = p.src then some { x with data := p.dst } else none
def mvE (p q : List UInt8) (x : En) : En := { x with path := ⟨(Path.moved (bl x.path) p q).toArray⟩ }
def moveL (L : List En) (W : List En) (p q : List UInt8) : List En := (W.map (mvE p q)).foldl putE (W.foldl (fun M x => delE M (bl x.path)) L)
def moveE (L : List En) (p q : List UInt8) : List En × Int :=
 if Zt L p = none then (L, 72) else if freeE L q ≠ 0 then (L, freeE L q) else if (inE L p).all (fun x => Path.right (bl (mvE p q x).path)) then (moveL L (inE L p) p q, 0) else (L, 41)
def actE (L : List En) (p : Pr) : List En × Int :=
 if p.kind = 1 ∨ p.kind = 3 ∨ p.kind = 5 then (if freeE L (bl p.path) ≠ 0 then (L, freeE L (bl p.path)) else if 1024 ≤ L.length then (L, 2) else (putE L ⟨p.path, (p.kind + 1) / 2, [], ⟨#[]⟩⟩, 0))
 else if p.kind = 2 ∨ p.kind = 4 ∨ p.kind = 6 then (if hasE L (bl p.path) (p.kind / 2) ≠ 0 then (L, hasE L (bl p.path) (p.kind / 2)) else if emptyE L (bl p.path) then (delE L (bl p.path), 0) else (L, 81))
 else if p.kind = 10 then moveE L (bl p.path) (bl p.dst)
 else if hasE L (bl p.path) (if p.kind = 9 then 3 else 2) ≠ 0 then (L, hasE L (bl p.path) (if p.kind = 9 then 3 else 2))
 else match Zt L (bl p.path) with
  | none => (L, 72)
  | some x => match Zb x p with
   | none => (L, 81)
   | some y => (putE L y, 0)
def doE (L : List En) (p : Pr) : List En × Int := if Zv p then actE L p else (L, 1)
def runE : List En → List Pr → Nat → List En × Int × Nat
 | L, [], _ => (L, 0, 0)
 | L, p :: ps, k => if (doE L p).2 = 0 then runE (doE L p).1 ps (k + 1) else ([], (doE L p).2, k)
def allE (L : List En) (ps : List Pr) : List En × Int × Nat := if Zw L then runE L ps 0 else ([], 1, 0)
end Go.Proofs.YtbnfjjjdnbcehaaGreatDoor
namespace Go.Proofs.YtbnfjjjdnbcehaaGreatDoor
open Go.RowKit Go.Maps Go.WideMaps
set_option maxRecDepth 100000
theorem keyS (s : ByteArray) (h : s.size ≤ maxLen) : keyOf Tryz.prog 9 (.string s) = some (.string (bl s)) := keyOf_string_mk Tryz.underlying9 h
structure Th where
 x : En
 u : Option Addr × Nat × Nat
def Th.k (t : Th) : List UInt8 := bl t.x.path
def Th.sl (t : Th) : Value := .slice t.u.1 t.u.2.1 t.u.2.2
def Th.v (t : Th) : Value := .agg #[.string t.x.path, .int .i64 t.x.kind, t.sl, .string t.x.data]
def ent8 (t : Th) : Lit × DataW Value := (.string t.k, .held t.v)
def toT (T : List Th) : DataW Value := .map (T.map ent8)
def ins8 (x : Th) : List Th → List Th
 | [] => [x]
 | y :: r => if Lit.before (.string x.k) (.string y.k) then x :: y :: r else y :: ins8 x r
def del8 (T : List Th) (k : List UInt8) : List Th := T.filter (fun t => !(t.k == k))
def put8 (T : List Th) (x : Th) : List Th := ins8 x (del8 T x.k)
def get8 (T : List Th) (k : List UInt8) : Option Th := T.find? (fun t => t.k == k)
abbrev Cs := ByteArray × Int × (Option Addr × Nat × Nat) × ByteArray
def csV (c : Cs) : Value := .agg #[.string c.1, .int .i64 c.2.1, .slice c.2.2.1.1 c.2.2.1.2.1 c.2.2.1.2.2, .string c.2.2.2]
open Classical in
noncomputable def heldE (v : Value) : Option (DataW Value × List MemPlace) := if ∃ c, v = csV c then some (.held v, []) else none
theorem heldE_mk (c : Cs) : heldE (csV c) = some (.held (csV c), []) := by
 unfold heldE
 rw [if_pos ⟨c, rfl⟩]
theorem heldE_inv {v : Value} {y : DataW Value × List MemPlace} (h : heldE v = some y) : ∃ c : Cs, v = csV c := by
 unfold heldE at h
 split at h
 ·rename_i hc; exact hc
 ·cases h
theorem heldE_eq {v : Value} {d : DataW Value} {ps : List MemPlace} (h : heldE v = some (d, ps)) : d = .held v := by
 unfold heldE at h
 split at h
 ·cases h; rfl
 ·cases h
theorem heldE_th (t : Th) : heldE t.v = some (.held t.v, []) := heldE_mk (t.x.path, t.x.kind, t.u, t.x.data)
theorem ent_insert8 (x : Th) : ∀ T : List Th, (ins8 x T).map ent8 = DataW.insert (ent8 x) (T.map ent8)
 | [] => rfl
 | y :: r => by
  simp only [ins8, List.map_cons, DataW.insert]
  have e : (ent8 x).1.before (ent8 y).1 = Lit.before (.string x.k) (.string y.k) := rfl
  rw [e]
  split
  ·rfl
  ·simp [ent_insert8 x r]
theorem ent_filter8 (T : List Th) (k : List UInt8) : (del8 T k).map ent8 = (T.map ent8).filter (fun p => !p.1.sameKey (.string k)) := by
 unfold del8
 rw [List.filter_map]
 rfl
theorem toT_del (T : List Th) (k : List UInt8) : (toT T).del (.string k) = toT (del8 T k) := by
 unfold toT
 rw [ent_filter8]
 rfl
theorem toT_put (T : List Th) (x : Th) : (toT T).put (.string x.k) (.held x.v) = toT (put8 T x) := by
 unfold toT put8
 rw [ent_insert8, ent_filter8]
 rfl
theorem has_toT (T : List Th) (k : List UInt8) : Maps.has (toT T) (.string k) = (get8 T k).isSome := by
 unfold toT get8
 rw [Maps.has_eq, List.any_map]
 have e : ((fun p : Lit × DataW Value => p.fst.sameKey (Lit.string k)) ∘ ent8) = fun t : Th => t.k == k := rfl
 rw [e]
 induction T with
 | nil => rfl
 | cons x r ih =>
  rw [List.any_cons, List.find?_cons]
  cases hx : (x.k == k)
  ·simpa using ih
  ·simp
theorem find_map8 {α β : Type} (f : α → β) (p : β → Bool) : ∀ l : List α, (l.map f).find? p = (l.find? (fun x => p (f x))).map f
 | [] => rfl
 | x :: r => by
  simp only [List.map_cons, List.find?_cons]
  cases p (f x) <;> simp [find_map8 f p r]
theorem atKey_toT (T : List Th) (k : List UInt8) (z : DataW Value) : (toT T).atKey (.string k) z = (match get8 T k with | some t => .held t.v | none => z) := by
 unfold toT DataW.atKey get8
 simp only
 rw [find_map8]
 have e : (fun x => (ent8 x).1.sameKey (.string k)) = fun t : Th => t.k == k := rfl
 rw [e]
 cases T.find? (fun t => t.k == k) <;> rfl
theorem size_toT (T : List Th) : Maps.size (toT T) = T.length := by simp [toT, Maps.size]
theorem get8_mem {T : List Th} {k : List UInt8} {t : Th} (h : get8 T k = some t) : t ∈ T ∧ t.k = k := by
 refine ⟨List.mem_of_find?_eq_some h, ?_⟩
 have := List.find?_some h
 simpa using this
theorem mem_ins8 {x y : Th} : ∀ {T : List Th}, y ∈ ins8 x T ↔ y = x ∨ y ∈ T
 | [] => by simp [ins8]
 | z :: r => by
  unfold ins8
  split
  ·simp
  ·simp only [List.mem_cons, mem_ins8 (T := r)]
   constructor
   ·rintro (h | h | h)
    ·exact Or.inr (Or.inl h)
    ·exact Or.inl h
    ·exact Or.inr (Or.inr h)
   ·rintro (h | h | h)
    ·exact Or.inr (Or.inl h)
    ·exact Or.inl h
    ·exact Or.inr (Or.inr h)
theorem mem_del8 {T : List Th} {k : List UInt8} {y : Th} : y ∈ del8 T k ↔ y ∈ T ∧ y.k ≠ k := by simp [del8]
theorem mem_put8 {T : List Th} {x y : Th} : y ∈ put8 T x ↔ y = x ∨ (y ∈ T ∧ y.k ≠ x.k) := by
 unfold put8; rw [mem_ins8, mem_del8]
theorem before_lt : ∀ (a b : List UInt8), bytesBefore a b = true ↔ a < b
 | [], [] => by simp [bytesBefore]
 | [], _ :: _ => by simp [bytesBefore]
 | _ :: _, [] => by simp [bytesBefore]
 | a :: x, b :: y => by
  rw [bytesBefore, List.cons_lt_cons_iff, ← before_lt x y]
  simp
def ens (T : List Th) : List En := T.map (·.x)
theorem ens_ins (t : Th) : ∀ T : List Th, ens (ins8 t T) = insE t.x (ens T)
 | [] => rfl
 | y :: r => by
  unfold ens at *
  rw [ins8]
  have e : (Lit.before (.string t.k) (.string y.k) = true) = (bl t.x.path < bl y.x.path) := propext (before_lt _ _)
  simp only [List.map_cons, insE]
  by_cases h : bl t.x.path < bl y.x.path
  ·rw [if_pos (e.symm ▸ h), if_pos h]; rfl
  ·rw [if_neg (e.symm ▸ h), if_neg h]
   simp only [List.map_cons]
   rw [show r.map (·.x) = ens r from rfl, ← ens_ins t r]
   rfl
theorem ens_del (T : List Th) (k : List UInt8) : ens (del8 T k) = delE (ens T) k := by
 unfold ens del8 delE
 rw [List.filter_map]
 rfl
theorem ens_put (T : List Th) (t : Th) : ens (put8 T t) = putE (ens T) t.x := by
 unfold put8 putE
 rw [ens_ins, ens_del]
 rfl
theorem ens_get (T : List Th) (k : List UInt8) : (get8 T k).map (·.x) = Zt (ens T) k := by
 unfold get8 Zt ens
 rw [find_map8]
 congr 2
 funext t
 show (bl t.x.path == k) = decide (bl t.x.path = k)
 by_cases h : bl t.x.path = k <;> simp [h]
theorem ens_in (T : List Th) (p : List UInt8) : ens (T.filter (fun t => Path.within t.k p)) = inE (ens T) p := by
 unfold ens inE
 rw [List.filter_map]
 rfl
structure Yt (w : World) (b n : Nat) (T : List Th) : Prop where
 map : w.ownsMap Tryz.prog 9 heldE b n (toT T)
 str : ∀ t ∈ T, Zy w t.sl t.x.lines
theorem Yt.strict {w : World} {b n : Nat} {T : List Th} (h : Yt w b n T) : Zp (ens T) := by
 obtain ⟨es, e, hp, _⟩ := h.map.canon lawS
 cases e
 unfold Zp ens
 rw [List.pairwise_map] at hp ⊢
 exact hp.imp (fun h => (before_lt _ _).1 h)
theorem Yt.kept {w w' : World} {b n : Nat} {T : List Th} (h : Yt w b n T) (f : Fr None' w w') : Yt w' b n T :=
 ⟨f.map h.map (fun e => e), fun t ht => (h.str t ht).kept f⟩
theorem Yt.mono {w : World} {b n m : Nat} {T : List Th} (h : Yt w b n T) (hm : n ≤ m) : Yt w b m T := ⟨h.map.mono hm, h.str⟩
theorem Zy.notMap {w : World} {v : Value} {l : List ByteArray} {b n : Nat} {T : List Th} (h : Zy w v l) (hm : w.ownsMap Tryz.prog 9 heldE b n (toT T)) (hl : l ≠ []) : ¬ v.ownBlock = some b := fun e => by
 obtain ⟨va, c, rfl, h1, h2, h3⟩ := h
 cases l with
 | nil => exact hl rfl
 | cons x l =>
  obtain ⟨g, o, e', hc⟩ := h3 0 x rfl
  subst e'
  cases e
  obtain ⟨es, cl, hb, _⟩ := hm
  unfold World.cell? at hc
  simp only at hc
  rw [hb] at hc
  cases hc
theorem Zy.turned {w w' : World} {v : Value} {l : List ByteArray} {b n : Nat} {T : List Th} (h : Zy w v l) (hm : w.ownsMap Tryz.prog 9 heldE b n (toT T)) (ht : w.mapTurned w' b) : Zy w' v l :=
 h.far (Fr.turned (M := fun k => k = b) ht rfl) (fun hl _ e e' => h.notMap hm hl (e' ▸ e))
theorem Yt.put {w w' : World} {b n : Nat} {T : List Th} {t : Th} (h : Yt w b n T) (hs : Zy w t.sl t.x.lines) (hown : w'.ownsMap Tryz.prog 9 heldE b (n + 1) ((toT T).put (.string t.k) (.held t.v))) (ht : w.mapTurned w' b) : Yt w' b (n + 1) (put8 T t) := by
 refine ⟨toT_put T t ▸ hown, fun s hs' => ?_⟩
 rcases mem_put8.1 hs' with rfl | ⟨hm, _⟩
 ·exact hs.turned h.map ht
 ·exact (h.str s hm).turned h.map ht
theorem Yt.del {w w' : World} {b n : Nat} {T : List Th} {k : List UInt8} (h : Yt w b n T) (hown : w'.ownsMap Tryz.prog 9 heldE b n ((toT T).del (.string k))) (ht : w.mapTurned w' b) : Yt w' b n (del8 T k) :=
 ⟨toT_del T k ▸ hown, fun s hs' => (h.str s (mem_del8.1 hs').1).turned h.map ht⟩
theorem Yt.start (w : World) : Yt (w.alloc (.map #[] 0)) w.heap.size 0 [] :=
 ⟨World.ownsMap_made _ _ _ _, fun t ht => by cases ht⟩
theorem zeroEn (w : World) : (zeroValue 45).run Tryz.prog w = .ok (.agg #[.string ⟨#[]⟩, .int .i64 0, .slice none 0 0, .string ⟨#[]⟩]) w := by kernel_rfl
def zeroTh : Th := ⟨⟨⟨#[]⟩, 0, [], ⟨#[]⟩⟩, none, 0, 0⟩
theorem Yt.look {w : World} {b n : Nat} {T : List Th} (h : Yt w b n T) (s : ByteArray) (hs : s.size ≤ maxLen) : (Instr.lookup 76 (.map (some b)) (.string s) false).run Tryz.prog w = .ok ((get8 T (bl s)).getD zeroTh).v w := by
 obtain ⟨v, ps, hrun, hv⟩ := h.map.lookup lawS Tryz.underlying76 (zeroEn _) (zd := .held zeroTh.v) (zp := []) (heldE_th zeroTh) (keyS s hs)
 rw [hrun]
 rw [atKey_toT] at hv
 have e := heldE_eq hv
 cases hg : get8 T (bl s) with
 | none => rw [hg] at e; injection e with e; rw [← e]; rfl
 | some t => rw [hg] at e; injection e with e; rw [← e]; rfl
theorem Yt.look_ok {w : World} {b n : Nat} {T : List Th} (h : Yt w b n T) (s : ByteArray) (hs : s.size ≤ maxLen) : (Instr.lookup 76 (.map (some b)) (.string s) true).run Tryz.prog w = .ok (.tuple #[((get8 T (bl s)).getD zeroTh).v, .bool (get8 T (bl s)).isSome]) w := by
 obtain ⟨v, ps, hrun, hv⟩ := h.map.look_ok lawS Tryz.underlying76 (zeroEn _) (zd := .held zeroTh.v) (zp := []) (heldE_th zeroTh) (keyS s hs)
 rw [hrun, has_toT]
 rw [atKey_toT] at hv
 have e := heldE_eq hv
 cases hg : get8 T (bl s) with
 | none => rw [hg] at e; injection e with e; rw [← e]; rfl
 | some t => rw [hg] at e; injection e with e; rw [← e]; rfl
theorem hit8 {T : List Th} {k : List UInt8} {c : Cs} {ps : List MemPlace} {y : DataW Value × List MemPlace} (hv : heldE (csV c) = some y) (hy : y = (y.1, ps)) (hat : ∀ zd, (toT T).atKey (.string k) zd = y.1) : ∃ t, get8 T k = some t ∧ t.v = csV c := by
 have e := heldE_eq (hv.trans (by rw [hy]))
 have h0 := hat .nil
 rw [atKey_toT] at h0
 cases hg : get8 T k with
 | none => rw [hg, e] at h0; simp at h0
 | some t => rw [hg, e] at h0; simp at h0; exact ⟨t, rfl, h0⟩
end Go.Proofs.YtbnfjjjdnbcehaaGreatDoor
namespace Go.Proofs.YtbnfjjjdnbcehaaGreatDoor
open Go.RowKit
set_option maxRecDepth 100000
def ecells : List En → List Value → List Value
 | x :: L, vl :: V => .string x.path :: .int .i64 x.kind :: vl :: .string x.data :: ecells L V
 | _, _ => []
theorem ecells_snoc : ∀ (L : List En) (V : List Value) (x : En) (vl : Value), V.length = L.length → ecells (L ++ [x]) (V ++ [vl]) = ecells L V ++ [.string x.path, .int .i64 x.kind, vl, .string x.data]
 | [], [], x, vl, _ => rfl
 | [], _ :: _, x, vl, e => by cases e
 | y :: L, [], x, vl, e => by cases e
 | y :: L, v :: V, x, vl, e => by
  simp only [List.cons_append, ecells]
  rw [ecells_snoc L V x vl (by simpa using e)]
theorem ecells_get : ∀ (L : List En) (V : List Value) (k : Nat) (x : En) (vl : Value), L[k]? = some x → V[k]? = some vl → (ecells L V)[k * 4]? = some (.string x.path) ∧ (ecells L V)[k * 4 + 1]? = some (.int .i64 x.kind) ∧ (ecells L V)[k * 4 + 2]? = some vl ∧ (ecells L V)[k * 4 + 3]? = some (.string x.data)
 | [], _, k, x, vl, e, _ => by simp at e
 | y :: L, [], k, x, vl, _, e => by simp at e
 | y :: L, v :: V, 0, x, vl, e1, e2 => by
  simp at e1 e2
  subst e1 e2
  exact ⟨rfl, rfl, rfl, rfl⟩
 | y :: L, v :: V, k + 1, x, vl, e1, e2 => by
  have := ecells_get L V k x vl (by simpa using e1) (by simpa using e2)
  simp only [ecells]
  rw [Nat.succ_mul]
  exact this
theorem infoE : (Tryz.prog.info? 45).map (fun i => (i.zero, i.size, i.bytes)) = some (some (.agg #[.string ⟨#[]⟩, .int .i64 0, .slice none 0 0, .string ⟨#[]⟩]), 4, 64) := by kernel_rfl
structure OwnE (base : Nat) (w0 w : World) (v : Value) (L : List En) (V : List Value) : Prop where
 len : V.length = L.length
 row : w.ownsRow base 45 4 v L.length (ecells L V)
 str : ∀ (k : Nat) (x : En) (vl : Value), L[k]? = some x → V[k]? = some vl → Zy w0 vl x.lines
theorem OwnE.nil (base : Nat) (w0 w : World) : OwnE base w0 w (.slice none 0 0) [] [] := ⟨rfl, World.ownsRow_nil w _ _ 4, fun k x vl e => by simp at e⟩
theorem OwnE.fr {base : Nat} {w0 w w' : World} {v : Value} {L : List En} {V : List Value} (h : OwnE base w0 w v L V) {M : Nat → Prop} (f : Fr M w w') (hm : ∀ k, v.ownBlock = some k → ¬ M k) : OwnE base w0 w' v L V := ⟨h.len, f.row h.row hm, h.str⟩
theorem OwnE.kept {base : Nat} {w0 w w' : World} {v : Value} {L : List En} {V : List Value} (h : OwnE base w0 w v L V) (f : Fr None' w w') : OwnE base w0 w' v L V := h.fr f (fun _ _ e => e)
theorem OwnE.slice {base : Nat} {w0 w : World} {v : Value} {L : List En} {V : List Value} (h : OwnE base w0 w v L V) (f : Fr None' w0 w) : ∃ va c, v = .slice va L.length c ∧ L.length ≤ c ∧ (va = none → c = 0) ∧ Z0 w va L ∧ ∀ k, v.ownBlock = some k → base ≤ k ∧ k < w.heap.size := by
 rcases h.row.2 with ⟨hv, e⟩ | ⟨g, cap, cur, hv, hb, hh, hc, _, hs, ht⟩
 ·have e2 : L = [] := List.length_eq_zero_iff.1 e
  subst e2
  exact ⟨none, 0, hv, Nat.le_refl _, fun _ => rfl, fun k x hk => by simp at hk, fun k e => by rw [hv] at e; cases e⟩
 ·refine ⟨_, cap, hv, hc, fun e => by simp at e, fun k x hk => ?_, fun k e => by rw [hv] at e; cases e; exact ⟨hb, (Array.getElem?_eq_some_iff.1 hh).1⟩⟩
  have hkl := (List.getElem?_eq_some_iff.1 hk).1
  obtain ⟨vl, hp⟩ : ∃ vl, V[k]? = some vl := ⟨_, List.getElem?_eq_getElem (by rw [h.len]; exact hkl)⟩
  have hx := ecells_get L V k x vl hk hp
  have hc' : ∀ j u, j < L.length * 4 → (ecells L V)[j]? = some u → w.cell? ⟨g, j, none⟩ = some u := fun j u hj h1 => by
   rw [← ht, List.getElem?_take, if_pos hj] at h1
   rw [World.cell?, hh]
   simpa using h1
  refine ⟨g, 0, rfl, vl, ?_, ?_, ?_, ?_, (h.str k x vl hk hp).kept f⟩
  ·rw [Nat.zero_add]; exact hc' _ _ (by omega) hx.1
  ·rw [Nat.zero_add]; exact hc' _ _ (by omega) hx.2.1
  ·rw [Nat.zero_add]; exact hc' _ _ (by omega) hx.2.2.1
  ·rw [Nat.zero_add]; exact hc' _ _ (by omega) hx.2.2.2
theorem OwnE.append {base : Nat} {w0 w : World} {v : Value} {L : List En} {V : List Value} (h : OwnE base w0 w v L V) {b : Nat} {x : En} {vl : Value} (hb : w.heap[b]? = some (.cells #[.string x.path, .int .i64 x.kind, vl, .string x.data] 45 (0, 0))) (h1 : vl.oneCell' = true) (hs : Zy w0 vl x.lines) (hn : L.length ≤ 100000) (hbase : base ≤ w.heap.size) :
  ∃ g c w', (Builtin.append_ #[32, 32] 32 #[v, .slice (some ⟨b, 0, none⟩) 1 1]).run Tryz.prog w = .ok (.slice (some ⟨g, 0, none⟩) (L.length + 1) c) w' ∧ OwnE base w0 w' (.slice (some ⟨g, 0, none⟩) (L.length + 1) c) (L ++ [x]) (V ++ [vl]) ∧ Fr (fun k => v.ownBlock = some k) w w' ∧ (v.ownBlock = some g ∨ g = w.heap.size) := by
 obtain ⟨i0, hi, hz0, hz1, hz2⟩ := info_parts infoE
 obtain ⟨v', w', hr, h4, h5, _, h6⟩ := run_append_own_at (P := Tryz.prog) w base 32 32 45 i0 _ 4 64 Tryz.underlying32 hi hz0 hz1 hz2 rfl (by decide) v L.length (ecells L V) h.row ⟨b, 0, none⟩ 1 1 [.string x.path, .int .i64 x.kind, vl, .string x.data] rfl (World.news_of_block hb) (fun u hu => by
  simp at hu
  rcases hu with rfl | rfl | rfl | rfl
  ·rfl
  ·rfl
  ·exact h1
  ·rfl) (by unfold maxLen; omega) (by omega) hbase
 rcases h4.2 with ⟨_, e⟩ | ⟨g, cap, cur, hv, _⟩
 ·omega
 ·subst hv
  refine ⟨g, cap, w', hr, ⟨by simp [h.len], by rw [ecells_snoc L V x vl h.len, List.length_append]; exact h4, fun k y vy e1 e2 => ?_⟩, Fr.grown h5 (fun k e => e), ?_⟩
  ·rcases Nat.lt_or_ge k L.length with hk | hk
   ·rw [List.getElem?_append_left hk] at e1
    rw [List.getElem?_append_left (by rw [h.len]; exact hk)] at e2
    exact h.str k y vy e1 e2
   ·rw [List.getElem?_append_right hk] at e1
    rw [List.getElem?_append_right (by rw [h.len]; exact hk), h.len] at e2
    have e0 : k - L.length = 0 := by
     have := (List.getElem?_eq_some_iff.1 e1).1
     simpa using this
    rw [e0] at e1 e2
    simp at e1 e2
    subst e1 e2
    exact hs
  ·rcases h6 with h6 | h6
   ·exact Or.inl h6.symm
   ·exact Or.inr (by injection h6)
theorem ba_eq {a b : ByteArray} (h : bl a = bl b) : a = b := by
 cases a; cases b
 simp only [bl] at h
 exact congrArg ByteArray.mk (Array.toList_inj.1 h)
theorem split_last (r : List UInt8) : (47 : UInt8) ∉ r ∨ ∃ a b, r = a ++ 47 :: b ∧ (47 : UInt8) ∉ b := by
 cases h : Path.parent r with
 | some a =>
  obtain ⟨b, e, hb⟩ := Path.parent_some h
  exact Or.inr ⟨a, b, e, hb⟩
 | none =>
  refine Or.inl (fun hm => ?_)
  have key : ∀ r : List UInt8, (47 : UInt8) ∈ r → ∃ a b, r = a ++ 47 :: b ∧ (47 : UInt8) ∉ b := fun r => by
   induction r with
   | nil => intro h; cases h
   | cons c r ih =>
    intro hc
    by_cases h1 : (47 : UInt8) ∈ r
    ·obtain ⟨a, b, e, hb⟩ := ih h1
     exact ⟨c :: a, b, by rw [e]; rfl, hb⟩
    ·rcases List.mem_cons.1 hc with e | e
     ·exact ⟨[], r, by rw [e]; rfl, h1⟩
     ·exact absurd e h1
  obtain ⟨a, b, e, hb⟩ := key r hm
  rw [e, Path.parent_join a hb] at h
  cases h
structure Zl (L : List En) : Prop where
 len : L.length ≤ 1024
 strict : Zp L
 own : ∀ x ∈ L, ownOk x
 above : ∀ x ∈ L, ∀ p, Path.parent (bl x.path) = some p → ∃ d ∈ L, bl d.path = p ∧ d.kind = 1
theorem treeR (L : List En) : Zw L = true ↔ Zl L := by
 rw [treeRight_set]
 exact ⟨fun ⟨a, b, c, d⟩ => ⟨a, b, c, d⟩, fun h => ⟨h.1, h.2, h.3, h.4⟩⟩
theorem Zl.anc {L : List En} (h : Zl L) : ∀ (n : Nat) (r q : List UInt8) (x : En), r.length ≤ n → x ∈ L → bl x.path = q ++ 47 :: r → ∃ d ∈ L, bl d.path = q ∧ d.kind = 1
 | n, r, q, x, hn, hx, e => by
  rcases split_last r with h1 | ⟨a, b, rfl, hb⟩
  ·exact h.above x hx q (by rw [e]; exact Path.parent_join q h1)
  ·obtain ⟨d, hd, hp, _⟩ := h.above x hx (q ++ 47 :: a) (by rw [e, show q ++ 47 :: (a ++ 47 :: b) = (q ++ 47 :: a) ++ 47 :: b by simp]; exact Path.parent_join _ hb)
   cases n with
   | zero => simp at hn
   | succ n => exact h.anc n a q d (by simp at hn; omega) hd hp
theorem Zl.none_in {L : List En} (h : Zl L) {p : List UInt8} (hf : Zt L p = none) : ∀ x ∈ L, Path.within (bl x.path) p = false := fun x hx => by
 cases hw : Path.within (bl x.path) p with
 | false => rfl
 | true =>
  rcases (Path.within_iff _ _).1 hw with e | ⟨r, e⟩
  ·exact absurd e (find_none hf x hx)
  ·obtain ⟨d, hd, hp, _⟩ := h.anc _ r p x (Nat.le_refl _) hx e
   exact absurd hp (find_none hf d hd)
theorem Yx {L : List En} {p : List UInt8} {y : En} : y ∈ inE L p ↔ y ∈ L ∧ Path.within (bl y.path) p = true := by simp [inE]
theorem mem_dels : ∀ (W L : List En) (y : En), y ∈ W.foldl (fun M x => delE M (bl x.path)) L ↔ y ∈ L ∧ ∀ x ∈ W, bl y.path ≠ bl x.path
 | [], L, y => by simp
 | x :: W, L, y => by
  rw [List.foldl_cons, mem_dels W, mem_delE]
  simp only [List.mem_cons, forall_eq_or_imp]
  constructor
  ·rintro ⟨⟨a, b⟩, c⟩; exact ⟨a, b, c⟩
  ·rintro ⟨a, b, c⟩; exact ⟨⟨a, b⟩, c⟩
theorem strict_dels : ∀ (W L : List En), Zp L → Zp (W.foldl (fun M x => delE M (bl x.path)) L)
 | [], _, h => h
 | _ :: W, _, h => strict_dels W _ (strict_delE h _)
theorem strict_puts : ∀ (V L : List En), Zp L → Zp (V.foldl putE L)
 | [], _, h => h
 | x :: V, _, h => strict_puts V _ (Zf h x)
theorem mem_puts : ∀ (V L : List En) (_ : V.Pairwise (fun a b => bl a.path ≠ bl b.path)) (y : En), y ∈ V.foldl putE L ↔ y ∈ V ∨ (y ∈ L ∧ ∀ x ∈ V, bl y.path ≠ bl x.path)
 | [], L, _, y => by simp
 | x :: V, L, h, y => by
  obtain ⟨h1, h2⟩ := List.pairwise_cons.1 h
  rw [List.foldl_cons, mem_puts V _ h2, Zg]
  simp only [List.mem_cons, forall_eq_or_imp]
  constructor
  ·rintro (a | ⟨(a | ⟨a, b⟩), c⟩)
   ·exact Or.inl (Or.inr a)
   ·exact Or.inl (Or.inl a)
   ·exact Or.inr ⟨a, b, c⟩
  ·rintro ((a | a) | ⟨a, b, c⟩)
   ·exact Or.inr ⟨Or.inl a, fun z hz => by subst a; exact h1 z hz⟩
   ·exact Or.inl a
   ·exact Or.inr ⟨Or.inr ⟨a, b⟩, c⟩
theorem len_puts : ∀ (V L : List En) (_ : V.Pairwise (fun a b => bl a.path ≠ bl b.path)) (_ : ∀ x ∈ V, ∀ y ∈ L, bl y.path ≠ bl x.path), (V.foldl putE L).length = V.length + L.length
 | [], L, _, _ => by simp
 | x :: V, L, h, hn => by
  obtain ⟨h1, h2⟩ := List.pairwise_cons.1 h
  rw [List.foldl_cons, len_puts V _ h2, len_putE_new (find_no (hn x (List.mem_cons_self ..)))]
  ·simp; omega
  ·intro z hz y hy
   rcases Zg.1 hy with rfl | ⟨hy, _⟩
   ·exact h1 z hz
   ·exact hn z (List.mem_cons_of_mem _ hz) y hy
theorem mv_path {p q r : List UInt8} {x : En} (h : bl x.path = p ++ r) (hw : Path.within (bl x.path) p = true) : bl (mvE p q x).path = q ++ r := by
 unfold mvE
 show Path.moved (bl x.path) p q = _
 unfold Path.moved
 rw [if_pos hw, h, List.drop_left]
theorem in_path {p : List UInt8} {x : En} (hw : Path.within (bl x.path) p = true) : ∃ r, bl x.path = p ++ r ∧ (r = [] ∨ ∃ s, r = 47 :: s) := by
 rcases (Path.within_iff _ _).1 hw with e | ⟨r, e⟩
 ·exact ⟨[], by simpa using e, Or.inl rfl⟩
 ·exact ⟨47 :: r, e, Or.inr ⟨r, rfl⟩⟩
theorem mv_in {p q : List UInt8} {x : En} (hw : Path.within (bl x.path) p = true) : Path.within (bl (mvE p q x).path) q = true := by
 obtain ⟨r, e, hr⟩ := in_path hw
 rw [mv_path e hw]
 rcases hr with rfl | ⟨s, rfl⟩
 ·rw [List.append_nil]; exact Path.within_refl q
 ·exact Path.within_join q s
theorem mv_inj {p q : List UInt8} {x y : En} (hx : Path.within (bl x.path) p = true) (hy : Path.within (bl y.path) p = true) (e : bl (mvE p q x).path = bl (mvE p q y).path) : bl x.path = bl y.path := by
 obtain ⟨r, e1, _⟩ := in_path hx
 obtain ⟨s, e2, _⟩ := in_path hy
 rw [mv_path e1 hx, mv_path e2 hy] at e
 rw [e1, e2, List.append_cancel_left e]
theorem mv_back {p q : List UInt8} {x : En} (hx : Path.within (bl x.path) p = true) : mvE q p (mvE p q x) = x := by
 obtain ⟨r, e, _⟩ := in_path hx
 have h1 := mv_path (q := q) e hx
 have h2 := mv_path (q := p) h1 (mv_in hx)
 obtain ⟨P, K, l, D⟩ := x
 show (⟨_, K, l, D⟩ : En) = _
 congr 1
 exact ba_eq (h2.trans e.symm)
theorem mv_pair {L : List En} (h : Zp L) (p q : List UInt8) : ((inE L p).map (mvE p q)).Pairwise (fun a b => bl a.path ≠ bl b.path) := by
 rw [List.pairwise_map]
 have h1 : Zp (inE L p) := List.Pairwise.filter _ h
 refine List.Pairwise.imp_of_mem ?_ h1
 intro a b ha hb hlt e
 rw [mv_inj (Yx.1 ha).2 (Yx.1 hb).2 e] at hlt
 exact List.lt_irrefl _ hlt
theorem mem_moveL {L : List En} (h : Zp L) (p q : List UInt8) (y : En) : y ∈ moveL L (inE L p) p q ↔ (∃ x ∈ L, Path.within (bl x.path) p = true ∧ y = mvE p q x) ∨ (y ∈ L ∧ Path.within (bl y.path) p = false ∧ ∀ x ∈ L, Path.within (bl x.path) p = true → bl y.path ≠ bl (mvE p q x).path) := by
 unfold moveL
 rw [mem_puts _ _ (mv_pair h p q), mem_dels]
 constructor
 ·rintro (a | ⟨⟨a, b⟩, c⟩)
  ·obtain ⟨x, hx, rfl⟩ := List.mem_map.1 a
   exact Or.inl ⟨x, (Yx.1 hx).1, (Yx.1 hx).2, rfl⟩
  ·refine Or.inr ⟨a, ?_, fun x hx hw => c _ (List.mem_map.2 ⟨x, Yx.2 ⟨hx, hw⟩, rfl⟩)⟩
   cases hw : Path.within (bl y.path) p with
   | false => rfl
   | true => exact absurd rfl (b y (Yx.2 ⟨a, hw⟩))
 ·rintro (⟨x, hx, hw, rfl⟩ | ⟨a, b, c⟩)
  ·exact Or.inl (List.mem_map.2 ⟨x, Yx.2 ⟨hx, hw⟩, rfl⟩)
  ·refine Or.inr ⟨⟨a, fun x hx e => ?_⟩, fun z hz e => ?_⟩
   ·rw [e, (Yx.1 hx).2] at b; cases b
   ·obtain ⟨x, hx, rfl⟩ := List.mem_map.1 hz
    exact c x (Yx.1 hx).1 (Yx.1 hx).2 e
theorem strict_moveL {L : List En} (h : Zp L) (W : List En) (p q : List UInt8) : Zp (moveL L W p q) := strict_puts _ _ (strict_dels _ _ h)
theorem len_dels {L : List En} (_ : Zp L) (p : List UInt8) : ((inE L p).foldl (fun M x => delE M (bl x.path)) L).length + (inE L p).length = L.length := by
 have e : (inE L p).foldl (fun M x => delE M (bl x.path)) L = L.filter (fun x => !Path.within (bl x.path) p) := by
  have key : ∀ (W M : List En), W.foldl (fun M x => delE M (bl x.path)) M = M.filter (fun y => W.all (fun x => !(bl y.path == bl x.path))) := fun W => by
   induction W with
   | nil => intro M; exact (List.filter_eq_self.2 (fun _ _ => rfl)).symm
   | cons x W ih =>
    intro M
    rw [List.foldl_cons, ih, delE, List.filter_filter]
    congr 1
    funext y
    simp only [List.all_cons]
    rw [Bool.and_comm]
  rw [key]
  refine List.filter_congr (fun y hy => ?_)
  cases hw : Path.within (bl y.path) p with
  | true =>
   rw [Bool.not_true, Bool.eq_false_iff]
   intro h
   have := List.all_eq_true.1 h y (Yx.2 ⟨hy, hw⟩)
   simp at this
  | false =>
   rw [Bool.not_false, List.all_eq_true]
   intro x hx
   have h1 := (Yx.1 hx).2
   simp only [Bool.not_eq_true', beq_eq_false_iff_ne, ne_eq]
   intro e
   rw [e, h1] at hw
   cases hw
 rw [e]
 unfold inE
 have key : ∀ M : List En, (M.filter (fun x => !Path.within (bl x.path) p)).length + (M.filter (fun x => Path.within (bl x.path) p)).length = M.length := fun M => by
  induction M with
  | nil => rfl
  | cons x M ih =>
   rw [List.filter_cons, List.filter_cons]
   cases Path.within (bl x.path) p <;> simp <;> omega
 exact key L
theorem hasE_zero {L : List En} {p : List UInt8} {k : Int} : hasE L p k = 0 ↔ ∃ x, Zt L p = some x ∧ x.kind = k := by
 unfold hasE
 cases Zt L p with
 | none => simp
 | some x => by_cases h : x.kind = k <;> simp [h]
theorem freeE_zero {L : List En} {p : List UInt8} : freeE L p = 0 ↔ Zt L p = none ∧ ∀ q, Path.parent p = some q → ∃ d, Zt L q = some d ∧ d.kind = 1 := by
 unfold freeE
 cases Zt L p with
 | some x => simp
 | none =>
  cases Path.parent p with
  | none => simp
  | some q => simp [hasE_zero]
theorem Zl.add {L : List En} (h : Zl L) {x : En} (hf : freeE L (bl x.path) = 0) (hl : L.length < 1024) (ho : ownOk x) : Zl (putE L x) := by
 obtain ⟨h1, h2⟩ := freeE_zero.1 hf
 refine ⟨by rw [len_putE_new h1]; omega, Zf h.strict x, fun y hy => ?_, fun y hy p hp => ?_⟩
 ·rcases Zg.1 hy with rfl | ⟨hy, _⟩
  ·exact ho
  ·exact h.own y hy
 ·have hk : ∀ d ∈ L, d ∈ putE L x := fun d hd => Zg.2 (Or.inr ⟨hd, find_none h1 d hd⟩)
  rcases Zg.1 hy with rfl | ⟨hy, _⟩
  ·obtain ⟨d, hd, hk1⟩ := h2 p hp
   exact ⟨d, hk d (Yy hd).1, (Yy hd).2, hk1⟩
  ·obtain ⟨d, hd, e, hk1⟩ := h.above y hy p hp
   exact ⟨d, hk d hd, e, hk1⟩
theorem in_one {L : List En} {p : List UInt8} (h : (inE L p).length = 1) {x y : En} (hx : x ∈ inE L p) (hy : y ∈ inE L p) : x = y := by
 match hl : inE L p, h with
 | [z], _ =>
  rw [hl] at hx hy
  rw [List.mem_singleton.1 hx, List.mem_singleton.1 hy]
theorem Zl.del {L : List En} (h : Zl L) {x : En} (hx : x ∈ L) (h1 : (inE L (bl x.path)).length = 1) : Zl (delE L (bl x.path)) := by
 refine ⟨by have := len_delE h.strict hx; have := h.len; omega, strict_delE h.strict _, fun y hy => h.own y (mem_delE.1 hy).1, fun y hy p hp => ?_⟩
 obtain ⟨hy1, hy2⟩ := mem_delE.1 hy
 obtain ⟨d, hd, e, hk⟩ := h.above y hy1 p hp
 refine ⟨d, mem_delE.2 ⟨hd, fun e2 => ?_⟩, e, hk⟩
 obtain ⟨b, eb, _⟩ := Path.parent_some hp
 have hw : Path.within (bl y.path) (bl x.path) = true := by rw [eb, ← e, e2]; exact Path.within_join _ _
 have := in_one h1 (Yx.2 ⟨hy1, hw⟩) (Yx.2 ⟨hx, Path.within_refl _⟩)
 exact hy2 (by rw [this])
theorem Zl.set {L : List En} (h : Zl L) {x y : En} (hx : x ∈ L) (hp : y.path = x.path) (hk : y.kind = x.kind) (ho : ownOk y) : Zl (putE L y) := by
 refine ⟨?_, Zf h.strict y, fun z hz => ?_, fun z hz p hq => ?_⟩
 ·have h1 := len_delE h.strict hx
  unfold putE
  rw [(insE_perm y _).length_eq, hp]
  have := h.len
  simp
  omega
 ·rcases Zg.1 hz with rfl | ⟨hz, _⟩
  ·exact ho
  ·exact h.own z hz
 ·have key : ∀ d ∈ L, d.kind = 1 → ∃ e ∈ putE L y, bl e.path = bl d.path ∧ e.kind = 1 := fun d hd h1 => by
   by_cases e : bl d.path = bl y.path
   ·have e2 := strict_inj h.strict hd hx (by rw [e, hp])
    exact ⟨y, Zg.2 (Or.inl rfl), e.symm, by rw [hk, ← e2, h1]⟩
   ·exact ⟨d, Zg.2 (Or.inr ⟨hd, e⟩), rfl, h1⟩
  rcases Zg.1 hz with rfl | ⟨hz, _⟩
  ·rw [hp] at hq
   obtain ⟨d, hd, e, h1⟩ := h.above x hx p hq
   obtain ⟨g, hg, e2, h2⟩ := key d hd h1
   exact ⟨g, hg, e2.trans e, h2⟩
  ·obtain ⟨d, hd, e, h1⟩ := h.above z hz p hq
   obtain ⟨g, hg, e2, h2⟩ := key d hd h1
   exact ⟨g, hg, e2.trans e, h2⟩
theorem Zl.far {L : List En} (h : Zl L) {p q : List UInt8} (hq : Zt L q = none) {x y : En} (hy : y ∈ L) (hw : Path.within (bl x.path) p = true) : bl y.path ≠ bl (mvE p q x).path := fun e => by
 have := h.none_in hq y hy
 rw [e, mv_in hw] at this
 cases this
theorem Zl.mem_move {L : List En} (h : Zl L) {p q : List UInt8} (hq : Zt L q = none) (y : En) : y ∈ moveL L (inE L p) p q ↔ (∃ x ∈ L, Path.within (bl x.path) p = true ∧ y = mvE p q x) ∨ (y ∈ L ∧ Path.within (bl y.path) p = false) := by
 rw [mem_moveL h.strict]
 constructor
 ·rintro (a | ⟨a, b, _⟩)
  ·exact Or.inl a
  ·exact Or.inr ⟨a, b⟩
 ·rintro (a | ⟨a, b⟩)
  ·exact Or.inl a
  ·exact Or.inr ⟨a, b, fun x _ hw => h.far hq a hw⟩
theorem Zl.len_move {L : List En} (h : Zl L) {p q : List UInt8} (hq : Zt L q = none) : (moveL L (inE L p) p q).length = L.length := by
 unfold moveL
 rw [len_puts _ _ (mv_pair h.strict p q)]
 ·rw [List.length_map]
  have := len_dels h.strict p
  omega
 ·intro x hx y hy e
  obtain ⟨z, hz, rfl⟩ := List.mem_map.1 hx
  exact h.far hq ((mem_dels _ _ _).1 hy).1 (Yx.1 hz).2 e
theorem Zl.move {L : List En} (h : Zl L) {p q : List UInt8} (hf : freeE L q = 0) (ha : Path.apart q p = true) (hr : (inE L p).all (fun x => Path.right (bl (mvE p q x).path)) = true) : Zl (moveL L (inE L p) p q) := by
 obtain ⟨h1, h2⟩ := freeE_zero.1 hf
 have hm := h.mem_move (p := p) h1
 have hap : Path.within q p = false ∧ Path.within p q = false := by
  unfold Path.apart at ha
  simp only [Bool.and_eq_true, Bool.not_eq_true'] at ha
  exact ha
 refine ⟨by rw [h.len_move h1]; exact h.len, strict_moveL h.strict _ _ _, fun y hy => ?_, fun y hy s hs => ?_⟩
 ·rcases (hm y).1 hy with ⟨x, hx, hw, rfl⟩ | ⟨hy, _⟩
  ·refine ⟨List.all_eq_true.1 hr x (Yx.2 ⟨hx, hw⟩), ?_⟩
   exact (h.own x hx).2
  ·exact h.own y hy
 ·rcases (hm y).1 hy with ⟨x, hx, hw, rfl⟩ | ⟨hy, hn⟩
  ·obtain ⟨r, er, hr'⟩ := in_path hw
   rw [mv_path er hw] at hs
   rcases hr' with rfl | ⟨t, rfl⟩
   ·rw [List.append_nil] at hs
    obtain ⟨d, hd, hk⟩ := h2 s hs
    obtain ⟨d1, d2⟩ := Yy hd
    refine ⟨d, (hm d).2 (Or.inr ⟨d1, ?_⟩), d2, hk⟩
    cases hd2 : Path.within (bl d.path) p with
    | false => rfl
    | true =>
     obtain ⟨b, eb, _⟩ := Path.parent_some hs
     have : Path.within q p = true := Path.within_trans (q := s) (by rw [eb]; exact Path.within_join _ _) (by rw [← d2]; exact hd2)
     rw [hap.1] at this
     cases this
   ·rcases split_last t with ht | ⟨a, b, rfl, hb⟩
    ·rw [Path.parent_join q ht] at hs
     cases hs
     obtain ⟨d, hd, e, hk⟩ := h.above x hx p (by rw [er]; exact Path.parent_join p ht)
     have hwd : Path.within (bl d.path) p = true := by rw [e]; exact Path.within_refl _
     exact ⟨mvE p q d, (hm _).2 (Or.inl ⟨d, hd, hwd, rfl⟩), by rw [mv_path (r := []) (by rw [e, List.append_nil]) hwd, List.append_nil], hk⟩
    ·rw [show q ++ 47 :: (a ++ 47 :: b) = (q ++ 47 :: a) ++ 47 :: b by simp, Path.parent_join _ hb] at hs
     cases hs
     obtain ⟨d, hd, e, hk⟩ := h.above x hx (p ++ 47 :: a) (by rw [er, show p ++ 47 :: (a ++ 47 :: b) = (p ++ 47 :: a) ++ 47 :: b by simp]; exact Path.parent_join _ hb)
     have hwd : Path.within (bl d.path) p = true := by rw [e]; exact Path.within_join _ _
     exact ⟨mvE p q d, (hm _).2 (Or.inl ⟨d, hd, hwd, rfl⟩), mv_path e hwd, hk⟩
  ·obtain ⟨d, hd, e, hk⟩ := h.above y hy s hs
   refine ⟨d, (hm d).2 (Or.inr ⟨hd, ?_⟩), e, hk⟩
   cases hd2 : Path.within (bl d.path) p with
   | false => rfl
   | true =>
    obtain ⟨b, eb, _⟩ := Path.parent_some hs
    have : Path.within (bl y.path) p = true := Path.within_trans (q := s) (by rw [eb]; exact Path.within_join _ _) (by rw [← e]; exact hd2)
    rw [hn] at this
    cases this
theorem right_append {a b : List Lines.Bs} : Lines.right (a ++ b) = (Lines.right a && Lines.right b) := by simp [Lines.right]
theorem bs_app (a b : List ByteArray) : Lines.bs (a ++ b) = Lines.bs a ++ Lines.bs b := by simp [Lines.bs]
theorem hunk_some {l l' o n : List ByteArray} {x : Int} (h : hunkL l x o n = some l') : ∃ a b, l = a ++ o ++ b ∧ (a.length : Int) = x ∧ l' = a ++ n ++ b := by
 unfold hunkL at h
 split at h
 ·rename_i hc
  obtain ⟨h1, h2, h3⟩ := hc
  cases h
  refine ⟨l.take x.toNat, l.drop (x.toNat + o.length), ?_, by rw [List.length_take]; omega, rfl⟩
  conv => lhs; rw [← List.take_append_drop x.toNat l, ← List.take_append_drop o.length (l.drop x.toNat), h3, List.drop_drop]
  rw [List.append_assoc]
 ·cases h
theorem hunk_mk (a o n b : List ByteArray) : hunkL (a ++ o ++ b) a.length o n = some (a ++ n ++ b) := by
 unfold hunkL
 have h1 : (a ++ o ++ b).drop a.length = o ++ b := by rw [List.append_assoc, List.drop_left]
 have h2 : (a ++ o ++ b).drop (a.length + o.length) = b := by rw [← List.drop_drop, h1, List.drop_left]
 have h3 : (a ++ o ++ b).take a.length = a := by rw [List.append_assoc, List.take_left]
 rw [if_pos ⟨by omega, by simp, by rw [Int.toNat_natCast, h1, List.take_left]⟩, Int.toNat_natCast, h2, h3]
theorem hunk_back {l l' o n : List ByteArray} {x : Int} (h : hunkL l x o n = some l') : hunkL l' x n o = some l := by
 obtain ⟨a, b, rfl, rfl, rfl⟩ := hunk_some h
 exact hunk_mk a n o b
theorem hunk_right {l l' o n : List ByteArray} {x : Int} (h : hunkL l x o n = some l') (hl : Lines.right (Lines.bs l) = true) (hn : Lines.right (Lines.bs n) = true) : Lines.right (Lines.bs l') = true := by
 obtain ⟨a, b, rfl, _, rfl⟩ := hunk_some h
 rw [bs_app, bs_app, right_append, right_append] at hl ⊢
 simp only [Bool.and_eq_true] at hl ⊢
 exact ⟨⟨hl.1.1, hn⟩, hl.2⟩
theorem tok_noline {t : Lines.Bs} (h : Lines.tok t = true) : (10 : UInt8) ∉ t := fun hm => by
 unfold Lines.tok at h
 simp only [Bool.and_eq_true, List.all_eq_true] at h
 have := h.2 10 hm
 revert this
 decide
theorem replace_noline {s f t : Lines.Bs} (hs : (10 : UInt8) ∉ s) (ht : Lines.tok t = true) : (10 : UInt8) ∉ Lines.replace s f t := by
 unfold Lines.replace
 split
 ·intro hm
  obtain ⟨p, hp, hc⟩ := List.mem_flatten.1 hm
  obtain ⟨u, hu, rfl⟩ := List.mem_map.1 hp
  unfold Lines.rep at hc
  split at hc
  ·exact tok_noline ht hc
  ·refine hs ?_
   rw [← (Lines.pieces_all s).2]
   exact List.mem_flatten.2 ⟨u, hu, hc⟩
 ·exact hs
theorem tokens_some {l l' : List ByteArray} {f t : ByteArray} (h : tokensL l f t = some l') : (∀ y ∈ l, bl t ∉ Lines.pieces (bl y)) ∧ l' = l.map (fun y => ⟨(Lines.replace (bl y) (bl f) (bl t)).toArray⟩) := by
 unfold tokensL at h
 split at h
 ·cases h
 ·rename_i hc
  cases h
  refine ⟨fun y hy hm => hc ?_, rfl⟩
  exact List.any_eq_true.2 ⟨y, hy, by simpa using hm⟩
theorem tokens_right {l l' : List ByteArray} {f t : ByteArray} (h : tokensL l f t = some l') (hl : Lines.right (Lines.bs l) = true) (ht : Lines.tok (bl t) = true) : Lines.right (Lines.bs l') = true := by
 obtain ⟨_, rfl⟩ := tokens_some h
 unfold Lines.right Lines.bs at hl ⊢
 rw [List.all_eq_true] at hl ⊢
 intro z hz
 simp only [List.map_map] at hz
 obtain ⟨y, hy, rfl⟩ := List.mem_map.1 hz
 have h1 := hl y.data.toList (List.mem_map.2 ⟨y, hy, rfl⟩)
 simp only [Bool.not_eq_true', List.contains_eq_mem, decide_eq_false_iff_not] at h1 ⊢
 exact replace_noline (s := bl y) h1 ht
theorem tokens_back {l l' : List ByteArray} {f t : ByteArray} (h : tokensL l f t = some l') (hf : Lines.tok (bl f) = true) (ht : Lines.tok (bl t) = true) (hne : bl f ≠ bl t) : tokensL l' t f = some l := by
 obtain ⟨h1, rfl⟩ := tokens_some h
 unfold tokensL
 rw [if_neg]
 ·rw [List.map_map]
  congr 1
  refine (List.map_congr_left (fun y hy => ?_)).trans (List.map_id _)
  exact ba_eq (by
   show Lines.replace (Lines.replace (bl y) (bl f) (bl t)) (bl t) (bl f) = bl y
   exact Lines.replace_back hf ht (h1 y hy))
 ·intro hc
  obtain ⟨z, hz, hm⟩ := List.any_eq_true.1 hc
  obtain ⟨y, hy, rfl⟩ := List.mem_map.1 hz
  simp only [decide_eq_true_eq] at hm
  have hm : bl f ∈ Lines.pieces (Lines.replace (bl y) (bl f) (bl t)) := hm
  rw [Lines.pieces_rep hf ht] at hm
  obtain ⟨u, _, e⟩ := List.mem_map.1 hm
  exact Lines.rep_gone hne e
theorem act_add {L L' : List En} {p : Pr} (hk : p.kind = 1 ∨ p.kind = 3 ∨ p.kind = 5) : actE L p = (L', 0) ↔ freeE L (bl p.path) = 0 ∧ L.length < 1024 ∧ L' = putE L ⟨p.path, (p.kind + 1) / 2, [], ⟨#[]⟩⟩ := by
 unfold actE
 rw [if_pos hk]
 by_cases h1 : freeE L (bl p.path) = 0
 ·rw [if_neg (by simpa using h1)]
  by_cases h2 : 1024 ≤ L.length
  ·rw [if_pos h2]; simp; omega
  ·rw [if_neg h2]
   simp only [Prod.mk.injEq, and_true]
   exact ⟨fun e => ⟨h1, by omega, e.symm⟩, fun e => e.2.2.symm⟩
 ·rw [if_pos h1]
  simp [h1]
theorem act_rm {L L' : List En} {p : Pr} (hk : p.kind = 2 ∨ p.kind = 4 ∨ p.kind = 6) : actE L p = (L', 0) ↔ ∃ x, Zt L (bl p.path) = some x ∧ x.kind = p.kind / 2 ∧ x.lines = [] ∧ x.data = ⟨#[]⟩ ∧ (inE L (bl p.path)).length = 1 ∧ L' = delE L (bl p.path) := by
 unfold actE
 rw [if_neg (by omega), if_pos hk]
 by_cases h1 : hasE L (bl p.path) (p.kind / 2) = 0
 ·rw [if_neg (by simpa using h1)]
  obtain ⟨x, hx, hxk⟩ := hasE_zero.1 h1
  unfold emptyE
  rw [hx]
  simp only [Option.some.injEq]
  constructor
  ·intro e
   split at e
   ·rename_i hc
    simp only [Bool.and_eq_true, decide_eq_true_eq] at hc
    obtain ⟨⟨c1, c2⟩, c3⟩ := hc
    simp only [Prod.mk.injEq, and_true] at e
    exact ⟨x, rfl, hxk, List.length_eq_zero_iff.1 c1, c2, c3, e.symm⟩
   ·simp at e
  ·rintro ⟨y, rfl, _, c1, c2, c3, rfl⟩
   rw [if_pos]
   simp only [Bool.and_eq_true, decide_eq_true_eq]
   exact ⟨⟨by rw [c1]; rfl, c2⟩, c3⟩
 ·rw [if_pos h1]
  constructor
  ·intro e; simp at e; exact absurd e.2 h1
  ·rintro ⟨x, hx, hxk, _⟩; exact absurd (hasE_zero.2 ⟨x, hx, hxk⟩) h1
theorem act_move {L L' : List En} {p : Pr} (hk : p.kind = 10) : actE L p = (L', 0) ↔ Zt L (bl p.path) ≠ none ∧ freeE L (bl p.dst) = 0 ∧ (inE L (bl p.path)).all (fun x => Path.right (bl (mvE (bl p.path) (bl p.dst) x).path)) = true ∧ L' = moveL L (inE L (bl p.path)) (bl p.path) (bl p.dst) := by
 unfold actE moveE
 rw [if_neg (by omega), if_neg (by omega), if_pos hk]
 by_cases h1 : Zt L (bl p.path) = none
 ·rw [if_pos h1]; simp [h1]
 ·rw [if_neg h1]
  by_cases h2 : freeE L (bl p.dst) = 0
  ·rw [if_neg (by simpa using h2)]
   split
   ·rename_i h3
    simp only [Prod.mk.injEq, and_true]
    exact ⟨fun e => ⟨h1, h2, h3, e.symm⟩, fun e => e.2.2.2.symm⟩
   ·rename_i h3
    constructor
    ·intro e; simp at e
    ·intro e; exact absurd e.2.2.1 h3
  ·rw [if_pos h2]
   constructor
   ·intro e; simp at e; exact absurd e.2 h2
   ·intro e; exact absurd e.2.1 h2
theorem act_change {L L' : List En} {p : Pr} (hk : p.kind = 7 ∨ p.kind = 8 ∨ p.kind = 9) : actE L p = (L', 0) ↔ ∃ x y, Zt L (bl p.path) = some x ∧ x.kind = (if p.kind = 9 then 3 else 2) ∧ Zb x p = some y ∧ L' = putE L y := by
 unfold actE
 rw [if_neg (by omega), if_neg (by omega), if_neg (by omega)]
 by_cases h1 : hasE L (bl p.path) (if p.kind = 9 then 3 else 2) = 0
 ·rw [if_neg (by simpa using h1)]
  obtain ⟨x, hx, hxk⟩ := hasE_zero.1 h1
  rw [hx]
  simp only [Option.some.injEq]
  cases hw : Zb x p with
  | none =>
   constructor
   ·intro e; simp at e
   ·rintro ⟨z, y, rfl, _, e, _⟩; rw [hw] at e; cases e
  | some y =>
   simp only [Prod.mk.injEq, and_true]
   constructor
   ·intro e; exact ⟨x, y, rfl, hxk, hw, e.symm⟩
   ·rintro ⟨z, y', rfl, _, e, rfl⟩; rw [hw] at e; cases e; rfl
 ·rw [if_pos h1]
  constructor
  ·intro e; simp at e; exact absurd e.2 h1
  ·rintro ⟨x, _, hx, hxk, _⟩; exact absurd (hasE_zero.2 ⟨x, hx, hxk⟩) h1
theorem with_facts {x y : En} {p : Pr} (h : Zb x p = some y) : y.path = x.path ∧ y.kind = x.kind := by
 unfold Zb at h
 split at h
 ·obtain ⟨l, _, rfl⟩ := Option.map_eq_some_iff.1 h; exact ⟨rfl, rfl⟩
 ·split at h
  ·obtain ⟨l, _, rfl⟩ := Option.map_eq_some_iff.1 h; exact ⟨rfl, rfl⟩
  ·split at h
   ·cases h; exact ⟨rfl, rfl⟩
   ·cases h
theorem rule_of {p : Pr} (h : Zv p = true) : (1 ≤ p.kind ∧ p.kind ≤ 10) ∧ Path.right (bl p.path) = true ∧ Yn p = true := by
 unfold Zv at h
 simp only [Bool.and_eq_true, decide_eq_true_eq] at h
 exact ⟨h.1.1, h.1.2, h.2⟩
theorem with_own {x y : En} {p : Pr} (hr : Zv p = true) (hk : p.kind = 7 ∨ p.kind = 8 ∨ p.kind = 9) (hx : ownOk x) (hxk : x.kind = (if p.kind = 9 then 3 else 2)) (h : Zb x p = some y) : ownOk y := by
 obtain ⟨e1, e2⟩ := with_facts h
 refine ⟨by rw [e1]; exact hx.1, (thing_iff y).2 ?_⟩
 obtain ⟨a1, a2, a3, a4⟩ := (thing_iff x).1 hx.2
 have hrule := (rule_of hr).2.2
 refine ⟨by rw [e2]; exact a1, ?_⟩
 unfold Zb at h
 rcases hk with hk | hk | hk
 ·rw [if_pos hk] at h
  obtain ⟨l, hl, rfl⟩ := Option.map_eq_some_iff.1 h
  unfold Yn linesP at hrule
  rw [if_neg (by omega), if_pos hk] at hrule
  simp only [Bool.and_eq_true, decide_eq_true_eq] at hrule
  exact ⟨hunk_right hl a2 hrule.1.2, Or.inl (by rw [hk] at hxk; exact hxk), a4⟩
 ·rw [if_neg (by omega), if_pos hk] at h
  obtain ⟨l, hl, rfl⟩ := Option.map_eq_some_iff.1 h
  unfold Yn tokenP at hrule
  rw [if_neg (by omega), if_neg (by omega), if_pos hk] at hrule
  simp only [Bool.and_eq_true, decide_eq_true_eq] at hrule
  exact ⟨tokens_right hl a2 hrule.1.2, Or.inl (by rw [hk] at hxk; exact hxk), a4⟩
 ·rw [if_neg (by omega), if_neg (by omega)] at h
  split at h
  ·cases h
   exact ⟨a2, a3, Or.inl (by rw [hk] at hxk; exact hxk)⟩
  ·cases h
theorem apart_of {p : Pr} (hr : Zv p = true) (hk : p.kind = 10) : Path.apart (bl p.dst) (bl p.path) = true := by
 have hrule := (rule_of hr).2.2
 unfold Yn moveP at hrule
 rw [if_neg (by omega), if_neg (by omega), if_neg (by omega), if_neg (by omega)] at hrule
 simp only [Bool.and_eq_true] at hrule
 exact hrule.2
theorem Zl.act {L L' : List En} (h : Zl L) {p : Pr} (hr : Zv p = true) (e : actE L p = (L', 0)) : Zl L' := by
 obtain ⟨hk, hp, hrule⟩ := rule_of hr
 by_cases k1 : p.kind = 1 ∨ p.kind = 3 ∨ p.kind = 5
 ·obtain ⟨h1, h2, rfl⟩ := (act_add k1).1 e
  refine h.add h1 h2 ⟨hp, (thing_iff _).2 ⟨?_, rfl, Or.inr rfl, Or.inr rfl⟩⟩
  show 1 ≤ (p.kind + 1) / 2 ∧ (p.kind + 1) / 2 ≤ 3
  omega
 ·by_cases k2 : p.kind = 2 ∨ p.kind = 4 ∨ p.kind = 6
  ·obtain ⟨x, hx, _, _, _, h1, rfl⟩ := (act_rm k2).1 e
   obtain ⟨x1, x2⟩ := Yy hx
   rw [← x2] at h1 ⊢
   exact h.del x1 h1
  ·by_cases k3 : p.kind = 10
   ·obtain ⟨_, h2, h3, rfl⟩ := (act_move k3).1 e
    exact h.move h2 (apart_of hr k3) h3
   ·have k4 : p.kind = 7 ∨ p.kind = 8 ∨ p.kind = 9 := by omega
    obtain ⟨x, y, hx, hxk, hw, rfl⟩ := (act_change k4).1 e
    obtain ⟨x1, _⟩ := Yy hx
    exact h.set x1 (with_facts hw).1 (with_facts hw).2 (with_own hr k4 (h.own x x1) hxk hw)
theorem with_back {x y : En} {p : Pr} (hr : Zv p = true) (hk : p.kind = 7 ∨ p.kind = 8 ∨ p.kind = 9) (h : Zb x p = some y) : Zb y (inv p) = some x := by
 have hrule := (rule_of hr).2.2
 obtain ⟨K, P, T, F, A, lO, lN⟩ := p
 simp only at hk
 rcases hk with rfl | rfl | rfl
 ·simp only [Zb, if_true] at h
  obtain ⟨l, hl, rfl⟩ := Option.map_eq_some_iff.1 h
  have e : inv ⟨7, P, T, F, A, lO, lN⟩ = ⟨7, P, T, F, A, lN, lO⟩ := by simp [inv]
  rw [e]
  simp only [Zb, if_true, hunk_back hl, Option.map_some]
 ·have h8 : ¬ ((8 : Int) = 7) := by decide
  simp only [Zb, if_true, if_neg h8] at h
  obtain ⟨l, hl, rfl⟩ := Option.map_eq_some_iff.1 h
  have e : inv ⟨8, P, T, F, A, lO, lN⟩ = ⟨8, P, F, T, A, lO, lN⟩ := by simp [inv]
  rw [e]
  simp [Yn, tokenP, Zc] at hrule
  simp only [Zb, if_true, if_neg h8, tokens_back hl hrule.1.1.2 hrule.1.2 (fun e => hrule.2 (ba_eq e)), Option.map_some]
 ·have h9 : ¬ ((9 : Int) = 7) := by decide
  have h8 : ¬ ((9 : Int) = 8) := by decide
  simp only [Zb, if_neg h9, if_neg h8] at h
  have e : inv ⟨9, P, T, F, A, lO, lN⟩ = ⟨9, P, F, T, A, lO, lN⟩ := by simp [inv]
  rw [e]
  split at h
  ·rename_i hd
   cases h
   simp only [Zb, if_neg h9, if_neg h8, if_true]
   congr 1
   cases x
   simp only at hd
   rw [hd]
  ·cases h
theorem put_back {L : List En} (h : Zp L) {x y : En} (hx : x ∈ L) (e : y.path = x.path) : putE (putE L y) x = L := by
 refine Yz (Zf (Zf h y) x) h (fun z => ?_)
 rw [Zg, Zg]
 constructor
 ·rintro (rfl | ⟨(rfl | ⟨a, _⟩), b⟩)
  ·exact hx
  ·exact absurd (by rw [e]) b
  ·exact a
 ·intro hz
  by_cases hp : bl z.path = bl x.path
  ·exact Or.inl (strict_inj h hz hx hp)
  ·exact Or.inr ⟨Or.inr ⟨hz, by rw [e]; exact hp⟩, hp⟩
theorem kind_inv {p : Pr} (hk : 1 ≤ p.kind ∧ p.kind ≤ 10) : ((p.kind = 1 ∨ p.kind = 3 ∨ p.kind = 5) ∧ (inv p).kind = p.kind + 1 ∧ (inv p).path = p.path) ∨ ((p.kind = 2 ∨ p.kind = 4 ∨ p.kind = 6) ∧ (inv p).kind = p.kind - 1 ∧ (inv p).path = p.path) ∨ (p.kind = 10 ∧ (inv p).kind = 10 ∧ (inv p).path = p.dst ∧ (inv p).dst = p.path) ∨ ((p.kind = 7 ∨ p.kind = 8 ∨ p.kind = 9) ∧ (inv p).kind = p.kind ∧ (inv p).path = p.path) := by
 obtain ⟨K, P, T, F, A, lO, lN⟩ := p
 simp only at hk ⊢
 rcases kinds10 hk with rfl | rfl | rfl | rfl | rfl | rfl | rfl | rfl | rfl | rfl <;> simp [inv]
theorem Zl.undo {L L' : List En} (h : Zl L) {p : Pr} (hr : Zv p = true) (e : actE L p = (L', 0)) : actE L' (inv p) = (L, 0) := by
 obtain ⟨hk, hp, hrule⟩ := rule_of hr
 have hR := h.act hr e
 rcases kind_inv hk with ⟨k1, i1, i2⟩ | ⟨k2, i1, i2⟩ | ⟨k3, i1, i2, i3⟩ | ⟨k4, i1, i2⟩
 ·obtain ⟨h1, h2, rfl⟩ := (act_add k1).1 e
  obtain ⟨f1, f2⟩ := freeE_zero.1 h1
  refine (act_rm (by omega)).2 ?_
  rw [i1, i2]
  have hm : (⟨p.path, (p.kind + 1) / 2, [], ⟨#[]⟩⟩ : En) ∈ putE L ⟨p.path, (p.kind + 1) / 2, [], ⟨#[]⟩⟩ := Zg.2 (Or.inl rfl)
  refine ⟨_, find_is hR.strict hm rfl, rfl, rfl, rfl, ?_, ?_⟩
  ·have e1 : inE (putE L ⟨p.path, (p.kind + 1) / 2, [], ⟨#[]⟩⟩) (bl p.path) = [⟨p.path, (p.kind + 1) / 2, [], ⟨#[]⟩⟩] := by
    refine Yz (List.Pairwise.filter _ hR.strict) (List.pairwise_singleton ..) (fun y => ?_)
    rw [List.mem_singleton]
    constructor
    ·intro hy
     obtain ⟨hy1, hy2⟩ := Yx.1 hy
     rcases Zg.1 hy1 with e | ⟨hy, _⟩
     ·exact e
     ·rw [h.none_in f1 y hy] at hy2; cases hy2
    ·rintro rfl
     exact Yx.2 ⟨hm, Path.within_refl _⟩
   rw [e1]; rfl
  ·refine Yz h.strict (strict_delE hR.strict _) (fun y => ?_)
   rw [mem_delE, Zg]
   constructor
   ·intro hy; exact ⟨Or.inr ⟨hy, find_none f1 y hy⟩, find_none f1 y hy⟩
   ·rintro ⟨rfl | ⟨hy, _⟩, hn⟩
    ·exact absurd rfl hn
    ·exact hy
 ·obtain ⟨x, hx, x1, x2, x3, h1, rfl⟩ := (act_rm k2).1 e
  obtain ⟨hm, hpx⟩ := Yy hx
  refine (act_add (by omega)).2 ?_
  rw [i1, i2]
  have ex : (⟨p.path, (p.kind - 1 + 1) / 2, [], ⟨#[]⟩⟩ : En) = x := by
   obtain ⟨P, K, l, D⟩ := x
   simp only at x1 x2 x3 hpx
   rw [x1, x2, x3, ← ba_eq hpx]
   congr 1
   omega
  have hl := len_delE h.strict hm
  rw [hpx] at hl
  refine ⟨freeE_zero.2 ⟨find_no (fun y hy => (mem_delE.1 hy).2), fun q hq => ?_⟩, by have := h.len; omega, ?_⟩
  ·rw [← hpx] at hq
   obtain ⟨d, hd, ed, kd⟩ := h.above x hm q hq
   refine ⟨d, find_is hR.strict (mem_delE.2 ⟨hd, fun e => ?_⟩) ed, kd⟩
   have := parent_less hq
   rw [← ed, e, hpx] at this
   exact List.lt_irrefl _ this
  ·rw [ex]
   refine Yz h.strict (Zf hR.strict x) (fun y => ?_)
   rw [Zg, mem_delE, hpx]
   constructor
   ·intro hy
    by_cases e : bl y.path = bl p.path
    ·exact Or.inl (strict_inj h.strict hy hm (e.trans hpx.symm))
    ·exact Or.inr ⟨⟨hy, e⟩, e⟩
   ·rintro (rfl | ⟨⟨hy, _⟩, _⟩)
    ·exact hm
    ·exact hy
 ·obtain ⟨h1, h2, h3, rfl⟩ := (act_move k3).1 e
  obtain ⟨f1, f2⟩ := freeE_zero.1 h2
  have hmem := h.mem_move (p := bl p.path) f1
  have hap : Path.within (bl p.dst) (bl p.path) = false ∧ Path.within (bl p.path) (bl p.dst) = false := by
   have ha := apart_of hr k3
   unfold Path.apart at ha
   simp only [Bool.and_eq_true, Bool.not_eq_true'] at ha
   exact ha
  obtain ⟨x, hx⟩ := Option.ne_none_iff_exists'.1 h1
  obtain ⟨hm, hpx⟩ := Yy hx
  have hwx : Path.within (bl x.path) (bl p.path) = true := by rw [hpx]; exact Path.within_refl _
  refine (act_move i1).2 ?_
  rw [i2, i3]
  have hin : ∀ y, y ∈ inE (moveL L (inE L (bl p.path)) (bl p.path) (bl p.dst)) (bl p.dst) ↔ ∃ z ∈ L, Path.within (bl z.path) (bl p.path) = true ∧ y = mvE (bl p.path) (bl p.dst) z := fun y => by
   rw [Yx, hmem]
   constructor
   ·rintro ⟨a | ⟨a, _⟩, b⟩
    ·exact a
    ·rw [h.none_in f1 y a] at b; cases b
   ·rintro ⟨z, hz, hw, rfl⟩
    exact ⟨Or.inl ⟨z, hz, hw, rfl⟩, mv_in hw⟩
  have hf2 : Zt (moveL L (inE L (bl p.path)) (bl p.path) (bl p.dst)) (bl p.path) = none := find_no (fun y hy e => by
   rcases (hmem y).1 hy with ⟨z, hz, hw, rfl⟩ | ⟨hy, hn⟩
   ·have := mv_in (q := bl p.dst) hw
    rw [e, hap.2] at this
    cases this
   ·rw [e, Path.within_refl] at hn; cases hn)
  refine ⟨?_, freeE_zero.2 ⟨hf2, fun q hq => ?_⟩, ?_, ?_⟩
  ·rw [find_is hR.strict ((hmem _).2 (Or.inl ⟨x, hm, hwx, rfl⟩)) (by rw [mv_path (r := []) (by rw [hpx, List.append_nil]) hwx, List.append_nil])]
   simp
  ·rw [← hpx] at hq
   obtain ⟨d, hd, ed, kd⟩ := h.above x hm q hq
   refine ⟨d, find_is hR.strict ((hmem d).2 (Or.inr ⟨hd, ?_⟩)) ed, kd⟩
   cases hw : Path.within (bl d.path) (bl p.path) with
   | false => rfl
   | true =>
    obtain ⟨b, eb, _⟩ := Path.parent_some hq
    have h4 : Path.within (bl p.path) (bl d.path) = true := by rw [← hpx, eb, ed]; exact Path.within_join _ _
    have h5 := Path.within_both hw h4
    have := parent_less hq
    rw [← ed, h5, hpx] at this
    exact absurd this (List.lt_irrefl _)
  ·rw [List.all_eq_true]
   intro y hy
   obtain ⟨z, hz, hw, rfl⟩ := (hin y).1 hy
   rw [mv_back hw]
   exact (h.own z hz).1
  ·refine Yz h.strict (strict_moveL hR.strict _ _ _) (fun y => ?_)
   rw [hR.mem_move hf2]
   constructor
   ·intro hy
    cases hw : Path.within (bl y.path) (bl p.path) with
    | true => exact Or.inl ⟨mvE (bl p.path) (bl p.dst) y, (hmem _).2 (Or.inl ⟨y, hy, hw, rfl⟩), mv_in hw, (mv_back hw).symm⟩
    | false => exact Or.inr ⟨(hmem y).2 (Or.inr ⟨hy, hw⟩), h.none_in f1 y hy⟩
   ·rintro (⟨z, hz, hw, rfl⟩ | ⟨hy, hn⟩)
    ·obtain ⟨u, hu, huw, rfl⟩ := (hin z).1 (Yx.2 ⟨hz, hw⟩)
     rw [mv_back huw]
     exact hu
    ·rcases (hmem y).1 hy with ⟨z, hz, hw, rfl⟩ | ⟨hy, _⟩
     ·rw [mv_in hw] at hn; cases hn
     ·exact hy
 ·obtain ⟨x, y, hx, hxk, hw, rfl⟩ := (act_change k4).1 e
  obtain ⟨hm, hpx⟩ := Yy hx
  obtain ⟨e1, e2⟩ := with_facts hw
  refine (act_change (by omega)).2 ⟨y, x, ?_, ?_, with_back hr k4 hw, (put_back h.strict hm e1).symm⟩
  ·rw [i2]
   exact find_is hR.strict (Zg.2 (Or.inl rfl)) (by rw [e1, hpx])
  ·rw [e2, i1, hxk]
theorem do_of {L L' : List En} {p : Pr} (e : doE L p = (L', 0)) : Zv p = true ∧ actE L p = (L', 0) := by
 unfold doE at e
 split at e
 ·rename_i h; exact ⟨h, e⟩
 ·simp at e
theorem run_cons {L L' : List En} {p : Pr} {ps : List Pr} {k k' : Nat} : runE L (p :: ps) k = (L', 0, k') ↔ ∃ M, doE L p = (M, 0) ∧ runE M ps (k + 1) = (L', 0, k') := by
 rw [runE]
 generalize doE L p = r
 obtain ⟨M, e⟩ := r
 simp only
 by_cases h : e = 0
 ·subst h
  rw [if_pos rfl]
  constructor
  ·intro hM; exact ⟨M, rfl, hM⟩
  ·rintro ⟨M', e, hM⟩; cases e; exact hM
 ·rw [if_neg h]
  constructor
  ·intro hM; simp at hM; exact absurd hM.2.1 h
  ·rintro ⟨M', e', _⟩; cases e'; exact absurd rfl h
theorem run_zero : ∀ {ps : List Pr} {L L' : List En} {k k' : Nat}, runE L ps k = (L', 0, k') → k' = 0
 | [], _, _, _, _, e => by simp [runE] at e; exact e.2.symm
 | p :: ps, _, _, _, _, e => by
  obtain ⟨M, _, h⟩ := run_cons.1 e
  exact run_zero h
theorem run_place : ∀ {ps : List Pr} {L L' : List En} {k k' : Nat} (j : Nat), runE L ps k = (L', 0, k') → runE L ps j = (L', 0, k')
 | [], _, _, _, _, _, e => by simp [runE] at e ⊢; exact e
 | p :: ps, _, _, _, _, j, e => by
  obtain ⟨M, h1, h⟩ := run_cons.1 e
  exact run_cons.2 ⟨M, h1, run_place (j + 1) h⟩
theorem run_append : ∀ {ps qs : List Pr} {L M N : List En}, runE L ps 0 = (M, 0, 0) → runE M qs 0 = (N, 0, 0) → runE L (ps ++ qs) 0 = (N, 0, 0)
 | [], _, _, _, _, e, h => by simp [runE] at e; subst e; exact h
 | p :: ps, qs, _, _, _, e, h => by
  obtain ⟨M', h1, h2⟩ := run_cons.1 e
  exact run_cons.2 ⟨M', h1, run_place 1 (run_append (run_place 0 h2) h)⟩
theorem Zl.run : ∀ {ps : List Pr} {L L' : List En}, Zl L → runE L ps 0 = (L', 0, 0) → Zl L'
 | [], _, _, h, e => by simp [runE] at e; subst e; exact h
 | p :: ps, _, _, h, e => by
  obtain ⟨M, h1, h2⟩ := run_cons.1 e
  exact Zl.run (h.act (do_of h1).1 (do_of h1).2) (run_place 0 h2)
theorem Zl.undone : ∀ {ps : List Pr} {L L' : List En}, Zl L → runE L ps 0 = (L', 0, 0) → runE L' (ps.reverse.map inv) 0 = (L, 0, 0)
 | [], _, _, _, e => by simp [runE] at e ⊢; exact e.symm
 | p :: ps, L, L', h, e => by
  obtain ⟨M, h1, h2⟩ := run_cons.1 e
  obtain ⟨hr, ha⟩ := do_of h1
  have hM := h.act hr ha
  have h3 := Zl.undone hM (run_place 0 h2)
  rw [List.reverse_cons, List.map_append]
  refine run_append h3 (run_cons.2 ⟨L, ?_, rfl⟩)
  unfold doE
  rw [if_pos (right_inv hr)]
  exact h.undo hr ha
abbrev Fm := List UInt8 → Option En
def backM (A B s : List UInt8) : List UInt8 := A ++ s.drop B.length
def okF (p : Pr) (f : Fm) : Prop :=
 if p.kind = 1 ∨ p.kind = 3 ∨ p.kind = 5 then f (bl p.path) = none ∧ ∀ q, Path.parent (bl p.path) = some q → ∃ d, f q = some d ∧ d.kind = 1
 else if p.kind = 2 ∨ p.kind = 4 ∨ p.kind = 6 then (∃ x, f (bl p.path) = some x ∧ x.kind = p.kind / 2 ∧ x.lines = [] ∧ x.data = ⟨#[]⟩) ∧ ∀ s, Path.within s (bl p.path) = true → s ≠ bl p.path → f s = none
 else if p.kind = 10 then f (bl p.path) ≠ none ∧ (f (bl p.dst) = none ∧ ∀ q, Path.parent (bl p.dst) = some q → ∃ d, f q = some d ∧ d.kind = 1) ∧ ∀ s, Path.within s (bl p.path) = true → f s ≠ none → Path.right (Path.moved s (bl p.path) (bl p.dst)) = true
 else ∃ x y, f (bl p.path) = some x ∧ x.kind = (if p.kind = 9 then 3 else 2) ∧ Zb x p = some y
def effF (p : Pr) (f : Fm) : Fm := fun s =>
 if p.kind = 1 ∨ p.kind = 3 ∨ p.kind = 5 then (if s = bl p.path then some ⟨p.path, (p.kind + 1) / 2, [], ⟨#[]⟩⟩ else f s)
 else if p.kind = 2 ∨ p.kind = 4 ∨ p.kind = 6 then (if s = bl p.path then none else f s)
 else if p.kind = 10 then (if Path.within s (bl p.dst) then (f (backM (bl p.path) (bl p.dst) s)).map (mvE (bl p.path) (bl p.dst)) else if Path.within s (bl p.path) then none else f s)
 else (if s = bl p.path then (f s).bind (fun x => Zb x p) else f s)
def wants (p : Pr) : Prop := p.kind = 1 ∨ p.kind = 3 ∨ p.kind = 5
theorem find_path {L : List En} {s : List UInt8} {x : En} (h : Zt L s = some x) : bl x.path = s := (Yy h).2
theorem find_mem {L : List En} (h : Zp L) {s : List UInt8} {x : En} : Zt L s = some x ↔ x ∈ L ∧ bl x.path = s :=
 ⟨fun e => Yy e, fun e => find_is h e.1 e.2⟩
theorem find_ext {A B : List En} (hA : Zp A) (hB : Zp B) (h : ∀ s, Zt A s = Zt B s) : A = B :=
 Yz hA hB (fun x => by
  have h1 := find_mem hA (s := bl x.path) (x := x)
  have h2 := find_mem hB (s := bl x.path) (x := x)
  rw [h] at h1
  constructor
  ·intro hx; exact (h2.1 (h1.2 ⟨hx, rfl⟩)).1
  ·intro hx; exact (h1.1 (h2.2 ⟨hx, rfl⟩)).1)
theorem opt_ext {a b : Option En} (h : ∀ x, a = some x ↔ b = some x) : a = b := by
 cases a with
 | none =>
  cases b with
  | none => rfl
  | some y => exact (((h y).2 rfl).symm ▸ rfl)
 | some x => exact ((h x).1 rfl).symm
theorem find_put {L : List En} (h : Zp L) (x : En) (s : List UInt8) : Zt (putE L x) s = if s = bl x.path then some x else Zt L s := by
 refine opt_ext (fun y => ?_)
 rw [find_mem (Zf h x), Zg]
 by_cases e : s = bl x.path
 ·rw [if_pos e]
  constructor
  ·rintro ⟨(rfl | ⟨_, hn⟩), hp⟩
   ·rfl
   ·exact absurd (hp.trans e) hn
  ·intro hy; cases hy; exact ⟨Or.inl rfl, e.symm⟩
 ·rw [if_neg e, find_mem h]
  constructor
  ·rintro ⟨(rfl | ⟨a, _⟩), hp⟩
   ·exact absurd hp.symm e
   ·exact ⟨a, hp⟩
  ·rintro ⟨a, hp⟩; exact ⟨Or.inr ⟨a, fun e2 => e (hp.symm.trans e2)⟩, hp⟩
theorem find_del {L : List En} (h : Zp L) (p s : List UInt8) : Zt (delE L p) s = if s = p then none else Zt L s := by
 refine opt_ext (fun y => ?_)
 rw [find_mem (strict_delE h p), mem_delE]
 by_cases e : s = p
 ·rw [if_pos e]
  constructor
  ·rintro ⟨⟨_, hn⟩, hp⟩; exact absurd (hp.trans e) hn
  ·intro hy; cases hy
 ·rw [if_neg e, find_mem h]
  constructor
  ·rintro ⟨⟨a, _⟩, hp⟩; exact ⟨a, hp⟩
  ·rintro ⟨a, hp⟩; exact ⟨⟨a, fun e2 => e (hp.symm.trans e2)⟩, hp⟩
theorem back_in {A B r : List UInt8} : backM A B (B ++ r) = A ++ r := by
 unfold backM; rw [List.drop_left]
theorem within_app {s B : List UInt8} (h : Path.within s B = true) : ∃ r, s = B ++ r ∧ (r = [] ∨ ∃ t, r = 47 :: t) := by
 rcases (Path.within_iff _ _).1 h with e | ⟨r, e⟩
 ·exact ⟨[], by simpa using e, Or.inl rfl⟩
 ·exact ⟨47 :: r, e, Or.inr ⟨r, rfl⟩⟩
theorem within_of {A r : List UInt8} (h : r = [] ∨ ∃ t, r = 47 :: t) : Path.within (A ++ r) A = true := by
 rcases h with rfl | ⟨t, rfl⟩
 ·rw [List.append_nil]; exact Path.within_refl _
 ·exact Path.within_join _ _
theorem back_within {A B s : List UInt8} (h : Path.within s B = true) : Path.within (backM A B s) A = true := by
 obtain ⟨r, rfl, hr⟩ := within_app h
 rw [back_in]
 exact within_of hr
theorem mv_at {A B s : List UInt8} {x : En} (h : Path.within s B = true) (e : bl x.path = backM A B s) : bl (mvE A B x).path = s := by
 obtain ⟨r, rfl, hr⟩ := within_app h
 rw [back_in] at e
 exact mv_path e (by rw [e]; exact within_of hr)
theorem back_mv {A B : List UInt8} {x : En} (h : Path.within (bl x.path) A = true) : backM A B (bl (mvE A B x).path) = bl x.path := by
 obtain ⟨r, e, _⟩ := in_path h
 rw [mv_path e h, back_in, e]
theorem Zl.find_move {L : List En} (h : Zl L) {A B : List UInt8} (hB : Zt L B = none) (s : List UInt8) : Zt (moveL L (inE L A) A B) s = if Path.within s B then (Zt L (backM A B s)).map (mvE A B) else if Path.within s A then none else Zt L s := by
 refine opt_ext (fun y => ?_)
 rw [find_mem (strict_moveL h.strict _ _ _), h.mem_move hB]
 cases hw : Path.within s B with
 | true =>
  rw [if_pos rfl]
  constructor
  ·rintro ⟨⟨x, hx, hxw, rfl⟩ | ⟨hy, hn⟩, hp⟩
   ·rw [← hp, back_mv hxw, find_of_mem h.strict hx]; rfl
   ·have := h.none_in hB y hy
    rw [hp, hw] at this; cases this
  ·intro e
   obtain ⟨x, hx, rfl⟩ := Option.map_eq_some_iff.1 e
   obtain ⟨h1, h2⟩ := Yy hx
   exact ⟨Or.inl ⟨x, h1, by rw [h2]; exact back_within hw, rfl⟩, mv_at hw h2⟩
 | false =>
  rw [if_neg (by simp)]
  cases hwa : Path.within s A with
  | true =>
   rw [if_pos rfl]
   constructor
   ·rintro ⟨⟨x, hx, hxw, rfl⟩ | ⟨hy, hn⟩, hp⟩
    ·have := mv_in (q := B) hxw
     rw [hp, hw] at this; cases this
    ·rw [hp, hwa] at hn; cases hn
   ·intro e; cases e
  | false =>
   rw [if_neg (by simp), find_mem h.strict]
   constructor
   ·rintro ⟨⟨x, hx, hxw, rfl⟩ | ⟨hy, hn⟩, hp⟩
    ·have := mv_in (q := B) hxw
     rw [hp, hw] at this; cases this
    ·exact ⟨hy, hp⟩
   ·rintro ⟨hy, hp⟩; exact ⟨Or.inr ⟨hy, by rw [hp]; exact hwa⟩, hp⟩
theorem Zl.in_only {L : List En} (h : Zl L) {p : List UInt8} {x : En} (hx : Zt L p = some x) : (inE L p).length = 1 ↔ ∀ s, Path.within s p = true → s ≠ p → Zt L s = none := by
 obtain ⟨h1, h2⟩ := Yy hx
 have hm : x ∈ inE L p := Yx.2 ⟨h1, by rw [h2]; exact Path.within_refl _⟩
 constructor
 ·intro hl s hs hne
  refine find_no (fun y hy e => ?_)
  have := in_one hl hm (Yx.2 ⟨hy, by rw [e]; exact hs⟩)
  exact hne (by rw [← e, ← this, h2])
 ·intro hn
  have : inE L p = [x] := Yz (List.Pairwise.filter _ h.strict) (List.pairwise_singleton ..) (fun y => by
   rw [List.mem_singleton]
   constructor
   ·intro hy
    obtain ⟨y1, y2⟩ := Yx.1 hy
    by_cases e : bl y.path = p
    ·exact strict_inj h.strict y1 h1 (e.trans h2.symm)
    ·have := hn _ y2 e
     rw [find_of_mem h.strict y1] at this; cases this
   ·rintro rfl; exact hm)
  rw [this]; rfl
theorem moved_mv {A B : List UInt8} (x : En) : bl (mvE A B x).path = Path.moved (bl x.path) A B := rfl
theorem Zl.told {L M : List En} (h : Zl L) {p : Pr} (hr : Zv p = true) : actE L p = (M, 0) ↔ okF p (Zt L) ∧ (wants p → L.length < 1024) ∧ Zp M ∧ ∀ s, Zt M s = effF p (Zt L) s := by
 obtain ⟨hk, hp, hrule⟩ := rule_of hr
 unfold okF effF wants
 by_cases k1 : p.kind = 1 ∨ p.kind = 3 ∨ p.kind = 5
 ·simp only [if_pos k1]
  rw [act_add k1, freeE_zero]
  constructor
  ·rintro ⟨h1, h2, rfl⟩
   exact ⟨h1, fun _ => h2, Zf h.strict _, fun s => find_put h.strict _ s⟩
  ·rintro ⟨h1, h2, h3, h4⟩
   exact ⟨h1, h2 k1, find_ext h3 (Zf h.strict _) (fun s => (h4 s).trans (find_put h.strict ⟨p.path, (p.kind + 1) / 2, [], ⟨#[]⟩⟩ s).symm)⟩
 ·simp only [if_neg k1]
  by_cases k2 : p.kind = 2 ∨ p.kind = 4 ∨ p.kind = 6
  ·simp only [if_pos k2]
   rw [act_rm k2]
   constructor
   ·rintro ⟨x, hx, a, b, c, d, rfl⟩
    exact ⟨⟨⟨x, hx, a, b, c⟩, (h.in_only hx).1 d⟩, fun e => absurd e k1, strict_delE h.strict _, fun s => find_del h.strict _ s⟩
   ·rintro ⟨⟨⟨x, hx, a, b, c⟩, d⟩, _, h3, h4⟩
    exact ⟨x, hx, a, b, c, (h.in_only hx).2 d, find_ext h3 (strict_delE h.strict _) (fun s => (h4 s).trans (find_del h.strict _ s).symm)⟩
  ·simp only [if_neg k2]
   by_cases k3 : p.kind = 10
   ·simp only [if_pos k3]
    rw [act_move k3, freeE_zero]
    have hall : (inE L (bl p.path)).all (fun x => Path.right (bl (mvE (bl p.path) (bl p.dst) x).path)) = true ↔ ∀ s, Path.within s (bl p.path) = true → Zt L s ≠ none → Path.right (Path.moved s (bl p.path) (bl p.dst)) = true := by
     rw [List.all_eq_true]
     constructor
     ·intro ha s hs hn
      obtain ⟨x, hx⟩ := Option.ne_none_iff_exists'.1 hn
      obtain ⟨x1, x2⟩ := Yy hx
      have := ha x (Yx.2 ⟨x1, by rw [x2]; exact hs⟩)
      rw [moved_mv, x2] at this
      exact this
     ·intro ha x hx
      obtain ⟨x1, x2⟩ := Yx.1 hx
      rw [moved_mv]
      exact ha _ x2 (by rw [find_of_mem h.strict x1]; simp)
    rw [hall]
    constructor
    ·rintro ⟨a, b, c, rfl⟩
     exact ⟨⟨a, b, c⟩, fun e => absurd e k1, strict_moveL h.strict _ _ _, fun s => h.find_move b.1 s⟩
    ·rintro ⟨⟨a, b, c⟩, _, h3, h4⟩
     exact ⟨a, b, c, find_ext h3 (strict_moveL h.strict _ _ _) (fun s => (h4 s).trans (h.find_move b.1 s).symm)⟩
   ·simp only [if_neg k3]
    have k4 : p.kind = 7 ∨ p.kind = 8 ∨ p.kind = 9 := by omega
    rw [act_change k4]
    have key : ∀ x y, Zt L (bl p.path) = some x → Zb x p = some y → ∀ s, Zt (putE L y) s = if s = bl p.path then (Zt L s).bind (fun x => Zb x p) else Zt L s := fun x y hx hw s => by
     rw [find_put h.strict, (with_facts hw).1, find_path hx]
     by_cases e : s = bl p.path
     ·rw [if_pos e, if_pos e, e, hx]; exact hw.symm
     ·rw [if_neg e, if_neg e]
    constructor
    ·rintro ⟨x, y, hx, a, hw, rfl⟩
     exact ⟨⟨x, y, hx, a, hw⟩, fun e => absurd e k1, Zf h.strict _, key x y hx hw⟩
    ·rintro ⟨⟨x, y, hx, a, hw⟩, _, h3, h4⟩
     exact ⟨x, y, hx, a, hw, find_ext h3 (Zf h.strict _) (fun s => (h4 s).trans (key x y hx hw s).symm)⟩
def Yp : En := ⟨⟨#[]⟩, 0, [], ⟨#[]⟩⟩
def pathP (k : Int) (p : ByteArray) : Pr := ⟨k, p, ⟨#[]⟩, ⟨#[]⟩, 0, [], []⟩
def hunkP (p : ByteArray) (h : Diff.Hk ByteArray) : Pr := ⟨7, p, ⟨#[]⟩, ⟨#[]⟩, (h.at' : Int), h.o, h.n⟩
def dataP (p f t : ByteArray) : Pr := ⟨9, p, t, f, 0, [], []⟩
def chgL (p : ByteArray) (f t : En) : List Pr := (Diff.diffs f.lines t.lines).map (hunkP p) ++ (if f.data = t.data then [] else [dataP p f.data t.data])
def likeE (L : List En) (x : En) : Option En := match Zt L (bl x.path) with
 | none => none
 | some y => if y.kind = x.kind then some y else none
def goL (b : List En) (x : En) : List Pr := match likeE b x with
 | some _ => []
 | none => chgL x.path x Yp ++ [pathP (2 * x.kind) x.path]
def comeL (a : List En) (x : En) : List Pr := match likeE a x with
 | some y => chgL x.path y x
 | none => pathP (2 * x.kind - 1) x.path :: chgL x.path Yp x
def recL (a b : List En) : List Pr := a.reverse.flatMap (goL b) ++ b.flatMap (comeL a)
theorem like_some {L : List En} {x y : En} (h : likeE L x = some y) : y ∈ L ∧ bl y.path = bl x.path ∧ y.kind = x.kind := by
 unfold likeE at h
 cases e : Zt L (bl x.path) with
 | none => rw [e] at h; cases h
 | some z =>
  rw [e] at h
  dsimp only at h
  split at h
  ·rename_i hk
   cases h
   exact ⟨(Yy e).1, (Yy e).2, hk⟩
  ·cases h
theorem like_of {L : List En} (hS : Zp L) {x y : En} (hy : y ∈ L) (hp : bl y.path = bl x.path) (hk : y.kind = x.kind) : likeE L x = some y := by
 unfold likeE
 rw [find_is hS hy hp]
 dsimp only
 rw [if_pos hk]
theorem run_one12 {L M : List En} {p : Pr} (hr : Zv p = true) (e : actE L p = (M, 0)) : runE L [p] 0 = (M, 0, 0) := by
 have h : doE L p = (M, 0) := by unfold doE; rw [if_pos hr, e]
 simp [runE, h]
theorem put_put {L : List En} (h : Zp L) {x y : En} (e : bl x.path = bl y.path) : putE (putE L x) y = putE L y :=
 Yz (Zf (Zf h x) y) (Zf h y) (fun z => by
  rw [Zg, Zg, Zg]
  constructor
  ·rintro (h1 | ⟨(h1 | ⟨h1, _⟩), h2⟩)
   ·exact Or.inl h1
   ·exact absurd (by rw [h1, e]) h2
   ·exact Or.inr ⟨h1, h2⟩
  ·rintro (h1 | ⟨h1, h2⟩)
   ·exact Or.inl h1
   ·exact Or.inr ⟨Or.inr ⟨h1, by rw [e]; exact h2⟩, h2⟩)
theorem put_self {L : List En} (h : Zp L) {x : En} (hx : x ∈ L) : putE L x = L :=
 Yz (Zf h x) h (fun z => by
  rw [Zg]
  constructor
  ·rintro (rfl | h1)
   ·exact hx
   ·exact h1.1
  ·intro hz
   by_cases e : bl z.path = bl x.path
   ·exact Or.inl (strict_inj h hz hx e)
   ·exact Or.inr ⟨hz, e⟩)
theorem thing_ways {x : En} (h : thing x = true) : (x.kind = 1 ∧ x.lines = [] ∧ x.data.size = 0) ∨ (x.kind = 2 ∧ Lines.right (Lines.bs x.lines) = true ∧ x.data.size = 0) ∨ (x.kind = 3 ∧ x.lines = []) := by
 unfold thing at h
 by_cases h1 : x.kind = 1
 ·rw [if_pos h1, Bool.and_eq_true, decide_eq_true_eq, decide_eq_true_eq] at h
  exact Or.inl ⟨h1, h⟩
 ·rw [if_neg h1] at h
  by_cases h2 : x.kind = 2
  ·rw [if_pos h2, Bool.and_eq_true, decide_eq_true_eq] at h
   exact Or.inr (Or.inl ⟨h2, h⟩)
  ·rw [if_neg h2] at h
   by_cases h3 : x.kind = 3
   ·rw [if_pos h3, decide_eq_true_eq] at h
    exact Or.inr (Or.inr ⟨h3, h⟩)
   ·rw [if_neg h3] at h
    cases h
theorem lines_right_of {x : En} (h : thing x = true) (hk : x.kind = 2) : Lines.right (Lines.bs x.lines) = true := by
 unfold thing at h
 rw [if_neg (by omega), if_pos hk] at h
 simp only [Bool.and_eq_true] at h
 exact h.1
theorem run_hunks : ∀ (H : List (Diff.Hk ByteArray)) (L : List En) (x : En) (l : List ByteArray) (last : Int), Zl L → x ∈ L → x.kind = 2 → Diff.applyAll x.lines H = some l → Diff.Spread last H →
  (∀ h ∈ H, Lines.right (Lines.bs h.o) = true ∧ Lines.right (Lines.bs h.n) = true ∧ (h.at' : Int) ≤ 1073741824) → runE L (H.map (hunkP x.path)) 0 = (putE L { x with lines := l }, 0, 0)
 | [], L, x, l, last, hT, hx, hk, ha, _, _ => by
  simp only [Diff.applyAll, Option.some.injEq] at ha
  subst ha
  rw [put_self hT.strict hx]
  rfl
 | h :: H, L, x, l, last, hT, hx, hk, ha, hs, hr => by
  unfold Diff.applyAll at ha
  cases e1 : Diff.apply1 x.lines h with
  | none => rw [e1] at ha; cases ha
  | some l1 =>
   rw [e1] at ha
   dsimp only at ha
   obtain ⟨hro, hrn, hat⟩ := hr h (List.mem_cons_self ..)
   have hp := (hT.own x hx).1
   have hR : Zv (hunkP x.path h) = true := by
    have h0 := hs.1
    unfold Zv hunkP Yn linesP
    simp only [Bool.and_eq_true, decide_eq_true_eq]
    refine ⟨⟨by omega, hp⟩, ?_⟩
    simp [hat, hro, hrn]
    omega
   have hA : actE L (hunkP x.path h) = (putE L { x with lines := l1 }, 0) := by
    refine (act_change (p := hunkP x.path h) (Or.inl rfl)).2 ⟨x, _, find_is hT.strict hx rfl, by rw [hk]; rfl, ?_, rfl⟩
    unfold Zb hunkP
    simp only [if_true]
    have : hunkL x.lines (h.at' : Int) h.o h.n = some l1 := by
     unfold Diff.apply1 at e1
     unfold hunkL
     split at e1
     ·rename_i hc
      rw [if_pos ⟨by omega, by simpa using hc.1, by simpa using hc.2⟩]
      simpa using e1
     ·cases e1
    rw [this]
    rfl
   have hT1 := hT.act hR hA
   have hx1 : ({ x with lines := l1 } : En) ∈ putE L { x with lines := l1 } := Zg.2 (Or.inl rfl)
   have ih := run_hunks H _ { x with lines := l1 } l _ hT1 hx1 hk ha hs.2.2 (fun z hz => hr z (List.mem_cons_of_mem _ hz))
   rw [put_put (x := { x with lines := l1 }) (y := { x with lines := l }) hT.strict rfl] at ih
   exact run_append (run_one12 hR hA) ih
theorem flush_mem {k : Nat} {o n : List ByteArray} {r : List (Diff.Hk ByteArray)} {h : Diff.Hk ByteArray} (hm : h ∈ Diff.flush k o n r) : (h = ⟨k, o, n⟩) ∨ h ∈ r := by
 unfold Diff.flush at hm
 split at hm
 ·exact Or.inr hm
 ·exact List.mem_cons.1 hm
theorem hunks_of : ∀ (m k : Nat) (o n a b : List ByteArray), a.length + b.length ≤ m → ∀ h ∈ Diff.hunks k o n a b, (∀ y ∈ h.o, y ∈ o ∨ y ∈ a) ∧ (∀ y ∈ h.n, y ∈ n ∨ y ∈ b) ∧ h.at' + h.n.length ≤ k + n.length + b.length ∧ h.o.length ≤ o.length + a.length := by
 intro m
 induction m with
 | zero =>
  intro k o n a b hm h hh
  have ha : a = [] := List.length_eq_zero_iff.1 (by omega)
  have hb : b = [] := List.length_eq_zero_iff.1 (by omega)
  subst ha hb
  rw [Diff.hunks_nn] at hh
  rcases flush_mem hh with rfl | hh
  ·exact ⟨fun y hy => Or.inl hy, fun y hy => Or.inl hy, by simp, by simp⟩
  ·cases hh
 | succ m ih =>
  intro k o n a b hm h hh
  match a, b, hm, hh with
  | [], [], hm, hh =>
   rw [Diff.hunks_nn] at hh
   rcases flush_mem hh with rfl | hh
   ·exact ⟨fun y hy => Or.inl hy, fun y hy => Or.inl hy, by simp, by simp⟩
   ·cases hh
  | x :: a, [], hm, hh =>
   rw [Diff.hunks_cn] at hh
   obtain ⟨h1, h2, h3, h4⟩ := ih k (o ++ [x]) n a [] (by simp at hm ⊢; omega) h hh
   refine ⟨fun y hy => ?_, h2, h3, by simp at h4 ⊢; omega⟩
   rcases h1 y hy with h5 | h5
   ·rcases List.mem_append.1 h5 with h5 | h5
    ·exact Or.inl h5
    ·exact Or.inr (by simp at h5; simp [h5])
   ·exact Or.inr (List.mem_cons_of_mem _ h5)
  | [], y :: b, hm, hh =>
   rw [Diff.hunks_nc] at hh
   obtain ⟨h1, h2, h3, h4⟩ := ih k o (n ++ [y]) [] b (by simp at hm ⊢; omega) h hh
   refine ⟨h1, fun z hz => ?_, by simp at h3 ⊢; omega, h4⟩
   rcases h2 z hz with h5 | h5
   ·rcases List.mem_append.1 h5 with h5 | h5
    ·exact Or.inl h5
    ·exact Or.inr (by simp at h5; simp [h5])
   ·exact Or.inr (List.mem_cons_of_mem _ h5)
  | x :: a, y :: b, hm, hh =>
   by_cases e : x = y
   ·subst e
    rw [Diff.hunks_same] at hh
    rcases flush_mem hh with rfl | hh
    ·exact ⟨fun y hy => Or.inl hy, fun y hy => Or.inl hy, by simp, by simp⟩
    ·obtain ⟨h1, h2, h3, h4⟩ := ih (k + n.length + 1) [] [] a b (by simp at hm ⊢; omega) h hh
     refine ⟨fun z hz => Or.inr (List.mem_cons_of_mem _ ((h1 z hz).resolve_left (by simp))), fun z hz => Or.inr (List.mem_cons_of_mem _ ((h2 z hz).resolve_left (by simp))), by simp at h3 ⊢; omega, by simp at h4 ⊢; omega⟩
   ·by_cases hg : Diff.lcs (x :: a) b ≤ Diff.lcs a (y :: b)
    ·rw [Diff.hunks_goes _ _ _ _ _ e hg] at hh
     obtain ⟨h1, h2, h3, h4⟩ := ih k (o ++ [x]) n a (y :: b) (by simp at hm ⊢; omega) h hh
     refine ⟨fun z hz => ?_, h2, h3, by simp at h4 ⊢; omega⟩
     rcases h1 z hz with h5 | h5
     ·rcases List.mem_append.1 h5 with h5 | h5
      ·exact Or.inl h5
      ·exact Or.inr (by simp at h5; simp [h5])
     ·exact Or.inr (List.mem_cons_of_mem _ h5)
    ·rw [Diff.hunks_comes _ _ _ _ _ e hg] at hh
     obtain ⟨h1, h2, h3, h4⟩ := ih k o (n ++ [y]) (x :: a) b (by simp at hm ⊢; omega) h hh
     refine ⟨h1, fun z hz => ?_, by simp at h3 ⊢; omega, h4⟩
     rcases h2 z hz with h5 | h5
     ·rcases List.mem_append.1 h5 with h5 | h5
      ·exact Or.inl h5
      ·exact Or.inr (by simp at h5; simp [h5])
     ·exact Or.inr (List.mem_cons_of_mem _ h5)
theorem diffs_of {a b : List ByteArray} {h : Diff.Hk ByteArray} (hh : h ∈ Diff.diffs a b) : (∀ y ∈ h.o, y ∈ a) ∧ (∀ y ∈ h.n, y ∈ b) ∧ h.at' + h.n.length ≤ b.length ∧ h.o.length ≤ a.length := by
 obtain ⟨h1, h2, h3, h4⟩ := hunks_of _ 0 [] [] a b (Nat.le_refl _) h hh
 exact ⟨fun y hy => (h1 y hy).resolve_left (by simp), fun y hy => (h2 y hy).resolve_left (by simp), by simpa using h3, by simpa using h4⟩
theorem right_sub {a b : List ByteArray} (h : Lines.right (Lines.bs b) = true) (hs : ∀ y ∈ a, y ∈ b) : Lines.right (Lines.bs a) = true := by
 unfold Lines.right Lines.bs at *
 rw [List.all_eq_true] at *
 intro z hz
 obtain ⟨y, hy, rfl⟩ := List.mem_map.1 hz
 exact h _ (List.mem_map.2 ⟨y, hs y hy, rfl⟩)
theorem run_chg {L : List En} (hT : Zl L) {x f t : En} (hx : x ∈ L) (hf : f.lines = x.lines ∧ f.data = x.data) (ho : ownOk { x with lines := t.lines, data := t.data }) (hlen : t.lines.length ≤ 1073741824) :
  runE L (chgL x.path f t) 0 = (putE L { x with lines := t.lines, data := t.data }, 0, 0) := by
 obtain ⟨hr0, ht0⟩ := hT.own x hx
 obtain ⟨_, ht1⟩ := ho
 unfold chgL
 rw [hf.1, hf.2]
 have e1 : runE L ((Diff.diffs x.lines t.lines).map (hunkP x.path)) 0 = (putE L { x with lines := t.lines }, 0, 0) := by
  by_cases hk : x.kind = 2
  ·refine run_hunks _ L x t.lines (-1) hT hx hk (Diff.diffs_make _ _) (Diff.diffs_spread _ _) (fun h hh => ?_)
   obtain ⟨h1, h2, h3, h4⟩ := diffs_of hh
   refine ⟨right_sub (lines_right_of ht0 hk) h1, right_sub (lines_right_of ht1 hk) h2, by omega⟩
  ·have l0 : x.lines = [] := by
    rcases thing_ways ht0 with h | h | h
    ·exact h.2.1
    ·exact absurd h.1 hk
    ·exact h.2
   have l1 : t.lines = [] := by
    rcases thing_ways ht1 with h | h | h
    ·exact h.2.1
    ·exact absurd h.1 hk
    ·exact h.2
   have : ({ x with lines := t.lines } : En) = x := by cases x; simp_all
   rw [this, put_self hT.strict hx, l0, l1, show Diff.diffs ([] : List ByteArray) [] = [] from (Diff.diffs_nil_iff _ _).2 rfl]
   rfl
 by_cases hd : x.data = t.data
 ·rw [if_pos hd, List.append_nil, e1]
  have : ({ x with lines := t.lines } : En) = { x with lines := t.lines, data := t.data } := by rw [← hd]
  rw [this]
 ·rw [if_neg hd]
  have hk : x.kind = 3 := by
   apply Classical.byContradiction
   intro hk
   have d0 : x.data.size = 0 := by
    rcases thing_ways ht0 with h | h | h
    ·exact h.2.2
    ·exact h.2.2
    ·exact absurd h.1 hk
   have d1 : t.data.size = 0 := by
    rcases thing_ways ht1 with h | h | h
    ·exact h.2.2
    ·exact h.2.2
    ·exact absurd h.1 hk
   apply hd
   apply ByteArray.ext
   rw [Array.size_eq_zero_iff.1 d0, Array.size_eq_zero_iff.1 d1]
  have hT1 := hT.run e1
  have hx1 : ({ x with lines := t.lines } : En) ∈ putE L { x with lines := t.lines } := Zg.2 (Or.inl rfl)
  have hR : Zv (dataP x.path x.data t.data) = true := by
   unfold Zv dataP Yn bytesP Zc
   simp [hd]
   exact hr0
  have hA : actE (putE L { x with lines := t.lines }) (dataP x.path x.data t.data) = (putE (putE L { x with lines := t.lines }) { x with lines := t.lines, data := t.data }, 0) := by
   refine (act_change (p := dataP x.path x.data t.data) (Or.inr (Or.inr rfl))).2 ⟨_, _, find_is hT1.strict hx1 rfl, by show x.kind = _; rw [hk]; rfl, ?_, rfl⟩
   unfold Zb dataP
   simp
  rw [put_put (x := { x with lines := t.lines }) (y := { x with lines := t.lines, data := t.data }) hT.strict rfl] at hA
  exact run_append e1 (run_one12 hR hA)
theorem del_at {pre suf : List En} {x : En} (h : Zp (pre ++ x :: suf)) : delE (pre ++ x :: suf) (bl x.path) = pre ++ suf := by
 have h1 := List.pairwise_append.1 h
 have h2 := List.pairwise_cons.1 h1.2.1
 refine Yz (strict_delE h _) (List.pairwise_append.2 ⟨h1.1, h2.2, fun a ha b hb => h1.2.2 a ha b (List.mem_cons_of_mem _ hb)⟩) (fun y => ?_)
 rw [mem_delE, List.mem_append, List.mem_append, List.mem_cons]
 constructor
 ·rintro ⟨h3 | (rfl | h3), h4⟩
  ·exact Or.inl h3
  ·exact absurd rfl h4
  ·exact Or.inr h3
 ·rintro (h3 | h3)
  ·exact ⟨Or.inl h3, fun e => List.lt_irrefl _ (e ▸ h1.2.2 y h3 x (List.mem_cons_self ..))⟩
  ·exact ⟨Or.inr (Or.inr h3), fun e => List.lt_irrefl _ (e ▸ h2.1 y h3)⟩
theorem run_gone {pre suf : List En} {x : En} (hT : Zl (pre ++ x :: suf)) (hw : ∀ y ∈ suf, Path.within (bl y.path) (bl x.path) = false) :
  runE (pre ++ x :: suf) (chgL x.path x Yp ++ [pathP (2 * x.kind) x.path]) 0 = (pre ++ suf, 0, 0) := by
 have hx : x ∈ pre ++ x :: suf := by simp
 obtain ⟨hr0, ht0⟩ := hT.own x hx
 have hk : x.kind = 1 ∨ x.kind = 2 ∨ x.kind = 3 := by
  rcases thing_ways ht0 with h | h | h <;> simp [h.1]
 have ho : ownOk { x with lines := Yp.lines, data := Yp.data } := by
  refine ⟨hr0, ?_⟩
  unfold thing Yp
  rcases hk with h | h | h <;> simp [h, Lines.right, Lines.bs] <;> rfl
 have e1 := run_chg hT hx (f := x) (t := Yp) ⟨rfl, rfl⟩ ho (by simp [Yp])
 have hT1 := hT.run e1
 generalize hL : putE (pre ++ x :: suf) { x with lines := Yp.lines, data := Yp.data } = L1 at e1 hT1
 have hx1 : ({ x with lines := Yp.lines, data := Yp.data } : En) ∈ L1 := hL ▸ Zg.2 (Or.inl rfl)
 have hR : Zv (pathP (2 * x.kind) x.path) = true := by
  unfold Zv pathP Yn bareP Zc
  rcases hk with h | h | h <;> simp [h] <;> exact hr0
 have hf := find_is hT1.strict hx1 rfl
 have h1 := List.pairwise_append.1 hT.strict
 have hone : (inE L1 (bl x.path)).length = 1 := by
  refine (hT1.in_only hf).2 (fun s hs hne => find_no (fun y hy e => ?_))
  rw [← hL] at hy
  rcases Zg.1 hy with rfl | ⟨hy, hy2⟩
  ·exact hne e.symm
  ·rcases List.mem_append.1 hy with hy | hy
   ·have hlt := h1.2.2 y hy x (List.mem_cons_self ..)
    rw [e] at hlt
    rcases (Path.within_iff _ _).1 hs with e2 | ⟨r, e2⟩
    ·exact hne e2
    ·rw [e2] at hlt
     exact (List.not_lt.2 (List.le_of_lt (show bl x.path < bl x.path ++ 47 :: r from by
      have : bl x.path ++ [] < bl x.path ++ 47 :: r := List.append_left_lt (List.nil_lt_cons ..)
      rwa [List.append_nil] at this))) hlt
   ·rcases List.mem_cons.1 hy with rfl | hy
    ·exact hy2 rfl
    ·rw [← e, hw y hy] at hs
     cases hs
 have hA : actE L1 (pathP (2 * x.kind) x.path) = (delE L1 (bl x.path), 0) := by
  refine (act_rm (p := pathP (2 * x.kind) x.path) ?_).2 ⟨_, hf, ?_, rfl, rfl, hone, rfl⟩
  ·show 2 * x.kind = 2 ∨ 2 * x.kind = 4 ∨ 2 * x.kind = 6
   omega
  ·show x.kind = 2 * x.kind / 2
   omega
 have hd : delE L1 (bl x.path) = pre ++ suf := by
  rw [← del_at hT.strict, ← hL]
  refine Yz (strict_delE (Zf hT.strict _) _) (strict_delE hT.strict _) (fun y => ?_)
  rw [mem_delE, mem_delE, Zg]
  constructor
  ·rintro ⟨rfl | h3, h4⟩
   ·exact absurd rfl h4
   ·exact ⟨h3.1, h4⟩
  ·rintro ⟨h3, h4⟩
   exact ⟨Or.inr ⟨h3, h4⟩, h4⟩
 rw [hd] at hA
 exact run_append e1 (run_one12 hR hA)
def keptB (b : List En) (x : En) : Bool := (likeE b x).isSome
theorem run_gos {a b : List En} (ha : Zl a) (hb : Zl b) : ∀ (suf pre : List En), pre ++ suf = a → runE a (suf.reverse.flatMap (goL b)) 0 = (pre ++ suf.filter (keptB b), 0, 0)
 | [], pre, e => by
  rw [← e]
  simp [runE]
 | x :: suf, pre, e => by
  have ih := run_gos ha hb suf (pre ++ [x]) (by simpa using e)
  rw [List.append_assoc, List.singleton_append] at ih
  have hT := ha.run ih
  have hxa : x ∈ a := by rw [← e]; simp
  have e2 : runE (pre ++ x :: suf.filter (keptB b)) (goL b x) 0 = (pre ++ (x :: suf).filter (keptB b), 0, 0) := by
   unfold goL
   cases hl : likeE b x with
   | some y =>
    have : keptB b x = true := by unfold keptB; rw [hl]; rfl
    rw [List.filter_cons_of_pos this]
    rfl
   | none =>
    have : ¬ keptB b x = true := by unfold keptB; rw [hl]; exact Bool.false_ne_true
    rw [List.filter_cons_of_neg this]
    refine run_gone hT (fun y hy => ?_)
    cases hw : Path.within (bl y.path) (bl x.path) with
    | false => rfl
    | true =>
     exfalso
     obtain ⟨hy1, hy2⟩ := List.mem_filter.1 hy
     have hya : y ∈ a := by rw [← e]; simp [hy1]
     unfold keptB at hy2
     cases hly : likeE b y with
     | none => rw [hly] at hy2; cases hy2
     | some z =>
      obtain ⟨hzb, hzp, hzk⟩ := like_some hly
      rcases (Path.within_iff _ _).1 hw with e3 | ⟨r, e3⟩
      ·have := strict_inj ha.strict hya hxa e3
       subst this
       rw [hl] at hly
       cases hly
      ·obtain ⟨d, hd, hdp, hdk⟩ := ha.anc _ r (bl x.path) y (Nat.le_refl _) hya e3
       have hdx := strict_inj ha.strict hd hxa hdp
       subst hdx
       obtain ⟨d2, hd2, hdp2, hdk2⟩ := hb.anc _ r (bl d.path) z (Nat.le_refl _) hzb (hzp.trans e3)
       have := like_of hb.strict hd2 hdp2 (hdk2.trans hdk.symm)
       rw [hl] at this
       cases this
  have := run_append ih e2
  simpa [List.flatMap_append] using this
theorem put_at {pre suf : List En} {x y : En} (h : Zp (pre ++ x :: suf)) (e : bl y.path = bl x.path) : putE (pre ++ x :: suf) y = pre ++ y :: suf := by
 have h1 := List.pairwise_append.1 h
 have h2 := List.pairwise_cons.1 h1.2.1
 refine Yz (Zf h _) (List.pairwise_append.2 ⟨h1.1, List.pairwise_cons.2 ⟨fun z hz => by rw [e]; exact h2.1 z hz, h2.2⟩, fun a ha b hb => ?_⟩) (fun z => ?_)
 ·rcases List.mem_cons.1 hb with rfl | hb
  ·rw [e]; exact h1.2.2 a ha x (List.mem_cons_self ..)
  ·exact h1.2.2 a ha b (List.mem_cons_of_mem _ hb)
 ·rw [Zg, List.mem_append, List.mem_append, List.mem_cons, List.mem_cons]
  constructor
  ·rintro (h3 | ⟨h3 | (rfl | h3), h4⟩)
   ·exact Or.inr (Or.inl h3)
   ·exact Or.inl h3
   ·exact absurd e.symm h4
   ·exact Or.inr (Or.inr h3)
  ·rintro (h3 | (h3 | h3))
   ·exact Or.inr ⟨Or.inl h3, fun e3 => List.lt_irrefl _ (by have := h1.2.2 z h3 x (List.mem_cons_self ..); rw [e3, e] at this; exact this)⟩
   ·exact Or.inl h3
   ·exact Or.inr ⟨Or.inr (Or.inr h3), fun e3 => List.lt_irrefl _ (by have := h2.1 z h3; rw [e3, e] at this; exact this)⟩
theorem put_new {pre suf : List En} {y : En} (h1 : ∀ z ∈ pre, bl z.path < bl y.path) (h2 : ∀ z ∈ suf, bl y.path < bl z.path) (h : Zp (pre ++ suf)) : putE (pre ++ suf) y = pre ++ y :: suf := by
 have h3 := List.pairwise_append.1 h
 refine Yz (Zf h _) (List.pairwise_append.2 ⟨h3.1, List.pairwise_cons.2 ⟨h2, h3.2.1⟩, fun a ha b hb => ?_⟩) (fun z => ?_)
 ·rcases List.mem_cons.1 hb with rfl | hb
  ·exact h1 a ha
  ·exact h3.2.2 a ha b hb
 ·rw [Zg, List.mem_append, List.mem_append, List.mem_cons]
  constructor
  ·rintro (h4 | ⟨h4 | h4, _⟩)
   ·exact Or.inr (Or.inl h4)
   ·exact Or.inl h4
   ·exact Or.inr (Or.inr h4)
  ·rintro (h4 | (h4 | h4))
   ·exact Or.inr ⟨Or.inl h4, fun e => List.lt_irrefl _ (by have := h1 z h4; rw [e] at this; exact this)⟩
   ·exact Or.inl h4
   ·exact Or.inr ⟨Or.inr h4, fun e => List.lt_irrefl _ (by have := h2 z h4; rw [e] at this; exact this)⟩
theorem en_eq {x y : En} (h1 : bl x.path = bl y.path) (h2 : x.kind = y.kind) (h3 : x.lines = y.lines) (h4 : x.data = y.data) : x = y := by
 cases x; cases y
 have := ba_eq h1
 simp_all
def wasL (a s : List En) : List En := s.filterMap (likeE a)
theorem was_mem {a s : List En} {y : En} : y ∈ wasL a s ↔ ∃ x ∈ s, likeE a x = some y := List.mem_filterMap
theorem was_len (a s : List En) : (wasL a s).length ≤ s.length := List.length_filterMap_le _ _
theorem run_come {a b pre suf : List En} {x : En} (hb : Zl b) (e : pre ++ x :: suf = b) (hT : Zl (pre ++ wasL a (x :: suf))) (hlen : x.lines.length ≤ 1073741824) :
  runE (pre ++ wasL a (x :: suf)) (comeL a x) 0 = (pre ++ x :: wasL a suf, 0, 0) := by
 have hxb : x ∈ b := by rw [← e]; simp
 have hS : Zp (pre ++ x :: suf) := e ▸ hb.strict
 have h1 := List.pairwise_append.1 hS
 have h2 := List.pairwise_cons.1 h1.2.1
 unfold comeL
 cases hl : likeE a x with
 | some y =>
  obtain ⟨_, hp, hk⟩ := like_some hl
  have ew : wasL a (x :: suf) = y :: wasL a suf := by unfold wasL; rw [List.filterMap_cons, hl]
  rw [ew] at hT ⊢
  have hy : y ∈ pre ++ y :: wasL a suf := by simp
  have ex : ({ y with lines := x.lines, data := x.data } : En) = x := en_eq hp hk rfl rfl
  have := run_chg hT hy (f := y) (t := x) ⟨rfl, rfl⟩ (by rw [ex]; exact hb.own x hxb) hlen
  rw [ex, put_at hT.strict hp.symm, ba_eq hp] at this
  exact this
 | none =>
  have ew : wasL a (x :: suf) = wasL a suf := by unfold wasL; rw [List.filterMap_cons, hl]
  rw [ew] at hT ⊢
  obtain ⟨hr0, ht0⟩ := hb.own x hxb
  have hk : x.kind = 1 ∨ x.kind = 2 ∨ x.kind = 3 := by
   rcases thing_ways ht0 with h | h | h <;> simp [h.1]
  have hR : Zv (pathP (2 * x.kind - 1) x.path) = true := by
   unfold Zv pathP Yn bareP Zc
   rcases hk with h | h | h <;> simp [h] <;> exact hr0
  have hlt : ∀ z ∈ wasL a suf, bl x.path < bl z.path := fun z hz => by
   obtain ⟨u, hu, hl2⟩ := was_mem.1 hz
   rw [(like_some hl2).2.1]
   exact h2.1 u hu
  have hgt : ∀ z ∈ pre, bl z.path < bl x.path := fun z hz => h1.2.2 z hz x (List.mem_cons_self ..)
  have hf0 : Zt (pre ++ wasL a suf) (bl x.path) = none := find_no (fun y hy e3 => by
   rcases List.mem_append.1 hy with hy | hy
   ·have := hgt y hy; rw [e3] at this; exact List.lt_irrefl _ this
   ·have := hlt y hy; rw [e3] at this; exact List.lt_irrefl _ this)
  have hfree : freeE (pre ++ wasL a suf) (bl x.path) = 0 := by
   refine freeE_zero.2 ⟨hf0, fun q hq => ?_⟩
   obtain ⟨d, hd, hdp, hdk⟩ := hb.above x hxb q hq
   refine ⟨d, find_is hT.strict ?_ hdp, hdk⟩
   rw [← e] at hd
   obtain ⟨r, er, _⟩ := Path.parent_some hq
   have hdx : bl d.path < bl x.path := by
    rw [er, hdp]
    have : q ++ [] < q ++ 47 :: r := List.append_left_lt (List.nil_lt_cons ..)
    rwa [List.append_nil] at this
   rcases List.mem_append.1 hd with hd | hd
   ·exact List.mem_append_left _ hd
   ·rcases List.mem_cons.1 hd with rfl | hd
    ·exact absurd hdx (List.lt_irrefl _)
    ·exact absurd (List.lt_trans hdx (h2.1 d hd)) (List.lt_irrefl _)
  have hA : actE (pre ++ wasL a suf) (pathP (2 * x.kind - 1) x.path) = (putE (pre ++ wasL a suf) ⟨x.path, x.kind, [], ⟨#[]⟩⟩, 0) := by
   refine (act_add (p := pathP (2 * x.kind - 1) x.path) ?_).2 ⟨hfree, ?_, ?_⟩
   ·show 2 * x.kind - 1 = 1 ∨ 2 * x.kind - 1 = 3 ∨ 2 * x.kind - 1 = 5
    omega
   ·have h5 := hb.len
    rw [← e] at h5
    have h6 := was_len a suf
    simp only [List.length_append, List.length_cons] at h5 ⊢
    omega
   ·show _ = putE _ ⟨x.path, (2 * x.kind - 1 + 1) / 2, [], ⟨#[]⟩⟩
    rw [show (2 * x.kind - 1 + 1) / 2 = x.kind by omega]
  rw [put_new (y := ⟨x.path, x.kind, [], ⟨#[]⟩⟩) hgt hlt hT.strict] at hA
  have e1 := run_one12 hR hA
  have hT1 := hT.run e1
  have hy : (⟨x.path, x.kind, [], ⟨#[]⟩⟩ : En) ∈ pre ++ ⟨x.path, x.kind, [], ⟨#[]⟩⟩ :: wasL a suf := by simp
  have := run_chg hT1 hy (f := Yp) (t := x) ⟨rfl, rfl⟩ (hb.own x hxb) hlen
  rw [put_at (x := ⟨x.path, x.kind, [], ⟨#[]⟩⟩) (y := ⟨x.path, x.kind, x.lines, x.data⟩) hT1.strict rfl] at this
  exact run_append e1 this
theorem run_comes {a b : List En} (hb : Zl b) (hlen : ∀ x ∈ b, x.lines.length ≤ 1073741824) : ∀ (suf pre : List En), pre ++ suf = b → Zl (pre ++ wasL a suf) → runE (pre ++ wasL a suf) (suf.flatMap (comeL a)) 0 = (b, 0, 0)
 | [], pre, e, _ => by
  rw [← e]
  simp [runE, wasL]
 | x :: suf, pre, e, hT => by
  have e1 := run_come hb e hT (hlen x (by rw [← e]; simp))
  have hT1 := hT.run e1
  have ih := run_comes hb hlen suf (pre ++ [x]) (by simpa using e) (by simpa using hT1)
  rw [List.append_assoc, List.singleton_append] at ih
  rw [List.flatMap_cons]
  exact run_append e1 ih
theorem was_kept {a b : List En} (ha : Zl a) (hb : Zl b) : a.filter (keptB b) = wasL a b := by
 have hS : Zp (wasL a b) := by
  unfold wasL Zp
  rw [List.pairwise_filterMap]
  refine hb.strict.imp (fun {u v} huv y hy z hz => ?_)
  rw [(like_some hy).2.1, (like_some hz).2.1]
  exact huv
 refine Yz (List.Pairwise.filter _ ha.strict) hS (fun y => ?_)
 rw [List.mem_filter, was_mem]
 constructor
 ·rintro ⟨hy, hk⟩
  unfold keptB at hk
  cases hl : likeE b y with
  | none => rw [hl] at hk; cases hk
  | some z =>
   obtain ⟨hz, hp, hkk⟩ := like_some hl
   exact ⟨z, hz, like_of ha.strict hy hp.symm hkk.symm⟩
 ·rintro ⟨x, hx, hl⟩
  obtain ⟨hy, hp, hk⟩ := like_some hl
  refine ⟨hy, ?_⟩
  unfold keptB
  rw [like_of hb.strict hx hp.symm hk.symm]
  rfl
theorem rec_makes {a b : List En} (ha : Zl a) (hb : Zl b) (hlen : ∀ x ∈ b, x.lines.length ≤ 1073741824) : runE a (recL a b) 0 = (b, 0, 0) := by
 have e1 := run_gos ha hb a [] rfl
 rw [List.nil_append, was_kept ha hb] at e1
 have hT := ha.run e1
 have e2 := run_comes (a := a) hb hlen b [] rfl hT
 exact run_append e1 e2
def Box (w : World) (b : Nat) (y0 y1 y2 y3 y4 y5 y6 : Value) : Prop := w.heap[b]? = some (.cells #[y0, y1, y2, y3, y4, y5, y6] 43)
theorem Box.new (w : World) (y0 y1 y2 y3 y4 y5 y6 : Value) : Box (w.alloc (.cells #[y0, y1, y2, y3, y4, y5, y6] 43)) w.heap.size y0 y1 y2 y3 y4 y5 y6 := heap_alloc_new w _
theorem Box.fr {M : Nat → Prop} {w w' : World} {b : Nat} {y0 y1 y2 y3 y4 y5 y6 : Value} (h : Box w b y0 y1 y2 y3 y4 y5 y6) (f : Fr M w w') (hm : ¬ M b) : Box w' b y0 y1 y2 y3 y4 y5 y6 := f.at h hm
theorem Box.kept {w w' : World} {b : Nat} {y0 y1 y2 y3 y4 y5 y6 : Value} (h : Box w b y0 y1 y2 y3 y4 y5 y6) (f : Fr None' w w') : Box w' b y0 y1 y2 y3 y4 y5 y6 := h.fr f (fun e => e)
theorem Box.cells {w : World} {b : Nat} {y0 y1 y2 y3 y4 y5 y6 : Value} (h : Box w b y0 y1 y2 y3 y4 y5 y6) : w.cell? ⟨b, 0, none⟩ = some y0 ∧ w.cell? ⟨b, 1, none⟩ = some y1 ∧ w.cell? ⟨b, 2, none⟩ = some y2 ∧ w.cell? ⟨b, 3, none⟩ = some y3 ∧ w.cell? ⟨b, 4, none⟩ = some y4 ∧ w.cell? ⟨b, 5, none⟩ = some y5 ∧ w.cell? ⟨b, 6, none⟩ = some y6 := by
 unfold Box at h
 refine ⟨?_, ?_, ?_, ?_, ?_, ?_, ?_⟩ <;> (rw [World.cell?, h]; rfl)
theorem Box.frozen {w : World} {b : Nat} {y0 y1 y2 y3 y4 y5 y6 : Value} (h : Box w b y0 y1 y2 y3 y4 y5 y6) (o : Nat) : w.frozen? ⟨b, o, none⟩ = false := by
 unfold Box at h
 unfold World.frozen?
 rw [h]
 simp
theorem Box.lt {w : World} {b : Nat} {y0 y1 y2 y3 y4 y5 y6 : Value} (h : Box w b y0 y1 y2 y3 y4 y5 y6) : b < w.heap.size := (Array.getElem?_eq_some_iff.1 h).1
theorem Box.set0 {w : World} {b : Nat} {y0 y1 y2 y3 y4 y5 y6 : Value} (h : Box w b y0 y1 y2 y3 y4 y5 y6) (v : Value) : Box (w.setCell ⟨b, 0, none⟩ v) b v y1 y2 y3 y4 y5 y6 := by
 have := Go.heap_setCell_same w b 0 _ _ v h
 unfold Box
 simpa using this
theorem Box.set1 {w : World} {b : Nat} {y0 y1 y2 y3 y4 y5 y6 : Value} (h : Box w b y0 y1 y2 y3 y4 y5 y6) (v : Value) : Box (w.setCell ⟨b, 1, none⟩ v) b y0 v y2 y3 y4 y5 y6 := by
 have := Go.heap_setCell_same w b 1 _ _ v h
 unfold Box
 simpa using this
theorem Box.set2 {w : World} {b : Nat} {y0 y1 y2 y3 y4 y5 y6 : Value} (h : Box w b y0 y1 y2 y3 y4 y5 y6) (v : Value) : Box (w.setCell ⟨b, 2, none⟩ v) b y0 y1 v y3 y4 y5 y6 := by
 have := Go.heap_setCell_same w b 2 _ _ v h
 unfold Box
 simpa using this
theorem Box.set3 {w : World} {b : Nat} {y0 y1 y2 y3 y4 y5 y6 : Value} (h : Box w b y0 y1 y2 y3 y4 y5 y6) (v : Value) : Box (w.setCell ⟨b, 3, none⟩ v) b y0 y1 y2 v y4 y5 y6 := by
 have := Go.heap_setCell_same w b 3 _ _ v h
 unfold Box
 simpa using this
theorem Box.set4 {w : World} {b : Nat} {y0 y1 y2 y3 y4 y5 y6 : Value} (h : Box w b y0 y1 y2 y3 y4 y5 y6) (v : Value) : Box (w.setCell ⟨b, 4, none⟩ v) b y0 y1 y2 y3 v y5 y6 := by
 have := Go.heap_setCell_same w b 4 _ _ v h
 unfold Box
 simpa using this
theorem Box.set5 {w : World} {b : Nat} {y0 y1 y2 y3 y4 y5 y6 : Value} (h : Box w b y0 y1 y2 y3 y4 y5 y6) (v : Value) : Box (w.setCell ⟨b, 5, none⟩ v) b y0 y1 y2 y3 y4 v y6 := by
 have := Go.heap_setCell_same w b 5 _ _ v h
 unfold Box
 simpa using this
theorem Box.set6 {w : World} {b : Nat} {y0 y1 y2 y3 y4 y5 y6 : Value} (h : Box w b y0 y1 y2 y3 y4 y5 y6) (v : Value) : Box (w.setCell ⟨b, 6, none⟩ v) b y0 y1 y2 y3 y4 y5 v := by
 have := Go.heap_setCell_same w b 6 _ _ v h
 unfold Box
 simpa using this
@[reducible] def setP (w : World) (b : Nat) (y0 y1 y2 y3 y4 y5 y6 : Value) : World := ((((((w.setCell ⟨b, 0, none⟩ y0).setCell ⟨b, 1, none⟩ y1).setCell ⟨b, 2, none⟩ y2).setCell ⟨b, 3, none⟩ y3).setCell ⟨b, 4, none⟩ y4).setCell ⟨b, 5, none⟩ y5).setCell ⟨b, 6, none⟩ y6
theorem Box.all {w : World} {b : Nat} {x0 x1 x2 x3 x4 x5 x6 : Value} (h : Box w b x0 x1 x2 x3 x4 x5 x6) (y0 y1 y2 y3 y4 y5 y6 : Value) : Box (setP w b y0 y1 y2 y3 y4 y5 y6) b y0 y1 y2 y3 y4 y5 y6 :=
 ((((((h.set0 y0).set1 y1).set2 y2).set3 y3).set4 y4).set5 y5).set6 y6
theorem Fr.setP {M : Nat → Prop} (w : World) {b : Nat} (hb : M b) (y0 y1 y2 y3 y4 y5 y6 : Value) : Fr M w (setP w b y0 y1 y2 y3 y4 y5 y6) :=
 ((((((Fr.setCell w (a := ⟨b, 0, none⟩) hb y0).then (Fr.setCell _ (a := ⟨b, 1, none⟩) hb y1)).then (Fr.setCell _ (a := ⟨b, 2, none⟩) hb y2)).then (Fr.setCell _ (a := ⟨b, 3, none⟩) hb y3)).then (Fr.setCell _ (a := ⟨b, 4, none⟩) hb y4)).then (Fr.setCell _ (a := ⟨b, 5, none⟩) hb y5)).then (Fr.setCell _ (a := ⟨b, 6, none⟩) hb y6)
theorem Fr.setQ (w : World) (q o : Nat) (u : Value) : Fr (fun k => k = q) w (w.setCell ⟨q, o, none⟩ u) := Fr.setCell (M := fun k => k = q) w (a := ⟨q, o, none⟩) rfl u
theorem fin9 {w w3 W : World} {b q : Nat} {x0 x1 x2 x3 x4 x5 x6 : Value} (hf : Fr None' w w3) (hb : Box w3 b x0 x1 x2 x3 x4 x5 x6) (f : Fr (fun k => k = q) w3 W) (hbq : ¬ b = q) (hwb : w.heap.size ≤ b) (hwq : w.heap.size ≤ q) (y0 y1 y2 y3 y4 y5 y6 : Value) :
  Box (setP W b y0 y1 y2 y3 y4 y5 y6) b y0 y1 y2 y3 y4 y5 y6 ∧ Fr None' w (setP W b y0 y1 y2 y3 y4 y5 y6) :=
 ⟨(hb.fr f hbq).all _ _ _ _ _ _ _, (hf.trans f (fun _ e => Or.inr (by omega))).trans (Fr.setP (M := fun k => k = b) W rfl _ _ _ _ _ _ _) (fun _ e => Or.inr (by omega))⟩
theorem ret_box {fn : Func} {p : Tmp} (hres : fn.results = #[.cell p 43]) {Q : Ending → World → Prop} {a : Act} {w : World} {b : Nat} {y0 y1 y2 y3 y4 y5 y6 : Value} (hd : a.defers = []) (hp : a.tmps.getD p undef = .pointer (some ⟨b, 0, none⟩)) (h : Box w b y0 y1 y2 y3 y4 y5 y6) (hq : Q (.returned (.agg #[y0, y1, y2, y3, y4, y5, y6])) w) : bodyPost Tryz.prog fn Q .ret a w :=
 bodyPost_ret (results_cell_row hres _ _ b 43 _ (0, 0) _ hp h Tryz.underlying43 rfl (by kernel_rfl)) hd hq
def pcells : List Pr → List (Value × Value) → List Value
 | x :: L, u :: V => prCells x u.1 u.2 ++ pcells L V
 | _, _ => []
theorem prCells_length (x : Pr) (vo vn : Value) : (prCells x vo vn).length = 7 := rfl
theorem pcells_length : ∀ (L : List Pr) (V : List (Value × Value)), V.length = L.length → (pcells L V).length = L.length * 7
 | [], _, _ => rfl
 | x :: L, [], e => by cases e
 | x :: L, u :: V, e => by
  simp only [pcells, List.length_cons, List.length_append, prCells_length] at e ⊢
  rw [pcells_length L V (by omega)]
  omega
theorem pcells_append : ∀ (L B : List Pr) (V U : List (Value × Value)), V.length = L.length → pcells (L ++ B) (V ++ U) = pcells L V ++ pcells B U
 | [], B, [], U, _ => rfl
 | [], _, _ :: _, _, e => by cases e
 | _ :: _, _, [], _, e => by cases e
 | x :: L, B, v :: V, U, e => by
  simp only [List.cons_append, pcells, List.append_assoc]
  rw [pcells_append L B V U (by simpa using e)]
theorem pcells_get : ∀ (L : List Pr) (V : List (Value × Value)) (k : Nat) (x : Pr) (u : Value × Value), L[k]? = some x → V[k]? = some u → ∀ j, j < 7 → (pcells L V)[k * 7 + j]? = (prCells x u.1 u.2)[j]?
 | [], _, k, x, vl, e, _ => by simp at e
 | y :: L, [], k, x, vl, _, e => by simp at e
 | y :: L, v :: V, 0, x, u, e1, e2 => fun j hj => by
  simp at e1 e2
  subst e1 e2
  simp only [pcells, Nat.zero_mul, Nat.zero_add]
  exact List.getElem?_append_left (by rw [prCells_length]; exact hj)
 | y :: L, v :: V, k + 1, x, u, e1, e2 => fun j hj => by
  have := pcells_get L V k x u (by simpa using e1) (by simpa using e2) j hj
  simp only [pcells]
  rw [List.getElem?_append_right (by rw [prCells_length]; omega), prCells_length, ← this]
  congr 1
  omega
theorem pcells_one : ∀ (L : List Pr) (V : List (Value × Value)), (∀ u ∈ V, u.1.oneCell' = true ∧ u.2.oneCell' = true) → ∀ c ∈ pcells L V, c.oneCell' = true
 | [], _, _ => fun c hc => by simp [pcells] at hc
 | x :: L, [], _ => fun c hc => by simp [pcells] at hc
 | x :: L, u :: V, h => fun c hc => by
  simp only [pcells, List.mem_append] at hc
  rcases hc with hc | hc
  ·simp only [prCells, List.mem_cons, List.not_mem_nil, or_false] at hc
   rcases hc with rfl | rfl | rfl | rfl | rfl | rfl | rfl
   ·rfl
   ·rfl
   ·rfl
   ·rfl
   ·rfl
   ·exact (h u (List.mem_cons_self ..)).1
   ·exact (h u (List.mem_cons_self ..)).2
  ·exact pcells_one L V (fun u hu => h u (List.mem_cons_of_mem _ hu)) c hc
theorem infoP : (Tryz.prog.info? 43).map (fun i => (i.zero, i.size, i.bytes)) = some (some (.agg #[.int .i64 0, .string ⟨#[]⟩, .string ⟨#[]⟩, .string ⟨#[]⟩, .int .i64 0, .slice none 0 0, .slice none 0 0]), 7, 112) := by kernel_rfl
def Far (v s : Value) (l : List ByteArray) : Prop := l ≠ [] → ∀ k, s.ownBlock = some k → ¬ v.ownBlock = some k
theorem Zy.one {w : World} {v : Value} {l : List ByteArray} (h : Zy w v l) : v.oneCell' = true := by
 obtain ⟨va, c, rfl, _⟩ := h
 rfl
structure Zk (base : Nat) (w : World) (v : Value) (L : List Pr) (V : List (Value × Value)) : Prop where
 len : V.length = L.length
 row : w.ownsRow base 43 7 v L.length (pcells L V)
 str : ∀ (k : Nat) (x : Pr) (u : Value × Value), L[k]? = some x → V[k]? = some u → Zy w u.1 x.old ∧ Zy w u.2 x.new ∧ Far v u.1 x.old ∧ Far v u.2 x.new
theorem Zk.nil (base : Nat) (w : World) : Zk base w (.slice none 0 0) [] [] := ⟨rfl, World.ownsRow_nil w _ _ 7, fun k x u e => by simp at e⟩
theorem Zk.ge {base : Nat} {w : World} {v : Value} {L : List Pr} {V : List (Value × Value)} (h : Zk base w v L V) {k : Nat} (hk : v.ownBlock = some k) : base ≤ k ∧ k < w.heap.size := by
 rcases h.row.2 with ⟨hv, e⟩ | ⟨g, cap, cur, hv, hb, hh, hc, _, hs, ht⟩
 ·rw [hv] at hk; cases hk
 ·rw [hv] at hk; cases hk; exact ⟨hb, (Array.getElem?_eq_some_iff.1 hh).1⟩
theorem Zk.kept {base : Nat} {w w' : World} {v : Value} {L : List Pr} {V : List (Value × Value)} (h : Zk base w v L V) (f : Fr None' w w') : Zk base w' v L V := by
 refine ⟨h.len, ⟨h.row.1, ?_⟩, fun k x u e1 e2 => ?_⟩
 ·rcases h.row.2 with h | ⟨g, cap, cur, hv, hb, hh, h⟩
  ·exact Or.inl h
  ·exact Or.inr ⟨g, cap, cur, hv, hb, f.at hh (fun e => e), h⟩
 ·obtain ⟨h1, h2, h3, h4⟩ := h.str k x u e1 e2
  exact ⟨h1.kept f, h2.kept f, h3, h4⟩
theorem Zk.fr {M : Nat → Prop} {base : Nat} {w w' : World} {v : Value} {L : List Pr} {V : List (Value × Value)} (h : Zk base w v L V) (f : Fr M w w') (hv : ∀ k, v.ownBlock = some k → ¬ M k) (hs : ∀ u ∈ V, ∀ k, (u.1.ownBlock = some k ∨ u.2.ownBlock = some k) → k < w.heap.size → ¬ M k) : Zk base w' v L V := by
 refine ⟨h.len, ⟨h.row.1, ?_⟩, fun k x u e1 e2 => ?_⟩
 ·rcases h.row.2 with h | ⟨g, cap, cur, he, hb, hh, h⟩
  ·exact Or.inl h
  ·exact Or.inr ⟨g, cap, cur, he, hb, f.at hh (hv g (by rw [he]; rfl)), h⟩
 ·obtain ⟨h1, h2, h3, h4⟩ := h.str k x u e1 e2
  have hu := List.mem_of_getElem? e2
  exact ⟨h1.far f (fun hl k e => hs u hu k (Or.inl e) (h1.lt hl e)), h2.far f (fun hl k e => hs u hu k (Or.inr e) (h2.lt hl e)), h3, h4⟩
theorem Zk.slice {base : Nat} {w : World} {v : Value} {L : List Pr} {V : List (Value × Value)} (h : Zk base w v L V) : ∃ va c, v = .slice va L.length c ∧ L.length ≤ c ∧ (va = none → c = 0) ∧ PrsAt w va L := by
 rcases h.row.2 with ⟨hv, e⟩ | ⟨g, cap, cur, hv, hb, hh, hc, _, hs, ht⟩
 ·have e2 : L = [] := List.length_eq_zero_iff.1 e
  subst e2
  exact ⟨none, 0, hv, Nat.le_refl _, fun _ => rfl, fun k x hk => by simp at hk⟩
 ·refine ⟨_, cap, hv, hc, fun e => by simp at e, fun k x hk => ?_⟩
  have hkl := (List.getElem?_eq_some_iff.1 hk).1
  obtain ⟨u, hp⟩ : ∃ u, V[k]? = some u := ⟨_, List.getElem?_eq_getElem (by rw [h.len]; exact hkl)⟩
  have hx := pcells_get L V k x u hk hp
  have hc' : ∀ j u, j < L.length * 7 → (pcells L V)[j]? = some u → w.cell? ⟨g, j, none⟩ = some u := fun j u hj h1 => by
   rw [← ht, List.getElem?_take, if_pos hj] at h1
   rw [World.cell?, hh]
   simpa using h1
  obtain ⟨s1, s2, _, _⟩ := h.str k x u hk hp
  refine ⟨g, 0, rfl, u.1, u.2, ?_, ?_, ?_, ?_, ?_, ?_, ?_, s1, s2⟩
  ·rw [Nat.zero_add]; exact hc' _ _ (by omega) (hx 0 (by omega))
  ·rw [Nat.zero_add]; exact hc' _ _ (by omega) (hx 1 (by omega))
  ·rw [Nat.zero_add]; exact hc' _ _ (by omega) (hx 2 (by omega))
  ·rw [Nat.zero_add]; exact hc' _ _ (by omega) (hx 3 (by omega))
  ·rw [Nat.zero_add]; exact hc' _ _ (by omega) (hx 4 (by omega))
  ·rw [Nat.zero_add]; exact hc' _ _ (by omega) (hx 5 (by omega))
  ·rw [Nat.zero_add]; exact hc' _ _ (by omega) (hx 6 (by omega))
theorem prs_cells {w : World} {g : Nat} : ∀ (B : List Pr) (o : Nat), PrsAt w (some ⟨g, o, none⟩) B → ∃ U : List (Value × Value), U.length = B.length ∧ (∀ j u, (pcells B U)[j]? = some u → w.cell? ⟨g, o + j, none⟩ = some u) ∧ ∀ (k : Nat) (x : Pr) (u : Value × Value), B[k]? = some x → U[k]? = some u → Zy w u.1 x.old ∧ Zy w u.2 x.new
 | [], o, _ => ⟨[], rfl, (fun j u e => by simp [pcells] at e), fun k x vl e => by simp at e⟩
 | x :: B, o, h => by
  obtain ⟨g', o', e, vo, vn, c0, c1, c2, c3, c4, c5, c6, hs1, hs2⟩ := h 0 x rfl
  cases e
  obtain ⟨U, h1, h2, h4⟩ := prs_cells B (o + 7) (fun k y hk => by
   obtain ⟨g', o', e, hy⟩ := h (k + 1) y (by simpa using hk)
   cases e
   exact ⟨_, _, rfl, by rw [show o + 7 + k * 7 = o + (k + 1) * 7 from by omega]; exact hy⟩)
  refine ⟨(vo, vn) :: U, by simp [h1], fun j u hj => ?_, fun k y vy e1 e2 => ?_⟩
  ·simp only [pcells, prCells, List.cons_append, List.nil_append] at hj
   match j, hj with
   | 0, hj => simp at hj; subst hj; simpa using c0
   | 1, hj => simp at hj; subst hj; simpa using c1
   | 2, hj => simp at hj; subst hj; simpa using c2
   | 3, hj => simp at hj; subst hj; simpa using c3
   | 4, hj => simp at hj; subst hj; simpa using c4
   | 5, hj => simp at hj; subst hj; simpa using c5
   | 6, hj => simp at hj; subst hj; simpa using c6
   | j + 7, hj =>
    have := h2 j u (by simpa using hj)
    rw [show o + (j + 7) = o + 7 + j from by omega]
    exact this
  ·cases k with
   | zero => simp at e1 e2; subst e1 e2; exact ⟨hs1, hs2⟩
   | succ k => exact h4 k y vy (by simpa using e1) (by simpa using e2)
theorem Zk.append {base : Nat} {w : World} {v : Value} {L : List Pr} {V : List (Value × Value)} (h : Zk base w v L V) {ad : Addr} {c m : Nat} {B : List Pr} {U : List (Value × Value)} (hm : B.length = m) (h1 : U.length = B.length) (h2 : ∀ j u, (pcells B U)[j]? = some u → w.cell? (ad.add j) = some u) (h4 : ∀ (k : Nat) (x : Pr) (u : Value × Value), B[k]? = some x → U[k]? = some u → Zy w u.1 x.old ∧ Zy w u.2 x.new ∧ Far v u.1 x.old ∧ Far v u.2 x.new) (hn : L.length + m ≤ 100000) (hbase : base ≤ w.heap.size) :
  ∃ v' w', (Builtin.append_ #[22, 22] 22 #[v, .slice (some ad) m c]).run Tryz.prog w = .ok v' w' ∧ Zk base w' v' (L ++ B) (V ++ U) ∧ Fr (fun k => v.ownBlock = some k) w w' ∧ (v'.ownBlock = v.ownBlock ∨ v'.ownBlock = some w.heap.size) := by
 obtain ⟨i0, hi, hz0, hz1, hz2⟩ := info_parts infoP
 obtain ⟨v', w', hr, h5, h6, _, h7⟩ := run_append_own_at (P := Tryz.prog) w base 22 22 43 i0 _ 7 112 Tryz.underlying22 hi hz0 hz1 hz2 rfl (by decide) v L.length (pcells L V) h.row ad m c (pcells B U) (by rw [pcells_length B U h1, hm]) h2 (pcells_one B U (fun u hu => by
   obtain ⟨j, hj, rfl⟩ := List.getElem_of_mem hu
   obtain ⟨s1, s2, _, _⟩ := h4 j (B[j]'(by omega)) U[j] (List.getElem?_eq_getElem (by omega)) (List.getElem?_eq_getElem hj)
   exact ⟨s1.one, s2.one⟩)) (by unfold maxLen; omega) (by omega) hbase
 have hf : Fr (fun k => v.ownBlock = some k) w w' := Fr.grown h6 (fun k e => e)
 refine ⟨v', w', hr, ⟨by simp [h.len, h1], by rw [pcells_append L B V U h.len, List.length_append, hm]; exact h5, fun k x u e1 e2 => ?_⟩, hf, h7⟩
 have key : Zy w u.1 x.old ∧ Zy w u.2 x.new ∧ Far v u.1 x.old ∧ Far v u.2 x.new := by
  rcases Nat.lt_or_ge k L.length with hk | hk
  ·rw [List.getElem?_append_left hk] at e1
   rw [List.getElem?_append_left (by rw [h.len]; exact hk)] at e2
   exact h.str k x u e1 e2
  ·rw [List.getElem?_append_right hk] at e1
   rw [List.getElem?_append_right (by rw [h.len]; exact hk), h.len] at e2
   exact h4 _ x u e1 e2
 obtain ⟨s1, s2, f1, f2⟩ := key
 refine ⟨s1.far hf (fun hl k e => f1 hl k e), s2.far hf (fun hl k e => f2 hl k e), fun hl k e e' => ?_, fun hl k e e' => ?_⟩
 ·rcases h7 with h7 | h7
  ·rw [h7] at e'; exact f1 hl k e e'
  ·rw [h7] at e'; cases e'; exact Nat.lt_irrefl _ (s1.lt hl e)
 ·rcases h7 with h7 | h7
  ·rw [h7] at e'; exact f2 hl k e e'
  ·rw [h7] at e'; cases e'; exact Nat.lt_irrefl _ (s2.lt hl e)
theorem Zk.addAll {base : Nat} {w0 w : World} {v : Value} {L : List Pr} {V : List (Value × Value)} (h : Zk base w v L V) {va : Option Addr} {n c : Nat} {B : List Pr} (hB : PrsAt w0 va B) (hn : B.length = n) (hc : va = none → c = 0) (f0 : Fr None' w0 w) (hb0 : w0.heap.size ≤ base) (hbase : base ≤ w.heap.size) (hlen : L.length + n ≤ 100000) :
  ∃ v' U w', (Builtin.append_ #[22, 22] 22 #[v, .slice va n c]).run Tryz.prog w = .ok v' w' ∧ Zk base w' v' (L ++ B) (V ++ U) ∧ Fr (fun k => v.ownBlock = some k) w w' := by
 cases va with
 | none =>
  obtain rfl := hc rfl
  cases B with
  | cons x B => obtain ⟨_, _, e, _⟩ := hB 0 x rfl; cases e
  | nil =>
   have hn0 : n = 0 := hn.symm
   subst hn0
   obtain ⟨i0, hi, _⟩ := info_parts infoP
   exact ⟨v, [], w, run_append_owned_none (P := Tryz.prog) (w := w) base 22 22 43 i0 7 Tryz.underlying22 hi v L.length (pcells L V) h.row, by simpa using h, Fr.refl _ _⟩
 | some ad =>
  obtain ⟨U, h1, h2, h4⟩ : ∃ U : List (Value × Value), U.length = B.length ∧ (∀ j u, (pcells B U)[j]? = some u → w0.cell? (ad.add j) = some u) ∧ ∀ (k : Nat) (x : Pr) (u : Value × Value), B[k]? = some x → U[k]? = some u → Zy w0 u.1 x.old ∧ Zy w0 u.2 x.new := by
   cases B with
   | nil => exact ⟨[], rfl, fun j v h => by simp [pcells] at h, fun k x u e => by simp at e⟩
   | cons x B =>
    obtain ⟨g, o, e, _⟩ := hB 0 x rfl
    cases e
    obtain ⟨U, h1, h2, h3⟩ := prs_cells (x :: B) o hB
    exact ⟨U, h1, fun j v h => by rw [show (⟨g, o, none⟩ : Addr).add j = ⟨g, o + j, none⟩ from Addr.add_lit ..]; exact h2 j v h, h3⟩
  obtain ⟨v', w', r1, r2, r3, _⟩ := h.append (c := c) hn h1 (fun j u hj => f0.keepCell (h2 j u hj) (fun e => e)) (fun k x u e1 e2 => by
   obtain ⟨s1, s2⟩ := h4 k x u e1 e2
   exact ⟨s1.kept f0, s2.kept f0, fun hl k e e' => by have := s1.lt hl e; have := (h.ge e').1; omega, fun hl k e e' => by have := s2.lt hl e; have := (h.ge e').1; omega⟩) hlen hbase
  exact ⟨v', U, w', r1, r2, r3⟩
theorem Zk.empty {base : Nat} {w : World} (hb : base ≤ w.heap.size) : Zk base (w.alloc (.cells #[] 43)) (.slice (some ⟨w.heap.size, 0, none⟩) 0 0) [] [] :=
 ⟨rfl, ⟨rfl, Or.inr ⟨w.heap.size, 0, #[], rfl, hb, heap_alloc_new w _, Nat.le_refl _, Nat.zero_le _, rfl, rfl⟩⟩, fun k x u e => by simp at e⟩
theorem Box.drew {w : World} {b : Nat} {y0 y1 y2 y3 y4 y5 y6 : Value} (h : Box w b y0 y1 y2 y3 y4 y5 y6) : Box w.drew b y0 y1 y2 y3 y4 y5 y6 := h
theorem chg_mem {at' : ByteArray} {f t : En} {p : Pr} (h : p ∈ chgL at' f t) : (∃ h ∈ Diff.diffs f.lines t.lines, p = hunkP at' h) ∨ (¬ f.data = t.data ∧ p = dataP at' f.data t.data) := by
 unfold chgL at h
 rcases List.mem_append.1 h with h | h
 ·obtain ⟨x, hx, rfl⟩ := List.mem_map.1 h
  exact Or.inl ⟨x, hx, rfl⟩
 ·split at h
  ·cases h
  ·rename_i hd
   exact Or.inr ⟨hd, by simpa using h⟩
theorem kind_ways {a : List En} (ha : Zl a) {x : En} (hx : x ∈ a) : x.kind = 1 ∨ x.kind = 2 ∨ x.kind = 3 := by
 rcases thing_ways (ha.own x hx).2 with h | h | h <;> simp [h.1]
theorem hunks_all : ∀ (a o n : List ByteArray) (k : Nat), Diff.hunks k o n a [] = Diff.flush k (o ++ a) n []
 | [], o, n, k => by rw [Diff.hunks_nn, List.append_nil]
 | x :: a, o, n, k => by rw [Diff.hunks_cn, hunks_all a, List.append_assoc]; rfl
theorem diffs_gone (a : List ByteArray) : Diff.diffs a [] = if a = [] then [] else [⟨0, a, []⟩] := by
 unfold Diff.diffs
 rw [hunks_all, List.nil_append]
 unfold Diff.flush
 by_cases h : a = [] <;> simp [h]
def SmLine (y : ByteArray) : Prop := (Lines.pieces (bl y)).length ≤ 4000 ∧ ∀ q ∈ Lines.pieces (bl y), q.length ≤ 4000
theorem flat_len : ∀ (L : List Lines.Bs) (m : Nat), (∀ q ∈ L, q.length ≤ m) → L.flatten.length ≤ L.length * m
 | [], _, _ => Nat.zero_le _
 | p :: L, m, h => by
  have h1 := flat_len L m (fun q hq => h q (List.mem_cons_of_mem _ hq))
  have h2 := h p (List.mem_cons_self ..)
  simp only [List.flatten_cons, List.length_append, List.length_cons, Nat.succ_mul]
  omega
theorem SmLine.size {y : ByteArray} (h : SmLine y) : y.size ≤ 16000000 := by
 have h1 := flat_len _ 4000 h.2
 rw [(Lines.pieces_all (bl y)).2] at h1
 have h3 : (bl y).length = y.size := Array.length_toList
 have h4 := Nat.mul_le_mul_right 4000 h.1
 omega
theorem piece_count (s : Lines.Bs) : (Lines.pieces s).length ≤ s.length := by
 have h1 := (Lines.pieces_all s).1
 have h2 := (Lines.pieces_all s).2
 have h3 := Lines.good_some h1
 generalize Lines.pieces s = L at *
 rw [← h2]
 clear h1 h2
 induction L with
 | nil => exact Nat.zero_le _
 | cons p L ih =>
  have := ih (fun q hq => h3 q (List.mem_cons_of_mem _ hq))
  have hp := h3 p (List.mem_cons_self ..)
  have : 0 < p.length := List.length_pos_iff.2 hp
  simp only [List.length_cons, List.flatten_cons, List.length_append]
  omega
theorem mem_flat_len : ∀ (L : List Lines.Bs) (q : Lines.Bs), q ∈ L → q.length ≤ L.flatten.length
 | p :: L, q, h => by
  simp only [List.flatten_cons, List.length_append]
  rcases List.mem_cons.1 h with rfl | h
  ·omega
  ·have := mem_flat_len L q h; omega
theorem SmLine.of {y : ByteArray} (h : y.size ≤ 4000) : SmLine y := by
 have h3 : (bl y).length = y.size := Array.length_toList
 refine ⟨by have := piece_count (bl y); omega, fun q hq => ?_⟩
 have := mem_flat_len _ q hq
 rw [(Lines.pieces_all (bl y)).2] at this
 omega
theorem SmLine.rep {y f t : ByteArray} (h : SmLine y) (hf : Lines.tok (bl f) = true) (ht : Lines.tok (bl t) = true) (hs : t.size ≤ 4000) : SmLine ⟨(Lines.replace (bl y) (bl f) (bl t)).toArray⟩ := by
 have e : Lines.pieces (bl ⟨(Lines.replace (bl y) (bl f) (bl t)).toArray⟩) = (Lines.pieces (bl y)).map (Lines.rep (bl f) (bl t)) := Lines.pieces_rep hf ht
 unfold SmLine
 rw [e]
 refine ⟨by rw [List.length_map]; exact h.1, fun q hq => ?_⟩
 obtain ⟨u, hu, rfl⟩ := List.mem_map.1 hq
 unfold Lines.rep
 split
 ·have h3 : (bl t).length = t.size := Array.length_toList
  omega
 ·exact h.2 u hu
def SmLn (B : Nat) (L : List En) : Prop := ∀ x ∈ L, (x.lines.length ≤ B ∧ x.data.size ≤ 4000) ∧ ∀ y ∈ x.lines, SmLine y
structure SmPr (p : Pr) : Prop where
 path : p.path.size ≤ 4000
 dst : p.dst.size ≤ 4000
 src : p.src.size ≤ 4000
 old : p.old.length ≤ 4000
 new : p.new.length ≤ 4000
 line : ∀ y ∈ p.new, y.size ≤ 4000
 oline : ∀ y ∈ p.old, y.size ≤ 4000
theorem SmLn.mono {B C : Nat} {L : List En} (h : SmLn B L) (hc : B ≤ C) : SmLn C L := fun x hx => ⟨⟨Nat.le_trans (h x hx).1.1 hc, (h x hx).1.2⟩, (h x hx).2⟩
theorem SmLn.act {B : Nat} {L L' : List En} (h : SmLn B L) {p : Pr} (hp : SmPr p) (hS : Zp L) (hr : Zv p = true) (e : actE L p = (L', 0)) : SmLn (B + p.new.length) L' := by
 obtain ⟨hk, _, hrule⟩ := rule_of hr
 by_cases k1 : p.kind = 1 ∨ p.kind = 3 ∨ p.kind = 5
 ·obtain ⟨_, _, rfl⟩ := (act_add k1).1 e
  intro x hx
  rcases Zg.1 hx with rfl | ⟨hx, _⟩
  ·exact ⟨⟨Nat.zero_le _, Nat.zero_le _⟩, fun y hy => by cases hy⟩
  ·exact h.mono (Nat.le_add_right _ _) x hx
 ·by_cases k2 : p.kind = 2 ∨ p.kind = 4 ∨ p.kind = 6
  ·obtain ⟨x, _, _, _, _, _, rfl⟩ := (act_rm k2).1 e
   exact fun y hy => h.mono (Nat.le_add_right _ _) y (mem_delE.1 hy).1
  ·by_cases k3 : p.kind = 10
   ·obtain ⟨_, _, _, rfl⟩ := (act_move k3).1 e
    intro y hy
    rcases (mem_moveL hS _ _ _).1 hy with ⟨x, hx, _, rfl⟩ | ⟨hy, _⟩
    ·exact h.mono (Nat.le_add_right _ _) x hx
    ·exact h.mono (Nat.le_add_right _ _) y hy
   ·have k4 : p.kind = 7 ∨ p.kind = 8 ∨ p.kind = 9 := by omega
    obtain ⟨x, y, hx, _, hw, rfl⟩ := (act_change k4).1 e
    have hxm := (Yy hx).1
    intro z hz
    rcases Zg.1 hz with rfl | ⟨hz, _⟩
    ·unfold Zb at hw
     rcases k4 with k4 | k4 | k4
     ·rw [if_pos k4] at hw
      obtain ⟨l, hl, rfl⟩ := Option.map_eq_some_iff.1 hw
      obtain ⟨a, b, e1, _, rfl⟩ := hunk_some hl
      have hx1 := h x hxm
      have hx2 := hx1.1.2
      rw [e1] at hx1
      refine ⟨⟨?_, hx2⟩, fun y hy => ?_⟩
      ·have := hx1.1.1
       simp only [List.length_append] at this ⊢
       omega
      ·simp only [List.mem_append] at hy
       rcases hy with (hy | hy) | hy
       ·exact hx1.2 y (by simp [hy])
       ·exact SmLine.of (hp.line y hy)
       ·exact hx1.2 y (by simp [hy])
     ·rw [if_neg (by omega), if_pos k4] at hw
      obtain ⟨l, hl, rfl⟩ := Option.map_eq_some_iff.1 hw
      obtain ⟨_, rfl⟩ := tokens_some hl
      unfold Yn tokenP at hrule
      rw [if_neg (by omega), if_neg (by omega), if_pos k4] at hrule
      simp only [Bool.and_eq_true, decide_eq_true_eq] at hrule
      refine ⟨⟨?_, (h x hxm).1.2⟩, fun y hy => ?_⟩
      ·have := (h x hxm).1.1
       rw [List.length_map]
       omega
      ·obtain ⟨u, hu, rfl⟩ := List.mem_map.1 hy
       exact ((h x hxm).2 u hu).rep hrule.1.1.2 hrule.1.2 hp.dst
     ·rw [if_neg (by omega), if_neg (by omega)] at hw
      split at hw
      ·cases hw
       have := h.mono (Nat.le_add_right B p.new.length) x hxm
       exact ⟨⟨this.1.1, hp.dst⟩, this.2⟩
      ·cases hw
    ·exact h.mono (Nat.le_add_right _ _) z hz
theorem SmLine.fits {y t : ByteArray} (h : SmLine y) (ht : t.size ≤ 4000) : (y.size : Int) < 1000000000 ∧ y.size + y.size * t.size ≤ 10000000000000 := by
 have h1 := h.size
 have h2 : y.size * t.size ≤ 16000000 * 4000 := Nat.mul_le_mul h1 ht
 omega
end Go.Proofs.YtbnfjjjdnbcehaaGreatDoor
