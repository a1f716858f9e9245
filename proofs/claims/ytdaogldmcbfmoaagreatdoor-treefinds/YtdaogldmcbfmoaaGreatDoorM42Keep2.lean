/-
  What is proved here: the contracts that the statement stands on: Keep2, Keep2W, Keep3, Keep4. Conditions: as each theorem names them.
-/
import Derived.Test.YtdaogldmcbfmoaaGreatDoorM41Keep1
import Derived.ArgAppend
namespace Go.Proofs.YtdaogldmcbfmoaaGreatDoor
open Go.RowKit Go.Maps Go.WideMaps
set_option maxRecDepth 100000

def strB (l : List UInt8) : ByteArray := ⟨l.toArray⟩

theorem bl_strB (l : List UInt8) : bl (strB l) = l := rfl

theorem strB_bl {s : ByteArray} {l : List UInt8} (h : bl s = l) : s = strB l := Path.str_of h

/-- A text more in a row of texts: of what was there no block turns but the row's own, if it has room, and then it has two cells at least. -/
theorem app_row {base : Nat} {w : World} {v : Value} {l : List ByteArray} {n : Nat} (hln : l.length = n) (h : w.ownsRow base 9 1 v n (l.map Value.string)) (h0 : n = 0 → v.ownBlock = none) {b : Nat} {x : ByteArray} (hb : w.heap[b]? = some (.cells #[.string x] 9 (0, 0))) (hn : n ≤ 100000) (hbase : base ≤ w.heap.size) :
    ∃ g c w', (Builtin.append_ #[36, 36] 36 #[v, .slice (some ⟨b, 0, none⟩) 1 1]).run Tryz.prog w = .ok (.slice (some ⟨g, 0, none⟩) (n + 1) c) w' ∧ w'.ownsRow base 9 1 (.slice (some ⟨g, 0, none⟩) (n + 1) c) (n + 1) ((l ++ [x]).map Value.string) ∧ Fr (fun k => v.ownBlock = some k ∧ ∃ c, w.heap[k]? = some (.cells c 9 (0, 0)) ∧ 2 ≤ c.size) w w' ∧ (v.ownBlock = some g ∨ g = w.heap.size) := by
  obtain ⟨i0, hi, hz0, hz1, hz2⟩ := info_parts Lines.Tryz.infoS
  have hnews := World.news_of_block (w := w) hb
  have hone : ∀ u ∈ [Value.string x], u.oneCell' = true := fun u hu => by
    simp at hu
    subst hu
    rfl
  obtain ⟨v', w', hr, h4, h5, _, h6⟩ := run_append_own_at (P := Tryz.prog) w base 36 36 9 i0 _ 1 16 Tryz.underlying36 hi hz0 hz1 hz2 rfl (by decide) v n (l.map Value.string) h ⟨b, 0, none⟩ 1 1 [.string x] rfl hnews hone (by unfold maxLen; omega) (by omega) hbase
  have hfr : Fr (fun k => v.ownBlock = some k ∧ ∃ c, w.heap[k]? = some (.cells c 9 (0, 0)) ∧ 2 ≤ c.size) w w' := by
    rcases h.2 with ⟨hv, _⟩ | ⟨g, cap, cur, hv, hbg, hg, hnc, hcm, hcs, htake⟩
    · subst hv
      exact Fr.grown h5 (fun k e => by cases e)
    · subst hv
      by_cases hroom : n + 1 ≤ cap
      · have hn0 : n ≠ 0 := fun e => by cases h0 e
        exact Fr.grown h5 (fun k e => ⟨e, by cases e; exact ⟨cur, hg, by rw [hcs]; omega⟩⟩)
      · obtain ⟨v2, w2, hr2, _, hg2⟩ := run_append_arg_grows (P := Tryz.prog) w 36 36 9 i0 _ 1 16 Tryz.underlying36 hi hz0 hz1 hz2 rfl (by decide) ⟨g, 0, none⟩ n cap (l.map Value.string) (by rw [List.length_map]; omega) (fun j u hj => by
          have hjl := (List.getElem?_eq_some_iff.1 hj).1
          rw [← htake, List.getElem?_take_of_lt (by rw [List.length_map] at hjl; omega)] at hj
          rw [Addr.add_lit]
          simpa [World.cell?, hg] using hj) ⟨b, 0, none⟩ 1 1 [.string x] rfl hnews (by omega) (by unfold maxLen; omega) (by omega)
        rw [hr] at hr2
        injection hr2 with e1 e2
        subst e2
        exact Fr.grown hg2 (fun k e => by cases e)
  rcases h4.2 with ⟨_, e⟩ | ⟨g, cap, cur, hv, _⟩
  · omega
  · subst hv
    refine ⟨g, cap, w', hr, by rw [List.map_append]; exact h4, hfr, ?_⟩
    rcases h6 with h6 | h6
    · exact Or.inl h6.symm
    · exact Or.inr (by injection h6)

/-- What a round of down leaves. -/
structure LI {S : Type} (At : S → (Nat → Prop) → World → Prop) (R : S → List UInt8 → Int → S → Prop) (g : En → List (List UInt8)) (C : List En) (s : S) (M : Nat → Prop) (w : World) (k : Nat) (v : Value) (s' : S) (M' : Nat → Prop) (wr : World) : Prop where
  row : wr.ownsRow w.heap.size 9 1 v k (((rows7 g (C.take k)).map strB).map Value.string)
  nil0 : k = 0 → v.ownBlock = none
  off : ∀ i, v.ownBlock = some i → ¬ M' i
  puts : Puts R s ((C.take k).flatMap g) 0 s'
  at' : At s' M' wr
  fr : Fr M w wr
  sub : ∀ i, M' i → M i ∨ w.heap.size ≤ i

theorem LI.slice {S : Type} {At : S → (Nat → Prop) → World → Prop} {R : S → List UInt8 → Int → S → Prop} {g : En → List (List UInt8)} {C : List En} {s s' : S} {M M' : Nat → Prop} {w wr : World} {k : Nat} {v : Value} (h : LI At R g C s M w k v s' M' wr) : ∃ va c, v = .slice va k c ∧ ∀ i, v.ownBlock = some i → w.heap.size ≤ i ∧ i < wr.heap.size := by
  rcases h.row.2 with ⟨hv, h0⟩ | ⟨g', cap, cur, hv, hb, hh, _⟩
  · exact ⟨none, 0, by rw [hv, h0], fun i e => by rw [hv] at e; cases e⟩
  · exact ⟨_, cap, hv, fun i e => by rw [hv] at e; cases e; exact ⟨hb, lt_of_some hh⟩⟩

theorem rows7_length (g : En → List (List UInt8)) (c : List En) : (rows7 g c).length = c.length := List.length_map ..

/-- The next round. -/
theorem LI.next {S : Type} {At : S → (Nat → Prop) → World → Prop} {R : S → List UInt8 → Int → S → Prop} {B gg : Nat} {cnt : S → Nat} {Km : Nat} {vs : Array Value} (PF : PutFn At R B cnt Km gg vs) {g : En → List (List UInt8)} {C : List En} {s s1 s2 : S} {M M1 M2 : Nat → Prop} {w wr w1 w2 w3 : World} {k : Nat} {v : Value} (h : LI At R g C s M w k v s1 M1 wr) (hk : k < C.length) (hkb : k ≤ 100000) {x : En} (hx : C[k] = x) (F1 : Fr None' wr w1) (hp : Puts R s1 (g x) 0 s2) (hA : At s2 M2 w2) (F2 : Fr M1 w1 w2) (hM : ∀ i, M2 i → M1 i ∨ w1.heap.size ≤ i) (F3 : Fr None' w2 w3) {r : ByteArray} (hr : bl r = rowL x.kind.toNat (bl x.path) (lastName (g x))) :
    ∃ g4 c4 w4, (Builtin.append_ #[36, 36] 36 #[v, .slice (some ⟨w3.heap.size, 0, none⟩) 1 1]).run Tryz.prog (w3.alloc (.cells #[.string r] 9)) = .ok (.slice (some ⟨g4, 0, none⟩) (k + 1) c4) w4 ∧ LI At R g C s M w (k + 1) (.slice (some ⟨g4, 0, none⟩) (k + 1) c4) s2 M2 w4 := by
  obtain ⟨va, c, hv, hlt⟩ := h.slice
  have F13 : Fr M1 wr (w3.alloc (.cells #[.string r] 9)) := ((F1.mono (fun _ e => e.elim)).trans F2 (fun _ e => Or.inl e)).trans (F3.then7 (Fr.alloc None' w3 _)) (fun _ e => e.elim)
  have hlen : ((rows7 g (C.take k)).map strB).length = k := by rw [List.length_map, rows7_length, List.length_take]; omega
  obtain ⟨g4, c4, w4, hrun, hrow, F4, hg⟩ := app_row hlen (F13.row h.row h.off) h.nil0 (b := w3.heap.size) (x := r) (heap_alloc_new w3 _) hkb (Nat.le_trans h.fr.size F13.size)
  have hw3 : w2.heap.size ≤ (w3.alloc (.cells #[.string r] 9)).heap.size := Nat.le_trans F3.size (Fr.alloc None' w3 _).size
  have off2 : ∀ i, v.ownBlock = some i → ¬ M2 i := fun i e hm => by
    rcases hM i hm with e2 | e2
    · exact h.off i e e2
    · have := (hlt i e).2; have := F1.size; omega
  refine ⟨g4, c4, w4, hrun, ⟨?_, fun e => (by omega), fun i e => ?_, ?_, ?_, ?_, fun i hi => ?_⟩⟩
  · have e : (rows7 g (C.take (k + 1))).map strB = (rows7 g (C.take k)).map strB ++ [r] := by
      rw [List.take_succ_eq_append_getElem hk, rows7_snoc, List.map_append, hx, ← hr]
      rfl
    rw [e]
    exact hrow
  · have e' : i = g4 := by cases e; rfl
    subst e'
    rcases hg with hg | hg
    · exact off2 i hg
    · intro hm
      have := PF.lt hA hm
      omega
  · rw [List.take_succ_eq_append_getElem hk, List.flatMap_append, hx]
    exact h.puts.then rfl (by simpa using hp)
  · exact PF.kept (PF.fresh hA (F3.then7 (Fr.alloc None' w3 _))) F4 (fun i e => ⟨off2 i e.1, e.2⟩)
  · exact (h.fr.trans F13 (fun i e => h.sub i e)).trans F4 (fun i e => Or.inr (hlt i e.1).1)
  · rcases hM i hi with e | e
    · exact h.sub i e
    · exact Or.inr (Nat.le_trans (Nat.le_trans h.fr.size F1.size) e)

/-- Behind the last round. -/
theorem LI.done {S : Type} {At : S → (Nat → Prop) → World → Prop} {R : S → List UInt8 → Int → S → Prop} {B gg : Nat} {cnt : S → Nat} {Km : Nat} {vs : Array Value} (PF : PutFn At R B cnt Km gg vs) {g : En → List (List UInt8)} {C : List En} {s s1 : S} {M M1 : Nat → Prop} {w wr : World} {n : Nat} {v : Value} (h : LI At R g C s M w n v s1 M1 wr) (hn : C.length = n) (hn2 : n ≤ 1024) (hC : ∀ x ∈ C, Path.right (bl x.path) = true) (hB1 : 86017 ≤ B) (hcn : cnt s + (node7 g C).length ≤ Km) {bP : Nat} (hP : wr.cell? ⟨bP, 0, none⟩ = some (.func (.func gg) #[] vs)) :
    ∃ va c J T, v = .slice va n c ∧ Calls Tryz.prog 67 #[.slice va n c] wr.drew (fun e w' => e = .returned (.string J) ∧ Fr None' wr.drew w') ∧ (∀ u, (Op.stringOp .add ⟨#[100]⟩ J).run Tryz.prog u = .ok (.string T) u) ∧ wr.drew.cell? ⟨bP, 0, none⟩ = some (.func (.func gg) #[] vs) ∧
      ∀ w2, Fr None' wr.drew w2 → ∃ c w3, (convert 9 57 (.string T)).run Tryz.prog w2 = .ok (.slice (some ⟨w2.heap.size, 0, none⟩) T.size c) w3 ∧ w2.cell? ⟨bP, 0, none⟩ = some (.func (.func gg) #[] vs) ∧ w3.cell? ⟨bP, 0, none⟩ = some (.func (.func gg) #[] vs) ∧
        Calls Tryz.prog gg (#[.slice (some ⟨w2.heap.size, 0, none⟩) T.size c] ++ vs) w3 (KPost At R s (node7 g C) M w) := by
  have htake : C.take n = C := List.take_of_length_le (by omega)
  have hrow := h.row
  have hputs := h.puts
  rw [htake] at hrow hputs
  have hlen : ((rows7 g C).map strB).length = n := by rw [List.length_map, rows7_length]; exact hn
  have hst : StrsAt wr v ((rows7 g C).map strB) := own_strs (base := w.heap.size) (by rw [hlen]; exact hrow)
  have hbs : Lines.bs ((rows7 g C).map strB) = rows7 g C := by
    unfold Lines.bs
    rw [List.map_map]
    exact List.map_id _
  have hjl := rows7_len g C hC
  obtain ⟨va, c, hv, _, _, hr⟩ := hst
  rw [hlen] at hv
  obtain ⟨J, hJ⟩ : ∃ J, strB (Lines.join (rows7 g C)) = J := ⟨_, rfl⟩
  have sJ : bl J = Lines.join (rows7 g C) := by rw [← hJ]; rfl
  have lJ : (bl J).length = J.size := Path.len_eq J
  obtain ⟨T, hT⟩ : ∃ T, (⟨#[100]⟩ : ByteArray) ++ J = T := ⟨_, rfl⟩
  have bT : bl T = 100 :: Lines.join (rows7 g C) := by rw [← sJ, ← hT]; simp [bl, ByteArray.data_append]
  have Fd : Fr None' wr wr.drew := Fr.drew None' wr
  refine ⟨va, c, J, T, hv, ?_, fun u => by rw [run_string_add_sum _ _ _ (by show 1 + J.size ≤ _; rw [← lJ, sJ]; omega), hT], hP, fun w2 F2 => ?_⟩
  · have h := Lines.join_any va c ((rows7 g C).map strB) wr.drew (Lines.Row.fr hr (toLN Fd)) (by rw [hlen]; omega) (by rw [hbs]; omega)
    rw [hbs, hlen] at h
    rw [← hJ]
    exact h.mono fun _ _ ⟨a, b⟩ => ⟨a, ofLN b⟩
  · obtain ⟨c, w3, hcv, hArg, F3⟩ := conv_arg w2 T
    have F := (Fd.then7 F2).then7 F3
    refine ⟨c, w3, hcv, (Fd.then7 F2).keepCell hP (fun e => e), F.keepCell hP (fun e => e), ?_⟩
    have cP := PF.call _ _ (PF.fresh h.at' F) hArg (fun ad n c e _ hm => by
      cases e
      have h1 : w2.heap.size < wr.heap.size := PF.lt h.at' hm
      have h2 := (Fd.then7 F2).size
      omega) (by rw [bT, List.length_cons]; omega) (by
      have h1 := hputs.cnt PF
      unfold node7 at hcn
      rw [List.length_append, List.length_singleton] at hcn
      omega)
    rw [bT] at cP
    refine cP.mono ?_
    rintro e w' ⟨er, y, s', M', he, hy, hR, hA', hf, hM⟩
    refine ⟨er, y, s', M', he, by rw [node7_last]; exact hy, hputs.then rfl (Puts.one hR), hA', (h.fr.trans (F.mono (fun _ e => e.elim)) (fun i e => h.sub i e)).trans hf (fun i e => h.sub i e), fun k hk => ?_⟩
    rcases hM k hk with e | e
    · exact h.sub k e
    · exact Or.inr (Nat.le_trans (Nat.le_trans h.fr.size F.size) e)

/-- A thing that is not kept. -/
theorem LI.stops {S : Type} {At : S → (Nat → Prop) → World → Prop} {R : S → List UInt8 → Int → S → Prop} {g : En → List (List UInt8)} {C : List En} {s s1 s2 : S} {M M1 M2 : Nat → Prop} {w wr w1 w2 : World} {k : Nat} {v : Value} (h : LI At R g C s M w k v s1 M1 wr) (hk : k < C.length) {x : En} (hx : C[k] = x) (F1 : Fr None' wr w1) {er : Int} (he : er ≠ 0) (hp : Puts R s1 (g x) er s2) (hA : At s2 M2 w2) (F2 : Fr M1 w1 w2) (hM : ∀ i, M2 i → M1 i ∨ w1.heap.size ≤ i) :
    KPost At R s (node7 g C) M w (.returned (.tuple #[.string ⟨#[]⟩, .int .i64 er])) w2 := by
  refine ⟨er, _, s2, M2, rfl, by rw [if_neg he]; rfl, ?_, hA, h.fr.trans ((F1.mono (fun _ e => e.elim)).trans F2 (fun _ e => Or.inl e)) (fun i e => h.sub i e), fun i hi => ?_⟩
  · have e : node7 g C = (C.take k).flatMap g ++ (g x ++ ((C.drop (k + 1)).flatMap g ++ [100 :: Lines.join (rows7 g C)])) := by
      unfold node7
      have : C.flatMap g = (C.take k).flatMap g ++ (g x ++ (C.drop (k + 1)).flatMap g) := by
        conv => lhs; rw [← List.take_append_drop k C, List.flatMap_append, List.drop_eq_getElem_cons hk, List.flatMap_cons, hx]
      rw [this]
      simp only [List.append_assoc]
    rw [e]
    exact h.puts.then rfl (hp.ends he _)
  · rcases hM i hi with e | e
    · exact h.sub i e
    · exact Or.inr (Nat.le_trans (Nat.le_trans h.fr.size F1.size) e)

theorem LI.start {S : Type} {At : S → (Nat → Prop) → World → Prop} {R : S → List UInt8 → Int → S → Prop} (g : En → List (List UInt8)) (C : List En) {s : S} {M : Nat → Prop} {w : World} (h : At s M w) : LI At R g C s M w 0 (.slice none 0 0) s M w :=
  ⟨World.ownsRow_nil w _ _ 1, fun _ => rfl, fun i e => (by cases e), .nil s, h, Fr.refl _ _, fun i e => Or.inl e⟩

end Go.Proofs.YtdaogldmcbfmoaaGreatDoor

namespace Go.Proofs.YtdaogldmcbfmoaaGreatDoor
open Go.RowKit Go.Maps Go.WideMaps
set_option maxRecDepth 100000

/-- What lies around down: the map's cell, keepThing's, put's; what the map has of a directory P. -/
def Around (W : World) (M1 : Nat → Prop) (g : Nat) (vs : Array Value) (b bT bK bP : Nat) (q1 q2 : Value) (P : ByteArray) (va : Option Addr) (n c : Nat) (C : List En) : Prop :=
  ∀ wr, Fr M1 W wr → wr.cell? ⟨bT, 0, none⟩ = some (.map (some b)) ∧ wr.cell? ⟨bK, 0, none⟩ = some (.func (.func 66) #[] #[q1, q2]) ∧ wr.cell? ⟨bP, 0, none⟩ = some (.func (.func g) #[] vs) ∧ (Instr.lookup 102 (.map (some b)) (.string P) false).run Tryz.prog wr = .ok (.slice va n c) wr ∧ EntsAt wr va C

theorem node7_room (g : En → List (List UInt8)) {C : List En} {k : Nat} (hk : k < C.length) : ((C.take k).flatMap g).length + (g C[k]).length ≤ (node7 g C).length := by
  unfold node7
  have : C.flatMap g = (C.take k).flatMap g ++ (g C[k] ++ (C.drop (k + 1)).flatMap g) := by
    conv => lhs; rw [← List.take_append_drop k C, List.flatMap_append, List.drop_eq_getElem_cons hk, List.flatMap_cons]
  rw [this]
  simp only [List.length_append]
  omega

set_option maxHeartbeats 8000000 in
theorem keep2_step {S : Type} {At : S → (Nat → Prop) → World → Prop} {R : S → List UInt8 → Int → S → Prop} {B g : Nat} {cnt : S → Nat} {Km : Nat} {vs : Array Value} (PF : PutFn At R B cnt Km g vs) (hB1 : 86017 ≤ B) {W : World} {M1 : Nat → Prop} {b bT bK bP : Nat} {q1 q2 : Value} {P : ByteArray} {va : Option Addr} {n c : Nat} {C : List En} (hE : Around W M1 g vs b bT bK bP q1 q2 P va n c C) (hn : C.length = n) (hn2 : n ≤ 1024) (hC : ∀ x ∈ C, Path.right (bl x.path) = true ∧ 1 ≤ x.kind ∧ x.kind ≤ 3 ∧ x.path.size < 100000000) (r : List UInt8 → List (List UInt8))
    (ih : ∀ k (hk : k < C.length) s M w vl, Fr M1 W w → At s M w → (∀ i, M i → M1 i ∨ W.heap.size ≤ i) → StrsAt w vl C[k].lines → cnt s + (part7 r C[k]).length ≤ Km → Calls Tryz.prog 66 #[.agg #[.string C[k].path, .int .i64 C[k].kind, vl, .string C[k].data], q1, q2] w (KPost At R s (part7 r C[k]) M w))
    {s : S} {M : Nat → Prop} {w : World} (FW : Fr M1 W w) (hA : At s M w) (hM : ∀ i, M i → M1 i ∨ W.heap.size ≤ i) (hcn : cnt s + (node7 (part7 r) C).length ≤ Km) :
    Calls Tryz.prog 68 #[.string P, .pointer (some ⟨bT, 0, none⟩), .pointer (some ⟨bK, 0, none⟩), .pointer (some ⟨bP, 0, none⟩)] w (KPost At R s (node7 (part7 r) C) M w) := by
  obtain ⟨e1, -, -, e4, -⟩ := hE w FW
  have HPF : Hid (PutFn At R B cnt Km g vs) := PF
  have HCN : Hid (cnt s + (node7 (part7 r) C).length ≤ Km) := hcn
  have hEn := PF.enters
  have HE : Hid (∀ wr k v s1 M2, LI At R (part7 r) C s M w k v s1 M2 wr → Fr M1 W wr ∧ (∀ i, M2 i → M1 i ∨ W.heap.size ≤ i)) := fun wr k v s1 M2 h => ⟨FW.trans h.fr (fun i e => hM i e), fun i hi => by
    rcases h.sub i hi with e | e
    · exact hM i e
    · exact Or.inr (Nat.le_trans FW.size e)⟩
  have HA : Hid (Around W M1 g vs b bT bK bP q1 q2 P va n c C) := hE
  have HC : Hid (C.length = n ∧ n ≤ 1024 ∧ 86017 ≤ B ∧ ∀ x ∈ C, Path.right (bl x.path) = true ∧ 1 ≤ x.kind ∧ x.kind ≤ 3 ∧ x.path.size < 100000000) := ⟨hn, hn2, hB1, hC⟩
  have HI : Hid _ := ih
  have L0 : Hid (LI At R (part7 r) C s M w 0 (.slice none 0 0) s M w) := LI.start _ _ hA
  have i1 : (n : Int) ≤ 1024 := by omega
  clear hE ih hn hn2 hC hA hM FW PF hB1 hcn
  go_enter Tryz.func68, Tryz.ntmps68
  go_wp2_with fail
  clear e1 e4
  go_loopw [7, 16] (fun vr vi wr => ∃ (k : Nat) (v : Value) (s1 : S) (M2 : Nat → Prop), k ≤ n ∧ vi = .int .i64 k ∧ v = vr ∧ Hid (LI At R (part7 r) C s M w k v s1 M2 wr)) (fun _ vi _ => n - (intOf vi).toNat)
  case atStart => exact ⟨0, _, s, M, Nat.zero_le _, rfl, rfl, L0.out⟩
  case round =>
    clear L0
    obtain ⟨k, v, s1, M2, hk, rfl, rfl, HL⟩ := hrel
    obtain ⟨FWr, hM2⟩ := HE.out _ _ _ _ _ HL.out
    obtain ⟨-, f2, f3, -, hEnts⟩ := HA.out _ FWr
    obtain ⟨rva, rc, hvr, -⟩ := HL.out.slice
    by_cases hlt : k < n
    · have hkC : k < C.length := by rw [HC.out.1]; exact hlt
      obtain ⟨g0, o0, rfl, vl, d0, d1, d2, d3, hs1⟩ := hEnts.get hkC
      obtain ⟨z1, z2, z3, z4⟩ := HC.out.2.2.2 _ (List.getElem_mem hkC)
      have cI := fun wx vl => HI.out k hkC s1 M2 wx vl
      obtain ⟨x, hxe⟩ : ∃ x, C[k] = x := ⟨_, rfl⟩
      have HX : Hid (C[k] = x) := hxe
      rw [hxe] at d0 d1 d3 hs1 z1 z2 z3 z4
      simp only [hxe] at cI
      obtain ⟨X, K0, l, Da⟩ := x
      simp only at d0 d1 d3 hs1 z1 z2 z3 z4 cI
      obtain ⟨K, rfl⟩ : ∃ K : Nat, K0 = (K : Int) := ⟨K0.toNat, by omega⟩
      have hs2 := hs1
      obtain ⟨pl, cl, rfl, _⟩ := hs1
      obtain ⟨nl, hnl⟩ : ∃ m, l.length = m := ⟨_, rfl⟩
      rw [hnl] at d2 hs2
      have i2 : (k : Int) < (n : Int) := by omega
      have i3 : (0 : Int) ≤ (k : Int) := by omega
      have i4 : (k : Int) ≤ 1024 := by omega
      obtain ⟨w1, hw1⟩ : ∃ w1, wr.alloc (.cells #[.string X, .int .i64 (K : Int), .slice pl nl cl, .string Da] 38) = w1 := ⟨_, rfl⟩
      have F1 : Fr None' wr w1 := hw1 ▸ Fr.alloc None' wr _
      obtain ⟨b0, b1, b2, b3⟩ := cell4 wr 38 (.string X) (.int .i64 (K : Int)) (.slice pl nl cl) (.string Da)
      rw [hw1] at b0 b1 b2 b3
      have FW1 : Fr M1 W w1 := FWr.trans F1 (fun _ e => e.elim)
      obtain ⟨-, j2, -, -, -⟩ := HA.out _ FW1
      have cK := cI w1 (.slice pl nl cl) FW1 (HPF.out.fresh HL.out.at' F1) hM2 (hs2.kept F1) (by
        have h1 := HL.out.puts.cnt HPF.out
        have h2 := node7_room (part7 r) hkC
        rw [HX.out] at h2
        have h3 := HCN.out
        omega)
      have HF1 : Hid (Fr None' wr w1) := F1
      have HZ : Hid (1 ≤ K ∧ K ≤ 3 ∧ X.size < 100000000 ∧ k < C.length ∧ ¬ M2 wr.heap.size) := ⟨by omega, by omega, z4, hkC, fun e => by have := HPF.out.lt HL.out.at' e; omega⟩
      clear cI hs2 hnl hxe z1 z2 z3 z4 F1 FW1 f2 f3 hEnts FWr hM2
      subst hvr
      go_wp2_with fail
      refine cK.mono ?_
      rintro e w2 ⟨er, y, s2, M3, rfl, hy, hp, hA2, F2, hM3⟩
      clear cK d0 d1 d2 d3 j2
      by_cases he : er = 0
      · subst he
        rw [if_pos rfl] at hy
        have HY : Hid (bl y = lastName (part7 r ⟨X, K, l, Da⟩)) := hy
        replace b0 := F2.keepCell b0 HZ.out.2.2.2.2
        replace b1 := F2.keepCell b1 HZ.out.2.2.2.2
        replace b2 := F2.keepCell b2 HZ.out.2.2.2.2
        replace b3 := F2.keepCell b3 HZ.out.2.2.2.2
        have ySize : y.size < 100000000 := by
          have h1 : (bl y).length = y.size := Path.len_eq y
          have h2 : (bl y).length = 64 := by rw [hy]; exact nm_length _
          omega
        have cR := rowOf_any X Da y K _ w2 pl nl cl rfl HZ.out.1 HZ.out.2.1 HZ.out.2.2.1 ySize
        obtain ⟨rs, hrs⟩ : ∃ rs, (⟨(rowL K (bl X) (bl y)).toArray⟩ : ByteArray) = rs := ⟨_, rfl⟩
        rw [hrs] at cR
        have HNX : Hid (∀ w3, Fr None' w2 w3 → _) := fun w3 F3 => HL.out.next HPF.out HZ.out.2.2.2.1 (by omega) HX.out HF1.out hp hA2 F2 hM3 F3 (r := rs) (by rw [← hrs, hy]; rfl)
        clear hy hp hA2 F2 hM3 ySize hrs
        go_wp2_with fail
        refine cR.mono ?_
        rintro e w3 ⟨rfl, F3⟩
        clear cR b0 b1 b2 b3
        obtain ⟨g4, c4, w4, hrun, hL4⟩ := HNX.out w3 F3
        have HL4 : Hid _ := hL4
        have HRUN : Hid _ := hrun
        clear hL4 hrun F3
        go_wp2_with (first
          | (at_builtin; refine app_list7 rfl _ _ rfl rfl rfl HRUN.out ?_)
          | go_in)
        exact ⟨⟨k + 1, _, s2, M3, by omega, by go_num, rfl, HL4.out⟩, by simp [intOf]; omega⟩
      · have HK : Hid _ := HL.out.stops HZ.out.2.2.2.1 HX.out HF1.out he hp hA2 F2 hM3
        clear hy hp hA2 F2 hM3 b0 b1 b2 b3
        have he2 : decide (er = 0) = false := by simpa using he
        go_wp2_with fail
        go_ret2
        exact HK.out
    · have e : k = n := by omega
      subst e
      obtain ⟨va2, c2, J, T, hv2, cJ, a1, hPd, hN⟩ := HL.out.done HPF.out HC.out.1 HC.out.2.1 (fun x hx => (HC.out.2.2.2 x hx).1) HC.out.2.2.1 HCN.out f3
      have HN : Hid _ := hN
      subst hv2
      clear hN hEnts f2 f3 hvr hM2 FWr
      go_wp2_with fail
      go_region_with (first
        | (go_at_call 67; refine cJ.mono ?_; rintro e w2 ⟨rfl, F2⟩; obtain ⟨c, w3, hcv, hP2, hP3, cP⟩ := HN.out w2 F2)
        | (refine cP.mono ?_; rintro e w4 hK; have HK : Hid (KPost At R s (node7 (part7 r) C) M w e w4) := hK; obtain ⟨er, y, s', M', he, _⟩ := hK; subst he))
      all_goals go_wp2_with fail
      all_goals go_ret2
      all_goals exact HK.out

end Go.Proofs.YtdaogldmcbfmoaaGreatDoor

namespace Go.Proofs.YtdaogldmcbfmoaaGreatDoor
open Go.RowKit Go.Maps Go.WideMaps
set_option maxRecDepth 100000

theorem GP.fr {base : Nat} {w0 w w' : World} {b m : Nat} {L : List En} {f : List UInt8 → Value} {V : List UInt8 → List Value} (h : GP base w0 w b m L f V) {M : Nat → Prop} (F : Fr M w w') (hb : ¬ M b) (hr : ∀ p k, (f p).ownBlock = some k → ¬ M k) : GP base w0 w' b m L f V := by
  obtain ⟨D, h1, h2, h3⟩ := h.map
  exact ⟨⟨D, F.map h1 hb, h2, h3⟩, fun p => (h.own p).fr F (hr p), h.apart⟩

/-- What keep has laid ahead of down. -/
structure KEnv (W : World) (M1 : Nat → Prop) (wA : World) (g : Nat) (vs : Array Value) (base b m bT bD bK bP : Nat) (L : List En) (f : List UInt8 → Value) (V : List UInt8 → List Value) : Prop where
  gp : GP base wA W b m L f V
  fa : Fr None' wA W
  low : ∀ k, M1 k → wA.heap.size ≤ k
  cT : W.cell? ⟨bT, 0, none⟩ = some (.map (some b))
  cD : W.cell? ⟨bD, 0, none⟩ = some (.func (.func 68) #[] #[.pointer (some ⟨bT, 0, none⟩), .pointer (some ⟨bK, 0, none⟩), .pointer (some ⟨bP, 0, none⟩)])
  cK : W.cell? ⟨bK, 0, none⟩ = some (.func (.func 66) #[] #[.pointer (some ⟨bD, 0, none⟩), .pointer (some ⟨bP, 0, none⟩)])
  cP : W.cell? ⟨bP, 0, none⟩ = some (.func (.func g) #[] vs)
  off : ¬ M1 bT ∧ ¬ M1 bD ∧ ¬ M1 bK ∧ ¬ M1 bP ∧ ¬ M1 b
  rows : ∀ p k, (f p).ownBlock = some k → ¬ M1 k

theorem KEnv.around {W : World} {M1 : Nat → Prop} {wA : World} {g : Nat} {vs : Array Value} {base b m bT bD bK bP : Nat} {L : List En} {f : List UInt8 → Value} {V : List UInt8 → List Value} (E : KEnv W M1 wA g vs base b m bT bD bK bP L f V) (P : ByteArray) (hP : P.size ≤ maxLen) :
    ∃ va c, Around W M1 g vs b bT bK bP (.pointer (some ⟨bD, 0, none⟩)) (.pointer (some ⟨bP, 0, none⟩)) P va (byKey L (bl P)).length c (byKey L (bl P)) := by
  obtain ⟨va, c, hv, _⟩ := (E.gp.own (bl P)).slice E.fa
  refine ⟨va, c, fun wr F => ?_⟩
  have G := E.gp.fr F E.off.2.2.2.2 E.rows
  have hl := G.look P hP
  obtain ⟨va', c', hv', _, _, hE, _⟩ := (G.own (bl P)).slice (E.fa.trans F (fun i e => Or.inr (E.low i e)))
  rw [hv] at hv' hl
  injection hv' with e1 _ e3
  subst e1 e3
  exact ⟨F.keepCell E.cT E.off.1, F.keepCell E.cK E.off.2.2.1, F.keepCell E.cP E.off.2.2.2.1, hl, hE⟩

theorem keep2_any {S : Type} {At : S → (Nat → Prop) → World → Prop} {R : S → List UInt8 → Int → S → Prop} {B g : Nat} {cnt : S → Nat} {Km : Nat} {vs : Array Value} (PF : PutFn At R B cnt Km g vs) (hB1 : 86017 ≤ B) (hB2 : B ≤ 10000000) {W : World} {M1 : Nat → Prop} {wA : World} {base b m bT bD bK bP : Nat} {L : List En} {f : List UInt8 → Value} {V : List UInt8 → List Value} (E : KEnv W M1 wA g vs base b m bT bD bK bP L f V) (hT : treeRight L = true) {N : Nat} (hN : N < 100000000) (hsz : ∀ x ∈ L, x.path.size ≤ N ∧ x.lines.length < 900000 ∧ (leaf x).length ≤ B) :
    ∀ (fuel : Nat) (P : ByteArray) (s : S) (M : Nat → Prop) (w : World), N < P.size + fuel → P.size ≤ N → Fr M1 W w → At s M w → (∀ i, M i → M1 i ∨ W.heap.size ≤ i) → cnt s + (keptL L fuel (bl P)).length ≤ Km →
      Calls Tryz.prog 68 #[.string P, .pointer (some ⟨bT, 0, none⟩), .pointer (some ⟨bK, 0, none⟩), .pointer (some ⟨bP, 0, none⟩)] w (KPost At R s (keptL L fuel (bl P)) M w) := by
  intro fuel
  induction fuel with
  | zero => intro P s M w h1 h2; omega
  | succ fl ih =>
    intro P s M w h1 h2 FW hA hM hcn
    obtain ⟨va, c, hAr⟩ := E.around P (by unfold maxLen; omega)
    have hin : ∀ x ∈ byKey L (bl P), x ∈ L ∧ (bl P).length < (bl x.path).length := fun x hx => byKey_longer hT hx
    refine keep2_step PF hB1 hAr rfl (Nat.le_trans (List.length_filter_le _ _) ((treeRight_D L).1 hT).1) (fun x hx => ?_) (keptL L fl) (fun k hk s' M' w' vl FW' hA' hM' hs hcn' => ?_) FW hA hM hcn
    · have h := right_at7 hT (hin x hx).1
      exact ⟨h.1, h.2.1, h.2.2, by have := (hsz x (hin x hx).1).1; omega⟩
    · have hx := hin _ (List.getElem_mem hk)
      generalize (byKey L (bl P))[k] = x at hx hs hcn' ⊢
      obtain ⟨hxL, hlong⟩ := hx
      obtain ⟨z1, z2, z3⟩ := hsz x hxL
      have hlp : (bl P).length = P.size := Path.len_eq P
      have hlx : (bl x.path).length = x.path.size := Path.len_eq x.path
      have hk3 := (right_at7 hT hxL).2
      have hPc := FW'.keepCell E.cP E.off.2.2.2.1
      obtain ⟨X, K, l, Da⟩ := x
      simp only at hs z1 z2 z3 hlong hlx hk3 ⊢
      obtain ⟨pl, cl, rfl, _, _, hr⟩ := hs
      unfold part7 leaf
      unfold leaf at z3
      unfold part7 at hcn'
      have h3 : K = 1 ∨ K = 2 ∨ K = 3 := by omega
      rcases h3 with rfl | rfl | rfl
      · exact keep1_dir X Da _ w' pl l.length cl rfl bD _ _ _ _ (FW'.keepCell E.cD E.off.2.1) (fun w1 F1 => ih X s' M' w1 (by omega) z1 (FW'.trans F1 (fun _ e => e.elim)) (PF.fresh hA' F1) hM' hcn')
      · have z4 : (Lines.join (Lines.bs l)).length + 1 ≤ B := by simpa using z3
        exact keep1_text PF (show cnt s' + 1 ≤ Km by simpa using hcn') X Da _ w' l pl l.length cl rfl rfl hr z2 _ bP hPc hA' z4 hB2
      · have z4 : (bl Da).length + 1 ≤ B := by simpa using z3
        have hld : (bl Da).length = Da.size := Path.len_eq Da
        exact keep1_data PF (show cnt s' + 1 ≤ Km by simpa using hcn') X Da _ w' pl l.length cl rfl _ bP hPc hA' (by omega) (by omega)

end Go.Proofs.YtdaogldmcbfmoaaGreatDoor

namespace Go.Proofs.YtdaogldmcbfmoaaGreatDoor
open Go.RowKit Go.Maps Go.WideMaps
set_option maxRecDepth 100000

theorem run_store_func7 {P : Program} {w : World} {a : Addr} {m : Mode} (f : Fn) (x y : Array Value) : (store a (.func f x y) m).run P w = stored P w a (.func f x y) m := run_store P w a _ m rfl

attribute [local go_sem] run_store_func7

/-- What keep hands back. -/
def KeepPost {S : Type} (At : S → (Nat → Prop) → World → Prop) (R : S → List UInt8 → Int → S → Prop) (L : List En) (N : Nat) (s : S) (M : Nat → Prop) (w : World) (e : Ending) (w' : World) : Prop :=
  (treeRight L = true ∧ KPost At R s (keptL L (N + 1) []) M w e w') ∨ (treeRight L = false ∧ e = .returned (.tuple #[.string ⟨#[]⟩, .int .i64 1]) ∧ At s M w' ∧ Fr None' w w')

set_option maxHeartbeats 4000000 in
theorem keep_any {S : Type} {At : S → (Nat → Prop) → World → Prop} {R : S → List UInt8 → Int → S → Prop} {B g : Nat} {cnt : S → Nat} {Km : Nat} {vs : Array Value} (PF : PutFn At R B cnt Km g vs) (hB1 : 86017 ≤ B) (hB2 : B ≤ 10000000) {L : List En} {N : Nat} (hN : N < 100000000) (hsz : ∀ x ∈ L, x.path.size ≤ N ∧ x.lines.length < 900000 ∧ (leaf x).length ≤ B) (hsm : SmallE L) {wA w : World} {va : Option Addr} {n c : Nat} (hl : L.length = n) (hn : n ≤ 100000) (h : EntsAt wA va L) (FA : Fr None' wA w) {s : S} {M : Nat → Prop} (hA : At s M w) (hM : ∀ k, M k → wA.heap.size ≤ k) (hcn : cnt s + (keptL L (N + 1) []).length ≤ Km) :
    Calls Tryz.prog 36 #[.slice va n c, .func (.func g) #[] vs] w (KeepPost At R L N s M w) := by
  obtain ⟨w1, hw1⟩ : ∃ w1, w.alloc (.cells #[.func (.func g) #[] vs] 70) = w1 := ⟨_, rfl⟩
  have F1 : Fr None' w w1 := hw1 ▸ Fr.alloc None' w _
  have cR := tright_any va n c L w1 hl (h.kept (FA.then7 F1)) hn hsm
  have HB : Hid (∀ w2, Fr None' w1 w2 → _) := fun w2 F2 => byParent_any va n c L wA w2 hl h ((FA.then7 F1).then7 F2) hn hsm
  have HF1 : Hid (Fr None' w w1) := F1
  cases hT : treeRight L with
  | false =>
    rw [hT] at cR
    have HP : Hid (∀ w2, Fr None' w1 w2 → KeepPost At R L N s M w (.returned (.tuple #[.string ⟨#[]⟩, .int .i64 1])) w2) := fun w2 F2 => Or.inr ⟨hT, rfl, PF.fresh hA (F1.then7 F2), F1.then7 F2⟩
    clear hsz hsm hl h FA hA hM F1 HB hT hcn
    go_enter Tryz.func36, Tryz.ntmps36
    go_wp2_with fail
    refine cR.mono ?_
    rintro e w2 ⟨rfl, F2⟩
    clear cR
    go_wp2_with fail
    go_ret2
    exact HP.out _ F2
  | true =>
    rw [hT] at cR
    have HT : Hid (treeRight L = true) := hT
    have HW : Hid (∀ w2 w3 b m f V, Fr None' w1 w2 → GP w2.heap.size wA w3 b m L f V → Fr None' w2 w3 → w2.heap.size ≤ b → Calls Tryz.prog 68 #[.string ⟨#[]⟩, .pointer (some ⟨w3.heap.size, 0, none⟩), .pointer (some ⟨w3.heap.size + 1 + 1, 0, none⟩), .pointer (some ⟨w.heap.size, 0, none⟩)] (((w3.alloc (.cells #[.map (some b)] 102)).alloc (.cells #[.func (.func 68) #[] #[.pointer (some ⟨w3.heap.size, 0, none⟩), .pointer (some ⟨w3.heap.size + 1 + 1, 0, none⟩), .pointer (some ⟨w.heap.size, 0, none⟩)]] 104)).alloc (.cells #[.func (.func 66) #[] #[.pointer (some ⟨w3.heap.size + 1, 0, none⟩), .pointer (some ⟨w.heap.size, 0, none⟩)]] 106)) (KPost At R s (keptL L (N + 1) []) M w)) := fun w2 w3 b m f V F2 hG F3 hb => by
      have cP0 : w1.cell? ⟨w.heap.size, 0, none⟩ = some (.func (.func g) #[] vs) := by rw [← hw1]; simp
      obtain ⟨wT, hwT⟩ : ∃ x, w3.alloc (.cells #[.map (some b)] 102) = x := ⟨_, rfl⟩
      have c1 : wT.cell? ⟨w3.heap.size, 0, none⟩ = some (.map (some b)) := by rw [← hwT]; simp
      have s1 : wT.heap.size = w3.heap.size + 1 := by rw [← hwT]; simp
      have G1 : Fr None' w3 wT := hwT ▸ Fr.alloc None' w3 _
      rw [hwT]
      generalize hvd : Value.func (.func 68) #[] #[.pointer (some ⟨w3.heap.size, 0, none⟩), .pointer (some ⟨w3.heap.size + 1 + 1, 0, none⟩), .pointer (some ⟨w.heap.size, 0, none⟩)] = vd
      generalize hvk : Value.func (.func 66) #[] #[.pointer (some ⟨w3.heap.size + 1, 0, none⟩), .pointer (some ⟨w.heap.size, 0, none⟩)] = vk
      obtain ⟨wD, hwD⟩ : ∃ x, wT.alloc (.cells #[vd] 104) = x := ⟨_, rfl⟩
      have c2 : wD.cell? ⟨wT.heap.size, 0, none⟩ = some vd := by rw [← hwD]; simp
      have s2 : wD.heap.size = wT.heap.size + 1 := by rw [← hwD]; simp
      have G2 : Fr None' wT wD := hwD ▸ Fr.alloc None' wT _
      rw [hwD]
      obtain ⟨wK, hwK⟩ : ∃ x, wD.alloc (.cells #[vk] 106) = x := ⟨_, rfl⟩
      have c3 : wK.cell? ⟨wD.heap.size, 0, none⟩ = some vk := by rw [← hwK]; simp
      have G3 : Fr None' wD wK := hwK ▸ Fr.alloc None' wD _
      rw [hwK]
      have G := (G1.then7 G2).then7 G3
      have F := (F1.then7 F2).then7 F3
      have lo : ∀ k, M k → k < w.heap.size := fun k hk => PF.lt hA hk
      have h12 := (F1.then7 F2).size
      have h3 := F.size
      rw [s1] at c2
      rw [s2, s1] at c3
      have E : KEnv wK M wA g vs w2.heap.size b m w3.heap.size (w3.heap.size + 1) (w3.heap.size + 1 + 1) w.heap.size L f V := {
        gp := hG.kept G
        fa := (FA.then7 F).then7 G
        low := hM
        cT := (G2.then7 G3).keepCell c1 (fun e => e)
        cD := by rw [hvd]; exact G3.keepCell c2 (fun e => e)
        cK := by rw [hvk]; exact c3
        cP := ((F2.then7 F3).then7 G).keepCell cP0 (fun e => e)
        off := ⟨fun e => by have := lo _ e; omega, fun e => by have := lo _ e; omega, fun e => by have := lo _ e; omega, fun e => by have := lo _ e; omega, fun e => by have := lo _ e; omega⟩
        rows := fun p k hk e => by
          obtain ⟨_, _, _, _, _, _, h7⟩ := (hG.own p).slice (FA.then7 F)
          have := lo _ e
          have := (h7 k hk).1
          omega }
      exact (keep2_any PF hB1 hB2 E hT hN hsz (N + 1) ⟨#[]⟩ s M wK (by show N < 0 + (N + 1); omega) (Nat.zero_le _) (Fr.refl _ _) (PF.fresh hA (F.then7 G)) (fun i e => Or.inl e) hcn).mono fun e w' h => KPost.early (F.then7 G) h
    clear hsz hsm hl h FA hA hM F1 hT hB1 hB2 hN PF hcn
    go_enter Tryz.func36, Tryz.ntmps36
    go_wp2_with fail
    refine cR.mono ?_
    rintro e w2 ⟨rfl, F2⟩
    clear cR
    have cB := HB.out w2 F2
    go_wp2_with fail
    refine cB.mono ?_
    rintro e w3 ⟨b, m, f, V, rfl, hG, F3, hb⟩
    clear cB
    go_wp2_with fail
    refine (HW.out w2 w3 b m f V F2 hG F3 hb).mono ?_
    rintro e w' hK
    have HK : Hid (KPost At R s (keptL L (N + 1) []) M w e w') := hK
    obtain ⟨er, y, s', M', he, _⟩ := hK
    subst he
    clear hG F3 hb F2
    go_wp2_with fail
    go_ret2
    exact Or.inl ⟨HT.out, HK.out⟩

end Go.Proofs.YtdaogldmcbfmoaaGreatDoor
