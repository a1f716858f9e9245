/-
  What is proved here: the contracts that the statement stands on: NameT, PutT, Count7, SaveT. Conditions: as each theorem names them.
-/
import Derived.Test.YtdaogldmcbfmoaaGreatDoorM42Keep2
import Derived.Conc.MuLone
import Derived.Test.YtdaogldmcbfmoaaGreatDoorM34Plain3
import Derived.Test.YtdaogldmcbfmoaaGreatDoorM40RowT
namespace Go.Proofs.YtdaogldmcbfmoaaGreatDoor
open Go.RowKit Go.Maps Go.WideMaps
set_option maxRecDepth 100000

/-- Nothing is put to. -/
def AtN (_ : Unit) (M : Nat → Prop) (_ : World) : Prop := ∀ k, ¬ M k
def PutN (_ : Unit) (_ : List UInt8) (e : Int) (_ : Unit) : Prop := e = 0

theorem name1_any (v : Value) (b : List UInt8) (w : World) (h : Arg w v b) (hb : b.length ≤ 100000) :
    Calls Tryz.prog 37 #[v] w fun e w' => e = .returned (.tuple #[.string ⟨(nm b).toArray⟩, .int .i64 0]) ∧ Fr None' w w' := by
  have cN := name_is h hb
  obtain ⟨y, hy⟩ : ∃ y, (⟨(nm b).toArray⟩ : ByteArray) = y := ⟨_, rfl⟩
  rw [hy] at cN ⊢
  obtain ⟨va, cap, rfl, _⟩ := h.byt
  clear h hb hy
  go_enter Tryz.func37, Tryz.ntmps37
  go_wp2_with fail
  refine cN.mono ?_
  rintro e w1 ⟨rfl, F1⟩
  go_wp2_with fail
  go_ret2
  exact ⟨rfl, F1⟩

theorem putN (K : Nat) : PutFn AtN PutN 100000 (fun _ => 0) (K + 1) 37 #[] where
  step _ := Nat.zero_le _
  enters args w := Go.MuLone.run_callFunc_enter Tryz.func37 (by kernel_rfl) rfl args w
  fresh h _ := h
  kept h _ _ := h
  lt h hm := absurd hm (h _)
  call := fun {s M w} v b hA hArg _ hb _ => (name1_any v b w hArg hb).mono fun e w' ⟨he, hf⟩ => ⟨0, _, (), M, he, rfl, rfl, hA, hf.mono (fun _ e => e.elim), fun k hk => Or.inl hk⟩

/-- Name's answer: the name of what is kept last, or an error. -/
def nameAns (L : List En) (N : Nat) : Value := if treeRight L = true then .tuple #[.string (strB (lastName (keptL L (N + 1) []))), .int .i64 0] else .tuple #[.string ⟨#[]⟩, .int .i64 1]

theorem puts_N {s : Unit} {ks : List (List UInt8)} {e : Int} {s' : Unit} (h : Puts PutN s ks e s') : e = 0 := by
  induction h with
  | nil => rfl
  | stop h1 h2 => exact absurd h1 h2
  | next _ _ ih => exact ih

theorem tname_any {L : List En} {N : Nat} (hN : N < 100000000) (hsz : ∀ x ∈ L, x.path.size ≤ N ∧ x.lines.length < 900000 ∧ (leaf x).length ≤ 100000) (hsm : SmallE L) {w : World} {va : Option Addr} {n c : Nat} (hl : L.length = n) (hn : n ≤ 100000) (h : EntsAt w va L) :
    Calls Tryz.prog 11 #[.slice va n c] w fun e w' => e = .returned (nameAns L N) ∧ Fr None' w w' := by
  have cK := keep_any (putN (keptL L (N + 1) []).length) (by omega) (by omega) hN hsz hsm hl hn h (Fr.refl None' w) (s := ()) (M := None') (fun _ e => e) (fun _ e => e.elim) (by omega) (c := c)
  have HK : Hid (∀ e w', KeepPost AtN PutN L N () None' w e w' → e = .returned (nameAns L N) ∧ Fr None' w w') := fun e w' hp => by
    unfold nameAns
    rcases hp with ⟨hT, er, y, s', M', he, hy, hp, _, hf, _⟩ | ⟨hT, he, _, hf⟩
    · have e0 := puts_N hp
      subst e0
      rw [if_pos rfl] at hy
      rw [if_pos hT, he, strB_bl hy]
      exact ⟨rfl, hf⟩
    · rw [if_neg (by rw [hT]; exact Bool.false_ne_true), he]
      exact ⟨rfl, hf⟩
  have hv : ∃ y er, nameAns L N = .tuple #[.string y, .int .i64 er] := by
    unfold nameAns
    split
    · exact ⟨_, _, rfl⟩
    · exact ⟨_, _, rfl⟩
  obtain ⟨y, er, hv⟩ := hv
  rw [hv] at HK ⊢
  clear hsz hsm hl h hn hN hv
  go_enter Tryz.func11, Tryz.ntmps11
  go_wp2_with fail
  refine cK.mono ?_
  rintro e w1 hp
  obtain ⟨he, hf⟩ := HK.out e w1 hp
  have HF : Hid (Fr None' w w1) := hf
  subst he
  clear cK hp hf HK
  go_wp2_with fail
  go_ret2
  exact ⟨rfl, HF.out⟩

end Go.Proofs.YtdaogldmcbfmoaaGreatDoor

namespace Go.Proofs.YtdaogldmcbfmoaaGreatDoor
open Go.RowKit Go.Maps Go.WideMaps
set_option maxRecDepth 100000

theorem Stepped.start {w : World} {p : Nat} {M : Nat → Prop} {S : St} (h : Disk w p M S) : Stepped M w p S w := ⟨M, h, Fr.refl _ _, fun _ e => Or.inl e⟩

theorem Stepped.next {M : Nat → Prop} {w w1 w2 : World} {p : Nat} {S2 : St} {M1 : Nat → Prop} (hf : Fr M w w1) (hM : ∀ k, M1 k → M k ∨ w.heap.size ≤ k) (h : Stepped M1 w1 p S2 w2) : Stepped M w p S2 w2 := by
  obtain ⟨M2, h1, h2, h3⟩ := h
  refine ⟨M2, h1, hf.trans h2 hM, fun k hk => ?_⟩
  rcases h3 k hk with e | e
  · exact hM k e
  · exact Or.inr (Nat.le_trans hf.size e)

theorem Stepped.fresh {M : Nat → Prop} {w w1 w2 : World} {p : Nat} {S : St} (h : Stepped M w p S w1) (f : Fr None' w1 w2) : Stepped M w p S w2 := by
  obtain ⟨M', h1, h2, h3⟩ := h
  exact ⟨M', h1.fresh f, h2.trans f (fun _ e => e.elim), h3⟩

theorem Stepped.early {M : Nat → Prop} {w w1 w2 : World} {p : Nat} {S : St} (f : Fr None' w w1) (h : Stepped M w1 p S w2) : Stepped M w p S w2 :=
  Stepped.next (f.mono (fun _ e => e.elim)) (fun _ hk => Or.inl hk) h

theorem Stepped.same {M : Nat → Prop} {w w1 : World} {p : Nat} {S : St} (h : Disk w p M S) (f : Fr None' w w1) : Stepped M w p S w1 := (Stepped.start h).fresh f

set_option maxHeartbeats 2000000 in
theorem put_st {wi : World} {p : Nat} {M : Nat → Prop} {S : St} (h : Disk wi p M S) (hS : S.fine) (v : Value) (b : List UInt8) (hv : Arg wi v b) (hO : Out M v) (hu : used S.F < 1099511627776) (hb : b.length ≤ 100000) :
    Calls Tryz.prog 41 #[.pointer (some ⟨p, 0, none⟩), v] wi fun e w' => ∃ v', e = .returned (.tuple #[.string ⟨(S.put b v').1.toArray⟩, .int .i64 (S.put b v').2.1]) ∧ Stepped M wi p (S.put b v').2.2 w' := by
  have hN := name_is hv (by omega)
  obtain ⟨x, hx⟩ : ∃ x, nm b = x := ⟨_, rfl⟩
  have hxl : x.length = 64 := by rw [← hx]; exact nm_length b
  have hR := fun wx (hx' : Fr None' wi wx) => read_any p M S ⟨(fileK x).toArray⟩ wx (h.fresh hx') (by rw [size_mk]; have := fileK_length hxl; have := max100; omega) hu
  simp only at hR
  have hW := fun wx (hx' : Fr None' wi wx) (ha : Arg wx v b) => write_any p M S ⟨(fileK x).toArray⟩ v b wx (h.fresh hx') hS (by rw [size_mk]; have := fileK_length hxl; have := max100; omega) ha.bytes hO hu (by omega)
  simp only at hW
  unfold St.put
  rw [hx] at hN ⊢
  obtain ⟨r1, hr1⟩ : ∃ r, (S.read (fileK x)).1 = r := ⟨_, rfl⟩
  obtain ⟨r2, hr2⟩ : ∃ r, (S.read (fileK x)).2 = r := ⟨_, rfl⟩
  rw [hr1, hr2]
  rw [hr1, hr2] at hR
  have HR : Hid _ := hR
  have HW : Hid _ := hW
  clear hr1 hr2 hR hW
  have HV : Hid (Arg wi v b) := hv
  have HH : Hid (Disk wi p M S) := h
  have HX : Hid (x.length = 64) := hxl
  clear hx hv h hS hO hxl hu
  go_enter Tryz.func41, Tryz.ntmps41
  go_wp2_with fail
  refine hN.mono ?_
  rintro e w1 ⟨rfl, f1⟩
  clear hN
  go_wp2_with fail
  refine (fileOf_any x w1 HX.out).mono ?_
  rintro e w2 ⟨rfl, f2⟩
  have f02 := f1.then f2
  have hR := HR.out w2 f02
  have V2 : Hid (Arg w2 v b) := HV.out.fresh f02
  clear f1 f2 HV HR
  go_wp2_with fail
  refine hR.mono ?_
  rintro e w3 ⟨v3, rfl, d3, f3⟩
  have f03 := f02.then f3
  have V3 : Hid (Arg w3 v b) := V2.out.fresh f3
  clear hR f3 V2 f02
  have hE := equal_any d3.bytes V3.out.bytes
  have HF : Hid (Fr None' wi w3) := f03
  clear d3 f03
  by_cases h0 : r2 = 0
  · subst h0
    by_cases h1 : r1 = b
    · subst h1
      rw [decide_eq_true rfl] at hE
      go_wp2_with fail
      refine hE.mono ?_
      rintro e w4 ⟨rfl, rfl⟩
      clear hE
      go_wp2
      go_ret2
      exact ⟨rfl, Stepped.same HH.out HF.out⟩
    · rw [decide_eq_false h1] at hE
      go_wp2_with fail
      refine hE.mono ?_
      rintro e w4 ⟨rfl, rfl⟩
      clear hE
      go_wp2
      go_ret2
      exact ⟨rfl, Stepped.same HH.out HF.out⟩
  · clear hE
    by_cases h2 : r2 = 12
    · subst h2
      go_wp2_with fail
      refine (fileOf_any x w3 HX.out).mono ?_
      rintro e w4 ⟨rfl, f4⟩
      have hW := HW.out w4 (HF.out.then f4) (V3.out.fresh f4)
      have HF4 : Hid (Fr None' wi w4) := HF.out.then f4
      clear f4 HW
      go_wp2_with fail
      refine hW.mono ?_
      rintro e w5 ⟨v5, rfl, L5⟩
      clear hW
      obtain ⟨c, hc⟩ : ∃ c, (S.write ⟨fileK x, v5, b⟩).1 = c := ⟨_, rfl⟩
      rw [hc]
      have L6 : Stepped M wi p (S.write ⟨fileK x, v5, b⟩).2 w5 := Stepped.early HF4.out L5
      clear L5
      by_cases hc0 : c = 0
      · subst hc0
        go_wp2
        go_ret2
        refine ⟨v5, ?_, ?_⟩
        · simp [hc]
        · simpa [hc] using L6
      · go_wp2
        go_ret2
        refine ⟨v5, ?_, ?_⟩
        · simp [hc, hc0]
        · simpa [hc, hc0] using L6
    · go_wp2
      go_ret2
      exact ⟨rfl, Stepped.same HH.out HF.out⟩

end Go.Proofs.YtdaogldmcbfmoaaGreatDoor

namespace Go.Proofs.YtdaogldmcbfmoaaGreatDoor
set_option maxRecDepth 100000

theorem countP_or {α : Type} (l : List α) (p q : α → Bool) (h : ∀ x ∈ l, ¬ (p x = true ∧ q x = true)) : l.countP (fun x => p x || q x) = l.countP p + l.countP q := by
  induction l with
  | nil => rfl
  | cons x l ih =>
    have h1 := ih fun y hy => h y (List.mem_cons_of_mem _ hy)
    have h2 := h x (List.mem_cons_self ..)
    simp only [List.countP_cons, h1]
    cases hp : p x <;> cases hq : q x <;> simp [hp, hq] at h2 ⊢ <;> omega

/-- How many things lie at a path or below it. -/
def inside (L : List En) (q : List UInt8) : Nat := L.countP fun y => Path.within (bl y.path) q

theorem sum_inside (L : List En) (C : List (List UInt8)) (h : C.Pairwise fun a b => ∀ q, ¬ (Path.within q a = true ∧ Path.within q b = true)) : (C.map (inside L)).sum ≤ L.countP fun y => C.any fun a => Path.within (bl y.path) a := by
  induction C with
  | nil => exact Nat.zero_le _
  | cons a C ih =>
    obtain ⟨h1, h2⟩ := List.pairwise_cons.1 h
    have h3 := ih h2
    simp only [List.map_cons, List.sum_cons, List.any_cons]
    rw [countP_or]
    · unfold inside at h3 ⊢
      omega
    · rintro y _ ⟨e1, e2⟩
      obtain ⟨b, hb, e3⟩ := List.any_eq_true.1 e2
      exact h1 b hb _ ⟨e1, e3⟩

/-- How a thing's path goes on behind its directory's. -/
def pre7 (p : List UInt8) : List UInt8 := if p = [] then [] else p ++ [47]

theorem byKey_shape {L : List En} (h : treeRight L = true) {p : List UInt8} {x : En} (hx : x ∈ byKey L p) : ∃ a, (47 : UInt8) ∉ a ∧ bl x.path = pre7 p ++ a := by
  obtain ⟨h1, h2⟩ := List.mem_filter.1 hx
  have hk : keyOfE x = p := by simpa using h2
  have hr := (right_at7 h h1).1
  subst hk
  unfold keyOfE pre7
  cases hp : Path.parent (bl x.path) with
  | none => exact ⟨bl x.path, parent_noSlash hp, rfl⟩
  | some c =>
    obtain ⟨b, e, hb⟩ := Path.parent_some hp
    have hc : c ≠ [] := fun e2 => by
      have := (Path.right_parent hr hp).1
      rw [e2, not_right_nil] at this
      cases this
    refine ⟨b, hb, ?_⟩
    show _ = (if c = [] then [] else c ++ [47]) ++ b
    rw [if_neg hc, e]
    simp

theorem takes_part {a r : List UInt8} (ha : (47 : UInt8) ∉ a) (hr : r = [] ∨ ∃ t, r = 47 :: t) : (a ++ r).takeWhile (fun c => decide (c ≠ 47)) = a := by
  induction a with
  | nil =>
    rcases hr with rfl | ⟨t, rfl⟩ <;> simp
  | cons c a ih =>
    have hc : c ≠ 47 := fun e => ha (by rw [e]; exact List.mem_cons_self ..)
    rw [List.cons_append, List.takeWhile_cons, if_pos (by simpa using hc), ih fun e => ha (List.mem_cons_of_mem _ e)]

theorem within_part {q s a : List UInt8} (ha : (47 : UInt8) ∉ a) (h : Path.within q (s ++ a) = true) : (q.drop s.length).takeWhile (fun c => decide (c ≠ 47)) = a := by
  rcases (Path.within_iff _ _).1 h with e | ⟨r, e⟩
  · rw [e, List.drop_left]
    have := takes_part (r := []) ha (.inl rfl)
    rwa [List.append_nil] at this
  · rw [e, List.append_assoc, List.drop_left]
    exact takes_part ha (.inr ⟨r, rfl⟩)

theorem byKey_apart {L : List En} (h : treeRight L = true) (p : List UInt8) : ((byKey L p).map fun x => bl x.path).Pairwise fun a b => ∀ q, ¬ (Path.within q a = true ∧ Path.within q b = true) := by
  have h0 : L.Pairwise fun x y => bl x.path ≠ bl y.path := by
    rw [List.pairwise_iff_getElem]
    intro i j hi hj hij e
    have hr := rising (L := L) (fun j hj => by
      have := ((treeRight_iff L).1 h).2 j hj
      unfold okAt at this
      simp only [Bool.and_eq_true] at this
      exact this.1.1.2) i j hi hj hij
    rw [e] at hr
    exact List.lt_irrefl _ hr
  rw [List.pairwise_map]
  have h1 : (byKey L p).Pairwise fun x y => bl x.path ≠ bl y.path := h0.filter _
  refine h1.imp_of_mem fun {x y} hx hy hne q hq => ?_
  obtain ⟨a, ha, ea⟩ := byKey_shape h hx
  obtain ⟨b, hb, eb⟩ := byKey_shape h hy
  rw [ea, eb] at hq
  have e1 := within_part ha hq.1
  have e2 := within_part hb hq.2
  exact hne (by rw [ea, eb, ← e1, ← e2])

theorem byKey_within {L : List En} (h : treeRight L = true) {p : List UInt8} (hp : p ≠ []) {x : En} (hx : x ∈ byKey L p) : Path.within (bl x.path) p = true := by
  obtain ⟨a, _, e⟩ := byKey_shape h hx
  rw [e, pre7, if_neg hp]
  simpa using Path.within_join p a

theorem flat_len {α : Type} (c : List α) (g : α → List (List UInt8)) (n : α → Nat) (h : ∀ x ∈ c, (g x).length ≤ n x) : (c.flatMap g).length ≤ (c.map n).sum := by
  induction c with
  | nil => exact Nat.le_refl _
  | cons x c ih =>
    have h1 := ih fun y hy => h y (List.mem_cons_of_mem _ hy)
    have h2 := h x (List.mem_cons_self ..)
    simp only [List.flatMap_cons, List.length_append, List.map_cons, List.sum_cons]
    omega

theorem inside_pos {L : List En} {x : En} (hx : x ∈ L) : 1 ≤ inside L (bl x.path) := List.countP_pos_iff.2 ⟨x, hx, Path.within_refl _⟩

theorem node_len {L : List En} {fl : Nat} (ih : ∀ x ∈ L, (keptL L fl (bl x.path)).length ≤ inside L (bl x.path)) (h : treeRight L = true) (p : List UInt8) : (keptL L (fl + 1) p).length ≤ (L.countP fun y => ((byKey L p).map fun x => bl x.path).any fun a => Path.within (bl y.path) a) + 1 := by
  have h1 := sum_inside L _ (byKey_apart h p)
  have h2 := flat_len (byKey L p) (part7 (keptL L fl)) (fun x => inside L (bl x.path)) (fun x hx => by
    have hxL := (byKey_longer h hx).1
    unfold part7
    split
    · exact ih x hxL
    · exact inside_pos hxL)
  rw [List.map_map] at h1
  show (node7 _ _).length ≤ _
  unfold node7
  rw [List.length_append, List.length_singleton]
  exact Nat.add_le_add_right (Nat.le_trans h2 h1) 1

theorem kept_inside {L : List En} (h : treeRight L = true) : ∀ (fl : Nat), ∀ x ∈ L, (keptL L fl (bl x.path)).length ≤ inside L (bl x.path) := by
  intro fl
  induction fl with
  | zero => intro x _; exact Nat.zero_le _
  | succ fl ih =>
    intro x hx
    have h1 := node_len ih h (bl x.path)
    have hp : bl x.path ≠ [] := fun e => by
      have := (right_at7 h hx).1
      rw [e, not_right_nil] at this
      cases this
    have h2 : 1 ≤ L.countP fun y => decide (bl y.path = bl x.path) := List.countP_pos_iff.2 ⟨x, hx, by simp⟩
    have h3 := countP_or L (fun y => ((byKey L (bl x.path)).map fun x => bl x.path).any fun a => Path.within (bl y.path) a) (fun y => decide (bl y.path = bl x.path)) (by
      rintro y _ ⟨e1, e2⟩
      obtain ⟨a, ha, e3⟩ := List.any_eq_true.1 e1
      obtain ⟨z, hz, rfl⟩ := List.mem_map.1 ha
      have e4 : bl y.path = bl x.path := by simpa using e2
      have h5 := (byKey_longer h hz).2
      rcases Path.within_long e3 with e | e
      · rw [e4] at e; rw [← e] at h5; omega
      · rw [e4] at e; omega)
    have h4 : (L.countP fun y => (((byKey L (bl x.path)).map fun x => bl x.path).any fun a => Path.within (bl y.path) a) || decide (bl y.path = bl x.path)) ≤ inside L (bl x.path) := by
      unfold inside
      refine List.countP_mono_left fun y _ e => ?_
      rcases Bool.or_eq_true_iff.1 e with e | e
      · obtain ⟨a, ha, e3⟩ := List.any_eq_true.1 e
        obtain ⟨z, hz, rfl⟩ := List.mem_map.1 ha
        exact Path.within_trans e3 (byKey_within h hp hz)
      · have e4 : bl y.path = bl x.path := by simpa using e
        rw [e4]
        exact Path.within_refl _
    omega

/-- Of a right tree no more is kept than it has things, and itself. -/
theorem kept_len {L : List En} (h : treeRight L = true) (fl : Nat) : (keptL L fl []).length ≤ L.length + 1 := by
  cases fl with
  | zero => exact Nat.zero_le _
  | succ fl => exact Nat.le_trans (node_len (kept_inside h fl) h []) (Nat.add_le_add_right List.countP_le_length 1)

end Go.Proofs.YtdaogldmcbfmoaaGreatDoor

namespace Go.Proofs.YtdaogldmcbfmoaaGreatDoor
open Go.RowKit Go.Maps Go.WideMaps
set_option maxRecDepth 100000

/-- A block that no disk of the program has. -/
def Foreign (w : World) (k : Nat) : Prop := ∃ c e f, w.heap[k]? = some (.cells c e f) ∧ e ≠ 65 ∧ e ≠ 183 ∧ e ≠ 57 ∧ e ≠ 5 ∧ (e = 9 → 2 ≤ c.size)

section
variable {X : Nat → Prop} {w w' : World}

theorem Fr.atX (h : Fr X w w') (hX : ∀ k, X k → Foreign w k) {k : Nat} {c : Array Value} {e : TypeId} {f : Nat × Nat} (hk : w.heap[k]? = some (.cells c e f)) (he : e = 65 ∨ e = 183 ∨ e = 57 ∨ e = 5 ∨ (e = 9 ∧ c.size < 2)) : w'.heap[k]? = some (.cells c e f) :=
  h.at hk (fun hx => by
    obtain ⟨c', e', f', h1, h2, h3, h4, h5, h6⟩ := hX k hx
    rw [hk] at h1
    cases h1
    rcases he with he | he | he | he | ⟨he, hc⟩
    · exact h2 he
    · exact h3 he
    · exact h4 he
    · exact h5 he
    · have := h6 he; omega)

theorem Fr.dataX (h : Fr X w w') (hX : ∀ k, X k → Foreign w k) {v : Value} {b : List UInt8} (hd : Data w v b) : Data w' v b := by
  obtain ⟨h1, h2⟩ := hd
  refine ⟨h1, ?_⟩
  rcases h2 with h2 | ⟨g, cap, cur, hv, hg, hh, r⟩
  · exact Or.inl h2
  · exact Or.inr ⟨g, cap, cur, hv, hg, h.atX hX hh (by simp), r⟩

theorem Fr.namedX (h : Fr X w w') (hX : ∀ k, X k → Foreign w k) {b : Nat} {k : List UInt8} (hd : Named w b k) : Named w' b k := by
  obtain ⟨s, h1, r⟩ := hd
  exact ⟨s, h.atX hX h1 (by simp), r⟩

theorem Fr.cloX (h : Fr X w w') (hX : ∀ k, X k → Foreign w k) {f : Value} {c : Ch} (hd : Clo w f c) : Clo w' f c := by
  rcases c.three with ⟨t, rfl⟩ | ⟨a, b, rfl⟩ | ⟨k, rfl⟩
  · obtain ⟨b1, b2, e, h1, h2, h3⟩ := hd; exact ⟨b1, b2, e, h.atX hX h1 (by simp), h.namedX hX h2, h.dataX hX h3⟩
  · exact hd.elim
  · exact hd.elim

theorem Fr.closX (h : Fr X w w') (hX : ∀ k, X k → Foreign w k) : ∀ {fs : List Value} {cs : List Ch}, Clos w fs cs → Clos w' fs cs
  | [], [], _ => trivial
  | _ :: _, _ :: _, hd => ⟨h.cloX hX hd.1, Fr.closX h hX hd.2⟩
  | [], _ :: _, hd => hd.elim
  | _ :: _, [], hd => hd.elim

theorem Fr.mapX (h : Fr X w w') (hX : ∀ k, X k → Foreign w k) {b n : Nat} {D : DataW Value} (hm : w.ownsMap Tryz.prog 9 heldR b n D) : w'.ownsMap Tryz.prog 9 heldR b n D := by
  refine h.map hm (fun hb => ?_)
  obtain ⟨c, e, f, h1, _⟩ := hX b hb
  obtain ⟨es, cl, h2, _⟩ := hm
  rw [h1] at h2
  cases h2

/-- The program's disk stays while blocks turn that it has not. -/
theorem Disk.keptX {p : Nat} {M : Nat → Prop} {S : St} (hd : Disk w p M S) (h : Fr X w w') (hX : ∀ k, X k → Foreign w k) : Disk w' p M S := by
  obtain ⟨bf, bs, ca, hd, rfl⟩ := hd
  obtain ⟨fs, h1, h2⟩ := hd.changes
  refine ⟨bf, bs, ca, ⟨h.atX hX hd.own (by simp), h.mapX hX hd.files, h.mapX hX hd.synced, hd.ne, ⟨fs, ⟨h1.1, ?_⟩, h.closX hX h2⟩, fun t ht => h.dataX hX (hd.dataF t ht), fun t ht => h.dataX hX (hd.dataY t ht)⟩, rfl⟩
  rcases h1.2 with h2 | ⟨g, cap, cur, hv, hg, hh, r⟩
  · exact Or.inl h2
  · exact Or.inr ⟨g, cap, cur, hv, hg, h.atX hX hh (by simp), r⟩
end

/-- What is put to: a disk at p, found by the cell bd. -/
def AtD (p bd : Nat) (s : St × Nat) (M : Nat → Prop) (w : World) : Prop := Disk w p M s.1 ∧ Inv s.2 s.1 ∧ w.cell? ⟨bd, 0, none⟩ = some (.pointer (some ⟨p, 0, none⟩)) ∧ ¬ M bd ∧ bd < w.heap.size ∧ ∃ c e f, w.heap[bd]? = some (.cells c e f) ∧ e ≠ 9

def PutD (s : St × Nat) (b : List UInt8) (e : Int) (s' : St × Nat) : Prop := ∃ v, s' = ((s.1.put b v).2.2, s.2 + 1) ∧ e = (s.1.put b v).2.1

theorem put_name (S : St) (b : List UInt8) (v : Value) : (S.put b v).1 = if (S.put b v).2.1 = 0 then nm b else [] := by
  unfold St.put
  split
  · split
    · rfl
    · rfl
  · split
    · split
      · rfl
      · rfl
    · rfl

theorem save1_any {p bd : Nat} {s : St × Nat} {M : Nat → Prop} {w : World} (v : Value) (b : List UInt8) (hA : AtD p bd s M w) (hv : Arg w v b) (hO : Out M v) (hb : b.length ≤ 100000) (hk : s.2 < 1000) :
    Calls Tryz.prog 40 #[v, .pointer (some ⟨bd, 0, none⟩)] w fun e w' => ∃ er y s' M', e = .returned (.tuple #[.string y, .int .i64 er]) ∧ bl y = (if er = 0 then nm b else []) ∧ PutD s b er s' ∧ AtD p bd s' M' w' ∧ Fr M w w' ∧ ∀ k, M' k → M k ∨ w.heap.size ≤ k := by
  obtain ⟨hD, hI, hc, hn, hlt, hne⟩ := hA
  have cP := put_st hD (hI.fine (by omega)) v b hv hO (hD.used hI (by omega)) hb
  have HP : Hid (∀ e w', (∃ v', e = Ending.returned (.tuple #[.string ⟨(s.1.put b v').1.toArray⟩, .int .i64 (s.1.put b v').2.1]) ∧ Stepped M w p (s.1.put b v').2.2 w') → ∃ er y s' M', e = .returned (.tuple #[.string y, .int .i64 er]) ∧ bl y = (if er = 0 then nm b else []) ∧ PutD s b er s' ∧ AtD p bd s' M' w' ∧ Fr M w w' ∧ ∀ k, M' k → M k ∨ w.heap.size ≤ k) := by
    rintro e w' ⟨v', he, M', h1, h2, h3⟩
    refine ⟨_, _, ((s.1.put b v').2.2, s.2 + 1), M', he, put_name _ _ _, ⟨v', rfl, rfl⟩, ⟨h1, hI.put b v', h2.keepCell hc hn, fun e => ?_, Nat.lt_of_lt_of_le hlt h2.size, ?_⟩, h2, h3⟩
    · rcases h3 _ e with e1 | e1
      · exact hn e1
      · omega
    · obtain ⟨c, e, f, h4, h5⟩ := hne
      exact ⟨c, e, f, h2.at h4 hn, h5⟩
  obtain ⟨va, cap, rfl, _⟩ := hv.byt
  clear hD hI hn hlt hne hv hO hb hk
  go_enter Tryz.func40, Tryz.ntmps40
  go_wp2_with fail
  refine cP.mono ?_
  rintro e w' hp
  obtain ⟨er, y, s', M', he, h1⟩ := HP.out e w' hp
  have HR : Hid _ := h1
  subst he
  clear hp h1 HP cP
  go_wp2_with fail
  go_ret2
  exact ⟨er, y, s', M', rfl, HR.out⟩

theorem putD (p bd : Nat) : PutFn (AtD p bd) PutD 100000 (fun s => s.2) 1000 40 #[.pointer (some ⟨bd, 0, none⟩)] where
  step h := by obtain ⟨v, h1, _⟩ := h; rw [h1]; exact Nat.le_refl _
  enters args w := Go.MuLone.run_callFunc_enter Tryz.func40 (by kernel_rfl) rfl args w
  fresh h f := ⟨h.1.fresh f, h.2.1, f.keepCell h.2.2.1 (fun e => e), h.2.2.2.1, Nat.lt_of_lt_of_le h.2.2.2.2.1 f.size, by
    obtain ⟨c, e, f', h4, h5⟩ := h.2.2.2.2.2
    exact ⟨c, e, f', f.at h4 (fun e => e), h5⟩⟩
  kept h f hX := by
    have hx : ¬ _ := fun hx => by
      obtain ⟨c, e, f', h4, h5⟩ := h.2.2.2.2.2
      obtain ⟨_, c', h6, _⟩ := hX bd hx
      rw [h6] at h4
      cases h4
      exact h5 rfl
    refine ⟨h.1.keptX f (fun k hk => ?_), h.2.1, f.keepCell h.2.2.1 hx, h.2.2.2.1, Nat.lt_of_lt_of_le h.2.2.2.2.1 f.size, ?_⟩
    · obtain ⟨_, c, h6, h7⟩ := hX k hk
      exact ⟨c, _, _, h6, by decide, by decide, by decide, by decide, fun _ => h7⟩
    · obtain ⟨c, e, f', h4, h5⟩ := h.2.2.2.2.2
      exact ⟨c, e, f', f.at h4 hx, h5⟩
  lt h hm := h.1.lt hm
  call := fun v b hA hArg hO hb hc => save1_any v b hA hArg hO hb hc

/-- What Save hands back, and leaves. -/
def SavePost (L : List En) (N : Nat) (S : St) (k : Nat) (p : Nat) (M : Nat → Prop) (w : World) (e : Ending) (w' : World) : Prop :=
  (treeRight L = true ∧ ∃ er y S' k', e = .returned (.tuple #[.string y, .int .i64 er]) ∧ bl y = (if er = 0 then lastName (keptL L (N + 1) []) else []) ∧ Puts PutD (S, k) (keptL L (N + 1) []) er (S', k') ∧ Inv k' S' ∧ Stepped M w p S' w') ∨
  (treeRight L = false ∧ e = .returned (.tuple #[.string ⟨#[]⟩, .int .i64 1]) ∧ Disk w' p M S ∧ Fr None' w w')

set_option maxHeartbeats 1000000 in
theorem tsave_any {L : List En} {N : Nat} (hN : N < 100000000) (hsz : ∀ x ∈ L, x.path.size ≤ N ∧ x.lines.length < 900000 ∧ (leaf x).length ≤ 100000) (hsm : SmallE L) {wA w : World} {va : Option Addr} {n c : Nat} (hl : L.length = n) (hn : n ≤ 100000) (h : EntsAt wA va L) (FA : Fr None' wA w) {p : Nat} {M : Nat → Prop} {S : St} {k : Nat} (hD : Disk w p M S) (hI : Inv k S) (hM : ∀ i, M i → wA.heap.size ≤ i) (hcn : k + (keptL L (N + 1) []).length ≤ 1000) :
    Calls Tryz.prog 13 #[.pointer (some ⟨p, 0, none⟩), .slice va n c] w (SavePost L N S k p M w) := by
  obtain ⟨w1, hw1⟩ : ∃ w1, w.alloc (.cells #[.pointer (some ⟨p, 0, none⟩)] 27) = w1 := ⟨_, rfl⟩
  have F1 : Fr None' w w1 := hw1 ▸ Fr.alloc None' w _
  have hb1 : w1.heap[w.heap.size]? = some (.cells #[.pointer (some ⟨p, 0, none⟩)] 27 (0, 0)) := by rw [← hw1]; exact heap_alloc_new w _
  have hA : AtD p w.heap.size (S, k) M w1 := ⟨hD.fresh F1, hI, by simp [World.cell?, hb1], fun e => Nat.lt_irrefl _ (hD.lt e), by rw [← hw1]; simp, _, _, _, hb1, by decide⟩
  have cK := keep_any (putD p w.heap.size) (by omega) (by omega) hN hsz hsm hl hn h (FA.then7 F1) hA hM hcn (c := c)
  have HK : Hid (∀ e w', KeepPost (AtD p w.heap.size) PutD L N (S, k) M w1 e w' → SavePost L N S k p M w e w') := by
    rintro e w' (⟨hT, er, y, ⟨S', k'⟩, M', he, hy, hp, hA', hf, hm⟩ | ⟨hT, he, hA', hf⟩)
    · exact Or.inl ⟨hT, er, y, S', k', he, hy, hp, hA'.2.1, M', hA'.1, (F1.mono (fun _ e => e.elim)).trans hf (fun _ e => Or.inl e), fun i hi => (hm i hi).imp_right (fun e => Nat.le_trans F1.size e)⟩
    · exact Or.inr ⟨hT, he, hA'.1, F1.then7 hf⟩
  have HV : Hid (∀ e w', KeepPost (AtD p w.heap.size) PutD L N (S, k) M w1 e w' → ∃ y er, e = .returned (.tuple #[.string y, .int .i64 er])) := by
    rintro e w' (⟨hT, er, y, S', M', he, _⟩ | ⟨hT, he, _⟩)
    · exact ⟨_, _, he⟩
    · exact ⟨_, _, he⟩
  clear hsz hsm hl h hn hN hA hD hI hM hcn FA F1 hb1
  go_enter Tryz.func13, Tryz.ntmps13
  go_wp2_with fail
  refine cK.mono ?_
  rintro e w2 hp
  obtain ⟨y, er, he⟩ := HV.out e w2 hp
  have HQ : Hid (SavePost L N S k p M w e w2) := HK.out e w2 hp
  subst he
  clear cK hp HK HV
  go_wp2_with fail
  go_ret2
  exact HQ.out

end Go.Proofs.YtdaogldmcbfmoaaGreatDoor
