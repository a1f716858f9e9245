/- What is proved here: contracts for RecordMakes. Conditions: as named. -/
import Derived.Test.YtbnfjjjdnbcehaaGreatDoorXLayB
import Derived.Test.YtbnfjjjdnbcehaaGreatDoorX24LIter
import Derived.Test.YtbnfjjjdnbcehaaGreatDoorX7LStrs
set_option maxHeartbeats 16000000
namespace Go.Proofs.YtbnfjjjdnbcehaaGreatDoor.Lines
open Go.RowKit Go.Shelf
set_option maxRecDepth 100000
attribute [local go_sem] Oper.semAt_some
def Box (W : World) (b : Nat) (x : ByteArray) : Prop := W.heap[b]? = some (.cells #[.string x] 9 (0, 0))
theorem Box.cell {W : World} {b : Nat} {x : ByteArray} (h : Box W b x) : W.cell? ⟨b, 0, none⟩ = some (.string x) := (cell_of_box_a h).1
theorem Box.new (W : World) (x : ByteArray) : Box (W.alloc (.cells #[.string x] 9)) W.heap.size x := heap_alloc_new W _
theorem Box.fr {W W' : World} {b : Nat} {x : ByteArray} (h : Box W b x) (f : Fr None' W W') : Box W' b x := f.at h id
theorem cells_kept {base : Nat} {M : Nat → Prop} {A B : World} {k : Nat} {c : Array Value} {t : TypeId} {z : Nat × Nat} (h : A.heap[k]? = some (.cells c t z)) (f : Fr (fun k => M k ∨ (base ≤ k ∧ Za A k)) A B) (hm : ¬ M k) : B.heap[k]? = some (.cells c t z) :=
 f.at h (fun e => e.elim hm (fun e => e.2 _ _ _ h))
theorem builder_kept {base : Nat} {A B : World} {T e : TypeId} {B0 b : Nat} {l : List Value} (h : Lib.IsBuilderF T e B0 b l A) (f : Fr (fun k => None' k ∨ (base ≤ k ∧ Za A k)) A B) : Lib.IsBuilderF T e B0 b l B := by
 have one : ∀ {p : Value}, Lib.BuilderAtF T e B0 b p l A → Lib.BuilderAtF T e B0 b p l B := fun {p} h => by
  obtain ⟨h1, v, h2, h3, h4⟩ := h
  refine ⟨h1, v, cells_kept h2 f id, ⟨h3.1, ?_⟩, h4⟩
  rcases h3.2 with h | ⟨g, cap, cur, fz, hv, hb, hh, hrest⟩
  ·exact .inl h
  ·exact .inr ⟨g, cap, cur, fz, hv, hb, cells_kept hh f id, hrest⟩
 rcases h with h | h
 ·exact .inl (one h)
 ·exact .inr (one h)
theorem builder_others {A B : World} {T : TypeId} {B0 b : Nat} {p : Value} {l : List Value} (h : Lib.BuilderAtF T 5 B0 b p l A) (hs : A.heap.size ≤ B.heap.size) (k : Lib.OthersKept 5 (some b) A B) : KeepsOthers A B :=
 ⟨hs, fun i o hi ho => k i o hi (fun e => by
   obtain ⟨_, v, h2, _⟩ := h
   cases e
   rw [h2] at hi
   cases hi
   cases ho) (fun c fz e => by rw [e] at ho; cases ho)⟩
theorem builderF_others {A B : World} {T : TypeId} {B0 b : Nat} {l : List Value} (h : Lib.IsBuilderF T 5 B0 b l A) (hs : A.heap.size ≤ B.heap.size) (k : Lib.OthersKept 5 (some b) A B) : KeepsOthers A B := by
 rcases h with h | h
 ·exact builder_others h hs k
 ·exact builder_others h hs k
structure RepAt (w : World) (bf bt bb : Nat) (f u : ByteArray) (pre : List ByteArray) (W : World) : Prop where
 cf : Box W bf f
 cu : Box W bt u
 bu : Lib.IsBuilderF 199 5 bb bb (Lib.byteCells (((bs pre).map (rep f.data.toList u.data.toList)).flatten)) W
 fr : Fr None' w W
 room : bb < W.heap.size
theorem RepAt.abide (w : World) (bf bt bb : Nat) (f u : ByteArray) (base : Nat) (hb : w.heap.size ≤ base) : AbideN base None' (RepAt w bf bt bb f u) := fun pre A B h fr =>
 ⟨cells_kept h.cf fr id, cells_kept h.cu fr id, builder_kept h.bu fr, h.fr.trans (M' := fun k => None' k ∨ (base ≤ k ∧ Za A k)) fr (fun i e => e.elim (fun e => e.elim) (fun e => .inr (by omega))), Nat.lt_of_lt_of_le h.room fr.size⟩
theorem rep_bound2 (f u : Bs) : ∀ l : List Bs, ((l.map (rep f u)).flatten).length ≤ l.flatten.length + l.length * u.length
 | [] => by simp
 | p :: l => by
  have ih := rep_bound2 f u l
  have h1 : (rep f u p).length ≤ p.length + u.length := by unfold rep; split <;> omega
  rw [List.map_cons, List.flatten_cons, List.flatten_cons, List.length_append, List.length_append, List.length_cons, Nat.add_mul]
  omega
theorem pre_bound {s : ByteArray} {f u : Bs} {pre t : List Bs} (h : pre ++ t = pieces s.data.toList) : ((pre.map (rep f u)).flatten).length ≤ s.size + s.size * u.length := by
 have h1 := rep_bound2 f u pre
 have h2 := congrArg (fun l => l.flatten.length) h
 simp only [List.flatten_append, List.length_append, (pieces_all s.data.toList).2] at h2
 have h3 := congrArg List.length h
 have h4 := pieces_count_le s.data.toList
 rw [List.length_append] at h3
 rw [Z1] at h2 h4
 have h5 : pre.length * u.length ≤ s.size * u.length := Nat.mul_le_mul (by omega) (Nat.le_refl _)
 omega
theorem rep_snoc (f u : Bs) (pre : List ByteArray) (x : ByteArray) : (((bs (pre ++ [x])).map (rep f u)).flatten) = (((bs pre).map (rep f u)).flatten) ++ rep f u x.data.toList := by
 rw [bs_append, List.map_append, List.flatten_append, show bs [x] = [x.data.toList] from rfl]
 simp
theorem RepAt.after {w : World} {bf bt bb : Nat} {f u x : ByteArray} {pre : List ByteArray} {W W2 : World} {p : Value} {m : Bs} (h : RepAt w bf bt bb f u pre W) (h1 : Lib.BuilderAtF 199 5 bb bb p (Lib.byteCells m) W2)
  (hp : p = .pointer (some ⟨bb, 0, none⟩)) (b1 : Below bb W W2) (k1 : Lib.OthersKept 5 (some bb) W W2) (n1 : bf ≠ bb) (n2 : bt ≠ bb) (hw : w.heap.size ≤ bb)
  (hm : ((bs (pre ++ [x])).map (rep f.data.toList u.data.toList)).flatten = m) : RepAt w bf bt bb f u (pre ++ [x]) W2 :=
 ⟨k1 _ _ h.cf (fun e => n1 (Option.some.inj e)) (fun c fz e => by cases e), k1 _ _ h.cu (fun e => n2 (Option.some.inj e)) (fun c fz e => by cases e), by rw [hm]; subst hp; exact .inr h1, h.fr.then_below (b1.mono hw), Nat.lt_of_lt_of_le h.room b1.size⟩
theorem replace_any (s f u : ByteArray) (w : World) (hs : (s.size : Int) < 1000000000) (hf : f.size < 90000000) (hB : s.size + s.size * u.size ≤ 10000000000000) :
  Calls Tryz.prog 146 #[.string s, .string f, .string u] w fun e w' => e = .returned (.string ⟨(replace s.data.toList f.data.toList u.data.toList).toArray⟩) ∧ Fr None' w w' := by
 have HB : Hid (s.size + s.size * u.data.toList.length ≤ 10000000000000) := by rw [Z1]; exact hB
 have cT := token_any f ((w.alloc (.cells #[.string f] 9)).alloc (.cells #[.string u] 9)) hf
 clear hf hB
 unfold replace
 cases ht : tok f.data.toList
 ·rw [ht] at cT
  have hS : Hid ((⟨s.data.toList.toArray⟩ : ByteArray) = s) := (str_of rfl).symm
  simp only [Bool.false_eq_true, if_false]
  rw [hS.out]
  clear ht hs
  go_enter Tryz.func146, Tryz.ntmps146
  go_wp2_with (go_at_call 143; refine cT.mono ?_; rintro e w' ⟨rfl, f1⟩)
  go_ret
  exact ⟨rfl, ((Fr.alloc _ _ _).then (Fr.alloc _ _ _)).then f1⟩
 ·rw [ht] at cT
  simp only [if_true]
  clear ht
  refine (callsIn_wide (n := 3)).1 ?_
  refine callsIn_of_wp_marks Tryz.func146 rfl trivial ?_ rfl
  simp only [Tryz.ntmps146, List.size_toArray, List.length_cons, List.length_nil, Nat.reduceAdd, Nat.reduceSub, Array.replicate_succ, Array.replicate_zero, List.push_toArray, List.append_toArray, List.nil_append, List.cons_append]
  gi_wp2_with fail
  refine ⟨trivial, (callsIn_wide.2 cT).mono ?_⟩
  rintro e w2 ⟨rfl, f2⟩
  have b1 : Box w2 w.heap.size f := Box.fr (Fr.at (Fr.alloc None' _ _) (Box.new w f) id) f2
  have b2 : Box w2 (w.heap.size + 1) u := by
   have := Box.new (w.alloc (.cells #[.string f] 9)) u
   rw [World.size_alloc] at this
   exact this.fr f2
  have f02 : Fr None' w w2 := ((Fr.alloc _ _ _).then (Fr.alloc _ _ _)).then f2
  have hlt : w.heap.size + 2 ≤ w2.heap.size := by have := f2.size; simp at this; omega
  clear cT f2
  have cP := pieces_any s (w2.alloc (.cells #[.pointer none, .slice none 0 0] 199))
  rw [World.size_alloc] at cP
  gi_wp2_with fail
  refine ⟨trivial, (callsIn_wide.2 cP).mono ?_⟩
  rintro e w3 ⟨rfl, hw3⟩
  clear cP
  have f23 : Fr None' w2 w3 := by rw [hw3]; exact (Fr.alloc _ _ _).then (Fr.alloc _ _ _)
  have hsz : w3.heap.size = w2.heap.size + 2 := by rw [hw3]; simp
  have hbu : Lib.IsBuilderF 199 5 w2.heap.size w2.heap.size (Lib.byteCells []) w3 := by
   rw [hw3]; exact (Lib.IsBuilderF.of (Lib.fresh_isBuilder 199 5 w2)).alloc _
  have hbox : Box w3 (w2.heap.size + 1) s := by
   have := Box.new (w2.alloc (.cells #[.pointer none, .slice none 0 0] 199)) s
   rw [World.size_alloc] at this
   rw [hw3]; exact this
  clear hw3
  have hAt : RepAt w w.heap.size (w.heap.size + 1) w2.heap.size f u [] w3 := ⟨b1.fr f23, b2.fr f23, hbu, f02.then f23, by omega⟩
  clear b1 b2 hbu f02 f23
  gi_wp2_with fail
  refine range_own (α := ByteArray) rfl (by omega) (gf := 212) (lb := #[.pointer (some ⟨w2.heap.size + 1, 0, none⟩)]) rfl trivial (enters_of Tryz.func212 (by kernel_rfl) rfl) (pieces_seq s (w2.heap.size + 1) _ hs)
   (fun k hk => hk.elim) (fun W hb => (Box.fr hbox (Grew.of hb)).cell) (fun _ _ => trivial) (fun _ _ _ _ => trivial) (fun _ => rfl)
   (RepAt w w.heap.size (w.heap.size + 1) w2.heap.size f u) (fun _ _ _ => False) (RepAt.abide _ _ _ _ _ _ _ (by omega)) (fun _ _ _ _ h _ => h) hAt
   (fun x => { tmps := #[.string s, .string f, .string u, undef, .pointer (some ⟨w.heap.size, 0, none⟩), .pointer (some ⟨w.heap.size + 1, 0, none⟩), .string ⟨#[]⟩, .pointer (some ⟨w2.heap.size, 0, none⟩), .string x, .string f, .bool true, .bool false, undef, .string s, .func (.func 212) #[] #[.pointer (some ⟨w2.heap.size + 1, 0, none⟩)], .string x, undef, undef, undef, undef, undef, undef, undef], defers := [] }) ?assign ?body ?done ?stop
  case assign =>
   intro l x W K hK
   gi_wp2
   exact hK
  case body =>
   rintro l pre x W hS ⟨t, ht⟩ hl
   clear hAt hbox
   have c1 := hS.cf.cell
   have c2 := hS.cu.cell
   have hbd := pre_bound (f := f.data.toList) (u := u.data.toList) ht
   rw [rep_snoc, List.length_append] at hbd
   have hroom := hS.room
   by_cases hxf : x = f
   ·rw [hxf, rep_yes, Z1] at hbd
    have cW := Tryz.Builder_WriteString_k w2.heap.size w2.heap.size _ u W hS.bu (by rw [Lib.byteCells_length]; have := HB.out; rw [Z1] at this; omega) (by omega)
    rw [builder_cells] at cW
    subst hxf
    gi_wp2_with fail
    refine ⟨trivial, (CallsIn.inRound l (callsIn_wide.2 cW)).mono ?_⟩
    rintro e W2 ⟨rfl, h1, b1, k1⟩
    clear cW
    gi_wp2_with fail
    exact ⟨builderF_others hS.bu b1.size k1, trivial, hS.after h1 rfl b1 k1 (by omega) (by omega) (by omega) (by rw [rep_snoc, rep_yes])⟩
   ·rw [rep_no (fun e => hxf (by rw [str_of e])), Z1] at hbd
    obtain ⟨q1, q2⟩ := str_no hxf
    have cW := Tryz.Builder_WriteString_k w2.heap.size w2.heap.size _ x W hS.bu (by rw [Lib.byteCells_length]; have := HB.out; omega) (by omega)
    rw [builder_cells] at cW
    have HX : Hid (¬ x = f) := hxf
    clear hxf
    gi_wp2_with fail
    refine ⟨trivial, (CallsIn.inRound l (callsIn_wide.2 cW)).mono ?_⟩
    rintro e W2 ⟨rfl, h1, b1, k1⟩
    clear cW
    gi_wp2_with fail
    exact ⟨builderF_others hS.bu b1.size k1, trivial, hS.after h1 rfl b1 k1 (by omega) (by omega) (by omega) (by rw [rep_snoc, rep_no (fun e => HX.out (by rw [str_of e]))])⟩
  case done =>
   rintro D xs W hxs hS hK hD
   clear hAt hbox
   have HX : Hid (((bs xs).map (rep f.data.toList u.data.toList)).flatten = ((pieces s.data.toList).map (rep f.data.toList u.data.toList)).flatten) := by rw [hxs]; rfl
   have hbu := hS.bu
   rw [HX.out] at hbu
   have cS := Tryz.Builder_String_any_k w2.heap.size w2.heap.size _ W hbu (by have := hS.room; omega)
   gi_wp2_with fail
   refine ⟨trivial, (callsIn_wide.2 cS).mono ?_⟩
   rintro e W2 ⟨rfl, _, b1, k1⟩
   clear cS
   have hK' := k1 D _ hK (fun e => by cases e; omega) (fun c fz e => by cases e)
   gi_wp2_with fail
   refine ⟨by simp, .inl ⟨_, _, rfl, run_takeDeferred hK', ?_⟩⟩
   exact ⟨_, results_tmp rfl _ _ _, rfl, (hS.fr.then_below (b1.mono (by omega))).trans (Fr.putObj (M := fun k => k = D) _ rfl _) (fun i e => .inr (by omega))⟩
  case stop =>
   rintro D c pre W _ h _ _
   exact h.elim
end Go.Proofs.YtbnfjjjdnbcehaaGreatDoor.Lines
