/-
  What is proved here: the contracts that the statement stands on: RdL13, RdP13, RdQ13, RdG13, Gre13, Sam13. Conditions: as each theorem names them.
-/
import Derived.Test.YtofpkpomhdhkgaaGreatDoorM10RdN13
import Derived.Test.YtofpkpomhdhkgaaGreatDoorM8Strs9
import Derived.Test.YtofpkpomhdhkgaaGreatDoorM9Great9
import Derived.Test.YtofpkpomhdhkgaaGreatDoorM7LStrs
namespace Go.Proofs.YtofpkpomhdhkgaaGreatDoor
open Go.RowKit
set_option maxRecDepth 100000

/-- What is read already, and what is to be read still. -/
def comb {α : Type} (xs : List α) : Option (List α × B13) → Option (List α × B13)
  | none => none
  | some (ys, u) => some (xs ++ ys, u)

theorem comb_nil {α : Type} (Y : Option (List α × B13)) : comb [] Y = Y := by
  cases Y with
  | none => rfl
  | some y => rfl

theorem comb_end {α : Type} (dec : B13 → Option (α × B13)) (xs : List α) {n k : Nat} (h : n - k = 0) (t : B13) : comb xs (manyR dec (n - k) t) = some (xs, t) := by
  rw [h, manyR]
  show some (xs ++ [], t) = _
  rw [List.append_nil]

theorem comb_yes {α : Type} {dec : B13 → Option (α × B13)} {xs : List α} {n k : Nat} (h : k < n) {t r : B13} {x : α} (hd : dec t = some (x, r)) : comb xs (manyR dec (n - k) t) = comb (xs ++ [x]) (manyR dec (n - (k + 1)) r) := by
  rw [show n - k = (n - (k + 1)) + 1 by omega, manyR, hd]
  simp only
  cases manyR dec (n - (k + 1)) r with
  | none => rfl
  | some y =>
    show some (xs ++ (x :: y.1), y.2) = some ((xs ++ [x]) ++ y.1, y.2)
    rw [List.append_assoc]
    rfl

theorem comb_no {α : Type} {dec : B13 → Option (α × B13)} {xs : List α} {n k : Nat} (h : k < n) {t : B13} (hd : dec t = none) : comb xs (manyR dec (n - k) t) = none := by
  rw [show n - k = (n - (k + 1)) + 1 by omega, manyR, hd]
  rfl

/-- v is a row of texts of the call's own. -/
def OwnS13 (B : Nat) (w : World) (v : Value) (l : List ByteArray) : Prop := w.ownsRow B 9 1 v l.length (l.map Value.string)

theorem OwnS13.slice {B : Nat} {w : World} {v : Value} {l : List ByteArray} (h : OwnS13 B w v l) : ∃ va c, v = .slice va l.length c ∧ (∀ a, va = some a → B ≤ a.block) ∧ StrsAt w v l := by
  rcases h.2 with ⟨hv, h0⟩ | ⟨g, cap, cur, hv, hb, hh, hc, _, hs, ht⟩
  · have e : l = [] := List.length_eq_zero_iff.1 h0
    subst e
    exact ⟨none, 0, hv, (fun a e => by cases e), ⟨none, 0, hv, fun _ => rfl, Nat.le_refl _, Lines.Row.nil _ _⟩⟩
  · refine ⟨_, cap, hv, (fun a e => by cases e; exact hb), ⟨_, cap, hv, (fun e => by cases e), hc, fun i x hi => ⟨g, 0, rfl, ?_⟩⟩⟩
    have hlt := (List.getElem?_eq_some_iff.1 hi).1
    have hl : (l.map Value.string)[i]? = some (.string x) := by rw [List.getElem?_map, hi]; rfl
    rw [← ht, List.getElem?_take, if_pos (by omega)] at hl
    rw [World.cell?, Nat.zero_add, hh]
    simpa using hl

theorem OwnS13.nil (B : Nat) (w : World) : OwnS13 B w (.slice none 0 0) [] := World.ownsRow_nil w B 9 1

theorem OwnS13.ge {B : Nat} {w : World} {v : Value} {l : List ByteArray} (h : OwnS13 B w v l) : ∀ k, v.ownBlock = some k → B ≤ k := fun k hk => by
  rcases h.2 with ⟨hv, _⟩ | ⟨g, cap, cur, hv, hb, _⟩
  · rw [hv] at hk; cases hk
  · rw [hv] at hk; cases hk; exact hb

theorem OwnS13.frame {B : Nat} {w w' : World} {v : Value} {l : List ByteArray} (h : OwnS13 B w v l) {M : Nat → Prop} (f : Fr M w w') (hM : ∀ k, M k → k < B) : OwnS13 B w' v l := by
  refine ⟨h.1, ?_⟩
  rcases h.2 with h | ⟨g, cap, cur, hv, hb, hh, h⟩
  · exact Or.inl h
  · exact Or.inr ⟨g, cap, cur, hv, hb, f.at hh (fun e => by have := hM g e; omega), h⟩

theorem OwnS13.push {B : Nat} {w : World} {v : Value} {l : List ByteArray} (h : OwnS13 B w v l) (x : ByteArray) (hB : B ≤ w.heap.size) (hl : l.length ≤ 2000000000) :
    ∃ v' w', (Builtin.append_ #[22, 22] 22 #[v, .slice (some ⟨w.heap.size, 0, none⟩) 1 1]).run Tryz.prog (w.alloc (.cells #[.string x] 9)) = .ok v' w' ∧ OwnS13 B w' v' (l ++ [x]) ∧ Fr (fun k => v.ownBlock = some k) w w' := by
  obtain ⟨i0, hi, hz0, hz1, hz2⟩ := info_parts Lines.Tryz.infoS
  have F1 : Fr None' w (w.alloc (.cells #[.string x] 9)) := Fr.alloc None' w _
  have hown : OwnS13 B (w.alloc (.cells #[.string x] 9)) v l := h.frame F1 (fun _ e => e.elim)
  obtain ⟨v', w', hr, h5, h6, _, _⟩ := run_append_own_at (P := Tryz.prog) (w.alloc (.cells #[.string x] 9)) B 22 22 9 i0 (.string ⟨#[]⟩) 1 16 Tryz.underlying22 hi hz0 hz1 hz2 rfl (by decide) v l.length _ hown ⟨w.heap.size, 0, none⟩ 1 1 [.string x] rfl (fun j u hj => by
    match j, hj with
    | 0, hj => simp at hj; subst hj; simp [Addr.add]) (fun u hu => by simp at hu; subst hu; rfl) (by unfold maxLen; omega) (by omega) (by have := F1.size; omega)
  refine ⟨v', w', hr, ?_, (F1.mono (M' := fun k => v.ownBlock = some k) (fun _ e => e.elim)).then (Fr.grown h6 (fun k e => e))⟩
  unfold OwnS13
  rw [List.length_append, List.map_append]
  exact h5

/-- Where the reader is once x was taken off, of what X tells. -/
def Step {α : Type} (bad : Bool) (X : Option (α × B13)) (x : α) (t : B13) (b : Bool) : Prop := (b = false ∧ bad = false ∧ X = some (x, t)) ∨ (b = true ∧ (bad = true ∨ X = none))

theorem Step.pair {α β : Type} {da : B13 → Option (α × B13)} {db : B13 → Option (β × B13)} {bad b1 b2 : Bool} {l t u : B13} {x : α} {y : β} (h : Step bad (da l) x t b1) (k : Step b1 (db t) y u b2) : Step bad (pairR da db l) (x, y) u b2 := by
  unfold pairR
  rcases h with ⟨h1, h2, h3⟩ | ⟨h1, h2⟩
  · rcases k with ⟨k1, _, k3⟩ | ⟨k1, k2⟩
    · rw [h3]
      simp only [k3]
      exact .inl ⟨k1, h2, rfl⟩
    · rcases k2 with k2 | k2
      · rw [h1] at k2; cases k2
      · rw [h3]
        simp only [k2]
        exact .inr ⟨k1, .inr rfl⟩
  · rcases k with ⟨_, k2, _⟩ | ⟨k1, _⟩
    · rw [h1] at k2; cases k2
    · rcases h2 with h2 | h2
      · exact .inr ⟨k1, .inl h2⟩
      · rw [h2]
        exact .inr ⟨k1, .inr rfl⟩

theorem Step.iso {α β : Type} {dec : B13 → Option (α × B13)} {bad b : Bool} {l t : B13} {x : α} (f : α → β) (h : Step bad (dec l) x t b) : Step bad (isoR dec f l) (f x) t b := by
  unfold isoR
  rcases h with ⟨h1, h2, h3⟩ | ⟨h1, h2⟩
  · rw [h3]; exact .inl ⟨h1, h2, rfl⟩
  · rcases h2 with h2 | h2
    · exact .inr ⟨h1, .inl h2⟩
    · rw [h2]; exact .inr ⟨h1, .inr rfl⟩

theorem num_step {N r : Nat} {l : B13} {bad : Bool} {w : World} {e : Ending} {w' : World} (h : NumPost N w r l bad (numR 0 0 l) e w') :
    ∃ (n : Nat) (t : B13) (b : Bool), e = .returned (.int .i64 n) ∧ RdAt N w' r t b ∧ Step bad (numR 0 0 l) n t b ∧ Fr (fun k => k = r) w w' := by
  obtain ⟨n, t, b2, h1, _, h3, h4, h5, _⟩ := num_is h
  refine ⟨n, t, b2, h1, h3, ?_, h5⟩
  rcases h4 with ⟨g1, g2⟩ | ⟨g1, g2⟩
  · cases bad with
    | true => exact .inr ⟨g2, .inl rfl⟩
    | false => exact .inl ⟨g2, rfl, g1⟩
  · exact .inr ⟨g2, .inr g1⟩

theorem text_step {N r : Nat} {l : B13} {bad : Bool} {e : Ending} {w' : World} (h : TxtPost N r l bad e w') :
    ∃ (s t : B13) (b : Bool), e = .returned (.string (mkB s)) ∧ RdAt N w' r t b ∧ Step bad (textR l) s t b := by
  cases hd : textR l with
  | none =>
    obtain ⟨x, t, g1, g2⟩ := h.2 hd
    exact ⟨unB x, t, true, g1, g2, .inr ⟨rfl, .inr rfl⟩⟩
  | some y =>
    obtain ⟨s, t⟩ := y
    obtain ⟨g1, g2⟩ := h.1 s t hd
    refine ⟨s, t, bad, g1, g2, ?_⟩
    cases bad with
    | true => exact .inr ⟨rfl, .inl rfl⟩
    | false => exact .inl ⟨rfl, rfl, rfl⟩

/-- What a list's call hands back; R tells of the row. -/
def LsPost {α : Type} (N r : Nat) (bad : Bool) (X : Option (List α × B13)) (R : World → Value → List α → Prop) (e : Ending) (w' : World) : Prop :=
  ∃ v xs t b, e = .returned v ∧ R w' v xs ∧ RdAt N w' r t b ∧ Step bad X xs t b

def lenOf : Value → Nat
  | .slice _ n _ => n
  | _ => 0

set_option maxHeartbeats 8000000 in
theorem listS_any (N r : Nat) (l : B13) (bad : Bool) (w : World) (h : RdAt N w r l bad) (hr : r < N) (hN : N ≤ w.heap.size) :
    Calls Tryz.prog 44 #[.pointer (some ⟨r, 0, none⟩), .func (.func 43) #[.pointer (some ⟨r, 0, none⟩)] #[]] w fun e w' => LsPost N r bad (listR textR l) (fun w' v xs => OwnS13 w.heap.size w' v (xs.map mkB)) e w' ∧ Fr (fun k => k = r) w w' := by
  have hsm := h.small
  have q1 := number_any N r l bad w h
  obtain ⟨X, hX⟩ : ∃ X, listR textR l = X := ⟨_, rfl⟩
  rw [hX]
  have HX := toHid8 hX
  have HRN := toHid8 hr
  have HN := toHid8 hN
  have HSm := toHid8 hsm
  clear h hX hr hN hsm
  go_enter Tryz.func44, Tryz.ntmps44
  go_wp2_with fail
  with_reducible refine q1.mono ?_
  intro e w2 hP
  obtain ⟨n, t, b2, rfl, hn, hR, hx, hF, htl⟩ := num_is hP
  have H0 := toHid8 (show RdAt N w2 r t b2 ∧ Fr (fun k => k = r) w w2 ∧ (b2 = false → bad = false ∧ 0 ≤ n ∧ X = comb [] (manyR textR (n - 0) t) ∧ 0 + t.length ≤ 1000000000) ∧ (b2 = true → bad = true ∨ X = none) from by
    refine ⟨hR, hF, fun hb => ?_, fun hb => ?_⟩
    · rcases hx with ⟨h1, h2⟩ | ⟨_, h2⟩
      · refine ⟨by rw [← h2]; exact hb, Nat.zero_le _, ?_, by have := HSm.out; omega⟩
        rw [← HX.out, comb_nil]
        unfold listR
        rw [h1]
        rfl
      · rw [hb] at h2; cases h2
    · rcases hx with ⟨_, h2⟩ | ⟨h1, _⟩
      · exact .inl (by rw [← h2]; exact hb)
      · refine .inr ?_
        rw [← HX.out]
        unfold listR
        rw [h1])
  clear q1 hP hR hx hF htl
  go_wp2_with fail
  go_loopw [5] (fun vl wr => ∃ (xs : List B13) (t : B13) (b : Bool), Hid (OwnS13 w.heap.size wr vl (xs.map mkB)) ∧ Hid (RdAt N wr r t b ∧ Fr (fun k => k = r) w wr ∧ (b = false → bad = false ∧ xs.length ≤ n ∧ X = comb xs (manyR textR (n - xs.length) t) ∧ xs.length + t.length ≤ 1000000000) ∧ (b = true → bad = true ∨ X = none)) ∧ xs.length ≤ 1000000001) (fun vl _ => n - lenOf vl)
  case atStart => exact ⟨[], t, b2, OwnS13.nil _ _, H0.out, by show 0 ≤ _; omega⟩
  case round =>
    obtain ⟨xs, u, b, HO, HJ, hxl⟩ := hrel
    obtain ⟨va, ca, hv, hge, -⟩ := HO.out.slice
    rw [List.length_map] at hv
    obtain ⟨hRd, hFr, hf, ht⟩ := HJ.out
    have HFr := toHid8 hFr
    have HRd := toHid8 hRd
    obtain ⟨-, ad, c, hbk, -⟩ := hRd
    obtain ⟨c0, c1, z0, z1⟩ := rd_cells hbk
    obtain ⟨k, hk⟩ : ∃ k, xs.length = k := ⟨_, rfl⟩
    have HK := toHid8 hk
    rw [hk] at hv hf hxl
    subst hv
    have i1 : (k : Int) ≤ 1000000001 := by omega
    clear hFr hbk hge hk HJ
    cases b with
    | true =>
      have HT := toHid8 (ht rfl)
      clear hf ht
      by_cases hlt : k < n
      · have i2 : (k : Int) < (n : Int) := by omega
        go_wp2_with fail
        go_ret
        exact ⟨⟨_, xs, u, true, rfl, HO.out, HRd.out, .inr ⟨rfl, HT.out⟩⟩, HFr.out⟩
      · have i2 : ¬ (k : Int) < (n : Int) := by omega
        go_wp2_with fail
        go_ret
        exact ⟨⟨_, xs, u, true, rfl, HO.out, HRd.out, .inr ⟨rfl, HT.out⟩⟩, HFr.out⟩
    | false =>
      obtain ⟨hb0, hkn, hXc, hsz⟩ := hf rfl
      have HB0 := toHid8 hb0
      have HXc := toHid8 hXc
      clear hf ht hb0 hXc
      by_cases hlt : k < n
      case neg =>
        have i2 : ¬ (k : Int) < (n : Int) := by omega
        have HXe := toHid8 (show X = some (xs, u) by rw [HXc.out]; exact comb_end _ _ (by omega) _)
        go_wp2_with fail
        go_ret
        exact ⟨⟨_, xs, u, false, rfl, HO.out, HRd.out, .inl ⟨rfl, HB0.out, HXe.out⟩⟩, HFr.out⟩
      case pos =>
        have i2 : (k : Int) < (n : Int) := by omega
        have q2 := text_any N r u false wr HRd.out
        have HSz := toHid8 hsz
        have HLt := toHid8 hlt
        clear hsz hlt hkn
        go_wp2_with fail
        with_reducible refine q2.mono ?_
        rintro e w3 ⟨hT, f3⟩
        have HF3 := toHid8 f3
        have hO3 := HO.out.frame f3 (fun i e => by have := HRN.out; have := HN.out; omega)
        have hsz3 := f3.size
        have hBw : w.heap.size ≤ w3.heap.size := by have := HFr.out.size; omega
        have hP : ∃ (x : ByteArray) (t2 : B13) (b2 : Bool), e = .returned (.string x) ∧ RdAt N w3 r t2 b2 ∧ (b2 = false → X = comb (xs ++ [unB x]) (manyR textR (n - (k + 1)) t2) ∧ (k + 1) + t2.length ≤ 1000000000) ∧ (b2 = true → X = none) := by
          cases hd : textR u with
          | none =>
            obtain ⟨x, t2, g1, g2⟩ := hT.2 hd
            exact ⟨x, t2, true, g1, g2, fun e => (by cases e), fun _ => by rw [HXc.out]; exact comb_no HLt.out hd⟩
          | some y =>
            obtain ⟨s, t2⟩ := y
            obtain ⟨g1, g2⟩ := hT.1 s t2 hd
            have hl := congrArg List.length (code_text.fwd _ _ _ hd).2
            have h3 := text_len s
            rw [List.length_append] at hl
            exact ⟨mkB s, t2, false, g1, g2, fun _ => ⟨by rw [HXc.out]; exact comb_yes HLt.out hd, by have := HSz.out; omega⟩, fun e => (by cases e)⟩
        obtain ⟨x, t2, b2, rfl, hR2, hf2, ht2⟩ := hP
        obtain ⟨v', w4, hr, hO4, hF4⟩ := hO3.push x hBw (by rw [List.length_map, HK.out]; omega)
        have hR4 := hR2.frame HRN.out hF4 (fun i e => Nat.le_trans HN.out (hO3.ge i e))
        have HJ4 := toHid8 (show RdAt N w4 r t2 b2 ∧ Fr (fun k => k = r) w w4 ∧ (b2 = false → bad = false ∧ (xs ++ [unB x]).length ≤ n ∧ X = comb (xs ++ [unB x]) (manyR textR (n - (xs ++ [unB x]).length) t2) ∧ (xs ++ [unB x]).length + t2.length ≤ 1000000000) ∧ (b2 = true → bad = true ∨ X = none) from by
          have e1 : (xs ++ [unB x]).length = k + 1 := by rw [List.length_append, HK.out]; rfl
          rw [e1]
          exact ⟨hR4, (HFr.out.then HF3.out).trans hF4 (fun i e => Or.inr (hO3.ge i e)), fun hb => ⟨HB0.out, HLt.out, hf2 hb⟩, fun hb => .inr (ht2 hb)⟩)
        have HO4 := toHid8 (show OwnS13 w.heap.size w4 v' ((xs ++ [unB x]).map mkB) by rw [List.map_append]; exact hO4)
        obtain ⟨va4, ca4, hv4, -, -⟩ := HO4.out.slice
        rw [List.length_map, List.length_append, HK.out] at hv4
        subst hv4
        have HLn := toHid8 (show (xs ++ [unB x]).length ≤ 1000000001 by rw [List.length_append, HK.out]; have := HSz.out; simp; omega)
        clear q2 hT f3 hO3 hsz3 hBw hR2 hf2 ht2 hO4 hF4 hR4
        go_wp2_with (at_builtin
                     refine app_list9 rfl _ _ rfl rfl rfl hr ?_)
        exact ⟨⟨xs ++ [unB x], t2, b2, HO4.out, HJ4.out, HLn.out⟩, by simp [lenOf]; have := HLt.out; omega⟩

end Go.Proofs.YtofpkpomhdhkgaaGreatDoor

namespace Go.Proofs.YtofpkpomhdhkgaaGreatDoor
open Go.RowKit
set_option maxRecDepth 100000

/-- While a change is read: its block, the answer's block, the reader. -/
structure PSt (N r : Nat) (w w' : World) (rA rB : Nat) (l : B13) (b : Bool) (y0 y1 y2 y3 y4 y5 y6 : Value) : Prop where
  rd : RdAt N w' r l b
  bx : Box w' rB y0 y1 y2 y3 y4 y5 y6
  zA : Box w' rA (.int .i64 0) (.string ⟨#[]⟩) (.string ⟨#[]⟩) (.string ⟨#[]⟩) (.int .i64 0) (.slice none 0 0) (.slice none 0 0)
  fr : Fr (fun k => k = r) w w'
  lo : r < N ∧ N ≤ w.heap.size ∧ w.heap.size ≤ rA ∧ rA < rB

theorem PSt.call {N r : Nat} {w w1 w2 : World} {rA rB : Nat} {l l2 : B13} {b b2 : Bool} {y0 y1 y2 y3 y4 y5 y6 : Value} (h : PSt N r w w1 rA rB l b y0 y1 y2 y3 y4 y5 y6) (f : Fr (fun k => k = r) w1 w2) (hR : RdAt N w2 r l2 b2) : PSt N r w w2 rA rB l2 b2 y0 y1 y2 y3 y4 y5 y6 :=
  ⟨hR, h.bx.fr f (by have := h.lo; omega), h.zA.fr f (by have := h.lo; omega), h.fr.then f, h.lo⟩

theorem PSt.set0 {N r : Nat} {w w1 : World} {rA rB : Nat} {l : B13} {b : Bool} {y0 y1 y2 y3 y4 y5 y6 : Value} (h : PSt N r w w1 rA rB l b y0 y1 y2 y3 y4 y5 y6) (v : Value) : PSt N r w (w1.setCell ⟨rB, 0, none⟩ v) rA rB l b v y1 y2 y3 y4 y5 y6 := by
  have f : Fr (fun k => k = rB) w1 (w1.setCell ⟨rB, 0, none⟩ v) := Fr.setCell (M := fun k => k = rB) w1 (a := ⟨rB, 0, none⟩) rfl v
  have hl := h.lo
  exact ⟨h.rd.frame hl.1 f (fun k e => by subst e; omega), h.bx.set0 v, h.zA.fr f (by omega), h.fr.trans f (fun k e => Or.inr (by omega)), hl⟩

theorem PSt.set1 {N r : Nat} {w w1 : World} {rA rB : Nat} {l : B13} {b : Bool} {y0 y1 y2 y3 y4 y5 y6 : Value} (h : PSt N r w w1 rA rB l b y0 y1 y2 y3 y4 y5 y6) (v : Value) : PSt N r w (w1.setCell ⟨rB, 1, none⟩ v) rA rB l b y0 v y2 y3 y4 y5 y6 := by
  have f : Fr (fun k => k = rB) w1 (w1.setCell ⟨rB, 1, none⟩ v) := Fr.setCell (M := fun k => k = rB) w1 (a := ⟨rB, 1, none⟩) rfl v
  have hl := h.lo
  exact ⟨h.rd.frame hl.1 f (fun k e => by subst e; omega), h.bx.set1 v, h.zA.fr f (by omega), h.fr.trans f (fun k e => Or.inr (by omega)), hl⟩

theorem PSt.set2 {N r : Nat} {w w1 : World} {rA rB : Nat} {l : B13} {b : Bool} {y0 y1 y2 y3 y4 y5 y6 : Value} (h : PSt N r w w1 rA rB l b y0 y1 y2 y3 y4 y5 y6) (v : Value) : PSt N r w (w1.setCell ⟨rB, 2, none⟩ v) rA rB l b y0 y1 v y3 y4 y5 y6 := by
  have f : Fr (fun k => k = rB) w1 (w1.setCell ⟨rB, 2, none⟩ v) := Fr.setCell (M := fun k => k = rB) w1 (a := ⟨rB, 2, none⟩) rfl v
  have hl := h.lo
  exact ⟨h.rd.frame hl.1 f (fun k e => by subst e; omega), h.bx.set2 v, h.zA.fr f (by omega), h.fr.trans f (fun k e => Or.inr (by omega)), hl⟩

theorem PSt.set3 {N r : Nat} {w w1 : World} {rA rB : Nat} {l : B13} {b : Bool} {y0 y1 y2 y3 y4 y5 y6 : Value} (h : PSt N r w w1 rA rB l b y0 y1 y2 y3 y4 y5 y6) (v : Value) : PSt N r w (w1.setCell ⟨rB, 3, none⟩ v) rA rB l b y0 y1 y2 v y4 y5 y6 := by
  have f : Fr (fun k => k = rB) w1 (w1.setCell ⟨rB, 3, none⟩ v) := Fr.setCell (M := fun k => k = rB) w1 (a := ⟨rB, 3, none⟩) rfl v
  have hl := h.lo
  exact ⟨h.rd.frame hl.1 f (fun k e => by subst e; omega), h.bx.set3 v, h.zA.fr f (by omega), h.fr.trans f (fun k e => Or.inr (by omega)), hl⟩

theorem PSt.set4 {N r : Nat} {w w1 : World} {rA rB : Nat} {l : B13} {b : Bool} {y0 y1 y2 y3 y4 y5 y6 : Value} (h : PSt N r w w1 rA rB l b y0 y1 y2 y3 y4 y5 y6) (v : Value) : PSt N r w (w1.setCell ⟨rB, 4, none⟩ v) rA rB l b y0 y1 y2 y3 v y5 y6 := by
  have f : Fr (fun k => k = rB) w1 (w1.setCell ⟨rB, 4, none⟩ v) := Fr.setCell (M := fun k => k = rB) w1 (a := ⟨rB, 4, none⟩) rfl v
  have hl := h.lo
  exact ⟨h.rd.frame hl.1 f (fun k e => by subst e; omega), h.bx.set4 v, h.zA.fr f (by omega), h.fr.trans f (fun k e => Or.inr (by omega)), hl⟩

theorem PSt.set5 {N r : Nat} {w w1 : World} {rA rB : Nat} {l : B13} {b : Bool} {y0 y1 y2 y3 y4 y5 y6 : Value} (h : PSt N r w w1 rA rB l b y0 y1 y2 y3 y4 y5 y6) (v : Value) : PSt N r w (w1.setCell ⟨rB, 5, none⟩ v) rA rB l b y0 y1 y2 y3 y4 v y6 := by
  have f : Fr (fun k => k = rB) w1 (w1.setCell ⟨rB, 5, none⟩ v) := Fr.setCell (M := fun k => k = rB) w1 (a := ⟨rB, 5, none⟩) rfl v
  have hl := h.lo
  exact ⟨h.rd.frame hl.1 f (fun k e => by subst e; omega), h.bx.set5 v, h.zA.fr f (by omega), h.fr.trans f (fun k e => Or.inr (by omega)), hl⟩

theorem PSt.set6 {N r : Nat} {w w1 : World} {rA rB : Nat} {l : B13} {b : Bool} {y0 y1 y2 y3 y4 y5 y6 : Value} (h : PSt N r w w1 rA rB l b y0 y1 y2 y3 y4 y5 y6) (v : Value) : PSt N r w (w1.setCell ⟨rB, 6, none⟩ v) rA rB l b y0 y1 y2 y3 y4 y5 v := by
  have f : Fr (fun k => k = rB) w1 (w1.setCell ⟨rB, 6, none⟩ v) := Fr.setCell (M := fun k => k = rB) w1 (a := ⟨rB, 6, none⟩) rfl v
  have hl := h.lo
  exact ⟨h.rd.frame hl.1 f (fun k e => by subst e; omega), h.bx.set6 v, h.zA.fr f (by omega), h.fr.trans f (fun k e => Or.inr (by omega)), hl⟩

theorem setP_fr (w : World) (b : Nat) (y0 y1 y2 y3 y4 y5 y6 : Value) : Fr (fun k => k = b) w (setP w b y0 y1 y2 y3 y4 y5 y6) := by
  have f : ∀ (w : World) (i : Nat) (v : Value), Fr (fun k => k = b) w (w.setCell ⟨b, i, none⟩ v) := fun w i v => Fr.setCell (M := fun k => k = b) w (a := ⟨b, i, none⟩) rfl v
  exact ((((((f w 0 y0).then (f _ 1 y1)).then (f _ 2 y2)).then (f _ 3 y3)).then (f _ 4 y4)).then (f _ 5 y5)).then (f _ 6 y6)

theorem OwnS13.mono {B C : Nat} {w : World} {v : Value} {l : List ByteArray} (h : OwnS13 C w v l) (hB : B ≤ C) : OwnS13 B w v l := by
  refine ⟨h.1, ?_⟩
  rcases h.2 with h | ⟨g, cap, cur, hv, hb, h⟩
  · exact Or.inl h
  · exact Or.inr ⟨g, cap, cur, hv, Nat.le_trans hB hb, h⟩

/-- What a change's call hands back. -/
def PrPost (N r : Nat) (l : B13) (bad : Bool) (B : Nat) (e : Ending) (w' : World) : Prop :=
  ∃ x vo vn t b, e = .returned (.agg #[.int .i64 x.kind, .string x.path, .string x.dst, .string x.src, .int .i64 x.pos, vo, vn]) ∧ OwnS13 B w' vo x.old ∧ OwnS13 B w' vn x.new ∧ RdAt N w' r t b ∧ Step bad (primR l) x t b

set_option maxHeartbeats 16000000 in
theorem prim_any (N r : Nat) (l : B13) (bad : Bool) (w : World) (h : RdAt N w r l bad) (hr : r < N) (hN : N ≤ w.heap.size) :
    Calls Tryz.prog 46 #[.pointer (some ⟨r, 0, none⟩)] w fun e w' => PrPost N r l bad w.heap.size e w' ∧ Fr (fun k => k = r) w w' := by
  obtain ⟨wa, hwa⟩ : ∃ x, w.alloc (.cells #[.int .i64 0, .string ⟨#[]⟩, .string ⟨#[]⟩, .string ⟨#[]⟩, .int .i64 0, .slice none 0 0, .slice none 0 0] 41) = x := ⟨_, rfl⟩
  obtain ⟨wb, hwb⟩ : ∃ x, wa.alloc (.cells #[.int .i64 0, .string ⟨#[]⟩, .string ⟨#[]⟩, .string ⟨#[]⟩, .int .i64 0, .slice none 0 0, .slice none 0 0] 41) = x := ⟨_, rfl⟩
  have Fa : Fr None' w wa := hwa ▸ Fr.alloc None' w _
  have Fb : Fr None' wa wb := hwb ▸ Fr.alloc None' wa _
  obtain ⟨rA, hrA⟩ : ∃ x, w.heap.size = x := ⟨_, rfl⟩
  obtain ⟨rB, hrB⟩ : ∃ x, wa.heap.size = x := ⟨_, rfl⟩
  have eB : w.heap.size + 1 = wa.heap.size := by rw [← hwa]; simp
  have P0 : PSt N r w wb rA rB l bad (.int .i64 0) (.string ⟨#[]⟩) (.string ⟨#[]⟩) (.string ⟨#[]⟩) (.int .i64 0) (.slice none 0 0) (.slice none 0 0) := ⟨(h.kept Fa).kept Fb, by rw [← hrB, ← hwb]; exact Box.new wa _ _ _ _ _ _ _, by rw [← hrA]; exact Box.kept (by rw [← hwa]; exact Box.new w _ _ _ _ _ _ _) Fb, (Fa.then7 Fb).mono (fun _ e => e.elim), by omega⟩
  have S0 := toHid8 P0
  have q0 := number_any N r l bad wb P0.rd
  have HA := toHid8 hrA
  have HBe := toHid8 hrB
  have e1 : rA + 1 = rB := by omega
  have HE1 := toHid8 e1
  have HhN := toHid8 hN
  rw [hrA]
  clear h hr hN Fa Fb P0 eB e1
  go_enter Tryz.func46, Tryz.ntmps46
  go_wp2_with fail
  with_reducible refine q0.mono ?_
  intro e wc0 hP
  obtain ⟨x0, t0, b0, rfl, hR, hS, hF⟩ := num_step hP
  have G0 := toHid8 hS
  have U0 := toHid8 (S0.out.call hF hR)
  have V0 := toHid8 hF
  obtain ⟨ws0, hws0⟩ : ∃ x, wc0.setCell ⟨rB, 0, none⟩ (.int .i64 x0) = x := ⟨_, rfl⟩
  have S1 := toHid8 (show PSt N r w ws0 rA rB t0 b0 (.int .i64 x0) (.string ⟨#[]⟩) (.string ⟨#[]⟩) (.string ⟨#[]⟩) (.int .i64 0) (.slice none 0 0) (.slice none 0 0) from hws0 ▸ U0.out.set0 (.int .i64 x0))
  have W0 := toHid8 (show Fr (fun k => k = rB) wc0 ws0 from hws0 ▸ Fr.setCell (M := fun k => k = rB) wc0 (a := ⟨rB, 0, none⟩) rfl _)
  obtain ⟨a0, a1, a2, a3, a4, a5, a6⟩ := U0.out.bx.cells
  have fz := U0.out.bx.frozen
  have q1 := text_any N r t0 b0 ws0 S1.out.rd
  clear q0 hP hR hS hF
  go_wp2_with fail
  clear a0 a1 a2 a3 a4 a5 a6 fz hws0
  with_reducible refine q1.mono ?_
  rintro e wc1 ⟨hP, hF⟩
  obtain ⟨x1, t1, b1, rfl, hR, hS⟩ := text_step hP
  have G1 := toHid8 hS
  have U1 := toHid8 (S1.out.call hF hR)
  have V1 := toHid8 hF
  obtain ⟨ws1, hws1⟩ : ∃ x, wc1.setCell ⟨rB, 1, none⟩ (.string (mkB x1)) = x := ⟨_, rfl⟩
  have S2 := toHid8 (show PSt N r w ws1 rA rB t1 b1 (.int .i64 x0) (.string (mkB x1)) (.string ⟨#[]⟩) (.string ⟨#[]⟩) (.int .i64 0) (.slice none 0 0) (.slice none 0 0) from hws1 ▸ U1.out.set1 (.string (mkB x1)))
  have W1 := toHid8 (show Fr (fun k => k = rB) wc1 ws1 from hws1 ▸ Fr.setCell (M := fun k => k = rB) wc1 (a := ⟨rB, 1, none⟩) rfl _)
  obtain ⟨a0, a1, a2, a3, a4, a5, a6⟩ := U1.out.bx.cells
  have fz := U1.out.bx.frozen
  have q2 := text_any N r t1 b1 ws1 S2.out.rd
  clear q1 hP hR hS hF
  go_wp2_with fail
  clear a0 a1 a2 a3 a4 a5 a6 fz hws1
  with_reducible refine q2.mono ?_
  rintro e wc2 ⟨hP, hF⟩
  obtain ⟨x2, t2, b2, rfl, hR, hS⟩ := text_step hP
  have G2 := toHid8 hS
  have U2 := toHid8 (S2.out.call hF hR)
  have V2 := toHid8 hF
  obtain ⟨ws2, hws2⟩ : ∃ x, wc2.setCell ⟨rB, 2, none⟩ (.string (mkB x2)) = x := ⟨_, rfl⟩
  have S3 := toHid8 (show PSt N r w ws2 rA rB t2 b2 (.int .i64 x0) (.string (mkB x1)) (.string (mkB x2)) (.string ⟨#[]⟩) (.int .i64 0) (.slice none 0 0) (.slice none 0 0) from hws2 ▸ U2.out.set2 (.string (mkB x2)))
  have W2 := toHid8 (show Fr (fun k => k = rB) wc2 ws2 from hws2 ▸ Fr.setCell (M := fun k => k = rB) wc2 (a := ⟨rB, 2, none⟩) rfl _)
  obtain ⟨a0, a1, a2, a3, a4, a5, a6⟩ := U2.out.bx.cells
  have fz := U2.out.bx.frozen
  have q3 := text_any N r t2 b2 ws2 S3.out.rd
  clear q2 hP hR hS hF
  go_wp2_with fail
  clear a0 a1 a2 a3 a4 a5 a6 fz hws2
  with_reducible refine q3.mono ?_
  rintro e wc3 ⟨hP, hF⟩
  obtain ⟨x3, t3, b3, rfl, hR, hS⟩ := text_step hP
  have G3 := toHid8 hS
  have U3 := toHid8 (S3.out.call hF hR)
  have V3 := toHid8 hF
  obtain ⟨ws3, hws3⟩ : ∃ x, wc3.setCell ⟨rB, 3, none⟩ (.string (mkB x3)) = x := ⟨_, rfl⟩
  have S4 := toHid8 (show PSt N r w ws3 rA rB t3 b3 (.int .i64 x0) (.string (mkB x1)) (.string (mkB x2)) (.string (mkB x3)) (.int .i64 0) (.slice none 0 0) (.slice none 0 0) from hws3 ▸ U3.out.set3 (.string (mkB x3)))
  have W3 := toHid8 (show Fr (fun k => k = rB) wc3 ws3 from hws3 ▸ Fr.setCell (M := fun k => k = rB) wc3 (a := ⟨rB, 3, none⟩) rfl _)
  obtain ⟨a0, a1, a2, a3, a4, a5, a6⟩ := U3.out.bx.cells
  have fz := U3.out.bx.frozen
  have q4 := number_any N r t3 b3 ws3 S4.out.rd
  clear q3 hP hR hS hF
  go_wp2_with fail
  clear a0 a1 a2 a3 a4 a5 a6 fz hws3
  with_reducible refine q4.mono ?_
  intro e wc4 hP
  obtain ⟨x4, t4, b4, rfl, hR, hS, hF⟩ := num_step hP
  have G4 := toHid8 hS
  have U4 := toHid8 (S4.out.call hF hR)
  have V4 := toHid8 hF
  obtain ⟨ws4, hws4⟩ : ∃ x, wc4.setCell ⟨rB, 4, none⟩ (.int .i64 x4) = x := ⟨_, rfl⟩
  have S5 := toHid8 (show PSt N r w ws4 rA rB t4 b4 (.int .i64 x0) (.string (mkB x1)) (.string (mkB x2)) (.string (mkB x3)) (.int .i64 x4) (.slice none 0 0) (.slice none 0 0) from hws4 ▸ U4.out.set4 (.int .i64 x4))
  have W4 := toHid8 (show Fr (fun k => k = rB) wc4 ws4 from hws4 ▸ Fr.setCell (M := fun k => k = rB) wc4 (a := ⟨rB, 4, none⟩) rfl _)
  obtain ⟨a0, a1, a2, a3, a4, a5, a6⟩ := U4.out.bx.cells
  have fz := U4.out.bx.frozen
  have q5 := listS_any N r t4 b4 ws4 S5.out.rd S5.out.lo.1 (Nat.le_trans S5.out.lo.2.1 S5.out.fr.size)
  clear q4 hP hR hS hF
  go_wp2_with fail
  clear a0 a1 a2 a3 a4 a5 a6 fz hws4
  with_reducible refine q5.mono ?_
  rintro e wc5 ⟨hP, hF⟩
  obtain ⟨v5, x5, t5, b5, rfl, hO, hR, hS⟩ := hP
  obtain ⟨p5, n5, hv, -, -⟩ := hO.slice
  rw [List.length_map] at hv
  obtain ⟨m5, hm5⟩ : ∃ m, x5.length = m := ⟨_, rfl⟩
  rw [hm5] at hv
  subst hv
  have O5 := toHid8 hO
  have G5 := toHid8 hS
  have U5 := toHid8 (S5.out.call hF hR)
  have V5 := toHid8 hF
  obtain ⟨ws5, hws5⟩ : ∃ x, wc5.setCell ⟨rB, 5, none⟩ (.slice p5 m5 n5) = x := ⟨_, rfl⟩
  have S6 := toHid8 (show PSt N r w ws5 rA rB t5 b5 (.int .i64 x0) (.string (mkB x1)) (.string (mkB x2)) (.string (mkB x3)) (.int .i64 x4) (.slice p5 m5 n5) (.slice none 0 0) from hws5 ▸ U5.out.set5 (.slice p5 m5 n5))
  have W5 := toHid8 (show Fr (fun k => k = rB) wc5 ws5 from hws5 ▸ Fr.setCell (M := fun k => k = rB) wc5 (a := ⟨rB, 5, none⟩) rfl _)
  obtain ⟨a0, a1, a2, a3, a4, a5, a6⟩ := U5.out.bx.cells
  have fz := U5.out.bx.frozen
  have q6 := listS_any N r t5 b5 ws5 S6.out.rd S6.out.lo.1 (Nat.le_trans S6.out.lo.2.1 S6.out.fr.size)
  clear q5 hO hR hS hF
  go_wp2_with fail
  clear a0 a1 a2 a3 a4 a5 a6 fz hws5
  with_reducible refine q6.mono ?_
  rintro e wc6 ⟨hP, hF⟩
  obtain ⟨v6, x6, t6, b6, rfl, hO, hR, hS⟩ := hP
  obtain ⟨p6, n6, hv, -, -⟩ := hO.slice
  rw [List.length_map] at hv
  obtain ⟨m6, hm6⟩ : ∃ m, x6.length = m := ⟨_, rfl⟩
  rw [hm6] at hv
  subst hv
  have O6 := toHid8 hO
  have G6 := toHid8 hS
  have U6 := toHid8 (S6.out.call hF hR)
  have V6 := toHid8 hF
  obtain ⟨ws6, hws6⟩ : ∃ x, wc6.setCell ⟨rB, 6, none⟩ (.slice p6 m6 n6) = x := ⟨_, rfl⟩
  have S7 := toHid8 (show PSt N r w ws6 rA rB t6 b6 (.int .i64 x0) (.string (mkB x1)) (.string (mkB x2)) (.string (mkB x3)) (.int .i64 x4) (.slice p5 m5 n5) (.slice p6 m6 n6) from hws6 ▸ U6.out.set6 (.slice p6 m6 n6))
  have W6 := toHid8 (show Fr (fun k => k = rB) wc6 ws6 from hws6 ▸ Fr.setCell (M := fun k => k = rB) wc6 (a := ⟨rB, 6, none⟩) rfl _)
  obtain ⟨a0, a1, a2, a3, a4, a5, a6⟩ := U6.out.bx.cells
  have fz := U6.out.bx.frozen
  clear q6 hR hS hF hO
  obtain ⟨d0, d1, d2, d3, d4, d5, d6⟩ := S7.out.bx.cells
  obtain ⟨b0', b1', b2', b3', b4', b5', b6'⟩ := S7.out.zA.cells
  have fzA := S7.out.zA.frozen
  go_wp2_with fail
  have ff := setP_fr ws6 rA (.int .i64 x0) (.string (mkB x1)) (.string (mkB x2)) (.string (mkB x3)) (.int .i64 x4) (.slice p5 m5 n5) (.slice p6 m6 n6)
  have hlo := S7.out.lo
  have hb5 : rB < ws4.heap.size := S5.out.bx.lt
  have hb6 : rB < ws5.heap.size := S6.out.bx.lt
  have hsz := S5.out.fr.size
  have hsz6 := S6.out.fr.size
  refine ret_box rfl rfl rfl (S7.out.zA.all _ _ _ _ _ _ _) ⟨⟨mkP (x0, x1, x2, x3, x4, x5, x6), .slice p5 m5 n5, .slice p6 m6 n6, t6, b6, rfl, ?_, ?_, S7.out.rd.frame hlo.1 ff (fun k e => by subst e; omega), ?_⟩, S7.out.fr.trans ff (fun k e => Or.inr (by omega))⟩
  · exact ((((O5.out.frame W5.out (fun k e => by omega)).frame V6.out (fun k e => by omega)).frame W6.out (fun k e => by omega)).frame ff (fun k e => by omega)).mono (by omega)
  · exact ((O6.out.frame W6.out (fun k e => by omega)).frame ff (fun k e => by omega)).mono (by omega)
  · exact (G0.out.pair (G1.out.pair (G2.out.pair (G3.out.pair (G4.out.pair (G5.out.pair G6.out)))))).iso mkP

end Go.Proofs.YtofpkpomhdhkgaaGreatDoor

namespace Go.Proofs.YtofpkpomhdhkgaaGreatDoor
open Go.RowKit
set_option maxRecDepth 100000

/-- The rows of a row of changes were made since B. -/
def VGe (B : Nat) (V : List (Value × Value)) : Prop := ∀ u ∈ V, ∀ k, (u.1.ownBlock = some k ∨ u.2.ownBlock = some k) → B ≤ k

set_option maxHeartbeats 8000000 in
theorem listP_any (N r : Nat) (l : B13) (bad : Bool) (w : World) (h : RdAt N w r l bad) (hr : r < N) (hN : N ≤ w.heap.size) :
    Calls Tryz.prog 45 #[.pointer (some ⟨r, 0, none⟩), .func (.func 46) #[.pointer (some ⟨r, 0, none⟩)] #[]] w fun e w' => LsPost N r bad (listR primR l) (fun w' v xs => ∃ V, OwnP w.heap.size w' v xs V ∧ VGe w.heap.size V) e w' ∧ Fr (fun k => k = r) w w' := by
  have hsm := h.small
  have q1 := number_any N r l bad w h
  obtain ⟨X, hX⟩ : ∃ X, listR primR l = X := ⟨_, rfl⟩
  rw [hX]
  have HX := toHid8 hX
  have HRN := toHid8 hr
  have HN := toHid8 hN
  have HSm := toHid8 hsm
  clear h hX hr hN hsm
  go_enter Tryz.func45, Tryz.ntmps45
  go_wp2_with fail
  with_reducible refine q1.mono ?_
  intro e w2 hP
  obtain ⟨n, t, b2, rfl, hn, hR, hx, hF, htl⟩ := num_is hP
  have H0 := toHid8 (show RdAt N w2 r t b2 ∧ Fr (fun k => k = r) w w2 ∧ (b2 = false → bad = false ∧ 0 ≤ n ∧ X = comb [] (manyR primR (n - 0) t) ∧ 0 + t.length ≤ 80000000) ∧ (b2 = true → bad = true ∨ X = none) from by
    refine ⟨hR, hF, fun hb => ?_, fun hb => ?_⟩
    · rcases hx with ⟨h1, h2⟩ | ⟨_, h2⟩
      · refine ⟨by rw [← h2]; exact hb, Nat.zero_le _, ?_, by have := HSm.out; omega⟩
        rw [← HX.out, comb_nil]
        unfold listR
        rw [h1]
        rfl
      · rw [hb] at h2; cases h2
    · rcases hx with ⟨_, h2⟩ | ⟨h1, _⟩
      · exact .inl (by rw [← h2]; exact hb)
      · refine .inr ?_
        rw [← HX.out]
        unfold listR
        rw [h1])
  clear q1 hP hR hx hF htl
  go_wp2_with fail
  go_loopw [5] (fun vl wr => ∃ (xs : List Pr) (V : List (Value × Value)) (t : B13) (b : Bool), Hid (OwnP w.heap.size wr vl xs V ∧ VGe w.heap.size V) ∧ Hid (RdAt N wr r t b ∧ Fr (fun k => k = r) w wr ∧ (b = false → bad = false ∧ xs.length ≤ n ∧ X = comb xs (manyR primR (n - xs.length) t) ∧ xs.length + t.length ≤ 80000000) ∧ (b = true → bad = true ∨ X = none)) ∧ xs.length ≤ 90000000) (fun vl _ => n - lenOf vl)
  case atStart => exact ⟨[], [], t, b2, ⟨OwnP.nil _ _, fun u hu => (by cases hu)⟩, H0.out, by show 0 ≤ _; omega⟩
  case round =>
    obtain ⟨xs, V, u, b, HO, HJ, hxl⟩ := hrel
    obtain ⟨va, ca, hv, -, -, -⟩ := HO.out.1.slice
    obtain ⟨hRd, hFr, hf, ht⟩ := HJ.out
    have HFr := toHid8 hFr
    have HRd := toHid8 hRd
    obtain ⟨-, ad, c, hbk, -⟩ := hRd
    obtain ⟨c0, c1, z0, z1⟩ := rd_cells hbk
    obtain ⟨k, hk⟩ : ∃ k, xs.length = k := ⟨_, rfl⟩
    have HK := toHid8 hk
    rw [hk] at hv hf hxl
    subst hv
    have i1 : (k : Int) ≤ 90000000 := by omega
    clear hFr hbk hk HJ
    cases b with
    | true =>
      have HT := toHid8 (ht rfl)
      clear hf ht
      by_cases hlt : k < n
      · have i2 : (k : Int) < (n : Int) := by omega
        go_wp2_with fail
        go_ret
        exact ⟨⟨_, xs, u, true, rfl, ⟨V, HO.out⟩, HRd.out, .inr ⟨rfl, HT.out⟩⟩, HFr.out⟩
      · have i2 : ¬ (k : Int) < (n : Int) := by omega
        go_wp2_with fail
        go_ret
        exact ⟨⟨_, xs, u, true, rfl, ⟨V, HO.out⟩, HRd.out, .inr ⟨rfl, HT.out⟩⟩, HFr.out⟩
    | false =>
      obtain ⟨hb0, hkn, hXc, hsz⟩ := hf rfl
      have HB0 := toHid8 hb0
      have HXc := toHid8 hXc
      clear hf ht hb0 hXc
      by_cases hlt : k < n
      case neg =>
        have i2 : ¬ (k : Int) < (n : Int) := by omega
        have HXe := toHid8 (show X = some (xs, u) by rw [HXc.out]; exact comb_end _ _ (by omega) _)
        go_wp2_with fail
        go_ret
        exact ⟨⟨_, xs, u, false, rfl, ⟨V, HO.out⟩, HRd.out, .inl ⟨rfl, HB0.out, HXe.out⟩⟩, HFr.out⟩
      case pos =>
        have i2 : (k : Int) < (n : Int) := by omega
        have q2 := prim_any N r u false wr HRd.out HRN.out (Nat.le_trans HN.out HFr.out.size)
        have HSz := toHid8 hsz
        have HLt := toHid8 hlt
        clear hsz hlt hkn
        go_wp2_with fail
        with_reducible refine q2.mono ?_
        rintro e w3 ⟨⟨x, vo, vn, t2, b2, rfl, oo, on, hR2, hS⟩, f3⟩
        have HF3 := toHid8 f3
        have hsw := HFr.out.size
        have hge : ∀ k, (Value.slice va k ca).ownBlock = some k → True := fun _ _ => trivial
        have hO3 := HO.out.1.fr f3 (fun i e => by have := (HO.out.1.ge e).1; have := HRN.out; have := HN.out; omega) (fun y hy i e _ => by have := HO.out.2 y hy i e; have := HRN.out; have := HN.out; omega)
        have hsz3 := f3.size
        have hBw : w.heap.size ≤ w3.heap.size := by omega
        obtain ⟨po, co, e1, -, so⟩ := oo.slice
        obtain ⟨pn, cn, e2, -, sn⟩ := on.slice
        have fo : Far (.slice va k ca) vo x.old := fun _ i e e' => by
          have h1 := oo.ge i e
          have h2 := (HO.out.1.ge e').2
          omega
        have fn : Far (.slice va k ca) vn x.new := fun _ i e e' => by
          have h1 := on.ge i e
          have h2 := (HO.out.1.ge e').2
          omega
        obtain ⟨w4, hw4⟩ : ∃ w4, w3.alloc (.cells #[.int .i64 x.kind, .string x.path, .string x.dst, .string x.src, .int .i64 x.pos, vo, vn] 41) = w4 := ⟨_, rfl⟩
        have F4 : Fr None' w3 w4 := hw4 ▸ Fr.alloc None' w3 _
        have B4 : Box w4 w3.heap.size (.int .i64 x.kind) (.string x.path) (.string x.dst) (.string x.src) (.int .i64 x.pos) vo vn := hw4 ▸ Box.new w3 _ _ _ _ _ _ _
        obtain ⟨v', w5, hr, hO5, hF5, -⟩ := (hO3.kept F4).push B4 (so.kept F4) (sn.kept F4) fo fn (by rw [HK.out]; omega) (by have := F4.size; omega)
        have hR4 := hR2.frame HRN.out F4 (fun i e => e.elim)
        have hR5 := hR4.frame HRN.out hF5 (fun i e => Nat.le_trans HN.out (HO.out.1.ge e).1)
        have hP : (b2 = false → X = comb (xs ++ [x]) (manyR primR (n - (k + 1)) t2) ∧ (k + 1) + t2.length ≤ 80000000) ∧ (b2 = true → X = none) := by
          rcases hS with ⟨g1, _, g3⟩ | ⟨g1, g2⟩
          · refine ⟨fun _ => ⟨by rw [HXc.out]; exact comb_yes HLt.out g3, ?_⟩, fun e => (by rw [g1] at e; cases e)⟩
            have hl := congrArg List.length (code_prim.fwd _ _ _ g3).2
            have h3 := prim_pos x
            rw [List.length_append] at hl
            have := HSz.out
            omega
          · refine ⟨fun e => (by rw [g1] at e; cases e), fun _ => ?_⟩
            rcases g2 with g2 | g2
            · cases g2
            · rw [HXc.out]; exact comb_no HLt.out g2
        have HJ4 := toHid8 (show RdAt N w5 r t2 b2 ∧ Fr (fun k => k = r) w w5 ∧ (b2 = false → bad = false ∧ (xs ++ [x]).length ≤ n ∧ X = comb (xs ++ [x]) (manyR primR (n - (xs ++ [x]).length) t2) ∧ (xs ++ [x]).length + t2.length ≤ 80000000) ∧ (b2 = true → bad = true ∨ X = none) from by
          have e1 : (xs ++ [x]).length = k + 1 := by rw [List.length_append, HK.out]; rfl
          rw [e1]
          exact ⟨hR5, ((HFr.out.then HF3.out).trans F4 (fun i e => e.elim)).trans hF5 (fun i e => Or.inr (HO.out.1.ge e).1), fun hb => ⟨HB0.out, HLt.out, hP.1 hb⟩, fun hb => .inr (hP.2 hb)⟩)
        have HO4 := toHid8 (show OwnP w.heap.size w5 v' (xs ++ [x]) (V ++ [(vo, vn)]) ∧ VGe w.heap.size (V ++ [(vo, vn)]) from ⟨hO5, fun y hy i e => by
          rcases List.mem_append.1 hy with hy | hy
          · exact HO.out.2 y hy i e
          · rw [List.mem_singleton.1 hy] at e
            rcases e with e | e
            · have := oo.ge i e; omega
            · have := on.ge i e; omega⟩)
        obtain ⟨va4, ca4, hv4, -, -, -⟩ := HO4.out.1.slice
        rw [List.length_append, HK.out] at hv4
        have HLn := toHid8 (show (xs ++ [x]).length ≤ 90000000 by rw [List.length_append, HK.out]; have := HSz.out; simp; omega)
        subst hv4 e1 e2
        obtain ⟨XK, XP, XT, XF, XA, XO, XN⟩ := x
        simp only at hw4
        generalize XO.length = xo at hw4
        generalize XN.length = xn at hw4
        clear q2 f3 hO3 hsz3 hBw hR2 hS hP hO5 hF5 hR5 hR4 F4 B4 oo on so sn fo fn hsw hge
        go_wp2_with (at_builtin
                     refine app_list9 rfl _ _ rfl rfl rfl hr ?_)
        exact ⟨⟨_, _, t2, b2, HO4.out, HJ4.out, HLn.out⟩, by simp [lenOf]; have := HLt.out; omega⟩

end Go.Proofs.YtofpkpomhdhkgaaGreatDoor

namespace Go.Proofs.YtofpkpomhdhkgaaGreatDoor
open Go.RowKit
set_option maxRecDepth 100000

@[reducible] def setP3 (w : World) (b : Nat) (y0 y1 y2 : Value) : World := ((w.setCell ⟨b, 0, none⟩ y0).setCell ⟨b, 1, none⟩ y1).setCell ⟨b, 2, none⟩ y2

theorem Box3.all {w : World} {b : Nat} {x0 x1 x2 : Value} (h : Box3 w b x0 x1 x2) (y0 y1 y2 : Value) : Box3 (setP3 w b y0 y1 y2) b y0 y1 y2 := ((h.set0 y0).set1 y1).set2 y2

theorem setP3_fr (w : World) (b : Nat) (y0 y1 y2 : Value) : Fr (fun k => k = b) w (setP3 w b y0 y1 y2) := by
  have f : ∀ (w : World) (i : Nat) (v : Value), Fr (fun k => k = b) w (w.setCell ⟨b, i, none⟩ v) := fun w i v => Fr.setCell (M := fun k => k = b) w (a := ⟨b, i, none⟩) rfl v
  exact ((f w 0 y0).then (f _ 1 y1)).then (f _ 2 y2)

theorem ret_box3 {fn : Func} {p : Tmp} (hres : fn.results = #[.cell p 25]) {Q : Ending → World → Prop} {a : Act} {w : World} {b : Nat} {y0 y1 y2 : Value} (hd : a.defers = []) (hp : a.tmps.getD p undef = .pointer (some ⟨b, 0, none⟩)) (h : Box3 w b y0 y1 y2) (hq : Q (.returned (.agg #[y0, y1, y2])) w) : bodyPost Tryz.prog fn Q .ret a w :=
  bodyPost_ret (results_cell_row hres _ _ b 25 _ (0, 0) _ hp h Tryz.underlying25 rfl (by kernel_rfl)) hd hq

/-- While a patch is read: its block, the answer's block, the reader. -/
structure QSt (N r : Nat) (w w' : World) (rA rB : Nat) (l : B13) (b : Bool) (y0 y1 y2 : Value) : Prop where
  rd : RdAt N w' r l b
  bx : Box3 w' rB y0 y1 y2
  zA : Box3 w' rA (.string ⟨#[]⟩) (.slice none 0 0) (.slice none 0 0)
  fr : Fr (fun k => k = r) w w'
  lo : r < N ∧ N ≤ w.heap.size ∧ w.heap.size ≤ rA ∧ rA < rB

theorem QSt.call {N r : Nat} {w w1 w2 : World} {rA rB : Nat} {l l2 : B13} {b b2 : Bool} {y0 y1 y2 : Value} (h : QSt N r w w1 rA rB l b y0 y1 y2) (f : Fr (fun k => k = r) w1 w2) (hR : RdAt N w2 r l2 b2) : QSt N r w w2 rA rB l2 b2 y0 y1 y2 :=
  ⟨hR, h.bx.fr f (by have := h.lo; omega), h.zA.fr f (by have := h.lo; omega), h.fr.then f, h.lo⟩

theorem QSt.set0 {N r : Nat} {w w1 : World} {rA rB : Nat} {l : B13} {b : Bool} {y0 y1 y2 : Value} (h : QSt N r w w1 rA rB l b y0 y1 y2) (v : Value) : QSt N r w (w1.setCell ⟨rB, 0, none⟩ v) rA rB l b v y1 y2 := by
  have f : Fr (fun k => k = rB) w1 (w1.setCell ⟨rB, 0, none⟩ v) := Fr.setCell (M := fun k => k = rB) w1 (a := ⟨rB, 0, none⟩) rfl v
  have hl := h.lo
  exact ⟨h.rd.frame hl.1 f (fun k e => by subst e; omega), h.bx.set0 v, h.zA.fr f (by omega), h.fr.trans f (fun k e => Or.inr (by omega)), hl⟩

theorem QSt.set1 {N r : Nat} {w w1 : World} {rA rB : Nat} {l : B13} {b : Bool} {y0 y1 y2 : Value} (h : QSt N r w w1 rA rB l b y0 y1 y2) (v : Value) : QSt N r w (w1.setCell ⟨rB, 1, none⟩ v) rA rB l b y0 v y2 := by
  have f : Fr (fun k => k = rB) w1 (w1.setCell ⟨rB, 1, none⟩ v) := Fr.setCell (M := fun k => k = rB) w1 (a := ⟨rB, 1, none⟩) rfl v
  have hl := h.lo
  exact ⟨h.rd.frame hl.1 f (fun k e => by subst e; omega), h.bx.set1 v, h.zA.fr f (by omega), h.fr.trans f (fun k e => Or.inr (by omega)), hl⟩

theorem QSt.set2 {N r : Nat} {w w1 : World} {rA rB : Nat} {l : B13} {b : Bool} {y0 y1 y2 : Value} (h : QSt N r w w1 rA rB l b y0 y1 y2) (v : Value) : QSt N r w (w1.setCell ⟨rB, 2, none⟩ v) rA rB l b y0 y1 v := by
  have f : Fr (fun k => k = rB) w1 (w1.setCell ⟨rB, 2, none⟩ v) := Fr.setCell (M := fun k => k = rB) w1 (a := ⟨rB, 2, none⟩) rfl v
  have hl := h.lo
  exact ⟨h.rd.frame hl.1 f (fun k e => by subst e; omega), h.bx.set2 v, h.zA.fr f (by omega), h.fr.trans f (fun k e => Or.inr (by omega)), hl⟩

theorem OwnP.mono {B C : Nat} {w : World} {v : Value} {L : List Pr} {V : List (Value × Value)} (h : OwnP C w v L V) (hB : B ≤ C) : OwnP B w v L V := by
  refine ⟨h.len, ⟨h.row.1, ?_⟩, h.str⟩
  rcases h.row.2 with h | ⟨g, cap, cur, hv, hb, h⟩
  · exact Or.inl h
  · exact Or.inr ⟨g, cap, cur, hv, Nat.le_trans hB hb, h⟩

/-- What a patch's call hands back. -/
def PaPost (N r : Nat) (l : B13) (bad : Bool) (B : Nat) (e : Ending) (w' : World) : Prop :=
  ∃ p vd pb cb t b, e = .returned (.agg #[.string p.name, vd, .slice pb p.body.length cb]) ∧ OwnS13 B w' vd p.deps ∧ (∃ V, OwnP B w' (.slice pb p.body.length cb) p.body V ∧ VGe B V) ∧ RdAt N w' r t b ∧ Step bad (patchR l) p t b

set_option maxHeartbeats 16000000 in
theorem rpatch_any (N r : Nat) (l : B13) (bad : Bool) (w : World) (h : RdAt N w r l bad) (hr : r < N) (hN : N ≤ w.heap.size) :
    Calls Tryz.prog 27 #[.pointer (some ⟨r, 0, none⟩)] w fun e w' => PaPost N r l bad w.heap.size e w' ∧ Fr (fun k => k = r) w w' := by
  obtain ⟨wa, hwa⟩ : ∃ x, w.alloc (.cells #[.string ⟨#[]⟩, .slice none 0 0, .slice none 0 0] 25) = x := ⟨_, rfl⟩
  obtain ⟨wb, hwb⟩ : ∃ x, wa.alloc (.cells #[.string ⟨#[]⟩, .slice none 0 0, .slice none 0 0] 25) = x := ⟨_, rfl⟩
  have Fa : Fr None' w wa := hwa ▸ Fr.alloc None' w _
  have Fb : Fr None' wa wb := hwb ▸ Fr.alloc None' wa _
  obtain ⟨rA, hrA⟩ : ∃ x, w.heap.size = x := ⟨_, rfl⟩
  obtain ⟨rB, hrB⟩ : ∃ x, wa.heap.size = x := ⟨_, rfl⟩
  have eB : w.heap.size + 1 = wa.heap.size := by rw [← hwa]; simp
  have P0 : QSt N r w wb rA rB l bad (.string ⟨#[]⟩) (.slice none 0 0) (.slice none 0 0) := ⟨(h.kept Fa).kept Fb, by rw [← hrB, ← hwb]; exact Box3.new wa _ _ _, by rw [← hrA]; exact Box3.kept (by rw [← hwa]; exact Box3.new w _ _ _) Fb, (Fa.then7 Fb).mono (fun _ e => e.elim), by omega⟩
  have S0 := toHid8 P0
  have q0 := text_any N r l bad wb P0.rd
  have e1 : rA + 1 = rB := by omega
  have HE1 := toHid8 e1
  have HhN := toHid8 hN
  have HA := toHid8 hrA
  clear h hr hN Fa Fb P0 eB e1
  go_enter Tryz.func27, Tryz.ntmps27
  go_wp2_with fail
  with_reducible refine q0.mono ?_
  rintro e wc0 ⟨hP, hF⟩
  obtain ⟨x0, t0, b0, rfl, hR, hS⟩ := text_step hP
  have G0 := toHid8 hS
  have U0 := toHid8 (S0.out.call hF hR)
  have V0 := toHid8 hF
  obtain ⟨ws0, hws0⟩ : ∃ x, wc0.setCell ⟨rB, 0, none⟩ (.string (mkB x0)) = x := ⟨_, rfl⟩
  have S1 := toHid8 (show QSt N r w ws0 rA rB t0 b0 (.string (mkB x0)) (.slice none 0 0) (.slice none 0 0) from hws0 ▸ U0.out.set0 (.string (mkB x0)))
  have W0 := toHid8 (show Fr (fun k => k = rB) wc0 ws0 from hws0 ▸ Fr.setCell (M := fun k => k = rB) wc0 (a := ⟨rB, 0, none⟩) rfl _)
  obtain ⟨a0, a1, a2⟩ := U0.out.bx.cells
  have fz := U0.out.bx.frozen
  have q1 := listS_any N r t0 b0 ws0 S1.out.rd S1.out.lo.1 (Nat.le_trans S1.out.lo.2.1 S1.out.fr.size)
  clear q0 hP hR hS hF
  go_wp2_with fail
  clear a0 a1 a2 fz hws0
  with_reducible refine q1.mono ?_
  rintro e wc1 ⟨hP, hF⟩
  obtain ⟨v1, x1, t1, b1, rfl, hO, hR, hS⟩ := hP
  obtain ⟨p1, n1, hv, -, -⟩ := hO.slice
  rw [List.length_map] at hv
  obtain ⟨m1, hm1⟩ : ∃ m, x1.length = m := ⟨_, rfl⟩
  rw [hm1] at hv
  subst hv
  have O1 := toHid8 hO
  have G1 := toHid8 hS
  have U1 := toHid8 (S1.out.call hF hR)
  have V1 := toHid8 hF
  obtain ⟨ws1, hws1⟩ : ∃ x, wc1.setCell ⟨rB, 1, none⟩ (.slice p1 m1 n1) = x := ⟨_, rfl⟩
  have S2 := toHid8 (show QSt N r w ws1 rA rB t1 b1 (.string (mkB x0)) (.slice p1 m1 n1) (.slice none 0 0) from hws1 ▸ U1.out.set1 (.slice p1 m1 n1))
  have W1 := toHid8 (show Fr (fun k => k = rB) wc1 ws1 from hws1 ▸ Fr.setCell (M := fun k => k = rB) wc1 (a := ⟨rB, 1, none⟩) rfl _)
  obtain ⟨a0, a1, a2⟩ := U1.out.bx.cells
  have fz := U1.out.bx.frozen
  have q2 : Calls Tryz.prog 45 #[.pointer (some ⟨r, 0, none⟩), .func (.func 46) #[.pointer (some ⟨r, 0, none⟩)] #[]] ws1 fun e w' => LsPost N r b1 (listR primR t1) (fun w' v xs => ∃ V, OwnP ws1.heap.size w' v xs V ∧ VGe ws1.heap.size V) e w' ∧ Fr (fun k => k = r) ws1 w' := listP_any N r t1 b1 ws1 S2.out.rd S2.out.lo.1 (Nat.le_trans S2.out.lo.2.1 S2.out.fr.size)
  clear q1 hO hR hS hF
  go_wp2_with fail
  clear a0 a1 a2 fz hws1
  with_reducible refine q2.mono ?_
  rintro e wc2 ⟨hP, hF⟩
  obtain ⟨v2, x2, t2, b2, rfl, ⟨V, hO, hV⟩, hR, hS⟩ := hP
  obtain ⟨p2, n2, hv, -, -, -⟩ := hO.slice
  obtain ⟨m2, hm2⟩ : ∃ m, x2.length = m := ⟨_, rfl⟩
  have hvv := hv
  rw [hm2] at hv
  subst hv
  have O2 := toHid8 (show OwnP ws1.heap.size wc2 (.slice p2 m2 n2) x2 V ∧ VGe ws1.heap.size V from ⟨hO, hV⟩)
  have HM2 := toHid8 hm2
  clear hm2 hvv hV
  have G2 := toHid8 hS
  have U2 := toHid8 (S2.out.call hF hR)
  have V2 := toHid8 hF
  obtain ⟨ws2, hws2⟩ : ∃ x, wc2.setCell ⟨rB, 2, none⟩ (.slice p2 m2 n2) = x := ⟨_, rfl⟩
  have S3 := toHid8 (show QSt N r w ws2 rA rB t2 b2 (.string (mkB x0)) (.slice p1 m1 n1) (.slice p2 m2 n2) from hws2 ▸ U2.out.set2 (.slice p2 m2 n2))
  have W2 := toHid8 (show Fr (fun k => k = rB) wc2 ws2 from hws2 ▸ Fr.setCell (M := fun k => k = rB) wc2 (a := ⟨rB, 2, none⟩) rfl _)
  obtain ⟨a0, a1, a2⟩ := U2.out.bx.cells
  have fz := U2.out.bx.frozen
  clear q2 hR hS hF hO
  obtain ⟨d0, d1, d2⟩ := S3.out.bx.cells
  obtain ⟨b0', b1', b2'⟩ := S3.out.zA.cells
  have fzA := S3.out.zA.frozen
  go_wp2_with fail
  have ff := setP3_fr ws2 rA (.string (mkB x0)) (.slice p1 m1 n1) (.slice p2 m2 n2)
  have hlo := S3.out.lo
  have hb1 : rB < ws0.heap.size := S1.out.bx.lt
  have hb2 : rB < ws1.heap.size := S2.out.bx.lt
  refine ret_box3 rfl rfl rfl (S3.out.zA.all _ _ _) ⟨⟨mkPa (x0, x1, x2), .slice p1 m1 n1, p2, n2, t2, b2, ?_, ?_, ?_, S3.out.rd.frame hlo.1 ff (fun k e => by subst e; omega), ?_⟩, S3.out.fr.trans ff (fun k e => Or.inr (by omega))⟩
  · rw [← HM2.out]; rfl
  · exact ((((O1.out.frame W1.out (fun k e => by omega)).frame V2.out (fun k e => by omega)).frame W2.out (fun k e => by omega)).frame ff (fun k e => by omega)).mono S1.out.fr.size
  · have h1 := O2.out.1.fr W2.out (fun k e => by have := (O2.out.1.ge e).1; omega) (fun u hu k e _ => by have := O2.out.2 u hu k e; omega)
    have h2 := h1.fr ff (fun k e => by have := (h1.ge e).1; omega) (fun u hu k e _ => by have := O2.out.2 u hu k e; omega)
    have hz := S2.out.fr.size
    refine ⟨V, ?_, fun u hu k e => Nat.le_trans hz (O2.out.2 u hu k e)⟩
    have h3 := h2.mono hz
    show OwnP w.heap.size _ (.slice p2 x2.length n2) x2 V
    rw [HM2.out]
    exact h3
  · exact (G0.out.pair (G1.out.pair G2.out)).iso mkPa

end Go.Proofs.YtofpkpomhdhkgaaGreatDoor

namespace Go.Proofs.YtofpkpomhdhkgaaGreatDoor
open Go.RowKit
set_option maxRecDepth 100000

/-- What is known of a patch that is not too much. -/
structure FewPa (p : Pa) : Prop where
  name : p.name.size < 4000
  deps : p.deps.length < 4000 ∧ ∀ y ∈ p.deps, y.size < 4000
  body : p.body.length ≤ 60 ∧ ∀ x ∈ p.body, x.weight < 4000

theorem mem_sum13 : ∀ {l : List ByteArray} {y : ByteArray}, y ∈ l → y.size ≤ (l.map (·.size)).sum
  | [], _, h => by cases h
  | x :: l, y, h => by
    rw [List.map_cons, List.sum_cons]
    rcases List.mem_cons.1 h with rfl | h
    · omega
    · have := mem_sum13 h; omega

/-- What the law's Great tells. -/
def GPost (p : Pa) (w : World) (e : Ending) (w' : World) : Prop := ∃ g, e = .returned (.bool g) ∧ (g = false → FewPa p) ∧ Fr None' w w'

set_option maxHeartbeats 8000000 in
theorem great13_any (p : Pa) (vd : Value) (pb : Option Addr) (nb cb : Nat) (w : World) (hd : StrsAt w vd p.deps) (hb : PrsAt w pb p.body) (hnb : p.body.length = nb) (ld : p.deps.length ≤ 140737488355328) (lb : ∀ x ∈ p.body, x.old.length ≤ 140737488355328 ∧ x.new.length ≤ 140737488355328) :
    Calls Tryz.prog 9 #[.agg #[.string p.name, vd, .slice pb nb cb]] w fun e w' => GPost p w e w' := by
  obtain ⟨N, D, L⟩ := p
  simp only at hd hb hnb ld lb ⊢
  have HSd := toHid8 hd
  obtain ⟨pa, ca, ed, -⟩ := hd
  subst ed
  obtain ⟨no, hno⟩ : ∃ n, D.length = n := ⟨_, rfl⟩
  rw [hno] at ld ⊢
  have HL := toHid8 hno
  obtain ⟨w1, hw1⟩ : ∃ w1, w.alloc (.cells #[.string N, .slice pa no ca, .slice pb nb cb] 25) = w1 := ⟨_, rfl⟩
  have F1 : Fr None' w w1 := hw1 ▸ Fr.alloc None' w _
  have B1 : Box3 w1 w.heap.size (.string N) (.slice pa no ca) (.slice pb nb cb) := hw1 ▸ Box3.new w _ _ _
  obtain ⟨a0, a1, a2⟩ := B1.cells
  have HB := toHid8 (fun w' (f : Fr None' w1 w') => (B1.kept f).cells)
  have HF := toHid8 F1
  have HG := toHid8 (fun w' (f : Fr None' w1 w') => pgreats_any pb nb cb L w' hnb (hb.kept (F1.then7 f)) lb)
  unfold GreatPs at HG
  obtain ⟨mP, hmP⟩ : ∃ m : Nat, min N.size 4000 = m := ⟨_, rfl⟩
  have eP : (if (4000 : Int) < (N.size : Int) then (4000 : Int) else (N.size : Int)) = (mP : Int) := by split <;> omega
  have eP2 : min (N.size : Int) 4000 = (mP : Int) := by omega
  have HM := toHid8 (show mP < 4000 → mP = N.size by omega)
  have i1 : (mP : Int) ≤ 4000 := by omega
  have i4 : (no : Int) ≤ 140737488355328 := by omega
  have u1 : IntKind.i64.wrap ((mP : Int) + (no : Int)) = ((mP + no : Nat) : Int) := by rw [IntKind.wrap_i64]; omega
  obtain ⟨N0, hN0⟩ : ∃ N0, mP + no = N0 := ⟨_, rfl⟩
  have HN0 := toHid8 (show N0 < 4000 → N0 = N.size + no from fun h => by have := HM.out (by omega); omega)
  rw [hN0] at u1
  have i6 : (N0 : Int) ≤ 281474976730000 := by omega
  have HNb := toHid8 hnb
  clear hb hnb ld lb hno F1 B1 hmP hN0 HM
  go_enter Tryz.func9, Tryz.ntmps9
  go_wp2_with fail
  clear u1 eP eP2 i1 a0 a1 a2 hw1
  go_loopw [3, 4] (fun vn vi w2 => ∃ q M : Nat, q ≤ no ∧ vi = .int .i64 q ∧ vn = .int .i64 M ∧ (M : Int) ≤ 281474976740000 ∧ Hid (M < 4000 → M = N.size + no + ((D.take q).map (·.size)).sum) ∧ Hid (Fr None' w1 w2)) (fun _ vi _ => no - (intOf vi).toNat)
  case atStart => exact ⟨0, N0, Nat.zero_le _, rfl, rfl, by omega, fun h => by have := HN0.out h; simpa using this, Fr.refl _ _⟩
  case round =>
    obtain ⟨q, M, hq, rfl, rfl, hM, HMM, HF2⟩ := hrel
    obtain ⟨a0, a1, a2⟩ := HB.out wr HF2.out
    by_cases hqt : q < no
    · by_cases hs : M < 4000
      · have hql : q < D.length := by rw [HL.out]; exact hqt
        obtain ⟨_, _, e, _, _, hr⟩ := HSd.out.kept (HF.out.then7 HF2.out)
        cases e
        obtain ⟨gl, ol, rfl, e1⟩ := hr.get hql
        have HZ := toHid8 (show ((D.take (q + 1)).map (·.size)).sum = ((D.take q).map (·.size)).sum + D[q].size from sizes_step hql)
        obtain ⟨s, hse⟩ : ∃ s, D[q] = s := ⟨_, rfl⟩
        rw [hse] at e1 HZ
        obtain ⟨mS, hmS⟩ : ∃ m : Nat, min s.size 4000 = m := ⟨_, rfl⟩
        have eS : (if (4000 : Int) < (s.size : Int) then (4000 : Int) else (s.size : Int)) = (mS : Int) := by split <;> omega
        have eS2 : min (s.size : Int) 4000 = (mS : Int) := by omega
        have HM2 : Hid (mS < 4000 → mS = s.size) := by show _ → _; omega
        have u1 : (mS : Int) ≤ 4000 := by omega
        have u2 : (M : Int) < 4000 := by omega
        have u3 : (q : Int) < (no : Int) := by omega
        have u4 : (0 : Int) ≤ (q : Int) := by omega
        clear hse hmS hr hs hM
        go_wp2_with fail
        refine ⟨⟨q + 1, M + mS, by omega, by go_num, by go_num, by omega, fun hh => ?_, HF2.out⟩, by simp [intOf]; omega⟩
        have h1 := HMM.out (by omega)
        have h2 := HM2.out (by omega)
        rw [HZ.out]
        omega
      · have u2 : ¬ (M : Int) < 4000 := by omega
        have u3 : (q : Int) < (no : Int) := by omega
        have u5 : (4000 : Int) ≤ (M : Int) := by omega
        have HX := toHid8 (HF.out.then7 HF2.out)
        clear HMM HN0 hs
        go_wp2_with fail
        go_ret
        exact ⟨true, by first | rfl | exact ret_bool7 (by simp; omega), fun h => (by cases h), HX.out⟩
    · obtain rfl : q = no := by omega
      by_cases hs : M < 4000
      · have HW := toHid8 (show N.size < 4000 ∧ q < 4000 ∧ ∀ y ∈ D, y.size < 4000 by
          have h1 := HMM.out hs
          rw [List.take_of_length_le (by rw [HL.out]; exact Nat.le_refl _)] at h1
          exact ⟨by omega, by omega, fun y hy => by have := mem_sum13 hy; omega⟩)
        have u2 : (M : Int) < 4000 := by omega
        have u5 : ¬ (4000 : Int) ≤ (M : Int) := by omega
        have q1 := HG.out wr HF2.out
        clear HMM HN0 hs hM hqt
        go_wp2_with fail
        with_reducible refine q1.mono ?_
        rintro e w3 ⟨g, rfl, hg, f3⟩
        have HX := toHid8 (HF.out.then7 (HF2.out.then7 f3))
        clear q1 f3
        cases g with
        | true =>
          clear hg
          go_wp2_with fail
          go_ret
          exact ⟨true, by rfl, fun h => (by cases h), HX.out⟩
        | false =>
          have HGg := toHid8 (hg rfl)
          clear hg
          go_wp2_with fail
          go_ret
          exact ⟨false, by rfl, fun _ => ⟨HW.out.1, ⟨by rw [HL.out]; exact HW.out.2.1, HW.out.2.2⟩, by rw [HNb.out]; exact HGg.out⟩, HX.out⟩
      · have u2 : ¬ (M : Int) < 4000 := by omega
        have u5 : (4000 : Int) ≤ (M : Int) := by omega
        have HX := toHid8 (HF.out.then7 HF2.out)
        clear HMM HN0 hs
        go_wp2_with fail
        go_ret
        exact ⟨true, by first | rfl | exact ret_bool7 (by simp; omega), fun h => (by cases h), HX.out⟩

end Go.Proofs.YtofpkpomhdhkgaaGreatDoor

namespace Go.Proofs.YtofpkpomhdhkgaaGreatDoor
open Go.RowKit
set_option maxRecDepth 100000

/-- Are two rows of changes one? -/
def sameL : List Pr → List Pr → Bool
  | [], [] => true
  | a :: l, b :: m => alikeP a b && sameL l m
  | _, _ => false

theorem sameL_iff : ∀ {L M : List Pr}, sameL L M = true ↔ L = M
  | [], [] => by simp [sameL]
  | a :: l, [] => by simp [sameL]
  | [], b :: m => by simp [sameL]
  | a :: l, b :: m => by rw [sameL, Bool.and_eq_true, alike_iff, sameL_iff, List.cons.injEq]

theorem sameL_yes {L M : List Pr} (h : L = M) : sameL L M = true := sameL_iff.2 h

theorem sameL_no {L M : List Pr} (h : ¬ L = M) : sameL L M = false := by
  cases e : sameL L M with
  | false => rfl
  | true => exact absurd (sameL_iff.1 e) h

theorem take_eq {α : Type} {L M : List α} {k : Nat} (h : L.take k = M.take k) (hl : k < L.length) (hm : k < M.length) (he : L[k] = M[k]) : L.take (k + 1) = M.take (k + 1) := by
  rw [List.take_succ_eq_append_getElem hl, List.take_succ_eq_append_getElem hm, h, he]

set_option maxHeartbeats 8000000 in
theorem psames_dec (va vb : Option Addr) (n m c d : Nat) (L M : List Pr) (w : World) (hl : L.length = n) (hm : M.length = m) (ha : PrsAt w va L) (hb : PrsAt w vb M) (hn : n ≤ 90000000) (hs : ∀ x ∈ L, x.old.length ≤ 900000 ∧ x.new.length ≤ 900000) :
    Calls Tryz.prog 35 #[.slice va n c, .slice vb m d] w fun e w' => e = .returned (.bool (sameL L M)) ∧ Fr None' w w' := by
  by_cases hnm : n = m
  case neg =>
    rw [sameL_no (fun e => hnm (by rw [← hl, ← hm, e]))]
    have i1 : ¬ (n : Int) = (m : Int) := by omega
    clear hl hm ha hb hs hnm
    go_enter Tryz.func35, Tryz.ntmps35
    go_wp2_with fail
    go_ret
    exact ⟨rfl, Fr.refl _ _⟩
  subst hnm
  obtain ⟨R, hR⟩ : ∃ R, sameL L M = R := ⟨_, rfl⟩
  rw [hR]
  have HR := toHid8 hR
  have HL := toHid8 hl
  have HM := toHid8 hm
  have HA := toHid8 ha
  have HB := toHid8 hb
  have HS := toHid8 hs
  have i1 : (n : Int) ≤ 90000000 := by omega
  clear hl hm ha hb hn hs hR
  go_enter Tryz.func35, Tryz.ntmps35
  go_wp2_with fail
  go_loopw [5] (fun vi wr => ∃ k : Nat, k ≤ n ∧ vi = .int .i64 k ∧ Hid (L.take k = M.take k) ∧ Hid (Fr None' w wr)) (fun vi _ => n - (intOf vi).toNat)
  case atStart => exact ⟨0, Nat.zero_le _, rfl, rfl, Fr.refl _ _⟩
  case round =>
    obtain ⟨k, hk, rfl, HK, HF⟩ := hrel
    by_cases hlt : k < n
    · have hkL : k < L.length := by rw [HL.out]; exact hlt
      have hkM : k < M.length := by rw [HM.out]; exact hlt
      obtain ⟨g, o, rfl, vo, vn, d0, d1, d2, d3, d4, d5, d6, s1, s2⟩ := (HA.out.kept HF.out).get hkL
      obtain ⟨g2, o2, rfl, uo, un, e0, e1, e2, e3, e4, e5, e6, s3, s4⟩ := (HB.out.kept HF.out).get hkM
      obtain ⟨z1, z2⟩ := HS.out _ (List.getElem_mem hkL)
      have HY := toHid8 (fun (he : L[k] = M[k]) => take_eq HK.out hkL hkM he)
      have HN := toHid8 (show ¬ L[k] = M[k] → false = R from fun he => by
        rw [← HR.out, sameL_no]
        intro e
        subst e
        exact he rfl)
      obtain ⟨x, hxe⟩ : ∃ x, L[k] = x := ⟨_, rfl⟩
      obtain ⟨y, hye⟩ : ∃ y, M[k] = y := ⟨_, rfl⟩
      rw [hxe] at d0 d1 d2 d3 d4 s1 s2 z1 z2
      rw [hye] at e0 e1 e2 e3 e4 s3 s4
      rw [hxe, hye] at HY HN
      have cS0 : ∀ w', Fr None' wr w' → Calls Tryz.prog 51 #[.agg #[.int .i64 x.kind, .string x.path, .string x.dst, .string x.src, .int .i64 x.pos, vo, vn], .agg #[.int .i64 y.kind, .string y.path, .string y.dst, .string y.src, .int .i64 y.pos, uo, un]] w' fun e w'' => e = .returned (.bool (alikeP x y)) ∧ Fr None' w' w'' := fun w' f => psame_dec x y vo vn uo un w' (s1.kept f) (s2.kept f) (s3.kept f) (s4.kept f) z1 z2
      have HAl := toHid8 (alike_iff (p := x) (q := y))
      obtain ⟨S, hS⟩ : ∃ S, alikeP x y = S := ⟨_, rfl⟩
      rw [hS] at cS0 HAl
      have cS := cS0
      obtain ⟨pa, ca, rfl, _⟩ := s1
      obtain ⟨pb, cb, rfl, _⟩ := s2
      obtain ⟨qa, da, rfl, _⟩ := s3
      obtain ⟨qb, db, rfl, _⟩ := s4
      obtain ⟨K, P, T, F, A, lO, lN⟩ := x
      obtain ⟨K', P', T', F', A', mO, mN⟩ := y
      simp only at d0 d1 d2 d3 d4 d5 d6 e0 e1 e2 e3 e4 e5 e6 cS
      have i2 : (k : Int) < (n : Int) := by omega
      have i3 : (0 : Int) ≤ (k : Int) := by omega
      clear hxe hye z1 z2 hS cS0
      have HK2 : Hid (∀ w', Fr None' wr w' → Fr None' wr w' ∧ w'.cell? ⟨g, o + k * 7, none⟩ = some (.int .i64 K) ∧ w'.cell? ⟨g, o + k * 7 + 1, none⟩ = some (.string P) ∧ w'.cell? ⟨g, o + k * 7 + 2, none⟩ = some (.string T) ∧ w'.cell? ⟨g, o + k * 7 + 3, none⟩ = some (.string F) ∧ w'.cell? ⟨g, o + k * 7 + 4, none⟩ = some (.int .i64 A) ∧ w'.cell? ⟨g, o + k * 7 + 5, none⟩ = some (.slice pa lO.length ca) ∧ w'.cell? ⟨g, o + k * 7 + 6, none⟩ = some (.slice pb lN.length cb) ∧ w'.cell? ⟨g2, o2 + k * 7, none⟩ = some (.int .i64 K') ∧ w'.cell? ⟨g2, o2 + k * 7 + 1, none⟩ = some (.string P') ∧ w'.cell? ⟨g2, o2 + k * 7 + 2, none⟩ = some (.string T') ∧ w'.cell? ⟨g2, o2 + k * 7 + 3, none⟩ = some (.string F') ∧ w'.cell? ⟨g2, o2 + k * 7 + 4, none⟩ = some (.int .i64 A') ∧ w'.cell? ⟨g2, o2 + k * 7 + 5, none⟩ = some (.slice qa mO.length da) ∧ w'.cell? ⟨g2, o2 + k * 7 + 6, none⟩ = some (.slice qb mN.length db)) := fun w' f => ⟨f, f.keepCell d0 (fun e => e), f.keepCell d1 (fun e => e), f.keepCell d2 (fun e => e), f.keepCell d3 (fun e => e), f.keepCell d4 (fun e => e), f.keepCell d5 (fun e => e), f.keepCell d6 (fun e => e), f.keepCell e0 (fun e => e), f.keepCell e1 (fun e => e), f.keepCell e2 (fun e => e), f.keepCell e3 (fun e => e), f.keepCell e4 (fun e => e), f.keepCell e5 (fun e => e), f.keepCell e6 (fun e => e)⟩
      clear d0 d1 d2 d3 d4 d5 d6 e0 e1 e2 e3 e4 e5 e6
      go_wp2_with fail
      go_region_held3 (fun w' => Fr None' wr w' ∧ w'.cell? ⟨g, o + k * 7, none⟩ = some (.int .i64 K) ∧ w'.cell? ⟨g, o + k * 7 + 1, none⟩ = some (.string P) ∧ w'.cell? ⟨g, o + k * 7 + 2, none⟩ = some (.string T) ∧ w'.cell? ⟨g, o + k * 7 + 3, none⟩ = some (.string F) ∧ w'.cell? ⟨g, o + k * 7 + 4, none⟩ = some (.int .i64 A) ∧ w'.cell? ⟨g, o + k * 7 + 5, none⟩ = some (.slice pa lO.length ca) ∧ w'.cell? ⟨g, o + k * 7 + 6, none⟩ = some (.slice pb lN.length cb) ∧ w'.cell? ⟨g2, o2 + k * 7, none⟩ = some (.int .i64 K') ∧ w'.cell? ⟨g2, o2 + k * 7 + 1, none⟩ = some (.string P') ∧ w'.cell? ⟨g2, o2 + k * 7 + 2, none⟩ = some (.string T') ∧ w'.cell? ⟨g2, o2 + k * 7 + 3, none⟩ = some (.string F') ∧ w'.cell? ⟨g2, o2 + k * 7 + 4, none⟩ = some (.int .i64 A') ∧ w'.cell? ⟨g2, o2 + k * 7 + 5, none⟩ = some (.slice qa mO.length da) ∧ w'.cell? ⟨g2, o2 + k * 7 + 6, none⟩ = some (.slice qb mN.length db))
        (exact HK2.out _ (by first | exact Fr.drew None' wr | assumption | exact Fr.then7 (Fr.drew None' wr) (by assumption)))
        (first | (go_at_call 51; with_reducible (refine (cS _ (Fr.drew None' wr)).mono ?_); rintro e w6 ⟨rfl, F6⟩))
      have HX : Hid (Fr None' w w6) := HF.out.then7 ((Fr.drew None' wr).then7 F6)
      clear cS F6 HK2
      cases S with
      | true =>
        have HE := toHid8 (HY.out (HAl.out.1 rfl))
        clear HAl HY HN
        go_wp2_with fail
        exact ⟨⟨k + 1, by omega, by go_num, HE.out, HX.out⟩, by simp [intOf]; omega⟩
      | false =>
        have HE := toHid8 (HN.out (fun e => by have := HAl.out.2 e; cases this))
        clear HAl HY HN
        go_wp2_with fail
        go_ret
        exact ⟨by rw [← HE.out]; rfl, HX.out⟩
    · obtain rfl : k = n := by omega
      have HE := toHid8 (show true = R by
        have h := HK.out
        rw [List.take_of_length_le (by rw [HL.out]; exact Nat.le_refl _), List.take_of_length_le (by rw [HM.out]; exact Nat.le_refl _)] at h
        rw [← HR.out, sameL_yes h])
      go_wp2_with fail
      go_ret
      exact ⟨by rw [← HE.out]; rfl, HF.out⟩

/-- Are two patches one? -/
def samePa (p q : Pa) : Bool := decide (p.name = q.name) && decide (p.deps = q.deps) && sameL p.body q.body

theorem samePa_iff {p q : Pa} : samePa p q = true ↔ p = q := by
  obtain ⟨a, b, c⟩ := p
  obtain ⟨a', b', c'⟩ := q
  unfold samePa
  rw [Bool.and_eq_true, Bool.and_eq_true, decide_eq_true_eq, decide_eq_true_eq, sameL_iff]
  simp [and_assoc]

set_option maxHeartbeats 8000000 in
theorem msame_any (p q : Pa) (vd ud : Value) (pb qb : Option Addr) (n m cb db : Nat) (w : World) (hn : p.body.length = n) (hm : q.body.length = m) (sd : StrsAt w vd p.deps) (td : StrsAt w ud q.deps) (sb : PrsAt w pb p.body) (tb : PrsAt w qb q.body) (ln : n ≤ 90000000) (ld : p.deps.length < 1000000) (hs : ∀ x ∈ p.body, x.old.length ≤ 900000 ∧ x.new.length ≤ 900000) :
    Calls Tryz.prog 16 #[.agg #[.string p.name, vd, .slice pb n cb], .agg #[.string q.name, ud, .slice qb m db]] w fun e w' => e = .returned (.bool (samePa p q)) ∧ Fr None' w w' := by
  obtain ⟨N, D, L⟩ := p
  obtain ⟨N', D', M⟩ := q
  simp only at hn hm sd td sb tb ld hs ⊢
  obtain ⟨R, hR⟩ : ∃ R, samePa ⟨N, D, L⟩ ⟨N', D', M⟩ = R := ⟨_, rfl⟩
  rw [hR]
  unfold samePa at hR
  simp only at hR
  obtain ⟨pa, ca, rfl, _, _, r1⟩ := sd
  obtain ⟨qa, da, rfl, _, _, r2⟩ := td
  have cD := toHid8 (fun w' (f : Fr None' w w') => (Lines.same_any pa qa ca da D D' w' (r1.fr (toLN f)) (r2.fr (toLN f)) (by omega)).mono fun _ _ h => (⟨h.1, ofLN h.2⟩ : _ ∧ Fr None' w' _))
  have cB := toHid8 (fun w' (f : Fr None' w w') => psames_dec pb qb n m cb db L M w' hn hm (sb.kept f) (tb.kept f) ln hs)
  obtain ⟨w1, hw1⟩ : ∃ x, w.alloc (.cells #[.string N, .slice pa D.length ca, .slice pb n cb] 25) = x := ⟨_, rfl⟩
  obtain ⟨w2, hw2⟩ : ∃ x, w1.alloc (.cells #[.string N', .slice qa D'.length da, .slice qb m db] 25) = x := ⟨_, rfl⟩
  have F1 : Fr None' w w1 := hw1 ▸ Fr.alloc None' w _
  have F2 : Fr None' w1 w2 := hw2 ▸ Fr.alloc None' w1 _
  have B1 : Box3 w2 w.heap.size (.string N) (.slice pa D.length ca) (.slice pb n cb) := Box3.kept (hw1 ▸ Box3.new w _ _ _) F2
  have B2 : Box3 w2 w1.heap.size (.string N') (.slice qa D'.length da) (.slice qb m db) := hw2 ▸ Box3.new w1 _ _ _
  have HF := toHid8 (F1.then7 F2)
  have H1 := toHid8 B1
  have H2 := toHid8 B2
  have HR := toHid8 hR
  obtain ⟨a0, a1, a2⟩ := B1.cells
  obtain ⟨b0, b1, b2⟩ := B2.cells
  generalize decide (D = D') = RD at *
  generalize sameL L M = RB at *
  generalize D.length = x at *
  generalize D'.length = y at *
  clear hn hm sb tb r1 r2 ld hs F1 F2 B1 B2 hR
  by_cases hN : N = N'
  case neg =>
    obtain ⟨t1, t2⟩ := Lines.str_no hN
    have e2 := HR.out
    rw [decide_eq_false hN] at e2
    simp only [Bool.false_and] at e2
    have HE := toHid8 e2
    clear e2 hN
    go_enter Tryz.func16, Tryz.ntmps16
    go_wp2_with fail
    go_ret
    exact ⟨by rw [← HE.out]; rfl, HF.out⟩
  case pos =>
    subst hN
    have HE := toHid8 (show (RD && RB) = R by have := HR.out; simpa using this)
    have q1 := cD.out w2 HF.out
    clear HR
    go_enter Tryz.func16, Tryz.ntmps16
    go_wp2_with fail
    with_reducible refine q1.mono ?_
    rintro e w3 ⟨rfl, f3⟩
    have HF3 := toHid8 (HF.out.then7 f3)
    have q2 := cB.out w3 HF3.out
    clear q1 a0 a1 a2 b0 b1 b2
    obtain ⟨a0, a1, a2⟩ := (H1.out.kept f3).cells
    obtain ⟨b0, b1, b2⟩ := (H2.out.kept f3).cells
    clear f3
    cases RD with
    | false =>
      have HE2 := toHid8 (show false = R by have := HE.out; simpa using this)
      go_wp2_with fail
      go_ret
      exact ⟨by rw [← HE2.out]; rfl, HF3.out⟩
    | true =>
      have HE2 := toHid8 (show RB = R by have := HE.out; simpa using this)
      go_wp2_with fail
      with_reducible refine q2.mono ?_
      rintro e w4 ⟨rfl, f4⟩
      have HF4 := toHid8 (HF3.out.then7 f4)
      clear q2 f4
      cases RB <;> (go_wp2_with fail; go_ret; exact ⟨by rw [← HE2.out]; rfl, HF4.out⟩)

end Go.Proofs.YtofpkpomhdhkgaaGreatDoor
