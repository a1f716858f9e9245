/-
  What is proved here: the set that closure.setOf makes of a row of patches. Conditions: it lies in memory, and is of bounded size.
-/
import Derived.Test.YtbiilnhefoplkaaGreatDoorM6ZStrs9
import Derived.Test.YtbiilnhefoplkaaGreatDoorMZRigD13
namespace Go.Proofs.YtbiilnhefoplkaaGreatDoor
open Go.RowKit Go.Maps Go.WideMaps
set_option maxRecDepth 100000

/-- A patch, and where its lists lie. -/
structure Pv where
  x : Pa
  pu : Option Addr
  cu : Nat
  pb : Option Addr
  cb : Nat

/-- Its value. -/
def mkV (c : Pv) : Value := .agg #[.string c.x.name, .slice c.pu c.x.deps.length c.cu, .slice c.pb c.x.body.length c.cb]

/-- Its lists lie in memory. -/
structure PvIn (w : World) (c : Pv) : Prop where
  deps : StrsAt w (.slice c.pu c.x.deps.length c.cu) c.x.deps
  nil : c.pb = none → c.cb = 0
  body : PrsAt w c.pb c.x.body

theorem PvIn.kept {w w' : World} {c : Pv} (h : PvIn w c) (f : Fr None' w w') : PvIn w' c := ⟨h.deps.kept f, h.nil, h.body.kept f⟩

/-- A row of patches. -/
def RowV (w : World) (va : Option Addr) (Z : List Pv) : Prop := ∀ (k : Nat) (c : Pv), Z[k]? = some c → ∃ g o, va = some ⟨g, o, none⟩ ∧ w.cell? ⟨g, o + k * 3, none⟩ = some (.string c.x.name) ∧ w.cell? ⟨g, o + k * 3 + 1, none⟩ = some (.slice c.pu c.x.deps.length c.cu) ∧ w.cell? ⟨g, o + k * 3 + 2, none⟩ = some (.slice c.pb c.x.body.length c.cb) ∧ PvIn w c

theorem RowV.kept {w w' : World} {va : Option Addr} {Z : List Pv} (h : RowV w va Z) (f : Fr None' w w') : RowV w' va Z := fun k c hk => by
  obtain ⟨g, o, e, h0, h1, h2, h3⟩ := h k c hk
  exact ⟨g, o, e, f.keepCell h0 (fun e => e), f.keepCell h1 (fun e => e), f.keepCell h2 (fun e => e), h3.kept f⟩

def zeroPv : Pv := ⟨⟨⟨#[]⟩, [], []⟩, none, 0, none, 0⟩

theorem zeroPa (w : World) : (zeroValue 36).run Tryz.prog w = .ok (mkV zeroPv) w := by kernel_rfl

/-- The set of patches behind those that are told. -/
def setGo : List (Kv Pv) → List Pv → Option (List (Kv Pv))
  | T, [] => some T
  | T, c :: r => if (getM T (unB c.x.name)).isSome = true ∨ rightPa c.x = false then none else setGo (putM T (unB c.x.name) c) r

/-- The set of patches. -/
def setV (Z : List Pv) : Option (List (Kv Pv)) := if Z.length ≤ 256 then setGo [] Z else none

theorem setGo_step (T : List (Kv Pv)) {Z : List Pv} {k : Nat} (h : k < Z.length) : setGo T (Z.drop k) = if (getM T (unB Z[k].x.name)).isSome = true ∨ rightPa Z[k].x = false then none else setGo (putM T (unB Z[k].x.name) Z[k]) (Z.drop (k + 1)) := by
  rw [List.drop_eq_getElem_cons h, setGo]

theorem MAt.put {β : Type} {mk : β → Value} {w' : World} {b n : Nat} {T : List (Kv β)} {k : B13} {c : β} (hown : w'.ownsMap Tryz.prog 9 (heldM mk) b n ((toM mk T).put (.string k) (.held (mk c)))) : MAt mk w' b n (putM T k c) := by
  unfold MAt
  rw [← toM_put]
  exact hown

/-- What setOf hands back. -/
def SetPost (w : World) (R : Option (List (Kv Pv))) (e : Ending) (w' : World) : Prop :=
  (∀ T, R = some T → ∃ b nn, e = .returned (.tuple #[.map (some b), .bool true]) ∧ w.heap.size ≤ b ∧ nn ≤ 256 ∧ MAt mkV w' b nn T) ∧ (R = none → e = .returned (.tuple #[.map none, .bool false])) ∧ Fr None' w w'

set_option maxHeartbeats 8000000 in
theorem setOf_any (va : Option Addr) (n c : Nat) (Z : List Pv) (w : World) (hn : Z.length = n) (hr : RowV w va Z) (hN : n ≤ 140737488355328) (hs : ∀ d ∈ Z, BigPa d.x) :
    Calls Tryz.prog 25 #[.slice va n c] w fun e w' => SetPost w (setV Z) e w' := by
  have HL := toHid8 hn
  have HRow := toHid8 hr
  have HS := toHid8 hs
  have hmm := @run_makeMap Tryz.prog
  have i1 : (n : Int) ≤ 140737488355328 := by omega
  by_cases h256 : n ≤ 256
  case neg =>
    have HE := toHid8 (show setV Z = none by unfold setV; rw [hn, if_neg h256])
    have i2 : (256 : Int) < (n : Int) := by omega
    clear hn hr hs h256
    go_enter Tryz.func25, Tryz.ntmps25
    go_wp2_with fail
    go_ret2
    exact ⟨fun T e => (by rw [HE.out] at e; cases e), fun _ => rfl, Fr.refl _ _⟩
  have i2 : ¬ (256 : Int) < (n : Int) := by omega
  obtain ⟨R, hR⟩ : ∃ R, setV Z = R := ⟨_, rfl⟩
  have HR := toHid8 (show setGo [] (Z.drop 0) = R by rw [← hR]; unfold setV; rw [hn, if_pos h256]; rfl)
  rw [hR]
  have G0 := toHid8 (show MAt mkV (w.alloc (.map #[] 0)) w.heap.size 0 [] from MAt.start w)
  have H256 := toHid8 h256
  clear hn hr hs hR h256
  go_enter Tryz.func25, Tryz.ntmps25
  go_wp2_with fail
  clear hmm
  go_loopw [15] (fun vi wr => ∃ (k : Nat) (T : List (Kv Pv)), k ≤ n ∧ vi = .int .i64 k ∧ Hid (MAt mkV wr w.heap.size k T) ∧ Hid (setGo T (Z.drop k) = R) ∧ Hid (Fr None' w wr)) (fun vi _ => n - (intOf vi).toNat)
  case atStart => exact ⟨0, [], Nat.zero_le _, rfl, G0.out, HR.out, Fr.alloc None' w _⟩
  case round =>
    clear G0
    obtain ⟨k, T, hk, rfl, HT, HP, HF⟩ := hrel
    by_cases hlt : k < n
    case neg =>
      have HE := toHid8 (show R = some T by
        have h := HP.out
        rw [List.drop_of_length_le (by rw [HL.out]; omega)] at h
        exact h.symm)
      have i3 : ¬ (k : Int) < (n : Int) := by omega
      clear hlt
      go_wp2_with fail
      go_ret2
      exact ⟨fun T' e => (by rw [HE.out] at e; cases e; exact ⟨_, k, rfl, Nat.le_refl _, Nat.le_trans hk H256.out, HT.out⟩), fun e => (by rw [HE.out] at e; cases e), HF.out⟩
    case pos =>
      have hka : k < Z.length := by rw [HL.out]; exact hlt
      have hst := setGo_step T hka
      rw [HP.out] at hst
      have hsz := HS.out _ (List.getElem_mem hka)
      obtain ⟨g, o, rfl, c0, c1, c2, hin⟩ := HRow.out.kept HF.out k _ (List.getElem?_eq_getElem hka)
      obtain ⟨d, hd⟩ : ∃ d, Z[k] = d := ⟨_, rfl⟩
      rw [hd] at hst hsz c0 c1 c2 hin
      have i3 : (k : Int) < (n : Int) := by omega
      have i4 : (0 : Int) ≤ (k : Int) := by omega
      have hns : d.x.name.size ≤ maxLen := Nat.le_trans hsz.name (by decide)
      obtain ⟨w1, hw1⟩ : ∃ y, wr.alloc (.cells #[.string d.x.name, .slice d.pu d.x.deps.length d.cu, .slice d.pb d.x.body.length d.cb] 36) = y := ⟨_, rfl⟩
      have F1 : Fr None' wr w1 := hw1 ▸ Fr.alloc None' wr _
      have B1 : Box3 w1 wr.heap.size (.string d.x.name) (.slice d.pu d.x.deps.length d.cu) (.slice d.pb d.x.body.length d.cb) := hw1 ▸ Box3.new wr _ _ _
      obtain ⟨b0, b1, b2⟩ := B1.cells
      have hlook := (HT.out.kept F1).look_ok Tryz.underlying44 (zeroPa _) d.x.name hns
      have HF1 := toHid8 (HF.out.then7 F1)
      have HIn := toHid8 (hin.kept F1)
      have HB1 := toHid8 B1
      have HT1 := toHid8 (HT.out.kept F1)
      have HZs := toHid8 hsz
      have HLt := toHid8 hlt
      clear hd hin hsz F1 B1 hlt
      cases hg : getM T (unB d.x.name) with
      | some d' =>
        rw [hg] at hlook hst
        have HE := toHid8 (show R = none by rw [hst]; simp)
        simp only [Option.getD_some, Option.isSome_some, mkV] at hlook
        clear hst hg
        obtain ⟨w2, hw2⟩ : ∃ y, w1.alloc (.cells #[.string d'.x.name, .slice d'.pu d'.x.deps.length d'.cu, .slice d'.pb d'.x.body.length d'.cb] 36) = y := ⟨_, rfl⟩
        have HF2 := toHid8 (HF1.out.then7 (show Fr None' w1 w2 from hw2 ▸ Fr.alloc None' w1 _))
        go_wp2_with fail
        go_ret2
        exact ⟨fun T' e => (by rw [HE.out] at e; cases e), fun _ => rfl, HF2.out⟩
      | none =>
        rw [hg] at hlook hst
        simp only [Option.getD_none, Option.isSome_none, mkV, zeroPv, List.length_nil] at hlook
        simp only [Option.isSome_none, Bool.false_eq_true, false_or] at hst
        obtain ⟨w2, hw2⟩ : ∃ y, w1.alloc (.cells #[.string ⟨#[]⟩, .slice none 0 0, .slice none 0 0] 36) = y := ⟨_, rfl⟩
        have F2 : Fr None' w1 w2 := hw2 ▸ Fr.alloc None' w1 _
        have q1 := nright_any d.x _ d.pb d.cb w2 (HIn.out.deps.kept F2) (HIn.out.body.kept F2) HZs.out
        have HF2 := toHid8 (HF1.out.then7 F2)
        have HB2 := toHid8 (HB1.out.kept F2)
        have HT2 := toHid8 (HT1.out.kept F2)
        have Hw2 := toHid8 hw2
        clear b0 b1 b2
        obtain ⟨b0, b1, b2⟩ := HB1.out.cells
        obtain ⟨e0, e1, e2⟩ := (HB1.out.kept (Fr.alloc None' w1 (.cells #[.string ⟨#[]⟩, .slice none 0 0, .slice none 0 0] 36))).cells
        obtain ⟨RX, hRX⟩ : ∃ X, rightPa d.x = X := ⟨_, rfl⟩
        rw [hRX] at hst q1
        have HSt := toHid8 hst
        clear hst hg hRX F2 hw2
        go_wp2_with fail
        rw [Hw2.out]
        with_reducible refine q1.mono ?_
        rintro e w3 ⟨rfl, f3⟩
        have HF3 := toHid8 (HF2.out.then7 f3)
        have hown := HT2.out.kept f3
        clear b0 b1 b2 e0 e1 e2
        obtain ⟨b0, b1, b2⟩ := (HB2.out.kept f3).cells
        clear q1 f3 hlook
        cases RX with
        | false =>
          have HE := toHid8 (show R = none by rw [HSt.out]; simp)
          go_wp2_with fail
          go_ret2
          exact ⟨fun T' e => (by rw [HE.out] at e; cases e), fun _ => rfl, HF3.out⟩
        | true =>
          have HSn := toHid8 (show setGo (putM T (unB d.x.name) d) (Z.drop (k + 1)) = R by rw [HSt.out]; simp)
          have hkS := key14 d.x.name hns
          go_wp2_with (at_mapUpdate; refine wpList_mapUpdate_in _ rfl _ _ _ 44 rfl 9 36 lawS Tryz.underlying44 (heldM mkV) w.heap.size k _ rfl hown (by unfold maxLen; omega) _ _ _ rfl rfl hkS _ [] (heldM_mk mkV d) ?_; intro w4 hown4 hturn4)
          have hF4 : Fr None' w w4 := HF3.out.trans (Fr.turned (M := fun k => k = w.heap.size) hturn4 rfl) (fun i e => Or.inr (by omega))
          exact ⟨⟨k + 1, _, by have := HLt.out; omega, by go_num, MAt.put hown4, HSn.out, hF4⟩, by simp [intOf]; have := HLt.out; omega⟩

end Go.Proofs.YtbiilnhefoplkaaGreatDoor
