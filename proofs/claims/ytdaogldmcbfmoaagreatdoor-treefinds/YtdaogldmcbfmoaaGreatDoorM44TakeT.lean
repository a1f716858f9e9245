/-
  What is proved here: the contracts that the statement stands on: TakeT, CutT, Rd7, Sort7, OwnX, RdM, ThingT, RdT, ReadT. Conditions: as each theorem names them.
-/
import Derived.Test.YtdaogldmcbfmoaaGreatDoorM43NameT
import Derived.Test.YtdaogldmcbfmoaaGreatDoorM29LRep
import Derived.Test.YtdaogldmcbfmoaaGreatDoorM38RightT2
namespace Go.Proofs.YtdaogldmcbfmoaaGreatDoor
open Go.RowKit Go.Maps Go.WideMaps
set_option maxRecDepth 100000

/-- What is kept by a name behind a mark, or the error; g: what a name has. -/
def takeK (g : List UInt8 → List UInt8 × Int) (x : List UInt8) (m : UInt8) : List UInt8 × Int :=
  if (g x).2 = 0 then (match (g x).1 with
    | [] => ([], 3)
    | c :: r => if c = m then (r, 0) else ([], 3)) else ([], (g x).2)

/-- The lines that are kept by a name behind a mark, or the error. -/
def takeL (g : List UInt8 → List UInt8 × Int) (x : List UInt8) (m : UInt8) : List (List UInt8) × Int :=
  if (takeK g x m).2 = 0 then (if Lines.text (takeK g x m).1 then (Lines.lns (takeK g x m).1, 0) else ([], 3)) else ([], (takeK g x m).2)

theorem conv_data {w : World} {v : Value} {b : List UInt8} (h : Data w v b) : (convert 57 9 v).run Tryz.prog w = .ok (.string (strB b)) w := by
  rcases h.2 with ⟨hv, h0⟩ | ⟨g, cap, cur, hv, hb, hh, hc, _, hs, ht⟩
  · have e : b = [] := List.length_eq_zero_iff.1 h0
    subst e
    rw [hv, run_convert_bytes_string w 57 9 5 none 0 0 Tryz.underlying57 Tryz.underlying5 Tryz.underlying9]
    rfl
  · rw [hv]
    refine run_convert_bytes_back w 57 9 5 ⟨g, 0, none⟩ cap b Tryz.underlying57 Tryz.underlying5 Tryz.underlying9 (fun j hj => ?_)
    have e : (⟨g, 0, none⟩ : Addr).add j = ⟨g, j, none⟩ := by unfold Addr.add; split <;> simp_all
    have h1 : (u8s b)[j]? = some (.int .u8 b[j].toNat) := by simp [u8s, List.getElem?_eq_getElem hj]
    rw [← ht, List.getElem?_take, if_pos (by omega)] at h1
    rw [e, World.cell?, hh]
    simpa using h1

set_option maxHeartbeats 1000000 in
theorem tkept_any {w wi : World} {p : Nat} {S : St} (h : Live w wi p S) (x : ByteArray) (m : UInt8) (hx : x.size ≤ maxLen) (hu : used S.F < 1099511627776) (hb : ∀ t ∈ S.F, t.b.length ≤ 100000) :
    Calls Tryz.prog 129 #[.pointer (some ⟨p, 0, none⟩), .string x, .string ⟨#[m]⟩] wi fun e w' => e = .returned (.tuple #[.string (strB (takeK S.getB (bl x) m).1), .int .i64 (takeK S.getB (bl x) m).2]) ∧ Fr None' wi w' := by
  have cG := get_any h (bl x) (by rw [show (bl x).length = x.size from Path.len_eq x]; exact hx) hu hb
  rw [show (⟨(bl x).toArray⟩ : ByteArray) = x from (strB_bl rfl).symm] at cG
  unfold takeK
  obtain ⟨r1, hr1⟩ : ∃ r, (S.getB (bl x)).1 = r := ⟨_, rfl⟩
  obtain ⟨r2, hr2⟩ : ∃ r, (S.getB (bl x)).2 = r := ⟨_, rfl⟩
  rw [hr1, hr2] at cG ⊢
  clear hr1 hr2 h hu hb hx
  by_cases h0 : r2 = 0
  · subst h0
    rw [if_pos rfl]
    have cC := fun v => Any.strings_CutPrefix Tryz.lays103 (strB r1) ⟨#[m]⟩ v
    have key : ∃ o f, (match r1 with
        | [] => (([], 3) : List UInt8 × Int)
        | c :: r => if c = m then (r, 0) else ([], 3)) = (if f = true then (o, 0) else ([], 3)) ∧ (f = true → Lib.trimPrefix r1 [m] = o) ∧ Lib.hasPrefix r1 [m] = f := by
      cases r1 with
      | nil => exact ⟨[], false, rfl, fun e => (by cases e), rfl⟩
      | cons c r =>
        by_cases hc : c = m
        · subst hc
          exact ⟨r, true, by simp, fun _ => by simp [Lib.trimPrefix, Lib.hasPrefix, List.isPrefixOf], by simp [Lib.hasPrefix, List.isPrefixOf]⟩
        · exact ⟨[], false, by simp [hc], fun e => (by cases e), by simp [Lib.hasPrefix, List.isPrefixOf, Ne.symm hc]⟩
    obtain ⟨o, f, k1, k2, k3⟩ := key
    rw [k1]
    change ∀ v, Calls Tryz.prog 167 #[.string (strB r1), .string ⟨#[m]⟩] v fun e w' => e = .returned (.tuple #[.string ⟨(Lib.trimPrefix r1 [m]).toArray⟩, .bool (Lib.hasPrefix r1 [m])]) ∧ w' = v at cC
    rw [k3] at cC
    clear k1 k3
    cases f with
    | true =>
      rw [k2 rfl] at cC
      rw [if_pos rfl]
      show Calls _ _ _ _ fun e w' => e = .returned (.tuple #[.string (strB o), .int .i64 0]) ∧ _
      change ∀ v, Calls Tryz.prog 167 #[.string (strB r1), .string ⟨#[m]⟩] v fun e w' => e = .returned (.tuple #[.string (strB o), .bool true]) ∧ w' = v at cC
      generalize strB o = O at cC ⊢
      clear k2
      go_enter Tryz.func129, Tryz.ntmps129
      go_wp2_with fail
      refine cG.mono ?_
      rintro e w1 ⟨v, rfl, hd, _, f1⟩
      have hcv := conv_data hd
      generalize strB r1 = B at hcv cC
      have HF : Hid (Fr None' wi w1) := f1
      obtain ⟨a, c, hv⟩ := row_slice hd
      subst hv
      clear hd f1 cG
      go_wp2_with (go_at_call 167; refine (cC _).mono ?_; rintro e w' ⟨rfl, rfl⟩)
      go_ret2
      exact ⟨rfl, HF.out⟩
    | false =>
      rw [if_neg Bool.false_ne_true]
      generalize (⟨(Lib.trimPrefix r1 [m]).toArray⟩ : ByteArray) = O at cC
      clear k2
      go_enter Tryz.func129, Tryz.ntmps129
      go_wp2_with fail
      refine cG.mono ?_
      rintro e w1 ⟨v, rfl, hd, _, f1⟩
      have hcv := conv_data hd
      generalize strB r1 = B at hcv cC
      have HF : Hid (Fr None' wi w1) := f1
      obtain ⟨a, c, hv⟩ := row_slice hd
      subst hv
      clear hd f1 cG
      go_wp2_with (go_at_call 167; refine (cC _).mono ?_; rintro e w' ⟨rfl, rfl⟩)
      go_ret2
      exact ⟨rfl, HF.out⟩
  · rw [if_neg h0]
    go_enter Tryz.func129, Tryz.ntmps129
    go_wp2_with fail
    refine cG.mono ?_
    rintro e w1 ⟨v, rfl, hd, _, f1⟩
    have HF : Hid (Fr None' wi w1) := f1
    obtain ⟨a, c, hv⟩ := row_slice hd
    subst hv
    clear hd f1 cG
    go_wp2
    go_ret2
    exact ⟨rfl, HF.out⟩

theorem read_length {S : St} (hb : ∀ t ∈ S.F, t.b.length ≤ 100000) (x : List UInt8) : (S.read x).1.length ≤ 100000 := by
  unfold St.read
  split
  · simp
  · split
    · simp
    · rename_i t ht
      exact hb t (get_mem ht).1

theorem getB_length {S : St} (hb : ∀ t ∈ S.F, t.b.length ≤ 100000) (x : List UInt8) : (S.getB x).1.length ≤ 100000 := by
  unfold St.getB
  split
  · simp
  · split
    · split
      · exact read_length hb _
      · simp
    · simp

theorem takeK_length {S : St} (hb : ∀ t ∈ S.F, t.b.length ≤ 100000) (x : List UInt8) (m : UInt8) : (takeK S.getB x m).1.length ≤ 100000 := by
  have := getB_length hb x
  unfold takeK
  split
  · split
    · simp
    · rename_i c r e
      rw [e, List.length_cons] at this
      split
      · show r.length ≤ _
        omega
      · simp
  · simp

set_option maxHeartbeats 1000000 in
theorem tkeptLines_any {w wi : World} {p : Nat} {S : St} (h : Live w wi p S) (x : ByteArray) (m : UInt8) (hx : x.size ≤ maxLen) (hu : used S.F < 1099511627776) (hb : ∀ t ∈ S.F, t.b.length ≤ 100000) :
    Calls Tryz.prog 89 #[.pointer (some ⟨p, 0, none⟩), .string x, .string ⟨#[m]⟩] wi fun e w' => ∃ v, e = .returned (.tuple #[v, .int .i64 (takeL S.getB (bl x) m).2]) ∧ StrsAt w' v ((takeL S.getB (bl x) m).1.map strB) ∧ Fr None' wi w' ∧ ∀ k, v.ownBlock = some k → wi.heap.size ≤ k ∧ k < w'.heap.size := by
  have cK := tkept_any h x m hx hu hb
  have hlen := takeK_length hb (bl x) m
  unfold takeL
  obtain ⟨r1, hr1⟩ : ∃ r, (takeK S.getB (bl x) m).1 = r := ⟨_, rfl⟩
  obtain ⟨r2, hr2⟩ : ∃ r, (takeK S.getB (bl x) m).2 = r := ⟨_, rfl⟩
  rw [hr1] at hlen
  rw [hr1, hr2] at cK ⊢
  have hz : (strB r1).size = r1.length := by rw [← Path.len_eq (strB r1)]; rfl
  have cS := fun v => Lines.split_any (strB r1) v (by omega)
  change ∀ v, Calls Tryz.prog 130 #[.string (strB r1)] v fun e w' => ∃ u, e = .returned (.tuple #[u, .bool (Lines.text r1)]) ∧ Lines.Made v (if Lines.text r1 then Lines.lns r1 else []) u w' at cS
  have nilS : ∀ w, StrsAt w (.slice none 0 0) [] := fun w => ⟨none, 0, rfl, fun _ => rfl, Nat.le_refl _, fun j x e => by simp at e⟩
  have madeS : ∀ {w w' : World} {t : List (List UInt8)} {v : Value}, Lines.Made w t v w' → StrsAt w' v (t.map strB) ∧ Fr None' w w' ∧ ∀ k, v.ownBlock = some k → w.heap.size ≤ k ∧ k < w'.heap.size := fun {w w' t v} hm => by
    obtain ⟨l, e, va, c, h1, h2, h3⟩ := hm.is
    have e2 : t.map strB = l := by rw [← e]; unfold Lines.bs; rw [List.map_map]; exact List.map_id'' (fun y => (strB_bl rfl).symm) l
    rw [e2]
    exact ⟨⟨va, c, h1, h2, hm.room _ _ _ h1, h3⟩, ofLN hm.fr, hm.own⟩
  clear hr1 hr2 h hu hb hx hlen hz
  generalize strB r1 = B at cS cK
  have HN : Hid _ := @nilS
  have HM : Hid _ := @madeS
  clear nilS madeS
  by_cases h0 : r2 = 0
  · subst h0
    rw [if_pos rfl]
    cases hT : Lines.text r1 with
    | true =>
      rw [hT] at cS
      rw [if_pos rfl]
      simp only [if_pos] at cS
      go_enter Tryz.func89, Tryz.ntmps89
      go_wp2_with fail
      refine cK.mono ?_
      rintro e w1 ⟨rfl, f1⟩
      have HF : Hid (Fr None' wi w1) := f1
      clear f1 cK
      go_wp2_with fail
      refine (cS _).mono ?_
      rintro e w2 ⟨u, rfl, hm⟩
      have HQ : Hid (StrsAt w2 u ((Lines.lns r1).map strB) ∧ Fr None' w1 w2 ∧ ∀ k, u.ownBlock = some k → w1.heap.size ≤ k ∧ k < w2.heap.size) := HM.out hm
      obtain ⟨_, _, va, c, hv, _⟩ := hm.is
      subst hv
      clear hm cS
      go_wp2
      go_ret2
      exact ⟨_, rfl, HQ.out.1, HF.out.then7 HQ.out.2.1, fun k hk => ⟨Nat.le_trans HF.out.size (HQ.out.2.2 k hk).1, (HQ.out.2.2 k hk).2⟩⟩
    | false =>
      rw [hT] at cS
      rw [if_neg Bool.false_ne_true]
      simp only [if_neg Bool.false_ne_true] at cS
      go_enter Tryz.func89, Tryz.ntmps89
      go_wp2_with fail
      refine cK.mono ?_
      rintro e w1 ⟨rfl, f1⟩
      have HF : Hid (Fr None' wi w1) := f1
      clear f1 cK
      go_wp2_with fail
      refine (cS _).mono ?_
      rintro e w2 ⟨u, rfl, hm⟩
      have HQ : Hid (Fr None' w1 w2) := ofLN hm.fr
      obtain ⟨_, _, va, c, hv, _⟩ := hm.is
      subst hv
      clear hm cS
      go_wp2
      go_ret2
      exact ⟨_, rfl, HN.out _, HF.out.then7 HQ.out, fun k hk => (by cases hk)⟩
  · rw [if_neg h0]
    go_enter Tryz.func89, Tryz.ntmps89
    go_wp2_with fail
    refine cK.mono ?_
    rintro e w1 ⟨rfl, f1⟩
    have HF : Hid (Fr None' wi w1) := f1
    clear f1 cK cS
    go_wp2
    go_ret2
    exact ⟨_, rfl, HN.out _, HF.out, fun k hk => (by cases hk)⟩

end Go.Proofs.YtdaogldmcbfmoaaGreatDoor

namespace Go.Proofs.YtdaogldmcbfmoaaGreatDoor
open Go.RowKit Go.Maps Go.WideMaps
set_option maxRecDepth 100000

/-- A line of a directory, cut: the kind, the last part, the name. -/
def cutR (r : List UInt8) : Option (Nat × List UInt8 × List UInt8) :=
  if 68 ≤ r.length ∧ 49 ≤ (r.getD 0 0).toNat ∧ (r.getD 0 0).toNat ≤ 51 ∧ r.getD 1 0 = 32 ∧ r.getD (r.length - 65) 0 = 32 then some ((r.getD 0 0).toNat - 48, (r.take (r.length - 65)).drop 2, r.drop (r.length - 64)) else none

def cutAns (r : List UInt8) : Value := match cutR r with
  | some (K, p, n) => .tuple #[.int .i64 (K : Int), .string (strB p), .string (strB n), .bool true]
  | none => .tuple #[.int .i64 0, .string ⟨#[]⟩, .string ⟨#[]⟩, .bool false]

theorem at_get (r : ByteArray) (i : Nat) (h : i < r.size) : (bl r).getD i 0 = r[i] := by
  rw [List.getD_eq_getElem?_getD]
  have e : (bl r)[i]? = some r[i] := by
    have hl : (bl r).length = r.size := Path.len_eq r
    rw [List.getElem?_eq_getElem (by omega)]
    rfl
  rw [e]
  rfl

theorem ext_one (r : ByteArray) (i : Nat) (h : i < r.size) : r.extract i (i + 1) = ⟨#[r[i]]⟩ := by
  refine Path.str_of ?_
  show (r.extract i (i + 1)).data.toList = [r[i]]
  rw [Lines.seg_list, Nat.add_sub_cancel_left]
  have hl : r.data.toList.length = r.size := Path.len_eq r
  rw [List.drop_eq_getElem_cons (by omega)]
  rfl

theorem ext_mid (r : ByteArray) (i j : Nat) : r.extract i j = strB ((r.data.toList.take j).drop i) := by
  refine Path.str_of ?_
  show (r.extract i j).data.toList = _
  rw [Lines.seg_list, List.drop_take]

theorem results_tmp4 {fn : Func} {t u v x : Tmp} (h : fn.results = #[.tmp t, .tmp u, .tmp v, .tmp x]) (tmps : Array Value) (P : Program) (w : World) :
    (results fn tmps).run P w = .ok (.tuple #[tmps.getD t undef, tmps.getD u undef, tmps.getD v undef, tmps.getD x undef]) w := by
  simp [results, h]

set_option maxHeartbeats 1000000 in
theorem tcutRow_any (r : ByteArray) (w : World) (hr : r.size < 100000000) : Calls Tryz.prog 90 #[.string r] w fun e w' => e = .returned (cutAns (bl r)) ∧ Fr None' w w' := by
  have hl : (bl r).length = r.size := Path.len_eq r
  by_cases h68 : 68 ≤ r.size
  case neg =>
    have e : cutAns (bl r) = .tuple #[.int .i64 0, .string ⟨#[]⟩, .string ⟨#[]⟩, .bool false] := by
      unfold cutAns cutR
      rw [if_neg (fun h => h68 (by have := h.1; omega))]
    rw [e]
    have i1 : (r.size : Int) - 64 - 1 < 3 := by omega
    have i2 : (r.size : Int) < 100000000 := by omega
    clear e hl hr
    go_enter Tryz.func90, Tryz.ntmps90
    go_wp2_with fail
    try simp only [Exit.inBlock, Exit.then]
    refine bodyPost_ret (results_tmp4 rfl _ _ _) rfl ?_
    exact ⟨rfl, Fr.refl _ _⟩
  case pos =>
    have h0 : 0 < r.size := by omega
    obtain ⟨a, ha⟩ : ∃ a : Nat, (r[0]'h0).toNat = a := ⟨_, rfl⟩
    obtain ⟨m, hm⟩ : ∃ m : Nat, r.size = m + 65 := ⟨r.size - 65, by omega⟩
    obtain ⟨b1, hb1⟩ : ∃ b, r[1]'(by omega) = b := ⟨_, rfl⟩
    obtain ⟨bm, hbm⟩ : ∃ b, r[m]'(by omega) = b := ⟨_, rfl⟩
    have e0 := at_get r 0 h0
    have e1 := at_get r 1 (by omega)
    have e2 := at_get r m (by omega)
    have x1 := ext_one r 1 (by omega)
    have x2 := ext_one r m (by omega)
    rw [hb1] at e1 x1
    rw [hbm] at e2 x2
    have m65 : (bl r).length - 65 = m := by omega
    have m64 : (bl r).length - 64 = m + 1 := by omega
    have i0 : (r.size : Int) - 64 - 1 = (m : Int) := by omega
    have i1 : ¬ ((m : Int) < 3) := by omega
    have i2 : (r.size : Int) < 100000000 := by omega
    have i3 : (m : Int) + 1 ≤ (r.size : Int) := by omega
    have i4 : (0 : Int) ≤ (m : Int) := by omega
    have i5 : (2 : Int) ≤ (m : Int) := by omega
    have i6 : (a : Int) < 256 := by have := UInt8.toNat_lt (r[0]'h0); omega
    have hno : ∀ (h : ¬ (49 ≤ a ∧ a ≤ 51 ∧ b1 = 32 ∧ bm = 32)), cutAns (bl r) = .tuple #[.int .i64 0, .string ⟨#[]⟩, .string ⟨#[]⟩, .bool false] := fun h => by
      unfold cutAns cutR
      rw [if_neg (fun hc => h (by rw [m65, e0, e1, e2] at hc; exact ⟨by omega, by omega, hc.2.2.2.1, hc.2.2.2.2⟩))]
    have hyes : (49 ≤ a ∧ a ≤ 51 ∧ b1 = 32 ∧ bm = 32) → cutAns (bl r) = .tuple #[.int .i64 ((a : Int) - 48), .string (r.extract 2 m), .string (r.extract (m + 1) r.size), .bool true] := fun h => by
      unfold cutAns cutR
      rw [m65, m64, e0, e1, e2, if_pos ⟨by omega, by omega, by omega, h.2.2.1, h.2.2.2⟩]
      have t1 : strB (((bl r).take m).drop 2) = r.extract 2 m := (ext_mid r 2 m).symm
      have t2 : strB ((bl r).drop (m + 1)) = r.extract (m + 1) r.size := by
        rw [ext_mid, List.take_of_length_le (show r.data.toList.length ≤ r.size from Nat.le_of_eq hl)]
        rfl
      have t3 : (((r[0]'h0).toNat - 48 : Nat) : Int) = (a : Int) - 48 := by omega
      simp only [t1, t2, t3]
    have HNO : Hid _ := hno
    have HYES : Hid _ := hyes
    clear hno hyes m65 m64 e0 e1 e2 hl hb1 hbm
    by_cases h49 : 49 ≤ a
    case neg =>
      rw [HNO.out (fun h => h49 h.1)]
      have j1 : (a : Int) < 49 := by omega
      clear x1 x2 HNO HYES hr h68 hm h49
      go_enter Tryz.func90, Tryz.ntmps90
      go_wp2_with fail
      try simp only [Exit.inBlock, Exit.then]
      refine bodyPost_ret (results_tmp4 rfl _ _ _) rfl ?_
      exact ⟨rfl, Fr.refl _ _⟩
    by_cases h51 : a ≤ 51
    case neg =>
      rw [HNO.out (fun h => h51 h.2.1)]
      have j1 : ¬ (a : Int) < 49 := by omega
      have j2 : (51 : Int) < (a : Int) := by omega
      clear x1 x2 HNO HYES hr h68 hm h49 h51
      go_enter Tryz.func90, Tryz.ntmps90
      go_wp2_with fail
      try simp only [Exit.inBlock, Exit.then]
      refine bodyPost_ret (results_tmp4 rfl _ _ _) rfl ?_
      exact ⟨rfl, Fr.refl _ _⟩
    have j1 : ¬ (a : Int) < 49 := by omega
    have j2 : ¬ (51 : Int) < (a : Int) := by omega
    obtain ⟨E1, hE1⟩ : ∃ E, r.extract 1 2 = E := ⟨_, rfl⟩
    obtain ⟨E2, hE2⟩ : ∃ E, r.extract m (m + 1) = E := ⟨_, rfl⟩
    have t1 : E1.toList = [b1] := by rw [← hE1, show r.extract 1 2 = ⟨#[b1]⟩ from x1]; exact ByteArray.toList_mk [b1]
    have t2 : E2.toList = [bm] := by rw [← hE2, x2]; exact ByteArray.toList_mk [bm]
    clear x1 x2 hr h68 hm
    by_cases h1 : b1 = 32
    case neg =>
      rw [HNO.out (fun h => h1 h.2.2.1)]
      have s1 : ¬ E1.toList = [32] := fun e => h1 (by rw [t1] at e; simpa using e)
      have s2 : (E1.toList == [32]) = false := by rw [t1]; simpa using h1
      clear t1 t2 HNO HYES h49 h51 h1
      go_enter Tryz.func90, Tryz.ntmps90
      go_wp2_with fail
      try simp only [Exit.inBlock, Exit.then]
      refine bodyPost_ret (results_tmp4 rfl _ _ _) rfl ?_
      exact ⟨rfl, Fr.refl _ _⟩
    rw [h1] at t1
    by_cases h2 : bm = 32
    case neg =>
      rw [HNO.out (fun h => h2 h.2.2.2)]
      have s1 : ¬ E2.toList = [32] := fun e => h2 (by rw [t2] at e; simpa using e)
      have s2 : (E2.toList == [32]) = false := by rw [t2]; simpa using h2
      clear t2 HNO HYES h49 h51 h1 h2
      go_enter Tryz.func90, Tryz.ntmps90
      go_wp2_with fail
      try simp only [Exit.inBlock, Exit.then]
      refine bodyPost_ret (results_tmp4 rfl _ _ _) rfl ?_
      exact ⟨rfl, Fr.refl _ _⟩
    rw [h2] at t2
    rw [HYES.out ⟨h49, h51, h1, h2⟩]
    have u1 : IntKind.u8.wrap ((a : Int) - 48) = (a : Int) - 48 := by simp [IntKind.wrap, IntKind.bits, IntKind.signed]; omega
    have u2 : IntKind.i64.wrap ((a : Int) - 48) = (a : Int) - 48 := by simp [IntKind.wrap, IntKind.bits, IntKind.signed]; omega
    clear HNO HYES h49 h51 h1 h2
    go_enter Tryz.func90, Tryz.ntmps90
    go_wp2_with fail
    go_quiet (fail)
    obtain ⟨w2, hw2⟩ : ∃ x, w.drewN nq = x := ⟨_, rfl⟩
    have f2 : Fr None' w w2 := hw2 ▸ drewF _ _
    rw [hw2]
    go_wp2_with fail
    try simp only [Exit.inBlock, Exit.then]
    refine bodyPost_ret (results_tmp4 rfl _ _ _) rfl ?_
    exact ⟨rfl, f2⟩

end Go.Proofs.YtdaogldmcbfmoaaGreatDoor

namespace Go.Proofs.YtdaogldmcbfmoaaGreatDoor
open Go.RowKit Go.Maps Go.WideMaps
set_option maxRecDepth 100000

/-- What is read of a thing: its lines, its data, the error. -/
def takeT (g : List UInt8 → List UInt8 × Int) (K : Nat) (x : List UInt8) : List (List UInt8) × List UInt8 × Int :=
  if K = 2 then ((takeL g x 116).1, [], (takeL g x 116).2) else if K = 3 then ([], (takeK g x 98).1, (takeK g x 98).2) else ([], [], 0)

/-- The thing of a line. -/
def thingR (g : List UInt8 → List UInt8 × Int) (ah : List UInt8) (K : Nat) (p n : List UInt8) : En := ⟨strB (ah ++ p), (K : Int), (takeT g K n).1.map strB, strB (takeT g K n).2.1⟩

/-- A line read: none, if it goes on, with what is there then; else the end. -/
def rdRow (g : List UInt8 → List UInt8 × Int) (d : List UInt8 → List UInt8 → List En → List En × Int) (ah : List UInt8) (r : List UInt8) (A : List En) : List En × Int :=
  match cutR r with
  | none => (A, 3)
  | some (K, p, n) => if A.length = 1024 then (A, 3) else if (takeT g K n).2.2 = 0 then (if K = 1 then d n (ah ++ p ++ [47]) (A ++ [thingR g ah K p n]) else (A ++ [thingR g ah K p n], 0)) else (A, (takeT g K n).2.2)

def rdRows (g : List UInt8 → List UInt8 × Int) (d : List UInt8 → List UInt8 → List En → List En × Int) (ah : List UInt8) : List (List UInt8) → List En → List En × Int
  | [], A => (A, 0)
  | r :: rs, A => if (rdRow g d ah r A).2 = 0 then rdRows g d ah rs (rdRow g d ah r A).1 else rdRow g d ah r A

/-- What is read of a directory of a name, behind what was read. -/
def rd (g : List UInt8 → List UInt8 × Int) : Nat → List UInt8 → List UInt8 → List En → List En × Int
  | 0, x, _, A => if (takeL g x 100).2 = 0 then (A, 3) else (A, (takeL g x 100).2)
  | f + 1, x, ah, A => if (takeL g x 100).2 = 0 then rdRows g (rd g f) ah (takeL g x 100).1 A else (A, (takeL g x 100).2)

theorem cutR_some {r : List UInt8} {K : Nat} {p n : List UInt8} (h : cutR r = some (K, p, n)) : 1 ≤ K ∧ K ≤ 3 ∧ n.length = 64 ∧ p ≠ [] ∧ p.length ≤ r.length := by
  unfold cutR at h
  split at h
  · rename_i hc
    obtain ⟨h1, h2, h3, h4, h5⟩ := hc
    simp only [Option.some.injEq, Prod.mk.injEq] at h
    obtain ⟨rfl, rfl, rfl⟩ := h
    refine ⟨by omega, by omega, by rw [List.length_drop]; omega, fun e => ?_, ?_⟩
    · have := congrArg List.length e
      rw [List.length_drop, List.length_take, List.length_nil] at this
      omega
    · rw [List.length_drop, List.length_take]
      omega
  · cases h

/-- A thing of bounded size: N tells of its path. -/
def ReadE (N : Nat) (x : En) : Prop := x.path.size ≤ N ∧ 0 < x.path.size ∧ 1 ≤ x.kind ∧ x.kind ≤ 3 ∧ (Lines.join (Lines.bs x.lines)).length < 100000 ∧ x.lines.length ≤ 100000 ∧ x.data.size < 100000

theorem join_lns_length {s : List UInt8} (h : Lines.text s = true) : (Lines.join (Lines.lns s)).length = s.length := by rw [Lines.join_lns s h]

theorem bs_strB (l : List (List UInt8)) : Lines.bs (l.map strB) = l := by
  unfold Lines.bs
  rw [List.map_map]
  exact List.map_id _

theorem lns_len (s : List UInt8) : (Lines.lns s).length ≤ s.length := Lines.lns_count_le s

theorem takeL_size {g : List UInt8 → List UInt8 × Int} (hg : ∀ x, (g x).1.length ≤ 100000) (x : List UInt8) (m : UInt8) : (Lines.join (takeL g x m).1).length < 100000 ∧ (takeL g x m).1.length ≤ 100000 := by
  have hk : (takeK g x m).1.length < 100000 := by
    have := hg x
    unfold takeK
    split
    · split
      · simp
      · rename_i c r e
        rw [e, List.length_cons] at this
        split
        · show r.length < _
          omega
        · simp
    · simp
  unfold takeL
  split
  · split
    · rename_i ht
      exact ⟨by rw [join_lns_length ht]; exact hk, Nat.le_trans (lns_len _) (Nat.le_of_lt hk)⟩
    · exact ⟨by simp [Lines.join], by simp⟩
  · exact ⟨by simp [Lines.join], by simp⟩

theorem takeK_size {g : List UInt8 → List UInt8 × Int} (hg : ∀ x, (g x).1.length ≤ 100000) (x : List UInt8) (m : UInt8) : (takeK g x m).1.length < 100000 := by
  have := hg x
  unfold takeK
  split
  · split
    · simp
    · rename_i c r e
      rw [e, List.length_cons] at this
      split
      · show r.length < _
        omega
      · simp
  · simp

theorem size_strB (l : List UInt8) : (strB l).size = l.length := by rw [← Path.len_eq (strB l)]; rfl

theorem thingR_read {g : List UInt8 → List UInt8 × Int} (hg : ∀ x, (g x).1.length ≤ 100000) {ah p n : List UInt8} {K N : Nat} (h1 : 1 ≤ K) (h3 : K ≤ 3) (hp : p ≠ []) (hN : ah.length + p.length ≤ N) : ReadE N (thingR g ah K p n) := by
  have hl : (takeT g K n).1.length ≤ 100000 ∧ (Lines.join (takeT g K n).1).length < 100000 ∧ (takeT g K n).2.1.length < 100000 := by
    unfold takeT
    split
    · exact ⟨(takeL_size hg n 116).2, (takeL_size hg n 116).1, by simp⟩
    · split
      · exact ⟨by simp, by simp [Lines.join], takeK_size hg n 98⟩
      · exact ⟨by simp, by simp [Lines.join], by simp⟩
  have hp' := List.length_pos_iff.2 hp
  refine ⟨?_, ?_, ?_, ?_, ?_, ?_, ?_⟩
  · show (strB (ah ++ p)).size ≤ N
    rw [size_strB, List.length_append]; exact hN
  · show 0 < (strB (ah ++ p)).size
    rw [size_strB, List.length_append]; omega
  · show (1 : Int) ≤ (K : Int)
    omega
  · show (K : Int) ≤ 3
    omega
  · show (Lines.join (Lines.bs ((takeT g K n).1.map strB))).length < _
    rw [bs_strB]; exact hl.2.1
  · show ((takeT g K n).1.map strB).length ≤ _
    rw [List.length_map]; exact hl.1
  · show (strB (takeT g K n).2.1).size < _
    rw [size_strB]; exact hl.2.2

/-- What a directory's reading keeps: no more than 1024 things, all of bounded size. -/
def RdOk (N : Nat) (A : List En) : Prop := A.length ≤ 1024 ∧ ∀ x ∈ A, ReadE N x

theorem RdOk.snoc {N : Nat} {A : List En} {x : En} (h : RdOk N A) (hx : ReadE N x) (hn : A.length ≠ 1024) : RdOk N (A ++ [x]) := by
  refine ⟨by rw [List.length_append, List.length_singleton]; have := h.1; omega, fun y hy => ?_⟩
  rcases List.mem_append.1 hy with e | e
  · exact h.2 y e
  · rw [List.mem_singleton.1 e]; exact hx

theorem rdRow_ok {g : List UInt8 → List UInt8 × Int} (hg : ∀ x, (g x).1.length ≤ 100000) {d : List UInt8 → List UInt8 → List En → List En × Int} {N : Nat} {ah r : List UInt8} (hr : ah.length + r.length ≤ N) (hd : ∀ n p A, p.length ≤ ah.length + r.length + 1 → RdOk N A → RdOk N (d n p A).1) {A : List En} (hA : RdOk N A) : RdOk N (rdRow g d ah r A).1 := by
  unfold rdRow
  split
  · exact hA
  · rename_i K p n hc
    obtain ⟨h1, h2, h3, h4, h5⟩ := cutR_some hc
    split
    · exact hA
    · rename_i hne
      have hs := hA.snoc (thingR_read hg (n := n) h1 h2 h4 (by omega : ah.length + p.length ≤ N)) hne
      split
      · split
        · exact hd _ _ _ (by simp only [List.length_append, List.length_cons, List.length_nil]; omega) hs
        · exact hs
      · exact hA

theorem rdRows_ok {g : List UInt8 → List UInt8 × Int} (hg : ∀ x, (g x).1.length ≤ 100000) {d : List UInt8 → List UInt8 → List En → List En × Int} {N : Nat} {ah : List UInt8} : ∀ {rs : List (List UInt8)} {A : List En}, (∀ r ∈ rs, ah.length + r.length ≤ N) → (∀ n p A, p.length ≤ ah.length + 100001 → RdOk N A → RdOk N (d n p A).1) → (∀ r ∈ rs, r.length ≤ 100000) → RdOk N A → RdOk N (rdRows g d ah rs A).1
  | [], _, _, _, _, hA => hA
  | r :: rs, A, h1, h2, h3, hA => by
    have hr := rdRow_ok hg (d := d) (h1 r (List.mem_cons_self ..)) (fun n p A hp => h2 n p A (by have := h3 r (List.mem_cons_self ..); omega)) hA
    unfold rdRows
    split
    · exact rdRows_ok hg (fun r hr => h1 r (List.mem_cons_of_mem _ hr)) h2 (fun r hr => h3 r (List.mem_cons_of_mem _ hr)) hr
    · exact hr

theorem join_mem {l : List (List UInt8)} {r : List UInt8} (h : r ∈ l) : r.length + 1 ≤ (Lines.join l).length := by
  induction l with
  | nil => cases h
  | cons y l ih =>
    have e : Lines.join (y :: l) = (y ++ [10]) ++ Lines.join l := by simp [Lines.join]
    rw [e]
    simp only [List.length_append, List.length_cons, List.length_nil]
    rcases List.mem_cons.1 h with e | e
    · subst e; omega
    · have := ih e; omega

theorem takeL_row {g : List UInt8 → List UInt8 × Int} (hg : ∀ x, (g x).1.length ≤ 100000) {x : List UInt8} {m : UInt8} {r : List UInt8} (hr : r ∈ (takeL g x m).1) : r.length < 100000 := by
  have := join_mem hr
  have := (takeL_size hg x m).1
  omega

theorem rd_ok {g : List UInt8 → List UInt8 × Int} (hg : ∀ x, (g x).1.length ≤ 100000) {N : Nat} (f : Nat) : ∀ (x ah : List UInt8) (A : List En), ah.length + (f + 1) * 100001 ≤ N → RdOk N A → RdOk N (rd g f x ah A).1 := by
  induction f with
  | zero =>
    intro x ah A _ hA
    rw [rd]
    split <;> exact hA
  | succ f ih =>
    intro x ah A hN hA
    have hN1 : ah.length + 100001 + (f + 1) * 100001 ≤ N := by
      rw [Nat.succ_mul] at hN
      omega
    rw [rd]
    split
    · exact rdRows_ok hg (fun r hr => by have := takeL_row hg hr; omega) (fun n p A hp => ih n p A (Nat.le_trans (Nat.add_le_add_right hp _) hN1)) (fun r hr => Nat.le_of_lt (takeL_row hg hr)) hA
    · exact hA

end Go.Proofs.YtdaogldmcbfmoaaGreatDoor

namespace Go.Proofs.YtdaogldmcbfmoaaGreatDoor
open Go.RowKit
set_option maxRecDepth 100000

def insE (x : En) : List En → List En
  | [] => [x]
  | y :: r => if bl x.path < bl y.path then x :: y :: r else y :: insE x r

def sortE (L : List En) : List En := L.foldl (fun o x => insE x o) []

theorem insE_perm (x : En) : ∀ o : List En, (insE x o).Perm (x :: o)
  | [] => List.Perm.refl _
  | y :: r => by
    rw [insE]
    split
    · exact List.Perm.refl _
    · exact ((insE_perm x r).cons y).trans (List.Perm.swap x y r)

theorem foldE_perm : ∀ (L o : List En), (L.foldl (fun o x => insE x o) o).Perm (o ++ L)
  | [], o => by rw [List.append_nil]; exact List.Perm.refl _
  | x :: L, o => by
    refine (foldE_perm L (insE x o)).trans (((insE_perm x o).append_right L).trans ?_)
    exact List.perm_middle.symm

theorem sortE_perm (L : List En) : (sortE L).Perm L := foldE_perm L []

/-- Paths that do not fall. -/
def Weak (L : List En) : Prop := L.Pairwise (fun a b => ¬ bl b.path < bl a.path)

theorem insE_weak (x : En) : ∀ {o : List En}, Weak o → Weak (insE x o)
  | [], _ => List.pairwise_singleton ..
  | y :: r, h => by
    obtain ⟨h1, h2⟩ := List.pairwise_cons.1 h
    rw [insE]
    split
    · rename_i hxy
      refine List.pairwise_cons.2 ⟨fun z hz => ?_, h⟩
      rcases List.mem_cons.1 hz with rfl | hz
      · exact fun e => List.lt_irrefl _ (List.lt_trans hxy e)
      · exact fun e => h1 z hz (List.lt_trans e hxy)
    · rename_i hxy
      refine List.pairwise_cons.2 ⟨fun z hz => ?_, insE_weak x h2⟩
      rcases List.mem_cons.1 ((insE_perm x r).mem_iff.1 hz) with rfl | hz
      · exact hxy
      · exact h1 z hz

theorem sortE_weak (L : List En) : Weak (sortE L) := by
  unfold sortE
  have key : ∀ (L o : List En), Weak o → Weak (L.foldl (fun o x => insE x o) o) := fun L => by
    induction L with
    | nil => exact fun o h => h
    | cons x L ih => exact fun o h => ih _ (insE_weak x h)
  exact key L [] List.Pairwise.nil

def Strict (L : List En) : Prop := L.Pairwise (fun a b => bl a.path < bl b.path)

theorem right_strict {L : List En} (h : treeRight L = true) : Strict L := by
  have h1 := ((treeRight_iff L).1 h).2
  refine List.pairwise_iff_getElem.2 fun i j hi hj hij => rising (fun j hj => ?_) i j hi hj hij
  have h2 := h1 j hj
  unfold okAt at h2
  simp only [Bool.and_eq_true] at h2
  exact h2.1.1.2

theorem weak_unique : ∀ {A B : List En}, A.Perm B → Strict A → Weak B → A = B
  | [], B, hp, _, _ => (List.Perm.nil_eq hp)
  | a :: A, [], hp, _, _ => by have := hp.length_eq; simp at this
  | a :: A, b :: B, hp, hA, hB => by
    obtain ⟨a1, a2⟩ := List.pairwise_cons.1 hA
    obtain ⟨b1, b2⟩ := List.pairwise_cons.1 hB
    have e : a = b := Classical.byContradiction fun hne => by
      have hb : b ∈ A := by
        rcases List.mem_cons.1 (hp.mem_iff.2 (List.mem_cons_self ..)) with e | e
        · exact absurd e.symm hne
        · exact e
      have ha : a ∈ B := by
        rcases List.mem_cons.1 (hp.mem_iff.1 (List.mem_cons_self ..)) with e | e
        · exact absurd e hne
        · exact e
      exact b1 a ha (a1 b hb)
    subst e
    rw [weak_unique hp.cons_inv a2 b2]

/-- Of things sorted by their paths it does not matter by whom. -/
theorem sorted_same {L A : List En} (hp : A.Perm L) (hA : Weak A) : treeRight A = treeRight (sortE L) ∧ (treeRight A = true → A = sortE L) := by
  have hq : A.Perm (sortE L) := hp.trans (sortE_perm L).symm
  have h1 : treeRight A = true → A = sortE L := fun h => weak_unique hq (right_strict h) (sortE_weak L)
  refine ⟨?_, h1⟩
  cases e : treeRight A with
  | true => rw [← h1 e, e]
  | false =>
    cases e2 : treeRight (sortE L) with
    | false => rfl
    | true =>
      have := weak_unique hq.symm (right_strict e2) hA
      rw [this, e] at e2
      cases e2

/-- What Load answers: the things, and the error. -/
def loadL (g : List UInt8 → List UInt8 × Int) (N : Nat) (x : List UInt8) : List En × Int :=
  if (rd g 9 x [] []).2 = 0 then (if treeRight (sortE (rd g 9 x [] []).1) = true ∧ lastName (keptL (sortE (rd g 9 x [] []).1) (N + 1) []) = x then (sortE (rd g 9 x [] []).1, 0) else ([], 3)) else ([], (rd g 9 x [] []).2)

theorem cmp_lt : ∀ (a b : List UInt8), Lib.compareBytes a b < 0 ↔ a < b
  | [], [] => by simp [Lib.compareBytes]
  | [], _ :: _ => by simp [Lib.compareBytes]
  | _ :: _, [] => by simp [Lib.compareBytes]
  | a :: x, b :: y => by
    rw [Lib.compareBytes, List.cons_lt_cons_iff]
    by_cases h1 : a < b
    · simp [h1]
    · by_cases h2 : b < a
      · rw [if_neg h1, if_pos h2]
        refine ⟨fun e => by omega, fun e => ?_⟩
        rcases e with e | ⟨e, _⟩
        · exact absurd e h1
        · subst e; exact absurd h2 h1
      · rw [if_neg h1, if_neg h2, cmp_lt x y]
        have e : a = b := UInt8.le_antisymm (UInt8.not_lt.1 h2) (UInt8.not_lt.1 h1)
        subst e
        exact ⟨fun h => Or.inr ⟨rfl, h⟩, fun h => by
          rcases h with h | ⟨_, h⟩
          · exact absurd h h1
          · exact h⟩

end Go.Proofs.YtdaogldmcbfmoaaGreatDoor

namespace Go.Proofs.YtdaogldmcbfmoaaGreatDoor
open Go.RowKit
set_option maxRecDepth 100000

/-- v is a row of the things L, in a block of its own from base on; their lines lie in other blocks, and not in that of the box bL. -/
structure OwnX (base bL : Nat) (w : World) (v : Value) (L : List En) (V : List Value) : Prop where
  len : V.length = L.length
  row : w.ownsRow base 38 4 v L.length (ecells L V)
  str : ∀ (k : Nat) (x : En) (vl : Value), L[k]? = some x → V[k]? = some vl → StrsAt w vl x.lines
  off : ∀ vl ∈ V, ∀ k, vl.ownBlock = some k → k < w.heap.size ∧ k ≠ bL ∧ v.ownBlock ≠ some k

theorem OwnX.nil (base bL : Nat) (w : World) : OwnX base bL w (.slice none 0 0) [] [] := ⟨rfl, World.ownsRow_nil w _ _ 4, fun k x vl e => by simp at e, fun vl e => by cases e⟩

/-- What turns neither the row nor the lines keeps it. -/
theorem OwnX.fr {base bL : Nat} {w w' : World} {v : Value} {L : List En} {V : List Value} (h : OwnX base bL w v L V) {M : Nat → Prop} (f : Fr M w w') (hm : ∀ k, v.ownBlock = some k → ¬ M k) (hl : ∀ vl ∈ V, ∀ k, vl.ownBlock = some k → ¬ M k) : OwnX base bL w' v L V :=
  ⟨h.len, f.row h.row hm, fun k x vl e1 e2 => (h.str k x vl e1 e2).fr f (hl vl (List.mem_of_getElem? e2)), fun vl hv k hk => by
    obtain ⟨h1, h2, h3⟩ := h.off vl hv k hk
    exact ⟨Nat.lt_of_lt_of_le h1 f.size, h2, h3⟩⟩

theorem OwnX.kept {base bL : Nat} {w w' : World} {v : Value} {L : List En} {V : List Value} (h : OwnX base bL w v L V) (f : Fr None' w w') : OwnX base bL w' v L V := h.fr f (fun _ _ e => e) (fun _ _ _ _ e => e)

theorem OwnX.slice {base bL : Nat} {w : World} {v : Value} {L : List En} {V : List Value} (h : OwnX base bL w v L V) : ∃ va c, v = .slice va L.length c ∧ L.length ≤ c ∧ (va = none → c = 0) ∧ EntsAt w va L ∧ ∀ k, v.ownBlock = some k → base ≤ k ∧ k < w.heap.size :=
  (⟨h.len, h.row, h.str⟩ : OwnE base w w v L V).slice (Fr.refl _ _)

theorem OwnX.cellsOf {base bL : Nat} {w : World} {v : Value} {L : List En} {V : List Value} (h : OwnX base bL w v L V) {k : Nat} (hk : v.ownBlock = some k) : ∃ c f, w.heap[k]? = some (.cells c 38 f) := by
  rcases h.row.2 with ⟨hv, _⟩ | ⟨g, cap, cur, hv, _, hh, _⟩
  · rw [hv] at hk; cases hk
  · rw [hv] at hk; cases hk
    exact ⟨_, _, hh⟩

/-- 'append(l, x)', l a row of things of the call's own. -/
theorem OwnX.append {base bL : Nat} {w : World} {v : Value} {L : List En} {V : List Value} (h : OwnX base bL w v L V) {b : Nat} {x : En} {vl : Value} (hb : w.heap[b]? = some (.cells #[.string x.path, .int .i64 x.kind, vl, .string x.data] 38 (0, 0))) (h1 : vl.oneCell' = true) (hs : StrsAt w vl x.lines) (hoff : ∀ k, vl.ownBlock = some k → k < w.heap.size ∧ k ≠ bL ∧ v.ownBlock ≠ some k) (hn : L.length ≤ 100000) (hbase : base ≤ w.heap.size) :
    ∃ g c w', (Builtin.append_ #[22, 22] 22 #[v, .slice (some ⟨b, 0, none⟩) 1 1]).run Tryz.prog w = .ok (.slice (some ⟨g, 0, none⟩) (L.length + 1) c) w' ∧ OwnX base bL w' (.slice (some ⟨g, 0, none⟩) (L.length + 1) c) (L ++ [x]) (V ++ [vl]) ∧ Fr (fun k => v.ownBlock = some k) w w' ∧ (v.ownBlock = some g ∨ g = w.heap.size) := by
  obtain ⟨g, c, w', hr, hO, hF, hg⟩ := (⟨h.len, h.row, h.str⟩ : OwnE base w w v L V).append hb h1 hs hn hbase
  have hoffs : ∀ u ∈ V ++ [vl], ∀ k, u.ownBlock = some k → k < w.heap.size ∧ k ≠ bL ∧ v.ownBlock ≠ some k := fun u hu k hk => by
    rcases List.mem_append.1 hu with e | e
    · exact h.off u e k hk
    · rw [List.mem_singleton.1 e] at hk
      exact hoff k hk
  refine ⟨g, c, w', hr, ⟨hO.len, hO.row, fun k y vy e1 e2 => ?_, fun u hu k hk => ?_⟩, hF, hg⟩
  · exact (hO.str k y vy e1 e2).fr hF (fun i hi => (hoffs vy (List.mem_of_getElem? e2) i hi).2.2)
  · obtain ⟨h1, h2, h3⟩ := hoffs u hu k hk
    refine ⟨Nat.lt_of_lt_of_le h1 hF.size, h2, fun e => ?_⟩
    have e' : g = k := by cases e; rfl
    subst e'
    rcases hg with hg | hg
    · exact h3 hg
    · omega

end Go.Proofs.YtdaogldmcbfmoaaGreatDoor

namespace Go.Proofs.YtdaogldmcbfmoaaGreatDoor
open Go.RowKit Go.Maps Go.WideMaps
set_option maxRecDepth 100000

/-- While a tree is read: the disk S lives at p, the boxes bd, bL, bN hold it, the things A that were read, and the function that reads. -/
structure RdAt (w0 : World) (p : Nat) (S : St) (bd bL bN : Nat) (w : World) (v : Value) (A : List En) (V : List Value) : Prop where
  live : Live w0 w p S
  cd : w.cell? ⟨bd, 0, none⟩ = some (.pointer (some ⟨p, 0, none⟩))
  cL : w.heap[bL]? = some (.cells #[v] 22 (0, 0))
  cN : w.cell? ⟨bN, 0, none⟩ = some (.func (.func 88) #[] #[.pointer (some ⟨bd, 0, none⟩), .pointer (some ⟨bL, 0, none⟩), .pointer (some ⟨bN, 0, none⟩)])
  own : OwnX w0.heap.size bL w v A V
  ne : bd ≠ bL ∧ bN ≠ bL ∧ bd < w.heap.size ∧ bN < w.heap.size ∧ ∀ k, v.ownBlock = some k → k ≠ bd ∧ k ≠ bL ∧ k ≠ bN
  lo : w0.heap.size ≤ bL

/-- The blocks that turn while a tree is read. -/
def MR (bL : Nat) (v : Value) (k : Nat) : Prop := k = bL ∨ v.ownBlock = some k

theorem Live.keptX {w0 w w' : World} {p : Nat} {S : St} (h : Live w0 w p S) {X : Nat → Prop} (f : Fr X w w') (hX : ∀ k, X k → Foreign w k ∧ w0.heap.size ≤ k) : Live w0 w' p S := by
  obtain ⟨M, h1, h2, h3⟩ := h
  exact ⟨M, h1.keptX f (fun k hk => (hX k hk).1), h2.trans f (fun k hk => Or.inr (hX k hk).2), h3⟩

section
variable {w0 : World} {p : Nat} {S : St} {bd bL bN : Nat} {w w' : World} {v : Value} {A : List En} {V : List Value}

theorem RdAt.fresh (h : RdAt w0 p S bd bL bN w v A V) (f : Fr None' w w') : RdAt w0 p S bd bL bN w' v A V :=
  ⟨h.live.fresh f, f.keepCell h.cd (fun e => e), f.at h.cL (fun e => e), f.keepCell h.cN (fun e => e), h.own.kept f, ⟨h.ne.1, h.ne.2.1, Nat.lt_of_lt_of_le h.ne.2.2.1 f.size, Nat.lt_of_lt_of_le h.ne.2.2.2.1 f.size, h.ne.2.2.2.2⟩, h.lo⟩

theorem foreignE {c : Array Value} {k : Nat} {f : Nat × Nat} (h : w.heap[k]? = some (.cells c 38 f)) : Foreign w k := ⟨c, _, f, h, by decide, by decide, by decide, by decide, fun e => by cases e⟩
theorem foreignL {c : Array Value} {k : Nat} {f : Nat × Nat} (h : w.heap[k]? = some (.cells c 22 f)) : Foreign w k := ⟨c, _, f, h, by decide, by decide, by decide, by decide, fun e => by cases e⟩

/-- A thing more, and the box set. -/
theorem RdAt.next (h : RdAt w0 p S bd bL bN w v A V) {b : Nat} {x : En} {vl : Value} (hb : w.heap[b]? = some (.cells #[.string x.path, .int .i64 x.kind, vl, .string x.data] 38 (0, 0))) (h1 : vl.oneCell' = true) (hs : StrsAt w vl x.lines) (hoff : ∀ k, vl.ownBlock = some k → k < w.heap.size ∧ k ≠ bL ∧ v.ownBlock ≠ some k) (hn : A.length ≤ 1024) :
    ∃ g c w2, (Builtin.append_ #[22, 22] 22 #[v, .slice (some ⟨b, 0, none⟩) 1 1]).run Tryz.prog w = .ok (.slice (some ⟨g, 0, none⟩) (A.length + 1) c) w2 ∧ w2.heap[bL]? = some (.cells #[v] 22 (0, 0)) ∧
      RdAt w0 p S bd bL bN (w2.setCell ⟨bL, 0, none⟩ (.slice (some ⟨g, 0, none⟩) (A.length + 1) c)) (.slice (some ⟨g, 0, none⟩) (A.length + 1) c) (A ++ [x]) (V ++ [vl]) ∧ Fr (MR bL v) w (w2.setCell ⟨bL, 0, none⟩ (.slice (some ⟨g, 0, none⟩) (A.length + 1) c)) ∧ (v.ownBlock = some g ∨ g = w.heap.size) ∧ Fr (fun k => v.ownBlock = some k) w w2 := by
  have hw0 : w0.heap.size ≤ w.heap.size := by
    obtain ⟨M, _, h2, _⟩ := h.live
    exact h2.size
  obtain ⟨g, c, w2, hr, hO, hF, hg⟩ := h.own.append hb h1 hs hoff (by omega) hw0
  have hlt : bL < w.heap.size := lt_of_some h.cL
  have nL : ¬ v.ownBlock = some bL := fun e => (h.ne.2.2.2.2 bL e).2.1 rfl
  have nd : ¬ v.ownBlock = some bd := fun e => (h.ne.2.2.2.2 bd e).1 rfl
  have nN : ¬ v.ownBlock = some bN := fun e => (h.ne.2.2.2.2 bN e).2.2 rfl
  have gn : g ≠ bd ∧ g ≠ bL ∧ g ≠ bN := by
    rcases hg with hg | hg
    · exact h.ne.2.2.2.2 g hg
    · have := h.ne.2.2.1; have := h.ne.2.2.2.1
      exact ⟨by omega, by omega, by omega⟩
  obtain ⟨va, ca, hv, _, _, _, hbk⟩ := h.own.slice
  have cL2 : w2.heap[bL]? = some (.cells #[v] 22 (0, 0)) := hF.at h.cL nL
  have Fs : Fr (fun k => k = bL) w2 (w2.setCell ⟨bL, 0, none⟩ (.slice (some ⟨g, 0, none⟩) (A.length + 1) c)) := Fr.setCell (M := fun k => k = bL) w2 (a := ⟨bL, 0, none⟩) rfl _
  refine ⟨g, c, w2, hr, cL2, ⟨?_, ?_, ?_, ?_, ?_, ⟨h.ne.1, h.ne.2.1, ?_, ?_, fun k hk => ?_⟩, h.lo⟩, ?_, hg, hF⟩
  · refine (h.live.keptX hF (fun k hk => ?_)).keptX Fs (fun k hk => ?_)
    · obtain ⟨c', f', hc'⟩ := h.own.cellsOf hk
      exact ⟨foreignE hc', (hbk k hk).1⟩
    · rw [hk]
      exact ⟨foreignL cL2, h.lo⟩
  · exact Fs.keepCell (hF.keepCell h.cd nd) h.ne.1
  · rw [heap_setCell_same cL2]
    rfl
  · exact Fs.keepCell (hF.keepCell h.cN nN) h.ne.2.1
  · exact hO.fr Fs (fun k hk e => by cases hk; exact gn.2.1 e) (fun u hu k hk e => (hO.off u hu k hk).2.1 e)
  · exact Nat.lt_of_lt_of_le (Nat.lt_of_lt_of_le h.ne.2.2.1 hF.size) Fs.size
  · exact Nat.lt_of_lt_of_le (Nat.lt_of_lt_of_le h.ne.2.2.2.1 hF.size) Fs.size
  · cases hk
    exact gn
  · exact (hF.mono (fun k hk => Or.inr hk)).trans Fs (fun k hk => Or.inl (Or.inl hk))
end

/-- What reading a directory hands back, and leaves. -/
def RdPost (w0 : World) (p : Nat) (S : St) (bd bL bN : Nat) (r : List En × Int) (v : Value) (w : World) (e : Ending) (w' : World) : Prop :=
  ∃ v' V', e = .returned (.int .i64 r.2) ∧ RdAt w0 p S bd bL bN w' v' r.1 V' ∧ Fr (MR bL v) w w' ∧ ∀ k, v'.ownBlock = some k → v.ownBlock = some k ∨ w.heap.size ≤ k

end Go.Proofs.YtdaogldmcbfmoaaGreatDoor

namespace Go.Proofs.YtdaogldmcbfmoaaGreatDoor
open Go.RowKit Go.Maps Go.WideMaps
set_option maxRecDepth 100000

/-- What readThing hands back. -/
def ThPost (S : St) (K : Nat) (P x : ByteArray) (w : World) (e : Ending) (w' : World) : Prop :=
  ∃ va n c, e = .returned (.tuple #[.agg #[.string P, .int .i64 (K : Int), .slice va n c, .string (strB (takeT S.getB K (bl x)).2.1)], .int .i64 (takeT S.getB K (bl x)).2.2]) ∧ StrsAt w' (.slice va n c) ((takeT S.getB K (bl x)).1.map strB) ∧ Fr None' w w' ∧ ∀ k, (Value.slice va n c).ownBlock = some k → w.heap.size ≤ k ∧ k < w'.heap.size

set_option maxHeartbeats 2000000 in
theorem treadThing_any {w wi : World} {p : Nat} {S : St} (h : Live w wi p S) (P x : ByteArray) (K : Nat) (h1 : 1 ≤ K) (h3 : K ≤ 3) (hx : x.size ≤ maxLen) (hu : used S.F < 1099511627776) (hb : ∀ t ∈ S.F, t.b.length ≤ 100000) :
    Calls Tryz.prog 91 #[.pointer (some ⟨p, 0, none⟩), .agg #[.string P, .int .i64 (K : Int), .slice none 0 0, .string ⟨#[]⟩], .string x] wi (ThPost S K P x wi) := by
  unfold ThPost takeT
  obtain ⟨z, hz⟩ : ∃ z : Int, (K : Int) = z := ⟨_, rfl⟩
  simp only [hz]
  obtain ⟨w1, hw1⟩ : ∃ w1, (wi.alloc (.cells #[.string P, .int .i64 z, .slice none 0 0, .string ⟨#[]⟩] 38)).alloc (.cells #[.string ⟨#[]⟩, .int .i64 0, .slice none 0 0, .string ⟨#[]⟩] 38) = w1 := ⟨_, rfl⟩
  have F1 : Fr None' wi w1 := hw1 ▸ (Fr.alloc None' wi _).then7 (Fr.alloc None' _ _)
  have s1 : w1.heap.size = wi.heap.size + 2 := by rw [← hw1]; simp
  have hX : w1.heap[wi.heap.size]? = some (.cells #[.string P, .int .i64 z, .slice none 0 0, .string ⟨#[]⟩] 38) := by
    rw [← hw1, heap_alloc_old _ _ _ (by simp)]
    exact heap_alloc_new wi _
  have hZ : w1.heap[wi.heap.size + 1]? = some (.cells #[.string ⟨#[]⟩, .int .i64 0, .slice none 0 0, .string ⟨#[]⟩] 38) := by
    rw [← hw1]
    have h2 := heap_alloc_new (wi.alloc (.cells #[.string P, .int .i64 z, .slice none 0 0, .string ⟨#[]⟩] 38)) (.cells #[.string ⟨#[]⟩, .int .i64 0, .slice none 0 0, .string ⟨#[]⟩] 38)
    simpa using h2
  have hK : K = 1 ∨ K = 2 ∨ K = 3 := by omega
  rcases hK with rfl | rfl | rfl
  · have hz' : z = 1 := by omega
    subst hz'
    have HF : Hid (Fr None' wi w1 ∧ w1.heap.size = wi.heap.size + 2) := ⟨F1, s1⟩
    have HZ : Hid _ := hZ
    obtain ⟨b0, b1, b2, b3, bz⟩ := cell4_at hX
    obtain ⟨c0, c1, c2, c3, cz⟩ := cell4_at hZ
    clear hz h hu hb hx h1 h3 F1 s1 hX hZ
    rw [if_neg (by decide), if_neg (by decide)]
    go_enter Tryz.func91, Tryz.ntmps91
    go_wp2_with fail
    have hld := loadE (store4 (y0 := .string P) (y1 := .int .i64 1) (y2 := .slice none 0 0) (y3 := .string ⟨#[]⟩) HZ.out)
    refine bodyPost_ret (v := .tuple #[.agg #[.string P, .int .i64 1, .slice none 0 0, .string ⟨#[]⟩], .int .i64 0]) (by rw [results_cell_tmp rfl]; simp [asAddr, Result.andThen, hld]) rfl ?_
    have Fs := stores4 (b := wi.heap.size + 1) w1 (.string P) (.int .i64 1) (.slice none 0 0) (.string ⟨#[]⟩)
    exact ⟨none, 0, 0, rfl, ⟨none, 0, rfl, fun _ => rfl, Nat.le_refl _, fun j x e => by simp at e⟩, HF.out.1.trans Fs (fun k e => Or.inr (by have e' : k = wi.heap.size + 1 := e; omega)), fun k hk => by cases hk⟩
  · have hz' : z = 2 := by omega
    subst hz'
    have cL := tkeptLines_any (h.fresh F1) x 116 hx hu hb
    rw [if_pos rfl]
    obtain ⟨r1, hr1⟩ : ∃ r, (takeL S.getB (bl x) 116).1 = r := ⟨_, rfl⟩
    obtain ⟨r2, hr2⟩ : ∃ r, (takeL S.getB (bl x) 116).2 = r := ⟨_, rfl⟩
    rw [hr1, hr2] at cL
    simp only [hr1, hr2]
    have HF : Hid (Fr None' wi w1 ∧ w1.heap.size = wi.heap.size + 2) := ⟨F1, s1⟩
    have HX : Hid _ := hX
    have HZ : Hid _ := hZ
    obtain ⟨b0, b1, b2, b3, bz⟩ := cell4_at hX
    clear hz h hu hb hx h1 h3 F1 s1 hr1 hr2 hX hZ
    go_enter Tryz.func91, Tryz.ntmps91
    go_wp2_with fail
    refine cL.mono ?_
    rintro e w2 ⟨v, rfl, hs, F2, ho⟩
    obtain ⟨va, c, rfl, _⟩ := id hs
    have HS : Hid (StrsAt w2 (.slice va (r1.map strB).length c) (r1.map strB) ∧ Fr None' w1 w2 ∧ ∀ k, (Value.slice va (r1.map strB).length c).ownBlock = some k → w1.heap.size ≤ k ∧ k < w2.heap.size) := ⟨hs, F2, ho⟩
    obtain ⟨n, hn⟩ : ∃ n, (r1.map strB).length = n := ⟨_, rfl⟩
    rw [hn] at HS ⊢
    have hX2 := F2.at HX.out (fun e => e)
    have hZ2 := F2.at HZ.out (fun e => e)
    obtain ⟨b0, b1, b2, b3, bz⟩ := cell4_at hX2
    obtain ⟨c0, c1, c2, c3, cz⟩ := cell4_at hZ2
    obtain ⟨w3, hw3⟩ : ∃ w3, w2.setCell ⟨wi.heap.size, 2, none⟩ (.slice va n c) = w3 := ⟨_, rfl⟩
    have hne : wi.heap.size + 1 ≠ wi.heap.size := by omega
    have Fs : Fr (fun k => k = wi.heap.size) w2 w3 := hw3 ▸ Fr.setCell (M := fun k => k = wi.heap.size) w2 (a := ⟨wi.heap.size, 2, none⟩) rfl _
    have hX3 : w3.heap[wi.heap.size]? = some (.cells #[.string P, .int .i64 2, .slice va n c, .string ⟨#[]⟩] 38) := by rw [← hw3, heap_setCell_same hX2]; rfl
    obtain ⟨e0, e1, e2, e3, ez⟩ := cell4_at hX3
    obtain ⟨f0, f1, f2, f3, fz⟩ := cell4_at (Fs.at hZ2 hne)
    have HZ3 : Hid _ := Fs.at hZ2 hne
    have HFs : Hid (Fr (fun k => k = wi.heap.size) w2 w3) := Fs
    clear ho cL hs F2 hn hX2 hZ2 HX HZ Fs hne hX3
    go_wp2_with fail
    have hld := loadE (store4 (y0 := .string P) (y1 := .int .i64 2) (y2 := .slice va n c) (y3 := .string ⟨#[]⟩) HZ3.out)
    refine bodyPost_ret (v := .tuple #[.agg #[.string P, .int .i64 2, .slice va n c, .string ⟨#[]⟩], .int .i64 r2]) (by rw [results_cell_tmp rfl]; simp [asAddr, Result.andThen, hld]) rfl ?_
    have Fq := stores4 (b := wi.heap.size + 1) w3 (.string P) (.int .i64 2) (.slice va n c) (.string ⟨#[]⟩)
    have s1 := HF.out.2
    have Fa : Fr (fun k => k = wi.heap.size ∨ k = wi.heap.size + 1) w2 _ := (HFs.out.mono (fun k e => Or.inl e)).trans Fq (fun k e => Or.inl (Or.inr e))
    refine ⟨va, n, c, rfl, HS.out.1.fr Fa (fun k hk e => ?_), (HF.out.1.then7 HS.out.2.1).trans Fa (fun k e => Or.inr (by rcases e with e | e <;> omega)), fun k hk => ⟨Nat.le_trans HF.out.1.size (HS.out.2.2 k hk).1, Nat.lt_of_lt_of_le (HS.out.2.2 k hk).2 Fa.size⟩⟩
    have := (HS.out.2.2 k hk).1
    rcases e with e | e <;> omega
  · have hz' : z = 3 := by omega
    subst hz'
    have cL := tkept_any (h.fresh F1) x 98 hx hu hb
    rw [if_neg (by decide), if_pos rfl]
    obtain ⟨r1, hr1⟩ : ∃ r, (takeK S.getB (bl x) 98).1 = r := ⟨_, rfl⟩
    obtain ⟨r2, hr2⟩ : ∃ r, (takeK S.getB (bl x) 98).2 = r := ⟨_, rfl⟩
    rw [hr1, hr2] at cL
    simp only [hr1, hr2]
    have HF : Hid (Fr None' wi w1 ∧ w1.heap.size = wi.heap.size + 2) := ⟨F1, s1⟩
    have HX : Hid _ := hX
    have HZ : Hid _ := hZ
    obtain ⟨D, hD⟩ : ∃ D, strB r1 = D := ⟨_, rfl⟩
    rw [hD] at cL
    simp only [hD]
    obtain ⟨b0, b1, b2, b3, bz⟩ := cell4_at hX
    clear hz h hu hb hx h1 h3 F1 s1 hr1 hr2 hD hX hZ
    go_enter Tryz.func91, Tryz.ntmps91
    go_wp2_with fail
    refine cL.mono ?_
    rintro e w2 ⟨rfl, F2⟩
    have HS : Hid (Fr None' w1 w2) := F2
    have hX2 := F2.at HX.out (fun e => e)
    have hZ2 := F2.at HZ.out (fun e => e)
    obtain ⟨b0, b1, b2, b3, bz⟩ := cell4_at hX2
    obtain ⟨c0, c1, c2, c3, cz⟩ := cell4_at hZ2
    obtain ⟨w3, hw3⟩ : ∃ w3, w2.setCell ⟨wi.heap.size, 3, none⟩ (.string D) = w3 := ⟨_, rfl⟩
    have hne : wi.heap.size + 1 ≠ wi.heap.size := by omega
    have Fs : Fr (fun k => k = wi.heap.size) w2 w3 := hw3 ▸ Fr.setCell (M := fun k => k = wi.heap.size) w2 (a := ⟨wi.heap.size, 3, none⟩) rfl _
    have hX3 : w3.heap[wi.heap.size]? = some (.cells #[.string P, .int .i64 3, .slice none 0 0, .string D] 38) := by rw [← hw3, heap_setCell_same hX2]; rfl
    obtain ⟨e0, e1, e2, e3, ez⟩ := cell4_at hX3
    obtain ⟨f0, f1, f2, f3, fz⟩ := cell4_at (Fs.at hZ2 hne)
    have HZ3 : Hid _ := Fs.at hZ2 hne
    have HFs : Hid (Fr (fun k => k = wi.heap.size) w2 w3) := Fs
    clear cL F2 hX2 hZ2 HX HZ Fs hne hX3
    go_wp2_with fail
    have hld := loadE (store4 (y0 := .string P) (y1 := .int .i64 3) (y2 := .slice none 0 0) (y3 := .string D) HZ3.out)
    refine bodyPost_ret (v := .tuple #[.agg #[.string P, .int .i64 3, .slice none 0 0, .string D], .int .i64 r2]) (by rw [results_cell_tmp rfl]; simp [asAddr, Result.andThen, hld]) rfl ?_
    have Fq := stores4 (b := wi.heap.size + 1) w3 (.string P) (.int .i64 3) (.slice none 0 0) (.string D)
    have s1 := HF.out.2
    have Fa : Fr (fun k => k = wi.heap.size ∨ k = wi.heap.size + 1) w2 _ := (HFs.out.mono (fun k e => Or.inl e)).trans Fq (fun k e => Or.inl (Or.inr e))
    exact ⟨none, 0, 0, rfl, ⟨none, 0, rfl, fun _ => rfl, Nat.le_refl _, fun j x e => by simp at e⟩, (HF.out.1.then7 HS.out).trans Fa (fun k e => Or.inr (by rcases e with e | e <;> omega)), fun k hk => by cases hk⟩

end Go.Proofs.YtdaogldmcbfmoaaGreatDoor

namespace Go.Proofs.YtdaogldmcbfmoaaGreatDoor
open Go.RowKit Go.Maps Go.WideMaps
set_option maxRecDepth 100000

theorem rdRows_cons {g : List UInt8 → List UInt8 × Int} {d : List UInt8 → List UInt8 → List En → List En × Int} {ah : List UInt8} {rs : List (List UInt8)} {k : Nat} (hk : k < rs.length) {A : List En} : rdRows g d ah (rs.drop k) A = if (rdRow g d ah rs[k] A).2 = 0 then rdRows g d ah (rs.drop (k + 1)) (rdRow g d ah rs[k] A).1 else rdRow g d ah rs[k] A := by
  rw [List.drop_eq_getElem_cons hk, rdRows]

/-- What a round leaves. -/
structure RI (w0 : World) (p : Nat) (S : St) (bd bL bN : Nat) (d : List UInt8 → List UInt8 → List En → List En × Int) (ah : List UInt8) (rs : List (List UInt8)) (A : List En) (v : Value) (w : World) (k : Nat) (v1 : Value) (A1 : List En) (V1 : List Value) (wr : World) : Prop where
  at' : RdAt w0 p S bd bL bN wr v1 A1 V1
  fr : Fr (MR bL v) w wr
  blk : ∀ i, v1.ownBlock = some i → v.ownBlock = some i ∨ w.heap.size ≤ i
  eq : rdRows S.getB d ah rs A = rdRows S.getB d ah (rs.drop k) A1
  len : A1.length ≤ 1024

theorem RI.step {w0 : World} {p : Nat} {S : St} {bd bL bN : Nat} {d : List UInt8 → List UInt8 → List En → List En × Int} {ah : List UInt8} {rs : List (List UInt8)} {A : List En} {v : Value} {w : World} {k : Nat} {v1 : Value} {A1 : List En} {V1 : List Value} {wr : World} (h : RI w0 p S bd bL bN d ah rs A v w k v1 A1 V1 wr) (hk : k < rs.length) {w2 : World} {v2 : Value} {A2 : List En} {V2 : List Value} (h2 : RdAt w0 p S bd bL bN w2 v2 A2 V2) (f : Fr (MR bL v1) wr w2) (hb : ∀ i, v2.ownBlock = some i → v1.ownBlock = some i ∨ wr.heap.size ≤ i) (he : rdRow S.getB d ah rs[k] A1 = (A2, 0)) (hl : A2.length ≤ 1024) : RI w0 p S bd bL bN d ah rs A v w (k + 1) v2 A2 V2 w2 := by
  refine ⟨h2, h.fr.trans f (fun i hi => ?_), fun i hi => ?_, ?_, hl⟩
  · rcases hi with hi | hi
    · exact Or.inl (Or.inl hi)
    · rcases h.blk i hi with e | e
      · exact Or.inl (Or.inr e)
      · exact Or.inr e
  · rcases hb i hi with e | e
    · exact h.blk i e
    · exact Or.inr (Nat.le_trans h.fr.size e)
  · rw [h.eq, rdRows_cons hk, he, if_pos rfl]

theorem RI.stop {w0 : World} {p : Nat} {S : St} {bd bL bN : Nat} {d : List UInt8 → List UInt8 → List En → List En × Int} {ah : List UInt8} {rs : List (List UInt8)} {A : List En} {v : Value} {w : World} {k : Nat} {v1 : Value} {A1 : List En} {V1 : List Value} {wr : World} (h : RI w0 p S bd bL bN d ah rs A v w k v1 A1 V1 wr) (hk : k < rs.length) {w2 : World} {v2 : Value} {A2 : List En} {V2 : List Value} (h2 : RdAt w0 p S bd bL bN w2 v2 A2 V2) (f : Fr (MR bL v1) wr w2) (hb : ∀ i, v2.ownBlock = some i → v1.ownBlock = some i ∨ wr.heap.size ≤ i) {er : Int} (he : rdRow S.getB d ah rs[k] A1 = (A2, er)) (h0 : er ≠ 0) {wa : World} (fa : Fr None' wa w) : RdPost w0 p S bd bL bN (rdRows S.getB d ah rs A) v wa (.returned (.int .i64 er)) w2 := by
  rw [h.eq, rdRows_cons hk, he, if_neg h0]
  refine ⟨v2, V2, rfl, h2, (fa.mono (fun _ e => e.elim)).trans (h.fr.trans f (fun i hi => ?_)) (fun _ e => Or.inl e), fun i hi => ?_⟩
  · rcases hi with hi | hi
    · exact Or.inl (Or.inl hi)
    · rcases h.blk i hi with e | e
      · exact Or.inl (Or.inr e)
      · exact Or.inr e
  · rcases hb i hi with e | e
    · exact (h.blk i e).imp_right (fun e => Nat.le_trans fa.size e)
    · exact Or.inr (Nat.le_trans (Nat.le_trans fa.size h.fr.size) e)

theorem RI.done {w0 : World} {p : Nat} {S : St} {bd bL bN : Nat} {d : List UInt8 → List UInt8 → List En → List En × Int} {ah : List UInt8} {rs : List (List UInt8)} {A : List En} {v : Value} {w : World} {v1 : Value} {A1 : List En} {V1 : List Value} {wr : World} (h : RI w0 p S bd bL bN d ah rs A v w rs.length v1 A1 V1 wr) {wa : World} (fa : Fr None' wa w) : RdPost w0 p S bd bL bN (rdRows S.getB d ah rs A) v wa (.returned (.int .i64 0)) wr := by
  rw [h.eq, List.drop_length, rdRows]
  exact ⟨v1, V1, rfl, h.at', (fa.mono (fun _ e => e.elim)).trans h.fr (fun _ e => Or.inl e), fun i hi => (h.blk i hi).imp_right (fun e => Nat.le_trans fa.size e)⟩

set_option maxHeartbeats 8000000 in
theorem read1_step {w0 : World} {p : Nat} {S : St} (hu : used S.F < 1099511627776) (hb : ∀ t ∈ S.F, t.b.length ≤ 100000) {bd bL bN : Nat} {d : List UInt8 → List UInt8 → List En → List En × Int} {deep : Nat} (hdp : deep ≤ 8)
    (ih : ∀ (x ah : ByteArray) (A : List En) (V : List Value) (v : Value) (w : World), x.size ≤ maxLen → ah.size ≤ (deep + 1) * 100001 → A.length ≤ 1024 → RdAt w0 p S bd bL bN w v A V → Calls Tryz.prog 88 #[.string x, .string ah, .int .i64 ((deep : Int) + 1), .pointer (some ⟨bd, 0, none⟩), .pointer (some ⟨bL, 0, none⟩), .pointer (some ⟨bN, 0, none⟩)] w (RdPost w0 p S bd bL bN (d (bl x) (bl ah) A) v w))
    (hlen : ∀ n ah A, A.length ≤ 1024 → (d n ah A).1.length ≤ 1024)
    (x ah : ByteArray) (hx : x.size ≤ maxLen) (hah : ah.size ≤ deep * 100001) {A : List En} {V : List Value} {v : Value} {w : World} (hA : A.length ≤ 1024) (h : RdAt w0 p S bd bL bN w v A V) (hok : (takeL S.getB (bl x) 100).2 = 0) :
    Calls Tryz.prog 88 #[.string x, .string ah, .int .i64 (deep : Int), .pointer (some ⟨bd, 0, none⟩), .pointer (some ⟨bL, 0, none⟩), .pointer (some ⟨bN, 0, none⟩)] w (RdPost w0 p S bd bL bN (rdRows S.getB d (bl ah) (takeL S.getB (bl x) 100).1 A) v w) := by
  have cK := tkeptLines_any h.live x 100 hx hu hb
  rw [hok] at cK
  have hrow : ∀ r ∈ (takeL S.getB (bl x) 100).1, r.length < 100000 := fun r hr => takeL_row (getB_length hb) hr
  have hrn : (takeL S.getB (bl x) 100).1.length ≤ 100000 := (takeL_size (getB_length hb) (bl x) 100).2
  generalize (takeL S.getB (bl x) 100).1 = rs at cK hrow hrn ⊢
  have e1 := h.cd
  have HU : Hid (used S.F < 1099511627776 ∧ ∀ t ∈ S.F, t.b.length ≤ 100000) := ⟨hu, hb⟩
  have HIH : Hid _ := ih
  have HLEN : Hid _ := hlen
  have HH : Hid (RdAt w0 p S bd bL bN w v A V ∧ A.length ≤ 1024) := ⟨h, hA⟩
  have HR : Hid ((∀ r ∈ rs, r.length < 100000) ∧ rs.length ≤ 100000 ∧ ah.size ≤ deep * 100001 ∧ deep ≤ 8) := ⟨hrow, hrn, hah, hdp⟩
  have i0 : ¬ (8 : Int) < (deep : Int) := by omega
  have i1 : (deep : Int) ≤ 8 := by omega
  clear hu hb ih hlen h hA hx hok hrow hrn hah hdp
  go_enter Tryz.func88, Tryz.ntmps88
  go_wp2_with fail
  refine cK.mono ?_
  rintro e w1 ⟨vr, rfl, hs, F1, ho⟩
  obtain ⟨rva, rc, rfl, _⟩ := id hs
  have HS : Hid (StrsAt w1 (.slice rva (rs.map strB).length rc) (rs.map strB) ∧ Fr None' w w1 ∧ ∀ k, (Value.slice rva (rs.map strB).length rc).ownBlock = some k → w.heap.size ≤ k ∧ k < w1.heap.size) := ⟨hs, F1, ho⟩
  obtain ⟨n, hn⟩ : ∃ n, (rs.map strB).length = n := ⟨_, rfl⟩
  rw [hn] at HS ⊢
  have HN : Hid (rs.length = n) := by show _ = _; rw [← hn, List.length_map]
  have HV : Hid (∀ i, MR bL v i → i < w.heap.size) := fun i hi => by
    rcases hi with rfl | hi
    · exact lt_of_some HH.out.1.cL
    · obtain ⟨_, _, _, _, _, _, hk⟩ := HH.out.1.own.slice
      exact (hk i hi).2
  have L0 : Hid (RI w0 p S bd bL bN d (bl ah) rs A v w1 0 v A V w1) := ⟨HH.out.1.fresh F1, Fr.refl _ _, fun i hi => Or.inl hi, rfl, HH.out.2⟩
  have i2 : (n : Int) ≤ 100000 := by have := HR.out.2.1; have := HN.out; omega
  clear hs F1 ho cK hn e1
  go_wp2_with fail
  go_loopw [34] (fun vi wr => ∃ (k : Nat) (v1 : Value) (A1 : List En) (V1 : List Value), k ≤ n ∧ vi = .int .i64 k ∧ Hid (RI w0 p S bd bL bN d (bl ah) rs A v w1 k v1 A1 V1 wr)) (fun vi _ => n - (intOf vi).toNat)
  case atStart => exact ⟨0, v, A, V, Nat.zero_le _, rfl, L0.out⟩
  case round =>
    clear L0
    obtain ⟨k, v1, A1, V1, hk, rfl, HI⟩ := hrel
    by_cases hlt : k < n
    · have hkr : k < rs.length := by rw [HN.out]; exact hlt
      have at1 := HI.out.at'
      have hst : StrsAt wr (.slice rva n rc) (rs.map strB) := HS.out.1.fr HI.out.fr (fun i hi e => by
        have h1 := (HS.out.2.2 i hi).1
        have h2 := HV.out i e
        omega)
      obtain ⟨va', c', he, _, _, hrow⟩ := hst
      have he1 : rva = va' := by injection he
      subst he1
      clear he
      obtain ⟨g, o, rfl, d0⟩ := hrow.get (k := k) (by rw [List.length_map]; exact hkr)
      obtain ⟨r, hr⟩ : ∃ r, (rs.map strB)[k]'(by rw [List.length_map]; exact hkr) = r := ⟨_, rfl⟩
      rw [hr] at d0
      have hbr : bl r = rs[k] := by rw [← hr, List.getElem_map]; rfl
      have hrs : r.size < 100000 := by rw [← Path.len_eq r, show r.data.toList = rs[k] from hbr]; exact HR.out.1 _ (List.getElem_mem hkr)
      have cC := tcutRow_any r wr (by omega)
      obtain ⟨va1, c1, hv1, _, _, _, hblk1⟩ := at1.own.slice
      have c4 : wr.cell? ⟨bL, 0, none⟩ = some v1 := by simp [World.cell?, at1.cL]
      have c5 := at1.cd
      have c6 := at1.cN
      have i2 : (k : Int) < (n : Int) := by omega
      have i3 : (0 : Int) ≤ (k : Int) := by omega
      cases hc : cutR (bl r) with
      | none =>
        have ha : cutAns (bl r) = .tuple #[.int .i64 0, .string ⟨#[]⟩, .string ⟨#[]⟩, .bool false] := by unfold cutAns; rw [hc]
        rw [ha] at cC
        have HK : Hid (∀ w2, Fr None' wr w2 → RdPost w0 p S bd bL bN (rdRows S.getB d (bl ah) rs A) v w (.returned (.int .i64 3)) w2) := fun w2 F2 => HI.out.stop hkr (at1.fresh F2) (F2.mono (fun _ e => e.elim)) (fun i hi => Or.inl hi) (by rw [← hbr]; unfold rdRow; rw [hc]) (by decide) HS.out.2.1
        clear ha hc hbr hr hrs hrow hv1 hblk1 at1 c4 c5 c6
        go_wp2_with fail
        refine cC.mono ?_
        rintro e w2 ⟨rfl, F2⟩
        have HQ : Hid _ := HK.out w2 F2
        clear F2 cC HK
        go_wp2_with fail
        go_ret
        exact HQ.out
      | some t =>
        obtain ⟨K, q, nn⟩ := t
        obtain ⟨k1, k3, kn, kq, kl⟩ := cutR_some hc
        obtain ⟨z, hz⟩ : ∃ z : Int, (K : Int) = z := ⟨_, rfl⟩
        have HZz : Hid ((K : Int) = z) := hz
        have ha : cutAns (bl r) = .tuple #[.int .i64 z, .string (strB q), .string (strB nn), .bool true] := by unfold cutAns; rw [hc, ← hz]
        rw [ha] at cC
        obtain ⟨m, hm⟩ : ∃ m, A1.length = m := ⟨_, rfl⟩
        rw [hm] at hv1
        subst hv1
        have HLM : Hid (A1.length = m ∧ m ≤ 1024) := ⟨hm, hm ▸ HI.out.len⟩
        by_cases h1024 : m = 1024
        · have HK : Hid (∀ w2, Fr None' wr w2 → RdPost w0 p S bd bL bN (rdRows S.getB d (bl ah) rs A) v w (.returned (.int .i64 3)) w2) := fun w2 F2 => HI.out.stop hkr (at1.fresh F2) (F2.mono (fun _ e => e.elim)) (fun i hi => Or.inl hi) (by rw [← hbr]; unfold rdRow; rw [hc]; simp only; rw [if_pos (by omega)]) (by decide) HS.out.2.1
          subst h1024
          have HC4 : Hid (∀ w2, Fr None' wr w2 → w2.cell? ⟨bL, 0, none⟩ = some (.slice va1 1024 c1)) := fun w2 F2 => F2.keepCell c4 (fun e => e)
          clear hz ha hc hbr hr hrs hrow hblk1 at1 c4 c5 c6 k1 k3 kn kq kl hm
          generalize strB q = Q at cC
          generalize strB nn = Nn at cC
          go_wp2_with fail
          refine cC.mono ?_
          rintro e w2 ⟨rfl, F2⟩
          have HQ : Hid _ := HK.out w2 F2
          have c4 := HC4.out w2 F2
          clear F2 cC HK
          go_wp2_with fail
          go_ret
          exact HQ.out
        · obtain ⟨P, hP⟩ : ∃ P, ah ++ strB q = P := ⟨_, rfl⟩
          have a1 : ∀ u, (Op.stringOp .add ah (strB q)).run Tryz.prog u = .ok (.string P) u := fun u => by
            rw [run_string_add_sum _ _ _ (by
              rw [size_strB]
              have h1 := HR.out.2.2.1
              have h2 := HR.out.2.2.2
              have h3 : deep * 100001 ≤ 8 * 100001 := Nat.mul_le_mul_right _ h2
              have h4 : (bl r).length = r.size := Path.len_eq r
              omega), hP]
          have bP : bl P = bl ah ++ q := by rw [← hP]; simp [bl, ByteArray.data_append, strB]
          have sN : (strB nn).size ≤ maxLen := by rw [size_strB, kn]; decide
          have HT : Hid (∀ w2, Fr None' wr w2 → Calls Tryz.prog 91 #[.pointer (some ⟨p, 0, none⟩), .agg #[.string P, .int .i64 z, .slice none 0 0, .string ⟨#[]⟩], .string (strB nn)] w2 (ThPost S K P (strB nn) w2)) := fun w2 F2 => hz ▸ treadThing_any (at1.fresh F2).live P (strB nn) K k1 k3 sN HU.out.1 HU.out.2
          have HC4 : Hid (∀ w2, Fr None' wr w2 → w2.cell? ⟨bL, 0, none⟩ = some (.slice va1 m c1) ∧ w2.cell? ⟨bd, 0, none⟩ = some (.pointer (some ⟨p, 0, none⟩))) := fun w2 F2 => ⟨F2.keepCell c4 (fun e => e), F2.keepCell c5 (fun e => e)⟩
          have j1 : ¬ (m : Int) = 1024 := by omega
          have j2 : ((m : Int) == 1024) = false := by simpa using j1
          have HZ : Hid (cutR rs[k] = some (K, q, nn) ∧ bl P = bl ah ++ q ∧ 1 ≤ K ∧ K ≤ 3 ∧ nn.length = 64 ∧ q ≠ [] ∧ q.length < 100000 ∧ RdAt w0 p S bd bL bN wr (.slice va1 m c1) A1 V1) := ⟨by rw [← hbr]; exact hc, bP, k1, k3, kn, kq, by have h4 : (bl r).length = r.size := Path.len_eq r; omega, at1⟩
          have HBN : Hid (bl (strB nn) = nn) := rfl
          generalize strB q = Q at cC a1
          generalize strB nn = Nn at cC HT HBN
          clear hz ha hc hbr hr hrs hrow hblk1 at1 c4 c5 c6 k1 k3 kn kq kl hm hP bP sN h1024
          go_wp2_with fail
          refine cC.mono ?_
          rintro e w2 ⟨rfl, F2⟩
          have cT := HT.out w2 F2
          obtain ⟨c4, c5⟩ := HC4.out w2 F2
          have HF2 : Hid (Fr None' wr w2) := F2
          clear F2 cC HT
          go_wp2_with fail
          refine cT.mono ?_
          rintro e w3 ⟨va3, n3, c3, rfl, hs3, F3, ho3⟩
          have hbn := HBN.out
          rw [hbn] at hs3 ⊢
          obtain ⟨D, hD⟩ : ∃ D, strB (takeT S.getB K nn).2.1 = D := ⟨_, rfl⟩
          obtain ⟨er, her⟩ : ∃ er, (takeT S.getB K nn).2.2 = er := ⟨_, rfl⟩
          rw [hD, her, HZz.out]
          have F23 : Fr None' wr w3 := HF2.out.then7 F3
          by_cases h0 : er = 0
          case neg =>
            have HQ : Hid (∀ w', Fr None' w3 w' → RdPost w0 p S bd bL bN (rdRows S.getB d (bl ah) rs A) v w (.returned (.int .i64 er)) w') := fun w' F' => HI.out.stop hkr (HZ.out.2.2.2.2.2.2.2.fresh (F23.then7 F')) ((F23.then7 F').mono (fun _ e => e.elim)) (fun i hi => Or.inl hi) (by unfold rdRow; rw [HZ.out.1]; simp only; rw [if_neg (by rw [HLM.out.1]; exact fun e => j1 (by omega)), if_neg (by rw [her]; exact h0), her]) h0 HS.out.2.1
            have he2 : decide (er = 0) = false := by simpa using h0
            clear hs3 F3 ho3 hD her F23 cT HI HZ HBN hbn
            go_wp2_with fail
            go_ret
            exact HQ.out _ (Fr.alloc None' w3 _)
          subst h0
          have hX : thingR S.getB (bl ah) K q nn = ⟨P, z, (takeT S.getB K nn).1.map strB, D⟩ := by
            unfold thingR
            rw [hD, HZz.out, ← strB_bl HZ.out.2.1]
          have hRow : rdRow S.getB d (bl ah) rs[k] A1 = if K = 1 then d nn (bl ah ++ q ++ [47]) (A1 ++ [thingR S.getB (bl ah) K q nn]) else (A1 ++ [thingR S.getB (bl ah) K q nn], 0) := by
            unfold rdRow
            rw [HZ.out.1]
            simp only
            rw [if_neg (by rw [HLM.out.1]; exact fun e => j1 (by omega)), if_pos her]
          rw [hX] at hRow
          generalize hTL : (takeT S.getB K nn).1.map strB = TL at hs3 hX hRow
          obtain ⟨w4, hw4⟩ : ∃ w4, w3.alloc (.cells #[.string P, .int .i64 z, .slice va3 n3 c3, .string D] 38) = w4 := ⟨_, rfl⟩
          obtain ⟨b0, b1, b2, b3⟩ := cell4 w3 38 (.string P) (.int .i64 z) (.slice va3 n3 c3) (.string D)
          rw [hw4] at b0 b1 b2 b3
          have F4 : Fr None' w3 w4 := hw4 ▸ Fr.alloc None' w3 _
          obtain ⟨w5, hw5⟩ : ∃ w5, w4.alloc (.cells #[.string P, .int .i64 z, .slice va3 n3 c3, .string D] 38) = w5 := ⟨_, rfl⟩
          have F5 : Fr None' w4 w5 := hw5 ▸ Fr.alloc None' w4 _
          have hb5 : w5.heap[w4.heap.size]? = some (.cells #[.string P, .int .i64 z, .slice va3 n3 c3, .string D] 38) := by rw [← hw5]; exact heap_alloc_new w4 _
          have F25 : Fr None' wr w5 := (F23.then7 F4).then7 F5
          have at1 := HZ.out.2.2.2.2.2.2.2
          obtain ⟨c4, c5⟩ := HC4.out w4 (F23.then7 F4)
          have v1lt : ∀ i, (Value.slice va1 m c1).ownBlock = some i → i < wr.heap.size := fun i hi => by
            obtain ⟨_, _, _, _, _, _, hk⟩ := at1.own.slice
            exact (hk i hi).2
          have bLlt : bL < wr.heap.size := lt_of_some at1.cL
          have h32 : wr.heap.size ≤ w2.heap.size := HF2.out.size
          have h3r : wr.heap.size ≤ w3.heap.size := F23.size
          obtain ⟨g6, c6, w6, hrun, cL6, at7, F7, hg, F6⟩ := (at1.fresh F25).next (x := ⟨P, z, TL, D⟩) (vl := .slice va3 n3 c3) hb5 rfl (hs3.kept (F4.then7 F5)) (fun i hi => by
            obtain ⟨q1, q2⟩ := ho3 i hi
            have q3 := F4.size
            have q4 := F5.size
            exact ⟨by omega, by omega, fun e => by have := v1lt i e; omega⟩) (by rw [HLM.out.1]; exact HLM.out.2)
          rw [HLM.out.1] at hrun at7 F7
          obtain ⟨w7, hw7⟩ : ∃ w7, w6.setCell ⟨bL, 0, none⟩ (.slice (some ⟨g6, 0, none⟩) (m + 1) c6) = w7 := ⟨_, rfl⟩
          rw [hw7] at at7 F7
          have c7 : w6.cell? ⟨bL, 0, none⟩ = some (.slice va1 m c1) := by simp [World.cell?, cL6]
          have z7 : w6.frozen? ⟨bL, 0, none⟩ = false := by simp [World.frozen?, cL6]
          have c8 := at7.cN
          have c9 : w7.cell? ⟨w3.heap.size, 0, none⟩ = some (.string P) := F7.keepCell (F5.keepCell b0 (fun e => e)) (fun e => by
            rcases e with e | e
            · have e' : w3.heap.size = bL := e
              omega
            · have h9 : w3.heap.size < wr.heap.size := v1lt _ e
              omega)
          have F17 : Fr (MR bL (.slice va1 m c1)) wr w7 := (F25.mono (fun _ e => e.elim)).trans F7 (fun i e => Or.inl e)
          have hb7 : ∀ i, (Value.slice (some ⟨g6, 0, none⟩) (m + 1) c6).ownBlock = some i → (Value.slice va1 m c1).ownBlock = some i ∨ wr.heap.size ≤ i := fun i hi => by
            have hi' : g6 = i := by cases hi; rfl
            subst hi'
            rcases hg with e | e
            · exact Or.inl e
            · exact Or.inr (by have := F25.size; omega)
          have hl7 : (A1 ++ [⟨P, z, TL, D⟩] : List En).length ≤ 1024 := by
            rw [List.length_append, List.length_singleton, HLM.out.1]
            have := HLM.out.2
            omega
          have HRUN : Hid _ := hrun
          by_cases hK1 : K = 1
          · have hz1 : z = 1 := by have := HZz.out; omega
            subst hz1
            rw [if_pos hK1] at hRow
            obtain ⟨P2, hP2⟩ : ∃ P2, P ++ (⟨#[47]⟩ : ByteArray) = P2 := ⟨_, rfl⟩
            have bP2 : bl P2 = bl ah ++ q ++ [47] := by rw [← HZ.out.2.1, ← hP2]; simp [bl, ByteArray.data_append]
            have lP2 : P2.size = (bl ah).length + q.length + 1 := by rw [← Path.len_eq P2, show P2.data.toList = _ from bP2]; simp; omega
            have lah : (bl ah).length = ah.size := Path.len_eq ah
            have lP : (bl P).length = P.size := Path.len_eq P
            have lP' : (bl P).length = (bl ah).length + q.length := by rw [HZ.out.2.1, List.length_append]
            have hq := HZ.out.2.2.2.2.2.2.1
            have h3 : deep * 100001 ≤ 8 * 100001 := Nat.mul_le_mul_right _ HR.out.2.2.2
            have hah := HR.out.2.2.1
            have a2 : ∀ u, (Op.stringOp .add P ⟨#[47]⟩).run Tryz.prog u = .ok (.string P2) u := fun u => by
              rw [run_string_add_sum _ _ _ (by show P.size + 1 ≤ _; omega), hP2]
            have sN : Nn.size ≤ maxLen := by
              rw [← Path.len_eq Nn, show Nn.data.toList = nn from hbn, HZ.out.2.2.2.2.1]
              decide
            have cD := HIH.out Nn P2 _ _ _ w7 sN (by rw [Nat.succ_mul]; omega) hl7 at7
            rw [hbn, bP2] at cD
            generalize hR : d nn (bl ah ++ q ++ [47]) (A1 ++ [⟨P, 1, TL, D⟩]) = R at cD hRow
            have hRl : R.1.length ≤ 1024 := by rw [← hR]; exact HLEN.out _ _ _ hl7
            obtain ⟨R1, R2⟩ := R
            have HRow : Hid (rdRow S.getB d (bl ah) rs[k] A1 = (R1, R2)) := hRow
            have HF17 : Hid (Fr (MR bL (.slice va1 m c1)) wr w7 ∧ ∀ i, (Value.slice (some ⟨g6, 0, none⟩) (m + 1) c6).ownBlock = some i → (Value.slice va1 m c1).ownBlock = some i ∨ wr.heap.size ≤ i) := ⟨F17, hb7⟩
            have HRl : Hid (R1.length ≤ 1024) := hRl
            clear hR hRow hX hTL hs3 F3 ho3 hD her F23 cT hbn at1 at7 F7 F6 F25 F5 F4 hb5 cL6 hg hrun v1lt bLlt h32 h3r hb7 F17 hl7 hP2 bP2 lP2 lah lP lP' hq h3 hah sN hRl hK1 HIH HLEN
            go_wp2_with (at_builtin; refine app_list7 rfl _ _ rfl rfl rfl HRUN.out ?_)
            refine cD.mono ?_
            rintro e w8 ⟨v8, V8, he, at8, F8, hb8⟩
            simp only at he at8
            subst he
            have F18 : Fr (MR bL (.slice va1 m c1)) wr w8 := HF17.out.1.trans F8 (fun i hi => by
              rcases hi with hi | hi
              · exact Or.inl (Or.inl hi)
              · exact (HF17.out.2 i hi).imp_left Or.inr)
            have hb18 : ∀ i, v8.ownBlock = some i → (Value.slice va1 m c1).ownBlock = some i ∨ wr.heap.size ≤ i := fun i hi => by
              rcases hb8 i hi with e | e
              · exact HF17.out.2 i e
              · exact Or.inr (Nat.le_trans HF17.out.1.size e)
            by_cases hR0 : R2 = 0
            · subst hR0
              have HN8 : Hid (RI w0 p S bd bL bN d (bl ah) rs A v w1 (k + 1) v8 R1 V8 w8) := HI.out.step hkr at8 F18 hb18 HRow.out HRl.out
              clear F18 hb18 hb8 F8 at8 cD HI
              go_wp2_with fail
              exact ⟨⟨k + 1, v8, R1, V8, by omega, by go_num, HN8.out⟩, by simp [intOf]; omega⟩
            · have HQ8 : Hid (RdPost w0 p S bd bL bN (rdRows S.getB d (bl ah) rs A) v w (.returned (.int .i64 R2)) w8) := HI.out.stop hkr at8 F18 hb18 HRow.out hR0 HS.out.2.1
              have he8 : decide (R2 = 0) = false := by simpa using hR0
              clear F18 hb18 hb8 F8 at8 cD HI
              go_wp2_with fail
              go_ret
              exact HQ8.out
          · rw [if_neg hK1] at hRow
            have HN7 : Hid (RI w0 p S bd bL bN d (bl ah) rs A v w1 (k + 1) (.slice (some ⟨g6, 0, none⟩) (m + 1) c6) (A1 ++ [⟨P, z, TL, D⟩]) (V1 ++ [.slice va3 n3 c3]) w7) := HI.out.step hkr at7 F17 hb7 hRow hl7
            have k1 : ¬ z = 1 := by have := HZz.out; omega
            have k2 : (z == 1) = false := by simpa using k1
            clear hRow hX hTL hs3 F3 ho3 hD her F23 cT hbn at1 at7 F7 F6 F25 F5 F4 hb5 cL6 hg hrun v1lt bLlt h32 h3r hb7 F17 hl7 hK1 HIH HLEN HI
            go_wp2_with (first
              | (at_builtin; refine app_list7 rfl _ _ rfl rfl rfl HRUN.out ?_)
              | go_in)
            exact ⟨⟨k + 1, _, _, _, by omega, by go_num, HN7.out⟩, by simp [intOf]; omega⟩
    · have e : k = n := by omega
      subst e
      have HQ : Hid (RdPost w0 p S bd bL bN (rdRows S.getB d (bl ah) rs A) v w (.returned (.int .i64 0)) wr) := by
        have h := HI.out
        rw [← HN.out] at h
        exact h.done HS.out.2.1
      go_wp2_with fail
      go_ret
      exact HQ.out

/-- The lines of a directory cannot be had, or it is too deep. -/
theorem read1_stop {w0 : World} {p : Nat} {S : St} (hu : used S.F < 1099511627776) (hb : ∀ t ∈ S.F, t.b.length ≤ 100000) {bd bL bN : Nat} {deep : Nat} (hdp : deep ≤ 9) (x ah : ByteArray) (hx : x.size ≤ maxLen) {A : List En} {V : List Value} {v : Value} {w : World} (h : RdAt w0 p S bd bL bN w v A V) {er : Int} (he : ((takeL S.getB (bl x) 100).2 ≠ 0 ∧ er = (takeL S.getB (bl x) 100).2) ∨ ((takeL S.getB (bl x) 100).2 = 0 ∧ deep = 9 ∧ er = 3)) :
    Calls Tryz.prog 88 #[.string x, .string ah, .int .i64 (deep : Int), .pointer (some ⟨bd, 0, none⟩), .pointer (some ⟨bL, 0, none⟩), .pointer (some ⟨bN, 0, none⟩)] w (RdPost w0 p S bd bL bN (A, er) v w) := by
  have cK := tkeptLines_any h.live x 100 hx hu hb
  have e1 := h.cd
  have HQ : Hid (∀ w', Fr None' w w' → RdPost w0 p S bd bL bN (A, er) v w (.returned (.int .i64 er)) w') := fun w' f => ⟨v, V, rfl, h.fresh f, f.mono (fun _ e => e.elim), fun k hk => Or.inl hk⟩
  obtain ⟨r2, hr2⟩ : ∃ r, (takeL S.getB (bl x) 100).2 = r := ⟨_, rfl⟩
  rw [hr2] at cK he
  rcases he with ⟨h0, rfl⟩ | ⟨h0, hd, rfl⟩
  · have he2 : decide (er = 0) = false := by simpa using h0
    clear h hu hb hx hr2
    go_enter Tryz.func88, Tryz.ntmps88
    go_wp2_with fail
    refine cK.mono ?_
    rintro e w1 ⟨vr, rfl, hs, F1, ho⟩
    obtain ⟨rva, rc, rfl, _⟩ := hs
    have HR : Hid (RdPost w0 p S bd bL bN (A, er) v w (.returned (.int .i64 er)) w1) := HQ.out w1 F1
    clear F1 ho cK HQ e1
    go_wp2_with fail
    go_ret
    exact HR.out
  · subst h0 hd
    clear h hu hb hx hr2 hdp
    go_enter Tryz.func88, Tryz.ntmps88
    go_wp2_with fail
    refine cK.mono ?_
    rintro e w1 ⟨vr, rfl, hs, F1, ho⟩
    obtain ⟨rva, rc, rfl, _⟩ := hs
    have HR : Hid (RdPost w0 p S bd bL bN (A, 3) v w (.returned (.int .i64 3)) w1) := HQ.out w1 F1
    clear F1 ho cK HQ e1
    go_wp2_with fail
    go_ret
    exact HR.out

theorem rd_len (g : List UInt8 → List UInt8 × Int) (f : Nat) (x ah : List UInt8) (A : List En) (hA : A.length ≤ 1024) : (rd g f x ah A).1.length ≤ 1024 := by
  induction f generalizing x ah A with
  | zero =>
    rw [rd]
    split <;> exact hA
  | succ f ih =>
    rw [rd]
    split
    · generalize (takeL g x 100).1 = rs
      have hrow : ∀ r A, A.length ≤ 1024 → (rdRow g (rd g f) ah r A).1.length ≤ 1024 := fun r A hA => by
        unfold rdRow
        split
        · exact hA
        · split
          · exact hA
          · have hs : ∀ y : En, (A ++ [y]).length ≤ 1024 := fun y => by rw [List.length_append, List.length_singleton]; omega
            split
            · split
              · exact ih _ _ _ (hs _)
              · exact hs _
            · exact hA
      induction rs generalizing A with
      | nil => exact hA
      | cons r rs ih2 =>
        rw [rdRows]
        split
        · exact ih2 _ (hrow _ _ hA)
        · exact hrow _ _ hA
    · exact hA

/-- What read's function hands back of a directory. -/
theorem read1_any {w0 : World} {p : Nat} {S : St} (hu : used S.F < 1099511627776) (hb : ∀ t ∈ S.F, t.b.length ≤ 100000) {bd bL bN : Nat} (f : Nat) : ∀ (deep : Nat) (x ah : ByteArray) (A : List En) (V : List Value) (v : Value) (w : World), deep + f = 9 → x.size ≤ maxLen → ah.size ≤ deep * 100001 → A.length ≤ 1024 → RdAt w0 p S bd bL bN w v A V → Calls Tryz.prog 88 #[.string x, .string ah, .int .i64 (deep : Int), .pointer (some ⟨bd, 0, none⟩), .pointer (some ⟨bL, 0, none⟩), .pointer (some ⟨bN, 0, none⟩)] w (RdPost w0 p S bd bL bN (rd S.getB f (bl x) (bl ah) A) v w) := by
  induction f with
  | zero =>
    intro deep x ah A V v w hd hx hah hA h
    rw [rd]
    split
    · rename_i h0
      exact read1_stop hu hb (by omega) x ah hx h (Or.inr ⟨h0, by omega, rfl⟩)
    · rename_i h0
      exact read1_stop hu hb (by omega) x ah hx h (Or.inl ⟨h0, rfl⟩)
  | succ f ih =>
    intro deep x ah A V v w hd hx hah hA h
    rw [rd]
    split
    · rename_i h0
      exact read1_step hu hb (by omega) (fun x ah A V v w h1 h2 h3 h4 => by
        have := ih (deep + 1) x ah A V v w (by omega) h1 h2 h3 h4
        rw [Int.natCast_add, Int.natCast_one] at this
        exact this) (fun n ah A => rd_len _ f n ah A) x ah hx hah hA h h0
    · rename_i h0
      exact read1_stop hu hb (by omega) x ah hx h (Or.inl ⟨h0, rfl⟩)

end Go.Proofs.YtdaogldmcbfmoaaGreatDoor

namespace Go.Proofs.YtdaogldmcbfmoaaGreatDoor
open Go.RowKit Go.Maps Go.WideMaps
set_option maxRecDepth 100000

/-- What read hands back, and leaves. -/
def ReadPost (w0 : World) (p : Nat) (S : St) (r : List En × Int) (w : World) (e : Ending) (w' : World) : Prop :=
  ∃ v V, e = .returned (.tuple #[v, .int .i64 r.2]) ∧ OwnX w.heap.size (w.heap.size + 1) w' v r.1 V ∧ Live w0 w' p S ∧ Fr None' w w'

attribute [local go_sem] run_store_func7

set_option maxHeartbeats 2000000 in
theorem tread_any {w0 w : World} {p : Nat} {S : St} (h : Live w0 w p S) (hu : used S.F < 1099511627776) (hb : ∀ t ∈ S.F, t.b.length ≤ 100000) (x : ByteArray) (hx : x.size ≤ maxLen) :
    Calls Tryz.prog 55 #[.pointer (some ⟨p, 0, none⟩), .string x] w (ReadPost w0 p S (rd S.getB 9 (bl x) [] []) w) := by
  obtain ⟨w3, hw3⟩ : ∃ w3, ((w.alloc (.cells #[.pointer (some ⟨p, 0, none⟩)] 27)).alloc (.cells #[.slice none 0 0] 22)).alloc (.cells #[.func (.func 88) #[] #[.pointer (some ⟨w.heap.size, 0, none⟩), .pointer (some ⟨w.heap.size + 1, 0, none⟩), .pointer (some ⟨w.heap.size + 1 + 1, 0, none⟩)]] 94) = w3 := ⟨_, rfl⟩
  generalize hvf : Value.func (.func 88) #[] #[.pointer (some ⟨w.heap.size, 0, none⟩), .pointer (some ⟨w.heap.size + 1, 0, none⟩), .pointer (some ⟨w.heap.size + 1 + 1, 0, none⟩)] = vf at hw3
  obtain ⟨wa, hwa⟩ : ∃ x, w.alloc (.cells #[.pointer (some ⟨p, 0, none⟩)] 27) = x := ⟨_, rfl⟩
  obtain ⟨wb, hwb⟩ : ∃ x, wa.alloc (.cells #[.slice none 0 0] 22) = x := ⟨_, rfl⟩
  have hwc : wb.alloc (.cells #[vf] 94) = w3 := by rw [← hwb, ← hwa]; exact hw3
  have Fa : Fr None' w wa := hwa ▸ Fr.alloc None' w _
  have Fb : Fr None' wa wb := hwb ▸ Fr.alloc None' wa _
  have Fc : Fr None' wb w3 := hwc ▸ Fr.alloc None' wb _
  have F3 : Fr None' w w3 := (Fa.then7 Fb).then7 Fc
  have sa : wa.heap.size = w.heap.size + 1 := by rw [← hwa]; simp
  have sb : wb.heap.size = w.heap.size + 1 + 1 := by rw [← hwb]; simp [sa]
  have s3 : w3.heap.size = w.heap.size + 3 := by rw [← hwc]; simp [sb]
  have hw0 : w0.heap.size ≤ w.heap.size := by
    obtain ⟨M, _, h2, _⟩ := h
    exact h2.size
  have c0 : w3.cell? ⟨w.heap.size, 0, none⟩ = some (.pointer (some ⟨p, 0, none⟩)) := (Fb.then7 Fc).keepCell (by rw [← hwa]; simp) (fun e => e)
  have c1 : w3.heap[w.heap.size + 1]? = some (.cells #[.slice none 0 0] 22 (0, 0)) := Fc.at (by rw [← sa, ← hwb]; exact heap_alloc_new wa _) (fun e => e)
  have c2 : w3.cell? ⟨w.heap.size + 1 + 1, 0, none⟩ = some vf := by rw [← sb, ← hwc]; simp
  rw [← hvf] at c2
  have hw3' := hw3
  rw [← hvf] at hw3'
  clear hw3
  have hw3 := hw3'
  clear hw3' hvf hwa hwb hwc Fa Fb Fc sa sb
  have hAt : RdAt w0 p S w.heap.size (w.heap.size + 1) (w.heap.size + 1 + 1) w3 (.slice none 0 0) [] [] := ⟨h.fresh F3, c0, c1, c2, OwnX.nil _ _ _, ⟨by omega, by omega, by omega, by omega, fun k hk => by cases hk⟩, by omega⟩
  have cR : Calls Tryz.prog 88 #[.string x, .string ⟨#[]⟩, .int .i64 0, .pointer (some ⟨w.heap.size, 0, none⟩), .pointer (some ⟨w.heap.size + 1, 0, none⟩), .pointer (some ⟨w.heap.size + 1 + 1, 0, none⟩)] w3 (RdPost w0 p S w.heap.size (w.heap.size + 1) (w.heap.size + 1 + 1) (rd S.getB 9 (bl x) [] []) (.slice none 0 0) w3) := read1_any hu hb 9 0 x ⟨#[]⟩ [] [] (.slice none 0 0) w3 rfl hx (by decide) (by decide) hAt
  generalize rd S.getB 9 (bl x) [] [] = R at cR ⊢
  have HF : Hid (Fr None' w w3 ∧ w3.heap.size = w.heap.size + 3) := ⟨F3, s3⟩
  clear h hu hb hx hAt F3 s3 hw0 c1
  go_enter Tryz.func55, Tryz.ntmps55
  go_wp2_with fail
  refine cR.mono ?_
  rintro e w4 ⟨v, V, rfl, at4, F4, hb4⟩
  have c1 : w4.cell? ⟨w.heap.size + 1, 0, none⟩ = some v := by simp [World.cell?, at4.cL]
  have HQ : Hid (OwnX w.heap.size (w.heap.size + 1) w4 v R.1 V ∧ Live w0 w4 p S ∧ Fr None' w w4) := ⟨⟨at4.own.len, by
      rcases at4.own.row with ⟨r1, r2⟩
      refine ⟨r1, ?_⟩
      rcases r2 with r2 | ⟨g, cap, cur, hv, hg, hh, r⟩
      · exact Or.inl r2
      · refine Or.inr ⟨g, cap, cur, hv, ?_, hh, r⟩
        rcases hb4 g (by rw [hv]; rfl) with e | e
        · cases e
        · have := HF.out.2; omega, at4.own.str, at4.own.off⟩, at4.live, HF.out.1.trans F4 (fun i hi => Or.inr (by
      rcases hi with hi | hi
      · have e' : i = w.heap.size + 1 := hi
        omega
      · cases hi))⟩
  obtain ⟨va, c, hv, _⟩ := at4.own.slice
  subst hv
  clear at4 F4 hb4 cR hw3 c0 c2
  go_wp2_with fail
  go_ret2
  exact ⟨_, V, rfl, HQ.out⟩

end Go.Proofs.YtdaogldmcbfmoaaGreatDoor
