/-
  What is proved here: the contracts that the statement stands on: RdN13, RdT13. Conditions: as each theorem names them.
-/
import Derived.Test.YtofpkpomhdhkgaaGreatDoorM8Strs9
import Derived.ScopeJumps
import Derived.WalkMore
namespace Go.Proofs.YtofpkpomhdhkgaaGreatDoor
open Go.RowKit
set_option maxRecDepth 100000

/-- Where the run jumps to its label: the frame has the reader still. -/
def Jmp (r : Nat) (w : World) (X : Option (Nat × B13)) (a : Act) (w' : World) : Prop := X = none ∧ w' = w ∧ ∃ u1 u2 u3 u4 u5 u6 u7 u8 u9 u10 u11 u12 u13 u14 u15 u16 u17 u18 u19 u20 u21 u22 u23 u24 u25 u26 u27 u28 u29 u30 u31 u32 u33 u34 u35 u36 u37 u38 u39 u40 u41 u42 u43 u44 u45 u46 u47 u48 u49 u50 u51 u52 u53 u54 u55 u56 u57 u58 u59 u60 u61 u62 u63 u64 u65 u66 u67 u68 u69 u70 u71 u72 u73 u74 u75 u76 u77 u78 u79 u80 u81 : Value, a = ⟨#[.pointer (some ⟨r, 0, none⟩), u1, u2, u3, u4, u5, u6, u7, u8, u9, u10, u11, u12, u13, u14, u15, u16, u17, u18, u19, u20, u21, u22, u23, u24, u25, u26, u27, u28, u29, u30, u31, u32, u33, u34, u35, u36, u37, u38, u39, u40, u41, u42, u43, u44, u45, u46, u47, u48, u49, u50, u51, u52, u53, u54, u55, u56, u57, u58, u59, u60, u61, u62, u63, u64, u65, u66, u67, u68, u69, u70, u71, u72, u73, u74, u75, u76, u77, u78, u79, u80, u81], []⟩

theorem jump_ret {J : Act → World → Prop} {Q : Exit → Act → World → Prop} {a : Act} {w : World} : Exit.jump 0 J Q .ret a w = Q .ret a w := rfl

theorem jump_is {J : Act → World → Prop} {Q : Exit → Act → World → Prop} {a : Act} {w : World} (h : J a w) : Exit.jump 0 J Q (.goto 0) a w := ⟨rfl, h⟩

/-- What a number's call hands back. -/
def NumPost (N : Nat) (w : World) (r : Nat) (l : B13) (bad : Bool) (X : Option (Nat × B13)) (e : Ending) (w' : World) : Prop :=
  (∀ n t, X = some (n, t) → e = .returned (.int .i64 n) ∧ RdAt N w' r t bad) ∧ (X = none → e = .returned (.int .i64 0) ∧ RdAt N w' r l true) ∧ Fr (fun k => k = r) w w'

theorem numR_nil (i n : Nat) : numR i n [] = none := rfl

theorem num_at (l : B13) (i n : Nat) (hi : i < l.length) : numR i n (l.drop i) = (if l[i].toNat = 58 then (if i = 0 then none else some (n, l.drop (i + 1))) else if l[i].toNat < 48 ∨ 57 < l[i].toNat then none else if (9223372036854775807 - (l[i].toNat - 48)) / 10 < n then none else if 0 < i ∧ n = 0 then none else numR (i + 1) (10 * n + (l[i].toNat - 48)) (l.drop (i + 1))) := by
  have e : (l[i] = 58) = (l[i].toNat = 58) := by
    rw [← UInt8.toNat_inj]
    rfl
  rw [List.drop_eq_getElem_cons hi, numR]
  simp only [e]

set_option maxHeartbeats 8000000 in
theorem number_any (N r : Nat) (l : B13) (bad : Bool) (w : World) (h : RdAt N w r l bad) :
    Calls Tryz.prog 64 #[.pointer (some ⟨r, 0, none⟩)] w fun e w' => NumPost N w r l bad (numR 0 0 l) e w' := by
  have HRd := toHid8 h
  obtain ⟨hs, ad, c, hbk, hcap, hnil, hrow⟩ := h
  obtain ⟨X, hX⟩ : ∃ X, numR 0 0 l = X := ⟨_, rfl⟩
  have HX := toHid8 (show numR 0 0 (l.drop 0) = X from hX)
  rw [hX]
  obtain ⟨m, hm⟩ : ∃ m, l.length = m := ⟨_, rfl⟩
  have HM := toHid8 hm
  have HBk := toHid8 hbk
  have HRow := toHid8 hrow
  have HCap := toHid8 hcap
  have HNil := toHid8 hnil
  rw [hm] at hbk hcap
  obtain ⟨c0, c1, z0, z1⟩ := rd_cells hbk
  have i0 : (m : Int) ≤ 1000000000 := by omega
  have i00 : (0 : Int) ≤ (m : Int) := by omega
  unfold NumPost
  clear hX hbk hcap hnil hrow hs hm
  go_enter Tryz.func64, Tryz.ntmps64
  go_wp2_with fail
  refine wp_scope_jumps (rest := ?rest) 0 (Jmp r w X) (fun _ _ => 0) ?hf ?first ?pass
  case hf => rfl
  case pass =>
    rintro a w' ⟨hx, rfl, u1, u2, u3, u4, u5, u6, u7, u8, u9, u10, u11, u12, u13, u14, u15, u16, u17, u18, u19, u20, u21, u22, u23, u24, u25, u26, u27, u28, u29, u30, u31, u32, u33, u34, u35, u36, u37, u38, u39, u40, u41, u42, u43, u44, u45, u46, u47, u48, u49, u50, u51, u52, u53, u54, u55, u56, u57, u58, u59, u60, u61, u62, u63, u64, u65, u66, u67, u68, u69, u70, u71, u72, u73, u74, u75, u76, u77, u78, u79, u80, u81, rfl⟩
    go_wp2_with fail
    simp only [Exit.jump]
    go_ret
    exact ⟨fun _ _ e => by (rw [hx] at e; cases e), fun _ => ⟨rfl, HRd.out.spoil⟩, rd_fr _ _ _ _⟩
  case first =>
    go_wp2_with fail
    go_loop [3, 4] (fun vn vi => ∃ i n : Nat, i ≤ m ∧ n ≤ 9223372036854775807 ∧ vi = .int .i64 i ∧ vn = .int .i64 n ∧ Hid (numR i n (l.drop i) = X)) (fun _ vi => m - (intOf vi).toNat)
    case atStart => exact ⟨0, 0, Nat.zero_le _, by decide, rfl, rfl, HX.out⟩
    case round =>
      obtain ⟨i, n, hi, hn, rfl, rfl, HK⟩ := hrel
      by_cases hlt : i < m
      case neg =>
        obtain rfl : i = m := by omega
        have HE := toHid8 (show X = none by rw [← HK.out, List.drop_of_length_le (by rw [HM.out]; exact Nat.le_refl _)]; rfl)
        by_cases h0 : i = 0
        · subst h0
          go_wp2_with fail
          (go_step3; refine (show 0 = 0 ∧ Jmp r w X _ _ from ⟨rfl, HE.out, rfl, _, _, _, _, _, _, _, _, _, _, _, _, _, _, _, _, _, _, _, _, _, _, _, _, _, _, _, _, _, _, _, _, _, _, _, _, _, _, _, _, _, _, _, _, _, _, _, _, _, _, _, _, _, _, _, _, _, _, _, _, _, _, _, _, _, _, _, _, _, _, _, _, _, _, _, _, _, _, _, _, _, rfl⟩))
        · have j0 : ¬ (i : Int) = 0 := by omega
          clear h0
          go_wp2_with fail
          (go_step3; refine (show 0 = 0 ∧ Jmp r w X _ _ from ⟨rfl, HE.out, rfl, _, _, _, _, _, _, _, _, _, _, _, _, _, _, _, _, _, _, _, _, _, _, _, _, _, _, _, _, _, _, _, _, _, _, _, _, _, _, _, _, _, _, _, _, _, _, _, _, _, _, _, _, _, _, _, _, _, _, _, _, _, _, _, _, _, _, _, _, _, _, _, _, _, _, _, _, _, _, _, _, _, rfl⟩))
      case pos =>
        have hil : i < l.length := by rw [HM.out]; exact hlt
        have hst := num_at l i n hil
        rw [HK.out] at hst
        obtain ⟨g, o, rfl, hg, cb⟩ := HRow.out.get hil
        have hb := UInt8.toNat_lt l[i]
        obtain ⟨d, hd⟩ : ∃ d, (l[i]).toNat = d := ⟨_, rfl⟩
        rw [hd] at cb hst hb
        have j1 : (i : Int) < (m : Int) := by omega
        have j2 : (0 : Int) ≤ (i : Int) := by omega
        have j3 : (d : Int) < 256 := by omega
        have j4 : (0 : Int) ≤ (d : Int) := by omega
        clear hd
        by_cases h58 : d = 58
        case pos =>
          subst h58
          rw [if_pos rfl] at hst
          by_cases h0 : i = 0
          · subst h0
            rw [if_pos rfl] at hst
            have HE := toHid8 hst
            clear hst
            rw [Nat.add_zero] at cb
            go_wp2_with fail
            (go_step3; refine (show 0 = 0 ∧ Jmp r w X _ _ from ⟨rfl, HE.out, rfl, _, _, _, _, _, _, _, _, _, _, _, _, _, _, _, _, _, _, _, _, _, _, _, _, _, _, _, _, _, _, _, _, _, _, _, _, _, _, _, _, _, _, _, _, _, _, _, _, _, _, _, _, _, _, _, _, _, _, _, _, _, _, _, _, _, _, _, _, _, _, _, _, _, _, _, _, _, _, _, _, _, rfl⟩))
          · rw [if_neg h0] at hst
            have HE := toHid8 hst
            have j0 : ¬ (i : Int) = 0 := by omega
            have j5 : ¬ (i : Int) = (m : Int) := by omega
            have j6 : (i : Int) + 1 ≤ (m : Int) := by omega
            have j0n : ¬ i = 0 := h0
            have j5n : ¬ i = m := by omega
            have j0b : ((i : Int) == 0) = false := by simpa using j0n
            have j5b : ((i : Int) == (m : Int)) = false := by simpa using j5
            clear hst h0
            have hcut := HRd.out.cut (n := i + 1) (by rw [HM.out]; omega) HBk.out HCap.out HNil.out HRow.out
            rw [HM.out] at hcut
            by_cases hc : c = i + 1
            · have e1 : cutA (some ⟨g, o, none⟩) c (i + 1) = some ⟨g, o, none⟩ := by unfold cutA; rw [if_pos hc]
              rw [e1, show c - (i + 1) = 0 by omega] at hcut
              have HCut := toHid8 hcut
              clear hcut e1
              subst hc
              go_wp2_with fail
              rw [jump_ret]
              go_ret
              exact ⟨fun n' t e => by (rw [HE.out] at e; cases e; exact ⟨rfl, HCut.out⟩), fun e => by (rw [HE.out] at e; cases e), rd_fr _ _ _ _⟩
            · have e1 : cutA (some ⟨g, o, none⟩) c (i + 1) = some ⟨g, o + (i + 1), none⟩ := by unfold cutA; rw [if_neg hc]; simp [Addr.add]
              rw [e1] at hcut
              have HCut := toHid8 hcut
              clear hcut e1
              go_wp2_with fail
              rw [jump_ret]
              go_ret
              exact ⟨fun n' t e => by (rw [HE.out] at e; cases e; exact ⟨rfl, HCut.out⟩), fun e => by (rw [HE.out] at e; cases e), rd_fr _ _ _ _⟩
        case neg =>
          rw [if_neg h58] at hst
          have j5 : ¬ (d : Int) = 58 := by omega
          have k1 : IntKind.i64.wrap (d : Int) = (d : Int) := by simp [IntKind.wrap, IntKind.bits, IntKind.signed]; omega
          have k2 : IntKind.i64.wrap ((d : Int) - 48) = (d : Int) - 48 := by simp [IntKind.wrap, IntKind.bits, IntKind.signed]; omega
          by_cases hdig : d < 48 ∨ 57 < d
          case pos =>
            rw [if_pos hdig] at hst
            have HE := toHid8 hst
            clear hst
            rcases hdig with hd | hd
            · have j6 : (d : Int) - 48 < 0 := by omega
              clear hd
              go_wp2_with fail
              (go_step3; refine (show 0 = 0 ∧ Jmp r w X _ _ from ⟨rfl, HE.out, rfl, _, _, _, _, _, _, _, _, _, _, _, _, _, _, _, _, _, _, _, _, _, _, _, _, _, _, _, _, _, _, _, _, _, _, _, _, _, _, _, _, _, _, _, _, _, _, _, _, _, _, _, _, _, _, _, _, _, _, _, _, _, _, _, _, _, _, _, _, _, _, _, _, _, _, _, _, _, _, _, _, _, rfl⟩))
            · have j6 : ¬ (d : Int) - 48 < 0 := by omega
              have j7 : (9 : Int) < (d : Int) - 48 := by omega
              clear hd
              go_wp2_with fail
              (go_step3; refine (show 0 = 0 ∧ Jmp r w X _ _ from ⟨rfl, HE.out, rfl, _, _, _, _, _, _, _, _, _, _, _, _, _, _, _, _, _, _, _, _, _, _, _, _, _, _, _, _, _, _, _, _, _, _, _, _, _, _, _, _, _, _, _, _, _, _, _, _, _, _, _, _, _, _, _, _, _, _, _, _, _, _, _, _, _, _, _, _, _, _, _, _, _, _, _, _, _, _, _, _, _, rfl⟩))
          case neg =>
            rw [if_neg hdig] at hst
            obtain ⟨k, hk⟩ : ∃ k : Nat, d = k + 48 := ⟨d - 48, by omega⟩
            subst hk
            rw [show k + 48 - 48 = k by omega] at hst
            have j6 : ((k + 48 : Nat) : Int) - 48 = (k : Int) := by omega
            rw [j6] at k2
            have j7 : ¬ (k : Int) < 0 := by omega
            have j8 : ¬ (9 : Int) < (k : Int) := by omega
            have j9 : (k : Int) ≤ 9 := by omega
            clear hdig h58 hb
            by_cases hov : (9223372036854775807 - k) / 10 < n
            case pos =>
              rw [if_pos hov] at hst
              have HE := toHid8 hst
              have o1 : (9223372036854775807 - (k : Int)) / 10 < (n : Int) := by omega
              clear hst hov
              go_wp2_with fail
              (go_step3; refine (show 0 = 0 ∧ Jmp r w X _ _ from ⟨rfl, HE.out, rfl, _, _, _, _, _, _, _, _, _, _, _, _, _, _, _, _, _, _, _, _, _, _, _, _, _, _, _, _, _, _, _, _, _, _, _, _, _, _, _, _, _, _, _, _, _, _, _, _, _, _, _, _, _, _, _, _, _, _, _, _, _, _, _, _, _, _, _, _, _, _, _, _, _, _, _, _, _, _, _, _, _, rfl⟩))
            case neg =>
              rw [if_neg hov] at hst
              have o1 : ¬ (9223372036854775807 - (k : Int)) / 10 < (n : Int) := by omega
              have o2 : (n : Int) ≤ (9223372036854775807 - (k : Int)) / 10 := by omega
              have o3 : 10 * n + k ≤ 9223372036854775807 := by omega
              by_cases hz : 0 < i ∧ n = 0
              case pos =>
                rw [if_pos hz] at hst
                have HE := toHid8 hst
                have z1 : 0 < i := hz.1
                have z2 : (0 : Int) < (i : Int) := by omega
                have z3 : (n : Int) = 0 := by omega
                obtain ⟨_, hz2⟩ := hz
                subst hz2
                clear hst hov z3
                go_wp2_with fail
                (go_step3; refine (show 0 = 0 ∧ Jmp r w X _ _ from ⟨rfl, HE.out, rfl, _, _, _, _, _, _, _, _, _, _, _, _, _, _, _, _, _, _, _, _, _, _, _, _, _, _, _, _, _, _, _, _, _, _, _, _, _, _, _, _, _, _, _, _, _, _, _, _, _, _, _, _, _, _, _, _, _, _, _, _, _, _, _, _, _, _, _, _, _, _, _, _, _, _, _, _, _, _, _, _, _, rfl⟩))
              case neg =>
                rw [if_neg hz] at hst
                have HE := toHid8 hst.symm
                clear hst hov
                by_cases hi0 : i = 0
                · subst hi0
                  rw [Nat.add_zero] at cb
                  go_wp2_with fail
                  exact ⟨⟨0 + 1, 10 * n + k, by omega, o3, by go_num, by go_num, HE.out⟩, by simp [intOf]; omega⟩
                · have z1 : 0 < i := by omega
                  have z2 : (0 : Int) < (i : Int) := by omega
                  have z3 : ¬ n = 0 := by omega
                  have z4 : ¬ (n : Int) = 0 := by omega
                  clear hi0 hz
                  go_wp2_with fail
                  exact ⟨⟨i + 1, 10 * n + k, by omega, o3, by go_num, by go_num, HE.out⟩, by simp [intOf]; omega⟩

end Go.Proofs.YtofpkpomhdhkgaaGreatDoor

namespace Go.Proofs.YtofpkpomhdhkgaaGreatDoor
open Go.RowKit
set_option maxRecDepth 100000

theorem rd_then {r : Nat} {a b c : World} (f : Fr (fun k => k = r) a b) (g : Fr (fun k => k = r) b c) : Fr (fun k => k = r) a c := f.then g

theorem conv_13 (w : World) (ad : Option Addr) (c : Nat) (b : B13) (hrow : ∀ (j : Nat) (x : UInt8), b[j]? = some x → ∃ g o, ad = some ⟨g, o, none⟩ ∧ w.cell? ⟨g, o + j, none⟩ = some (.int .u8 x.toNat)) (hnil : ad = none → c = 0 ∧ b = []) :
    (convert 26 9 (.slice ad b.length c)).run Tryz.prog w = .ok (.string (mkB b)) w := by
  cases ad with
  | none =>
    obtain ⟨rfl, rfl⟩ := hnil rfl
    exact run_convert_bytes_string w 26 9 5 none 0 0 Tryz.underlying26 Tryz.underlying5 Tryz.underlying9
  | some a =>
    refine run_convert_bytes_back w 26 9 5 a c b Tryz.underlying26 Tryz.underlying5 Tryz.underlying9 (fun j hj => ?_)
    obtain ⟨g, o, e, hc⟩ := hrow j _ (List.getElem?_eq_getElem hj)
    cases e
    have e : (⟨g, o, none⟩ : Addr).add j = ⟨g, o + j, none⟩ := by unfold Addr.add; split <;> simp_all
    rw [e]
    exact hc

/-- What a text's call hands back. -/
def TxtPost (N r : Nat) (l : B13) (bad : Bool) (e : Ending) (w' : World) : Prop :=
  (∀ s t, textR l = some (s, t) → e = .returned (.string (mkB s)) ∧ RdAt N w' r t bad) ∧ (textR l = none → ∃ x t, e = .returned (.string x) ∧ RdAt N w' r t true)

theorem txt_yes {N r : Nat} {l t : B13} {bad b2 : Bool} {n : Nat} {w' : World} (hx : (numR 0 0 l = some (n, t) ∧ b2 = bad) ∨ (numR 0 0 l = none ∧ b2 = true)) (hn : n ≤ t.length) (h : RdAt N w' r (t.drop n) b2) : TxtPost N r l bad (.returned (.string (mkB (t.take n)))) w' := by
  unfold TxtPost textR
  rcases hx with ⟨hx, rfl⟩ | ⟨hx, rfl⟩
  · rw [hx]
    simp only [if_pos hn]
    exact ⟨fun s u e => (by cases e; exact ⟨rfl, h⟩), fun e => (by cases e)⟩
  · rw [hx]
    exact ⟨fun s u e => (by cases e), fun _ => ⟨_, _, rfl, h⟩⟩

theorem txt_no {N r : Nat} {l t u : B13} {bad b2 : Bool} {n : Nat} {w' : World} (hx : (numR 0 0 l = some (n, t) ∧ b2 = bad) ∨ (numR 0 0 l = none ∧ b2 = true)) (hn : ¬ n ≤ t.length) (h : RdAt N w' r u true) : TxtPost N r l bad (.returned (.string ⟨#[]⟩)) w' := by
  unfold TxtPost textR
  rcases hx with ⟨hx, rfl⟩ | ⟨hx, rfl⟩
  · rw [hx]
    simp only [if_neg hn]
    exact ⟨fun s u e => (by cases e), fun _ => ⟨_, _, rfl, h⟩⟩
  · rw [hx]
    exact ⟨fun s u e => (by cases e), fun _ => ⟨_, _, rfl, h⟩⟩

theorem num_is {N r : Nat} {l : B13} {bad : Bool} {w : World} {e : Ending} {w' : World} (h : NumPost N w r l bad (numR 0 0 l) e w') :
    ∃ (n : Nat) (t : B13) (b2 : Bool), e = .returned (.int .i64 n) ∧ n ≤ 9223372036854775807 ∧ RdAt N w' r t b2 ∧ ((numR 0 0 l = some (n, t) ∧ b2 = bad) ∨ (numR 0 0 l = none ∧ b2 = true)) ∧ Fr (fun k => k = r) w w' ∧ t.length ≤ l.length := by
  obtain ⟨h1, h2, h3⟩ := h
  cases hx : numR 0 0 l with
  | some x =>
    obtain ⟨n, t⟩ := x
    obtain ⟨g1, g2⟩ := h1 n t hx
    have hf := num_fwd hx
    have hl := congrArg List.length hf.2
    rw [List.length_append] at hl
    exact ⟨n, t, bad, g1, hf.1, g2, .inl ⟨rfl, rfl⟩, h3, by omega⟩
  | none =>
    obtain ⟨g1, g2⟩ := h2 hx
    exact ⟨0, l, true, g1, Nat.zero_le _, g2, .inr ⟨rfl, rfl⟩, h3, Nat.le_refl _⟩

set_option maxHeartbeats 8000000 in
theorem text_any (N r : Nat) (l : B13) (bad : Bool) (w : World) (h : RdAt N w r l bad) :
    Calls Tryz.prog 43 #[.pointer (some ⟨r, 0, none⟩)] w fun e w' => TxtPost N r l bad e w' ∧ Fr (fun k => k = r) w w' := by
  have q1 := number_any N r l bad w h
  clear h
  go_enter Tryz.func43, Tryz.ntmps43
  go_wp2_with fail
  with_reducible refine q1.mono ?_
  intro e w2 hP
  obtain ⟨n, t, b2, rfl, hn, hR, hx, hF, _⟩ := num_is hP
  have HX := toHid8 hx
  have HF := toHid8 hF
  have HRd := toHid8 hR
  obtain ⟨hs, ad, c, hbk, hcap, hnil, hrow⟩ := hR
  clear q1 hP hx hF
  have HBk := toHid8 hbk
  have HRow := toHid8 hrow
  have HCap := toHid8 hcap
  have HNil := toHid8 hnil
  obtain ⟨m, hm⟩ : ∃ m, t.length = m := ⟨_, rfl⟩
  have HM := toHid8 hm
  rw [hm] at hbk hs hcap
  obtain ⟨c0, c1, z0, z1⟩ := rd_cells hbk
  have i0 : (m : Int) ≤ 1000000000 := by omega
  by_cases hle : n ≤ m
  case neg =>
    have i1 : (m : Int) < (n : Int) := by omega
    have HY := toHid8 (show TxtPost N r l bad (.returned (.string ⟨#[]⟩)) (w2.setCell ⟨r, 1, none⟩ (.bool true)) from txt_no HX.out (by rw [HM.out]; exact hle) HRd.out.spoil)
    clear hle hm hbk hcap hnil hrow hs
    go_wp2_with fail
    go_ret
    exact ⟨HY.out, rd_then HF.out (rd_fr _ _ _ _)⟩
  case pos =>
    have i1 : ¬ (m : Int) < (n : Int) := by omega
    have i2 : (n : Int) ≤ (m : Int) := by omega
    have i3 : (n : Int) ≤ (c : Int) := by omega
    have hcut := HRd.out.cut (n := n) (by rw [HM.out]; exact hle) HBk.out HCap.out HNil.out HRow.out
    rw [HM.out] at hcut
    have hy := txt_yes HX.out (by rw [HM.out]; exact hle) hcut
    have hcv : ∀ v, Fr None' w2 v → (convert 26 9 (.slice ad n c)).run Tryz.prog v = .ok (.string (mkB (t.take n))) v := fun v f => by
      have hl : (t.take n).length = n := by rw [List.length_take, HM.out]; omega
      have := conv_13 v ad c (t.take n) (fun j x hj => by
        rw [List.getElem?_take] at hj
        split at hj
        · obtain ⟨g, o, e, _, hc⟩ := HRow.out j x hj
          exact ⟨g, o, e, f.keepCell hc (fun e => e)⟩
        · cases hj) (fun e => by
        have h0 := HNil.out e
        have h1 : n = 0 := by omega
        exact ⟨h0, by rw [h1]; rfl⟩)
      rwa [hl] at this
    have hcv2 := hcv w2 (Fr.refl _ _)
    generalize mkB (t.take n) = S at hy hcv2
    clear hcv hbk hm
    cases ad with
    | none =>
      obtain rfl : c = 0 := hnil rfl
      obtain rfl : m = 0 := by omega
      obtain rfl : n = 0 := by omega
      have HY := toHid8 hy
      clear hy hcut hle hcap hnil hrow hs
      go_wp2_with fail
      go_ret
      exact ⟨HY.out, rd_then HF.out (rd_fr _ _ _ _)⟩
    | some a =>
      by_cases hn0 : n = 0
      · subst hn0
        have ha0 : a.add 0 = a := rfl
        by_cases hc : c = 0
        · subst hc
          have HY := toHid8 hy
          clear hy hcut hle hcap hnil hrow hs
          go_wp2_with fail
          go_ret
          exact ⟨HY.out, rd_then HF.out (rd_fr _ _ _ _)⟩
        · have e1 : cutA (some a) c 0 = some a := by unfold cutA; rw [if_neg hc]; rfl
          rw [e1] at hy
          have HY := toHid8 hy
          clear hy hcut hle hcap hnil hrow hs e1
          go_wp2_with fail
          go_ret
          exact ⟨HY.out, rd_then HF.out (rd_fr _ _ _ _)⟩
      · obtain ⟨g, o, e, -, -⟩ := HRow.out.get (k := 0) (by rw [HM.out]; omega)
        cases e
        have hc0 : ¬ c = 0 := by omega
        by_cases hc : c = n
        · have e1 : cutA (some ⟨g, o, none⟩) c n = some ⟨g, o, none⟩ := by unfold cutA; rw [if_pos hc]
          rw [e1, show c - n = 0 by omega] at hy
          have HY := toHid8 hy
          clear hy hcut hle hcap hnil hrow hs e1
          subst hc
          go_wp2_with fail
          go_ret
          exact ⟨HY.out, rd_then HF.out (rd_fr _ _ _ _)⟩
        · have e1 : cutA (some ⟨g, o, none⟩) c n = some ⟨g, o + n, none⟩ := by unfold cutA; rw [if_neg hc]; simp [Addr.add, hn0]
          rw [e1] at hy
          have HY := toHid8 hy
          clear hy hcut hle hcap hnil hrow hs e1
          go_wp2_with fail
          go_ret
          exact ⟨HY.out, rd_then HF.out (rd_fr _ _ _ _)⟩

end Go.Proofs.YtofpkpomhdhkgaaGreatDoor
