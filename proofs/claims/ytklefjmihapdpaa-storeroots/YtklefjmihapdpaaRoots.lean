/-
  What is proved here: StoreRoots answers true. Condition: its text's size is one of a string.
-/
import Derived.Test.YtklefjmihapdpaaHead3
import Derived.Test.YtklefjmihapdpaaSRName
namespace Go.Proofs.Ytklefjmihapdpaa
open Go.RowKit Go.Maps Go.WideMaps
set_option maxRecDepth 100000

theorem hnamed_is (l : List UInt8) (w : World) (hl : l.length ≤ maxLen) : Calls Try.prog 18 #[.string ⟨l.toArray⟩] w fun e w' => e = .returned (.bool (Sha.namedB l)) ∧ Fr None' w w' :=
  (Sha.rnamed_any ⟨l.toArray⟩ w (by rw [size_mk]; exact hl)).mono fun _ _ ⟨h1, h2⟩ => ⟨h1, fr_of h2⟩

theorem Live.fr {w wi : World} {p : Nat} {S : St} (h : Live w wi p S) : Fr None' w wi := by
  obtain ⟨_, _, h2, _⟩ := h
  exact h2

theorem write_told {w w0 wi : World} {p : Nat} {S : St} (h : Live w w0 p S) (hf : Fr None' w0 wi) (hS : S.fine) (k : List UInt8) (hs : k.length ≤ maxLen) (v : Value) (b : List UInt8) (hv : Bytes wi v b) (hO : Aside w w0 v)
    (hu : used S.F < 1099511627776) (hb : b.length < 1099511627776) {c : Int} {f : Value → St} (hw : ∀ v', S.write ⟨k, v', b⟩ = (c, f v')) :
    Calls Try.prog 19 #[.pointer (some ⟨p, 0, none⟩), .string ⟨k.toArray⟩, v] wi fun e w' => ∃ v', e = .returned (.int .i64 c) ∧ Live w w' p (f v') := by
  refine (live_write h hf hS ⟨k.toArray⟩ (by rw [size_mk]; exact hs) v b hv hO hu hb).mono ?_
  rintro e w' ⟨v', h1, h2⟩
  rw [toList_mk, hw v'] at h1 h2
  exact ⟨v', h1, h2⟩

set_option maxHeartbeats 8000000 in
theorem roots_walk (l : List UInt8) (w : World) (hl : l.length ≤ maxLen) : Calls Try.prog 5 #[.string ⟨l.toArray⟩] w fun e w' => e = .returned (.bool true) ∧ Fr None' w w' := by
  have hsz : (⟨l.toArray⟩ : ByteArray).size = l.length := size_mk l
  have HL : Hid (l.length ≤ maxLen) := hl
  have hnil : ∀ (w : World) (p : Nat), (binOp .eql 26 (.pointer (some ⟨p, 0, none⟩)) (.pointer none)).run Try.prog w = .ok (.bool false) w := fun w p => by rfl
  by_cases hbig : l.length ≤ 3000
  rotate_left
  · have i0 : (3000 : Int) < l.length := by omega
    clear hl
    go_enter Try.func5, Try.ntmps5
    go_wp2_with fail
    refine (head_any _).mono ?_
    rintro e w1 ⟨rfl, f1⟩
    go_wp2
    go_ret
    exact ⟨rfl, f1⟩
  have i0 : (l.length : Int) ≤ 3000 := by omega
  have HB : Hid (l.length ≤ 3000) := hbig
  clear hl hbig
  have C0 := calm_new 1048576
  have r0 : (St.new 1048576).rootB = ([], 12) := rfl
  cases hnb : Sha.namedB l
  · have hN := fun wx => hnamed_is l wx HL.out
    rw [hnb] at hN
    have HN : Hid _ := hN
    have HNB : Hid (Sha.namedB l = false) := hnb
    clear hN hnb
    go_enter Try.func5, Try.ntmps5
    go_wp2_with fail
    refine (head_any _).mono ?_
    rintro e w1 ⟨rfl, f1⟩
    go_wp2_with fail
    refine (live_new 1048576 w1).mono ?_
    rintro e w2 ⟨p, rfl, L2⟩
    have q1 := root_told L2 (by decide) (fun t ht => by simp [St.new] at ht) r0
    go_wp2_with fail
    refine q1.mono ?_
    rintro e w3 ⟨rfl, L3, _⟩
    have q2 := setRoot_no L3 l HL.out HNB.out
    clear q1 L2
    go_wp2_with fail
    refine q2.mono ?_
    rintro e w4 ⟨rfl, L4⟩
    clear q2 L3
    go_wp2_with fail
    refine (HN.out _).mono ?_
    rintro e w5 ⟨rfl, f5⟩
    have L5 := L4.fresh f5
    clear L4 f5
    have q3 := live_acts L5
    rw [show (St.new 1048576).acts = 0 from rfl] at q3
    obtain ⟨c6, w6, hcv, hb6, f6⟩ := conv_str w5 l
    have hw : ∀ v', (St.new 1048576).write ⟨rootK, v', l⟩ = (0, (St.new 1048576).did (Ch.wr ⟨rootK, v', l⟩)) := fun v' => C0.write right_root (by have := HB.out; show l.length ≤ 65536; omega) (Or.inr (by decide)) (by
      have := HB.out
      show (0 : Int) - 0 + l.length ≤ 1048576
      omega)
    have q4 := write_told L5 f6 ((Inv.new 1048576).fine (by omega)) rootK (by decide) _ l hb6 (aside_new w1 w5 _ _) (by decide) (by have := HB.out; omega) hw
    clear hb6 f6 hw
    go_wp2_with fail
    refine q3.mono ?_
    rintro e w7 ⟨rfl, rfl⟩
    clear q3
    go_wp2_with fail
    refine q4.mono ?_
    rintro e w8 ⟨v8, rfl, L8⟩
    have i8 : Inv 1 ((St.new 1048576).did (Ch.wr ⟨rootK, v8, l⟩)) := (Inv.new 1048576).did (fun t e => by cases e; have := HB.out; show l.length ≤ 65536; omega)
    have r8 : ((St.new 1048576).did (Ch.wr ⟨rootK, v8, l⟩)).rootB = ([], 3) := by
      have hR : ((St.new 1048576).did (Ch.wr ⟨rootK, v8, l⟩)).read rootK = (l, 0) := by
        rw [(C0.did _).read]
        have hg : get ((St.new 1048576).did (Ch.wr ⟨rootK, v8, l⟩)).F rootK = some ⟨rootK, v8, l⟩ := get_put_same [] ⟨rootK, v8, l⟩
        rw [hg]
      unfold St.rootB
      rw [hR, HNB.out]
      simp
    have q5 := root_told L8 (L8.used i8 (by omega)) i8.len r8
    clear q4 hcv L5 i8 r8
    go_wp2_with fail
    refine q5.mono ?_
    rintro e w9 ⟨rfl, L9, _⟩
    clear q5 L8
    go_wp2_with fail
    refine (HN.out _).mono ?_
    rintro e w10 ⟨rfl, f10⟩
    have f := f1.then (L9.fr.then f10)
    clear L9 f10 f1
    go_wp2
    go_ret
    exact ⟨rfl, f⟩
  · have hN := fun wx => hnamed_is l wx HL.out
    rw [hnb] at hN
    have HN : Hid _ := hN
    have HNB : Hid (Sha.namedB l = true) := hnb
    clear hN hnb
    go_enter Try.func5, Try.ntmps5
    go_wp2_with fail
    refine (head_any _).mono ?_
    rintro e w1 ⟨rfl, f1⟩
    go_wp2_with fail
    refine (live_new 1048576 w1).mono ?_
    rintro e w2 ⟨p, rfl, L2⟩
    have q1 := root_told L2 (by decide) (fun t ht => by simp [St.new] at ht) r0
    go_wp2_with fail
    refine q1.mono ?_
    rintro e w3 ⟨rfl, L3, _⟩
    have q2 := setRoot_yes L3 (Inv.new 1048576) (by omega) l HNB.out
    clear q1 L2
    go_wp2_with fail
    refine q2.mono ?_
    rintro e w4 ⟨v4, r4, S4, rfl, hE, L4, _⟩
    have hl := namedB_length HNB.out
    have hset := set_ok C0 (by omega) (Or.inr (by decide)) (by
      show (0 : Int) - 0 + l.length ≤ 1048576
      omega) hE
    obtain ⟨k4, hk4⟩ : ∃ k, Inv k S4 ∧ k ≤ 10 := by
      obtain ⟨j, hj, _, h | h⟩ := hE
      · obtain ⟨_, _, rfl⟩ := h
        exact ⟨_, (Inv.new 1048576).after l v4 5, by omega⟩
      · obtain ⟨_, _, _, rfl⟩ := h
        exact ⟨_, (Inv.new 1048576).after l v4 (j + 1), by omega⟩
    have hr4 : r4 = 0 := hset.ok
    subst hr4
    clear q2 L3 hE
    go_wp2_with fail
    refine (HN.out _).mono ?_
    rintro e w5 ⟨rfl, f5⟩
    have L5 := L4.fresh f5
    clear L4 f5
    obtain ⟨c6, w6, hcv, hb6, f6⟩ := conv_str w5 l
    have F4 : S4.F = [⟨rootK, v4, l⟩] := by rw [hset.F]; rfl
    have hw : ∀ v', S4.write ⟨rootK, v', l⟩ = (0, S4.did (Ch.wr ⟨rootK, v', l⟩)) := fun v' => hset.calm.write right_root (by show l.length ≤ 65536; omega) (Or.inr (by rw [F4]; show 1 < 512; decide)) (by
      have e1 : used S4.F = l.length := by rw [F4]; simp [used]
      rw [e1, hset.room]
      show (l.length : Int) - _ + l.length ≤ 1048576
      omega)
    have q4 := write_told L5 f6 (hk4.1.fine (by omega)) rootK (by decide) _ l hb6 (aside_new w1 w5 _ _) (L5.used hk4.1 (by omega)) (by omega) hw
    have HK : Hid (Inv k4 S4 ∧ k4 ≤ 10 ∧ Calm S4) := ⟨hk4.1, hk4.2, hset.calm⟩
    clear hb6 f6 hw F4 hset hk4 L5 hl
    go_wp2_with fail
    refine q4.mono ?_
    rintro e w8 ⟨v8, rfl, L8⟩
    have i8 : Inv (k4 + 1) (S4.did (Ch.wr ⟨rootK, v8, l⟩)) := HK.out.1.did (fun t e => by cases e; have := HB.out; show l.length ≤ 65536; omega)
    have hk8 := HK.out.2.1
    have r8 : (S4.did (Ch.wr ⟨rootK, v8, l⟩)).rootB = (l, 0) := root_ok (t := ⟨rootK, v8, l⟩) (HK.out.2.2.did _) (get_put_same _ ⟨rootK, v8, l⟩) HNB.out
    have q5 := root_told L8 (L8.used i8 (by omega)) i8.len r8
    have hll : ((⟨l.toArray⟩ : ByteArray).toList == (⟨l.toArray⟩ : ByteArray).toList) = true := by simp
    clear q4 hcv i8 r8 hk8
    go_wp2_with fail
    refine q5.mono ?_
    rintro e w9 ⟨rfl, L9, _⟩
    clear q5 L8
    go_wp2_with fail
    refine (HN.out _).mono ?_
    rintro e w10 ⟨rfl, f10⟩
    have f := f1.then (L9.fr.then f10)
    clear L9 f10 f1
    go_wp2
    go_ret
    exact ⟨rfl, f⟩
end Go.Proofs.Ytklefjmihapdpaa
