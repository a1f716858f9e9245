/-
  What is proved here: StoreClash answers true. Condition: its two texts lie in memory.
-/
import Derived.Test.YtklefjmihapdpaaOf
import Derived.Test.YtklefjmihapdpaaSRName
import Derived.Test.YtklefjmihapdpaaArgs3
namespace Go.Proofs.Ytklefjmihapdpaa
open Go.RowKit Go.Maps Go.WideMaps
set_option maxRecDepth 100000

theorem Live.fr {w wi : World} {p : Nat} {S : St} (h : Live w wi p S) : Fr None' w wi := by
  obtain ⟨_, _, h2, _⟩ := h
  exact h2

theorem hname_is {w : World} {a : Option Addr} {n c : Nat} {b : List UInt8} (h : Arg w (.slice a n c) b) (hb : b.length ≤ 50000) : Calls Try.prog 14 #[.slice a n c] w fun e w' => e = .returned (.string ⟨(nm b).toArray⟩) ∧ Fr None' w w' := by
  have hn : n = b.length := by
    obtain ⟨_, _, e, _⟩ := h.byt
    cases e
    rfl
  subst hn
  have hc : a = none → c = 0 := fun e => by
    subst e
    rcases h.bytes with ⟨e1, _⟩ | ⟨ad, c', e1, _⟩
    · injection e1
    · injection e1 with e2 _ _
      cases e2
  exact (Sha.rname_any a b.length c (mOf b) w h.byt hc hb).mono fun _ _ ⟨h1, h2⟩ => ⟨h1, fr_of h2⟩

theorem rfile_any (l : List UInt8) (w : World) (hl : l.length = 64) : Calls Try.prog 16 #[.string ⟨l.toArray⟩] w fun e w' => e = .returned (.string ⟨(fileK l).toArray⟩) ∧ Fr None' w w' := by
  have h2 : (⟨(fileK l).toArray⟩ : ByteArray) = ⟨#[111, 46]⟩ ++ (⟨l.toArray⟩ : ByteArray).extract 0 32 := by
    apply ByteArray.ext
    rw [ByteArray.data_append, ByteArray.data_extract]
    unfold fileK
    simp
  have hz : (⟨l.toArray⟩ : ByteArray).size = 64 := by rw [size_mk, hl]
  rw [h2]
  generalize (⟨l.toArray⟩ : ByteArray) = s at hz ⊢
  clear h2 hl
  go_enter Try.func16, Try.ntmps16
  go_wp2_with fail
  go_ret
  exact ⟨rfl, Fr.refl _ _⟩

theorem files_one {w : World} {k wrong : List UInt8} {a : Option Addr} {n c : Nat} (h : Bytes w (.slice a n c) wrong) (hl : Low w (.slice a n c)) (hk : k.length ≤ maxLen) :
    FilesAt (w.alloc (.cells #[.string ⟨k.toArray⟩, .slice a n c] 42)) (w.alloc (.cells #[.string ⟨k.toArray⟩, .slice a n c] 42)).heap.size (.slice (some ⟨w.heap.size, 0, none⟩) 1 1) [⟨⟨k.toArray⟩, wrong⟩] := by
  refine Or.inr ⟨⟨w.heap.size, 0, none⟩, 1, rfl, fun i f hi => ?_⟩
  obtain rfl : i = 0 := by
    have := (List.getElem?_eq_some_iff.1 hi).1
    simpa using this
  simp at hi
  subst hi
  have hh := (MapKept.heap_alloc w (.cells #[.string ⟨k.toArray⟩, .slice a n c] 42)).1
  refine ⟨rfl, by simp, .slice a n c, ⟨h.fresh (Fr.alloc _ _ _), fun ad n' c' e h0 => ?_, by rw [size_mk]; exact hk⟩, ?_, ?_⟩
  · have := hl ad n' c' e h0
    simp
    omega
  · unfold World.cell?
    simp only [hh]
    rfl
  · unfold World.cell?
    simp only [hh]
    rfl

set_option maxHeartbeats 8000000 in
theorem clash_walk (ab aw : Option Addr) (nb cb nw cw : Nat) (b wrong : List UInt8) (w : World) (hb : Arg w (.slice ab nb cb) b) (lb : Low w (.slice ab nb cb)) (eb : nb = b.length) (hw : Arg w (.slice aw nw cw) wrong) (lw : Low w (.slice aw nw cw)) (ew : nw = wrong.length) :
    Calls Try.prog 4 #[.slice ab nb cb, .slice aw nw cw] w fun e w' => e = .returned (.bool true) ∧ Fr None' w w' := by
  have hnil : ∀ (w : World) (p : Nat), (binOp .eql 26 (.pointer (some ⟨p, 0, none⟩)) (.pointer none)).run Try.prog w = .ok (.bool false) w := fun w p => by rfl
  have HA : Hid (Arg w (.slice ab nb cb) b ∧ Low w (.slice ab nb cb)) := ⟨hb, lb⟩
  have HW : Hid (Arg w (.slice aw nw cw) wrong ∧ Low w (.slice aw nw cw)) := ⟨hw, lw⟩
  clear hb lb hw lw
  subst eb
  subst ew
  by_cases hg : b.length ≤ 1000 ∧ wrong.length ≤ 1000
  rotate_left
  · have hcs : (1000 : Int) < b.length ∨ ((b.length : Int) ≤ 1000 ∧ (1000 : Int) < wrong.length) := by omega
    clear hg
    rcases hcs with g1 | ⟨g1, g2⟩
    all_goals
      go_enter Try.func4, Try.ntmps4
      go_wp2_with fail
      refine (head_any _).mono ?_
      rintro e w1 ⟨rfl, f1⟩
      go_wp2
      go_ret
      exact ⟨rfl, f1⟩
  obtain ⟨g1, g2⟩ := hg
  have j1 : (b.length : Int) ≤ 1000 := by omega
  have j2 : (wrong.length : Int) ≤ 1000 := by omega
  have HG : Hid (b.length ≤ 1000 ∧ wrong.length ≤ 1000) := ⟨g1, g2⟩
  clear g1 g2
  go_enter Try.func4, Try.ntmps4
  go_wp2_with fail
  refine (head_any _).mono ?_
  rintro e w1 ⟨rfl, f1⟩
  have q1 := hname_is (HA.out.1.fresh f1) (by have := HG.out; omega)
  go_wp2_with fail
  refine q1.mono ?_
  rintro e w2 ⟨rfl, f2⟩
  have f02 := f1.then f2
  clear q1 f1 f2
  obtain ⟨x, hx⟩ : ∃ x, nm b = x := ⟨_, rfl⟩
  rw [hx]
  have HX : Hid (nm b = x ∧ x.length = 64) := ⟨hx, by rw [← hx]; exact nm_length b⟩
  clear hx
  have q2 := rfile_any x w2 HX.out.2
  go_wp2_with fail
  refine q2.mono ?_
  rintro e w3 ⟨rfl, f3⟩
  have f03 := f02.then f3
  clear q2 f02 f3
  have hF := files_one (k := fileK x) (HW.out.1.bytes.fresh f03) (fun ad n c e h0 => Nat.lt_of_lt_of_le (HW.out.2 ad n c e h0) f03.size) (by have := fileK_length HX.out.2; have := max100; omega)
  obtain ⟨wa, hwa⟩ : ∃ wa, w3.alloc (.cells #[.string ⟨(fileK x).toArray⟩, .slice aw wrong.length cw] 42) = wa := ⟨_, rfl⟩
  have f0a : Fr None' w wa := hwa ▸ f03.then (Fr.alloc None' _ _)
  rw [hwa] at hF
  have q3 := of_any 1048576 _ _ wa hF
  clear hF f03
  go_wp2_with fail
  refine q3.mono ?_
  rintro e w4 h4
  clear q3 hwa
  obtain ⟨p, T, rfl, hB, L4⟩ : ∃ p T, e = .returned (.pointer (some ⟨p, 0, none⟩)) ∧ Built [⟨⟨(fileK x).toArray⟩, wrong⟩] 1 T ∧ Live wa w4 p (St.of 1048576 T 1) := by
    rcases h4 with ⟨_, h, _⟩ | ⟨p, T, h1, _, _, h2, h3⟩
    · exfalso
      apply h
      refine ⟨by simp, fun i f hi hf => ?_⟩
      obtain rfl : i = 0 := by simpa using hi
      simp at hf
      subst hf
      refine ⟨?_, by have := HG.out; show wrong.length ≤ 65536; omega, fun j g hj => by omega⟩
      show right (fileK x) = true
      rw [← HX.out.1]
      exact right_file (namedB_nm b)
    · exact ⟨p, T, h1, h2, h3⟩
  obtain ⟨S, hS⟩ : ∃ S, St.of 1048576 T 1 = S := ⟨_, rfl⟩
  rw [hS] at L4
  have C4 : Calm S := hS ▸ ⟨rfl, rfl⟩
  have i4 : Inv 0 S := hS ▸ ⟨by simp [St.of, St.new], by simp [St.of, St.new], by simp [St.of, St.new], by simp [St.of, St.new], fun t ht => by
      obtain ⟨i, f, hi, hf, _, hb⟩ := hB.only t ht
      obtain rfl : i = 0 := by omega
      simp at hf
      subst hf
      rw [hb]
      have := HG.out
      show wrong.length ≤ 65536
      omega, fun t ht => by
      obtain ⟨i, f, hi, hf, _, hb⟩ := hB.only t ht
      obtain rfl : i = 0 := by omega
      simp at hf
      subst hf
      rw [hb]
      have := HG.out
      show wrong.length ≤ 65536
      omega, fun c hc => by simp [St.of, St.new] at hc⟩
  obtain ⟨t, ht, htb⟩ : ∃ t, get S.F (fileK x) = some t ∧ t.b = wrong := by
    obtain ⟨t, h1, h2⟩ := hB.has 0 _ (by omega) rfl
    exact ⟨t, by rw [← hS]; exact h1, h2⟩
  have hac : S.acts = 0 := by rw [← hS]; rfl
  have hR : S.read (fileK x) = (wrong, 0) := by rw [C4.read, ht]; show (t.b, 0) = (wrong, 0); rw [htb]
  have hgB : S.getB x = if nm wrong = x then (wrong, 0) else ([], 3) := by
    unfold St.getB
    rw [hR, ← HX.out.1, namedB_nm]
    simp
  have HS : Hid (Inv 0 S ∧ S.acts = 0 ∧ S.getB x = if nm wrong = x then (wrong, 0) else ([], 3)) := ⟨i4, hac, hgB⟩
  have hu := L4.used i4 (by omega)
  have hf4 := i4.fine (by omega)
  have f04 := f0a.then L4.fr
  have hbq := beq_lists b wrong
  by_cases hbw : b = wrong
  · subst hbw
    have hp : ∀ v', S.put b v' = (x, 0, S) := fun v' => by
      obtain ⟨hx, _⟩ := HX.out
      rw [← hx]
      exact put_same C4 b v' (by rw [hx]; exact ht) htb
    have q4 := put_told L4 (Fr.refl None' w4) hf4 _ b (HA.out.1.fresh f04) (low HA.out.2 f0a) hu (by have := HG.out; omega) hp
    rw [decide_eq_true rfl] at hbq
    clear hp hB hS C4 i4 ht htb hac hR hgB hu hf4 L4 h4
    go_wp2_with fail
    refine q4.mono ?_
    rintro e w5 ⟨_, rfl, L5⟩
    clear q4
    obtain ⟨i4, hac, hgB⟩ := HS.out
    rw [if_pos HX.out.1] at hgB
    have q5 := get_told L5 x (by rw [HX.out.2]; decide) (L5.used i4 (by omega)) i4.len hgB
    clear i4 hac hgB L5
    go_wp2_with fail
    refine q5.mono ?_
    rintro e w6 ⟨v6, rfl, _, L6, _⟩
    clear q5
    have f06 := f0a.then L6.fr
    have hs1 := str_any (HA.out.1.fresh f06).bytes
    have hs2 := str_any (HW.out.1.fresh f06).bytes
    have hxx : ((⟨x.toArray⟩ : ByteArray).toList == (⟨x.toArray⟩ : ByteArray).toList) = true := by simp
    have q6 := live_acts L6
    rw [HS.out.2.1] at q6
    clear L6 hbq
    generalize (⟨x.toArray⟩ : ByteArray) = sx at hxx ⊢
    generalize (⟨b.toArray⟩ : ByteArray) = sb at hs1 hs2
    have hbb : (sb.toList == sb.toList) = true := by simp
    go_wp2_with fail
    refine q6.mono ?_
    rintro e w7 ⟨rfl, rfl⟩
    clear q6
    go_wp2
    go_ret
    exact ⟨rfl, f06⟩
  · have hp : ∀ v', S.put b v' = ([], 31, S) := fun v' => by
      unfold St.put
      rw [HX.out.1, hR]
      simp [Ne.symm hbw]
    have q4 := put_told L4 (Fr.refl None' w4) hf4 _ b (HA.out.1.fresh f04) (low HA.out.2 f0a) hu (by have := HG.out; omega) hp
    rw [decide_eq_false hbw] at hbq
    clear hp hB hS C4 i4 ht htb hac hR hgB hu hf4 L4 h4 hbw
    go_wp2_with fail
    refine q4.mono ?_
    rintro e w5 ⟨_, rfl, L5⟩
    clear q4
    obtain ⟨r1, r2, hr, hr2⟩ : ∃ r1 r2, S.getB x = (r1, r2) ∧ ((r2 == 3) = !(decide (nm wrong = x))) := by
      rw [HS.out.2.2]
      by_cases h : nm wrong = x
      · exact ⟨_, _, if_pos h, by rw [decide_eq_true h]; rfl⟩
      · exact ⟨_, _, if_neg h, by rw [decide_eq_false h]; rfl⟩
    have q5 := get_told L5 x (by rw [HX.out.2]; decide) (L5.used HS.out.1 (by omega)) HS.out.1.len hr
    have HR2 : Hid ((r2 == 3) = !(decide (nm wrong = x))) := hr2
    clear L5 hr hr2
    go_wp2_with fail
    refine q5.mono ?_
    rintro e w6 ⟨v6, rfl, _, L6, _⟩
    clear q5
    have f06 := f0a.then L6.fr
    have hs1 := str_any (HA.out.1.fresh f06).bytes
    have hs2 := str_any (HW.out.1.fresh f06).bytes
    have q6 := hname_is (HW.out.1.fresh f06) (by have := HG.out; omega)
    have hxx := beq_lists (nm wrong) x
    have hr3 := HR2.out
    obtain ⟨B, hB⟩ : ∃ B, decide (nm wrong = x) = B := ⟨_, rfl⟩
    rw [hB] at hxx hr3
    generalize (⟨x.toArray⟩ : ByteArray) = sx at hxx ⊢
    generalize (⟨b.toArray⟩ : ByteArray) = sb at hs1 hbq
    generalize (⟨wrong.toArray⟩ : ByteArray) = sw at hs2 hbq
    generalize (⟨(nm wrong).toArray⟩ : ByteArray) = sn at q6 hxx
    clear hB
    go_wp2_with fail
    refine q6.mono ?_
    rintro e w7 ⟨rfl, f7⟩
    clear q6
    have q7 := live_acts (L6.fresh f7)
    rw [HS.out.2.1] at q7
    have f07 := f06.then f7
    clear L6 f7 hs1 hs2 hbq f06 HR2
    have hr4 : Hid ((r2 == 3) = !B) := hr3
    have hx4 : Hid ((sn.toList == sx.toList) = B) := hxx
    clear hr3 hxx
    cases B
    · have a1 : (r2 == 3) = true := hr4.out
      have a2 : (sn.toList == sx.toList) = false := hx4.out
      have a3 : r2 = 3 := by simpa using a1
      subst a3
      clear a1 hr4 hx4
      go_wp2_with fail
      refine q7.mono ?_
      rintro e w8 ⟨rfl, rfl⟩
      clear q7
      go_wp2
      go_ret
      exact ⟨rfl, f07⟩
    · have a1 : (r2 == 3) = false := hr4.out
      have a2 : (sn.toList == sx.toList) = true := hx4.out
      have a3 : ¬ r2 = 3 := by simpa using a1
      clear hr4 hx4
      go_wp2_with fail
      refine q7.mono ?_
      rintro e w8 ⟨rfl, rfl⟩
      clear q7
      go_wp2
      go_ret
      exact ⟨rfl, f07⟩
end Go.Proofs.Ytklefjmihapdpaa
