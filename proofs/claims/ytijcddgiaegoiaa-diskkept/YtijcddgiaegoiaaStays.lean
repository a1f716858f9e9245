/-
  What is proved here: DiskStays answers true, whatever its files, its calls and what it keeps. Condition: what came in lies in memory, and is no greater than the reach.
-/
import Derived.Test.YtijcddgiaegoiaaOf
import Derived.Test.YtijcddgiaegoiaaLiveMore
import Derived.Deep.QuietTactic
import Derived.BigQuiet
namespace Go.Proofs.Ytijcddgiaegoiaa
open Go.RowKit Go.Maps Go.WideMaps
set_option maxRecDepth 100000

theorem Fr.drewN (w : World) (n : Nat) : Fr None' w (w.drewN n) := ⟨rfl, rfl, rfl, Nat.le_refl _, fun _ _ _ => rfl⟩

theorem toList_beq (x y : ByteArray) : (x.toList == y.toList) = decide (x.data.toList = y.data.toList) := by
  rw [ByteArray.toList_eq, ByteArray.toList_eq]
  generalize x.data.toList = a
  generalize y.data.toList = b
  by_cases h : a = b <;> simp [h]

theorem Live.used {w wi : World} {p k : Nat} {S : St} (h : Live w wi p S) (hi : Inv k S) (hk : k ≤ 1000) : used S.F < 1099511627776 := by
  obtain ⟨M, h1, _, _⟩ := h
  exact h1.used hi hk

theorem LowN.higher {B B' : Nat} {v : Value} (h : LowN B v) (hB : B ≤ B') : LowN B' v := fun ad n c e h0 => Nat.lt_of_lt_of_le (h ad n c e h0) hB

theorem FilesAt.higher {w : World} {B B' : Nat} {v : Value} {L : List FileD} (h : FilesAt w B v L) (hB : B ≤ B') : FilesAt w B' v L := by
  rcases h with h | ⟨ad, c, hv, hc⟩
  · exact Or.inl h
  · refine Or.inr ⟨ad, c, hv, fun i o hi => ?_⟩
    obtain ⟨h0, h1, vb, h2, r⟩ := hc i o hi
    exact ⟨h0, by omega, vb, ⟨h2.1, h2.2.1.higher hB, h2.2.2⟩, r⟩

/-- The call speaks of the name. -/
def Touches (o : OpD) (k : List UInt8) : Prop := o.a.data.toList = k ∨ (o.what = 2 ∧ o.to.data.toList = k)

/-- The change does not speak of the name. -/
def Leaves (c : Ch) (k : List UInt8) : Prop := (∀ t, c = Ch.wr t → t.k ≠ k) ∧ (∀ a b, c = Ch.mv a b → a ≠ k ∧ b ≠ k) ∧ (∀ x, c = Ch.rm x → x ≠ k)

theorem leaves_wr {t : Tri} {k : List UInt8} (h : t.k ≠ k) : Leaves (Ch.wr t) k := ⟨(fun t' e => by cases e; exact h), (fun a b e => by cases e), (fun x e => by cases e)⟩
theorem leaves_mv {a b k : List UInt8} (h1 : a ≠ k) (h2 : b ≠ k) : Leaves (Ch.mv a b) k := ⟨(fun t' e => by cases e), (fun a b e => by cases e; exact ⟨h1, h2⟩), (fun x e => by cases e)⟩
theorem leaves_rm {x k : List UInt8} (h : x ≠ k) : Leaves (Ch.rm x) k := ⟨(fun t' e => by cases e), (fun a b e => by cases e), (fun x e => by cases e; exact h)⟩

theorem get_app {c : Ch} {k : List UInt8} {T : List Tri} (h : Leaves c k) : get (c.app T) k = get T k := by
  rcases c.three with ⟨t, rfl⟩ | ⟨a, b, rfl⟩ | ⟨x, rfl⟩
  · exact get_put_other (Ne.symm (h.1 t rfl))
  · obtain ⟨h1, h2⟩ := h.2.1 a b rfl
    simp only [Ch.app]
    split
    · rfl
    · rename_i t ht
      rw [get_put_other (x := { t with k := b }) (Ne.symm h2), get_del_other (Ne.symm h1)]
  · exact get_del_other (Ne.symm (h.2.2 x rfl))

theorem get_rep {ch : List Ch} {keep : List Bool} {Y : List Tri} {k : List UInt8} (h : ∀ c ∈ ch, Leaves c k) : ∀ i, get (rep ch keep Y i) k = get Y k
  | 0 => rfl
  | i + 1 => by
    have ih := get_rep (keep := keep) (Y := Y) h i
    unfold rep
    split
    · rename_i c h1 h2
      rw [get_app (h c (List.mem_of_getElem? h1)), ih]
    · exact ih

/-- What was synced stays so, and each change since is one of the call's own. -/
theorem does_stays {S : St} {o : OpD} {v : Value} (h4 : o.what ≠ 4) (h6 : o.what ≠ 6) : (S.does o v).2.Y = S.Y ∧ ∀ c ∈ (S.does o v).2.ch, c ∈ S.ch ∨ ∀ k, ¬ Touches o k → Leaves c k := by
  have hk : ∀ {k : List UInt8}, ¬ Touches o k → o.a.data.toList ≠ k := fun h e => h (Or.inl e)
  have base : S.asked.Y = S.Y ∧ ∀ c ∈ S.asked.ch, c ∈ S.ch ∨ ∀ k, ¬ Touches o k → Leaves c k := ⟨rfl, fun c hc => Or.inl hc⟩
  have did : ∀ c0 : Ch, (∀ k, ¬ Touches o k → Leaves c0 k) → (S.asked.did c0).Y = S.Y ∧ ∀ c ∈ (S.asked.did c0).ch, c ∈ S.ch ∨ ∀ k, ¬ Touches o k → Leaves c k := fun c0 h0 => by
    refine ⟨rfl, fun c hc => ?_⟩
    rcases List.mem_append.1 (show c ∈ S.ch ++ [c0] from hc) with h | h
    · exact Or.inl h
    · simp at h; subst h; exact Or.inr h0
  unfold St.does
  split
  · unfold St.write
    split
    · exact base
    · split
      · exact did _ (fun k hn => leaves_wr (hk hn))
      · exact base
  · split
    · rename_i h2
      unfold St.rename
      split
      · exact base
      · split
        · exact base
        · split
          · exact base
          · exact did _ (fun k hn => leaves_mv (hk hn) (fun e => hn (Or.inr ⟨h2, e⟩)))
    · split
      · unfold St.remove
        split
        · exact base
        · split
          · exact base
          · exact did _ (fun k hn => leaves_rm (hk hn))
      · split
        · exact ⟨rfl, fun c hc => Or.inl hc⟩
        · exact ⟨rfl, fun c hc => Or.inl hc⟩

/-- Each change since is one of the first k calls' own. -/
def Clean (L : List OpD) (n : Nat) (S : St) : Prop := ∀ c ∈ S.ch, ∀ k, (∀ j o, j < n → L[j]? = some o → ¬ Touches o k) → Leaves c k

theorem Clean.does {L : List OpD} {n : Nat} {S : St} {o : OpD} (h : Clean L n S) (ho : L[n]? = some o) (h4 : o.what ≠ 4) (h6 : o.what ≠ 6) (v : Value) : Clean L (n + 1) (S.does o v).2 := by
  intro c hc k hk
  rcases (does_stays (S := S) (v := v) h4 h6).2 c hc with h1 | h1
  · exact h c h1 k (fun j o' hj ho' => hk j o' (by omega) ho')
  · exact h1 k (hk n o (by omega) ho)

theorem Clean.more {L : List OpD} {n : Nat} {S : St} (h : Clean L n S) : Clean L (n + 1) S := fun c hc k hk => h c hc k (fun j o hj ho => hk j o (by omega) ho)

/-- tb tells whether one of the first n calls speaks of the name. -/
def Met (L : List OpD) (n : Nat) (k : List UInt8) (tb : Bool) : Prop := tb = true ↔ ∃ j o, j < n ∧ L[j]? = some o ∧ Touches o k

theorem Met.start (L : List OpD) (k : List UInt8) : Met L 0 k false := ⟨(fun e => by cases e), (fun ⟨j, o, h, _⟩ => by omega)⟩

theorem Met.step {L : List OpD} {n : Nat} {k : List UInt8} {tb tb' : Bool} {o : OpD} (h : Met L n k tb) (ho : L[n]? = some o) (ht : tb' = true ↔ (tb = true ∨ Touches o k)) : Met L (n + 1) k tb' := by
  unfold Met at h ⊢
  rw [ht, h]
  constructor
  · rintro (⟨j, o', h1, h2, h3⟩ | h1)
    · exact ⟨j, o', by omega, h2, h3⟩
    · exact ⟨n, o, by omega, ho, h1⟩
  · rintro ⟨j, o', h1, h2, h3⟩
    by_cases e : j = n
    · subst e
      rw [ho] at h2; cases h2
      exact Or.inr h3
    · exact Or.inl ⟨j, o', by omega, h2, h3⟩

theorem Met.none {L : List OpD} {k : List UInt8} (h : Met L L.length k false) : ∀ (j : Nat) (o : OpD), L[j]? = some o → ¬ Touches o k := fun j o ho ht => by
  have := h.2 ⟨j, o, (List.getElem?_eq_some_iff.1 ho).1, ho, ht⟩
  cases this

theorem inv_of {room : Int} {T : List Tri} {L : List FileD} (hl : L.length ≤ 512) (hg : Good L L.length) (hb : Built L L.length T) : Inv 0 (St.of room T L.length) := by
  have hs : Small T := fun t ht => by
    obtain ⟨i, f, h1, h2, _, h4⟩ := hb.only t ht
    rw [h4]; exact (hg i f h1 h2).2.1
  exact ⟨by simp [St.of, St.new], by simp [St.of, St.new], by simp [St.of, St.new], by simp [St.of, St.new]; omega, hs, hs, fun c hc => by simp [St.of, St.new] at hc⟩

set_option maxHeartbeats 8000000 in
theorem stays_walk (vf vl vk : Value) (FL : List FileD) (L : List OpD) (keep : List Bool) (w : World) (hfl : FilesAt w w.heap.size vf FL) (hFL : FL.length ≤ reachBytes) (hl : OpsAt w w.heap.size vl L) (hL : L.length ≤ reachBytes) (hkp : Bools w vk keep) (hlk : LowN w.heap.size vk) :
    Calls Try.prog 4 #[vf, vl, vk] w fun e w' => e = .returned (.bool true) ∧ Fr None' w w' := by
  obtain ⟨fa, fc, rfl, hfat⟩ := hfl.shape
  obtain ⟨va, vc, rfl, hat⟩ := hl.shape
  obtain ⟨ka, kc, rfl⟩ := bools_slice hkp
  go_enter Try.func4, Try.ntmps4
  go_wp2_with fail
  refine (head_any w).mono ?_
  rintro e w1 ⟨rfl, F1⟩
  go_wp2_with fail
  have hB := F1.size
  have hOf := of_any 1048576 _ FL w1 (by
    have h1 := hfl.kept F1 (fun _ e => e.elim) (Nat.le_refl _)
    exact h1.higher hB)
  refine hOf.mono ?_
  rintro e w2 (⟨rfl, hbad, F2⟩ | ⟨p, T, rfl, h512, hgood, hbuilt, L0⟩)
  · clear hOf hbad hB
    go_wp2
    go_ret
    exact ⟨rfl, F1.then F2⟩
  · have L0' := L0.lower F1
    clear hOf hB L0
    go_wp2_with fail
    refine (greatFiles_any w.heap.size _ FL w2 (hfl.kept L0'.fr (fun _ e => e.elim) (Nat.le_refl _)) hFL).mono ?_
    rintro e w3 ⟨gf, rfl, F3⟩
    cases gf
    · have L1 := L0'.fresh F3
      go_wp2_with fail
      refine (great_any w.heap.size _ L w3 (hl.kept L1.fr (fun _ e => e.elim) (Nat.le_refl _)) hL).mono ?_
      rintro e w4 ⟨g, rfl, F4, hg⟩
      cases g
      · obtain ⟨hl3, hbs⟩ := hg rfl
        have L2 := L1.fresh F4
        have i2 := inv_of (room := 1048576) h512 hgood hbuilt
        clear hg L1 L0' F3 F4 F1 hFL hL
        go_wp2_with fail
        go_loopw [9] (fun i wr => ∃ (k : Nat) (S : St), k ≤ L.length ∧ i = .int .i64 k ∧ Live w wr p S ∧ Inv k S ∧ S.Y = T ∧ Clean L k S) (fun i _ => L.length - (intOf i).toNat)
        case atStart => exact ⟨0, _, Nat.zero_le _, rfl, L2, i2, rfl, fun c hc => by simp [St.of, St.new] at hc⟩
        case round =>
          obtain ⟨k, S, hk, rfl, hlive, hinv, hY, hcl⟩ := hrel
          clear L2 i2
          by_cases hlt : k < L.length
          · obtain ⟨o, ho⟩ : ∃ o, L[k]? = some o := ⟨L[k], by simp [hlt]⟩
            obtain ⟨g, off, vb, vk, rfl, hgB, hov, hkl, c0, c1, c2, c3, c4, c5⟩ := hat k o ho
            have hob := (hbs o (List.mem_of_getElem? ho)).1
            have ho' := hov.kept hlive.fr (fun _ e => e.elim)
            have hce : ∀ off, wr.cell? ⟨g, off, none⟩ = w.cell? ⟨g, off, none⟩ := fun off => World.cell?_of_block (w := w) (a := ⟨g, off, none⟩) (hlive.fr.block g hgB (fun e => e))
            have d0 := (hce _).trans c0
            have d1 := (hce _).trans c1
            have d2 := (hce _).trans c2
            have d3 := (hce _).trans c3
            have d4 := (hce _).trans c4
            have d5 := (hce _).trans c5
            have hon := hov.2.2.2.2.2.2.2.1
            obtain ⟨sb, cb, rfl⟩ := bytes_slice hov.1
            obtain ⟨sk, ck, rfl⟩ := bools_slice hov.2.1
            have i0 : (0 : Int) ≤ (k : Int) := by omega
            have i1 : (k : Int) < (L.length : Int) := by omega
            have HC : Hid (Clean L k S ∧ L[k]? = some o ∧ S.Y = T) := ⟨hcl, ho, hY⟩
            clear hat hfat hfl hce c0 c1 c2 c3 c4 c5 hov hkl hl hlk hkp hbs ho hcl hY hgood hbuilt
            by_cases h4 : o.what = 4
            · have t4 : (o.what != 4) = false := by simpa using h4
              have hinv' := hinv.more (Nat.le_succ k)
              clear h4
              go_wp2
              go_roundw
              case rel => exact ⟨k + 1, S, by omega, by go_num, hlive, hinv', HC.out.2.2, HC.out.1.more⟩
              case measure => simp [intOf]; omega
            · have t4 : (o.what != 4) = true := by simpa using h4
              by_cases h6 : o.what = 6
              · have t6 : (o.what != 6) = false := by simpa using h6
                have hinv' := hinv.more (Nat.le_succ k)
                clear h4 h6
                go_wp2
                go_roundw
                case rel => exact ⟨k + 1, S, by omega, by go_num, hlive, hinv', HC.out.2.2, HC.out.1.more⟩
                case measure => simp [intOf]; omega
              · have t6 : (o.what != 6) = true := by simpa using h6
                have HN : Hid (o.what ≠ 4 ∧ o.what ≠ 6) := ⟨h4, h6⟩
                clear h4 h6
                go_wp2_with fail
                refine (live_does hlive hinv (by omega) o _ _ ho' hob).mono ?_
                rintro e w5 ⟨v, rfl, L5⟩
                have i5 := hinv.does o v hon
                have y5 := (does_stays (S := S) (v := v) HN.out.1 HN.out.2).1.trans HC.out.2.2
                have c5' := HC.out.1.does HC.out.2.1 HN.out.1 HN.out.2 v
                have H5 : Hid ((S.does o v).2.Y = T ∧ Clean L (k + 1) (S.does o v).2) := ⟨y5, c5'⟩
                clear y5 c5'
                generalize (S.does o v).2 = S5 at L5 i5 H5
                go_wp2
                go_roundw
                case rel => exact ⟨k + 1, S5, by omega, by go_num, L5, i5, H5.out.1, H5.out.2⟩
                case measure => simp [intOf]; omega
          · have hkL : k = L.length := by omega
            subst hkL
            clear hlt hk
            go_wp2_with fail
            refine (live_crash hlive (Fr.refl _ _) (hinv.fine (by omega)) _ keep (hkp.kept hlive.fr (fun _ _ _ _ _ e => e)) (fun ad n' c e h0 => Or.inl (hlk ad n' c e h0))).mono ?_
            rintro e w5 ⟨rfl, L5⟩
            have i5 : Inv (L.length + 1) (S.crash keep) := ⟨hinv.a0, by have := hinv.a1; simp [St.crash]; omega, by simp [St.crash], by have := hinv.nc; simp [St.crash]; omega, small_rep hinv.sY hinv.sC _, small_rep hinv.sY hinv.sC _, fun c hc => by simp [St.crash] at hc⟩
            have hstay : Hid (∀ (i : Nat) (f : FileD), FL[i]? = some f → (∀ (j : Nat) (o : OpD), L[j]? = some o → ¬ Touches o f.k) → (S.crash keep).read f.k = (f.b, 0)) := fun i f hf hno => by
              obtain ⟨t, h1, h2⟩ := hbuilt.has i f (List.getElem?_eq_some_iff.1 hf).1 hf
              have h3 : get (S.crash keep).F f.k = some t := by
                show get (rep S.ch keep S.Y S.ch.length) f.k = some t
                rw [get_rep (fun c hc => hcl c hc f.k (fun j o _ ho => hno j o ho)), hY, h1]
              have hd : (S.crash keep).down = false := rfl
              simp only [St.read, hd, h3, h2]
              rfl
            generalize S.crash keep = S5 at L5 i5 hstay
            clear hlive hinv hY hcl hbuilt hgood hkp hlk
            go_wp2_with fail
            go_loopw [10] (fun i wr => ∃ k : Nat, k ≤ FL.length ∧ i = .int .i64 k ∧ Live w wr p S5) (fun i _ => FL.length - (intOf i).toNat)
            case atStart => exact ⟨0, Nat.zero_le _, rfl, L5⟩
            case round =>
              obtain ⟨i, hi, rfl, hlive⟩ := hrel
              clear L5
              by_cases hlt : i < FL.length
              · obtain ⟨f, hf⟩ : ∃ f, FL[i]? = some f := ⟨FL[i], by simp [hlt]⟩
                obtain ⟨fg, foff, fvb, rfl, hfB, hfv, fc0, fc1⟩ := hfat i f hf
                have HS : Hid ((∀ (j : Nat) (o : OpD), L[j]? = some o → ¬ Touches o f.k) → S5.read f.k = (f.b, 0)) := fun h => hstay.out i f hf h
                clear hfat hf hstay hfl hl
                have i0 : (0 : Int) ≤ (i : Int) := by omega
                have i1 : (i : Int) < (FL.length : Int) := by omega
                go_wp2_with fail
                go_loopw [11, 12] (fun t j wr => ∃ (k : Nat) (tb : Bool), k ≤ L.length ∧ j = .int .i64 k ∧ t = .bool tb ∧ Met L k f.k tb ∧ Live w wr p S5) (fun _ j _ => L.length - (intOf j).toNat)
                case atStart => exact ⟨0, false, Nat.zero_le _, rfl, rfl, Met.start L f.k, hlive⟩
                case round =>
                  obtain ⟨k, tb, hk, rfl, rfl, hmet, hlive'⟩ := hrel
                  by_cases hkl : k < L.length
                  · obtain ⟨o, ho⟩ : ∃ o, L[k]? = some o := ⟨L[k], by simp [hkl]⟩
                    obtain ⟨g, off, vb, vk, rfl, hgB, _, _, c0, c1, c2, _⟩ := hat k o ho
                    have hce : ∀ g off, g < w.heap.size → wr.cell? ⟨g, off, none⟩ = w.cell? ⟨g, off, none⟩ := fun g off hg => World.cell?_of_block (w := w) (a := ⟨g, off, none⟩) (hlive'.fr.block g hg (fun e => e))
                    have d0 := (hce _ _ hgB).trans c0
                    have d1 := (hce _ _ hgB).trans c1
                    have d2 := (hce _ _ hgB).trans c2
                    have e0 := (hce _ _ hfB).trans fc0
                    have k0 : (0 : Int) ≤ (k : Int) := by omega
                    have k1 : (k : Int) < (L.length : Int) := by omega
                    have HM : Hid (Met L k f.k tb ∧ L[k]? = some o) := ⟨hmet, ho⟩
                    clear hce c0 c1 c2 hat hmet ho hlive
                    have HE : ∀ x : ByteArray, (x.toList == f.name.toList) = decide (x.data.toList = f.k) := fun x => toList_beq x f.name
                    cases tb
                    · by_cases hA : o.a.data.toList = f.k
                      · have tA : (o.a.toList == f.name.toList) = true := by rw [HE]; simpa using hA
                        have HA : Hid (Touches o f.k) := Or.inl hA
                        clear HE hA
                        go_wp2_with fail
                        go_quiet (fail)
                        go_wp2
                        go_roundw
                        case rel => exact ⟨k + 1, true, by omega, by go_num, rfl, HM.out.1.step HM.out.2 (⟨fun _ => Or.inr HA.out, fun _ => rfl⟩), hlive'.fresh (Fr.drewN _ _)⟩
                        case measure => simp [intOf]; omega
                      · have tA : (o.a.toList == f.name.toList) = false := by rw [HE]; simpa using hA
                        by_cases h2 : o.what = 2
                        · have t2 : (o.what == 2) = true := by simpa using h2
                          by_cases hT : o.to.data.toList = f.k
                          · have tT : (o.to.toList == f.name.toList) = true := by rw [HE]; simpa using hT
                            have HA : Hid (Touches o f.k) := Or.inr ⟨h2, hT⟩
                            clear HE hA h2 hT
                            go_wp2_with fail
                            go_quiet (fail)
                            go_wp2
                            go_roundw
                            case rel => exact ⟨k + 1, true, by omega, by go_num, rfl, HM.out.1.step HM.out.2 (⟨fun _ => Or.inr HA.out, fun _ => rfl⟩), hlive'.fresh (Fr.drewN _ _)⟩
                            case measure => simp [intOf]; omega
                          · have tT : (o.to.toList == f.name.toList) = false := by rw [HE]; simpa using hT
                            have HA : Hid (¬ Touches o f.k) := fun h => by
                              rcases h with h | h
                              · exact hA h
                              · exact hT h.2
                            clear HE hA h2 hT
                            go_wp2_with fail
                            go_quiet (fail)
                            go_wp2
                            go_roundw
                            case rel => exact ⟨k + 1, false, by omega, by go_num, rfl, HM.out.1.step HM.out.2 (⟨(fun e => by cases e), (fun h => by rcases h with h | h; cases h; exact absurd h HA.out)⟩), hlive'.fresh (Fr.drewN _ _)⟩
                            case measure => simp [intOf]; omega
                        · have t2 : (o.what == 2) = false := by simpa using h2
                          have HA : Hid (¬ Touches o f.k) := fun h => by
                            rcases h with h | h
                            · exact hA h
                            · exact h2 h.1
                          clear HE hA h2
                          go_wp2_with fail
                          go_quiet (fail)
                          go_wp2
                          go_roundw
                          case rel => exact ⟨k + 1, false, by omega, by go_num, rfl, HM.out.1.step HM.out.2 (⟨(fun e => by cases e), (fun h => by rcases h with h | h; cases h; exact absurd h HA.out)⟩), hlive'.fresh (Fr.drewN _ _)⟩
                          case measure => simp [intOf]; omega
                    · clear HE
                      go_wp2_with fail
                      go_quiet (fail)
                      go_wp2
                      go_roundw
                      case rel => exact ⟨k + 1, true, by omega, by go_num, rfl, HM.out.1.step HM.out.2 (⟨fun _ => Or.inl rfl, fun _ => rfl⟩), hlive'.fresh (Fr.drewN _ _)⟩
                      case measure => simp [intOf]; omega
                  · have hkL : k = L.length := by omega
                    subst hkL
                    clear hat hlive hk hkl
                    cases tb
                    · have hrd := HS.out hmet.none
                      have hfn := hfv.2.2
                      have hce : ∀ wx off, Fr None' w wx → wx.cell? ⟨fg, off, none⟩ = w.cell? ⟨fg, off, none⟩ := fun wx off hf => World.cell?_of_block (w := w) (a := ⟨fg, off, none⟩) (hf.block fg hfB (fun e => e))
                      have e0 := (hce wr _ hlive'.fr).trans fc0
                      obtain ⟨sb, cb, rfl⟩ := bytes_slice hfv.1
                      go_wp2_with fail
                      refine (live_read hlive' f.name hfn (hlive'.used i5 (by omega))).mono ?_
                      rintro e w7 ⟨v, rfl, X, L7, G7⟩
                      rw [show S5.read f.name.data.toList = (f.b, 0) from hrd] at X ⊢
                      have s1 : ∀ n, (convert 33 9 v).run Try.prog (w7.drewN n) = .ok (.string ⟨f.b.toArray⟩) (w7.drewN n) := fun n => str_any (X.kept (Fr.drewN w7 n) (fun _ _ _ _ _ e => e))
                      have s2 : ∀ n, (convert 33 9 (.slice sb f.b.length cb)).run Try.prog (w7.drewN n) = .ok (.string ⟨f.b.toArray⟩) (w7.drewN n) := fun n => str_any (hfv.1.kept (L7.fr.then (Fr.drewN w7 n)) (fun _ _ _ _ _ e => e))
                      have e1 := (hce w7 _ L7.fr).trans fc1
                      clear hce hrd X G7 hlive' hmet HS e0 fc0 fc1 hfv
                      go_wp2_with fail
                      go_quiet (fail)
                      go_wp2
                      go_roundw
                      case rel => exact ⟨i + 1, by omega, by go_num, L7.fresh (Fr.drewN _ _)⟩
                      case measure => simp [intOf]; omega
                    · go_wp2
                      go_roundw
                      case rel => exact ⟨i + 1, by omega, by go_num, hlive'⟩
                      case measure => simp [intOf]; omega
              · have hiL : i = FL.length := by omega
                subst hiL
                clear hat hfat hfl hl hstay hlt hi
                go_wp2
                go_ret
                exact ⟨rfl, hlive.fr⟩
      · clear hg
        go_wp2
        go_ret
        exact ⟨rfl, L1.fr.then F4⟩
    · go_wp2
      go_ret
      exact ⟨rfl, L0'.fr.then F3⟩

end Go.Proofs.Ytijcddgiaegoiaa
