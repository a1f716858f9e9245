/-
  What is proved here: DiskFuse answers true, whatever its fuse, its calls and what it keeps. Condition: what came in lies in memory, and is no greater than the reach.
-/
import Derived.Test.YtijcddgiaegoiaaInv
namespace Go.Proofs.Ytijcddgiaegoiaa
open Go.RowKit Go.Maps Go.WideMaps
set_option maxRecDepth 100000

theorem live_does {w wi : World} {p k : Nat} {S : St} (h : Live w wi p S) (hi : Inv k S) (hk : k ≤ 1000) (o : OpD) (vb vk : Value) (ho : OpVal wi w.heap.size o vb vk) (hb : o.b.length < 200000) :
    Calls Try.prog 14 #[.pointer (some ⟨p, 0, none⟩), .agg #[.int .i64 o.what, .string o.a, .string o.to, vb, .int .i64 o.n, vk]] wi fun e w' => ∃ v, e = .returned (.int .i64 (S.does o v).1) ∧ Live w w' p (S.does o v).2 := by
  obtain ⟨M, h1, h2, h3⟩ := h
  refine (does_any p w.heap.size M S o vb vk wi h1 (hi.fine hk) h3 ho (h1.used hi hk) (by omega)).mono ?_
  rintro e w' ⟨v, e1, hst⟩
  exact ⟨v, e1, Live.step h2 h3 hst⟩

theorem live_fuse {w wi : World} {p : Nat} {S : St} (h : Live w wi p S) (n : Int) :
    Calls Try.prog 27 #[.pointer (some ⟨p, 0, none⟩), .int .i64 n] wi fun e w' => e = .returned (.tuple #[]) ∧ Live w w' p (S.fused n) := by
  obtain ⟨M, h1, h2, h3⟩ := h
  exact (fuse_any p M S n wi h1).mono fun _ _ ⟨e1, hst⟩ => ⟨e1, Live.step h2 h3 hst⟩

theorem live_down {w wi : World} {p : Nat} {S : St} (h : Live w wi p S) : Calls Try.prog 21 #[.pointer (some ⟨p, 0, none⟩)] wi fun e w' => e = .returned (.bool S.down) ∧ wi = w' := by
  obtain ⟨M, h1, h2, h3⟩ := h
  exact down_any p M S wi h1

theorem Live.fr {w wi : World} {p : Nat} {S : St} (h : Live w wi p S) : Fr None' w wi := by
  obtain ⟨_, _, h2, _⟩ := h
  exact h2

theorem Live.lower {w w1 wi : World} {p : Nat} {S : St} (hf : Fr None' w w1) (h : Live w1 wi p S) : Live w wi p S := by
  obtain ⟨M, h1, h2, h3⟩ := h
  exact ⟨M, h1, hf.then h2, fun k hk => Nat.le_trans hf.size (h3 k hk)⟩

theorem fused_eq (room : Int) (n : Nat) : (St.new room).fused n = { St.new room with fuse := (n : Int) } := by
  unfold St.fused
  rw [show max (n : Int) (-1) = n by omega]

theorem inv_fused (room : Int) (n : Nat) (hn : n ≤ 255) : Inv 0 ((St.new room).fused n) ∧ Fused n ((St.new room).fused n) := by
  rw [fused_eq]
  refine ⟨⟨by simp [St.new], by simp [St.new], by simp; omega, by simp [St.new], fun t ht => by simp [St.new] at ht, fun t ht => by simp [St.new] at ht, fun c hc => by simp [St.new] at hc⟩, ⟨by simp [St.new], by simp, fun e => by simp [St.new] at e⟩⟩

set_option maxHeartbeats 8000000 in
theorem fuse_walk (n : Nat) (vl vk : Value) (L : List OpD) (keep : List Bool) (w : World) (hn : n ≤ 255) (hl : OpsAt w w.heap.size vl L) (hL : L.length ≤ reachBytes) (hkp : Bools w vk keep) (hlk : LowN w.heap.size vk) :
    Calls Try.prog 7 #[.int .u8 n, vl, vk] w fun e w' => e = .returned (.bool true) ∧ Fr None' w w' := by
  obtain ⟨va, vc, rfl, hat⟩ := hl.shape
  obtain ⟨ka, kc, rfl⟩ := bools_slice hkp
  have hn0 : (0 : Int) ≤ n := by omega
  have hn1 : (n : Int) ≤ 255 := by omega
  go_enter Try.func7, Try.ntmps7
  go_wp2_with fail
  refine (head_any w).mono ?_
  rintro e w1 ⟨rfl, F1⟩
  go_wp2_with fail
  refine (live_new 1048576 w1).mono ?_
  rintro e w2 ⟨p, rfl, L0⟩
  go_wp2_with fail
  have hG := great_any w.heap.size _ L w2 (hl.kept (F1.then L0.fr) (fun _ e => e.elim) (Nat.le_refl _)) hL
  refine hG.mono ?_
  rintro e w3 ⟨g, rfl, F3, hg⟩
  clear hG hL
  cases g
  · obtain ⟨hl3, hbs⟩ := hg rfl
    have L1 := (L0.lower F1).fresh F3
    clear hg
    go_wp2_with fail
    refine (live_fuse L1 n).mono ?_
    rintro e w4 ⟨rfl, L2⟩
    obtain ⟨i2, u2⟩ := inv_fused 1048576 n hn
    generalize (St.new 1048576).fused n = S0 at L2 i2 u2
    clear L0 L1 F1 F3
    go_wp2_with fail
    go_loopw [9] (fun i wr => ∃ (k : Nat) (S : St), k ≤ L.length ∧ i = .int .i64 k ∧ Live w wr p S ∧ Inv k S ∧ Fused n S) (fun i _ => L.length - (intOf i).toNat)
    case atStart => exact ⟨0, S0, Nat.zero_le _, rfl, L2, i2, u2⟩
    case round =>
      obtain ⟨k, S, hk, rfl, hlive, hinv, hfus⟩ := hrel
      clear L2 i2 u2
      by_cases hlt : k < L.length
      · obtain ⟨o, ho⟩ : ∃ o, L[k]? = some o := ⟨L[k], by simp [hlt]⟩
        obtain ⟨g, off, vb, vk, rfl, hgB, hov, hkl, c0, c1, c2, c3, c4, c5⟩ := hat k o ho
        have hob := (hbs o (List.mem_of_getElem? ho)).1
        have ho' := hov.kept hlive.fr (fun _ e => e.elim)
        have hce : ∀ off, wr.cell? ⟨g, off, none⟩ = w.cell? ⟨g, off, none⟩ := fun off => World.cell?_of_block (w := w) (a := ⟨g, off, none⟩) (hlive.fr.block g hgB (fun e => e))
        have d0 := (hce _).trans c0
        have d1 := (hce _).trans c1
        have d2 := (hce _).trans c2
        have d3 := (hce _).trans c3
        have d4 := (hce _).trans c4
        have d5 := (hce _).trans c5
        have hon := hov.2.2.2.2.2.2.2.1
        obtain ⟨sb, cb, rfl⟩ := bytes_slice hov.1
        obtain ⟨sk, ck, rfl⟩ := bools_slice hov.2.1
        have i0 : (0 : Int) ≤ (k : Int) := by omega
        have i1 : (k : Int) < (L.length : Int) := by omega
        clear hat hce c0 c1 c2 c3 c4 c5 hov hkl hl hlk hbs ho
        by_cases hw5 : o.what < 5
        · go_wp2_with fail
          refine (live_does hlive hinv (by omega) o _ _ ho' hob).mono ?_
          rintro e w5 ⟨v, rfl, L5⟩
          have i5 := hinv.does o v hon
          have u5 := hfus.does o v hw5
          generalize (S.does o v).2 = S5 at L5 i5 u5
          clear d0 d1 d2 d3 d4 d5 ho' hlive hinv hfus
          have ha : S5.acts ≤ n := by have := u5.sum; have := u5.f0; omega
          have hup := u5.dn
          have hsum := u5.sum
          go_wp2_with fail
          refine (live_acts L5).mono ?_
          rintro e w6 ⟨rfl, rfl⟩
          cases hd : S5.down
          · go_wp2_with fail
            refine (live_down L5).mono ?_
            rintro e w7 ⟨rfl, rfl⟩
            rw [hd]
            go_wp2
            go_roundw
            case rel => exact ⟨k + 1, S5, by omega, by go_num, L5, i5, u5⟩
            case measure => simp [intOf]; omega
          · have hz := hup hd
            have hacts : S5.acts = n := by omega
            go_wp2_with fail
            refine (live_down L5).mono ?_
            rintro e w7 ⟨rfl, rfl⟩
            rw [hd]
            go_wp2_with fail
            refine (live_acts L5).mono ?_
            rintro e w8 ⟨rfl, rfl⟩
            have HF : Hid (Fused n S5) := u5
            clear hz hup hsum
            go_wp2
            go_roundw
            case rel => exact ⟨k + 1, S5, by omega, by go_num, L5, i5, HF.out⟩
            case measure => simp [intOf]; omega
        · have i5 := hinv.more (Nat.le_succ k)
          clear d1 d2 d3 d4 d5 ho' hinv
          have ha : S.acts ≤ n := by have := hfus.sum; have := hfus.f0; omega
          have hup := hfus.dn
          have hsum := hfus.sum
          go_wp2_with fail
          refine (live_acts hlive).mono ?_
          rintro e w6 ⟨rfl, rfl⟩
          cases hd : S.down
          · go_wp2_with fail
            refine (live_down hlive).mono ?_
            rintro e w7 ⟨rfl, rfl⟩
            rw [hd]
            go_wp2
            go_roundw
            case rel => exact ⟨k + 1, S, by omega, by go_num, hlive, i5, hfus⟩
            case measure => simp [intOf]; omega
          · have hz := hup hd
            have hacts : S.acts = n := by omega
            go_wp2_with fail
            refine (live_down hlive).mono ?_
            rintro e w7 ⟨rfl, rfl⟩
            rw [hd]
            go_wp2_with fail
            refine (live_acts hlive).mono ?_
            rintro e w8 ⟨rfl, rfl⟩
            have HF : Hid (Fused n S) := hfus
            clear hz hup hsum
            go_wp2
            go_roundw
            case rel => exact ⟨k + 1, S, by omega, by go_num, hlive, i5, HF.out⟩
            case measure => simp [intOf]; omega
      · have hkL : k = L.length := by omega
        subst hkL
        clear hat
        go_wp2_with fail
        refine (live_crash hlive (Fr.refl _ _) (hinv.fine (by omega)) _ keep (hkp.kept hlive.fr (fun _ _ _ _ _ e => e)) (fun ad n' c e h0 => Or.inl (hlk ad n' c e h0))).mono ?_
        rintro e w5 ⟨rfl, L5⟩
        have e1 : (S.crash keep).down = false := rfl
        have e2 : (S.crash keep).sync.1 = 0 := rfl
        have e3 : (S.crash keep).sync.2.ch.length = 0 := rfl
        have i5 : Inv (L.length + 1) (S.crash keep) := ⟨hinv.a0, by have := hinv.a1; simp [St.crash]; omega, by simp [St.crash], by have := hinv.nc; simp [St.crash]; omega, small_rep hinv.sY hinv.sC _, small_rep hinv.sY hinv.sC _, fun c hc => by simp [St.crash] at hc⟩
        go_wp2_with fail
        refine (live_down L5).mono ?_
        rintro e w6 ⟨rfl, rfl⟩
        rw [e1]
        go_wp2_with fail
        refine (live_sync L5 (i5.fine (by omega))).mono ?_
        rintro e w7 ⟨rfl, L7⟩
        rw [e2]
        go_wp2_with fail
        refine (live_loose L7).mono ?_
        rintro e w8 ⟨rfl, rfl⟩
        rw [e3]
        clear e1 e2 e3
        go_wp2
        go_ret
        exact ⟨rfl, L7.fr⟩
  · clear hg
    go_wp2
    go_ret
    exact ⟨rfl, (fin F1 L0).then F3⟩

end Go.Proofs.Ytijcddgiaegoiaa
