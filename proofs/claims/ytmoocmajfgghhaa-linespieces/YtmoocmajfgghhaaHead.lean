/-
  What is proved here: what head of the statements answers. No condition.
-/
import Derived.Test.YtmoocmajfgghhaaSplit
import Derived.Test.YtmoocmajfgghhaaRightP
import Derived.Test.YtmoocmajfgghhaaGreat
namespace Go.Proofs.Ytmoocmajfgghhaa
open Go.RowKit Go.Shelf
set_option maxRecDepth 100000

theorem split_at (s : ByteArray) (b : Bool) (L : List ByteArray) (n : Nat) (hb : text s.data.toList = b) (hL : (if b then lns s.data.toList else []) = bs L) (hn : L.length = n) (hs : (s.size : Int) < 1000000000) (w : World) :
    Calls Try.prog 11 #[.string s] w fun e w' => ∃ va ca, e = .returned (.tuple #[.slice va n ca, .bool b]) ∧ Row w' va L ∧ Fr None' w w' :=
  (split_any s w hs).mono fun e w' ⟨v, he, m⟩ => by
    obtain ⟨⟨l, h1, va, ca, h2, _, h3⟩, f⟩ := m
    rw [hb, hL] at h1
    have e1 := bs_inj h1
    subst e1 h2
    exact ⟨va, ca, by rw [he, hb, hn], h3, f⟩

theorem tokens_at (s : ByteArray) (L : List ByteArray) (n : Nat) (hL : pieces s.data.toList = bs L) (hn : L.length = n) (hs : (s.size : Int) < 1000000000) (w : World) :
    Calls Try.prog 18 #[.string s] w fun e w' => ∃ va ca, e = .returned (.slice va n ca) ∧ Row w' va L ∧ Fr None' w w' :=
  (tokens_any s w hs).mono fun e w' ⟨v, he, m⟩ => by
    obtain ⟨⟨l, h1, va, ca, h2, _, h3⟩, f⟩ := m
    rw [hL] at h1
    have e1 := bs_inj h1
    subst e1 h2
    exact ⟨va, ca, by rw [he, hn], h3, f⟩

theorem head_pieces : pieces [120, 49, 43, 61, 121] = [[120, 49], [43, 61], [121]] :=
  pieces_of (l := [[120, 49], [43, 61], [121]]) ⟨⟨by decide, by decide⟩, by decide, ⟨by decide, by decide⟩, by decide, ⟨by decide, by decide⟩⟩

theorem head_replace : replace [120, 49, 43, 61, 121, 32, 120] [120, 49] [122] = [122, 43, 61, 121, 32, 120] := by
  have h : pieces [120, 49, 43, 61, 121, 32, 120] = [[120, 49], [43, 61], [121], [32], [120]] :=
    pieces_of (l := [[120, 49], [43, 61], [121], [32], [120]]) ⟨⟨by decide, by decide⟩, by decide, ⟨by decide, by decide⟩, by decide, ⟨by decide, by decide⟩, by decide, ⟨by decide, by decide⟩, by decide, ⟨by decide, by decide⟩⟩
  rw [replace, h]
  decide

set_option maxHeartbeats 2000000 in
theorem head_any (w : World) : Calls Try.prog 9 #[] w fun e w' => e = .returned (.bool true) ∧ Fr None' w w' := by
  have q1 := split_at ⟨#[97, 10, 10, 98, 10]⟩ true [⟨#[97]⟩, ⟨#[]⟩, ⟨#[98]⟩] 3 (by decide) (by decide) rfl (by decide) w
  have q2 := split_at ⟨#[97]⟩ false [] 0 (by decide) (by decide) rfl (by decide)
  have q3 := tokens_at ⟨#[120, 49, 43, 61, 121]⟩ [⟨#[120, 49]⟩, ⟨#[43, 61]⟩, ⟨#[121]⟩] 3 head_pieces rfl (by decide)
  have q4 : ∀ v, Calls Try.prog 22 #[.string ⟨#[120, 49, 43, 61, 121, 32, 120]⟩, .string ⟨#[120, 49]⟩, .string ⟨#[122]⟩] v fun e w' => e = .returned (.string ⟨#[122, 43, 61, 121, 32, 120]⟩) ∧ Fr None' v w' := fun v => by
    have := replace_any ⟨#[120, 49, 43, 61, 121, 32, 120]⟩ ⟨#[120, 49]⟩ ⟨#[122]⟩ v (by decide) (by decide) (by decide)
    rw [show (⟨#[120, 49, 43, 61, 121, 32, 120]⟩ : ByteArray).data.toList = [120, 49, 43, 61, 121, 32, 120] from rfl, show (⟨#[120, 49]⟩ : ByteArray).data.toList = [120, 49] from rfl, show (⟨#[122]⟩ : ByteArray).data.toList = [122] from rfl, head_replace] at this
    exact this
  have q5 : ∀ v, Calls Try.prog 20 #[.string ⟨#[97, 95, 57]⟩] v fun e w' => e = .returned (.bool true) ∧ Fr None' v w' := fun v => token_any ⟨#[97, 95, 57]⟩ v (by decide)
  have q6 : ∀ v, Calls Try.prog 20 #[.string ⟨#[]⟩] v fun e w' => e = .returned (.bool false) ∧ Fr None' v w' := fun v => token_any ⟨#[]⟩ v (by decide)
  go_enter Try.func9, Try.ntmps9
  go_wp2_with fail
  refine q1.mono ?_
  rintro e w1 ⟨va, ca, rfl, r1, f1⟩
  clear q1
  go_wp2_with fail
  refine (q2 _).mono ?_
  rintro e w2 ⟨vb, cb, rfl, r2, f2⟩
  clear q2 r2
  go_wp2_with fail
  refine (q3 _).mono ?_
  rintro e w3 ⟨vc, cc, rfl, r3, f3⟩
  clear q3
  have r1' := r1.fr (f2.then f3)
  obtain ⟨ga, oa, rfl, c1⟩ := r1'.get (k := 1) (by decide)
  obtain ⟨gc, oc, rfl, c2⟩ := r3.get (k := 1) (by decide)
  have q7 : Calls Try.prog 14 #[.slice (some ⟨ga, oa, none⟩) 3 ca] w3 fun e w' => e = .returned (.string ⟨#[97, 10, 10, 98, 10]⟩) ∧ Fr None' w3 w' := join_any (some ⟨ga, oa, none⟩) ca [⟨#[97]⟩, ⟨#[]⟩, ⟨#[98]⟩] w3 r1' (by decide) (by decide)
  have c1' : w3.cell? ⟨ga, oa + 1, none⟩ = some (.string ⟨#[]⟩) := c1
  have c2' : ∀ {v}, Fr None' w3 v → v.cell? ⟨gc, oc + 1, none⟩ = some (.string ⟨#[43, 61]⟩) := fun f => f.cell c2 id
  have f03 := (f1.then f2).then f3
  clear c1 c2 r1 r1' r3 f1 f2 f3
  go_wp2_with fail
  refine q7.mono ?_
  rintro e w4 ⟨rfl, f4⟩
  have c2 := c2' f4
  clear q7 c1' c2'
  go_wp2_with fail
  refine (q4 _).mono ?_
  rintro e w5 ⟨rfl, f5⟩
  clear c2
  go_wp2_with fail
  refine (q5 _).mono ?_
  rintro e w6 ⟨rfl, f6⟩
  go_wp2_with fail
  refine (q6 _).mono ?_
  rintro e w7 ⟨rfl, f7⟩
  go_wp2_with fail
  go_ret
  exact ⟨rfl, (((f03.then f4).then f5).then f6).then f7⟩

end Go.Proofs.Ytmoocmajfgghhaa
