/-
  What is proved here: what a write answers on a disk that has power and no fuse; and that calls turn nothing that was there. No condition but those that are named.
-/
import Derived.Test.YthnneejkbobbcaaHead
namespace Go.Proofs.Ythnneejkbobbcaa
open Go.RowKit Go.Maps Go.WideMaps
set_option maxRecDepth 100000

theorem write_eq (S : St) (t : Tri) (hd : S.down = false) (hf : S.fuse = -1) (hk : right t.k = true) (hb : t.b.length ≤ 65536) (hF : S.F.length < 512) :
    S.write t = if S.room < (used S.F : Int) - lenAt S.F t.k + t.b.length then (11, S) else (0, S.did (Ch.wr t)) := by
  have ea : S.asked = S := by cases S; simp_all [St.asked]
  unfold St.write
  rw [ea, hd]
  have hr : S.refuse t.k t.b.length = if S.room < (used S.F : Int) - lenAt S.F t.k + t.b.length then 11 else 0 := by
    unfold St.refuse
    rw [if_neg (by simp [hk]), if_neg (by rintro (h | h) <;> omega)]
  rw [hr]
  by_cases h' : S.room < (used S.F : Int) - lenAt S.F t.k + t.b.length
  · simp [h']
  · simp [h']

theorem fin {w w1 w' : World} {p : Nat} {S : St} (h : Fr None' w w1) (hL : Live w1 w' p S) : Fr None' w w' := by
  obtain ⟨_, _, h2, _⟩ := hL
  exact h.then h2

end Go.Proofs.Ythnneejkbobbcaa
