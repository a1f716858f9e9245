/-
  What is proved here: which pieces the program's own iterator gives, one by one, for whatever a loop does with them; and what Tokens answers. The text is shorter than 1000000000 bytes.
-/
import Derived.Test.YtmoocmajfgghhaaRange
import Derived.Test.YtmoocmajfgghhaaRDoc
import Derived.Test.YtmoocmajfgghhaaLay
import Derived.Shelf.Abstract
import Derived.Shelf.RegionOpen
import Derived.WalkKit
import Derived.OwnWalkIn
import Derived.TacticsInMore
import Derived.LoopNIn
import Derived.LoopIn
namespace Go.Proofs.Ytmoocmajfgghhaa
open Go.RowKit Go.Shelf
set_option maxRecDepth 100000
attribute [local go_sem] Oper.semAt_some

set_option maxHeartbeats 1000000 in
theorem pieces_any (s : ByteArray) (w : World) : Calls Try.prog 33 #[.string s] w fun e w' => e = .returned (.func (.func 45) #[] #[.pointer (some ⟨w.heap.size, 0, none⟩)]) ∧ w' = w.alloc (.cells #[.string s] 9) := by
  go_enter Try.func33, Try.ntmps33
  go_wp2_with fail
  go_ret
  exact ⟨rfl, rfl⟩

def sizeV (v : Value) : Nat := match v with | .string s => s.size | _ => 0

theorem cut_pieces {r : ByteArray} (h0 : 0 < r.size) {pre : List ByteArray} {p : Bs} (e : bs pre ++ pieces r.data.toList = pieces p) :
    0 < firstLen r.data.toList ∧ firstLen r.data.toList ≤ r.size ∧ bs (pre ++ [r.extract 0 (firstLen r.data.toList)]) ++ pieces (r.extract (firstLen r.data.toList) r.size).data.toList = pieces p := by
  have hne : r.data.toList ≠ [] := fun e => by have := len_eq r; rw [e] at this; simp at this; omega
  have h1 := firstLen_le r.data.toList
  rw [len_eq] at h1
  refine ⟨firstLen_pos hne, h1, ?_⟩
  rw [← e, pieces_cut hne, bs_append, List.append_assoc, show bs [r.extract 0 (firstLen r.data.toList)] = [(r.extract 0 (firstLen r.data.toList)).data.toList] from rfl, seg_list, seg_list]
  rw [List.drop_zero, Nat.sub_zero, List.take_of_length_le (l := r.data.toList.drop (firstLen r.data.toList)) (by rw [List.length_drop, len_eq]; omega)]
  rfl

set_option maxHeartbeats 2000000 in
theorem pieces_seq (p : ByteArray) (b n : Nat) (hp : (p.size : Int) < 1000000000) : SeqM (α := ByteArray) Fence.wide n Try.prog 45 #[.pointer (some ⟨b, 0, none⟩)] (fun x => #[.string x]) None' (fun _ _ => True)
    (fun xs => bs xs = pieces p.data.toList) (fun pre => ∃ t, bs pre ++ t = pieces p.data.toList) (fun W => W.cell? ⟨b, 0, none⟩ = some (.string p)) := fun l J Jx W hB hJ hJx hY h0 => by
  refine callsIn_of_wp Try.func45 rfl trivial ?_ rfl
  simp only [Try.ntmps45, List.size_toArray, List.length_cons, List.length_nil, Nat.reduceAdd, Nat.reduceSub, Array.replicate_succ, Array.replicate_zero, List.push_toArray, List.append_toArray, List.nil_append, List.cons_append]
  gi_wp2
  clear hB
  gi_loopw [3] (fun v wr => ∃ (pre : List ByteArray) (r : ByteArray), v = .string r ∧ (r.size : Int) < 1000000000 ∧ Hid (bs pre ++ pieces r.data.toList = pieces p.data.toList) ∧ Hid (J pre wr)) (fun v _ => sizeV v)
  case atStart => exact ⟨[], p, rfl, hp, rfl, h0⟩
  case round =>
    clear h0 hp
    obtain ⟨pre, r, rfl, hr, HP, HJ⟩ := hrel
    by_cases h0 : 0 < r.size
    · have hne : ¬ r.data.toList = [] := fun e => by have := len_eq r; rw [e] at this; simp at this; omega
      obtain ⟨q1, q2⟩ := asks_no hne
      have q3 : ¬ r = ByteArray.empty := fun e => by rw [e] at hne; exact hne rfl
      obtain ⟨m1, m2, m3⟩ := cut_pieces h0 HP.out
      have cF := first_any r wr h0 hr
      generalize firstLen r.data.toList = m at m1 m2 m3 cF
      have HM : Hid _ := m3
      clear hne m3 HP
      gi_wp2_with fail
      refine ⟨trivial, (fun h => by cases h), (callsIn_wide.2 cF).mono ?_⟩
      rintro e w1 ⟨rfl, f1⟩
      have hJ1 := hJ pre wr w1 HJ.out f1
      obtain ⟨fn, tmps, assign, body, hy, hR⟩ := hY pre (r.extract 0 m) w1 hJ1 ⟨_, HM.out⟩
      clear cF hY HJ f1 hJ1 q1 q2 q3
      gi_wp2_with fail
      refine ⟨(fun h => by cases h), hR.mono ?_⟩
      clear hy hR
      rintro e W' (⟨rfl, hJ', _⟩ | ⟨rfl, hJx'⟩)
      · have HJ' : Hid _ := hJ'
        clear hJ'
        gi_wp2_with fail
        go_roundw
        case rel => exact ⟨_, _, rfl, by simp; omega, HM.out, HJ'.out⟩
        case measure => simp [sizeV]; omega
      · gi_wp2_with fail
        refine bodyPost_ret (results_none rfl _ _ _) rfl ?_
        exact ⟨⟨_, rfl⟩, .inr ⟨_, ⟨_, HM.out⟩, hJx'⟩⟩
    · have he : r.data.toList = [] := List.eq_nil_of_length_eq_zero (by rw [len_eq]; omega)
      have HE : Hid (bs pre = pieces p.data.toList) := by
        have := HP.out
        rw [he, pieces_nil, List.append_nil] at this
        exact this
      obtain rfl : r = ByteArray.empty := str_of he
      clear he hr h0
      gi_wp2
      go_end0
      exact ⟨⟨_, rfl⟩, .inl ⟨pre, HE.out, HJ.out⟩⟩

end Go.Proofs.Ytmoocmajfgghhaa
